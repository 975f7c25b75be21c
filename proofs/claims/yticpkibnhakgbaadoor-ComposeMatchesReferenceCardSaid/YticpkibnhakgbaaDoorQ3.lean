/-
  A part of the proof: what pieces of the program give; conditions: those of each theorem.
-/
import Derived.Test.YticpkibnhakgbaaDoorQ2
import Derived.Test.YticpkibnhakgbaaDoorHD
set_option linter.unusedVariables false
set_option linter.unusedSimpArgs false
namespace Go.Proofs.YticpkibnhakgbaaDoor
open Go.Px Go.Ax
set_option maxRecDepth 100000
attribute [local irreducible] Go.Px.sy Go.Px.syE
theorem q50 {k:Int} (hk:kOK k):gt (iI.pair iI) costsL k.toNat=(hdC k,eaC k):=by
 rcases (show k=1\/k=2\/k=3\/k=4 by unfold kOK at hk;omega) with e | e | e | e <;> subst e <;> rfl
theorem q6e (k:Int) (l:List SyT) (c o gk gn gc go:Int) (hp:q4p k l (gk,gn,gc,go)) (hb:boB (c,o) (gk,gn,gc,go)) (R:List Item->PS->Prop):sy tt G0 CBe Tryd.f64.ntmps Tryd.f64.results.toList (QC ctBg (k,l,(c,o),(gk,gn,gc,go),())) R 1000 [.code (qae Tryd.f64)] (entry [iI,.sl syS,suS,liS] (k,l,(c,o),(gk,gn,gc,go),())):=by
 refine (q7m k l (c,o) (gk,gn,gc,go) _ _).mpr ?_;have out:∀ a b d e,begL k l (c,o) (gk,gn,gc,go)=(a,b,d,e)->ctBg.out (k,l,(c,o),(gk,gn,gc,go),())=[SV.agg [.int .i64 a,.int .i64 b,.int .i64 d,.int .i64 e]]:=fun a b d e q=>congrArg (fun x:LiT=>[SV.agg [.int .i64 x.1,.int .i64 x.2.1,.int .i64 x.2.2.1,.int .i64 x.2.2.2]]) q
 obtain ⟨hk,h1,h2⟩:=hp;obtain ⟨⟨b1,b2,b3,b4⟩,b5,b6,b7,b8⟩:=hb;simp only at b1 b2 b3 b4 b5 b6 b7 b8 h2;have hh:=q5k k;have he:=q8y k;have hk':0<=k/\k<5:=by unfold kOK at hk;omega
 rw[q50 hk];simp only;have w1:IntKind.i64.wrap (c+hdC k)=c+hdC k:=IntWalk.i64_in _ (by omega);have w2:IntKind.i64.wrap (c+hdC k+eaC k)=c+hdC k+eaC k:=IntWalk.i64_in _ (by omega);have w3:IntKind.i64.wrap (o+1)=o+1:=IntWalk.i64_in _ (by omega);have w4:IntKind.i64.wrap (gn+1)=gn+1:=IntWalk.i64_in _ (by omega);have w5:IntKind.i64.wrap (gc+eaC k)=gc+eaC k:=IntWalk.i64_in _ (by omega);rw[w1,w2,w3,w4,w5];refine ⟨by omega,by omega,trivial,qaf (fun h=>?_) (fun h=>⟨hk'.1,hk'.2,qaf (fun h3=>⟨by trivial,?_⟩) (fun h3=>⟨by omega,by omega,by omega,?_,trivial,qaf (fun h4=>?_) (fun h4=>⟨trivial,qaf (fun h5=>?_) (fun h5=>?_)⟩)⟩)⟩)⟩
 ·have h:canB k (gtY l 0)=false:=by simpa using h
  exact QC.flat (out _ _ _ _ (by unfold begL begF;rw[if_pos h];rfl)) rfl rfl
 ·have h:¬ canB k (gtY l 0)=false:=by
   have:(!canB k (gtY l 0))=false:=h;simpa using this
  have h3:gn=0:=of_decide_eq_true h3;exact QC.flat (out _ _ _ _ (by unfold begL begF;rw[if_neg h,if_pos (.inl h3)];rfl)) rfl rfl
 ·have h3:¬ gn=0:=of_decide_eq_false h3;omega
 ·have h:¬ canB k (gtY l 0)=false:=by
   have:(!canB k (gtY l 0))=false:=h;simpa using this
  have h4:(!goK k (gtY l 0) (gtY l 1))=true:=h4;have h4:goK k (gtY l 0) (gtY l 1)=false:=by simpa using h4
  exact QC.flat (out _ _ _ _ (by unfold begL begF;rw[if_neg h,if_pos (.inr h4)];rfl)) rfl rfl
 ·have h:¬ canB k (gtY l 0)=false:=by
   have:(!canB k (gtY l 0))=false:=h;simpa using this
  have h3:¬ gn=0:=of_decide_eq_false h3;have h4:(!goK k (gtY l 0) (gtY l 1))=false:=h4;have h4:goK k (gtY l 0) (gtY l 1)=true:=by simpa using h4
  have hz:¬ ((gk,gn,gc,go).2.1=0\/goK k (gtY l 0) (gtY l 1)=false):=by
   rw[h4];intro q;rcases q with q | q
   ·exact h3 q
   ·cases q
  have h5:betB (oneF k (c,o)) (qku k (gk,gn,gc,go))=true:=h5;exact QC.flat (out _ _ _ _ (by unfold begL begF;rw[if_neg h,if_neg hz,if_pos h5];rfl)) rfl rfl
 ·have h:¬ canB k (gtY l 0)=false:=by
   have:(!canB k (gtY l 0))=false:=h;simpa using this
  have h3:¬ gn=0:=of_decide_eq_false h3;have h4:(!goK k (gtY l 0) (gtY l 1))=false:=h4;have h4:goK k (gtY l 0) (gtY l 1)=true:=by simpa using h4
  have hz:¬ ((gk,gn,gc,go).2.1=0\/goK k (gtY l 0) (gtY l 1)=false):=by
   rw[h4];intro q;rcases q with q | q
   ·exact h3 q
   ·cases q
  have h5:betB (oneF k (c,o)) (qku k (gk,gn,gc,go))=false:=h5;exact QC.flat (out _ _ _ _ (by unfold begL begF;rw[if_neg h,if_neg hz,if_neg (by rw[h5];decide)];rfl)) rfl rfl
theorem q1c:Held Tryd.prog G0 64 ctBg:=Held.run cxBe (fn:=Tryd.f64) rfl rfl ⟨by decide,by decide⟩ fun ⟨k,l,⟨c,o⟩,⟨gk,gn,gc,go⟩,_⟩ hp=>q6e k l c o gk gn gc go hp.1 hp.2 _
theorem q5a (k a:Int) (l:List SyT) (hl:l.length<16777216):∀ (n i:Nat) (b:List Int),l.length-i=n->i<=l.length->b.length=l.length->(∀ j,j<i->b[j]?=(l.map fun s=>s.2.2)[j]?) ->
  GD 60 Tryd.f60 (fun rs _=>rs=[.agg [.int .i64 k,.int .i64 a,.int .i64 l.length,.int .u8 0,.sl uB (l.map fun s=>s.2.2)]]) (hd Tryd.f60 0) ⟨[(4,.ptr 4 0),(5,.ptr 5 0),(31,.sl syS l),(32,.int .i64 l.length),(33,.int .i64 (i:Nat))],[(4,.var [.int .i64 0,.int .i64 0,.int .i64 0,.int .u8 0,.nils]),(5,.var [.int .i64 k,.int .i64 a,.int .i64 l.length,.int .u8 0,.win true uB 29 0 b.length]),(29,.row 5 uB b)]⟩:=by
 intro n
 induction n with
 | zero=>
  intro i b hk hi hb hj;have hi:i=l.length:=by omega
  subst hi;have hbl:b=l.map fun s=>s.2.2:=by
   refine List.ext_getElem? fun j=>?_
   by_cases h:j<l.length
   ·exact hj j h
   ·rw[List.getElem?_eq_none (by omega),List.getElem?_eq_none (by rw[List.length_map];omega)]
  refine Good.frz (i:=29) (e:=uB) (et:=5) (xs:=b) rfl (fun c hc=>?_) ?_
  ·have hc:c∈[0+b.length<=b.length]:=hc;rw[List.mem_singleton] at hc;subst hc;omega
  ·have e:GD 60 Tryd.f60 (fun rs _=>rs=[.agg [.int .i64 k,.int .i64 a,.int .i64 l.length,.int .u8 0,.sl uB (l.map fun s=>s.2.2)]]) (hd Tryd.f60 0) ⟨[(4,.ptr 4 0),(5,.ptr 5 0),(31,.sl syS l),(32,.int .i64 l.length),(33,.int .i64 (l.length:Nat))],[(4,.var [.int .i64 0,.int .i64 0,.int .i64 0,.int .u8 0,.nils]),(5,.var [.int .i64 k,.int .i64 a,.int .i64 l.length,.int .u8 0,.sl uB (winL uB 0 b.length b)])]⟩:=by
    refine qai cx0 (q7d k a (winL uB 0 b.length b) l l.length _ _) ?_;rw[decide_eq_false (by omega),bc_f,winA,hbl]
   exact e.only ⟨rfl,rfl,rfl,rfl,rfl,trivial⟩ ⟨rfl,rfl,trivial⟩
 | succ n ih=>
  intro i b hk hi hb hj;have hil:i<l.length:=by omega
  refine qai cx0 (q7c k a b l i _ _) ?_;rw[decide_eq_true (show (i:Int)<(l.length:Int) by omega),bc_t,Int.toNat_natCast,qbi hil,IntWalk.i64_in ((i:Int)+1) (by omega),Nat.zero_add];refine ⟨by omega,by omega,by omega,by omega,by omega,?_⟩;refine (ih (i+1) (b.set i l[i].2.2) (by omega) (by omega) (by rw[List.length_set];exact hb) (fun j h=>?_)).only ⟨rfl,rfl,rfl,rfl,rfl,trivial⟩ ⟨rfl,?_,rfl,trivial⟩
  ·rw[List.getElem?_set];by_cases hji:i=j
   ·subst hji;rw[if_pos rfl,if_pos (by omega),List.getElem?_map,List.getElem?_eq_getElem hil];rfl
   ·rw[if_neg hji];exact hj j (by omega)
  ·rw[List.length_set];rfl
theorem q8k (k:Int) (l:List SyT) (hp:qtt k l):GD 60 Tryd.f60 (QC ctMk (k,l,())) [.code (qae Tryd.f60)] (entry [iI,.sl syS] (k,l,())):=by
 obtain ⟨hk,h0,h1⟩:=hp;have dat:k=2\/k=4->GD 60 Tryd.f60 (QC ctMk (k,l,())) (hd Tryd.f60 0) ⟨[(4,.ptr 4 0),(5,.ptr 5 0),(31,.sl syS l),(32,.int .i64 l.length),(33,.int .i64 ((0:Nat):Int))],[(4,.var [.int .i64 0,.int .i64 0,.int .i64 0,.int .u8 0,.nils]),(5,.var [.int .i64 k,.int .i64 (gtY l 0).2.1,.int .i64 l.length,.int .u8 0,.win true uB 29 0 (List.replicate (l.length:Int).toNat (0:Int)).length]),(29,.row 5 uB (List.replicate (l.length:Int).toNat (0:Int)))]⟩:=fun hk2=>by
  refine (q5a k (gtY l 0).2.1 l h1 _ 0 (List.replicate (l.length:Int).toNat 0) rfl (by omega) (by rw[List.length_replicate,Int.toNat_natCast]) (fun j h=>by omega)).post fun rs blk hq=>QC.flat ?_ rfl (by rw[hq];rfl)
  rw[hq]
  show mdV (mdK k l)=_
  unfold mdK;rw[if_neg (show ¬ k=3 by omega),if_pos hk2];rfl
 have room:(0:Int)<=(l.length:Int)/\(l.length:Int)<=(l.length:Int)/\(l.length:Int)<(2:Int) ^ (24:Nat)/\((1:Nat):Int)*(l.length:Int)<=(2:Int) ^ (48:Nat):=by
  refine ⟨by omega,by omega,?_,?_⟩
  ·show (l.length:Int)<16777216
   omega
  ·show (1:Int)*(l.length:Int)<=281474976710656
   omega
 refine qai cx0 (vc_mk k l _ _) ⟨by omega,by omega,qaf (fun h=>⟨by omega,by omega,?_⟩) (fun h=>qaf (fun h2=>?_) (fun h2=>qaf (fun h3=>?_) (fun h3=>?_)))⟩
 ·have h:=of_decide_eq_true h;subst h;refine QC.mt ?_ rfl
  show MtL _ (mdV (mdK 3 l)) _
  exact ⟨_,_,rfl,⟨_,rfl,_,_,rfl,rfl,_,_,rfl,rfl,_,_,rfl,rfl,_,_,rfl,rfl,_,_,rfl,.inr ⟨rfl,rfl⟩,rfl⟩,rfl⟩
 ·have h2':=of_decide_eq_true h2;rw[h2,bc_t];refine ⟨room.1,room.2.1,room.2.2.1,room.2.2.2,(dat (.inl h2')).only ⟨rfl,rfl,rfl,rfl,rfl,trivial⟩ ⟨rfl,?_,rfl,trivial⟩⟩;rw[List.length_replicate];rfl
 ·have h3':=of_decide_eq_true h3;refine ⟨room.1,room.2.1,room.2.2.1,room.2.2.2,(dat (.inr h3')).only ⟨rfl,rfl,rfl,rfl,rfl,trivial⟩ ⟨rfl,?_,rfl,trivial⟩⟩;rw[List.length_replicate];rfl
 ·have h:=of_decide_eq_false h;have h2:=of_decide_eq_false h2;have h3:=of_decide_eq_false h3;unfold kOK at hk;have hk1:k=1:=by omega
  subst hk1;refine QC.mt ?_ rfl
  show MtL _ (mdV (mdK 1 l)) _
  exact ⟨_,_,rfl,⟨_,rfl,_,_,rfl,rfl,_,_,rfl,rfl,_,_,rfl,rfl,_,_,rfl,rfl,_,_,rfl,.inr ⟨rfl,rfl⟩,rfl⟩,rfl⟩
theorem q5b:Held Tryd.prog G0 60 ctMk:=Held.of cx0 (fn:=Tryd.f60) rfl rfl ⟨by decide,by decide⟩ fun ⟨k,l,_⟩ hp=>q8k k l hp
end Go.Proofs.YticpkibnhakgbaaDoor
namespace Go.Proofs.YticpkibnhakgbaaDoor
open Go.Px Go.Ax
set_option maxRecDepth 100000
def CBs:CV:=[(64,.inl ctBg),(65,.inl ctBet)]
theorem cxBs:CxOK Tryd.prog tt G0 CBs:=(cx0.cons qsi (fn:=Tryd.f65) rfl rfl rfl).cons q1c (fn:=Tryd.f64) rfl rfl rfl
abbrev gtL (l:List LiT) (i:Nat):LiT:=gt liS l i
set_option maxRecDepth 100000
theorem vc_bs (l:List SyT) (Q:QT) (R:RT):sy tt G0 CBs Tryd.f59.ntmps Tryd.f59.results.toList Q (fun it S=>R it (qao [0,3,4,5,6] [4,10] S)) 1000 [.code (qae Tryd.f59)] (entry [.sl syS] (l,())) =
  ((0:Int)<=IntKind.i64.wrap ((l.length:Int)+1) /\
 IntKind.i64.wrap ((l.length:Int)+1)<=IntKind.i64.wrap ((l.length:Int)+1) /\
 IntKind.i64.wrap ((l.length:Int)+1)<2 ^ 24 /\
 (↑(32:Nat):Int)*IntKind.i64.wrap ((l.length:Int)+1)<=2 ^ 48 /\
 R (hd Tryd.f59 0) { env:=[(0,.sl syS l),(3,.win true liS 10 0 (IntKind.i64.wrap ((l.length:Int)+1)).toNat),(4,.ptr 4 0),(5,.int .i64 (IntKind.i64.wrap ((l.length:Int)-1)))],blk:=[(4,.var [.arr (5:Nat) liS (Sh.arr (5:Nat) liS).dflt]),(10,.row 109 liS (List.replicate (IntKind.i64.wrap ((l.length:Int)+1)).toNat liS.dflt))] }):=by kernel_rfl
theorem q19 (l:List SyT) (b bg:List LiT) (i:Int) (Q:QT) (R:RT):sy tt G0 CBs Tryd.f59.ntmps Tryd.f59.results.toList Q (fun it S=>R it (qao [0,3,4,5,6] [4,10] S)) 1000 (hd Tryd.f59 0) ⟨[(0,.sl syS l),(3,.win true liS 10 0 b.length),(4,.ptr 4 0),(5,.int .i64 i)],[(4,.var [.arr 5 liS bg]),(10,.row 109 liS b)]⟩ =
  (bc (decide ((0:Int)<=i)) (R (hd Tryd.f59 1) { env:=[(0,.sl syS l),(3,.win true liS 10 0 b.length),(4,.ptr 4 0),(5,.int .i64 i),(6,.int .i64 1)],blk:=[(4,.var [.arr (5:Nat) liS bg]),(10,.row 109 liS b)] }) (Q [.win true liS 10 0 b.length] [(4,.var [.arr (5:Nat) liS bg]),(10,.row 109 liS b)])):=by kernel_rfl
theorem q2a (l:List SyT) (b bg:List LiT) (i k:Int) (Q:QT) (R:RT):sy tt G0 CBs Tryd.f59.ntmps Tryd.f59.results.toList Q (fun it S=>R it (qao [0,3,4,5,6] [4,10] S)) 1000 (hd Tryd.f59 1) ⟨[(0,.sl syS l),(3,.win true liS 10 0 b.length),(4,.ptr 4 0),(5,.int .i64 i),(6,.int .i64 k)],[(4,.var [.arr 5 liS bg]),(10,.row 109 liS b)]⟩ =
  (bc (decide (k<=4)) ((0:Int)<=i /\
 i<=(l.length:Int) /\
 (0:Int)<=IntKind.i64.wrap (i+1) /\
 IntKind.i64.wrap (i+1)<(b.length:Int) /\
 0+(IntKind.i64.wrap (i+1)).toNat<b.length /\
 (0:Int)<=k /\
 k<(↑(5:Nat):Int) /\
 k.toNat<5 /\
 ctBg.pre (k,List.drop i.toNat l,((gtL b (0+(IntKind.i64.wrap (i+1)).toNat)).2.2),(gtL bg k.toNat),()) /\
 (0:Int)<=k /\
 k<(↑(5:Nat):Int) /\
 k.toNat<5 /\
 (0:Int)<=k /\
 k<(↑(5:Nat):Int) /\
 k.toNat<5 /\
 (0:Int)<=i /\
 i<(b.length:Int) /\
 0+i.toNat<b.length /\
 ctBet.pre ((gtL (bg.set k.toNat (begL k (List.drop i.toNat l) ((gtL b (0+(IntKind.i64.wrap (i+1)).toNat)).2.2) (gtL bg k.toNat))) k.toNat),(gtL b (0+i.toNat)),()) /\
 bc (betB (gtL (bg.set k.toNat (begL k (List.drop i.toNat l) ((gtL b (0+(IntKind.i64.wrap (i+1)).toNat)).2.2) (gtL bg k.toNat))) k.toNat) (gtL b (0+i.toNat))) ((0:Int)<=k /\
 k<(↑(5:Nat):Int) /\
 k.toNat<5 /\
 (0:Int)<=i /\
 i<(b.length:Int) /\
 0+i.toNat<b.length /\
 R (hd Tryd.f59 1) { env:=[(0,.sl syS l),(3,.win true liS 10 0 b.length),(4,.ptr 4 0),(5,.int .i64 i),(6,.int .i64 (IntKind.i64.wrap (k+1)))],blk:=[(4,.var [.arr (5:Nat) liS (bg.set k.toNat (begL k (List.drop i.toNat l) ((gtL b (0+(IntKind.i64.wrap (i+1)).toNat)).2.2) (gtL bg k.toNat)))]),(10,.row 109 liS (b.set (0+i.toNat) (gtL (bg.set k.toNat (begL k (List.drop i.toNat l) ((gtL b (0+(IntKind.i64.wrap (i+1)).toNat)).2.2) (gtL bg k.toNat))) k.toNat)))] }) (R (hd Tryd.f59 1) { env:=[(0,.sl syS l),(3,.win true liS 10 0 b.length),(4,.ptr 4 0),(5,.int .i64 i),(6,.int .i64 (IntKind.i64.wrap (k+1)))],blk:=[(4,.var [.arr (5:Nat) liS (bg.set k.toNat (begL k (List.drop i.toNat l) ((gtL b (0+(IntKind.i64.wrap (i+1)).toNat)).2.2) (gtL bg k.toNat)))]),(10,.row 109 liS b)] })) (R (hd Tryd.f59 0) { env:=[(0,.sl syS l),(3,.win true liS 10 0 b.length),(4,.ptr 4 0),(5,.int .i64 (IntKind.i64.wrap (i-1))),(6,.int .i64 k)],blk:=[(4,.var [.arr (5:Nat) liS bg]),(10,.row 109 liS b)] })):=by kernel_rfl
end Go.Proofs.YticpkibnhakgbaaDoor
namespace Go.Proofs.YticpkibnhakgbaaDoor
open Go.Px Go.Ax
set_option maxRecDepth 100000
attribute [local irreducible] Go.Px.sy Go.Px.syE
def bT (l:List SyT) (m:Nat):List LiT:=(List.range (l.length+1)).map fun j=>if m<=j then bst (l.drop j) else zLi
theorem qh8 (l:List SyT) (m:Nat):(bT l m).length=l.length+1:=by simp[bT]
theorem q22 (l:List SyT) (i:Nat) (hi:i<=l.length):bT l i=(bT l (i+1)).set i (bst (l.drop i)):=by
 refine List.ext_getElem? fun j=>?_
 rw[List.getElem?_set];by_cases h:i=j
 ·subst h;rw[if_pos rfl,if_pos (by rw[qh8];omega)];simp[bT,show i<l.length+1 by omega]
 ·rw[if_neg h];unfold bT;by_cases hj:j<l.length+1
  ·simp only[List.getElem?_map,List.getElem?_range hj,Option.map_some];by_cases h2:i<=j
   ·rw[if_pos h2,if_pos (by omega)]
   ·rw[if_neg h2,if_neg (by omega)]
  ·simp[show l.length+1<=j by omega]
theorem bT_z (l:List SyT) (i:Nat) (hi:i<=l.length):(bT l (i+1)).set i zLi=bT l (i+1):=by
 refine List.ext_getElem? fun j=>?_
 rw[List.getElem?_set];by_cases h:i=j
 ·subst h;rw[if_pos rfl,if_pos (by rw[qh8];omega)];simp[bT,show i<l.length+1 by omega,show ¬ (i+1<=i) by omega]
 ·rw[if_neg h]
theorem qpj (l:List SyT) (m j:Nat) (hj:j<=l.length) (hm:m<=j):gtL (bT l m) j=bst (l.drop j):=by
 show ((bT l m)[j]?).getD _=_
 simp[bT,show j<l.length+1 by omega,hm]
theorem q23 (l:List SyT):List.replicate (l.length+1) (liS.dflt:LiT)=bT l l.length:=by
 refine List.ext_getElem? fun j=>?_
 by_cases hj:j<l.length+1
 ·simp only[bT,List.getElem?_replicate,List.getElem?_map,List.getElem?_range hj,Option.map_some,if_pos hj];by_cases h:l.length<=j
  ·rw[if_pos h,List.drop_eq_nil_of_le h];rfl
  ·rw[if_neg h];rfl
 ·simp[bT,show l.length+1<=j by omega]
def bgL (r:List SyT):List LiT:=[zLi,beg r 1,beg r 2,beg r 3,beg r 4]
def qbm (l:List SyT):List LiT:=bT l 0
def q4o (l:List SyT):Prop:=l.length<=65536
def ctBs:Ctr:=⟨[.sl syS],fun x=>q4o x.1,fun x=>[.win true liS 0 0 (qbm x.1).length],fun x=>[.row 109 liS (qbm x.1)]⟩
section
variable (l:List SyT) (hl:l.length<=65536)
abbrev BQ:List SV->List (Nat × LB)->Prop:=QC ctBs (l,())
abbrev bsO (b bg:List LiT) (i:Int):PS:=⟨[(0,.sl syS l),(3,.win true liS 10 0 b.length),(4,.ptr 4 0),(5,.int .i64 i)],[(4,.var [.arr 5 liS bg]),(10,.row 109 liS b)]⟩
abbrev bsI (b bg:List LiT) (i k:Int):PS:=⟨[(0,.sl syS l),(3,.win true liS 10 0 b.length),(4,.ptr 4 0),(5,.int .i64 i),(6,.int .i64 k)],[(4,.var [.arr 5 liS bg]),(10,.row 109 liS b)]⟩
include hl
theorem qnt (i:Nat) (hi:i<l.length) (k:Nat) (hk:1<=k/\k<=4) (b bg:List LiT) (hb:b.length=l.length+1) (hbg:bg.length=5) (c:LiT) (h1:gtL b (i+1)=bst (l.drop (i+1))) (hg:gtL bg k=beg (l.drop (i+1)) k)
  (nx:GD 59 Tryd.f59 (BQ l) (hd Tryd.f59 1) (bsI l (b.set i (upd c (beg (l.drop i) k))) (bg.set k (beg (l.drop i) k)) i ((k+1:Nat):Int))) :
  GD 59 Tryd.f59 (BQ l) (hd Tryd.f59 1) (bsI l (b.set i c) bg i (k:Nat)):=by
 have kk:kOK (k:Int):=by unfold kOK;omega
 have hd:l.drop i=l[i]::l.drop (i+1):=List.drop_eq_getElem_cons hi;have rl:(l.drop (i+1)).length=l.length-(i+1):=List.length_drop ..;have ra:=qsc (l.drop (i+1)) (by omega);have rb:=qmm (l.drop (i+1)) (by omega);have eb:begL k (l.drop i) (bst (l.drop (i+1))).2.2 (beg (l.drop (i+1)) k)=beg (l.drop i) k:=by
  rw[hd,qs4];unfold begL;rw[qt7,q0p l[i] (l.drop (i+1)) 0]
 refine qai cxBs (q2a l (b.set i c) bg i k _ _) ?_;have w1:IntKind.i64.wrap ((i:Int)+1)=((i+1:Nat):Int):=by rw[IntWalk.i64_in _ (by omega)];omega
 have w2:IntKind.i64.wrap ((k:Int)+1)=((k+1:Nat):Int):=by rw[IntWalk.i64_in _ (by omega)];omega
 have g1:gtL (b.set i c) (0+(i+1))=bst (l.drop (i+1)):=by
  rw[<- h1,Nat.zero_add]
  show ((b.set i c)[i+1]?).getD _=(b[i+1]?).getD _
  rw[List.getElem?_set_ne (by omega)]
 have g2:∀ x,gtL (bg.set k x) k=x:=fun x=>by
  show ((bg.set k x)[k]?).getD _=_
  rw[List.getElem?_set_self (by omega)];rfl
 have g3:gtL (b.set i c) (0+i)=c:=by
  rw[Nat.zero_add]
  show ((b.set i c)[i]?).getD _=_
  rw[List.getElem?_set_self (by omega)];rfl
 rw[w1,w2,decide_eq_true (show (k:Int)<=4 by omega),bc_t];simp only[Int.toNat_natCast];rw[g1,hg,eb,g2,g3];have pl:(l.drop i).length=l.length-i:=List.length_drop ..;have pre1:q4p k (l.drop i) (beg (l.drop (i+1)) k):=by
  refine ⟨kk,by omega,?_⟩;rcases ra.1 k kk with h | ⟨_,n,n1,n2,n3,_⟩
  ·left;rw[h.2];rfl
  ·right;have:=qcd k (l.drop (i+1));omega
 have pre2:boB (bst (l.drop (i+1))).2.2 (beg (l.drop (i+1)) k):=by
  unfold boL at rb;refine ⟨by omega,?_⟩;rcases ra.1 k kk with h | ⟨_,n,n1,n2,n3,_,_,h⟩
  ·rw[h.2];exact (show 0<=(0:Int)/\(0:Int)<16777216/\0<=(0:Int)/\(0:Int)<16777216 by decide)
  ·have:=qcd k (l.drop (i+1));unfold boL at h;omega
 have bl:(b.set i c).length=l.length+1:=by rw[List.length_set];exact hb
 refine ⟨by omega,by omega,by omega,by omega,by omega,by omega,by omega,by omega,⟨pre1,pre2⟩,by omega,by omega,by omega,by omega,by omega,by omega,by omega,by omega,by omega,trivial,qaf (fun h=>?_) (fun h=>?_)⟩
 ·have eu:upd c (beg (l.drop i) k)=beg (l.drop i) k:=by unfold upd;rw[if_pos h]
  rw[eu] at nx;refine ⟨by omega,by omega,by omega,by omega,by omega,by omega,?_⟩;rw[Nat.zero_add,List.set_set];exact nx.only ⟨rfl,by simp only[List.length_set];rfl,rfl,rfl,rfl,trivial⟩ ⟨rfl,rfl,trivial⟩
 ·have eu:upd c (beg (l.drop i) k)=c:=by unfold upd;rw[if_neg (by rw[h];decide)]
  rw[eu] at nx;exact nx.only ⟨rfl,rfl,rfl,rfl,rfl,trivial⟩ ⟨rfl,rfl,trivial⟩
theorem q6c:∀ (n:Nat),n<=l.length->GD 59 Tryd.f59 (BQ l) (hd Tryd.f59 0) (bsO l (bT l n) (bgL (l.drop n)) ((n:Int)-1)):=by
 intro n
 induction n with
 | zero=>
  intro hn;refine qai cxBs (q19 l (bT l 0) (bgL (l.drop 0)) (((0:Nat):Int)-1) _ _) ?_;rw[decide_eq_false (by omega),bc_f];exact qr6 (e:=liS) (et:=109) (a:=10) (xs:=qbm l) rfl rfl rfl rfl rfl
 | succ n ih=>
  intro hn;have e:((n+1:Nat):Int)-1=(n:Int):=by omega
  rw[e];refine qai cxBs (q19 l (bT l (n+1)) (bgL (l.drop (n+1))) n _ _) ?_;rw[decide_eq_true (show (0:Int)<=(n:Int) by omega),bc_t];have fin:GD 59 Tryd.f59 (BQ l) (hd Tryd.f59 1) (bsI l (bT l n) (bgL (l.drop n)) n 5):=by
   refine qai cxBs (q2a l (bT l n) (bgL (l.drop n)) n 5 _ _) ?_;rw[decide_eq_false (by omega),bc_f,IntWalk.i64_in ((n:Int)-1) (by omega)];exact (ih (by omega)).only ⟨rfl,rfl,rfl,rfl,trivial⟩ ⟨rfl,rfl,trivial⟩
  have hb:=qh8 l (n+1);have h1:=qpj l (n+1) (n+1) (by omega) (Nat.le_refl _);rw[q22 l n (by omega)] at fin;have hd:l.drop n=l[n]::l.drop (n+1):=List.drop_eq_getElem_cons hn;have up:bst (l.drop n)=upd (upd (upd (upd zLi (beg (l.drop n) 1)) (beg (l.drop n) 2)) (beg (l.drop n) 3)) (beg (l.drop n) 4):=by rw[hd];rfl
  rw[up] at fin;have s4:=qnt l hl n hn 4 ⟨by omega,by omega⟩ (bT l (n+1)) [zLi,beg (l.drop n) 1,beg (l.drop n) 2,beg (l.drop n) 3,beg (l.drop (n+1)) 4] hb rfl _ h1 rfl (fin.only ⟨rfl,by simp only[List.length_set];rfl,rfl,rfl,rfl,trivial⟩ ⟨rfl,rfl,trivial⟩);have s3:=qnt l hl n hn 3 ⟨by omega,by omega⟩ (bT l (n+1)) [zLi,beg (l.drop n) 1,beg (l.drop n) 2,beg (l.drop (n+1)) 3,beg (l.drop (n+1)) 4] hb rfl _ h1 rfl (s4.only ⟨rfl,by simp only[List.length_set];rfl,rfl,rfl,rfl,trivial⟩ ⟨rfl,rfl,trivial⟩);have s2:=qnt l hl n hn 2 ⟨by omega,by omega⟩ (bT l (n+1)) [zLi,beg (l.drop n) 1,beg (l.drop (n+1)) 2,beg (l.drop (n+1)) 3,beg (l.drop (n+1)) 4] hb rfl _ h1 rfl (s3.only ⟨rfl,by simp only[List.length_set];rfl,rfl,rfl,rfl,trivial⟩ ⟨rfl,rfl,trivial⟩);have s1:=qnt l hl n hn 1 ⟨by omega,by omega⟩ (bT l (n+1)) [zLi,beg (l.drop (n+1)) 1,beg (l.drop (n+1)) 2,beg (l.drop (n+1)) 3,beg (l.drop (n+1)) 4] hb rfl zLi h1 rfl (s2.only ⟨rfl,by simp only[List.length_set];rfl,rfl,rfl,rfl,trivial⟩ ⟨rfl,rfl,trivial⟩);rw[bT_z l n (by omega)] at s1;exact s1.only ⟨rfl,rfl,rfl,rfl,rfl,trivial⟩ ⟨rfl,rfl,trivial⟩
theorem q9b:GD 59 Tryd.f59 (BQ l) [.code (qae Tryd.f59)] (entry [.sl syS] (l,())):=by
 refine qai cxBs (vc_bs l _ _) ?_;rw[IntWalk.i64_in ((l.length:Int)+1) (by omega),IntWalk.i64_in ((l.length:Int)-1) (by omega)];have e:((l.length:Int)+1).toNat=l.length+1:=by omega
 rw[e];refine ⟨by omega,by omega,?_,?_,?_⟩
 ·show (l.length:Int)+1<16777216
  omega
 ·show (32:Int)*((l.length:Int)+1)<=281474976710656
  omega
 ·have h:=q6c l hl l.length (Nat.le_refl _);rw[List.drop_length] at h;rw[q23 l];exact h.only ⟨rfl,by rw[qh8];rfl,rfl,rfl,trivial⟩ ⟨rfl,rfl,trivial⟩
end
theorem q6d:Held Tryd.prog G0 59 ctBs:=Held.of cxBs (fn:=Tryd.f59) rfl rfl ⟨by decide,by decide⟩ fun ⟨l,_⟩ hp=>q9b l hp
end Go.Proofs.YticpkibnhakgbaaDoor
namespace Go.Proofs.YticpkibnhakgbaaDoor
open Go.Px Go.Ax
set_option maxRecDepth 100000
def CCh:CV:=[(59,.inl ctBs),(60,.inl ctMk)]
theorem cxCh:CxOK Tryd.prog tt G0 CCh:=(cx0.cons q5b (fn:=Tryd.f60) rfl rfl rfl).cons q6d (fn:=Tryd.f59) rfl rfl rfl
set_option maxRecDepth 100000
theorem vc_ch (l:List SyT) (Q:QT) (R:RT):sy tt G0 CCh Tryd.f50.ntmps Tryd.f50.results.toList Q (fun it S=>R it (qao [0,3,4,5] [3,8,14,1032768] S)) 1000 [.code (qae Tryd.f50)] (entry [.sl syS] (l,())) =
  (ctBs.pre (l,()) /\
 (0:Int)<=0 /\
 (0:Int)<(↑(qbm l).length:Int) /\
 0+0<(qbm l).length /\
 (0:Int)<=0 /\
 (0:Int)<=(gtL (qbm l) (0+0)).2.2.2 /\
 (gtL (qbm l) (0+0)).2.2.2<2 ^ 24 /\
 (↑(56:Nat):Int)*(gtL (qbm l) (0+0)).2.2.2<=2 ^ 48 /\
 R (hd Tryd.f50 0) { env:=[(0,.sl syS l),(3,.win true liS 1032768 0 (qbm l).length),(4,.win true opS 14 0 (0:Nat)),(5,.int .i64 0)],blk:=[(14,.row 69 opS (List.replicate (0) opS.dflt)),(1032768,.row 109 liS (qbm l))] }):=by kernel_rfl
theorem q7k (l:List SyT) (b:List LiT) (o:List OpT) (a:Nat) (Q:QT) (R:RT):sy tt G0 CCh Tryd.f50.ntmps Tryd.f50.results.toList Q (fun it S=>R it (qao [0,3,4,5] [14,46,1032768] S)) 1000 (hd Tryd.f50 0) ⟨[(0,.sl syS l),(3,.win true liS 1032768 0 b.length),(4,.win true opS 14 0 o.length),(5,.int .i64 (a:Nat))],[(14,.row 69 opS o),(1032768,.row 109 liS b)]⟩ =
  (bc (decide ((a:Int)<(l.length:Int))) ((0:Int)<=(a:Int) /\
 (a:Int)<(b.length:Int) /\
 0+(a:Int).toNat<b.length /\
 (0:Int)<=(a:Int) /\
 (a:Int)<(b.length:Int) /\
 0+(a:Int).toNat<b.length /\
 (0:Int)<=(a:Int) /\
 (a:Int)<IntKind.i64.wrap ((a:Int)+(gtL b (0+(a:Int).toNat)).2.1) /\
 IntKind.i64.wrap ((a:Int)+(gtL b (0+(a:Int).toNat)).2.1)<=IntKind.i64.wrap ((a:Int)+(gtL b (0+(a:Int).toNat)).2.1) /\
 IntKind.i64.wrap ((a:Int)+(gtL b (0+(a:Int).toNat)).2.1)<=(l.length:Int) /\
 IntKind.i64.wrap ((a:Int)+(gtL b (0+(a:Int).toNat)).2.1)<1099511627776 /\
 ctMk.pre ((gtL b (0+(a:Int).toNat)).1,Px.part l (some (a:Int)) (some (IntKind.i64.wrap ((a:Int)+(gtL b (0+(a:Int).toNat)).2.1))),()) /\
 0+1<=([(mdK (gtL b (0+(a:Int).toNat)).1 (Px.part l (some (a:Int)) (some (IntKind.i64.wrap ((a:Int)+(gtL b (0+(a:Int).toNat)).2.1)))))]:List opS.D).length /\
 o.length=o.length /\
 (0:Nat)=(0:Nat) /\
 o.length+(([(mdK (gtL b (0+(a:Int).toNat)).1 (Px.part l (some (a:Int)) (some (IntKind.i64.wrap ((a:Int)+(gtL b (0+(a:Int).toNat)).2.1)))))]:List opS.D)).length<2 ^ 30 /\
 (56:Nat)<=2 ^ 10 /\
 (0:Int)<=(a:Int) /\
 (a:Int)<(b.length:Int) /\
 0+(a:Int).toNat<b.length /\
 R (hd Tryd.f50 0) { env:=[(0,.sl syS l),(3,.win true liS 1032768 0 b.length),(4,.win true opS 46 0 (o.length+(([(mdK (gtL b (0+(a:Int).toNat)).1 (Px.part l (some (a:Int)) (some (IntKind.i64.wrap ((a:Int)+(gtL b (0+(a:Int).toNat)).2.1)))))]:List opS.D)).length)),(5,.int .i64 (IntKind.i64.wrap ((a:Int)+(gtL b (0+(a:Int).toNat)).2.1)))],blk:=[(46,.row 69 opS (o++([(mdK (gtL b (0+(a:Int).toNat)).1 (Px.part l (some (a:Int)) (some (IntKind.i64.wrap ((a:Int)+(gtL b (0+(a:Int).toNat)).2.1)))))]:List opS.D))),(1032768,.row 109 liS b)] }) (Q [.win true opS 14 0 o.length] [(14,.row 69 opS o),(1032768,.row 109 liS b)])):=by kernel_rfl
theorem q7l (l:List SyT) (b:List LiT) (o:List OpT) (a:Nat) (Q:QT) (R:RT):sy tt G0 CCh Tryd.f50.ntmps Tryd.f50.results.toList Q (fun it S=>R it (qao [0,3,4,5] [14,1032768] S)) 1000 (hd Tryd.f50 0) ⟨[(0,.sl syS l),(4,.sl opS o),(5,.int .i64 (a:Nat))],[]⟩ =
  (bc (decide ((a:Int)<(l.length:Int))) False (Q [.sl opS o] [])):=by kernel_rfl
end Go.Proofs.YticpkibnhakgbaaDoor
namespace Go.Proofs.YticpkibnhakgbaaDoor
open Go.Px Go.Ax
set_option maxRecDepth 100000
attribute [local irreducible] Go.Px.sy Go.Px.syE
def ctCh:Ctr:=⟨[.sl syS],fun x=>q4o x.1,fun x=>[.sl opS (chL x.1)],fun _=>[]⟩
theorem qwn (l:List SyT) (a n:Nat):Px.part l (some (a:Int)) (some ((a+n:Nat):Int))=(l.drop a).take n:=by
 simp only[Px.part,Int.toNat_natCast]
 first
  | (rw[List.drop_take];congr 1;omega)
  | (rw[List.take_drop];done)
  | simp[List.drop_take]
section
variable (l:List SyT) (hl:l.length<=65536)
include hl
theorem q20 (o:List OpT) (a:Nat) (ha:a=l.length):GD 50 Tryd.f50 (OQ o) (hd Tryd.f50 0) ⟨[(0,.sl syS l),(3,.win true liS 1032768 0 (qbm l).length),(4,.win true opS 14 0 o.length),(5,.int .i64 (a:Nat))],[(14,.row 69 opS o),(1032768,.row 109 liS (qbm l))]⟩:=by
 have _:=hl;subst ha;refine Good.frz (i:=14) (e:=opS) (et:=69) (xs:=o) rfl (fun c hc=>?_) ?_
 ·have hc:c∈[0+o.length<=o.length]:=hc;rw[List.mem_singleton] at hc;subst hc;omega
 ·have e:GD 50 Tryd.f50 (OQ o) (hd Tryd.f50 0) ⟨[(0,.sl syS l),(4,.sl opS (winL opS 0 o.length o)),(5,.int .i64 (l.length:Nat))],[]⟩:=by
   refine qai cxCh (q7l l [] (winL opS 0 o.length o) l.length _ _) ?_;rw[decide_eq_false (by omega),bc_f,winA]
  exact e.only ⟨rfl,rfl,rfl,trivial⟩ trivial
theorem q56:∀ (f a:Nat) (o:List OpT),l.length-a<=f->a<=l.length->o.length<=a ->
  GD 50 Tryd.f50 (OQ (o++chF f (l.drop a))) (hd Tryd.f50 0) ⟨[(0,.sl syS l),(3,.win true liS 1032768 0 (qbm l).length),(4,.win true opS 14 0 o.length),(5,.int .i64 (a:Nat))],[(14,.row 69 opS o),(1032768,.row 109 liS (qbm l))]⟩:=by
 intro f
 induction f with
 | zero=>
  intro a o hf ha ho;rw[chF,List.append_nil];exact q20 l hl o a (by omega)
 | succ f ih=>
  intro a o hf ha ho;by_cases he:a=l.length
  ·rw[chF,if_pos (List.drop_eq_nil_of_le (by omega)),List.append_nil];exact q20 l hl o a he
  ·have dl:(l.drop a).length=l.length-a:=List.length_drop ..;have hne:l.drop a≠[]:=fun h=>by rw[h] at dl;simp at dl;omega
   obtain ⟨hb,n,n1,n2,n3,_⟩:=qph (l:=l.drop a) (by omega) hne;have hfit:=qcd (bst (l.drop a)).1 (l.drop a);have bl:(qbm l).length=l.length+1:=qh8 l 0;have nx:=ih (a+n) (o++[mdK (bst (l.drop a)).1 ((l.drop a).take n)]) (by omega) (by omega) (by rw[List.length_append,List.length_singleton];omega);have ec:chF (f+1) (l.drop a)=mdK (bst (l.drop a)).1 ((l.drop a).take n)::chF f (l.drop (a+n)):=by rw[chF,if_neg hne,n1,Int.toNat_natCast,List.drop_drop]
   rw[ec];rw[List.append_assoc,List.singleton_append] at nx;refine qai cxCh (q7k l (qbm l) o a _ _) ?_;have g1:gtL (qbm l) (0+a)=bst (l.drop a):=by rw[Nat.zero_add];exact qpj l 0 a ha (Nat.zero_le _)
   have w:IntKind.i64.wrap ((a:Int)+(n:Int))=((a+n:Nat):Int):=by rw[IntWalk.i64_in _ (by omega)];omega
   rw[decide_eq_true (show (a:Int)<(l.length:Int) by omega),bc_t,Int.toNat_natCast,g1,n1,w,qwn l a n];have tl:((l.drop a).take n).length=n:=by rw[List.length_take];omega
   refine ⟨by omega,by omega,by omega,by omega,by omega,by omega,by omega,by omega,by omega,by omega,by omega,(show qtt (bst (l.drop a)).1 ((l.drop a).take n) from ⟨hb,by omega,by omega⟩),Nat.le_refl 1,rfl,rfl,?_,by decide,by omega,by omega,by omega,?_⟩
   ·show o.length+1<2 ^ 30
    omega
   ·exact nx.onlyR [(14,46)] rfl ⟨rfl,rfl,by rw[List.length_append];rfl,rfl,trivial⟩ ⟨rfl,rfl,trivial⟩
theorem q87:GD 50 Tryd.f50 (QC ctCh (l,())) [.code (qae Tryd.f50)] (entry [.sl syS] (l,())):=by
 refine qai cxCh (vc_ch l _ _) ?_;have bl:(qbm l).length=l.length+1:=qh8 l 0;have g0:gtL (qbm l) (0+0)=bst l:=by
  have:=qpj l 0 0 (Nat.zero_le _) (Nat.le_refl _);rw[List.drop_zero] at this;exact this
 have hb:=qmm l hl;unfold boL at hb;rw[g0];refine ⟨hl,by omega,by omega,by omega,by omega,hb.2.2.1,?_,?_,?_⟩
 ·show (bst l).2.2.2<16777216
  omega
 ·show (56:Int)*(bst l).2.2.2<=281474976710656
  omega
 ·have h:=q56 l hl l.length 0 [] (by omega) (Nat.zero_le _) (Nat.zero_le _);rw[List.drop_zero,List.nil_append] at h;exact (h.post fun rs blk hq=>QC.flat (by rw[hq];rfl) rfl (by rw[hq];rfl)).only ⟨rfl,rfl,rfl,rfl,trivial⟩ ⟨rfl,rfl,trivial⟩
end
theorem q57:Held Tryd.prog G0 50 ctCh:=Held.of cxCh (fn:=Tryd.f50) rfl rfl ⟨by decide,by decide⟩ fun ⟨l,_⟩ hp=>q87 l hp
end Go.Proofs.YticpkibnhakgbaaDoor
namespace Go.Proofs.YticpkibnhakgbaaDoor
open Go.Px Go.Ax
set_option maxRecDepth 100000
def poV (l:List SyT) (m:Int):PaT × Int:=if 4096<(chL l).length then ((false,0,0,[]),2) else ((false,m,l.length,chL l),0)
def ctPo:Ctr:=⟨[.sl syS,iI],fun x=>q4o x.1,fun x=>[paV (poV x.1 x.2.1).1,.int .i64 (poV x.1 x.2.1).2],fun _=>[]⟩
def cpV (l:List SyT) (m:Int):PaT × Int:=if (ofV l m).2=60 then ((false,0,0,[]),60) else poV l m
def ctCp:Ctr:=⟨[.sl syS,iI],fun x=>List.length x.1<16777216,fun x=>[paV (cpV x.1 x.2.1).1,.int .i64 (cpV x.1 x.2.1).2],fun _=>[]⟩
def foV (p:PaT):PaT × Int:=if (symV p).2=0 then (if (poV (symV p).1 p.2.1).2=0 then ((p.1,(poV (symV p).1 p.2.1).1.2),0) else ((false,0,0,[]),(poV (symV p).1 p.2.1).2)) else ((false,0,0,[]),(symV p).2)
def ctFo:Ctr:=⟨[paS],fun _=>True,fun x=>[paV (foV x.1).1,.int .i64 (foV x.1).2],fun _=>[]⟩
def CPo:CV:=[(50,.inl ctCh)]
theorem cxPo:CxOK Tryd.prog tt G0 CPo:=cx0.cons q57 (fn:=Tryd.f50) rfl rfl rfl
set_option maxRecDepth 100000
theorem vc_po (l:List SyT) (m:Int) (Q:QT) (R:RT):sy tt G0 CPo Tryd.f38.ntmps Tryd.f38.results.toList Q R 1000 [.code (qae Tryd.f38)] (entry [.sl syS,iI] (l,m,())) =
  (ctCh.pre (l,()) /\
 bc (decide ((4096:Int)<(↑(chL l).length:Int))) (Q [.agg [.bool false,.int .i64 0,.int .i64 0,.nils],.int .i64 2] [(4,.var [.bool false,.int .i64 0,.int .i64 0,.nils])]) (Q [.agg [.bool false,.int .i64 m,.int .i64 (l.length:Int),.sl opS (chL l)],.int .i64 0] [(4,.var [.bool false,.int .i64 m,.int .i64 (l.length:Int),.sl opS (chL l)])])):=by kernel_rfl
theorem vc_cp (l:List SyT) (m:Int) (Q:QT) (R:RT):sy tt G0 [(46,.inl ctOfA),(38,.inl ctPo)] Tryd.f36.ntmps Tryd.f36.results.toList Q R 1000 [.code (qae Tryd.f36)] (entry [.sl syS,iI] (l,m,())) =
  (ctOfA.pre (l,m,()) /\
 bc (decide ((ofV l m).2=(60:Int))) (Q [.agg [.bool false,.int .i64 0,.int .i64 0,.nils],.int .i64 (ofV l m).2] [(4,.var [.bool false,.int .i64 0,.int .i64 0,.nils]),(6,.var [.bool (ofV l m).1.1,.int .i64 (ofV l m).1.2.1,.int .i64 (ofV l m).1.2.2.1,.sl opS (ofV l m).1.2.2.2])]) (ctPo.pre (l,m,()) /\
 Q [.agg [.bool (poV l m).1.1,.int .i64 (poV l m).1.2.1,.int .i64 (poV l m).1.2.2.1,.sl opS (poV l m).1.2.2.2],.int .i64 (poV l m).2] [(4,.var [.bool (poV l m).1.1,.int .i64 (poV l m).1.2.1,.int .i64 (poV l m).1.2.2.1,.sl opS (poV l m).1.2.2.2]),(6,.var [.bool (ofV l m).1.1,.int .i64 (ofV l m).1.2.1,.int .i64 (ofV l m).1.2.2.1,.sl opS (ofV l m).1.2.2.2])])):=by kernel_rfl
theorem vc_fo (li:Bool) (m o:Int) (l:List OpT) (Q:QT) (R:RT):sy tt G0 [(24,.inl ctSym),(38,.inl ctPo)] Tryd.f20.ntmps Tryd.f20.results.toList Q R 1000 [.code (qae Tryd.f20)] (entry [paS] ((li,m,o,l),())) =
  (ctSym.pre ((li,m,o,l),()) /\
 bc (decide ((symV (li,m,o,l)).2≠0)) (Q [.agg [.bool false,.int .i64 0,.int .i64 0,.nils],.int .i64 (symV (li,m,o,l)).2] [(1,.var [.bool li,.int .i64 m,.int .i64 o,.sl opS l]),(2,.var [.bool false,.int .i64 0,.int .i64 0,.nils]),(1036864,.row 66 syS (symV (li,m,o,l)).1)]) (0+(symV (li,m,o,l)).1.length<=(symV (li,m,o,l)).1.length /\
 0+(symV (li,m,o,l)).1.length<=(symV (li,m,o,l)).1.length /\
 0+(symV (li,m,o,l)).1.length<=(symV (li,m,o,l)).1.length /\
 0+(symV (li,m,o,l)).1.length<=(symV (li,m,o,l)).1.length /\
 0+(symV (li,m,o,l)).1.length<=(symV (li,m,o,l)).1.length /\
 ctPo.pre (winL syS 0 (symV (li,m,o,l)).1.length (symV (li,m,o,l)).1,m,()) /\
 bc (decide ((poV (winL syS 0 (symV (li,m,o,l)).1.length (symV (li,m,o,l)).1) m).2≠0)) (Q [.agg [.bool false,.int .i64 0,.int .i64 0,.nils],.int .i64 (poV (winL syS 0 (symV (li,m,o,l)).1.length (symV (li,m,o,l)).1) m).2] [(1,.var [.bool li,.int .i64 m,.int .i64 o,.sl opS l]),(2,.var [.bool false,.int .i64 0,.int .i64 0,.nils]),(6,.var [.bool (poV (winL syS 0 (symV (li,m,o,l)).1.length (symV (li,m,o,l)).1) m).1.1,.int .i64 (poV (winL syS 0 (symV (li,m,o,l)).1.length (symV (li,m,o,l)).1) m).1.2.1,.int .i64 (poV (winL syS 0 (symV (li,m,o,l)).1.length (symV (li,m,o,l)).1) m).1.2.2.1,.sl opS (poV (winL syS 0 (symV (li,m,o,l)).1.length (symV (li,m,o,l)).1) m).1.2.2.2])]) (Q [.agg [.bool li,.int .i64 (poV (winL syS 0 (symV (li,m,o,l)).1.length (symV (li,m,o,l)).1) m).1.2.1,.int .i64 (poV (winL syS 0 (symV (li,m,o,l)).1.length (symV (li,m,o,l)).1) m).1.2.2.1,.sl opS (poV (winL syS 0 (symV (li,m,o,l)).1.length (symV (li,m,o,l)).1) m).1.2.2.2],.int .i64 0] [(1,.var [.bool li,.int .i64 m,.int .i64 o,.sl opS l]),(2,.var [.bool li,.int .i64 (poV (winL syS 0 (symV (li,m,o,l)).1.length (symV (li,m,o,l)).1) m).1.2.1,.int .i64 (poV (winL syS 0 (symV (li,m,o,l)).1.length (symV (li,m,o,l)).1) m).1.2.2.1,.sl opS (poV (winL syS 0 (symV (li,m,o,l)).1.length (symV (li,m,o,l)).1) m).1.2.2.2]),(6,.var [.bool li,.int .i64 (poV (winL syS 0 (symV (li,m,o,l)).1.length (symV (li,m,o,l)).1) m).1.2.1,.int .i64 (poV (winL syS 0 (symV (li,m,o,l)).1.length (symV (li,m,o,l)).1) m).1.2.2.1,.sl opS (poV (winL syS 0 (symV (li,m,o,l)).1.length (symV (li,m,o,l)).1) m).1.2.2.2])]))):=by kernel_rfl
end Go.Proofs.YticpkibnhakgbaaDoor
namespace Go.Proofs.YticpkibnhakgbaaDoor
open Go.Px Go.Ax
set_option maxRecDepth 100000
attribute [local irreducible] Go.Px.sy Go.Px.syE
theorem qc9 (z:Int):MtL (fun _=>none) [paV (false,0,0,[]),.int .i64 z] [.agg [.bool false,.int .i64 0,.int .i64 0,.nils],.int .i64 z]:=
 ⟨_,_,rfl,⟨_,rfl,_,_,rfl,rfl,_,_,rfl,rfl,_,_,rfl,rfl,_,_,rfl,.inr ⟨rfl,rfl⟩,rfl⟩,_,_,rfl,rfl,rfl⟩
theorem q8b (l:List SyT) (m:Int) (hp:l.length<=65536) (R:List Item->PS->Prop):sy tt G0 CPo Tryd.f38.ntmps Tryd.f38.results.toList (QC ctPo (l,m,())) R 1000 [.code (qae Tryd.f38)] (entry [.sl syS,iI] (l,m,())):=by
 refine (vc_po l m _ _).mpr ⟨hp,qaf (fun h=>?_) (fun h=>?_)⟩
 ·have h:(4096:Int)<((chL l).length:Int):=of_decide_eq_true h;have hv:poV l m=((false,0,0,[]),2):=by unfold poV;rw[if_pos (by omega)]
  exact QC.mt (by show MtL _ [paV (poV l m).1,.int .i64 (poV l m).2] _;rw[hv];exact qc9 _) rfl
 ·have h:¬ (4096:Int)<((chL l).length:Int):=of_decide_eq_false h;have hv:poV l m=(((false,m,(l.length:Int),chL l):PaT),(0:Int)):=by unfold poV;rw[if_neg (by omega)]
  exact QC.flat (by show [paV (poV l m).1,.int .i64 (poV l m).2]=_;rw[hv];rfl) rfl rfl
theorem qwk:Held Tryd.prog G0 38 ctPo:=Held.run cxPo (fn:=Tryd.f38) rfl rfl ⟨by decide,by decide⟩ fun ⟨l,m,_⟩ hp=>q8b l m hp _
theorem q2j {l:List SyT} {m:Int} (h:(ofV l m).2≠60):szB m=true/\szB l.length=true/\l.all (sOK m)=true:=by
 unfold ofV at h;split at h
 ·assumption
 ·exact absurd rfl h
theorem qqj {l:List SyT} {m:Int} (h:szB m=true/\szB l.length=true/\l.all (sOK m)=true):(ofV l m).2≠60:=by
 unfold ofV;rw[if_pos h];split
 ·exact (show (2:Int)≠60 by decide)
 ·exact (show (0:Int)≠60 by decide)
theorem qrm {n:Int} (h:szB n=true):0<=n/\n<=65536:=by simpa [szB] using h
theorem cxCp:CxOK Tryd.prog tt G0 [(46,.inl ctOfA),(38,.inl ctPo)]:=(cx0.cons qwk (fn:=Tryd.f38) rfl rfl rfl).cons qz7 (fn:=Tryd.f46) rfl rfl rfl
theorem q83 (l:List SyT) (m:Int) (hp:l.length<16777216) (R:List Item->PS->Prop):sy tt G0 [(46,.inl ctOfA),(38,.inl ctPo)] Tryd.f36.ntmps Tryd.f36.results.toList (QC ctCp (l,m,())) R 1000 [.code (qae Tryd.f36)] (entry [.sl syS,iI] (l,m,())):=by
 refine (vc_cp l m _ _).mpr ⟨hp,qaf (fun h=>?_) (fun h=>?_)⟩
 ·have h:(ofV l m).2=60:=of_decide_eq_true h;have hv:cpV l m=((false,0,0,[]),60):=by unfold cpV;rw[if_pos h]
  rw[h];exact QC.mt (by show MtL _ [paV (cpV l m).1,.int .i64 (cpV l m).2] _;rw[hv];exact qc9 _) rfl
 ·have h:¬ (ofV l m).2=60:=of_decide_eq_false h;have hz:=qrm (q2j h).2.1;have hv:cpV l m=poV l m:=by unfold cpV;rw[if_neg h]
  exact ⟨(show l.length<=65536 by omega),QC.flat (by show [paV (cpV l m).1,.int .i64 (cpV l m).2]=_;rw[hv];rfl) rfl rfl⟩
theorem q5z:Held Tryd.prog G0 36 ctCp:=Held.run cxCp (fn:=Tryd.f36) rfl rfl ⟨by decide,by decide⟩ fun ⟨l,m,_⟩ hp=>q83 l m hp _
theorem qmv (p:PaT):(symV p).1.length<=65536:=by
 unfold symV;split
 ·rename_i h;obtain ⟨h1,h2,h3,_⟩:=qis h;have:=qfs h1
  show (symF p.2.2.2).length<=65536
  omega
 ·exact Nat.zero_le _
theorem cxFo:CxOK Tryd.prog tt G0 [(24,.inl ctSym),(38,.inl ctPo)]:=(cx0.cons qwk (fn:=Tryd.f38) rfl rfl rfl).cons qrn (fn:=Tryd.f24) rfl rfl rfl
theorem q8s (li:Bool) (m o:Int) (l:List OpT) (R:List Item->PS->Prop):sy tt G0 [(24,.inl ctSym),(38,.inl ctPo)] Tryd.f20.ntmps Tryd.f20.results.toList (QC ctFo ((li,m,o,l),())) R 1000 [.code (qae Tryd.f20)] (entry [paS] ((li,m,o,l),())):=by
 refine (vc_fo li m o l _ _).mpr ⟨trivial,qaf (fun h=>?_) (fun h=>?_)⟩
 ·have h:(symV (li,m,o,l)).2≠0:=of_decide_eq_true h;have hv:foV (li,m,o,l)=((false,0,0,[]),(symV (li,m,o,l)).2):=by unfold foV;rw[if_neg h]
  exact QC.mt (by show MtL _ [paV (foV (li,m,o,l)).1,.int .i64 (foV (li,m,o,l)).2] _;rw[hv];exact qc9 _) rfl
 ·have h:¬ (symV (li,m,o,l)).2≠0:=of_decide_eq_false h;have h:(symV (li,m,o,l)).2=0:=by omega
  rw[winA];refine ⟨by omega,by omega,by omega,by omega,by omega,qmv _,qaf (fun h2=>?_) (fun h2=>?_)⟩
  ·have h2:(poV (symV (li,m,o,l)).1 m).2≠0:=of_decide_eq_true h2;have hv:foV (li,m,o,l)=((false,0,0,[]),(poV (symV (li,m,o,l)).1 m).2):=by unfold foV;rw[if_pos h,if_neg h2]
   exact QC.mt (by show MtL _ [paV (foV (li,m,o,l)).1,.int .i64 (foV (li,m,o,l)).2] _;rw[hv];exact qc9 _) rfl
  ·have h2:¬ (poV (symV (li,m,o,l)).1 m).2≠0:=of_decide_eq_false h2;have h2:(poV (symV (li,m,o,l)).1 m).2=0:=by omega
   have hv:foV (li,m,o,l)=((li,(poV (symV (li,m,o,l)).1 m).1.2),0):=by unfold foV;rw[if_pos h,if_pos h2]
   exact QC.flat (by show [paV (foV (li,m,o,l)).1,.int .i64 (foV (li,m,o,l)).2]=_;rw[hv];rfl) rfl rfl
theorem q5s:Held Tryd.prog G0 20 ctFo:=Held.run cxFo (fn:=Tryd.f20) rfl rfl ⟨by decide,by decide⟩ fun ⟨⟨li,m,o,l⟩,_⟩ _=>q8s li m o l _
end Go.Proofs.YticpkibnhakgbaaDoor
namespace Go.Proofs.YticpkibnhakgbaaDoor
open Go.Px Go.Ax
set_option maxRecDepth 100000
set_option maxRecDepth 100000
end Go.Proofs.YticpkibnhakgbaaDoor
namespace Go.Proofs.YticpkibnhakgbaaDoor
open Go.Px Go.Ax
set_option maxRecDepth 100000
attribute [local irreducible] Go.Px.sy Go.Px.syE
end Go.Proofs.YticpkibnhakgbaaDoor
namespace Go.Proofs.YticpkibnhakgbaaDoor
open Go.Px Go.Ax
set_option maxRecDepth 100000
set_option maxRecDepth 100000
end Go.Proofs.YticpkibnhakgbaaDoor
namespace Go.Proofs.YticpkibnhakgbaaDoor
end Go.Proofs.YticpkibnhakgbaaDoor
namespace Go.Proofs.YticpkibnhakgbaaDoor
open Go.Px Go.Ax
set_option maxRecDepth 100000
set_option maxRecDepth 100000
end Go.Proofs.YticpkibnhakgbaaDoor
namespace Go.Proofs.YticpkibnhakgbaaDoor
open Go.Px Go.Ax
set_option maxRecDepth 100000
attribute [local irreducible] Go.Px.sy Go.Px.syE
abbrev gI3 (w:List Int) (i:Nat):Int:=gt (Sh.int .i32) w i
def preW (w:List Int):Prop:=∀ j,-2147483648<=gI3 w j/\gI3 w j<2147483648
theorem qq4 {l:List SyT} {m:Int} (h:¬ (szB m=true/\szB l.length=true/\l.all (sOK m)=true)):cpV l m=((false,0,0,[]),60):=by
 unfold cpV;rw[if_pos ?_];by_cases h2:(ofV l m).2=60
 ·exact h2
 ·exact absurd (q2j h2) h
theorem q86 {m N:Int}:∀ {l:List OpT} {left i:Int},(chkF m N l left i).2=0\/(chkF m N l left i).2=60
 | [],left,i=>by
  simp only[chkF];split
  ·exact .inr rfl
  ·exact .inl rfl
 | x::l,left,i=>by
  simp only[chkF];split
  ·exact .inr rfl
  ·split
   ·exact .inr rfl
   ·exact q86
theorem q2z (p:PaT):(chkV p).2=0\/(chkV p).2=60:=by
 unfold chkV;split
 ·exact q86
 ·exact .inr rfl
section
variable (z:Int) (l4:List (List Int)) (w:List Int) (h6:qwj z l4) (hw:preW w)
include h6 hw
end
end Go.Proofs.YticpkibnhakgbaaDoor
namespace Go.Proofs.YticpkibnhakgbaaDoor
open Go.Px Go.Ax
set_option maxRecDepth 100000
def ctOpc:Ctr:=⟨[opS],fun _=>True,fun x=>[.int .i64 (cN x.1.1.toNat x.1)],fun _=>[]⟩
set_option maxRecDepth 100000
def qin (x:OpT):List (Nat × LB):=[(1,.var [.int .i64 x.1,.int .i64 x.2.1,.int .i64 x.2.2.1,.int .u8 x.2.2.2.1,.sl uB x.2.2.2.2])]
theorem q6u (x:OpT) (Q:QT) (R:RT):sy tt G0 [] Tryd.f54.ntmps Tryd.f54.results.toList Q R 1000 [.code (qae Tryd.f54)] (entry [opS] (x,())) =
  (bc (decide (x.1=(2:Int))) (Q [.int .i64 (IntKind.i64.wrap ((4:Int)+x.2.2.1))] (qin x)) (bc (decide (x.1=(4:Int))) (Q [.int .i64 (IntKind.i64.wrap ((2:Int)+x.2.2.1))] (qin x)) (Q [.int .i64 4] (qin x)))):=by kernel_rfl
end Go.Proofs.YticpkibnhakgbaaDoor
namespace Go.Proofs.YticpkibnhakgbaaDoor
open Go.Px Go.Ax
set_option maxRecDepth 100000
attribute [local irreducible] Go.Px.sy Go.Px.syE
theorem q4v (k f n b:Int) (d:List Int) (R:List Item->PS->Prop):sy tt G0 [] Tryd.f54.ntmps Tryd.f54.results.toList (QC ctOpc ((k,f,n,b,d),())) R 1000 [.code (qae Tryd.f54)] (entry [opS] ((k,f,n,b,d),())):=by
 have out:∀ c,cN k.toNat ((k,f,n,b,d):OpT)=c->ctOpc.out ((k,f,n,b,d),())=[SV.int .i64 c]:=fun c e=>congrArg (fun c=>[SV.int .i64 c]) e
 refine (q6u (k,f,n,b,d) _ _).mpr (qaf (fun h=>?_) (fun h=>qaf (fun h2=>?_) (fun h2=>?_)))
 ·have h:k=2:=of_decide_eq_true h;subst h;exact QC.flat (out _ rfl) rfl rfl
 ·have h2:k=4:=of_decide_eq_true h2;subst h2;exact QC.flat (out _ rfl) rfl rfl
 ·have h:¬ k=2:=of_decide_eq_false h;have h2:¬ k=4:=of_decide_eq_false h2;refine QC.flat (out _ ?_) rfl rfl;unfold cN;split
  ·omega
  ·omega
  ·rfl
theorem qz3:Held Tryd.prog G0 54 ctOpc:=Held.run cx0 (fn:=Tryd.f54) rfl rfl ⟨by decide,by decide⟩ fun ⟨⟨k,f,n,b,d⟩,_⟩ _=>q4v k f n b d _
theorem cxOpc:CxOK Tryd.prog tt G0 [(54,.inl ctOpc)]:=cx0.cons qz3 (fn:=Tryd.f54) rfl rfl rfl
theorem qr9 {s:List SyT} {m:Int} (hr:∀ x∈s,sOK m x=true) (h0:0<=m) (h1:m<=65536) (hl:s.length<=4096):poV s m=((false,m,(s.length:Int),chL s),0)/\symF (chL s)=s/\(∀ x∈chL s,isRB x m=true)/\q00 (chL s)=cst s/\(chL s).length<=4096 /\
  (chkV (false,m,(s.length:Int),chL s)).2=0:=by
 obtain ⟨c1,c2,c3,c4⟩:=ch_ok (m:=m) (by omega) s.length s (Nat.le_refl _) (by omega) hr;have hb:=qmm s (by omega);unfold boL at hb;have hlen:(chL s).length<=4096:=by
  show (chF s.length s).length<=4096
  have:oct s=(bst s).2.2.2:=rfl;omega
 have hs:=qfs c2;rw[c1] at hs;refine ⟨?_,c1,c2,c3,hlen,?_⟩
 ·unfold poV;rw[if_neg (by omega)]
 ·have:=qx9 (li:=false) (o:=(s.length:Int)) h0 h1 (by omega) hlen c2 hs.symm;rw[this]
theorem q84 {s:List SyT} {m:Int} (hr:∀ x∈s,sOK m x=true) (h0:0<=m) (h1:m<=65536) (hl:s.length<=4096):cpV s m=((false,m,(s.length:Int),chL s),0):=by
 unfold cpV;rw[if_neg (qqj ⟨by simp[szB];omega,by simp[szB];omega,by rw[List.all_eq_true];exact hr⟩)];exact (qr9 hr h0 h1 hl).1
end Go.Proofs.YticpkibnhakgbaaDoor
namespace Go.Proofs.YticpkibnhakgbaaDoor
open Go.Px Go.Ax
def fokB (k:Int) (s t:SyT) (n:Nat):Bool:=
 if k=1 then (s.1&&(t.1&&decide (t.2.1=IntKind.i64.wrap (s.2.1+(n:Int)))))&&decide (t.2.2=0)
 else if k=2 then s.1&&(t.1&&decide (t.2.1=IntKind.i64.wrap (s.2.1+(n:Int))))
 else if k=3 then !s.1&&(!t.1&&decide (t.2.2=s.2.2))
 else if k=4 then !t.1 else true
def fitR (k:Int) (l:List SyT):Nat->Nat->Nat
 | 0,n=>n
 | f+1,n=>if n<l.length/\fokB k (gtY l 0) (gtY l n) n=true then fitR k l f (n+1) else n
theorem qxt {m:Int} (hm:m<16777216) {k:Int} (hk:kOK k) {l:List SyT} (hr:∀ s∈l,sOK m s=true) {n:Nat} (hn:n<l.length) (hl:l.length<=65536) (h0:0<n->canB k (gtY l 0)=true) :
  (fokB k (gtY l 0) (gtY l n) n=true↔canB k (gtY l n)=true/\(k=1\/k=2->(gtY l n).2.1=(gtY l 0).2.1+n)/\(k=3->(gtY l n).2.2=(gtY l 0).2.2)):=by
 have ok:∀ j,j<l.length->sOK m (gtY l j)=true:=fun j hj=>by rw[qbi hj];exact hr _ (List.getElem_mem hj)
 have k0:=ok 0 (by omega);have kn:=ok n hn;have hz:n=0->gtY l n=gtY l 0:=fun h=>by rw[h]
 generalize gtY l n=t at *;generalize gtY l 0=s at *;have wrapN:s.1=true->IntKind.i64.wrap (s.2.1+(n:Int))=s.2.1+n:=fun o=>by
  have b:=qp1 k0 o;exact IntWalk.i64_in _ (by omega)
 have hs:canB k t=true->canB k s=true:=fun h=>by
  rcases Nat.eq_zero_or_pos n with e | e
  ·rw[<- hz e];exact h
  ·exact h0 e
 rcases (show k=1\/k=2\/k=3\/k=4 by unfold kOK at hk;omega) with e | e | e | e
 ·subst e;constructor
  ·intro h;simp[fokB] at h;rw[wrapN h.1.1] at h;exact ⟨by simp[canB,h],fun _=>h.1.2.2,fun q=>by omega⟩
  ·rintro ⟨h1,h2,_⟩;have o:=qdr (.inl rfl) (hs h1);have:=h2 (.inl rfl);simp[canB] at h1;simp[fokB,wrapN o,o,h1,this]
 ·subst e;constructor
  ·intro h;simp[fokB] at h;rw[wrapN h.1] at h;exact ⟨by simp[canB,h],fun _=>h.2.2,fun q=>by omega⟩
  ·rintro ⟨h1,h2,_⟩;have o:=qdr (.inr rfl) (hs h1);have:=h2 (.inr rfl);simp[canB] at h1;simp[fokB,wrapN o,o,h1,this]
 ·subst e;constructor
  ·intro h;simp[fokB] at h;exact ⟨by simp[canB,h],fun q=>by omega,fun _=>h.2.2⟩
  ·rintro ⟨h1,_,h3⟩;have o:=hs h1;have:=h3 rfl;simp[canB] at h1 o;simp[fokB,o,h1,this]
 ·subst e;constructor
  ·intro h;simp[fokB] at h;exact ⟨by simp[canB,h],fun q=>by omega,fun q=>by omega⟩
  ·rintro ⟨h1,_,_⟩;simp[canB] at h1;simp[fokB,h1]
theorem q5t {m:Int} (hm:m<16777216) {k:Int} (hk:kOK k) {l:List SyT} (hr:∀ s∈l,sOK m s=true) (hl:l.length<=65536):∀ (f n:Nat),l.length-n<=f->n<=fitN k l->fitR k l f n=fitN k l:=by
 have hi:=qsp hm (k:=k) hr;have hle:=qcd k l;intro f
 induction f with
 | zero=>
  intro n hf hn;rw[fitR];omega
 | succ f ih=>
  intro n hf hn;rw[fitR];by_cases hlt:n<fitN k l
  ·have h:=hi n hlt;rw[if_pos ⟨by omega,(qxt hm hk hr (by omega) hl fun _=>(hi 0 (by omega)).1).2 h⟩];exact ih (n+1) (by omega) (by omega)
  ·have e:n=fitN k l:=by omega
   rw[if_neg ?_]
   ·exact e
   ·rintro ⟨h1,h2⟩;have h:=(qxt hm hk hr h1 hl fun hp=>(hi 0 (by omega)).1).1 h2;have:=q2p hm (k:=k) (n:=n+1) hr (by omega) fun j hj=>by
     rcases Nat.lt_or_ge j n with q | q
     ·exact hi j (by omega)
     ·have:j=n:=by omega
      subst this;exact h
    omega
def xR (k:Int) (n:Nat) (l:List SyT):LiT:=(k,(n:Int),hdC k+eaC k*(n:Int)+cst (l.drop n),1+oct (l.drop n))
def rlt (x c:LiT):Bool:=decide (x.2.2.1<c.2.2.1) || (decide (x.2.2.1=c.2.2.1)&&decide (x.2.2.2<c.2.2.2))
def innS (k:Int) (n:Nat) (l:List SyT) (c:LiT × Bool):LiT × Bool:=if (!c.2 || rlt (xR k n l) c.1)=true then (xR k n l,true) else c
def innR (k:Int) (l:List SyT):Nat->LiT × Bool->LiT × Bool
 | 0,c=>c
 | n+1,c=>innR k l n (innS k (n+1) l c)
def kinR (k:Int) (l:List SyT) (c:LiT × Bool):LiT × Bool:=innR k l (fitN k l) c
def refB (l:List SyT):LiT:=(kinR 4 l (kinR 3 l (kinR 2 l (kinR 1 l (zLi,false))))).1
def prcd (l:List SyT) (k:Int) (n:Nat) (k':Int) (q:Nat):Prop:=kOK k'/\1<=q/\q<=fitN k' l/\(k'<k\/(k'=k/\n<q))
def invR (l:List SyT) (k:Int) (n:Nat) (c:LiT × Bool):Prop:=
 (c=(zLi,false)/\∀ k' q,¬ prcd l k n k' q)\/(c.2=true/\∃ q,prcd l k n c.1.1 q/\c.1=xR c.1.1 q l/\∀ k' r,prcd l k n k' r->keyL c.1.1 q l<=keyL k' r l)
theorem q1v (k:Int) (n:Nat) (l:List SyT):keyL k n l=(wB (xR k n l)*8+k)*1048576-(n:Int):=by
 have e:wB (xR k n l)=(hdC k+eaC k*(n:Int))*4294967296+1+wB (bst (l.drop n)):=by
  show (hdC k+eaC k*(n:Int)+(bst (l.drop n)).2.2.1)*4294967296+(1+(bst (l.drop n)).2.2.2)=_+((bst (l.drop n)).2.2.1*4294967296+(bst (l.drop n)).2.2.2)
  generalize eaC k*(n:Int)=e;omega
 rw[e];rfl
theorem q1u {l:List SyT} (hl:l.length<=65536) (k:Int) (n:Nat):0<=(xR k n l).2.2.2/\(xR k n l).2.2.2<4294967296:=by
 have h:=qmm (l.drop n) (by rw[List.length_drop];omega);rw[List.length_drop] at h;unfold boL at h
 show 0<=1+(bst (l.drop n)).2.2.2/\1+(bst (l.drop n)).2.2.2<4294967296
 omega
theorem rlt_w {x c:LiT} (hx:0<=x.2.2.2/\x.2.2.2<4294967296) (hc:0<=c.2.2.2/\c.2.2.2<4294967296):(rlt x c=true↔wB x<wB c):=by
 unfold rlt wB;simp only[Bool.or_eq_true,Bool.and_eq_true,decide_eq_true_eq];omega
theorem q0l {l:List SyT} (hl:l.length<=65536) {k:Int} (hk:kOK k) {n:Nat} (hn:n+1<=fitN k l) {c:LiT × Bool} (hc:invR l k (n+1) c):invR l k n (innS k (n+1) l c):=by
 have fl:=fun k=>qcd k l
 have me:prcd l k n k (n+1):=⟨hk,by omega,hn,.inr ⟨rfl,by omega⟩⟩;have more:∀ k' q,prcd l k n k' q->prcd l k (n+1) k' q\/(k'=k/\q=n+1):=fun k' q ⟨h1,h2,h3,h4⟩=>by
  rcases h4 with h | h
  ·exact .inl ⟨h1,h2,h3,.inl h⟩
  ·by_cases e:q=n+1
   ·exact .inr ⟨h.1,e⟩
   ·exact .inl ⟨h1,h2,h3,.inr ⟨h.1,by omega⟩⟩
 have less:∀ k' q,prcd l k (n+1) k' q->prcd l k n k' q:=fun k' q ⟨h1,h2,h3,h4⟩=>⟨h1,h2,h3,by omega⟩
 unfold innS;rcases hc with ⟨h1,h2⟩ | ⟨h1,q,h2,h3,h4⟩
 ·subst h1;rw[if_pos (show (!(zLi,false).2 || rlt (xR k (n+1) l) (zLi,false).1)=true from rfl)];refine .inr ⟨rfl,n+1,me,rfl,fun k' r h=>?_⟩;rcases more k' r h with h | ⟨h,h'⟩
  ·exact absurd h (h2 k' r)
  ·subst h;subst h';exact Int.le_refl _
 ·have ek:=q1v c.1.1 q l;have en:=q1v k (n+1) l;rw[<- h3] at ek;have f1:=fl k;have f2:=fl c.1.1;have hlt:=rlt_w (x:=xR k (n+1) l) (c:=c.1) (q1u hl k (n+1)) (by rw[h3];exact q1u hl _ _);obtain ⟨p1,p2,p3,p4⟩:=h2;rw[h1];simp only[Bool.not_true,Bool.false_or];by_cases hb:rlt (xR k (n+1) l) c.1=true
  ·rw[if_pos hb];have hw:=hlt.1 hb;refine .inr ⟨rfl,n+1,me,rfl,fun k' r h=>?_⟩
   show keyL k (n+1) l<=_
   rcases more k' r h with h | ⟨h,h'⟩
   ·have:=h4 k' r h;unfold kOK at hk p1;omega
   ·subst h;subst h';exact Int.le_refl _
  ·rw[if_neg hb];have hw:¬ wB (xR k (n+1) l)<wB c.1:=fun h=>hb (hlt.2 h)
   refine .inr ⟨h1,q,less _ _ ⟨p1,p2,p3,p4⟩,h3,fun k' r h=>?_⟩;rcases more k' r h with h | ⟨h,h'⟩
   ·exact h4 k' r h
   ·subst h;subst h';unfold kOK at hk p1;omega
theorem qsj {l:List SyT} (hl:l.length<=65536) {k:Int} (hk:kOK k):∀ (n:Nat) (c:LiT × Bool),n<=fitN k l->invR l k n c->invR l k 0 (innR k l n c)
 | 0,c,_,h=>h
 | n+1,c,hn,h=>qsj hl hk n _ (by omega) (q0l hl hk hn h)
theorem qjv {l:List SyT} (hl:l.length<=65536) {k:Int} (hk:kOK k) {c:LiT × Bool} (h:invR l (k-1) 0 c):invR l k 0 (kinR k l c):=by
 refine qsj hl hk _ _ (Nat.le_refl _) ?_;have e:∀ k' q,prcd l k (fitN k l) k' q↔prcd l (k-1) 0 k' q:=fun k' q=>by
  unfold prcd;constructor
  ·rintro ⟨h1,h2,h3,h4⟩;refine ⟨h1,h2,h3,?_⟩;rcases h4 with h | ⟨h,h'⟩
   ·omega
   ·subst h;omega
  ·rintro ⟨h1,h2,h3,h4⟩;exact ⟨h1,h2,h3,by omega⟩
 rcases h with ⟨h1,h2⟩ | ⟨h1,q,h2,h3,h4⟩
 ·exact .inl ⟨h1,fun k' q h=>h2 k' q ((e k' q).1 h)⟩
 ·exact .inr ⟨h1,q,(e _ _).2 h2,h3,fun k' r h=>h4 k' r ((e k' r).1 h)⟩
theorem q4i {l:List SyT} (hl:l.length<=65536):refB l=bst l:=by
 have h0:invR l 0 0 (zLi,false):=.inl ⟨rfl,fun k' q h=>by obtain ⟨h1,h2,h3,h4⟩:=h;unfold kOK at h1;omega⟩;have h1:=qjv hl (k:=1) (by unfold kOK;omega) h0;have h2:=qjv hl (k:=2) (by unfold kOK;omega) h1;have h3:=qjv hl (k:=3) (by unfold kOK;omega) h2;have h4:=qjv hl (k:=4) (by unfold kOK;omega) h3;have all:∀ k' q,kOK k'->1<=q->q<=fitN k' l->prcd l 4 0 k' q:=fun k' q a b c=>⟨a,b,c,by unfold kOK at a;omega⟩
 show (kinR 4 l (kinR 3 l (kinR 2 l (kinR 1 l (zLi,false))))).1=_
 generalize kinR 4 l (kinR 3 l (kinR 2 l (kinR 1 l (zLi,false))))=c at *;rcases h4 with ⟨q1,q2⟩ | ⟨q1,q,q2,q3,q4⟩
 ·rw[q1]
  cases l with
  | nil=>rfl
  | cons s r=>
   exfalso;rcases qso s r with h | h
   ·exact q2 2 1 (all 2 1 (by unfold kOK;omega) (by omega) h)
   ·exact q2 4 1 (all 4 1 (by unfold kOK;omega) (by omega) h)
 ·have hq:l≠[]:=fun h=>by subst h;have:=q2.2.2.1;rw[fitN] at this;have:=q2.2.1;omega
  obtain ⟨u1,u2⟩:=q9a hl q2.1 q2.2.1 q2.2.2.1 fun k' hk' m m1 m2=>q4 k' m (all k' m hk' m1 m2)
  obtain ⟨hb,n,n1,n2,n3,n4,n5,n6⟩:=qph hl hq;have en:n=q:=by omega
  subst en;rw[u1] at n5;rw[q3];unfold xR;rw[<- n5,<- n6,<- u1]
  show ((bst l).1,(n:Int),(bst l).2.2.1,(bst l).2.2.2)=bst l
  rw[<- u2]
end Go.Proofs.YticpkibnhakgbaaDoor
namespace Go.Proofs.YticpkibnhakgbaaDoor
open Go.Px Go.Ax
set_option maxRecDepth 100000
set_option maxRecDepth 100000
theorem vc_ft (k:Int) (l:List SyT) (Q:QT) (R:RT):sy tt G0 [] Tryd.f44.ntmps Tryd.f44.results.toList Q (fun it S=>R it (qao [0,1,5] [] S)) 1000 [.code (qae Tryd.f44)] (entry [iI,.sl syS] (k,l,())) =
  (R (hd Tryd.f44 0) { env:=[(0,.int .i64 k),(1,.sl syS l),(5,.int .i64 0)],blk:=[] }):=by kernel_rfl
def qeq (l:List SyT) (n:Nat):List (Nat × LB):=[(6,.var [.bool (gtY l (0)).1,.int .i64 (gtY l (0)).2.1,.int .u8 (gtY l (0)).2.2]),(7,.var [.bool (gtY l (n:Int).toNat).1,.int .i64 (gtY l (n:Int).toNat).2.1,.int .u8 (gtY l (n:Int).toNat).2.2])]
theorem qve (l:List SyT) (n:Nat) (Q:QT) (R:RT):sy tt G0 [] Tryd.f44.ntmps Tryd.f44.results.toList Q (fun it S=>R it (qao [0,1,5] [] S)) 1000 (hd Tryd.f44 0) ⟨[(0,.int .i64 1),(1,.sl syS l),(5,.int .i64 (n:Nat))],[]⟩ =
  (bc (decide ((n:Int)<(l.length:Int))) ((0:Int)<=0 /\
 (0:Int)<(l.length:Int) /\
 (0:Int)<=(n:Int) /\
 (n:Int)<(l.length:Int) /\
 bc (gtY l (0)).1 (bc (bif true then (gtY l (n:Int).toNat).1 else false) (bc (!bif true then decide ((gtY l (n:Int).toNat).2.1=IntKind.i64.wrap ((gtY l (0)).2.1+(n:Int))) else false) (true=true /\
 Q [.int .i64 (n:Int)] (qeq l n)) (bc (decide ((gtY l (n:Int).toNat).2.2≠0)) (Q [.int .i64 (n:Int)] (qeq l n)) (false=false /\
 false=false /\
 false=false /\
 R (hd Tryd.f44 0) { env:=[(0,.int .i64 1),(1,.sl syS l),(5,.int .i64 (IntKind.i64.wrap ((n:Int)+1)))],blk:=[] }))) (false=false /\
 true=true /\
 Q [.int .i64 (n:Int)] (qeq l n))) (false=false /\
 false=false /\
 true=true /\
 Q [.int .i64 (n:Int)] (qeq l n))) (Q [.int .i64 (n:Int)] [])):=by kernel_rfl
def qgz (l:List SyT) (n:Nat):List (Nat × LB):=[(6,.var [.bool (gtY l (0)).1,.int .i64 (gtY l (0)).2.1,.int .u8 (gtY l (0)).2.2]),(7,.var [.bool (gtY l (n:Int).toNat).1,.int .i64 (gtY l (n:Int).toNat).2.1,.int .u8 (gtY l (n:Int).toNat).2.2])]
theorem qvd (l:List SyT) (n:Nat) (Q:QT) (R:RT):sy tt G0 [] Tryd.f44.ntmps Tryd.f44.results.toList Q (fun it S=>R it (qao [0,1,5] [] S)) 1000 (hd Tryd.f44 0) ⟨[(0,.int .i64 2),(1,.sl syS l),(5,.int .i64 (n:Nat))],[]⟩ =
  (bc (decide ((n:Int)<(l.length:Int))) ((0:Int)<=0 /\
 (0:Int)<(l.length:Int) /\
 (0:Int)<=(n:Int) /\
 (n:Int)<(l.length:Int) /\
 bc (gtY l (0)).1 (bc (bif true then (gtY l (n:Int).toNat).1 else false) (false=false /\
 bc (bif true then !bif true then decide ((gtY l (n:Int).toNat).2.1=IntKind.i64.wrap ((gtY l (0)).2.1+(n:Int))) else false else false) (Q [.int .i64 (n:Int)] (qgz l n)) (false=false /\
 false=false /\
 R (hd Tryd.f44 0) { env:=[(0,.int .i64 2),(1,.sl syS l),(5,.int .i64 (IntKind.i64.wrap ((n:Int)+1)))],blk:=[] })) (false=false /\
 false=false /\
 Q [.int .i64 (n:Int)] (qgz l n))) (false=false /\
 false=false /\
 false=false /\
 Q [.int .i64 (n:Int)] (qgz l n))) (Q [.int .i64 (n:Int)] [])):=by kernel_rfl
def qbf (l:List SyT) (n:Nat):List (Nat × LB):=[(6,.var [.bool (gtY l (0)).1,.int .i64 (gtY l (0)).2.1,.int .u8 (gtY l (0)).2.2]),(7,.var [.bool (gtY l (n:Int).toNat).1,.int .i64 (gtY l (n:Int).toNat).2.1,.int .u8 (gtY l (n:Int).toNat).2.2])]
theorem qvc (l:List SyT) (n:Nat) (Q:QT) (R:RT):sy tt G0 [] Tryd.f44.ntmps Tryd.f44.results.toList Q (fun it S=>R it (qao [0,1,5] [] S)) 1000 (hd Tryd.f44 0) ⟨[(0,.int .i64 3),(1,.sl syS l),(5,.int .i64 (n:Nat))],[]⟩ =
  (bc (decide ((n:Int)<(l.length:Int))) ((0:Int)<=0 /\
 (0:Int)<(l.length:Int) /\
 (0:Int)<=(n:Int) /\
 (n:Int)<(l.length:Int) /\
 bc (gtY l (0)).1 (bc (bif true then (gtY l (n:Int).toNat).1 else false) (false=false /\
 false=false /\
 bc (gtY l (0)).1 (true=true /\
 true=true /\
 Q [.int .i64 (n:Int)] (qbf l n)) (bc (bif false then true else (gtY l (n:Int).toNat).1) (true=true /\
 Q [.int .i64 (n:Int)] (qbf l n)) (bc (decide ((gtY l (n:Int).toNat).2.2≠(gtY l (0)).2.2)) (Q [.int .i64 (n:Int)] (qbf l n)) (false=false /\
 R (hd Tryd.f44 0) { env:=[(0,.int .i64 3),(1,.sl syS l),(5,.int .i64 (IntKind.i64.wrap ((n:Int)+1)))],blk:=[] })))) (false=false /\
 false=false /\
 false=false /\
 bc (gtY l (0)).1 (true=true /\
 true=true /\
 Q [.int .i64 (n:Int)] (qbf l n)) (bc (bif false then true else (gtY l (n:Int).toNat).1) (true=true /\
 Q [.int .i64 (n:Int)] (qbf l n)) (bc (decide ((gtY l (n:Int).toNat).2.2≠(gtY l (0)).2.2)) (Q [.int .i64 (n:Int)] (qbf l n)) (false=false /\
 R (hd Tryd.f44 0) { env:=[(0,.int .i64 3),(1,.sl syS l),(5,.int .i64 (IntKind.i64.wrap ((n:Int)+1)))],blk:=[] }))))) (false=false /\
 false=false /\
 false=false /\
 false=false /\
 bc (gtY l (0)).1 (true=true /\
 true=true /\
 Q [.int .i64 (n:Int)] (qbf l n)) (bc (bif false then true else (gtY l (n:Int).toNat).1) (true=true /\
 Q [.int .i64 (n:Int)] (qbf l n)) (bc (decide ((gtY l (n:Int).toNat).2.2≠(gtY l (0)).2.2)) (Q [.int .i64 (n:Int)] (qbf l n)) (false=false /\
 R (hd Tryd.f44 0) { env:=[(0,.int .i64 3),(1,.sl syS l),(5,.int .i64 (IntKind.i64.wrap ((n:Int)+1)))],blk:=[] }))))) (Q [.int .i64 (n:Int)] [])):=by kernel_rfl
def qgy (l:List SyT) (n:Nat):List (Nat × LB):=[(6,.var [.bool (gtY l (0)).1,.int .i64 (gtY l (0)).2.1,.int .u8 (gtY l (0)).2.2]),(7,.var [.bool (gtY l (n:Int).toNat).1,.int .i64 (gtY l (n:Int).toNat).2.1,.int .u8 (gtY l (n:Int).toNat).2.2])]
theorem qvb (l:List SyT) (n:Nat) (Q:QT) (R:RT):sy tt G0 [] Tryd.f44.ntmps Tryd.f44.results.toList Q (fun it S=>R it (qao [0,1,5] [] S)) 1000 (hd Tryd.f44 0) ⟨[(0,.int .i64 4),(1,.sl syS l),(5,.int .i64 (n:Nat))],[]⟩ =
  (bc (decide ((n:Int)<(l.length:Int))) ((0:Int)<=0 /\
 (0:Int)<(l.length:Int) /\
 (0:Int)<=(n:Int) /\
 (n:Int)<(l.length:Int) /\
 bc (gtY l (0)).1 (bc (bif true then (gtY l (n:Int).toNat).1 else false) (false=false /\
 false=false /\
 false=false /\
 bc (bif true then (gtY l (n:Int).toNat).1 else false) (Q [.int .i64 (n:Int)] (qgy l n)) (R (hd Tryd.f44 0) { env:=[(0,.int .i64 4),(1,.sl syS l),(5,.int .i64 (IntKind.i64.wrap ((n:Int)+1)))],blk:=[] })) (false=false /\
 false=false /\
 false=false /\
 false=false /\
 bc (bif true then (gtY l (n:Int).toNat).1 else false) (Q [.int .i64 (n:Int)] (qgy l n)) (R (hd Tryd.f44 0) { env:=[(0,.int .i64 4),(1,.sl syS l),(5,.int .i64 (IntKind.i64.wrap ((n:Int)+1)))],blk:=[] }))) (false=false /\
 false=false /\
 false=false /\
 false=false /\
 false=false /\
 bc (bif true then (gtY l (n:Int).toNat).1 else false) (Q [.int .i64 (n:Int)] (qgy l n)) (R (hd Tryd.f44 0) { env:=[(0,.int .i64 4),(1,.sl syS l),(5,.int .i64 (IntKind.i64.wrap ((n:Int)+1)))],blk:=[] }))) (Q [.int .i64 (n:Int)] [])):=by kernel_rfl
theorem vc_pr (k n:Int) (Q:QT) (R:RT):sy tt G0 [(54,.inl ctOpc)] Tryd.f45.ntmps Tryd.f45.results.toList Q R 1000 [.code (qae Tryd.f45)] (entry [iI,iI] (k,n,())) =
  (ctOpc.pre ((k,(0:Int),n,(0:Int),[]),()) /\
 Q [.int .i64 (cN k.toNat (k,(0:Int),n,(0:Int),[]))] []):=by kernel_rfl
end Go.Proofs.YticpkibnhakgbaaDoor
namespace Go.Proofs.YticpkibnhakgbaaDoor
open Go.Px Go.Ax
set_option maxRecDepth 100000
attribute [local irreducible] Go.Px.sy Go.Px.syE
def q78 (k:Int) (l:List SyT):Prop:=kOK k/\l.length<=65536/\∃ m:Int,m<16777216/\∀ s∈l,sOK m s=true
def ctFt:Ctr:=⟨[iI,.sl syS],fun x=>q78 x.1 x.2.1,fun x=>[.int .i64 (fitN x.1 x.2.1:Nat)],fun _=>[]⟩
abbrev FtQ (n:Nat):List SV->List (Nat × LB)->Prop:=fun rs _=>rs=[.int .i64 (n:Nat)]
theorem q5q (k:Int) (hk:kOK k) (l:List SyT) (hl:l.length<=65536):∀ (f n:Nat),l.length-n=f->n<=l.length ->
  GD 44 Tryd.f44 (FtQ (fitR k l f n)) (hd Tryd.f44 0) ⟨[(0,.int .i64 k),(1,.sl syS l),(5,.int .i64 (n:Nat))],[]⟩:=by
 intro f
 induction f with
 | zero=>
  intro n hf hn;rw[fitR];have e:¬ (n:Int)<(l.length:Int):=by omega
  rcases (show k=1\/k=2\/k=3\/k=4 by unfold kOK at hk;omega) with h | h | h | h
  ·subst h;refine qai cx0 (qve l n _ _) ?_;rw[decide_eq_false e,bc_f]
  ·subst h;refine qai cx0 (qvd l n _ _) ?_;rw[decide_eq_false e,bc_f]
  ·subst h;refine qai cx0 (qvc l n _ _) ?_;rw[decide_eq_false e,bc_f]
  ·subst h;refine qai cx0 (qvb l n _ _) ?_;rw[decide_eq_false e,bc_f]
 | succ f ih=>
  intro n hf hn;have nx:=ih (n+1) (by omega) (by omega);have hlt:n<l.length:=by omega
  have w:IntKind.i64.wrap ((n:Int)+1)=((n+1:Nat):Int):=by rw[IntWalk.i64_in _ (by omega)];omega
  have stop:fokB k (gtY l 0) (gtY l n) n=false->[SV.int .i64 (n:Nat)]=[SV.int .i64 ((fitR k l (f+1) n:Nat):Int)]:=fun h=>by rw[fitR,if_neg (by rw[h];simp)]
  have go:fokB k (gtY l 0) (gtY l n) n=true->fitR k l (f+1) n=fitR k l f (n+1):=fun h=>by rw[fitR,if_pos ⟨hlt,h⟩]
  have e:decide ((n:Int)<(l.length:Int))=true:=decide_eq_true (by omega);have nk:fokB k (gtY l 0) (gtY l n) n=true->GD 44 Tryd.f44 (FtQ (fitR k l (f+1) n)) (hd Tryd.f44 0) ⟨[(0,.int .i64 k),(1,.sl syS l),(5,.int .i64 ((n+1:Nat):Int))],[]⟩:=fun h=>by rw[go h];exact nx
  generalize fitR k l (f+1) n=q at *;clear nx ih go;rcases (show k=1\/k=2\/k=3\/k=4 by unfold kOK at hk;omega) with h | h | h | h
  ·subst h;refine qai cx0 (qve l n _ _) ?_;rw[e,bc_t,Int.toNat_natCast,w];generalize gtY l n=t at *;generalize gtY l 0=s at *;refine ⟨by omega,by omega,by omega,by omega,?_⟩
   repeat' first
    | exact stop (by simp_all [fokB])
    | exact (nk (by simp_all [fokB])).only ⟨rfl,rfl,rfl,trivial⟩ trivial
    | refine ⟨rfl,?_⟩
    | refine qaf (fun h=>?_) (fun h=>?_)
  ·subst h;refine qai cx0 (qvd l n _ _) ?_;rw[e,bc_t,Int.toNat_natCast,w];generalize gtY l n=t at *;generalize gtY l 0=s at *;refine ⟨by omega,by omega,by omega,by omega,?_⟩
   repeat' first
    | exact stop (by simp_all [fokB])
    | exact (nk (by simp_all [fokB])).only ⟨rfl,rfl,rfl,trivial⟩ trivial
    | refine ⟨rfl,?_⟩
    | refine qaf (fun h=>?_) (fun h=>?_)
  ·subst h;refine qai cx0 (qvc l n _ _) ?_;rw[e,bc_t,Int.toNat_natCast,w];generalize gtY l n=t at *;generalize gtY l 0=s at *;refine ⟨by omega,by omega,by omega,by omega,?_⟩
   repeat' first
    | exact stop (by simp_all [fokB])
    | exact (nk (by simp_all [fokB])).only ⟨rfl,rfl,rfl,trivial⟩ trivial
    | refine ⟨rfl,?_⟩
    | refine qaf (fun h=>?_) (fun h=>?_)
  ·subst h;refine qai cx0 (qvb l n _ _) ?_;rw[e,bc_t,Int.toNat_natCast,w];generalize gtY l n=t at *;generalize gtY l 0=s at *;refine ⟨by omega,by omega,by omega,by omega,?_⟩
   repeat' first
    | exact stop (by simp_all [fokB])
    | exact (nk (by simp_all [fokB])).only ⟨rfl,rfl,rfl,trivial⟩ trivial
    | refine ⟨rfl,?_⟩
    | refine qaf (fun h=>?_) (fun h=>?_)
theorem q8q (k:Int) (l:List SyT) (hp:q78 k l):GD 44 Tryd.f44 (QC ctFt (k,l,())) [.code (qae Tryd.f44)] (entry [iI,.sl syS] (k,l,())):=by
 obtain ⟨hk,hl,m,hm,hr⟩:=hp;have h:=q5q k hk l hl l.length 0 (by omega) (Nat.zero_le _);rw[q5t hm hk hr hl l.length 0 (by omega) (Nat.zero_le _)] at h;exact qai cx0 (vc_ft k l _ _) ((h.post fun rs blk hq=>QC.flat (by rw[hq];rfl) rfl (by rw[hq];rfl)).only ⟨rfl,rfl,rfl,trivial⟩ trivial)
theorem q5r:Held Tryd.prog G0 44 ctFt:=Held.of cx0 (fn:=Tryd.f44) rfl rfl ⟨by decide,by decide⟩ fun ⟨k,l,_⟩ hp=>q8q k l hp
def qzw (k n:Int):Prop:=kOK k/\0<=n/\n<=65536
def ctPr:Ctr:=⟨[iI,iI],fun x=>qzw x.1 x.2.1,fun x=>[.int .i64 (hdC x.1+eaC x.1*x.2.1)],fun _=>[]⟩
theorem q79 {k n:Int} (h:qzw k n):cN k.toNat ((k,0,n,0,[]):OpT)=hdC k+eaC k*n:=by
 obtain ⟨hk,h0,h1⟩:=h;rcases (show k=1\/k=2\/k=3\/k=4 by unfold kOK at hk;omega) with e | e | e | e
 ·subst e;show (4:Int)=hdC 1+eaC 1*_;simp[hdC,eaC]
 ·subst e
  show IntKind.i64.wrap (4+n)=_
  rw[IntWalk.i64_in _ (by omega)];simp[hdC,eaC]
 ·subst e;show (4:Int)=hdC 3+eaC 3*_;simp[hdC,eaC]
 ·subst e
  show IntKind.i64.wrap (2+n)=_
  rw[IntWalk.i64_in _ (by omega)];simp[hdC,eaC]
theorem q8a (k n:Int) (h:qzw k n) (R:List Item->PS->Prop):sy tt G0 [(54,.inl ctOpc)] Tryd.f45.ntmps Tryd.f45.results.toList (QC ctPr (k,n,())) R 1000 [.code (qae Tryd.f45)] (entry [iI,iI] (k,n,())):=by
 refine (vc_pr k n _ _).mpr ⟨trivial,?_⟩;rw[q79 h];exact QC.flat rfl rfl rfl
theorem q4q:Held Tryd.prog G0 45 ctPr:=Held.run cxOpc (fn:=Tryd.f45) rfl rfl ⟨by decide,by decide⟩ fun ⟨k,n,_⟩ hp=>q8a k n hp _
end Go.Proofs.YticpkibnhakgbaaDoor
namespace Go.Proofs.YticpkibnhakgbaaDoor
open Go.Px Go.Ax
set_option maxRecDepth 100000
def opK (k:Int) (l:List SyT):OpT:=(k,if k=1\/k=2 then (gtY l 0).2.1 else 0,(l.length:Int),if k=3 then (gtY l 0).2.2 else 0,if k=2\/k=4 then l.map fun s=>s.2.2 else [])
def ctO8:Ctr:=⟨[iI,.sl syS],fun x=>qtt x.1 x.2.1,fun x=>mdV (opK x.1 x.2.1),fun _=>[]⟩
set_option maxRecDepth 100000
theorem q64 (l:List SyT) (Q:QT) (R:RT):sy tt G0 [] Tryd.f58.ntmps Tryd.f58.results.toList Q (fun it S=>R it (qao [0,1,4,5,6] [4,5,51] S)) 1000 [.code (qae Tryd.f58)] (entry [iI,.sl syS] ((1:Int),l,())) =
  (true=true /\
 (0:Int)<=0 /\
 (0:Int)<(l.length:Int) /\
 R (hd Tryd.f58 0) { env:=[(0,.int .i64 1),(1,.sl syS l),(4,.ptr 4 0),(5,.ptr 5 0),(6,.int .i64 0)],blk:=[(4,.var [.int .i64 0,.int .i64 0,.int .i64 0,.int .u8 0,.nils]),(5,.var [.int .i64 1,.int .i64 (gtY l (0)).2.1,.int .i64 (l.length:Int),.int .u8 0,.nils])] }):=by kernel_rfl
theorem q63 (l:List SyT) (Q:QT) (R:RT):sy tt G0 [] Tryd.f58.ntmps Tryd.f58.results.toList Q (fun it S=>R it (qao [0,1,4,5,6] [4,5,51] S)) 1000 [.code (qae Tryd.f58)] (entry [iI,.sl syS] ((2:Int),l,())) =
  ((0:Int)<=0 /\
 (0:Int)<(l.length:Int) /\
 R (hd Tryd.f58 0) { env:=[(0,.int .i64 2),(1,.sl syS l),(4,.ptr 4 0),(5,.ptr 5 0),(6,.int .i64 0)],blk:=[(4,.var [.int .i64 0,.int .i64 0,.int .i64 0,.int .u8 0,.nils]),(5,.var [.int .i64 2,.int .i64 (gtY l (0)).2.1,.int .i64 (l.length:Int),.int .u8 0,.nils])] }):=by kernel_rfl
theorem q62 (l:List SyT) (Q:QT) (R:RT):sy tt G0 [] Tryd.f58.ntmps Tryd.f58.results.toList Q (fun it S=>R it (qao [0,1,4,5,6] [4,5,51] S)) 1000 [.code (qae Tryd.f58)] (entry [iI,.sl syS] ((3:Int),l,())) =
  ((0:Int)<=0 /\
 (0:Int)<(l.length:Int) /\
 R (hd Tryd.f58 0) { env:=[(0,.int .i64 3),(1,.sl syS l),(4,.ptr 4 0),(5,.ptr 5 0),(6,.int .i64 0)],blk:=[(4,.var [.int .i64 0,.int .i64 0,.int .i64 0,.int .u8 0,.nils]),(5,.var [.int .i64 3,.int .i64 0,.int .i64 (l.length:Int),.int .u8 (gtY l (0)).2.2,.nils])] }):=by kernel_rfl
theorem q61 (l:List SyT) (Q:QT) (R:RT):sy tt G0 [] Tryd.f58.ntmps Tryd.f58.results.toList Q (fun it S=>R it (qao [0,1,4,5,6] [4,5,51] S)) 1000 [.code (qae Tryd.f58)] (entry [iI,.sl syS] ((4:Int),l,())) =
  (R (hd Tryd.f58 0) { env:=[(0,.int .i64 4),(1,.sl syS l),(4,.ptr 4 0),(5,.ptr 5 0),(6,.int .i64 0)],blk:=[(4,.var [.int .i64 0,.int .i64 0,.int .i64 0,.int .u8 0,.nils]),(5,.var [.int .i64 4,.int .i64 0,.int .i64 (l.length:Int),.int .u8 0,.nils])] }):=by kernel_rfl
def ql8 (a b:Int) (l:List SyT):List (Nat × LB):=[(4,.var [.int .i64 1,.int .i64 a,.int .i64 (l.length:Int),.int .u8 b,.nils]),(5,.var [.int .i64 1,.int .i64 a,.int .i64 (l.length:Int),.int .u8 b,.nils])]
theorem q7a (a b:Int) (l:List SyT) (i:Nat) (Q:QT) (R:RT):sy tt G0 [] Tryd.f58.ntmps Tryd.f58.results.toList Q (fun it S=>R it (qao [0,1,4,5,6] [4,5,51] S)) 1000 (hd Tryd.f58 0) ⟨[(0,.int .i64 1),(1,.sl syS l),(4,.ptr 4 0),(5,.ptr 5 0),(6,.int .i64 (i:Nat))],[(4,.var [.int .i64 0,.int .i64 0,.int .i64 0,.int .u8 0,.nils]),(5,.var [.int .i64 1,.int .i64 a,.int .i64 l.length,.int .u8 b,.nils])]⟩ =
  (bc (decide ((i:Int)<(l.length:Int))) (Q [.agg [.int .i64 1,.int .i64 a,.int .i64 (l.length:Int),.int .u8 b,.nils]] (ql8 a b l)) (false=false /\
 Q [.agg [.int .i64 1,.int .i64 a,.int .i64 (l.length:Int),.int .u8 b,.nils]] (ql8 a b l))):=by kernel_rfl
theorem q69 (a b:Int) (l:List SyT) (i:Nat) (Q:QT) (R:RT):sy tt G0 [] Tryd.f58.ntmps Tryd.f58.results.toList Q (fun it S=>R it (qao [0,1,4,5,6] [4,5,51] S)) 1000 (hd Tryd.f58 0) ⟨[(0,.int .i64 2),(1,.sl syS l),(4,.ptr 4 0),(5,.ptr 5 0),(6,.int .i64 (i:Nat))],[(4,.var [.int .i64 0,.int .i64 0,.int .i64 0,.int .u8 0,.nils]),(5,.var [.int .i64 2,.int .i64 a,.int .i64 l.length,.int .u8 b,.nils])]⟩ =
  (bc (decide ((i:Int)<(l.length:Int))) (true=true /\
 (0:Int)<=(i:Int) /\
 (i:Int)<(l.length:Int) /\
 0+1<=((List.replicate (1:Nat) uB.dflt).set (0:Nat) (gtY l (i:Int).toNat).2.2).length /\
 (winL uB 0 1 ((List.replicate (1:Nat) uB.dflt).set (0:Nat) (gtY l (i:Int).toNat).2.2)).length<2 ^ 30 /\
 (1:Nat)<=2 ^ 10 /\
 R (hd Tryd.f58 0) { env:=[(0,.int .i64 2),(1,.sl syS l),(4,.ptr 4 0),(5,.ptr 5 0),(6,.int .i64 (IntKind.i64.wrap ((i:Int)+1)))],blk:=[(4,.var [.int .i64 0,.int .i64 0,.int .i64 0,.int .u8 0,.nils]),(5,.var [.int .i64 2,.int .i64 a,.int .i64 (l.length:Int),.int .u8 b,.win true uB 51 0 (1:Nat)]),(51,.row 5 uB (winL uB 0 1 ((List.replicate (1:Nat) uB.dflt).set (0:Nat) (gtY l (i:Int).toNat).2.2)))] }) (false=false /\
 Q [.agg [.int .i64 2,.int .i64 a,.int .i64 (l.length:Int),.int .u8 b,.nils]] [(4,.var [.int .i64 2,.int .i64 a,.int .i64 (l.length:Int),.int .u8 b,.nils]),(5,.var [.int .i64 2,.int .i64 a,.int .i64 (l.length:Int),.int .u8 b,.nils])])):=by kernel_rfl
def ql7 (a b:Int) (l:List SyT):List (Nat × LB):=[(4,.var [.int .i64 3,.int .i64 a,.int .i64 (l.length:Int),.int .u8 b,.nils]),(5,.var [.int .i64 3,.int .i64 a,.int .i64 (l.length:Int),.int .u8 b,.nils])]
theorem q68 (a b:Int) (l:List SyT) (i:Nat) (Q:QT) (R:RT):sy tt G0 [] Tryd.f58.ntmps Tryd.f58.results.toList Q (fun it S=>R it (qao [0,1,4,5,6] [4,5,51] S)) 1000 (hd Tryd.f58 0) ⟨[(0,.int .i64 3),(1,.sl syS l),(4,.ptr 4 0),(5,.ptr 5 0),(6,.int .i64 (i:Nat))],[(4,.var [.int .i64 0,.int .i64 0,.int .i64 0,.int .u8 0,.nils]),(5,.var [.int .i64 3,.int .i64 a,.int .i64 l.length,.int .u8 b,.nils])]⟩ =
  (bc (decide ((i:Int)<(l.length:Int))) (Q [.agg [.int .i64 3,.int .i64 a,.int .i64 (l.length:Int),.int .u8 b,.nils]] (ql7 a b l)) (false=false /\
 Q [.agg [.int .i64 3,.int .i64 a,.int .i64 (l.length:Int),.int .u8 b,.nils]] (ql7 a b l))):=by kernel_rfl
theorem q67 (a b:Int) (l:List SyT) (i:Nat) (Q:QT) (R:RT):sy tt G0 [] Tryd.f58.ntmps Tryd.f58.results.toList Q (fun it S=>R it (qao [0,1,4,5,6] [4,5,51] S)) 1000 (hd Tryd.f58 0) ⟨[(0,.int .i64 4),(1,.sl syS l),(4,.ptr 4 0),(5,.ptr 5 0),(6,.int .i64 (i:Nat))],[(4,.var [.int .i64 0,.int .i64 0,.int .i64 0,.int .u8 0,.nils]),(5,.var [.int .i64 4,.int .i64 a,.int .i64 l.length,.int .u8 b,.nils])]⟩ =
  (bc (decide ((i:Int)<(l.length:Int))) ((0:Int)<=(i:Int) /\
 (i:Int)<(l.length:Int) /\
 0+1<=((List.replicate (1:Nat) uB.dflt).set (0:Nat) (gtY l (i:Int).toNat).2.2).length /\
 (winL uB 0 1 ((List.replicate (1:Nat) uB.dflt).set (0:Nat) (gtY l (i:Int).toNat).2.2)).length<2 ^ 30 /\
 (1:Nat)<=2 ^ 10 /\
 R (hd Tryd.f58 0) { env:=[(0,.int .i64 4),(1,.sl syS l),(4,.ptr 4 0),(5,.ptr 5 0),(6,.int .i64 (IntKind.i64.wrap ((i:Int)+1)))],blk:=[(4,.var [.int .i64 0,.int .i64 0,.int .i64 0,.int .u8 0,.nils]),(5,.var [.int .i64 4,.int .i64 a,.int .i64 (l.length:Int),.int .u8 b,.win true uB 51 0 (1:Nat)]),(51,.row 5 uB (winL uB 0 1 ((List.replicate (1:Nat) uB.dflt).set (0:Nat) (gtY l (i:Int).toNat).2.2)))] }) (false=false /\
 Q [.agg [.int .i64 4,.int .i64 a,.int .i64 (l.length:Int),.int .u8 b,.nils]] [(4,.var [.int .i64 4,.int .i64 a,.int .i64 (l.length:Int),.int .u8 b,.nils]),(5,.var [.int .i64 4,.int .i64 a,.int .i64 (l.length:Int),.int .u8 b,.nils])])):=by kernel_rfl
theorem q66 (a b:Int) (d:List Int) (l:List SyT) (i:Nat) (Q:QT) (R:RT):sy tt G0 [] Tryd.f58.ntmps Tryd.f58.results.toList Q (fun it S=>R it (qao [0,1,4,5,6] [4,5,51] S)) 1000 (hd Tryd.f58 0) ⟨[(0,.int .i64 2),(1,.sl syS l),(4,.ptr 4 0),(5,.ptr 5 0),(6,.int .i64 (i:Nat))],[(4,.var [.int .i64 0,.int .i64 0,.int .i64 0,.int .u8 0,.nils]),(5,.var [.int .i64 2,.int .i64 a,.int .i64 l.length,.int .u8 b,.win true uB 51 0 d.length]),(51,.row 5 uB d)]⟩ =
  (bc (decide ((i:Int)<(l.length:Int))) (true=true /\
 (0:Int)<=(i:Int) /\
 (i:Int)<(l.length:Int) /\
 0+1<=((List.replicate (1:Nat) uB.dflt).set (0:Nat) (gtY l (i:Int).toNat).2.2).length /\
 d.length=d.length /\
 (0:Nat)=(0:Nat) /\
 d.length+(winL uB 0 1 ((List.replicate (1:Nat) uB.dflt).set (0:Nat) (gtY l (i:Int).toNat).2.2)).length<2 ^ 30 /\
 (1:Nat)<=2 ^ 10 /\
 R (hd Tryd.f58 0) { env:=[(0,.int .i64 2),(1,.sl syS l),(4,.ptr 4 0),(5,.ptr 5 0),(6,.int .i64 (IntKind.i64.wrap ((i:Int)+1)))],blk:=[(4,.var [.int .i64 0,.int .i64 0,.int .i64 0,.int .u8 0,.nils]),(5,.var [.int .i64 2,.int .i64 a,.int .i64 (l.length:Int),.int .u8 b,.win true uB 51 0 (d.length+(winL uB 0 1 ((List.replicate (1:Nat) uB.dflt).set (0:Nat) (gtY l (i:Int).toNat).2.2)).length)]),(51,.row 5 uB (d++winL uB 0 1 ((List.replicate (1:Nat) uB.dflt).set (0:Nat) (gtY l (i:Int).toNat).2.2)))] }) (false=false /\
 Q [.agg [.int .i64 2,.int .i64 a,.int .i64 (l.length:Int),.int .u8 b,.win true uB 51 0 d.length]] [(4,.var [.int .i64 2,.int .i64 a,.int .i64 (l.length:Int),.int .u8 b,.win true uB 51 0 d.length]),(5,.var [.int .i64 2,.int .i64 a,.int .i64 (l.length:Int),.int .u8 b,.win true uB 51 0 d.length]),(51,.row 5 uB d)])):=by kernel_rfl
theorem q60 (a b:Int) (d:List Int) (l:List SyT) (i:Nat) (Q:QT) (R:RT):sy tt G0 [] Tryd.f58.ntmps Tryd.f58.results.toList Q (fun it S=>R it (qao [0,1,4,5,6] [4,5,51] S)) 1000 (hd Tryd.f58 0) ⟨[(0,.int .i64 2),(1,.sl syS l),(4,.ptr 4 0),(5,.ptr 5 0),(6,.int .i64 (i:Nat))],[(4,.var [.int .i64 0,.int .i64 0,.int .i64 0,.int .u8 0,.nils]),(5,.var [.int .i64 2,.int .i64 a,.int .i64 l.length,.int .u8 b,.sl uB d])]⟩ =
  (bc (decide ((i:Int)<(l.length:Int))) (true=true /\
 (0:Int)<=(i:Int) /\
 (i:Int)<(l.length:Int) /\
 False) (false=false /\
 Q [.agg [.int .i64 2,.int .i64 a,.int .i64 (l.length:Int),.int .u8 b,.sl uB d]] [(4,.var [.int .i64 2,.int .i64 a,.int .i64 (l.length:Int),.int .u8 b,.sl uB d]),(5,.var [.int .i64 2,.int .i64 a,.int .i64 (l.length:Int),.int .u8 b,.sl uB d])])):=by kernel_rfl
theorem q65 (a b:Int) (d:List Int) (l:List SyT) (i:Nat) (Q:QT) (R:RT):sy tt G0 [] Tryd.f58.ntmps Tryd.f58.results.toList Q (fun it S=>R it (qao [0,1,4,5,6] [4,5,51] S)) 1000 (hd Tryd.f58 0) ⟨[(0,.int .i64 4),(1,.sl syS l),(4,.ptr 4 0),(5,.ptr 5 0),(6,.int .i64 (i:Nat))],[(4,.var [.int .i64 0,.int .i64 0,.int .i64 0,.int .u8 0,.nils]),(5,.var [.int .i64 4,.int .i64 a,.int .i64 l.length,.int .u8 b,.win true uB 51 0 d.length]),(51,.row 5 uB d)]⟩ =
  (bc (decide ((i:Int)<(l.length:Int))) ((0:Int)<=(i:Int) /\
 (i:Int)<(l.length:Int) /\
 0+1<=((List.replicate (1:Nat) uB.dflt).set (0:Nat) (gtY l (i:Int).toNat).2.2).length /\
 d.length=d.length /\
 (0:Nat)=(0:Nat) /\
 d.length+(winL uB 0 1 ((List.replicate (1:Nat) uB.dflt).set (0:Nat) (gtY l (i:Int).toNat).2.2)).length<2 ^ 30 /\
 (1:Nat)<=2 ^ 10 /\
 R (hd Tryd.f58 0) { env:=[(0,.int .i64 4),(1,.sl syS l),(4,.ptr 4 0),(5,.ptr 5 0),(6,.int .i64 (IntKind.i64.wrap ((i:Int)+1)))],blk:=[(4,.var [.int .i64 0,.int .i64 0,.int .i64 0,.int .u8 0,.nils]),(5,.var [.int .i64 4,.int .i64 a,.int .i64 (l.length:Int),.int .u8 b,.win true uB 51 0 (d.length+(winL uB 0 1 ((List.replicate (1:Nat) uB.dflt).set (0:Nat) (gtY l (i:Int).toNat).2.2)).length)]),(51,.row 5 uB (d++winL uB 0 1 ((List.replicate (1:Nat) uB.dflt).set (0:Nat) (gtY l (i:Int).toNat).2.2)))] }) (false=false /\
 Q [.agg [.int .i64 4,.int .i64 a,.int .i64 (l.length:Int),.int .u8 b,.win true uB 51 0 d.length]] [(4,.var [.int .i64 4,.int .i64 a,.int .i64 (l.length:Int),.int .u8 b,.win true uB 51 0 d.length]),(5,.var [.int .i64 4,.int .i64 a,.int .i64 (l.length:Int),.int .u8 b,.win true uB 51 0 d.length]),(51,.row 5 uB d)])):=by kernel_rfl
theorem q6z (a b:Int) (d:List Int) (l:List SyT) (i:Nat) (Q:QT) (R:RT):sy tt G0 [] Tryd.f58.ntmps Tryd.f58.results.toList Q (fun it S=>R it (qao [0,1,4,5,6] [4,5,51] S)) 1000 (hd Tryd.f58 0) ⟨[(0,.int .i64 4),(1,.sl syS l),(4,.ptr 4 0),(5,.ptr 5 0),(6,.int .i64 (i:Nat))],[(4,.var [.int .i64 0,.int .i64 0,.int .i64 0,.int .u8 0,.nils]),(5,.var [.int .i64 4,.int .i64 a,.int .i64 l.length,.int .u8 b,.sl uB d])]⟩ =
  (bc (decide ((i:Int)<(l.length:Int))) ((0:Int)<=(i:Int) /\
 (i:Int)<(l.length:Int) /\
 False) (false=false /\
 Q [.agg [.int .i64 4,.int .i64 a,.int .i64 (l.length:Int),.int .u8 b,.sl uB d]] [(4,.var [.int .i64 4,.int .i64 a,.int .i64 (l.length:Int),.int .u8 b,.sl uB d]),(5,.var [.int .i64 4,.int .i64 a,.int .i64 (l.length:Int),.int .u8 b,.sl uB d])])):=by kernel_rfl
end Go.Proofs.YticpkibnhakgbaaDoor
namespace Go.Proofs.YticpkibnhakgbaaDoor
open Go.Px Go.Ax
set_option maxRecDepth 100000
attribute [local irreducible] Go.Px.sy Go.Px.syE
abbrev bL (l:List SyT):List Int:=l.map fun s=>s.2.2
theorem qpk (l:List SyT):(bL l).length=l.length:=by simp
theorem q1d {l:List SyT} {i:Nat} (h:i<l.length):(bL l).take (i+1)=(bL l).take i++[(gtY l i).2.2]:=by
 rw[List.take_succ_eq_append_getElem (show i<(bL l).length by rw[qpk];omega),qbi h];simp
abbrev O8Q (k a b:Int) (l:List SyT) (d:List Int):List SV->List (Nat × LB)->Prop:=fun rs _=>rs=[.agg [.int .i64 k,.int .i64 a,.int .i64 l.length,.int .u8 b,.sl uB d]]
section
variable (a b:Int) (l:List SyT) (hl:l.length<16777216)
include hl
theorem o8B2:∀ (c i:Nat),l.length-i=c->1<=i->i<=l.length ->
  GD 58 Tryd.f58 (O8Q 2 a b l (bL l)) (hd Tryd.f58 0) ⟨[(0,.int .i64 2),(1,.sl syS l),(4,.ptr 4 0),(5,.ptr 5 0),(6,.int .i64 (i:Nat))],[(4,.var [.int .i64 0,.int .i64 0,.int .i64 0,.int .u8 0,.nils]),(5,.var [.int .i64 2,.int .i64 a,.int .i64 l.length,.int .u8 b,.win true uB 51 0 ((bL l).take i).length]),(51,.row 5 uB ((bL l).take i))]⟩:=by
 intro c
 induction c with
 | zero=>
  intro i hc h1 hi;have hi:i=l.length:=by omega
  subst hi;have e:(bL l).take l.length=bL l:=List.take_of_length_le (by rw[qpk];omega);rw[e];refine Good.frz (i:=51) (e:=uB) (et:=5) (xs:=bL l) rfl (fun c hc=>?_) ?_
  ·have hc:c∈[0+(bL l).length<=(bL l).length]:=hc;rw[List.mem_singleton] at hc;subst hc;omega
  ·have e:GD 58 Tryd.f58 (O8Q 2 a b l (bL l)) (hd Tryd.f58 0) ⟨[(0,.int .i64 2),(1,.sl syS l),(4,.ptr 4 0),(5,.ptr 5 0),(6,.int .i64 (l.length:Nat))],[(4,.var [.int .i64 0,.int .i64 0,.int .i64 0,.int .u8 0,.nils]),(5,.var [.int .i64 2,.int .i64 a,.int .i64 l.length,.int .u8 b,.sl uB (winL uB 0 (bL l).length (bL l))])]⟩:=by
    refine qai cx0 (q60 a b (winL uB 0 (bL l).length (bL l)) l l.length _ _) ?_;rw[decide_eq_false (by omega),bc_f];refine ⟨rfl,?_⟩;rw[winA]
   exact e.only ⟨rfl,rfl,rfl,rfl,rfl,trivial⟩ ⟨rfl,rfl,trivial⟩
 | succ c ih=>
  intro i hc h1 hi;have hil:i<l.length:=by omega
  have nx:=ih (i+1) (by omega) (by omega) (by omega);have tl:((bL l).take i).length=i:=by rw[List.length_take,qpk];omega
  rw[q1d hil] at nx;have one:winL uB 0 1 ((List.replicate 1 uB.dflt).set 0 (gtY l i).2.2)=[(gtY l i).2.2]:=rfl;refine qai cx0 (q66 a b ((bL l).take i) l i _ _) ?_;rw[decide_eq_true (show (i:Int)<(l.length:Int) by omega),bc_t,Int.toNat_natCast,IntWalk.i64_in ((i:Int)+1) (by omega),one];refine ⟨rfl,by omega,by omega,Nat.le_refl 1,rfl,rfl,?_,by decide,?_⟩
  ·show ((bL l).take i).length+1<2 ^ 30
   rw[tl]
   show i+1<1073741824
   omega
  ·exact nx.only ⟨rfl,rfl,rfl,rfl,rfl,trivial⟩ ⟨rfl,by rw[List.length_append];rfl,rfl,trivial⟩
theorem o8A2 (h0:1<=l.length):GD 58 Tryd.f58 (O8Q 2 a b l (bL l)) (hd Tryd.f58 0) ⟨[(0,.int .i64 2),(1,.sl syS l),(4,.ptr 4 0),(5,.ptr 5 0),(6,.int .i64 ((0:Nat):Int))],[(4,.var [.int .i64 0,.int .i64 0,.int .i64 0,.int .u8 0,.nils]),(5,.var [.int .i64 2,.int .i64 a,.int .i64 l.length,.int .u8 b,.nils])]⟩:=by
 have nx:=o8B2 a b l hl _ 1 rfl (Nat.le_refl 1) h0;rw[q1d (show 0<l.length by omega)] at nx;have one:winL uB 0 1 ((List.replicate 1 uB.dflt).set 0 (gtY l 0).2.2)=[(gtY l 0).2.2]:=rfl;refine qai cx0 (q69 a b l 0 _ _) ?_;rw[decide_eq_true (show ((0:Nat):Int)<(l.length:Int) by omega),bc_t,Int.toNat_natCast,IntWalk.i64_in (((0:Nat):Int)+1) (by omega),one];exact ⟨rfl,by omega,by omega,Nat.le_refl 1,(show 1<2 ^ 30 by decide),by decide,nx.only ⟨rfl,rfl,rfl,rfl,rfl,trivial⟩ ⟨rfl,rfl,rfl,trivial⟩⟩
theorem o8B4:∀ (c i:Nat),l.length-i=c->1<=i->i<=l.length ->
  GD 58 Tryd.f58 (O8Q 4 a b l (bL l)) (hd Tryd.f58 0) ⟨[(0,.int .i64 4),(1,.sl syS l),(4,.ptr 4 0),(5,.ptr 5 0),(6,.int .i64 (i:Nat))],[(4,.var [.int .i64 0,.int .i64 0,.int .i64 0,.int .u8 0,.nils]),(5,.var [.int .i64 4,.int .i64 a,.int .i64 l.length,.int .u8 b,.win true uB 51 0 ((bL l).take i).length]),(51,.row 5 uB ((bL l).take i))]⟩:=by
 intro c
 induction c with
 | zero=>
  intro i hc h1 hi;have hi:i=l.length:=by omega
  subst hi;have e:(bL l).take l.length=bL l:=List.take_of_length_le (by rw[qpk];omega);rw[e];refine Good.frz (i:=51) (e:=uB) (et:=5) (xs:=bL l) rfl (fun c hc=>?_) ?_
  ·have hc:c∈[0+(bL l).length<=(bL l).length]:=hc;rw[List.mem_singleton] at hc;subst hc;omega
  ·have e:GD 58 Tryd.f58 (O8Q 4 a b l (bL l)) (hd Tryd.f58 0) ⟨[(0,.int .i64 4),(1,.sl syS l),(4,.ptr 4 0),(5,.ptr 5 0),(6,.int .i64 (l.length:Nat))],[(4,.var [.int .i64 0,.int .i64 0,.int .i64 0,.int .u8 0,.nils]),(5,.var [.int .i64 4,.int .i64 a,.int .i64 l.length,.int .u8 b,.sl uB (winL uB 0 (bL l).length (bL l))])]⟩:=by
    refine qai cx0 (q6z a b (winL uB 0 (bL l).length (bL l)) l l.length _ _) ?_;rw[decide_eq_false (by omega),bc_f];refine ⟨rfl,?_⟩;rw[winA]
   exact e.only ⟨rfl,rfl,rfl,rfl,rfl,trivial⟩ ⟨rfl,rfl,trivial⟩
 | succ c ih=>
  intro i hc h1 hi;have hil:i<l.length:=by omega
  have nx:=ih (i+1) (by omega) (by omega) (by omega);have tl:((bL l).take i).length=i:=by rw[List.length_take,qpk];omega
  rw[q1d hil] at nx;have one:winL uB 0 1 ((List.replicate 1 uB.dflt).set 0 (gtY l i).2.2)=[(gtY l i).2.2]:=rfl;refine qai cx0 (q65 a b ((bL l).take i) l i _ _) ?_;rw[decide_eq_true (show (i:Int)<(l.length:Int) by omega),bc_t,Int.toNat_natCast,IntWalk.i64_in ((i:Int)+1) (by omega),one];refine ⟨by omega,by omega,Nat.le_refl 1,rfl,rfl,?_,by decide,?_⟩
  ·show ((bL l).take i).length+1<2 ^ 30
   rw[tl]
   show i+1<1073741824
   omega
  ·exact nx.only ⟨rfl,rfl,rfl,rfl,rfl,trivial⟩ ⟨rfl,by rw[List.length_append];rfl,rfl,trivial⟩
theorem o8A4 (h0:1<=l.length):GD 58 Tryd.f58 (O8Q 4 a b l (bL l)) (hd Tryd.f58 0) ⟨[(0,.int .i64 4),(1,.sl syS l),(4,.ptr 4 0),(5,.ptr 5 0),(6,.int .i64 ((0:Nat):Int))],[(4,.var [.int .i64 0,.int .i64 0,.int .i64 0,.int .u8 0,.nils]),(5,.var [.int .i64 4,.int .i64 a,.int .i64 l.length,.int .u8 b,.nils])]⟩:=by
 have nx:=o8B4 a b l hl _ 1 rfl (Nat.le_refl 1) h0;rw[q1d (show 0<l.length by omega)] at nx;have one:winL uB 0 1 ((List.replicate 1 uB.dflt).set 0 (gtY l 0).2.2)=[(gtY l 0).2.2]:=rfl;refine qai cx0 (q67 a b l 0 _ _) ?_;rw[decide_eq_true (show ((0:Nat):Int)<(l.length:Int) by omega),bc_t,Int.toNat_natCast,IntWalk.i64_in (((0:Nat):Int)+1) (by omega),one];exact ⟨by omega,by omega,Nat.le_refl 1,(show 1<2 ^ 30 by decide),by decide,nx.only ⟨rfl,rfl,rfl,rfl,rfl,trivial⟩ ⟨rfl,rfl,rfl,trivial⟩⟩
end
theorem q8h (x:OpT) (h:x.2.2.2.2=[]):MtL (fun _=>none) (mdV x) [.agg [.int .i64 x.1,.int .i64 x.2.1,.int .i64 x.2.2.1,.int .u8 x.2.2.2.1,.nils]]:=
 ⟨_,_,rfl,⟨_,rfl,_,_,rfl,rfl,_,_,rfl,rfl,_,_,rfl,rfl,_,_,rfl,rfl,_,_,rfl,.inr ⟨rfl,h⟩,rfl⟩,rfl⟩
theorem q8g (k:Int) (l:List SyT) (hp:qtt k l):GD 58 Tryd.f58 (QC ctO8 (k,l,())) [.code (qae Tryd.f58)] (entry [iI,.sl syS] (k,l,())):=by
 obtain ⟨hk,h0,h1⟩:=hp;rcases (show k=1\/k=2\/k=3\/k=4 by unfold kOK at hk;omega) with e | e | e | e
 ·subst e;refine qai cx0 (q64 l _ _) ⟨rfl,by omega,by omega,?_⟩;have e:GD 58 Tryd.f58 (QC ctO8 (1,l,())) (hd Tryd.f58 0) ⟨[(0,.int .i64 1),(1,.sl syS l),(4,.ptr 4 0),(5,.ptr 5 0),(6,.int .i64 ((0:Nat):Int))],[(4,.var [.int .i64 0,.int .i64 0,.int .i64 0,.int .u8 0,.nils]),(5,.var [.int .i64 1,.int .i64 (gtY l 0).2.1,.int .i64 l.length,.int .u8 0,.nils])]⟩:=by
   have fin:∀ bl,QC ctO8 (1,l,()) [SV.agg [SV.int IntKind.i64 1,SV.int IntKind.i64 (gtY l 0).2.1,SV.int IntKind.i64 (l.length:Int),SV.int IntKind.u8 0,SV.nils]] bl:=fun bl=>QC.mt (q8h (opK 1 l) rfl) rfl
   refine qai cx0 (q7a (gtY l 0).2.1 0 l 0 _ _) (qaf (fun _=>fin _) (fun _=>⟨rfl,fin _⟩))
  exact e.only ⟨rfl,rfl,rfl,rfl,rfl,trivial⟩ ⟨rfl,rfl,trivial⟩
 ·subst e;refine qai cx0 (q63 l _ _) ⟨by omega,by omega,?_⟩;exact ((o8A2 (gtY l 0).2.1 0 l h1 h0).post fun rs blk hq=>QC.flat (by rw[hq];rfl) rfl (by rw[hq];rfl)).only ⟨rfl,rfl,rfl,rfl,rfl,trivial⟩ ⟨rfl,rfl,trivial⟩
 ·subst e;refine qai cx0 (q62 l _ _) ⟨by omega,by omega,?_⟩;have e:GD 58 Tryd.f58 (QC ctO8 (3,l,())) (hd Tryd.f58 0) ⟨[(0,.int .i64 3),(1,.sl syS l),(4,.ptr 4 0),(5,.ptr 5 0),(6,.int .i64 ((0:Nat):Int))],[(4,.var [.int .i64 0,.int .i64 0,.int .i64 0,.int .u8 0,.nils]),(5,.var [.int .i64 3,.int .i64 0,.int .i64 l.length,.int .u8 (gtY l 0).2.2,.nils])]⟩:=by
   have fin:∀ bl,QC ctO8 (3,l,()) [SV.agg [SV.int IntKind.i64 3,SV.int IntKind.i64 0,SV.int IntKind.i64 (l.length:Int),SV.int IntKind.u8 (gtY l 0).2.2,SV.nils]] bl:=fun bl=>QC.mt (q8h (opK 3 l) rfl) rfl
   refine qai cx0 (q68 0 (gtY l 0).2.2 l 0 _ _) ?_
   repeat' first
    | exact fin _
    | refine ⟨rfl,?_⟩
    | refine qaf (fun h=>?_) (fun h=>?_)
  exact e.only ⟨rfl,rfl,rfl,rfl,rfl,trivial⟩ ⟨rfl,rfl,trivial⟩
 ·subst e;refine qai cx0 (q61 l _ _) ?_;exact ((o8A4 0 0 l h1 h0).post fun rs blk hq=>QC.flat (by rw[hq];rfl) rfl (by rw[hq];rfl)).only ⟨rfl,rfl,rfl,rfl,rfl,trivial⟩ ⟨rfl,rfl,trivial⟩
theorem q4y:Held Tryd.prog G0 58 ctO8:=Held.of cx0 (fn:=Tryd.f58) rfl rfl ⟨by decide,by decide⟩ fun ⟨k,l,_⟩ hp=>q8g k l hp
theorem q8f {k m:Int} {l:List SyT} (hr:∀ s∈l,sOK m s=true) (h0:1<=l.length) (hi:isK k l l.length):opK k l=mdK k l:=by
 unfold opK mdK;split
 ·rfl
 ·rename_i h;have h1:=(hi 0 (by omega)).1;unfold canB at h1;rw[if_neg (by omega),if_neg (by omega)] at h1;have o:(gtY l 0).1=false:=by simpa using h1
  rw[q4d (show sOK m (gtY l 0)=true by rw[qbi (show 0<l.length by omega)];exact hr _ (List.getElem_mem _)) o]
end Go.Proofs.YticpkibnhakgbaaDoor
namespace Go.Proofs.YticpkibnhakgbaaDoor
open Go.Px Go.Ax
set_option maxRecDepth 100000
def CLi:CV:=[(44,.inl ctFt),(45,.inl ctPr),(58,.inl ctO8)]
theorem cxLi:CxOK Tryd.prog tt G0 CLi:=((cx0.cons q4y (fn:=Tryd.f58) rfl rfl rfl).cons q4q (fn:=Tryd.f45) rfl rfl rfl).cons q5r (fn:=Tryd.f44) rfl rfl rfl
set_option maxRecDepth 100000
theorem vc_li (l:List SyT) (Q:QT) (R:RT):sy tt G0 CLi Tryd.f49.ntmps Tryd.f49.results.toList Q (fun it S=>R it (qao [0,3,4,5,6,7,10,11] [15,90,120] S)) 1000 [.code (qae Tryd.f49)] (entry [.sl syS] (l,())) =
  ((0:Int)<=IntKind.i64.wrap ((l.length:Int)+1) /\
 IntKind.i64.wrap ((l.length:Int)+1)<=IntKind.i64.wrap ((l.length:Int)+1) /\
 IntKind.i64.wrap ((l.length:Int)+1)<2 ^ 24 /\
 (↑(32:Nat):Int)*IntKind.i64.wrap ((l.length:Int)+1)<=2 ^ 48 /\
 R (hd Tryd.f49 0) { env:=[(0,.sl syS l),(3,.win true liS 15 0 (IntKind.i64.wrap ((l.length:Int)+1)).toNat),(4,.int .i64 (IntKind.i64.wrap ((l.length:Int)-1)))],blk:=[(15,.row 102 liS (List.replicate (IntKind.i64.wrap ((l.length:Int)+1)).toNat liS.dflt))] }):=by kernel_rfl
theorem q18 (l:List SyT) (b:List LiT) (i:Int) (Q:QT) (R:RT):sy tt G0 CLi Tryd.f49.ntmps Tryd.f49.results.toList Q (fun it S=>R it (qao [0,3,4,5,6,7,10,11] [15,90,120] S)) 1000 (hd Tryd.f49 0) ⟨[(0,.sl syS l),(3,.win true liS 15 0 b.length),(4,.int .i64 i)],[(15,.row 102 liS b)]⟩ =
  (bc (decide ((0:Int)<=i)) (R (hd Tryd.f49 1) { env:=[(0,.sl syS l),(3,.win true liS 15 0 b.length),(4,.int .i64 i),(5,.bool false),(6,.int .i64 1)],blk:=[(15,.row 102 liS b)] }) (R (hd Tryd.f49 3) { env:=[(0,.sl syS l),(3,.win true liS 15 0 b.length),(4,.int .i64 i),(10,.win true opS 90 0 (0:Nat)),(11,.int .i64 0)],blk:=[(15,.row 102 liS b),(90,.row 69 opS (List.replicate (0:Nat) opS.dflt))] })):=by kernel_rfl
theorem q17 (l:List SyT) (b:List LiT) (f:Bool) (i k:Int) (Q:QT) (R:RT):sy tt G0 CLi Tryd.f49.ntmps Tryd.f49.results.toList Q (fun it S=>R it (qao [0,3,4,5,6,7,10,11] [15,90,120] S)) 1000 (hd Tryd.f49 1) ⟨[(0,.sl syS l),(3,.win true liS 15 0 b.length),(4,.int .i64 i),(5,.bool f),(6,.int .i64 k)],[(15,.row 102 liS b)]⟩ =
  (bc (decide (k<=4)) ((0:Int)<=i /\
 i<=(l.length:Int) /\
 ctFt.pre (k,List.drop i.toNat l,()) /\
 R (hd Tryd.f49 2) { env:=[(0,.sl syS l),(3,.win true liS 15 0 b.length),(4,.int .i64 i),(5,.bool f),(6,.int .i64 k),(7,.int .i64 (↑(fitN k (List.drop i.toNat l)):Int))],blk:=[(15,.row 102 liS b)] }) (R (hd Tryd.f49 0) { env:=[(0,.sl syS l),(3,.win true liS 15 0 b.length),(4,.int .i64 (IntKind.i64.wrap (i-1))),(5,.bool f),(6,.int .i64 k)],blk:=[(15,.row 102 liS b)] })):=by kernel_rfl
theorem q16 (l:List SyT) (b:List LiT) (f:Bool) (i k n:Int) (Q:QT) (R:RT):sy tt G0 CLi Tryd.f49.ntmps Tryd.f49.results.toList Q (fun it S=>R it (qao [0,3,4,5,6,7,10,11] [15,90,120] S)) 1000 (hd Tryd.f49 2) ⟨[(0,.sl syS l),(3,.win true liS 15 0 b.length),(4,.int .i64 i),(5,.bool f),(6,.int .i64 k),(7,.int .i64 n)],[(15,.row 102 liS b)]⟩ =
  (bc (decide ((0:Int)<n)) ((0:Int)<=IntKind.i64.wrap (i+n) /\
 IntKind.i64.wrap (i+n)<(b.length:Int) /\
 0+(IntKind.i64.wrap (i+n)).toNat<b.length /\
 ctPr.pre (k,n,()) /\
 bc (!f) (true=true /\
 true=true /\
 (0:Int)<=i /\
 i<(b.length:Int) /\
 0+i.toNat<b.length /\
 R (hd Tryd.f49 2) { env:=[(0,.sl syS l),(3,.win true liS 15 0 b.length),(4,.int .i64 i),(5,.bool true),(6,.int .i64 k),(7,.int .i64 (IntKind.i64.wrap (n-1)))],blk:=[(15,.row 102 liS (b.set (0+i.toNat) (k,n,IntKind.i64.wrap (hdC k+eaC k*n+(gtL b (0+(IntKind.i64.wrap (i+n)).toNat)).2.2.1),IntKind.i64.wrap ((1:Int)+(gtL b (0+(IntKind.i64.wrap (i+n)).toNat)).2.2.2))))] }) ((0:Int)<=i /\
 i<(b.length:Int) /\
 0+i.toNat<b.length /\
 bc (bif false then true else decide (IntKind.i64.wrap (hdC k+eaC k*n+(gtL b (0+(IntKind.i64.wrap (i+n)).toNat)).2.2.1)<(gtL b (0+i.toNat)).2.2.1)) (true=true /\
 (0:Int)<=i /\
 i<(b.length:Int) /\
 0+i.toNat<b.length /\
 R (hd Tryd.f49 2) { env:=[(0,.sl syS l),(3,.win true liS 15 0 b.length),(4,.int .i64 i),(5,.bool true),(6,.int .i64 k),(7,.int .i64 (IntKind.i64.wrap (n-1)))],blk:=[(15,.row 102 liS (b.set (0+i.toNat) (k,n,IntKind.i64.wrap (hdC k+eaC k*n+(gtL b (0+(IntKind.i64.wrap (i+n)).toNat)).2.2.1),IntKind.i64.wrap ((1:Int)+(gtL b (0+(IntKind.i64.wrap (i+n)).toNat)).2.2.2))))] }) ((0:Int)<=i /\
 i<(b.length:Int) /\
 0+i.toNat<b.length /\
 bc (decide (IntKind.i64.wrap (hdC k+eaC k*n+(gtL b (0+(IntKind.i64.wrap (i+n)).toNat)).2.2.1)=(gtL b (0+i.toNat)).2.2.1)) ((0:Int)<=i /\
 i<(b.length:Int) /\
 0+i.toNat<b.length /\
 bc (bif false then true else bif true then decide (IntKind.i64.wrap ((1:Int)+(gtL b (0+(IntKind.i64.wrap (i+n)).toNat)).2.2.2)<(gtL b (0+i.toNat)).2.2.2) else false) ((0:Int)<=i /\
 i<(b.length:Int) /\
 0+i.toNat<b.length /\
 R (hd Tryd.f49 2) { env:=[(0,.sl syS l),(3,.win true liS 15 0 b.length),(4,.int .i64 i),(5,.bool true),(6,.int .i64 k),(7,.int .i64 (IntKind.i64.wrap (n-1)))],blk:=[(15,.row 102 liS (b.set (0+i.toNat) (k,n,IntKind.i64.wrap (hdC k+eaC k*n+(gtL b (0+(IntKind.i64.wrap (i+n)).toNat)).2.2.1),IntKind.i64.wrap ((1:Int)+(gtL b (0+(IntKind.i64.wrap (i+n)).toNat)).2.2.2))))] }) (R (hd Tryd.f49 2) { env:=[(0,.sl syS l),(3,.win true liS 15 0 b.length),(4,.int .i64 i),(5,.bool f),(6,.int .i64 k),(7,.int .i64 (IntKind.i64.wrap (n-1)))],blk:=[(15,.row 102 liS b)] })) (false=false /\
 R (hd Tryd.f49 2) { env:=[(0,.sl syS l),(3,.win true liS 15 0 b.length),(4,.int .i64 i),(5,.bool f),(6,.int .i64 k),(7,.int .i64 (IntKind.i64.wrap (n-1)))],blk:=[(15,.row 102 liS b)] })))) (R (hd Tryd.f49 1) { env:=[(0,.sl syS l),(3,.win true liS 15 0 b.length),(4,.int .i64 i),(5,.bool f),(6,.int .i64 (IntKind.i64.wrap (k+1))),(7,.int .i64 n)],blk:=[(15,.row 102 liS b)] })):=by kernel_rfl
theorem q7e (l:List SyT) (b:List LiT) (o:List OpT) (a:Nat) (Q:QT) (R:RT):sy tt G0 CLi Tryd.f49.ntmps Tryd.f49.results.toList Q (fun it S=>R it (qao [0,3,4,5,6,7,10,11] [15,90,120] S)) 1000 (hd Tryd.f49 3) ⟨[(0,.sl syS l),(3,.win true liS 15 0 b.length),(10,.win true opS 90 0 o.length),(11,.int .i64 (a:Nat))],[(15,.row 102 liS b),(90,.row 69 opS o)]⟩ =
  (bc (decide ((a:Int)<(l.length:Int))) ((0:Int)<=(a:Int) /\
 (a:Int)<(b.length:Int) /\
 0+(a:Int).toNat<b.length /\
 (0:Int)<=(a:Int) /\
 (a:Int)<(b.length:Int) /\
 0+(a:Int).toNat<b.length /\
 (0:Int)<=(a:Int) /\
 (a:Int)<=IntKind.i64.wrap ((a:Int)+(gtL b (0+(a:Int).toNat)).2.1) /\
 IntKind.i64.wrap ((a:Int)+(gtL b (0+(a:Int).toNat)).2.1)<=(l.length:Int) /\
 ctO8.pre ((gtL b (0+(a:Int).toNat)).1,Px.part l (some (a:Int)) (some (IntKind.i64.wrap ((a:Int)+(gtL b (0+(a:Int).toNat)).2.1))),()) /\
 0+1<=([(opK (gtL b (0+(a:Int).toNat)).1 (Px.part l (some (a:Int)) (some (IntKind.i64.wrap ((a:Int)+(gtL b (0+(a:Int).toNat)).2.1)))))]:List opS.D).length /\
 o.length=o.length /\
 (0:Nat)=(0:Nat) /\
 o.length+(([(opK (gtL b (0+(a:Int).toNat)).1 (Px.part l (some (a:Int)) (some (IntKind.i64.wrap ((a:Int)+(gtL b (0+(a:Int).toNat)).2.1)))))]:List opS.D)).length<2 ^ 30 /\
 (56:Nat)<=2 ^ 10 /\
 (0:Int)<=(a:Int) /\
 (a:Int)<(b.length:Int) /\
 0+(a:Int).toNat<b.length /\
 R (hd Tryd.f49 3) { env:=[(0,.sl syS l),(3,.win true liS 15 0 b.length),(10,.win true opS 120 0 (o.length+(([(opK (gtL b (0+(a:Int).toNat)).1 (Px.part l (some (a:Int)) (some (IntKind.i64.wrap ((a:Int)+(gtL b (0+(a:Int).toNat)).2.1)))))]:List opS.D)).length)),(11,.int .i64 (IntKind.i64.wrap ((a:Int)+(gtL b (0+(a:Int).toNat)).2.1)))],blk:=[(15,.row 102 liS b),(120,.row 69 opS (o++([(opK (gtL b (0+(a:Int).toNat)).1 (Px.part l (some (a:Int)) (some (IntKind.i64.wrap ((a:Int)+(gtL b (0+(a:Int).toNat)).2.1)))))]:List opS.D)))] }) (Q [.win true opS 90 0 o.length] [(15,.row 102 liS b),(90,.row 69 opS o)])):=by kernel_rfl
theorem q3l (l:List SyT) (b:List LiT) (o:List OpT) (a:Nat) (Q:QT) (R:RT):sy tt G0 CLi Tryd.f49.ntmps Tryd.f49.results.toList Q (fun it S=>R it (qao [0,3,4,5,6,7,10,11] [15,90,120] S)) 1000 (hd Tryd.f49 3) ⟨[(0,.sl syS l),(10,.sl opS o),(11,.int .i64 (a:Nat))],[]⟩ =
  (bc (decide ((a:Int)<(l.length:Int))) False (Q [.sl opS o] [])):=by kernel_rfl
end Go.Proofs.YticpkibnhakgbaaDoor
namespace Go.Proofs.YticpkibnhakgbaaDoor
open Go.Px Go.Ax
set_option maxRecDepth 100000
attribute [local irreducible] Go.Px.sy Go.Px.syE
def q76 (l:List SyT):Prop:=l.length<=65536/\∃ m:Int,m<16777216/\∀ s∈l,sOK m s=true
def ctLi:Ctr:=⟨[.sl syS],fun x=>q76 x.1,fun x=>[.sl opS (chL x.1)],fun _=>[]⟩
section
variable (l:List SyT) (hp:q76 l)
abbrev li0S (b:List LiT) (i:Int):PS:=⟨[(0,.sl syS l),(3,.win true liS 15 0 b.length),(4,.int .i64 i)],[(15,.row 102 liS b)]⟩
abbrev li1S (b:List LiT) (f:Bool) (i k:Int):PS:=⟨[(0,.sl syS l),(3,.win true liS 15 0 b.length),(4,.int .i64 i),(5,.bool f),(6,.int .i64 k)],[(15,.row 102 liS b)]⟩
abbrev li2S (b:List LiT) (f:Bool) (i k n:Int):PS:=⟨[(0,.sl syS l),(3,.win true liS 15 0 b.length),(4,.int .i64 i),(5,.bool f),(6,.int .i64 k),(7,.int .i64 n)],[(15,.row 102 liS b)]⟩
abbrev GL (it:Nat) (S:PS):Prop:=GD 49 Tryd.f49 (OQ (chL l)) (hd Tryd.f49 it) S
include hp
theorem li_n (i:Nat) (hi:i<l.length) (k:Int) (hk:kOK k) (B:List LiT) (hB:B.length=l.length+1) (hget:∀ n,1<=n->i+n<=l.length->gtL B (i+n)=bst (l.drop (i+n))) :
  ∀ (n:Nat) (c:LiT × Bool),n<=fitN k (l.drop i)->GL l 1 (li1S l (B.set i (innR k (l.drop i) n c).1) (innR k (l.drop i) n c).2 i (k+1))->GL l 2 (li2S l (B.set i c.1) c.2 i k (n:Nat)):=by
 have hl:=hp.1;have dl:(l.drop i).length=l.length-i:=List.length_drop ..;have hf:=qcd k (l.drop i);have hBl:∀ c,(B.set i c).length=l.length+1:=fun c=>by rw[List.length_set];exact hB
 have g0:∀ c,gtL (B.set i c) i=c:=fun c=>by
  show ((B.set i c)[i]?).getD _=_
  rw[List.getElem?_set_self (by omega)];rfl
 have wk:IntKind.i64.wrap (k+1)=k+1:=IntWalk.i64_in _ (by unfold kOK at hk;omega);intro n
 induction n with
 | zero=>
  intro c hn nx;refine qai cxLi (q16 l (B.set i c.1) c.2 i k ((0:Nat):Int) _ _) ?_;rw[decide_eq_false (by omega),bc_f,wk];exact nx.only ⟨rfl,rfl,rfl,rfl,rfl,trivial⟩ ⟨rfl,trivial⟩
 | succ n ih=>
  intro c hn nx;have nk:=ih (innS k (n+1) (l.drop i) c) (by omega) nx;have gn:∀ c,gtL (B.set i c) (i+(n+1))=bst ((l.drop i).drop (n+1)):=fun c=>by
   rw[List.drop_drop,<- hget (n+1) (by omega) (by omega)]
   show ((B.set i c)[i+(n+1)]?).getD _=(B[i+(n+1)]?).getD _
   rw[List.getElem?_set_ne (by omega)]
  have w1:IntKind.i64.wrap ((i:Int)+((n+1:Nat):Int))=((i+(n+1):Nat):Int):=by rw[IntWalk.i64_in _ (by omega)];omega
  have w2:IntKind.i64.wrap (((n+1:Nat):Int)-1)=(n:Int):=by rw[IntWalk.i64_in _ (by omega)];omega
  have bo:=qmm ((l.drop i).drop (n+1)) (by rw[List.length_drop];omega);rw[List.length_drop] at bo;unfold boL at bo;have en:=eaN k (n+1);have hh:=q5k k;have w3:IntKind.i64.wrap (hdC k+eaC k*((n+1:Nat):Int)+(bst ((l.drop i).drop (n+1))).2.2.1)=hdC k+eaC k*((n+1:Nat):Int)+(bst ((l.drop i).drop (n+1))).2.2.1:=by
   generalize eaC k*((n+1:Nat):Int)=e at *;exact IntWalk.i64_in _ (by omega)
  have w4:IntKind.i64.wrap (1+(bst ((l.drop i).drop (n+1))).2.2.2)=1+(bst ((l.drop i).drop (n+1))).2.2.2:=IntWalk.i64_in _ (by omega);refine qai cxLi (q16 l (B.set i c.1) c.2 i k ((n+1:Nat):Int) _ _) ?_;rw[w1,w2,decide_eq_true (show (0:Int)<((n+1:Nat):Int) by omega),bc_t];simp only[Int.toNat_natCast];simp only[gn,g0,w3,w4,Nat.zero_add,List.set_set,hBl];have hx:xR k (n+1) (l.drop i)=(k,((n+1:Nat):Int),hdC k+eaC k*((n+1:Nat):Int)+(bst ((l.drop i).drop (n+1))).2.2.1,1+(bst ((l.drop i).drop (n+1))).2.2.2):=rfl;rw[<- hx];have up:(!c.2 || rlt (xR k (n+1) (l.drop i)) c.1)=true->GL l 2 (li2S l (B.set i (xR k (n+1) (l.drop i))) true i k (n:Nat)):=fun h=>by
   have e:innS k (n+1) (l.drop i) c=(xR k (n+1) (l.drop i),true):=by unfold innS;rw[if_pos h]
   rw[e] at nk;exact nk
  have no:(!c.2 || rlt (xR k (n+1) (l.drop i)) c.1)=false->GL l 2 (li2S l (B.set i c.1) c.2 i k (n:Nat)):=fun h=>by
   have e:innS k (n+1) (l.drop i) c=c:=by unfold innS;rw[if_neg (by rw[h];decide)]
   rw[e] at nk;exact nk
  have hlen:∀ x,(B.set i x).length=(B.set i c.1).length:=fun x=>by rw[hBl,hBl]
  have pk:qzw k ((n+1:Nat):Int):=⟨hk,by omega,by omega⟩;have upS:(!c.2 || rlt (xR k (n+1) (l.drop i)) c.1)=true->GL l 2 ⟨[(0,.sl syS l),(3,.win true liS 15 0 (l.length+1)),(4,.int .i64 i),(5,.bool true),(6,.int .i64 k),(7,.int .i64 (n:Nat))],[(15,.row 102 liS (B.set i (xR k (n+1) (l.drop i))))]⟩:=fun h=>(up h).only ⟨rfl,by rw[hBl];rfl,rfl,rfl,rfl,rfl,trivial⟩ ⟨rfl,trivial⟩
  have noS:(!c.2 || rlt (xR k (n+1) (l.drop i)) c.1)=false->GL l 2 ⟨[(0,.sl syS l),(3,.win true liS 15 0 (l.length+1)),(4,.int .i64 i),(5,.bool c.2),(6,.int .i64 k),(7,.int .i64 (n:Nat))],[(15,.row 102 liS (B.set i c.1))]⟩:=fun h=>(no h).only ⟨rfl,by rw[hBl];rfl,rfl,rfl,rfl,rfl,trivial⟩ ⟨rfl,trivial⟩
  clear nk up no ih nx;refine ⟨by omega,by omega,by omega,pk,qaf (fun h=>⟨by trivial,by trivial,by omega,by omega,by omega,(upS (by rw[h];rfl)).only ⟨rfl,rfl,rfl,rfl,rfl,rfl,trivial⟩ ⟨rfl,trivial⟩⟩) (fun h=>⟨by omega,by omega,by omega,?_⟩)⟩;have r1:(xR k (n+1) (l.drop i)).2.2.1=hdC k+eaC k*((n+1:Nat):Int)+(bst ((l.drop i).drop (n+1))).2.2.1:=rfl;have r2:(xR k (n+1) (l.drop i)).2.2.2=1+(bst ((l.drop i).drop (n+1))).2.2.2:=rfl;rw[<- r1,<- r2];generalize xR k (n+1) (l.drop i)=x at *;have hc:∀ v,rlt x c.1=v->(!c.2 || rlt x c.1)=v:=fun v e=>by rw[h,e];rfl
  refine qaf (fun h2=>⟨by trivial,by omega,by omega,by omega,?_⟩) (fun h2=>⟨by omega,by omega,by omega,qaf (fun h3=>⟨by omega,by omega,by omega,qaf (fun h4=>⟨by omega,by omega,by omega,?_⟩) (fun h4=>?_)⟩) (fun h3=>⟨by trivial,?_⟩)⟩)
  ·have h2:x.2.2.1<c.1.2.2.1:=of_decide_eq_true h2;exact (upS (hc _ (by unfold rlt;rw[decide_eq_true h2];rfl))).only ⟨rfl,rfl,rfl,rfl,rfl,rfl,trivial⟩ ⟨rfl,trivial⟩
  ·have h2:¬ x.2.2.1<c.1.2.2.1:=of_decide_eq_false h2;have h3:x.2.2.1=c.1.2.2.1:=of_decide_eq_true h3;have h4:x.2.2.2<c.1.2.2.2:=of_decide_eq_true h4;exact (upS (hc _ (by unfold rlt;rw[decide_eq_true h3,decide_eq_true h4];simp))).only ⟨rfl,rfl,rfl,rfl,rfl,rfl,trivial⟩ ⟨rfl,trivial⟩
  ·have h2:¬ x.2.2.1<c.1.2.2.1:=of_decide_eq_false h2;have h4:¬ x.2.2.2<c.1.2.2.2:=of_decide_eq_false h4;exact (noS (hc _ (by unfold rlt;rw[decide_eq_false h2,decide_eq_false h4];simp))).only ⟨rfl,rfl,rfl,rfl,rfl,rfl,trivial⟩ ⟨rfl,trivial⟩
  ·have h2:¬ x.2.2.1<c.1.2.2.1:=of_decide_eq_false h2;have h3:¬ x.2.2.1=c.1.2.2.1:=of_decide_eq_false h3;exact (noS (hc _ (by unfold rlt;rw[decide_eq_false h2,decide_eq_false h3];rfl))).only ⟨rfl,rfl,rfl,rfl,rfl,rfl,trivial⟩ ⟨rfl,trivial⟩
theorem li_k (i:Nat) (hi:i<l.length) (k:Nat) (hk:1<=k/\k<=4) (B:List LiT) (hB:B.length=l.length+1) (hget:∀ n,1<=n->i+n<=l.length->gtL B (i+n)=bst (l.drop (i+n))) (c:LiT × Bool)
  (nx:GL l 1 (li1S l (B.set i (kinR k (l.drop i) c).1) (kinR k (l.drop i) c).2 i ((k:Int)+1))):GL l 1 (li1S l (B.set i c.1) c.2 i (k:Nat)):=by
 have kk:kOK (k:Int):=by unfold kOK;omega
 obtain ⟨hl,m,hm,hr⟩:=hp;have h:=li_n l ⟨hl,m,hm,hr⟩ i hi k kk B hB hget (fitN k (l.drop i)) c (Nat.le_refl _) nx;refine qai cxLi (q17 l (B.set i c.1) c.2 i k _ _) ?_;rw[decide_eq_true (show (k:Int)<=4 by omega),bc_t];simp only[Int.toNat_natCast];exact ⟨by omega,by omega,⟨kk,by rw[List.length_drop];omega,m,hm,fun s hs=>hr s (List.mem_of_mem_drop hs)⟩,h.only ⟨rfl,rfl,rfl,rfl,rfl,rfl,trivial⟩ ⟨rfl,trivial⟩⟩
abbrev li3S (o:List OpT) (a:Nat):PS:=⟨[(0,.sl syS l),(3,.win true liS 15 0 (qbm l).length),(10,.win true opS 90 0 o.length),(11,.int .i64 (a:Nat))],[(15,.row 102 liS (qbm l)),(90,.row 69 opS o)]⟩
theorem q2o (o:List OpT) (a:Nat) (ha:a=l.length) (ho:o=chL l):GL l 3 (li3S l o a):=by
 have _:=hp;subst ha;refine Good.frz (i:=90) (e:=opS) (et:=69) (xs:=o) rfl (fun c hc=>?_) ?_
 ·have hc:c∈[0+o.length<=o.length]:=hc;rw[List.mem_singleton] at hc;subst hc;omega
 ·have e:GL l 3 ⟨[(0,.sl syS l),(10,.sl opS (winL opS 0 o.length o)),(11,.int .i64 (l.length:Nat))],[]⟩:=by
   refine qai cxLi (q3l l [] (winL opS 0 o.length o) l.length _ _) ?_;rw[decide_eq_false (by omega),bc_f,winA,ho]
  exact e.only ⟨rfl,rfl,rfl,trivial⟩ trivial
theorem q8o:∀ (f a:Nat) (o:List OpT),l.length-a<=f->a<=l.length->o.length<=a->o++chF f (l.drop a)=chL l->GL l 3 (li3S l o a):=by
 have hl:=hp.1;intro f
 induction f with
 | zero=>
  intro a o hf ha ho he;rw[chF,List.append_nil] at he;exact q2o l hp o a (by omega) he
 | succ f ih=>
  intro a o hf ha ho hq;by_cases he:a=l.length
  ·rw[chF,if_pos (List.drop_eq_nil_of_le (by omega)),List.append_nil] at hq;exact q2o l hp o a he hq
  ·have dl:(l.drop a).length=l.length-a:=List.length_drop ..;have hne:l.drop a≠[]:=fun h=>by rw[h] at dl;simp at dl;omega
   obtain ⟨hb,n,n1,n2,n3,_⟩:=qph (l:=l.drop a) (by omega) hne;have hfit:=qcd (bst (l.drop a)).1 (l.drop a);have bl:(qbm l).length=l.length+1:=qh8 l 0;have tl:((l.drop a).take n).length=n:=by rw[List.length_take];omega
   have eo:opK (bst (l.drop a)).1 ((l.drop a).take n)=mdK (bst (l.drop a)).1 ((l.drop a).take n):=by
    obtain ⟨_,m,hm,hr⟩:=hp;refine q8f (m:=m) (fun s hs=>hr s (List.mem_of_mem_drop (List.mem_of_mem_take hs))) (by omega) ?_;rw[tl];exact qsh n3 (qsp hm fun s hs=>hr s (List.mem_of_mem_drop hs))
   have ec:chF (f+1) (l.drop a)=mdK (bst (l.drop a)).1 ((l.drop a).take n)::chF f (l.drop (a+n)):=by rw[chF,if_neg hne,n1,Int.toNat_natCast,List.drop_drop]
   rw[ec] at hq;have nx:=ih (a+n) (o++[mdK (bst (l.drop a)).1 ((l.drop a).take n)]) (by omega) (by omega) (by rw[List.length_append,List.length_singleton];omega) (by rw[List.append_assoc];exact hq);refine qai cxLi (q7e l (qbm l) o a _ _) ?_;have g1:gtL (qbm l) (0+a)=bst (l.drop a):=by rw[Nat.zero_add];exact qpj l 0 a ha (Nat.zero_le _)
   have w:IntKind.i64.wrap ((a:Int)+(n:Int))=((a+n:Nat):Int):=by rw[IntWalk.i64_in _ (by omega)];omega
   rw[decide_eq_true (show (a:Int)<(l.length:Int) by omega),bc_t,Int.toNat_natCast,g1,n1,w,qwn l a n,eo];refine ⟨by omega,by omega,by omega,by omega,by omega,by omega,by omega,by omega,by omega,(show qtt (bst (l.drop a)).1 ((l.drop a).take n) from ⟨hb,by omega,by omega⟩),Nat.le_refl 1,rfl,rfl,?_,by decide,by omega,by omega,by omega,?_⟩
   ·show o.length+1<2 ^ 30
    show o.length+1<1073741824
    omega
   ·exact nx.onlyR [(90,120)] rfl ⟨rfl,rfl,by rw[List.length_append];rfl,rfl,trivial⟩ ⟨rfl,rfl,trivial⟩
theorem q8m:∀ (n:Nat),n<=l.length->GL l 0 (li0S l (bT l n) ((n:Int)-1)):=by
 have hl:=hp.1;intro n
 induction n with
 | zero=>
  intro hn;refine qai cxLi (q18 l (bT l 0) (((0:Nat):Int)-1) _ _) ?_;rw[decide_eq_false (by omega),bc_f];exact (q8o l hp l.length 0 [] (by omega) (Nat.zero_le _) (Nat.zero_le _) (by rw[List.drop_zero,List.nil_append];rfl)).only ⟨rfl,rfl,rfl,rfl,trivial⟩ ⟨rfl,rfl,trivial⟩
 | succ n ih=>
  intro hn;have e:((n+1:Nat):Int)-1=(n:Int):=by omega
  rw[e];refine qai cxLi (q18 l (bT l (n+1)) n _ _) ?_;rw[decide_eq_true (show (0:Int)<=(n:Int) by omega),bc_t];have hB:=qh8 l (n+1);have hget:∀ q,1<=q->n+q<=l.length->gtL (bT l (n+1)) (n+q)=bst (l.drop (n+q)):=fun q h1 h2=>qpj l (n+1) (n+q) h2 (by omega)
  have fin:GL l 1 (li1S l (bT l n) (kinR 4 (l.drop n) (kinR 3 (l.drop n) (kinR 2 (l.drop n) (kinR 1 (l.drop n) (zLi,false))))).2 n 5):=by
   refine qai cxLi (q17 l (bT l n) _ n 5 _ _) ?_;rw[decide_eq_false (by omega),bc_f,IntWalk.i64_in ((n:Int)-1) (by omega)];exact (ih (by omega)).only ⟨rfl,rfl,rfl,trivial⟩ ⟨rfl,trivial⟩
  have er:bst (l.drop n)=(kinR 4 (l.drop n) (kinR 3 (l.drop n) (kinR 2 (l.drop n) (kinR 1 (l.drop n) (zLi,false))))).1:=(q4i (l:=l.drop n) (by rw[List.length_drop];omega)).symm;rw[q22 l n (by omega),er] at fin;have s4:=li_k l hp n hn 4 ⟨by omega,by omega⟩ (bT l (n+1)) hB hget _ fin;have s3:=li_k l hp n hn 3 ⟨by omega,by omega⟩ (bT l (n+1)) hB hget _ s4;have s2:=li_k l hp n hn 2 ⟨by omega,by omega⟩ (bT l (n+1)) hB hget _ s3;have s1:=li_k l hp n hn 1 ⟨by omega,by omega⟩ (bT l (n+1)) hB hget (zLi,false) s2;have ez:(bT l (n+1)).set n ((zLi,false):LiT × Bool).1=bT l (n+1):=bT_z l n (by omega);rw[ez] at s1;exact s1.only ⟨rfl,rfl,rfl,rfl,rfl,trivial⟩ ⟨rfl,trivial⟩
theorem q8n:GD 49 Tryd.f49 (OQ (chL l)) [.code (qae Tryd.f49)] (entry [.sl syS] (l,())):=by
 have hl:=hp.1;refine qai cxLi (vc_li l _ _) ?_;rw[IntWalk.i64_in ((l.length:Int)+1) (by omega),IntWalk.i64_in ((l.length:Int)-1) (by omega)];have e:((l.length:Int)+1).toNat=l.length+1:=by omega
 rw[e];refine ⟨by omega,by omega,?_,?_,?_⟩
 ·show (l.length:Int)+1<16777216
  omega
 ·show (32:Int)*((l.length:Int)+1)<=281474976710656
  omega
 ·have h:=q8m l hp l.length (Nat.le_refl _);rw[q23 l];exact h.only ⟨rfl,by rw[qh8];rfl,rfl,trivial⟩ ⟨rfl,trivial⟩
end
theorem q5f:Held Tryd.prog G0 49 ctLi:=Held.of cxLi (fn:=Tryd.f49) rfl rfl ⟨by decide,by decide⟩ fun ⟨l,_⟩ hp=>(q8n l hp).post fun rs blk hq=>QC.flat (by rw[hq];rfl) rfl (by rw[hq];rfl)
end Go.Proofs.YticpkibnhakgbaaDoor
