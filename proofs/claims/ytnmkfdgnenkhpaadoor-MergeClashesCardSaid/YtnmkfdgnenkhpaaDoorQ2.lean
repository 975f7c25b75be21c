/-
  A part of the proof: what pieces of the program give; conditions: those of each theorem.
-/
import Derived.Test.YtnmkfdgnenkhpaaDoorQ1
import Derived.Test.YtnmkfdgnenkhpaaDoorHD
set_option linter.unusedVariables false
set_option linter.unusedSimpArgs false
namespace Go.Proofs.YtnmkfdgnenkhpaaDoor
open Go.Px Go.Ax
open Go.IntKind(i64 u32 u8)
set_option maxRecDepth 100000
def CBe:CV:=[(74,.inl ctCan),(75,.inl ctGoe),(71,.inl ctBet)]
theorem cxBe:CxOK Tryd.prog tt G0 CBe:=((cx0.cons qro (fn:=Tryd.f71) rfl rfl rfl).cons qz9 (fn:=Tryd.f75) rfl rfl rfl).cons q0q (fn:=Tryd.f74) rfl rfl rfl
def q49 (k:Int) (l:List SyT) (g:LiT):Prop:=kOK k/\1<=l.length/\(g.2.1=0\/2<=l.length)
def begL (k:Int) (l:List SyT) (w:Int × Int) (g:LiT):LiT:=begF k (gtY l 0) (gtY l 1) w g
def boB (w:Int × Int) (g:LiT):Prop:=(0<=w.1/\w.1<16777216/\0<=w.2/\w.2<16777216)/\0<=g.2.1/\g.2.1<16777216/\0<=g.2.2.1/\g.2.2.1<16777216
def ctBg:Ctr:=⟨[iI,.sl syS,suS,liS],fun x=>q49 x.1 x.2.1 x.2.2.2.1/\boB x.2.2.1 x.2.2.2.1,fun x=>[.agg [.int .i64 (begL x.1 x.2.1 x.2.2.1 x.2.2.2.1).1,.int .i64 (begL x.1 x.2.1 x.2.2.1 x.2.2.2.1).2.1,.int .i64 (begL x.1 x.2.1 x.2.2.1 x.2.2.2.1).2.2.1,.int .i64 (begL x.1 x.2.1 x.2.2.1 x.2.2.2.1).2.2.2]],fun _=>[]⟩
def q46 (k:Int) (l:List SyT):Prop:=kOK k/\1<=l.length/\l.length<16777216
def ctMk:Ctr:=⟨[iI,.sl syS],fun x=>q46 x.1 x.2.1,fun x=>mdV (mdK x.1 x.2.1),fun _=>[]⟩
set_option maxRecDepth 100000
def qlu (k:Int) (w:Int × Int) (g:LiT):List (Nat × LB):=[(6,.var [.int .i64 w.1,.int .i64 w.2]),(7,.var [.int .i64 g.1,.int .i64 g.2.1,.int .i64 g.2.2.1,.int .i64 g.2.2.2]),(8,.var [.int .i64 k,.int .i64 1,.int .i64 (i64.wrap (i64.wrap (w.1+(gt (iI.pair iI) costsL k.toNat).1)+(gt (iI.pair iI) costsL k.toNat).2)),.int .i64 (i64.wrap (w.2+(1:Int)))]),(9,.var [.int .i64 (gt (iI.pair iI) costsL k.toNat).1,.int .i64 (gt (iI.pair iI) costsL k.toNat).2]),(10,.var [.int .i64 k,.int .i64 1,.int .i64 (i64.wrap (i64.wrap (w.1+(gt (iI.pair iI) costsL k.toNat).1)+(gt (iI.pair iI) costsL k.toNat).2)),.int .i64 (i64.wrap (w.2+(1:Int)))])]
theorem q8b (k:Int) (l:List SyT) (w:Int × Int) (g:LiT) (Q:QT) (R:RT):sy tt G0 CBe Tryd.f70.ntmps Tryd.f70.results.toList Q R 1000 [.code (qae Tryd.f70)] (entry [iI,.sl syS,suS,liS] (k,l,w,g,())) =
  ((0:Int)<=0 /\
 (0:Int)<(l.length:Int) /\
 ctCan.pre (k,(gtY l (0)),()) /\
 bc (!canB k (gtY l (0))) (Q [.agg [.int .i64 0,.int .i64 0,.int .i64 0,.int .i64 0]] [(6,.var [.int .i64 w.1,.int .i64 w.2]),(7,.var [.int .i64 g.1,.int .i64 g.2.1,.int .i64 g.2.2.1,.int .i64 g.2.2.2]),(8,.var [.int .i64 0,.int .i64 0,.int .i64 0,.int .i64 0])]) ((0:Int)<=k /\
 k<(↑(5:Nat):Int) /\
 bc (decide (g.2.1=(0:Int))) (true=true /\
 Q [.agg [.int .i64 k,.int .i64 1,.int .i64 (i64.wrap (i64.wrap (w.1+(gt (iI.pair iI) costsL k.toNat).1)+(gt (iI.pair iI) costsL k.toNat).2)),.int .i64 (i64.wrap (w.2+1))]] (qlu k w g)) ((0:Int)<=0 /\
 (0:Int)<(l.length:Int) /\
 (0:Int)<=1 /\
 (1:Int)<(l.length:Int) /\
 ctGoe.pre (k,(gtY l (0)),(gtY l (1)),()) /\
 bc (bif false then true else !goK k (gtY l (0)) (gtY l (1))) (Q [.agg [.int .i64 k,.int .i64 1,.int .i64 (i64.wrap (i64.wrap (w.1+(gt (iI.pair iI) costsL k.toNat).1)+(gt (iI.pair iI) costsL k.toNat).2)),.int .i64 (i64.wrap (w.2+1))]] (qlu k w g)) (ctBet.pre ((k,(1:Int),i64.wrap (i64.wrap (w.1+(gt (iI.pair iI) costsL k.toNat).1)+(gt (iI.pair iI) costsL k.toNat).2),i64.wrap (w.2+1)),(k,i64.wrap (g.2.1+1),i64.wrap (g.2.2.1+(gt (iI.pair iI) costsL k.toNat).2),g.2.2.2),()) /\
 bc (betB (k,(1:Int),i64.wrap (i64.wrap (w.1+(gt (iI.pair iI) costsL k.toNat).1)+(gt (iI.pair iI) costsL k.toNat).2),i64.wrap (w.2+1)) (k,i64.wrap (g.2.1+1),i64.wrap (g.2.2.1+(gt (iI.pair iI) costsL k.toNat).2),g.2.2.2)) (Q [.agg [.int .i64 k,.int .i64 1,.int .i64 (i64.wrap (i64.wrap (w.1+(gt (iI.pair iI) costsL k.toNat).1)+(gt (iI.pair iI) costsL k.toNat).2)),.int .i64 (i64.wrap (w.2+1))]] [(6,.var [.int .i64 w.1,.int .i64 w.2]),(7,.var [.int .i64 g.1,.int .i64 g.2.1,.int .i64 g.2.2.1,.int .i64 g.2.2.2]),(8,.var [.int .i64 k,.int .i64 1,.int .i64 (i64.wrap (i64.wrap (w.1+(gt (iI.pair iI) costsL k.toNat).1)+(gt (iI.pair iI) costsL k.toNat).2)),.int .i64 (i64.wrap (w.2+1))]),(9,.var [.int .i64 (gt (iI.pair iI) costsL k.toNat).1,.int .i64 (gt (iI.pair iI) costsL k.toNat).2]),(10,.var [.int .i64 k,.int .i64 1,.int .i64 (i64.wrap (i64.wrap (w.1+(gt (iI.pair iI) costsL k.toNat).1)+(gt (iI.pair iI) costsL k.toNat).2)),.int .i64 (i64.wrap (w.2+1))]),(11,.var [.int .i64 k,.int .i64 (i64.wrap (g.2.1+1)),.int .i64 (i64.wrap (g.2.2.1+(gt (iI.pair iI) costsL k.toNat).2)),.int .i64 g.2.2.2])]) (Q [.agg [.int .i64 k,.int .i64 (i64.wrap (g.2.1+1)),.int .i64 (i64.wrap (g.2.2.1+(gt (iI.pair iI) costsL k.toNat).2)),.int .i64 g.2.2.2]] [(6,.var [.int .i64 w.1,.int .i64 w.2]),(7,.var [.int .i64 g.1,.int .i64 g.2.1,.int .i64 g.2.2.1,.int .i64 g.2.2.2]),(8,.var [.int .i64 k,.int .i64 (i64.wrap (g.2.1+1)),.int .i64 (i64.wrap (g.2.2.1+(gt (iI.pair iI) costsL k.toNat).2)),.int .i64 g.2.2.2]),(9,.var [.int .i64 (gt (iI.pair iI) costsL k.toNat).1,.int .i64 (gt (iI.pair iI) costsL k.toNat).2]),(10,.var [.int .i64 k,.int .i64 1,.int .i64 (i64.wrap (i64.wrap (w.1+(gt (iI.pair iI) costsL k.toNat).1)+(gt (iI.pair iI) costsL k.toNat).2)),.int .i64 (i64.wrap (w.2+1))]),(11,.var [.int .i64 k,.int .i64 (i64.wrap (g.2.1+1)),.int .i64 (i64.wrap (g.2.2.1+(gt (iI.pair iI) costsL k.toNat).2)),.int .i64 g.2.2.2])]))))):=by kernel_rfl
def qn7 (k:Int) (l:List SyT):List (Nat × LB):=[(4,.var [.int .i64 k,.int .i64 (gtY l (0)).2.1,.int .i64 (l.length:Int),.int .u8 0,.nils]),(5,.var [.int .i64 k,.int .i64 (gtY l (0)).2.1,.int .i64 (l.length:Int),.int .u8 0,.nils])]
theorem vc_mk (k:Int) (l:List SyT) (Q:QT) (R:RT):sy tt G0 [] Tryd.f65.ntmps Tryd.f65.results.toList Q (fun it S=>R it (qa4 [4,5,31,32,33] [4,5,29] S)) 1000 [.code (qae Tryd.f65)] (entry [iI,.sl syS] (k,l,())) =
  ((0:Int)<=0 /\
 (0:Int)<(l.length:Int) /\
 bc (decide (k=(3:Int))) ((0:Int)<=0 /\
 (0:Int)<(l.length:Int) /\
 Q [.agg [.int .i64 k,.int .i64 (gtY l (0)).2.1,.int .i64 (l.length:Int),.int .u8 (gtY l (0)).2.2,.nils]] [(4,.var [.int .i64 k,.int .i64 (gtY l (0)).2.1,.int .i64 (l.length:Int),.int .u8 (gtY l (0)).2.2,.nils]),(5,.var [.int .i64 k,.int .i64 (gtY l (0)).2.1,.int .i64 (l.length:Int),.int .u8 (gtY l (0)).2.2,.nils])]) (bc (decide (k=(2:Int))) (bc (decide (k=(2:Int))) ((0:Int)<=(l.length:Int) /\
 (l.length:Int)<=(l.length:Int) /\
 (l.length:Int)<2 ^ 24 /\
 (↑(1:Nat):Int)*(l.length:Int)<=2 ^ 48 /\
 R (hd Tryd.f65 0) { env:=[(4,.ptr 4 0),(5,.ptr 5 0),(31,.sl syS l),(32,.int .i64 (l.length:Int)),(33,.int .i64 0)],blk:=[(4,.var [.int .i64 0,.int .i64 0,.int .i64 0,.int .u8 0,.nils]),(5,.var [.int .i64 k,.int .i64 (gtY l (0)).2.1,.int .i64 (l.length:Int),.int .u8 0,.win true uB 29 0 (l.length:Int).toNat]),(29,.row 5 uB (List.replicate (l.length:Int).toNat uB.dflt))] }) (Q [.agg [.int .i64 k,.int .i64 (gtY l (0)).2.1,.int .i64 (l.length:Int),.int .u8 0,.nils]] (qn7 k l))) (bc (decide (k=(4:Int))) ((0:Int)<=(l.length:Int) /\
 (l.length:Int)<=(l.length:Int) /\
 (l.length:Int)<2 ^ 24 /\
 (↑(1:Nat):Int)*(l.length:Int)<=2 ^ 48 /\
 R (hd Tryd.f65 0) { env:=[(4,.ptr 4 0),(5,.ptr 5 0),(31,.sl syS l),(32,.int .i64 (l.length:Int)),(33,.int .i64 0)],blk:=[(4,.var [.int .i64 0,.int .i64 0,.int .i64 0,.int .u8 0,.nils]),(5,.var [.int .i64 k,.int .i64 (gtY l (0)).2.1,.int .i64 (l.length:Int),.int .u8 0,.win true uB 29 0 (l.length:Int).toNat]),(29,.row 5 uB (List.replicate (l.length:Int).toNat uB.dflt))] }) (Q [.agg [.int .i64 k,.int .i64 (gtY l (0)).2.1,.int .i64 (l.length:Int),.int .u8 0,.nils]] (qn7 k l))))):=by kernel_rfl
theorem q7n (k a:Int) (b:List Int) (l:List SyT) (i:Nat) (Q:QT) (R:RT):sy tt G0 [] Tryd.f65.ntmps Tryd.f65.results.toList Q (fun it S=>R it (qa4 [4,5,31,32,33] [4,5,29] S)) 1000 (hd Tryd.f65 0) ⟨[(4,.ptr 4 0),(5,.ptr 5 0),(31,.sl syS l),(32,.int .i64 l.length),(33,.int .i64 (i:Nat))],[(4,.var [.int .i64 0,.int .i64 0,.int .i64 0,.int .u8 0,.nils]),(5,.var [.int .i64 k,.int .i64 a,.int .i64 l.length,.int .u8 0,.win true uB 29 0 b.length]),(29,.row 5 uB b)]⟩ =
  (bc (decide ((i:Int)<(l.length:Int))) ((0:Int)<=(i:Int) /\
 (i:Int)<(l.length:Int) /\
 (0:Int)<=(i:Int) /\
 (i:Int)<(b.length:Int) /\
 0+(i:Int).toNat<b.length /\
 R (hd Tryd.f65 0) { env:=[(4,.ptr 4 0),(5,.ptr 5 0),(31,.sl syS l),(32,.int .i64 (l.length:Int)),(33,.int .i64 (IntKind.i64.wrap ((i:Int)+1)))],blk:=[(4,.var [.int .i64 0,.int .i64 0,.int .i64 0,.int .u8 0,.nils]),(5,.var [.int .i64 k,.int .i64 a,.int .i64 (l.length:Int),.int .u8 0,.win true uB 29 0 b.length]),(29,.row 5 uB (b.set (0+(i:Int).toNat) (gtY l (i:Int).toNat).2.2))] }) (Q [.agg [.int .i64 k,.int .i64 a,.int .i64 (l.length:Int),.int .u8 0,.win true uB 29 0 b.length]] [(4,.var [.int .i64 k,.int .i64 a,.int .i64 (l.length:Int),.int .u8 0,.win true uB 29 0 b.length]),(5,.var [.int .i64 k,.int .i64 a,.int .i64 (l.length:Int),.int .u8 0,.win true uB 29 0 b.length]),(29,.row 5 uB b)])):=by kernel_rfl
theorem q7o (k a:Int) (d:List Int) (l:List SyT) (i:Nat) (Q:QT) (R:RT):sy tt G0 [] Tryd.f65.ntmps Tryd.f65.results.toList Q (fun it S=>R it (qa4 [4,5,31,32,33] [4,5,29] S)) 1000 (hd Tryd.f65 0) ⟨[(4,.ptr 4 0),(5,.ptr 5 0),(31,.sl syS l),(32,.int .i64 l.length),(33,.int .i64 (i:Nat))],[(4,.var [.int .i64 0,.int .i64 0,.int .i64 0,.int .u8 0,.nils]),(5,.var [.int .i64 k,.int .i64 a,.int .i64 l.length,.int .u8 0,.sl uB d])]⟩ =
  (bc (decide ((i:Int)<(l.length:Int))) ((0:Int)<=(i:Int) /\
 (i:Int)<(l.length:Int) /\
 (0:Int)<=(i:Int) /\
 (i:Int)<(d.length:Int) /\
 False) (Q [.agg [.int .i64 k,.int .i64 a,.int .i64 (l.length:Int),.int .u8 0,.sl uB d]] [(4,.var [.int .i64 k,.int .i64 a,.int .i64 (l.length:Int),.int .u8 0,.sl uB d]),(5,.var [.int .i64 k,.int .i64 a,.int .i64 (l.length:Int),.int .u8 0,.sl uB d])])):=by kernel_rfl
attribute [local irreducible] Go.Px.sy Go.Px.syE
theorem q6m {k:Int} (hk:kOK k):gt (iI.pair iI) costsL k.toNat=(hdC k,eaC k):=by
 rcases (show k=1\/k=2\/k=3\/k=4 by unfold kOK at hk;omega) with e | e | e | e <;> subst e <;> rfl
theorem q6z (k:Int) (l:List SyT) (c o gk gn gc go:Int) (hp:q49 k l (gk,gn,gc,go)) (hb:boB (c,o) (gk,gn,gc,go)) (R:List Item->PS->Prop):sy tt G0 CBe Tryd.f70.ntmps Tryd.f70.results.toList (QC ctBg (k,l,(c,o),(gk,gn,gc,go),())) R 1000 [.code (qae Tryd.f70)] (entry [iI,.sl syS,suS,liS] (k,l,(c,o),(gk,gn,gc,go),())):=by
 refine (q8b k l (c,o) (gk,gn,gc,go) _ _).mpr ?_;have out:∀ a b d e,begL k l (c,o) (gk,gn,gc,go)=(a,b,d,e)->ctBg.out (k,l,(c,o),(gk,gn,gc,go),())=[SV.agg [.int .i64 a,.int .i64 b,.int .i64 d,.int .i64 e]]:=fun a b d e q=>congrArg (fun x:LiT=>[SV.agg [.int .i64 x.1,.int .i64 x.2.1,.int .i64 x.2.2.1,.int .i64 x.2.2.2]]) q
 obtain ⟨hk,h1,h2⟩:=hp;obtain ⟨⟨b1,b2,b3,b4⟩,b5,b6,b7,b8⟩:=hb;simp only at b1 b2 b3 b4 b5 b6 b7 b8 h2;have hh:=q9e k;have he:=q9m k;have hk':0<=k/\k<5:=by unfold kOK at hk;omega
 rw[q6m hk];simp only;have w1:IntKind.i64.wrap (c+hdC k)=c+hdC k:=IntWalk.i64_in _ (by omega);have w2:IntKind.i64.wrap (c+hdC k+eaC k)=c+hdC k+eaC k:=IntWalk.i64_in _ (by omega);have w3:IntKind.i64.wrap (o+1)=o+1:=IntWalk.i64_in _ (by omega);have w4:IntKind.i64.wrap (gn+1)=gn+1:=IntWalk.i64_in _ (by omega);have w5:IntKind.i64.wrap (gc+eaC k)=gc+eaC k:=IntWalk.i64_in _ (by omega);rw[w1,w2,w3,w4,w5];refine ⟨by omega,by omega,trivial,qaf (fun h=>?_) (fun h=>⟨hk'.1,hk'.2,qaf (fun h3=>⟨by trivial,?_⟩) (fun h3=>⟨by omega,by omega,by omega,?_,trivial,qaf (fun h4=>?_) (fun h4=>⟨trivial,qaf (fun h5=>?_) (fun h5=>?_)⟩)⟩)⟩)⟩
 ·have h:canB k (gtY l 0)=false:=by simpa using h
  exact QC.flat (out _ _ _ _ (by unfold begL begF;rw[if_pos h];rfl)) rfl rfl
 ·have h:¬ canB k (gtY l 0)=false:=by
   have:(!canB k (gtY l 0))=false:=h;simpa using this
  have h3:gn=0:=of_decide_eq_true h3;exact QC.flat (out _ _ _ _ (by unfold begL begF;rw[if_neg h,if_pos (.inl h3)];rfl)) rfl rfl
 ·have h3:¬ gn=0:=of_decide_eq_false h3;omega
 ·have h:¬ canB k (gtY l 0)=false:=by
   have:(!canB k (gtY l 0))=false:=h;simpa using this
  have h4:(!goK k (gtY l 0) (gtY l 1))=true:=h4;have h4:goK k (gtY l 0) (gtY l 1)=false:=by simpa using h4
  exact QC.flat (out _ _ _ _ (by unfold begL begF;rw[if_neg h,if_pos (.inr h4)];rfl)) rfl rfl
 ·have h:¬ canB k (gtY l 0)=false:=by
   have:(!canB k (gtY l 0))=false:=h;simpa using this
  have h3:¬ gn=0:=of_decide_eq_false h3;have h4:(!goK k (gtY l 0) (gtY l 1))=false:=h4;have h4:goK k (gtY l 0) (gtY l 1)=true:=by simpa using h4
  have hz:¬ ((gk,gn,gc,go).2.1=0\/goK k (gtY l 0) (gtY l 1)=false):=by
   rw[h4];intro q;rcases q with q | q
   ·exact h3 q
   ·cases q
  have h5:betB (oneF k (c,o)) (qkd k (gk,gn,gc,go))=true:=h5;exact QC.flat (out _ _ _ _ (by unfold begL begF;rw[if_neg h,if_neg hz,if_pos h5];rfl)) rfl rfl
 ·have h:¬ canB k (gtY l 0)=false:=by
   have:(!canB k (gtY l 0))=false:=h;simpa using this
  have h3:¬ gn=0:=of_decide_eq_false h3;have h4:(!goK k (gtY l 0) (gtY l 1))=false:=h4;have h4:goK k (gtY l 0) (gtY l 1)=true:=by simpa using h4
  have hz:¬ ((gk,gn,gc,go).2.1=0\/goK k (gtY l 0) (gtY l 1)=false):=by
   rw[h4];intro q;rcases q with q | q
   ·exact h3 q
   ·cases q
  have h5:betB (oneF k (c,o)) (qkd k (gk,gn,gc,go))=false:=h5;exact QC.flat (out _ _ _ _ (by unfold begL begF;rw[if_neg h,if_neg hz,if_neg (by rw[h5];decide)];rfl)) rfl rfl
theorem q0s:Held Tryd.prog G0 70 ctBg:=Held.run cxBe (fn:=Tryd.f70) rfl rfl ⟨by decide,by decide⟩ fun ⟨k,l,⟨c,o⟩,⟨gk,gn,gc,go⟩,_⟩ hp=>q6z k l c o gk gn gc go hp.1 hp.2 _
theorem q5w (k a:Int) (l:List SyT) (hl:l.length<16777216):∀ (n i:Nat) (b:List Int),l.length-i=n->i<=l.length->b.length=l.length->(∀ j,j<i->b[j]?=(l.map fun s=>s.2.2)[j]?) ->
  GD 65 Tryd.f65 (fun rs _=>rs=[.agg [.int .i64 k,.int .i64 a,.int .i64 l.length,.int .u8 0,.sl uB (l.map fun s=>s.2.2)]]) (hd Tryd.f65 0) ⟨[(4,.ptr 4 0),(5,.ptr 5 0),(31,.sl syS l),(32,.int .i64 l.length),(33,.int .i64 (i:Nat))],[(4,.var [.int .i64 0,.int .i64 0,.int .i64 0,.int .u8 0,.nils]),(5,.var [.int .i64 k,.int .i64 a,.int .i64 l.length,.int .u8 0,.win true uB 29 0 b.length]),(29,.row 5 uB b)]⟩:=by
 intro n
 induction n with
 | zero=>
  intro i b hk hi hb hj;have hi:i=l.length:=by omega
  subst hi;have hbl:b=l.map fun s=>s.2.2:=by
   refine List.ext_getElem? fun j=>?_
   by_cases h:j<l.length
   ·exact hj j h
   ·rw[List.getElem?_eq_none (by omega),List.getElem?_eq_none (by rw[List.length_map];omega)]
  refine Good.frz (i:=29) (e:=uB) (et:=5) (xs:=b) rfl (fun c hc=>?_) ?_
  ·have hc:c∈[0+b.length<=b.length]:=hc;rw[List.mem_singleton] at hc;subst hc;omega
  ·have e:GD 65 Tryd.f65 (fun rs _=>rs=[.agg [.int .i64 k,.int .i64 a,.int .i64 l.length,.int .u8 0,.sl uB (l.map fun s=>s.2.2)]]) (hd Tryd.f65 0) ⟨[(4,.ptr 4 0),(5,.ptr 5 0),(31,.sl syS l),(32,.int .i64 l.length),(33,.int .i64 (l.length:Nat))],[(4,.var [.int .i64 0,.int .i64 0,.int .i64 0,.int .u8 0,.nils]),(5,.var [.int .i64 k,.int .i64 a,.int .i64 l.length,.int .u8 0,.sl uB (winL uB 0 b.length b)])]⟩:=by
    refine qak cx0 (q7o k a (winL uB 0 b.length b) l l.length _ _) ?_;rw[decide_eq_false (by omega),bc_f,winA,hbl]
   exact e.only ⟨rfl,rfl,rfl,rfl,rfl,trivial⟩ ⟨rfl,rfl,trivial⟩
 | succ n ih=>
  intro i b hk hi hb hj;have hil:i<l.length:=by omega
  refine qak cx0 (q7n k a b l i _ _) ?_;rw[decide_eq_true (show (i:Int)<(l.length:Int) by omega),bc_t,Int.toNat_natCast,qbn hil,IntWalk.i64_in ((i:Int)+1) (by omega),Nat.zero_add];refine ⟨by omega,by omega,by omega,by omega,by omega,?_⟩;refine (ih (i+1) (b.set i l[i].2.2) (by omega) (by omega) (by rw[List.length_set];exact hb) (fun j h=>?_)).only ⟨rfl,rfl,rfl,rfl,rfl,trivial⟩ ⟨rfl,?_,rfl,trivial⟩
  ·rw[List.getElem?_set];by_cases hji:i=j
   ·subst hji;rw[if_pos rfl,if_pos (by omega),List.getElem?_map,List.getElem?_eq_getElem hil];rfl
   ·rw[if_neg hji];exact hj j (by omega)
  ·rw[List.length_set];rfl
theorem q89 (k:Int) (l:List SyT) (hp:q46 k l):GD 65 Tryd.f65 (QC ctMk (k,l,())) [.code (qae Tryd.f65)] (entry [iI,.sl syS] (k,l,())):=by
 obtain ⟨hk,h0,h1⟩:=hp;have dat:k=2\/k=4->GD 65 Tryd.f65 (QC ctMk (k,l,())) (hd Tryd.f65 0) ⟨[(4,.ptr 4 0),(5,.ptr 5 0),(31,.sl syS l),(32,.int .i64 l.length),(33,.int .i64 ((0:Nat):Int))],[(4,.var [.int .i64 0,.int .i64 0,.int .i64 0,.int .u8 0,.nils]),(5,.var [.int .i64 k,.int .i64 (gtY l 0).2.1,.int .i64 l.length,.int .u8 0,.win true uB 29 0 (List.replicate (l.length:Int).toNat (0:Int)).length]),(29,.row 5 uB (List.replicate (l.length:Int).toNat (0:Int)))]⟩:=fun hk2=>by
  refine (q5w k (gtY l 0).2.1 l h1 _ 0 (List.replicate (l.length:Int).toNat 0) rfl (by omega) (by rw[List.length_replicate,Int.toNat_natCast]) (fun j h=>by omega)).post fun rs blk hq=>QC.flat ?_ rfl (by rw[hq];rfl)
  rw[hq]
  show mdV (mdK k l)=_
  unfold mdK;rw[if_neg (show ¬ k=3 by omega),if_pos hk2];rfl
 have room:(0:Int)<=(l.length:Int)/\(l.length:Int)<=(l.length:Int)/\(l.length:Int)<(2:Int) ^ (24:Nat)/\((1:Nat):Int)*(l.length:Int)<=(2:Int) ^ (48:Nat):=by
  refine ⟨by omega,by omega,?_,?_⟩
  ·show (l.length:Int)<16777216
   omega
  ·show (1:Int)*(l.length:Int)<=281474976710656
   omega
 refine qak cx0 (vc_mk k l _ _) ⟨by omega,by omega,qaf (fun h=>⟨by omega,by omega,?_⟩) (fun h=>qaf (fun h2=>?_) (fun h2=>qaf (fun h3=>?_) (fun h3=>?_)))⟩
 ·have h:=of_decide_eq_true h;subst h;refine QC.mt ?_ rfl
  show MtL _ (mdV (mdK 3 l)) _
  exact ⟨_,_,rfl,⟨_,rfl,_,_,rfl,rfl,_,_,rfl,rfl,_,_,rfl,rfl,_,_,rfl,rfl,_,_,rfl,.inr ⟨rfl,rfl⟩,rfl⟩,rfl⟩
 ·have h2':=of_decide_eq_true h2;rw[h2,bc_t];refine ⟨room.1,room.2.1,room.2.2.1,room.2.2.2,(dat (.inl h2')).only ⟨rfl,rfl,rfl,rfl,rfl,trivial⟩ ⟨rfl,?_,rfl,trivial⟩⟩;rw[List.length_replicate];rfl
 ·have h3':=of_decide_eq_true h3;refine ⟨room.1,room.2.1,room.2.2.1,room.2.2.2,(dat (.inr h3')).only ⟨rfl,rfl,rfl,rfl,rfl,trivial⟩ ⟨rfl,?_,rfl,trivial⟩⟩;rw[List.length_replicate];rfl
 ·have h:=of_decide_eq_false h;have h2:=of_decide_eq_false h2;have h3:=of_decide_eq_false h3;unfold kOK at hk;have hk1:k=1:=by omega
  subst hk1;refine QC.mt ?_ rfl
  show MtL _ (mdV (mdK 1 l)) _
  exact ⟨_,_,rfl,⟨_,rfl,_,_,rfl,rfl,_,_,rfl,rfl,_,_,rfl,rfl,_,_,rfl,rfl,_,_,rfl,.inr ⟨rfl,rfl⟩,rfl⟩,rfl⟩
theorem q5x:Held Tryd.prog G0 65 ctMk:=Held.of cx0 (fn:=Tryd.f65) rfl rfl ⟨by decide,by decide⟩ fun ⟨k,l,_⟩ hp=>q89 k l hp
def CBs:CV:=[(70,.inl ctBg),(71,.inl ctBet)]
theorem cxBs:CxOK Tryd.prog tt G0 CBs:=(cx0.cons qro (fn:=Tryd.f71) rfl rfl rfl).cons q0s (fn:=Tryd.f70) rfl rfl rfl
abbrev gtL (l:List LiT) (i:Nat):LiT:=gt liS l i
set_option maxRecDepth 100000
theorem vc_bs (l:List SyT) (Q:QT) (R:RT):sy tt G0 CBs Tryd.f64.ntmps Tryd.f64.results.toList Q (fun it S=>R it (qa4 [0,3,4,5,6] [4,10] S)) 1000 [.code (qae Tryd.f64)] (entry [.sl syS] (l,())) =
  ((0:Int)<=i64.wrap ((l.length:Int)+1) /\
 i64.wrap ((l.length:Int)+1)<=i64.wrap ((l.length:Int)+1) /\
 i64.wrap ((l.length:Int)+1)<2 ^ 24 /\
 (↑(32:Nat):Int)*i64.wrap ((l.length:Int)+1)<=2 ^ 48 /\
 R (hd Tryd.f64 0) { env:=[(0,.sl syS l),(3,.win true liS 10 0 (i64.wrap ((l.length:Int)+1)).toNat),(4,.ptr 4 0),(5,.int .i64 (i64.wrap ((l.length:Int)-1)))],blk:=[(4,.var [.arr (5:Nat) liS (Sh.arr (5:Nat) liS).dflt]),(10,.row 120 liS (List.replicate (i64.wrap ((l.length:Int)+1)).toNat liS.dflt))] }):=by kernel_rfl
theorem q1m (l:List SyT) (b bg:List LiT) (i:Int) (Q:QT) (R:RT):sy tt G0 CBs Tryd.f64.ntmps Tryd.f64.results.toList Q (fun it S=>R it (qa4 [0,3,4,5,6] [4,10] S)) 1000 (hd Tryd.f64 0) ⟨[(0,.sl syS l),(3,.win true liS 10 0 b.length),(4,.ptr 4 0),(5,.int .i64 i)],[(4,.var [.arr 5 liS bg]),(10,.row 120 liS b)]⟩ =
  (bc (decide ((0:Int)<=i)) (R (hd Tryd.f64 1) { env:=[(0,.sl syS l),(3,.win true liS 10 0 b.length),(4,.ptr 4 0),(5,.int .i64 i),(6,.int .i64 1)],blk:=[(4,.var [.arr (5:Nat) liS bg]),(10,.row 120 liS b)] }) (Q [.win true liS 10 0 b.length] [(4,.var [.arr (5:Nat) liS bg]),(10,.row 120 liS b)])):=by kernel_rfl
theorem q1n (l:List SyT) (b bg:List LiT) (i k:Int) (Q:QT) (R:RT):sy tt G0 CBs Tryd.f64.ntmps Tryd.f64.results.toList Q (fun it S=>R it (qa4 [0,3,4,5,6] [4,10] S)) 1000 (hd Tryd.f64 1) ⟨[(0,.sl syS l),(3,.win true liS 10 0 b.length),(4,.ptr 4 0),(5,.int .i64 i),(6,.int .i64 k)],[(4,.var [.arr 5 liS bg]),(10,.row 120 liS b)]⟩ =
  (bc (decide (k<=4)) ((0:Int)<=i /\
 i<=(l.length:Int) /\
 (0:Int)<=i64.wrap (i+1) /\
 i64.wrap (i+1)<(b.length:Int) /\
 0+(i64.wrap (i+1)).toNat<b.length /\
 (0:Int)<=k /\
 k<(↑(5:Nat):Int) /\
 k.toNat<5 /\
 ctBg.pre (k,List.drop i.toNat l,((gtL b (0+(i64.wrap (i+1)).toNat)).2.2),(gtL bg k.toNat),()) /\
 (0:Int)<=k /\
 k<(↑(5:Nat):Int) /\
 k.toNat<5 /\
 (0:Int)<=k /\
 k<(↑(5:Nat):Int) /\
 k.toNat<5 /\
 (0:Int)<=i /\
 i<(b.length:Int) /\
 0+i.toNat<b.length /\
 ctBet.pre ((gtL (bg.set k.toNat (begL k (List.drop i.toNat l) ((gtL b (0+(i64.wrap (i+1)).toNat)).2.2) (gtL bg k.toNat))) k.toNat),(gtL b (0+i.toNat)),()) /\
 bc (betB (gtL (bg.set k.toNat (begL k (List.drop i.toNat l) ((gtL b (0+(i64.wrap (i+1)).toNat)).2.2) (gtL bg k.toNat))) k.toNat) (gtL b (0+i.toNat))) ((0:Int)<=k /\
 k<(↑(5:Nat):Int) /\
 k.toNat<5 /\
 (0:Int)<=i /\
 i<(b.length:Int) /\
 0+i.toNat<b.length /\
 R (hd Tryd.f64 1) { env:=[(0,.sl syS l),(3,.win true liS 10 0 b.length),(4,.ptr 4 0),(5,.int .i64 i),(6,.int .i64 (i64.wrap (k+1)))],blk:=[(4,.var [.arr (5:Nat) liS (bg.set k.toNat (begL k (List.drop i.toNat l) ((gtL b (0+(i64.wrap (i+1)).toNat)).2.2) (gtL bg k.toNat)))]),(10,.row 120 liS (b.set (0+i.toNat) (gtL (bg.set k.toNat (begL k (List.drop i.toNat l) ((gtL b (0+(i64.wrap (i+1)).toNat)).2.2) (gtL bg k.toNat))) k.toNat)))] }) (R (hd Tryd.f64 1) { env:=[(0,.sl syS l),(3,.win true liS 10 0 b.length),(4,.ptr 4 0),(5,.int .i64 i),(6,.int .i64 (i64.wrap (k+1)))],blk:=[(4,.var [.arr (5:Nat) liS (bg.set k.toNat (begL k (List.drop i.toNat l) ((gtL b (0+(i64.wrap (i+1)).toNat)).2.2) (gtL bg k.toNat)))]),(10,.row 120 liS b)] })) (R (hd Tryd.f64 0) { env:=[(0,.sl syS l),(3,.win true liS 10 0 b.length),(4,.ptr 4 0),(5,.int .i64 (i64.wrap (i-1))),(6,.int .i64 k)],blk:=[(4,.var [.arr (5:Nat) liS bg]),(10,.row 120 liS b)] })):=by kernel_rfl
def bT (l:List SyT) (m:Nat):List LiT:=(List.range (l.length+1)).map fun j=>if m<=j then bst (l.drop j) else zLi
theorem ql9 (l:List SyT) (m:Nat):(bT l m).length=l.length+1:=by simp[bT]
theorem q9y (l:List SyT) (i:Nat) (hi:i<=l.length):bT l i=(bT l (i+1)).set i (bst (l.drop i)):=by
 refine List.ext_getElem? fun j=>?_
 rw[List.getElem?_set];by_cases h:i=j
 ·subst h;rw[if_pos rfl,if_pos (by rw[ql9];omega)];simp[bT,show i<l.length+1 by omega]
 ·rw[if_neg h];unfold bT;by_cases hj:j<l.length+1
  ·simp only[List.getElem?_map,List.getElem?_range hj,Option.map_some];by_cases h2:i<=j
   ·rw[if_pos h2,if_pos (by omega)]
   ·rw[if_neg h2,if_neg (by omega)]
  ·simp[show l.length+1<=j by omega]
theorem bT_z (l:List SyT) (i:Nat) (hi:i<=l.length):(bT l (i+1)).set i zLi=bT l (i+1):=by
 refine List.ext_getElem? fun j=>?_
 rw[List.getElem?_set];by_cases h:i=j
 ·subst h;rw[if_pos rfl,if_pos (by rw[ql9];omega)];simp[bT,show i<l.length+1 by omega,show ¬ (i+1<=i) by omega]
 ·rw[if_neg h]
theorem qxf (l:List SyT) (m j:Nat) (hj:j<=l.length) (hm:m<=j):gtL (bT l m) j=bst (l.drop j):=by
 show ((bT l m)[j]?).getD _=_
 simp[bT,show j<l.length+1 by omega,hm]
theorem q9z (l:List SyT):List.replicate (l.length+1) (liS.dflt:LiT)=bT l l.length:=by
 refine List.ext_getElem? fun j=>?_
 by_cases hj:j<l.length+1
 ·simp only[bT,List.getElem?_replicate,List.getElem?_map,List.getElem?_range hj,Option.map_some,if_pos hj];by_cases h:l.length<=j
  ·rw[if_pos h,List.drop_eq_nil_of_le h];rfl
  ·rw[if_neg h];rfl
 ·simp[bT,show l.length+1<=j by omega]
def bgL (r:List SyT):List LiT:=[zLi,beg r 1,beg r 2,beg r 3,beg r 4]
def qch (l:List SyT):List LiT:=bT l 0
def q48 (l:List SyT):Prop:=l.length<=65536
def ctBs:Ctr:=⟨[.sl syS],fun x=>q48 x.1,fun x=>[.win true liS 0 0 (qch x.1).length],fun x=>[.row 120 liS (qch x.1)]⟩
section
variable (l:List SyT) (hl:l.length<=65536)
abbrev BQ:List SV->List (Nat × LB)->Prop:=QC ctBs (l,())
abbrev bsO (b bg:List LiT) (i:Int):PS:=⟨[(0,.sl syS l),(3,.win true liS 10 0 b.length),(4,.ptr 4 0),(5,.int .i64 i)],[(4,.var [.arr 5 liS bg]),(10,.row 120 liS b)]⟩
abbrev bsI (b bg:List LiT) (i k:Int):PS:=⟨[(0,.sl syS l),(3,.win true liS 10 0 b.length),(4,.ptr 4 0),(5,.int .i64 i),(6,.int .i64 k)],[(4,.var [.arr 5 liS bg]),(10,.row 120 liS b)]⟩
include hl
theorem qnh (i:Nat) (hi:i<l.length) (k:Nat) (hk:1<=k/\k<=4) (b bg:List LiT) (hb:b.length=l.length+1) (hbg:bg.length=5) (c:LiT) (h1:gtL b (i+1)=bst (l.drop (i+1))) (hg:gtL bg k=beg (l.drop (i+1)) k)
  (nx:GD 64 Tryd.f64 (BQ l) (hd Tryd.f64 1) (bsI l (b.set i (upd c (beg (l.drop i) k))) (bg.set k (beg (l.drop i) k)) i ((k+1:Nat):Int))) :
  GD 64 Tryd.f64 (BQ l) (hd Tryd.f64 1) (bsI l (b.set i c) bg i (k:Nat)):=by
 have kk:kOK (k:Int):=by unfold kOK;omega
 have hd:l.drop i=l[i]::l.drop (i+1):=List.drop_eq_getElem_cons hi;have rl:(l.drop (i+1)).length=l.length-(i+1):=List.length_drop ..;have ra:=qrd (l.drop (i+1)) (by omega);have rb:=qr2 (l.drop (i+1)) (by omega);have eb:begL k (l.drop i) (bst (l.drop (i+1))).2.2 (beg (l.drop (i+1)) k)=beg (l.drop i) k:=by
  rw[hd,qr4];unfold begL;rw[qp2,q9f l[i] (l.drop (i+1)) 0]
 refine qak cxBs (q1n l (b.set i c) bg i k _ _) ?_;have w1:IntKind.i64.wrap ((i:Int)+1)=((i+1:Nat):Int):=by rw[IntWalk.i64_in _ (by omega)];omega
 have w2:IntKind.i64.wrap ((k:Int)+1)=((k+1:Nat):Int):=by rw[IntWalk.i64_in _ (by omega)];omega
 have g1:gtL (b.set i c) (0+(i+1))=bst (l.drop (i+1)):=by
  rw[<- h1,Nat.zero_add]
  show ((b.set i c)[i+1]?).getD _=(b[i+1]?).getD _
  rw[List.getElem?_set_ne (by omega)]
 have g2:∀ x,gtL (bg.set k x) k=x:=fun x=>by
  show ((bg.set k x)[k]?).getD _=_
  rw[List.getElem?_set_self (by omega)];rfl
 have g3:gtL (b.set i c) (0+i)=c:=by
  rw[Nat.zero_add]
  show ((b.set i c)[i]?).getD _=_
  rw[List.getElem?_set_self (by omega)];rfl
 rw[w1,w2,decide_eq_true (show (k:Int)<=4 by omega),bc_t];simp only[Int.toNat_natCast];rw[g1,hg,eb,g2,g3];have pl:(l.drop i).length=l.length-i:=List.length_drop ..;have pre1:q49 k (l.drop i) (beg (l.drop (i+1)) k):=by
  refine ⟨kk,by omega,?_⟩;rcases ra.1 k kk with h | ⟨_,n,n1,n2,n3,_⟩
  ·left;rw[h.2];rfl
  ·right;have:=qfj k (l.drop (i+1));omega
 have pre2:boB (bst (l.drop (i+1))).2.2 (beg (l.drop (i+1)) k):=by
  unfold boL at rb;refine ⟨by omega,?_⟩;rcases ra.1 k kk with h | ⟨_,n,n1,n2,n3,_,_,h⟩
  ·rw[h.2];exact (show 0<=(0:Int)/\(0:Int)<16777216/\0<=(0:Int)/\(0:Int)<16777216 by decide)
  ·have:=qfj k (l.drop (i+1));unfold boL at h;omega
 have bl:(b.set i c).length=l.length+1:=by rw[List.length_set];exact hb
 refine ⟨by omega,by omega,by omega,by omega,by omega,by omega,by omega,by omega,⟨pre1,pre2⟩,by omega,by omega,by omega,by omega,by omega,by omega,by omega,by omega,by omega,trivial,qaf (fun h=>?_) (fun h=>?_)⟩
 ·have eu:upd c (beg (l.drop i) k)=beg (l.drop i) k:=by unfold upd;rw[if_pos h]
  rw[eu] at nx;refine ⟨by omega,by omega,by omega,by omega,by omega,by omega,?_⟩;rw[Nat.zero_add,List.set_set];exact nx.only ⟨rfl,by simp only[List.length_set];rfl,rfl,rfl,rfl,trivial⟩ ⟨rfl,rfl,trivial⟩
 ·have eu:upd c (beg (l.drop i) k)=c:=by unfold upd;rw[if_neg (by rw[h];decide)]
  rw[eu] at nx;exact nx.only ⟨rfl,rfl,rfl,rfl,rfl,trivial⟩ ⟨rfl,rfl,trivial⟩
theorem q6x:∀ (n:Nat),n<=l.length->GD 64 Tryd.f64 (BQ l) (hd Tryd.f64 0) (bsO l (bT l n) (bgL (l.drop n)) ((n:Int)-1)):=by
 intro n
 induction n with
 | zero=>
  intro hn;refine qak cxBs (q1m l (bT l 0) (bgL (l.drop 0)) (((0:Nat):Int)-1) _ _) ?_;rw[decide_eq_false (by omega),bc_f];exact q8v (e:=liS) (et:=120) (a:=10) (xs:=qch l) rfl rfl rfl rfl rfl
 | succ n ih=>
  intro hn;have e:((n+1:Nat):Int)-1=(n:Int):=by omega
  rw[e];refine qak cxBs (q1m l (bT l (n+1)) (bgL (l.drop (n+1))) n _ _) ?_;rw[decide_eq_true (show (0:Int)<=(n:Int) by omega),bc_t];have fin:GD 64 Tryd.f64 (BQ l) (hd Tryd.f64 1) (bsI l (bT l n) (bgL (l.drop n)) n 5):=by
   refine qak cxBs (q1n l (bT l n) (bgL (l.drop n)) n 5 _ _) ?_;rw[decide_eq_false (by omega),bc_f,IntWalk.i64_in ((n:Int)-1) (by omega)];exact (ih (by omega)).only ⟨rfl,rfl,rfl,rfl,trivial⟩ ⟨rfl,rfl,trivial⟩
  have hb:=ql9 l (n+1);have h1:=qxf l (n+1) (n+1) (by omega) (Nat.le_refl _);rw[q9y l n (by omega)] at fin;have hd:l.drop n=l[n]::l.drop (n+1):=List.drop_eq_getElem_cons hn;have up:bst (l.drop n)=upd (upd (upd (upd zLi (beg (l.drop n) 1)) (beg (l.drop n) 2)) (beg (l.drop n) 3)) (beg (l.drop n) 4):=by rw[hd];rfl
  rw[up] at fin;have s4:=qnh l hl n hn 4 ⟨by omega,by omega⟩ (bT l (n+1)) [zLi,beg (l.drop n) 1,beg (l.drop n) 2,beg (l.drop n) 3,beg (l.drop (n+1)) 4] hb rfl _ h1 rfl (fin.only ⟨rfl,by simp only[List.length_set];rfl,rfl,rfl,rfl,trivial⟩ ⟨rfl,rfl,trivial⟩);have s3:=qnh l hl n hn 3 ⟨by omega,by omega⟩ (bT l (n+1)) [zLi,beg (l.drop n) 1,beg (l.drop n) 2,beg (l.drop (n+1)) 3,beg (l.drop (n+1)) 4] hb rfl _ h1 rfl (s4.only ⟨rfl,by simp only[List.length_set];rfl,rfl,rfl,rfl,trivial⟩ ⟨rfl,rfl,trivial⟩);have s2:=qnh l hl n hn 2 ⟨by omega,by omega⟩ (bT l (n+1)) [zLi,beg (l.drop n) 1,beg (l.drop (n+1)) 2,beg (l.drop (n+1)) 3,beg (l.drop (n+1)) 4] hb rfl _ h1 rfl (s3.only ⟨rfl,by simp only[List.length_set];rfl,rfl,rfl,rfl,trivial⟩ ⟨rfl,rfl,trivial⟩);have s1:=qnh l hl n hn 1 ⟨by omega,by omega⟩ (bT l (n+1)) [zLi,beg (l.drop (n+1)) 1,beg (l.drop (n+1)) 2,beg (l.drop (n+1)) 3,beg (l.drop (n+1)) 4] hb rfl zLi h1 rfl (s2.only ⟨rfl,by simp only[List.length_set];rfl,rfl,rfl,rfl,trivial⟩ ⟨rfl,rfl,trivial⟩);rw[bT_z l n (by omega)] at s1;exact s1.only ⟨rfl,rfl,rfl,rfl,rfl,trivial⟩ ⟨rfl,rfl,trivial⟩
theorem q9w:GD 64 Tryd.f64 (BQ l) [.code (qae Tryd.f64)] (entry [.sl syS] (l,())):=by
 refine qak cxBs (vc_bs l _ _) ?_;rw[IntWalk.i64_in ((l.length:Int)+1) (by omega),IntWalk.i64_in ((l.length:Int)-1) (by omega)];have e:((l.length:Int)+1).toNat=l.length+1:=by omega
 rw[e];refine ⟨by omega,by omega,?_,?_,?_⟩
 ·show (l.length:Int)+1<16777216
  omega
 ·show (32:Int)*((l.length:Int)+1)<=281474976710656
  omega
 ·have h:=q6x l hl l.length (Nat.le_refl _);rw[List.drop_length] at h;rw[q9z l];exact h.only ⟨rfl,by rw[ql9];rfl,rfl,rfl,trivial⟩ ⟨rfl,rfl,trivial⟩
end
theorem q6y:Held Tryd.prog G0 64 ctBs:=Held.of cxBs (fn:=Tryd.f64) rfl rfl ⟨by decide,by decide⟩ fun ⟨l,_⟩ hp=>q9w l hp
def CCh:CV:=[(64,.inl ctBs),(65,.inl ctMk)]
theorem cxCh:CxOK Tryd.prog tt G0 CCh:=(cx0.cons q5x (fn:=Tryd.f65) rfl rfl rfl).cons q6y (fn:=Tryd.f64) rfl rfl rfl
set_option maxRecDepth 100000
theorem vc_ch (l:List SyT) (Q:QT) (R:RT):sy tt G0 CCh Tryd.f52.ntmps Tryd.f52.results.toList Q (fun it S=>R it (qa4 [0,3,4,5] [3,8,14,1032768] S)) 1000 [.code (qae Tryd.f52)] (entry [.sl syS] (l,())) =
  (ctBs.pre (l,()) /\
 (0:Int)<=0 /\
 (0:Int)<(↑(qch l).length:Int) /\
 0+0<(qch l).length /\
 (0:Int)<=0 /\
 (0:Int)<=(gtL (qch l) (0+0)).2.2.2 /\
 (gtL (qch l) (0+0)).2.2.2<2 ^ 24 /\
 (↑(56:Nat):Int)*(gtL (qch l) (0+0)).2.2.2<=2 ^ 48 /\
 R (hd Tryd.f52 0) { env:=[(0,.sl syS l),(3,.win true liS 1032768 0 (qch l).length),(4,.win true opS 14 0 (0:Nat)),(5,.int .i64 0)],blk:=[(14,.row 56 opS (List.replicate (0) opS.dflt)),(1032768,.row 120 liS (qch l))] }):=by kernel_rfl
theorem q77 (l:List SyT) (b:List LiT) (o:List OpT) (a:Nat) (Q:QT) (R:RT):sy tt G0 CCh Tryd.f52.ntmps Tryd.f52.results.toList Q (fun it S=>R it (qa4 [0,3,4,5] [14,46,1032768] S)) 1000 (hd Tryd.f52 0) ⟨[(0,.sl syS l),(3,.win true liS 1032768 0 b.length),(4,.win true opS 14 0 o.length),(5,.int .i64 (a:Nat))],[(14,.row 56 opS o),(1032768,.row 120 liS b)]⟩ =
  (bc (decide ((a:Int)<(l.length:Int))) ((0:Int)<=(a:Int) /\
 (a:Int)<(b.length:Int) /\
 0+(a:Int).toNat<b.length /\
 (0:Int)<=(a:Int) /\
 (a:Int)<(b.length:Int) /\
 0+(a:Int).toNat<b.length /\
 (0:Int)<=(a:Int) /\
 (a:Int)<i64.wrap ((a:Int)+(gtL b (0+(a:Int).toNat)).2.1) /\
 i64.wrap ((a:Int)+(gtL b (0+(a:Int).toNat)).2.1)<=i64.wrap ((a:Int)+(gtL b (0+(a:Int).toNat)).2.1) /\
 i64.wrap ((a:Int)+(gtL b (0+(a:Int).toNat)).2.1)<=(l.length:Int) /\
 i64.wrap ((a:Int)+(gtL b (0+(a:Int).toNat)).2.1)<1099511627776 /\
 ctMk.pre ((gtL b (0+(a:Int).toNat)).1,Px.part l (some (a:Int)) (some (i64.wrap ((a:Int)+(gtL b (0+(a:Int).toNat)).2.1))),()) /\
 0+1<=([(mdK (gtL b (0+(a:Int).toNat)).1 (Px.part l (some (a:Int)) (some (i64.wrap ((a:Int)+(gtL b (0+(a:Int).toNat)).2.1)))))]:List opS.D).length /\
 o.length=o.length /\
 (0:Nat)=(0:Nat) /\
 o.length+(([(mdK (gtL b (0+(a:Int).toNat)).1 (Px.part l (some (a:Int)) (some (i64.wrap ((a:Int)+(gtL b (0+(a:Int).toNat)).2.1)))))]:List opS.D)).length<2 ^ 30 /\
 (56:Nat)<=2 ^ 10 /\
 (0:Int)<=(a:Int) /\
 (a:Int)<(b.length:Int) /\
 0+(a:Int).toNat<b.length /\
 R (hd Tryd.f52 0) { env:=[(0,.sl syS l),(3,.win true liS 1032768 0 b.length),(4,.win true opS 46 0 (o.length+(([(mdK (gtL b (0+(a:Int).toNat)).1 (Px.part l (some (a:Int)) (some (i64.wrap ((a:Int)+(gtL b (0+(a:Int).toNat)).2.1)))))]:List opS.D)).length)),(5,.int .i64 (i64.wrap ((a:Int)+(gtL b (0+(a:Int).toNat)).2.1)))],blk:=[(46,.row 56 opS (o++([(mdK (gtL b (0+(a:Int).toNat)).1 (Px.part l (some (a:Int)) (some (i64.wrap ((a:Int)+(gtL b (0+(a:Int).toNat)).2.1)))))]:List opS.D))),(1032768,.row 120 liS b)] }) (Q [.win true opS 14 0 o.length] [(14,.row 56 opS o),(1032768,.row 120 liS b)])):=by kernel_rfl
theorem q78 (l:List SyT) (b:List LiT) (o:List OpT) (a:Nat) (Q:QT) (R:RT):sy tt G0 CCh Tryd.f52.ntmps Tryd.f52.results.toList Q (fun it S=>R it (qa4 [0,3,4,5] [14,1032768] S)) 1000 (hd Tryd.f52 0) ⟨[(0,.sl syS l),(4,.sl opS o),(5,.int .i64 (a:Nat))],[]⟩ =
  (bc (decide ((a:Int)<(l.length:Int))) False (Q [.sl opS o] [])):=by kernel_rfl
def ctCh:Ctr:=⟨[.sl syS],fun x=>q48 x.1,fun x=>[.sl opS (chL x.1)],fun _=>[]⟩
theorem q5b (l:List SyT) (a n:Nat):Px.part l (some (a:Int)) (some ((a+n:Nat):Int))=(l.drop a).take n:=by
 simp only[Px.part,Int.toNat_natCast]
 first
  | (rw[List.drop_take];congr 1;omega)
  | (rw[List.take_drop];done)
  | simp[List.drop_take]
section
variable (l:List SyT) (hl:l.length<=65536)
include hl
theorem q2u (o:List OpT) (a:Nat) (ha:a=l.length):GD 52 Tryd.f52 (OQ o) (hd Tryd.f52 0) ⟨[(0,.sl syS l),(3,.win true liS 1032768 0 (qch l).length),(4,.win true opS 14 0 o.length),(5,.int .i64 (a:Nat))],[(14,.row 56 opS o),(1032768,.row 120 liS (qch l))]⟩:=by
 have _:=hl;subst ha;refine Good.frz (i:=14) (e:=opS) (et:=56) (xs:=o) rfl (fun c hc=>?_) ?_
 ·have hc:c∈[0+o.length<=o.length]:=hc;rw[List.mem_singleton] at hc;subst hc;omega
 ·have e:GD 52 Tryd.f52 (OQ o) (hd Tryd.f52 0) ⟨[(0,.sl syS l),(4,.sl opS (winL opS 0 o.length o)),(5,.int .i64 (l.length:Nat))],[]⟩:=by
   refine qak cxCh (q78 l [] (winL opS 0 o.length o) l.length _ _) ?_;rw[decide_eq_false (by omega),bc_f,winA]
  exact e.only ⟨rfl,rfl,rfl,trivial⟩ trivial
theorem q6s:∀ (f a:Nat) (o:List OpT),l.length-a<=f->a<=l.length->o.length<=a ->
  GD 52 Tryd.f52 (OQ (o++chF f (l.drop a))) (hd Tryd.f52 0) ⟨[(0,.sl syS l),(3,.win true liS 1032768 0 (qch l).length),(4,.win true opS 14 0 o.length),(5,.int .i64 (a:Nat))],[(14,.row 56 opS o),(1032768,.row 120 liS (qch l))]⟩:=by
 intro f
 induction f with
 | zero=>
  intro a o hf ha ho;rw[chF,List.append_nil];exact q2u l hl o a (by omega)
 | succ f ih=>
  intro a o hf ha ho;by_cases he:a=l.length
  ·rw[chF,if_pos (List.drop_eq_nil_of_le (by omega)),List.append_nil];exact q2u l hl o a he
  ·have dl:(l.drop a).length=l.length-a:=List.length_drop ..;have hne:l.drop a≠[]:=fun h=>by rw[h] at dl;simp at dl;omega
   obtain ⟨hb,n,n1,n2,n3,_⟩:=q2w (l:=l.drop a) (by omega) hne;have hfit:=qfj (bst (l.drop a)).1 (l.drop a);have bl:(qch l).length=l.length+1:=ql9 l 0;have nx:=ih (a+n) (o++[mdK (bst (l.drop a)).1 ((l.drop a).take n)]) (by omega) (by omega) (by rw[List.length_append,List.length_singleton];omega);have ec:chF (f+1) (l.drop a)=mdK (bst (l.drop a)).1 ((l.drop a).take n)::chF f (l.drop (a+n)):=by rw[chF,if_neg hne,n1,Int.toNat_natCast,List.drop_drop]
   rw[ec];rw[List.append_assoc,List.singleton_append] at nx;refine qak cxCh (q77 l (qch l) o a _ _) ?_;have g1:gtL (qch l) (0+a)=bst (l.drop a):=by rw[Nat.zero_add];exact qxf l 0 a ha (Nat.zero_le _)
   have w:IntKind.i64.wrap ((a:Int)+(n:Int))=((a+n:Nat):Int):=by rw[IntWalk.i64_in _ (by omega)];omega
   rw[decide_eq_true (show (a:Int)<(l.length:Int) by omega),bc_t,Int.toNat_natCast,g1,n1,w,q5b l a n];have tl:((l.drop a).take n).length=n:=by rw[List.length_take];omega
   refine ⟨by omega,by omega,by omega,by omega,by omega,by omega,by omega,by omega,by omega,by omega,by omega,(show q46 (bst (l.drop a)).1 ((l.drop a).take n) from ⟨hb,by omega,by omega⟩),Nat.le_refl 1,rfl,rfl,?_,by decide,by omega,by omega,by omega,?_⟩
   ·show o.length+1<2 ^ 30
    omega
   ·exact nx.onlyR [(14,46)] rfl ⟨rfl,rfl,by rw[List.length_append];rfl,rfl,trivial⟩ ⟨rfl,rfl,trivial⟩
theorem q9v:GD 52 Tryd.f52 (QC ctCh (l,())) [.code (qae Tryd.f52)] (entry [.sl syS] (l,())):=by
 refine qak cxCh (vc_ch l _ _) ?_;have bl:(qch l).length=l.length+1:=ql9 l 0;have g0:gtL (qch l) (0+0)=bst l:=by
  have:=qxf l 0 0 (Nat.zero_le _) (Nat.le_refl _);rw[List.drop_zero] at this;exact this
 have hb:=qr2 l hl;unfold boL at hb;rw[g0];refine ⟨hl,by omega,by omega,by omega,by omega,hb.2.2.1,?_,?_,?_⟩
 ·show (bst l).2.2.2<16777216
  omega
 ·show (56:Int)*(bst l).2.2.2<=281474976710656
  omega
 ·have h:=q6s l hl l.length 0 [] (by omega) (Nat.zero_le _) (Nat.zero_le _);rw[List.drop_zero,List.nil_append] at h;exact (h.post fun rs blk hq=>QC.flat (by rw[hq];rfl) rfl (by rw[hq];rfl)).only ⟨rfl,rfl,rfl,rfl,trivial⟩ ⟨rfl,rfl,trivial⟩
end
theorem q6t:Held Tryd.prog G0 52 ctCh:=Held.of cxCh (fn:=Tryd.f52) rfl rfl ⟨by decide,by decide⟩ fun ⟨l,_⟩ hp=>q9v l hp
def poV (l:List SyT) (m:Int):PaT × Int:=if 4096<(chL l).length then ((false,0,0,[]),2) else ((false,m,l.length,chL l),0)
def ctPo:Ctr:=⟨[.sl syS,iI],fun x=>q48 x.1,fun x=>[paV (poV x.1 x.2.1).1,.int .i64 (poV x.1 x.2.1).2],fun _=>[]⟩
def cpV (l:List SyT) (m:Int):PaT × Int:=if (ofV l m).2=60 then ((false,0,0,[]),60) else poV l m
def ctCp:Ctr:=⟨[.sl syS,iI],fun x=>List.length x.1<16777216,fun x=>[paV (cpV x.1 x.2.1).1,.int .i64 (cpV x.1 x.2.1).2],fun _=>[]⟩
def foV (p:PaT):PaT × Int:=if (symV p).2=0 then (if (poV (symV p).1 p.2.1).2=0 then ((p.1,(poV (symV p).1 p.2.1).1.2),0) else ((false,0,0,[]),(poV (symV p).1 p.2.1).2)) else ((false,0,0,[]),(symV p).2)
def ctFo:Ctr:=⟨[paS],fun _=>True,fun x=>[paV (foV x.1).1,.int .i64 (foV x.1).2],fun _=>[]⟩
def CPo:CV:=[(52,.inl ctCh)]
theorem cxPo:CxOK Tryd.prog tt G0 CPo:=cx0.cons q6t (fn:=Tryd.f52) rfl rfl rfl
set_option maxRecDepth 100000
theorem vc_po (l:List SyT) (m:Int) (Q:QT) (R:RT):sy tt G0 CPo Tryd.f29.ntmps Tryd.f29.results.toList Q R 1000 [.code (qae Tryd.f29)] (entry [.sl syS,iI] (l,m,())) =
  (ctCh.pre (l,()) /\
 bc (decide ((4096:Int)<(↑(chL l).length:Int))) (Q [.agg [.bool false,.int .i64 0,.int .i64 0,.nils],.int .i64 2] [(4,.var [.bool false,.int .i64 0,.int .i64 0,.nils])]) (Q [.agg [.bool false,.int .i64 m,.int .i64 (l.length:Int),.sl opS (chL l)],.int .i64 0] [(4,.var [.bool false,.int .i64 m,.int .i64 (l.length:Int),.sl opS (chL l)])])):=by kernel_rfl
theorem vc_cp (l:List SyT) (m:Int) (Q:QT) (R:RT):sy tt G0 [(58,.inl ctOfA),(29,.inl ctPo)] Tryd.f35.ntmps Tryd.f35.results.toList Q R 1000 [.code (qae Tryd.f35)] (entry [.sl syS,iI] (l,m,())) =
  (ctOfA.pre (l,m,()) /\
 bc (decide ((ofV l m).2=(60:Int))) (Q [.agg [.bool false,.int .i64 0,.int .i64 0,.nils],.int .i64 (ofV l m).2] [(4,.var [.bool false,.int .i64 0,.int .i64 0,.nils]),(6,.var [.bool (ofV l m).1.1,.int .i64 (ofV l m).1.2.1,.int .i64 (ofV l m).1.2.2.1,.sl opS (ofV l m).1.2.2.2])]) (ctPo.pre (l,m,()) /\
 Q [.agg [.bool (poV l m).1.1,.int .i64 (poV l m).1.2.1,.int .i64 (poV l m).1.2.2.1,.sl opS (poV l m).1.2.2.2],.int .i64 (poV l m).2] [(4,.var [.bool (poV l m).1.1,.int .i64 (poV l m).1.2.1,.int .i64 (poV l m).1.2.2.1,.sl opS (poV l m).1.2.2.2]),(6,.var [.bool (ofV l m).1.1,.int .i64 (ofV l m).1.2.1,.int .i64 (ofV l m).1.2.2.1,.sl opS (ofV l m).1.2.2.2])])):=by kernel_rfl
theorem vc_fo (li:Bool) (m o:Int) (l:List OpT) (Q:QT) (R:RT):sy tt G0 [(28,.inl ctSym),(29,.inl ctPo)] Tryd.f9.ntmps Tryd.f9.results.toList Q R 1000 [.code (qae Tryd.f9)] (entry [paS] ((li,m,o,l),())) =
  (ctSym.pre ((li,m,o,l),()) /\
 bc (decide ((symV (li,m,o,l)).2≠0)) (Q [.agg [.bool false,.int .i64 0,.int .i64 0,.nils],.int .i64 (symV (li,m,o,l)).2] [(1,.var [.bool li,.int .i64 m,.int .i64 o,.sl opS l]),(2,.var [.bool false,.int .i64 0,.int .i64 0,.nils]),(1036864,.row 51 syS (symV (li,m,o,l)).1)]) (0+(symV (li,m,o,l)).1.length<=(symV (li,m,o,l)).1.length /\
 0+(symV (li,m,o,l)).1.length<=(symV (li,m,o,l)).1.length /\
 0+(symV (li,m,o,l)).1.length<=(symV (li,m,o,l)).1.length /\
 0+(symV (li,m,o,l)).1.length<=(symV (li,m,o,l)).1.length /\
 0+(symV (li,m,o,l)).1.length<=(symV (li,m,o,l)).1.length /\
 ctPo.pre (winL syS 0 (symV (li,m,o,l)).1.length (symV (li,m,o,l)).1,m,()) /\
 bc (decide ((poV (winL syS 0 (symV (li,m,o,l)).1.length (symV (li,m,o,l)).1) m).2≠0)) (Q [.agg [.bool false,.int .i64 0,.int .i64 0,.nils],.int .i64 (poV (winL syS 0 (symV (li,m,o,l)).1.length (symV (li,m,o,l)).1) m).2] [(1,.var [.bool li,.int .i64 m,.int .i64 o,.sl opS l]),(2,.var [.bool false,.int .i64 0,.int .i64 0,.nils]),(6,.var [.bool (poV (winL syS 0 (symV (li,m,o,l)).1.length (symV (li,m,o,l)).1) m).1.1,.int .i64 (poV (winL syS 0 (symV (li,m,o,l)).1.length (symV (li,m,o,l)).1) m).1.2.1,.int .i64 (poV (winL syS 0 (symV (li,m,o,l)).1.length (symV (li,m,o,l)).1) m).1.2.2.1,.sl opS (poV (winL syS 0 (symV (li,m,o,l)).1.length (symV (li,m,o,l)).1) m).1.2.2.2])]) (Q [.agg [.bool li,.int .i64 (poV (winL syS 0 (symV (li,m,o,l)).1.length (symV (li,m,o,l)).1) m).1.2.1,.int .i64 (poV (winL syS 0 (symV (li,m,o,l)).1.length (symV (li,m,o,l)).1) m).1.2.2.1,.sl opS (poV (winL syS 0 (symV (li,m,o,l)).1.length (symV (li,m,o,l)).1) m).1.2.2.2],.int .i64 0] [(1,.var [.bool li,.int .i64 m,.int .i64 o,.sl opS l]),(2,.var [.bool li,.int .i64 (poV (winL syS 0 (symV (li,m,o,l)).1.length (symV (li,m,o,l)).1) m).1.2.1,.int .i64 (poV (winL syS 0 (symV (li,m,o,l)).1.length (symV (li,m,o,l)).1) m).1.2.2.1,.sl opS (poV (winL syS 0 (symV (li,m,o,l)).1.length (symV (li,m,o,l)).1) m).1.2.2.2]),(6,.var [.bool li,.int .i64 (poV (winL syS 0 (symV (li,m,o,l)).1.length (symV (li,m,o,l)).1) m).1.2.1,.int .i64 (poV (winL syS 0 (symV (li,m,o,l)).1.length (symV (li,m,o,l)).1) m).1.2.2.1,.sl opS (poV (winL syS 0 (symV (li,m,o,l)).1.length (symV (li,m,o,l)).1) m).1.2.2.2])]))):=by kernel_rfl
theorem qcy (z:Int):MtL (fun _=>none) [paV (false,0,0,[]),.int .i64 z] [.agg [.bool false,.int .i64 0,.int .i64 0,.nils],.int .i64 z]:=
 ⟨_,_,rfl,⟨_,rfl,_,_,rfl,rfl,_,_,rfl,rfl,_,_,rfl,rfl,_,_,rfl,.inr ⟨rfl,rfl⟩,rfl⟩,_,_,rfl,rfl,rfl⟩
theorem q8y (l:List SyT) (m:Int) (hp:l.length<=65536) (R:List Item->PS->Prop):sy tt G0 CPo Tryd.f29.ntmps Tryd.f29.results.toList (QC ctPo (l,m,())) R 1000 [.code (qae Tryd.f29)] (entry [.sl syS,iI] (l,m,())):=by
 refine (vc_po l m _ _).mpr ⟨hp,qaf (fun h=>?_) (fun h=>?_)⟩
 ·have h:(4096:Int)<((chL l).length:Int):=of_decide_eq_true h;have hv:poV l m=((false,0,0,[]),2):=by unfold poV;rw[if_pos (by omega)]
  exact QC.mt (by show MtL _ [paV (poV l m).1,.int .i64 (poV l m).2] _;rw[hv];exact qcy _) rfl
 ·have h:¬ (4096:Int)<((chL l).length:Int):=of_decide_eq_false h;have hv:poV l m=(((false,m,(l.length:Int),chL l):PaT),(0:Int)):=by unfold poV;rw[if_neg (by omega)]
  exact QC.flat (by show [paV (poV l m).1,.int .i64 (poV l m).2]=_;rw[hv];rfl) rfl rfl
theorem qvo:Held Tryd.prog G0 29 ctPo:=Held.run cxPo (fn:=Tryd.f29) rfl rfl ⟨by decide,by decide⟩ fun ⟨l,m,_⟩ hp=>q8y l m hp _
theorem q84 {l:List SyT} {m:Int} (h:(ofV l m).2≠60):szB m=true/\szB l.length=true/\l.all (sOK m)=true:=by
 unfold ofV at h;split at h
 ·assumption
 ·exact absurd rfl h
theorem q5l {l:List SyT} {m:Int} (h:szB m=true/\szB l.length=true/\l.all (sOK m)=true):(ofV l m).2≠60:=by
 unfold ofV;rw[if_pos h];split
 ·exact (show (2:Int)≠60 by decide)
 ·exact (show (0:Int)≠60 by decide)
theorem q1q {n:Int} (h:szB n=true):0<=n/\n<=65536:=by simpa [szB] using h
theorem cxCp:CxOK Tryd.prog tt G0 [(58,.inl ctOfA),(29,.inl ctPo)]:=(cx0.cons qvo (fn:=Tryd.f29) rfl rfl rfl).cons qy9 (fn:=Tryd.f58) rfl rfl rfl
theorem q9p (l:List SyT) (m:Int) (hp:l.length<16777216) (R:List Item->PS->Prop):sy tt G0 [(58,.inl ctOfA),(29,.inl ctPo)] Tryd.f35.ntmps Tryd.f35.results.toList (QC ctCp (l,m,())) R 1000 [.code (qae Tryd.f35)] (entry [.sl syS,iI] (l,m,())):=by
 refine (vc_cp l m _ _).mpr ⟨hp,qaf (fun h=>?_) (fun h=>?_)⟩
 ·have h:(ofV l m).2=60:=of_decide_eq_true h;have hv:cpV l m=((false,0,0,[]),60):=by unfold cpV;rw[if_pos h]
  rw[h];exact QC.mt (by show MtL _ [paV (cpV l m).1,.int .i64 (cpV l m).2] _;rw[hv];exact qcy _) rfl
 ·have h:¬ (ofV l m).2=60:=of_decide_eq_false h;have hz:=q1q (q84 h).2.1;have hv:cpV l m=poV l m:=by unfold cpV;rw[if_neg h]
  exact ⟨(show l.length<=65536 by omega),QC.flat (by show [paV (cpV l m).1,.int .i64 (cpV l m).2]=_;rw[hv];rfl) rfl rfl⟩
theorem q6l:Held Tryd.prog G0 35 ctCp:=Held.run cxCp (fn:=Tryd.f35) rfl rfl ⟨by decide,by decide⟩ fun ⟨l,m,_⟩ hp=>q9p l m hp _
theorem q4b (p:PaT):(symV p).1.length<=65536:=by
 unfold symV;split
 ·rename_i h;obtain ⟨h1,h2,h3,_⟩:=qk3 h;have:=qfs h1
  show (symF p.2.2.2).length<=65536
  omega
 ·exact Nat.zero_le _
theorem cxFo:CxOK Tryd.prog tt G0 [(28,.inl ctSym),(29,.inl ctPo)]:=(cx0.cons qvo (fn:=Tryd.f29) rfl rfl rfl).cons qqr (fn:=Tryd.f28) rfl rfl rfl
theorem q9h (li:Bool) (m o:Int) (l:List OpT) (R:List Item->PS->Prop):sy tt G0 [(28,.inl ctSym),(29,.inl ctPo)] Tryd.f9.ntmps Tryd.f9.results.toList (QC ctFo ((li,m,o,l),())) R 1000 [.code (qae Tryd.f9)] (entry [paS] ((li,m,o,l),())):=by
 refine (vc_fo li m o l _ _).mpr ⟨trivial,qaf (fun h=>?_) (fun h=>?_)⟩
 ·have h:(symV (li,m,o,l)).2≠0:=of_decide_eq_true h;have hv:foV (li,m,o,l)=((false,0,0,[]),(symV (li,m,o,l)).2):=by unfold foV;rw[if_neg h]
  exact QC.mt (by show MtL _ [paV (foV (li,m,o,l)).1,.int .i64 (foV (li,m,o,l)).2] _;rw[hv];exact qcy _) rfl
 ·have h:¬ (symV (li,m,o,l)).2≠0:=of_decide_eq_false h;have h:(symV (li,m,o,l)).2=0:=by omega
  rw[winA];refine ⟨by omega,by omega,by omega,by omega,by omega,q4b _,qaf (fun h2=>?_) (fun h2=>?_)⟩
  ·have h2:(poV (symV (li,m,o,l)).1 m).2≠0:=of_decide_eq_true h2;have hv:foV (li,m,o,l)=((false,0,0,[]),(poV (symV (li,m,o,l)).1 m).2):=by unfold foV;rw[if_pos h,if_neg h2]
   exact QC.mt (by show MtL _ [paV (foV (li,m,o,l)).1,.int .i64 (foV (li,m,o,l)).2] _;rw[hv];exact qcy _) rfl
  ·have h2:¬ (poV (symV (li,m,o,l)).1 m).2≠0:=of_decide_eq_false h2;have h2:(poV (symV (li,m,o,l)).1 m).2=0:=by omega
   have hv:foV (li,m,o,l)=((li,(poV (symV (li,m,o,l)).1 m).1.2),0):=by unfold foV;rw[if_pos h,if_pos h2]
   exact QC.flat (by show [paV (foV (li,m,o,l)).1,.int .i64 (foV (li,m,o,l)).2]=_;rw[hv];rfl) rfl rfl
theorem q6f:Held Tryd.prog G0 9 ctFo:=Held.run cxFo (fn:=Tryd.f9) rfl rfl ⟨by decide,by decide⟩ fun ⟨⟨li,m,o,l⟩,_⟩ _=>q9h li m o l _
def rkd (s:SyT):Int:=match s.1 with
 | false=>4
 | true=>if s.2.2≠0 then 2 else 1
def ctRk:Ctr:=⟨[syS],fun _=>True,fun x=>[.int .i64 (rkd x.1)],fun _=>[]⟩
def rgoB (a b:SyT):Bool:=decide (rkd a=rkd b)&&(!a.1 || decide (b.2.1=IntKind.i64.wrap (a.2.1+1)))
def ctRgo:Ctr:=⟨[syS,syS],fun _=>True,fun x=>[.bool (rgoB x.1 x.2.1)],fun _=>[]⟩
set_option maxRecDepth 100000
theorem vc_rk (f:Bool) (a b:Int) (Q:QT) (R:RT):sy tt G0 [] Tryd.f49.ntmps Tryd.f49.results.toList Q R 1000 [.code (qae Tryd.f49)] (entry [syS] ((f,a,b),())) =
  (bc (!f) (Q [.int .i64 4] [(1,.var [.bool f,.int .i64 a,.int .u8 b])]) (bc (decide (b≠0)) (Q [.int .i64 2] [(1,.var [.bool f,.int .i64 a,.int .u8 b])]) (Q [.int .i64 1] [(1,.var [.bool f,.int .i64 a,.int .u8 b])]))):=by kernel_rfl
theorem q7d (f:Bool) (a b:Int) (f2:Bool) (a2 b2:Int) (Q:QT) (R:RT):sy tt G0 [(49,.inl ctRk)] Tryd.f48.ntmps Tryd.f48.results.toList Q R 1000 [.code (qae Tryd.f48)] (entry [syS,syS] ((f,a,b),(f2,a2,b2),())) =
  (ctRk.pre ((f,a,b),()) /\
 ctRk.pre ((f2,a2,b2),()) /\
 bc (decide (rkd (f,a,b)=rkd (f2,a2,b2))) (bc (!f) (true=true /\
 Q [.bool true] [(2,.var [.bool f,.int .i64 a,.int .u8 b]),(3,.var [.bool f2,.int .i64 a2,.int .u8 b2])]) (Q [.bool (decide (a2=IntKind.i64.wrap (a+1)))] [(2,.var [.bool f,.int .i64 a,.int .u8 b]),(3,.var [.bool f2,.int .i64 a2,.int .u8 b2])])) (false=false /\
 Q [.bool false] [(2,.var [.bool f,.int .i64 a,.int .u8 b]),(3,.var [.bool f2,.int .i64 a2,.int .u8 b2])])):=by kernel_rfl
theorem q27 (f:Bool) (a b:Int) (m:Int) (Q:QT) (R:RT):sy tt G0 [(46,.inl ctIn)] Tryd.f47.ntmps Tryd.f47.results.toList Q R 1000 [.code (qae Tryd.f47)] (entry [syS,iI] ((f,a,b),m,())) =
  (bc f (ctIn.pre (a,(0:Int),IntKind.i64.wrap (m-1),()) /\
 Q [.bool (decide ((0:Int)<=a)&&decide (a<=IntKind.i64.wrap (m-1)))] [(2,.var [.bool f,.int .i64 a,.int .u8 b])]) (Q [.bool (decide (a=(0:Int)))] [(2,.var [.bool f,.int .i64 a,.int .u8 b])])):=by kernel_rfl
theorem qu7:Held Tryd.prog G0 49 ctRk:=by
 refine Held.run cx0 (fn:=Tryd.f49) rfl rfl ⟨by decide,by decide⟩ fun ⟨⟨f,a,b⟩,_⟩ _=>(vc_rk f a b _ _).mpr ?_
 have fin:∀ (v:Int) blk,rkd (f,a,b)=v->QC ctRk ((f,a,b),()) [SV.int .i64 v] blk:=fun v blk h=>QC.flat (by show [SV.int .i64 (rkd _)]=_;rw[h]) rfl rfl
 refine qaf (fun h=>fin _ _ ?_) (fun h=>qaf (fun h2=>fin _ _ ?_) (fun h2=>fin _ _ ?_))
 ·rw[Bool.not_eq_true'] at h;rw[h];rfl
 ·rw[Bool.not_eq_false'] at h;rw[h];simp only[rkd];rw[if_pos (of_decide_eq_true h2)]
 ·rw[Bool.not_eq_false'] at h;rw[h];simp only[rkd];rw[if_neg (of_decide_eq_false h2)]
theorem qyq:Held Tryd.prog G0 48 ctRgo:=by
 refine Held.run (cx0.cons qu7 (fn:=Tryd.f49) rfl rfl rfl) (fn:=Tryd.f48) rfl rfl ⟨by decide,by decide⟩ fun ⟨⟨f,a,b⟩,⟨f2,a2,b2⟩,_⟩ _=>(q7d f a b f2 a2 b2 _ _).mpr ⟨trivial,trivial,?_⟩
 have fin:∀ (v:Bool) blk,rgoB (f,a,b) (f2,a2,b2)=v->QC ctRgo ((f,a,b),(f2,a2,b2),()) [SV.bool v] blk:=fun v blk h=>QC.flat (by show [SV.bool (rgoB _ _)]=_;rw[h]) rfl rfl
 refine qaf (fun h=>qaf (fun h2=>⟨rfl,fin _ _ ?_⟩) (fun h2=>fin _ _ ?_)) (fun h=>⟨rfl,fin _ _ ?_⟩)
 ·simp only[rgoB,h,Bool.true_and];rw[h2];rfl
 ·simp only[rgoB,h,Bool.true_and];rw[h2];rfl
 ·simp only[rgoB,h,Bool.false_and]
def qvl (m:Int):Prop:=0<=m/\m<16777216
def ctRsyB:Ctr:=⟨[syS,iI],fun x=>qvl x.2.1,fun x=>[.bool (sOK x.2.1 x.1)],fun _=>[]⟩
theorem sOK_w (a b m:Int) (hp:qvl m):sOK m (true,a,b)=(decide (0<=a)&&decide (a<=IntKind.i64.wrap (m-1))):=by
 obtain ⟨h0,h1⟩:=hp;rw[IntWalk.i64_in (m-1) (by omega)]
 show (decide (0<=a)&&decide (a<m))=_
 congr 1
 exact decide_eq_decide.2 (by omega)
theorem qu4:Held Tryd.prog G0 47 ctRsyB:=by
 refine Held.run (cx0.cons qm7 (fn:=Tryd.f46) rfl rfl rfl) (fn:=Tryd.f47) rfl rfl ⟨by decide,by decide⟩ fun ⟨⟨f,a,b⟩,m,_⟩ hp=>(q27 f a b m _ _).mpr ?_
 have fin:∀ (v:Bool) blk,sOK m (f,a,b)=v->QC ctRsyB ((f,a,b),m,()) [SV.bool v] blk:=fun v blk h=>QC.flat (by show [SV.bool (sOK _ _)]=_;rw[h]) rfl rfl
 refine qaf (fun h=>⟨trivial,fin _ _ ?_⟩) (fun h=>fin _ _ ?_)
 ·rw[show f=true from h];exact sOK_w a b m hp
 ·rw[show f=false from h];rfl
abbrev ttO:TT:=match lk tt 56 with
 | some ti=>(56,ti)::tt
 | none=>tt
def COf:CV:=[(46,.inl ctIn),(47,.inl ctRsyB),(48,.inl ctRgo),(49,.inl ctRk)]
set_option maxRecDepth 100000
theorem q7k (m:Int) (l:List SyT) (Q:QT) (R:RT):sy ttO G0 COf Tryd.f27.ntmps Tryd.f27.results.toList Q (fun it S=>R it (qa4 [0,1,4,6,7] [4,6,65,97] S)) 1000 [.code (qae Tryd.f27)] (entry [.sl syS,iI] (l,m,())) =
  (ctIn.pre (m,(0:Int),(65536:Int),()) /\
 bc (!(decide ((0:Int)<=m)&&decide (m<=65536))) (true=true /\
 Q [.agg [.bool false,.int .i64 0,.int .i64 0,.nils],.int .i64 60] [(4,.var [.bool false,.int .i64 0,.int .i64 0,.nils])]) (bc (bif false then true else decide ((65536:Int)<(l.length:Int))) (Q [.agg [.bool false,.int .i64 0,.int .i64 0,.nils],.int .i64 60] [(4,.var [.bool false,.int .i64 0,.int .i64 0,.nils])]) (R (hd Tryd.f27 0) { env:=[(0,.sl syS l),(1,.int .i64 m),(4,.ptr 4 0),(6,.ptr 6 0),(7,.int .i64 0)],blk:=[(4,.var [.bool false,.int .i64 0,.int .i64 0,.nils]),(6,.var [.bool false,.int .i64 m,.int .i64 (l.length:Int),.nils])] }))):=by kernel_rfl
theorem q3l (m:Int) (l:List SyT) (i:Nat) (Q:QT) (R:RT):sy ttO G0 COf Tryd.f27.ntmps Tryd.f27.results.toList Q (fun it S=>R it (qa4 [0,1,4,6,7] [4,6,65,97] S)) 1000 (hd Tryd.f27 0) ⟨[(0,.sl syS l),(1,.int .i64 m),(4,.ptr 4 0),(6,.ptr 6 0),(7,.int .i64 (i:Nat))],[(4,.var [.bool false,.int .i64 0,.int .i64 0,.nils]),(6,.var [.bool false,.int .i64 m,.int .i64 (l.length:Nat),.nils])]⟩ =
  (bc (decide ((i:Int)<(l.length:Int))) ((0:Int)<=(i:Int) /\
 (i:Int)<(l.length:Int) /\
 ctRsyB.pre ((gtY l (i:Int).toNat),m,()) /\
 bc (!sOK m (gtY l (i:Int).toNat)) (Q [.agg [.bool false,.int .i64 0,.int .i64 0,.nils],.int .i64 60] [(4,.var [.bool false,.int .i64 0,.int .i64 0,.nils]),(6,.var [.bool false,.int .i64 m,.int .i64 (l.length:Int),.nils])]) (bc (decide ((i:Int)=(0:Int))) (true=true /\
 (0:Int)<=(i:Int) /\
 (i:Int)<(l.length:Int) /\
 ctRk.pre ((gtY l (i:Int).toNat),()) /\
 (0:Int)<=(i:Int) /\
 (i:Int)<(l.length:Int) /\
 (56:Nat)<=2 ^ 10 /\
 (0:Int)<=i64.wrap ((↑(1:Nat):Int)-1) /\
 i64.wrap ((↑(1:Nat):Int)-1)<(↑(1:Nat):Int) /\
 0+(i64.wrap ((↑(1:Nat):Int)-1)).toNat=(0:Nat) /\
 0+(i64.wrap ((↑(1:Nat):Int)-1)).toNat=(0:Nat) /\
 0+(i64.wrap ((↑(1:Nat):Int)-1)).toNat=(0:Nat) /\
 bc (decide (rkd (gtY l (i:Int).toNat)≠1)) (0+(i64.wrap ((↑(1:Nat):Int)-1)).toNat=(0:Nat) /\
 (0:Int)<=(i:Int) /\
 (i:Int)<(l.length:Int) /\
 0+1<=((List.replicate (1:Nat) uB.dflt).set (0:Nat) (gtY l (i:Int).toNat).2.2).length /\
 (winL uB 0 1 ((List.replicate (1:Nat) uB.dflt).set (0:Nat) (gtY l (i:Int).toNat).2.2)).length<2 ^ 30 /\
 (1:Nat)<=2 ^ 10 /\
 0+(i64.wrap ((↑(1:Nat):Int)-1)).toNat=(0:Nat) /\
 R (hd Tryd.f27 0) { env:=[(0,.sl syS l),(1,.int .i64 m),(4,.ptr 4 0),(6,.ptr 6 0),(7,.int .i64 (i64.wrap ((i:Int)+1)))],blk:=[(4,.var [.bool false,.int .i64 0,.int .i64 0,.nils]),(6,.var [.bool false,.int .i64 m,.int .i64 (l.length:Int),.win true opS 65 0 (1:Nat)]),(65,.var [.arr (56:Nat) Sh.unit (List.replicate (56:TypeId) ()),.arr (0:Nat) opS [],.int .i64 (rkd (gtY l (i:Int).toNat)),.int .i64 (gtY l (i:Int).toNat).2.1,.int .i64 ((1:Int)),.int .u8 0,.win true uB 97 0 (1:Nat)]),(97,.row 5 uB (winL uB 0 1 ((List.replicate (1:Nat) uB.dflt).set (0:Nat) (gtY l (i:Int).toNat).2.2)))] }) (R (hd Tryd.f27 0) { env:=[(0,.sl syS l),(1,.int .i64 m),(4,.ptr 4 0),(6,.ptr 6 0),(7,.int .i64 (i64.wrap ((i:Int)+1)))],blk:=[(4,.var [.bool false,.int .i64 0,.int .i64 0,.nils]),(6,.var [.bool false,.int .i64 m,.int .i64 (l.length:Int),.win true opS 65 0 (1:Nat)]),(65,.var [.arr (56:Nat) Sh.unit (List.replicate (56:TypeId) ()),.arr (0:Nat) opS [],.int .i64 (rkd (gtY l (i:Int).toNat)),.int .i64 (gtY l (i:Int).toNat).2.1,.int .i64 ((1:Int)),.int .u8 0,.nils])] })) ((0:Int)<=i64.wrap ((i:Int)-1) /\
 i64.wrap ((i:Int)-1)<(l.length:Int) /\
 (0:Int)<=(i:Int) /\
 (i:Int)<(l.length:Int) /\
 ctRgo.pre ((gtY l (i64.wrap ((i:Int)-1)).toNat),(gtY l (i:Int).toNat),()) /\
 bc (bif false then true else !rgoB (gtY l (i64.wrap ((i:Int)-1)).toNat) (gtY l (i:Int).toNat)) ((0:Int)<=(i:Int) /\
 (i:Int)<(l.length:Int) /\
 ctRk.pre ((gtY l (i:Int).toNat),()) /\
 (0:Int)<=(i:Int) /\
 (i:Int)<(l.length:Int) /\
 (56:Nat)<=2 ^ 10 /\
 (0:Int)<=i64.wrap ((↑(1:Nat):Int)-1) /\
 i64.wrap ((↑(1:Nat):Int)-1)<(↑(1:Nat):Int) /\
 0+(i64.wrap ((↑(1:Nat):Int)-1)).toNat=(0:Nat) /\
 0+(i64.wrap ((↑(1:Nat):Int)-1)).toNat=(0:Nat) /\
 0+(i64.wrap ((↑(1:Nat):Int)-1)).toNat=(0:Nat) /\
 bc (decide (rkd (gtY l (i:Int).toNat)≠1)) (0+(i64.wrap ((↑(1:Nat):Int)-1)).toNat=(0:Nat) /\
 (0:Int)<=(i:Int) /\
 (i:Int)<(l.length:Int) /\
 0+1<=((List.replicate (1:Nat) uB.dflt).set (0:Nat) (gtY l (i:Int).toNat).2.2).length /\
 (winL uB 0 1 ((List.replicate (1:Nat) uB.dflt).set (0:Nat) (gtY l (i:Int).toNat).2.2)).length<2 ^ 30 /\
 (1:Nat)<=2 ^ 10 /\
 0+(i64.wrap ((↑(1:Nat):Int)-1)).toNat=(0:Nat) /\
 R (hd Tryd.f27 0) { env:=[(0,.sl syS l),(1,.int .i64 m),(4,.ptr 4 0),(6,.ptr 6 0),(7,.int .i64 (i64.wrap ((i:Int)+1)))],blk:=[(4,.var [.bool false,.int .i64 0,.int .i64 0,.nils]),(6,.var [.bool false,.int .i64 m,.int .i64 (l.length:Int),.win true opS 65 0 (1:Nat)]),(65,.var [.arr (56:Nat) Sh.unit (List.replicate (56:TypeId) ()),.arr (0:Nat) opS [],.int .i64 (rkd (gtY l (i:Int).toNat)),.int .i64 (gtY l (i:Int).toNat).2.1,.int .i64 ((1:Int)),.int .u8 0,.win true uB 97 0 (1:Nat)]),(97,.row 5 uB (winL uB 0 1 ((List.replicate (1:Nat) uB.dflt).set (0:Nat) (gtY l (i:Int).toNat).2.2)))] }) (R (hd Tryd.f27 0) { env:=[(0,.sl syS l),(1,.int .i64 m),(4,.ptr 4 0),(6,.ptr 6 0),(7,.int .i64 (i64.wrap ((i:Int)+1)))],blk:=[(4,.var [.bool false,.int .i64 0,.int .i64 0,.nils]),(6,.var [.bool false,.int .i64 m,.int .i64 (l.length:Int),.win true opS 65 0 (1:Nat)]),(65,.var [.arr (56:Nat) Sh.unit (List.replicate (56:TypeId) ()),.arr (0:Nat) opS [],.int .i64 (rkd (gtY l (i:Int).toNat)),.int .i64 (gtY l (i:Int).toNat).2.1,.int .i64 ((1:Int)),.int .u8 0,.nils])] })) False))) (Q [.agg [.bool false,.int .i64 m,.int .i64 (l.length:Int),.nils],.int .i64 0] [(4,.var [.bool false,.int .i64 m,.int .i64 (l.length:Int),.nils]),(6,.var [.bool false,.int .i64 m,.int .i64 (l.length:Int),.nils])])):=by kernel_rfl
def qki (m:Int) (l:List SyT) (j:Nat) (xs:List OpT) (k a c b:Int):List (Nat × LB):=[(4,.var [.bool false,.int .i64 0,.int .i64 0,.nils]),(6,.var [.bool false,.int .i64 m,.int .i64 (l.length:Int),.win true opS 65 0 (j+(1:Nat))]),(65,.var [.arr (56:Nat) Sh.unit (List.replicate (56:Nat) ()),.arr j opS xs,.int .i64 k,.int .i64 a,.int .i64 c,.int .u8 b,.nils])]
theorem q3k (m:Int) (l:List SyT) (i j:Nat) (xs:List OpT) (k a c b:Int) (d:List Int) (Q:QT) (R:RT):sy ttO G0 COf Tryd.f27.ntmps Tryd.f27.results.toList Q (fun it S=>R it (qa4 [0,1,4,6,7] [4,6,65,97] S)) 1000 (hd Tryd.f27 0) ⟨[(0,.sl syS l),(1,.int .i64 m),(4,.ptr 4 0),(6,.ptr 6 0),(7,.int .i64 (i:Nat))],[(4,.var [.bool false,.int .i64 0,.int .i64 0,.nils]),(6,.var [.bool false,.int .i64 m,.int .i64 (l.length:Nat),.win true opS 65 0 (j+1)]),(65,.var [.arr 56 .unit (List.replicate 56 ()),.arr j opS xs,.int .i64 k,.int .i64 a,.int .i64 c,.int .u8 b,.nils])]⟩ =
  (bc (decide ((i:Int)<(l.length:Int))) ((0:Int)<=(i:Int) /\
 (i:Int)<(l.length:Int) /\
 ctRsyB.pre ((gtY l (i:Int).toNat),m,()) /\
 bc (!sOK m (gtY l (i:Int).toNat)) (Q [.agg [.bool false,.int .i64 0,.int .i64 0,.nils],.int .i64 60] (qki m l j xs k a c b)) (bc (decide ((i:Int)=(0:Int))) (true=true /\
 (0:Int)<=(i:Int) /\
 (i:Int)<(l.length:Int) /\
 ctRk.pre ((gtY l (i:Int).toNat),()) /\
 (0:Int)<=(i:Int) /\
 (i:Int)<(l.length:Int) /\
 j+1=j+1 /\
 j+2<2 ^ 30 /\
 (56:Nat)<=2 ^ 10 /\
 (0:Int)<=i64.wrap ((↑(j+1+1):Int)-1) /\
 i64.wrap ((↑(j+1+1):Int)-1)<(↑(j+1+1):Int) /\
 0+(i64.wrap ((↑(j+1+1):Int)-1)).toNat=j+1 /\
 0+(i64.wrap ((↑(j+1+1):Int)-1)).toNat=j+1 /\
 0+(i64.wrap ((↑(j+1+1):Int)-1)).toNat=j+1 /\
 bc (decide (rkd (gtY l (i:Int).toNat)≠1)) (0+(i64.wrap ((↑(j+1+1):Int)-1)).toNat=j+1 /\
 (0:Int)<=(i:Int) /\
 (i:Int)<(l.length:Int) /\
 0+1<=((List.replicate (1:Nat) uB.dflt).set (0:Nat) (gtY l (i:Int).toNat).2.2).length /\
 (winL uB 0 1 ((List.replicate (1:Nat) uB.dflt).set (0:Nat) (gtY l (i:Int).toNat).2.2)).length<2 ^ 30 /\
 (1:Nat)<=2 ^ 10 /\
 0+(i64.wrap ((↑(j+1+1):Int)-1)).toNat=j+1 /\
 R (hd Tryd.f27 0) { env:=[(0,.sl syS l),(1,.int .i64 m),(4,.ptr 4 0),(6,.ptr 6 0),(7,.int .i64 (i64.wrap ((i:Int)+1)))],blk:=[(4,.var [.bool false,.int .i64 0,.int .i64 0,.nils]),(6,.var [.bool false,.int .i64 m,.int .i64 (l.length:Int),.win true opS 65 0 (j+1+1)]),(65,.var [.arr (56:Nat) Sh.unit (List.replicate (56:TypeId) ()),.arr (j+1) opS (xs++[(k,a,c,b,[])]),.int .i64 (rkd (gtY l (i:Int).toNat)),.int .i64 (gtY l (i:Int).toNat).2.1,.int .i64 ((1:Int)),.int .u8 0,.win true uB 97 0 (1:Nat)]),(97,.row 5 uB (winL uB 0 1 ((List.replicate (1:Nat) uB.dflt).set (0:Nat) (gtY l (i:Int).toNat).2.2)))] }) (R (hd Tryd.f27 0) { env:=[(0,.sl syS l),(1,.int .i64 m),(4,.ptr 4 0),(6,.ptr 6 0),(7,.int .i64 (i64.wrap ((i:Int)+1)))],blk:=[(4,.var [.bool false,.int .i64 0,.int .i64 0,.nils]),(6,.var [.bool false,.int .i64 m,.int .i64 (l.length:Int),.win true opS 65 0 (j+1+1)]),(65,.var [.arr (56:Nat) Sh.unit (List.replicate (56:TypeId) ()),.arr (j+1) opS (xs++[(k,a,c,b,[])]),.int .i64 (rkd (gtY l (i:Int).toNat)),.int .i64 (gtY l (i:Int).toNat).2.1,.int .i64 ((1:Int)),.int .u8 0,.nils])] })) ((0:Int)<=i64.wrap ((i:Int)-1) /\
 i64.wrap ((i:Int)-1)<(l.length:Int) /\
 (0:Int)<=(i:Int) /\
 (i:Int)<(l.length:Int) /\
 ctRgo.pre ((gtY l (i64.wrap ((i:Int)-1)).toNat),(gtY l (i:Int).toNat),()) /\
 bc (bif false then true else !rgoB (gtY l (i64.wrap ((i:Int)-1)).toNat) (gtY l (i:Int).toNat)) ((0:Int)<=(i:Int) /\
 (i:Int)<(l.length:Int) /\
 ctRk.pre ((gtY l (i:Int).toNat),()) /\
 (0:Int)<=(i:Int) /\
 (i:Int)<(l.length:Int) /\
 j+1=j+1 /\
 j+2<2 ^ 30 /\
 (56:Nat)<=2 ^ 10 /\
 (0:Int)<=i64.wrap ((↑(j+1+1):Int)-1) /\
 i64.wrap ((↑(j+1+1):Int)-1)<(↑(j+1+1):Int) /\
 0+(i64.wrap ((↑(j+1+1):Int)-1)).toNat=j+1 /\
 0+(i64.wrap ((↑(j+1+1):Int)-1)).toNat=j+1 /\
 0+(i64.wrap ((↑(j+1+1):Int)-1)).toNat=j+1 /\
 bc (decide (rkd (gtY l (i:Int).toNat)≠1)) (0+(i64.wrap ((↑(j+1+1):Int)-1)).toNat=j+1 /\
 (0:Int)<=(i:Int) /\
 (i:Int)<(l.length:Int) /\
 0+1<=((List.replicate (1:Nat) uB.dflt).set (0:Nat) (gtY l (i:Int).toNat).2.2).length /\
 (winL uB 0 1 ((List.replicate (1:Nat) uB.dflt).set (0:Nat) (gtY l (i:Int).toNat).2.2)).length<2 ^ 30 /\
 (1:Nat)<=2 ^ 10 /\
 0+(i64.wrap ((↑(j+1+1):Int)-1)).toNat=j+1 /\
 R (hd Tryd.f27 0) { env:=[(0,.sl syS l),(1,.int .i64 m),(4,.ptr 4 0),(6,.ptr 6 0),(7,.int .i64 (i64.wrap ((i:Int)+1)))],blk:=[(4,.var [.bool false,.int .i64 0,.int .i64 0,.nils]),(6,.var [.bool false,.int .i64 m,.int .i64 (l.length:Int),.win true opS 65 0 (j+1+1)]),(65,.var [.arr (56:Nat) Sh.unit (List.replicate (56:TypeId) ()),.arr (j+1) opS (xs++[(k,a,c,b,[])]),.int .i64 (rkd (gtY l (i:Int).toNat)),.int .i64 (gtY l (i:Int).toNat).2.1,.int .i64 ((1:Int)),.int .u8 0,.win true uB 97 0 (1:Nat)]),(97,.row 5 uB (winL uB 0 1 ((List.replicate (1:Nat) uB.dflt).set (0:Nat) (gtY l (i:Int).toNat).2.2)))] }) (R (hd Tryd.f27 0) { env:=[(0,.sl syS l),(1,.int .i64 m),(4,.ptr 4 0),(6,.ptr 6 0),(7,.int .i64 (i64.wrap ((i:Int)+1)))],blk:=[(4,.var [.bool false,.int .i64 0,.int .i64 0,.nils]),(6,.var [.bool false,.int .i64 m,.int .i64 (l.length:Int),.win true opS 65 0 (j+1+1)]),(65,.var [.arr (56:Nat) Sh.unit (List.replicate (56:TypeId) ()),.arr (j+1) opS (xs++[(k,a,c,b,[])]),.int .i64 (rkd (gtY l (i:Int).toNat)),.int .i64 (gtY l (i:Int).toNat).2.1,.int .i64 ((1:Int)),.int .u8 0,.nils])] })) ((0:Int)<=i64.wrap ((↑(j+1):Int)-1) /\
 i64.wrap ((↑(j+1):Int)-1)<(↑(j+1):Int) /\
 0+(i64.wrap ((↑(j+1):Int)-1)).toNat=j /\
 0+(i64.wrap ((↑(j+1):Int)-1)).toNat=j /\
 0+(i64.wrap ((↑(j+1):Int)-1)).toNat=j /\
 bc (decide (k≠1)) (0+(i64.wrap ((↑(j+1):Int)-1)).toNat=j /\
 (0:Int)<=(i:Int) /\
 (i:Int)<(l.length:Int) /\
 0+1<=((List.replicate (1:Nat) uB.dflt).set (0:Nat) (gtY l (i:Int).toNat).2.2).length /\
 (winL uB 0 1 ((List.replicate (1:Nat) uB.dflt).set (0:Nat) (gtY l (i:Int).toNat).2.2)).length<2 ^ 30 /\
 (1:Nat)<=2 ^ 10 /\
 0+(i64.wrap ((↑(j+1):Int)-1)).toNat=j /\
 R (hd Tryd.f27 0) { env:=[(0,.sl syS l),(1,.int .i64 m),(4,.ptr 4 0),(6,.ptr 6 0),(7,.int .i64 (i64.wrap ((i:Int)+1)))],blk:=[(4,.var [.bool false,.int .i64 0,.int .i64 0,.nils]),(6,.var [.bool false,.int .i64 m,.int .i64 (l.length:Int),.win true opS 65 0 (j+1)]),(65,.var [.arr (56:Nat) Sh.unit (List.replicate (56:Nat) ()),.arr j opS xs,.int .i64 k,.int .i64 a,.int .i64 (i64.wrap (c+1)),.int .u8 b,.win true uB 97 0 (1:Nat)]),(97,.row 5 uB (winL uB 0 1 ((List.replicate (1:Nat) uB.dflt).set (0:Nat) (gtY l (i:Int).toNat).2.2)))] }) (R (hd Tryd.f27 0) { env:=[(0,.sl syS l),(1,.int .i64 m),(4,.ptr 4 0),(6,.ptr 6 0),(7,.int .i64 (i64.wrap ((i:Int)+1)))],blk:=[(4,.var [.bool false,.int .i64 0,.int .i64 0,.nils]),(6,.var [.bool false,.int .i64 m,.int .i64 (l.length:Int),.win true opS 65 0 (j+1)]),(65,.var [.arr (56:Nat) Sh.unit (List.replicate (56:Nat) ()),.arr j opS xs,.int .i64 k,.int .i64 a,.int .i64 (i64.wrap (c+1)),.int .u8 b,.nils])] }))))) (bc (decide ((4096:Int)<(↑(j+1):Int))) (Q [.agg [.bool false,.int .i64 0,.int .i64 0,.nils],.int .i64 2] (qki m l j xs k a c b)) (Q [.agg [.bool false,.int .i64 m,.int .i64 (l.length:Int),.win true opS 65 0 (j+1)],.int .i64 0] [(4,.var [.bool false,.int .i64 m,.int .i64 (l.length:Int),.win true opS 65 0 (j+1)]),(6,.var [.bool false,.int .i64 m,.int .i64 (l.length:Int),.win true opS 65 0 (j+1)]),(65,.var [.arr (56:Nat) Sh.unit (List.replicate (56:Nat) ()),.arr j opS xs,.int .i64 k,.int .i64 a,.int .i64 c,.int .u8 b,.nils])]))):=by kernel_rfl
def qkh (m:Int) (l:List SyT) (j:Nat) (xs:List OpT) (k a c b:Int) (d:List Int):List (Nat × LB):=[(4,.var [.bool false,.int .i64 0,.int .i64 0,.nils]),(6,.var [.bool false,.int .i64 m,.int .i64 (l.length:Int),.win true opS 65 0 (j+(1:Nat))]),(65,.var [.arr (56:Nat) Sh.unit (List.replicate (56:Nat) ()),.arr j opS xs,.int .i64 k,.int .i64 a,.int .i64 c,.int .u8 b,.win true uB 97 0 d.length]),(97,.row 5 uB d)]
theorem q3j (m:Int) (l:List SyT) (i j:Nat) (xs:List OpT) (k a c b:Int) (d:List Int) (Q:QT) (R:RT):sy ttO G0 COf Tryd.f27.ntmps Tryd.f27.results.toList Q (fun it S=>R it (qa4 [0,1,4,6,7] [4,6,65,97] S)) 1000 (hd Tryd.f27 0) ⟨[(0,.sl syS l),(1,.int .i64 m),(4,.ptr 4 0),(6,.ptr 6 0),(7,.int .i64 (i:Nat))],[(4,.var [.bool false,.int .i64 0,.int .i64 0,.nils]),(6,.var [.bool false,.int .i64 m,.int .i64 (l.length:Nat),.win true opS 65 0 (j+1)]),(65,.var [.arr 56 .unit (List.replicate 56 ()),.arr j opS xs,.int .i64 k,.int .i64 a,.int .i64 c,.int .u8 b,.win true uB 97 0 d.length]),(97,.row 5 uB d)]⟩ =
  (bc (decide ((i:Int)<(l.length:Int))) ((0:Int)<=(i:Int) /\
 (i:Int)<(l.length:Int) /\
 ctRsyB.pre ((gtY l (i:Int).toNat),m,()) /\
 bc (!sOK m (gtY l (i:Int).toNat)) (Q [.agg [.bool false,.int .i64 0,.int .i64 0,.nils],.int .i64 60] (qkh m l j xs k a c b d)) (bc (decide ((i:Int)=(0:Int))) (true=true /\
 (0:Int)<=(i:Int) /\
 (i:Int)<(l.length:Int) /\
 ctRk.pre ((gtY l (i:Int).toNat),()) /\
 (0:Int)<=(i:Int) /\
 (i:Int)<(l.length:Int) /\
 False) ((0:Int)<=i64.wrap ((i:Int)-1) /\
 i64.wrap ((i:Int)-1)<(l.length:Int) /\
 (0:Int)<=(i:Int) /\
 (i:Int)<(l.length:Int) /\
 ctRgo.pre ((gtY l (i64.wrap ((i:Int)-1)).toNat),(gtY l (i:Int).toNat),()) /\
 bc (bif false then true else !rgoB (gtY l (i64.wrap ((i:Int)-1)).toNat) (gtY l (i:Int).toNat)) ((0:Int)<=(i:Int) /\
 (i:Int)<(l.length:Int) /\
 ctRk.pre ((gtY l (i:Int).toNat),()) /\
 (0:Int)<=(i:Int) /\
 (i:Int)<(l.length:Int) /\
 False) ((0:Int)<=i64.wrap ((↑(j+1):Int)-1) /\
 i64.wrap ((↑(j+1):Int)-1)<(↑(j+1):Int) /\
 0+(i64.wrap ((↑(j+1):Int)-1)).toNat=j /\
 0+(i64.wrap ((↑(j+1):Int)-1)).toNat=j /\
 0+(i64.wrap ((↑(j+1):Int)-1)).toNat=j /\
 bc (decide (k≠1)) (0+(i64.wrap ((↑(j+1):Int)-1)).toNat=j /\
 (0:Int)<=(i:Int) /\
 (i:Int)<(l.length:Int) /\
 0+1<=((List.replicate (1:Nat) uB.dflt).set (0:Nat) (gtY l (i:Int).toNat).2.2).length /\
 d.length=d.length /\
 (0:Nat)=(0:Nat) /\
 d.length+(winL uB 0 1 ((List.replicate (1:Nat) uB.dflt).set (0:Nat) (gtY l (i:Int).toNat).2.2)).length<2 ^ 30 /\
 (1:Nat)<=2 ^ 10 /\
 0+(i64.wrap ((↑(j+1):Int)-1)).toNat=j /\
 R (hd Tryd.f27 0) { env:=[(0,.sl syS l),(1,.int .i64 m),(4,.ptr 4 0),(6,.ptr 6 0),(7,.int .i64 (i64.wrap ((i:Int)+1)))],blk:=[(4,.var [.bool false,.int .i64 0,.int .i64 0,.nils]),(6,.var [.bool false,.int .i64 m,.int .i64 (l.length:Int),.win true opS 65 0 (j+1)]),(65,.var [.arr (56:Nat) Sh.unit (List.replicate (56:Nat) ()),.arr j opS xs,.int .i64 k,.int .i64 a,.int .i64 (i64.wrap (c+1)),.int .u8 b,.win true uB 97 0 (d.length+(winL uB 0 1 ((List.replicate (1:Nat) uB.dflt).set (0:Nat) (gtY l (i:Int).toNat).2.2)).length)]),(97,.row 5 uB (d++winL uB 0 1 ((List.replicate (1:Nat) uB.dflt).set (0:Nat) (gtY l (i:Int).toNat).2.2)))] }) (R (hd Tryd.f27 0) { env:=[(0,.sl syS l),(1,.int .i64 m),(4,.ptr 4 0),(6,.ptr 6 0),(7,.int .i64 (i64.wrap ((i:Int)+1)))],blk:=[(4,.var [.bool false,.int .i64 0,.int .i64 0,.nils]),(6,.var [.bool false,.int .i64 m,.int .i64 (l.length:Int),.win true opS 65 0 (j+1)]),(65,.var [.arr (56:Nat) Sh.unit (List.replicate (56:Nat) ()),.arr j opS xs,.int .i64 k,.int .i64 a,.int .i64 (i64.wrap (c+1)),.int .u8 b,.win true uB 97 0 d.length]),(97,.row 5 uB d)] }))))) (bc (decide ((4096:Int)<(↑(j+1):Int))) (Q [.agg [.bool false,.int .i64 0,.int .i64 0,.nils],.int .i64 2] (qkh m l j xs k a c b d)) (Q [.agg [.bool false,.int .i64 m,.int .i64 (l.length:Int),.win true opS 65 0 (j+1)],.int .i64 0] [(4,.var [.bool false,.int .i64 m,.int .i64 (l.length:Int),.win true opS 65 0 (j+1)]),(6,.var [.bool false,.int .i64 m,.int .i64 (l.length:Int),.win true opS 65 0 (j+1)]),(65,.var [.arr (56:Nat) Sh.unit (List.replicate (56:Nat) ()),.arr j opS xs,.int .i64 k,.int .i64 a,.int .i64 c,.int .u8 b,.win true uB 97 0 d.length]),(97,.row 5 uB d)]))):=by kernel_rfl
def qkg (m:Int) (l:List SyT) (j:Nat) (xs:List OpT) (k a c b:Int) (d:List Int):List (Nat × LB):=[(4,.var [.bool false,.int .i64 0,.int .i64 0,.nils]),(6,.var [.bool false,.int .i64 m,.int .i64 (l.length:Int),.win true opS 65 0 (j+(1:Nat))]),(65,.var [.arr (56:Nat) Sh.unit (List.replicate (56:Nat) ()),.arr j opS xs,.int .i64 k,.int .i64 a,.int .i64 c,.int .u8 b,.sl uB d])]
theorem q3i (m:Int) (l:List SyT) (i j:Nat) (xs:List OpT) (k a c b:Int) (d:List Int) (Q:QT) (R:RT):sy ttO G0 COf Tryd.f27.ntmps Tryd.f27.results.toList Q (fun it S=>R it (qa4 [0,1,4,6,7] [4,6,65,97] S)) 1000 (hd Tryd.f27 0) ⟨[(0,.sl syS l),(1,.int .i64 m),(4,.ptr 4 0),(6,.ptr 6 0),(7,.int .i64 (i:Nat))],[(4,.var [.bool false,.int .i64 0,.int .i64 0,.nils]),(6,.var [.bool false,.int .i64 m,.int .i64 (l.length:Nat),.win true opS 65 0 (j+1)]),(65,.var [.arr 56 .unit (List.replicate 56 ()),.arr j opS xs,.int .i64 k,.int .i64 a,.int .i64 c,.int .u8 b,.sl uB d])]⟩ =
  (bc (decide ((i:Int)<(l.length:Int))) ((0:Int)<=(i:Int) /\
 (i:Int)<(l.length:Int) /\
 ctRsyB.pre ((gtY l (i:Int).toNat),m,()) /\
 bc (!sOK m (gtY l (i:Int).toNat)) (Q [.agg [.bool false,.int .i64 0,.int .i64 0,.nils],.int .i64 60] (qkg m l j xs k a c b d)) (bc (decide ((i:Int)=(0:Int))) (true=true /\
 (0:Int)<=(i:Int) /\
 (i:Int)<(l.length:Int) /\
 ctRk.pre ((gtY l (i:Int).toNat),()) /\
 (0:Int)<=(i:Int) /\
 (i:Int)<(l.length:Int) /\
 j+1=j+1 /\
 j+2<2 ^ 30 /\
 (56:Nat)<=2 ^ 10 /\
 (0:Int)<=i64.wrap ((↑(j+1+1):Int)-1) /\
 i64.wrap ((↑(j+1+1):Int)-1)<(↑(j+1+1):Int) /\
 0+(i64.wrap ((↑(j+1+1):Int)-1)).toNat=j+1 /\
 0+(i64.wrap ((↑(j+1+1):Int)-1)).toNat=j+1 /\
 0+(i64.wrap ((↑(j+1+1):Int)-1)).toNat=j+1 /\
 bc (decide (rkd (gtY l (i:Int).toNat)≠1)) (0+(i64.wrap ((↑(j+1+1):Int)-1)).toNat=j+1 /\
 (0:Int)<=(i:Int) /\
 (i:Int)<(l.length:Int) /\
 0+1<=((List.replicate (1:Nat) uB.dflt).set (0:Nat) (gtY l (i:Int).toNat).2.2).length /\
 (winL uB 0 1 ((List.replicate (1:Nat) uB.dflt).set (0:Nat) (gtY l (i:Int).toNat).2.2)).length<2 ^ 30 /\
 (1:Nat)<=2 ^ 10 /\
 0+(i64.wrap ((↑(j+1+1):Int)-1)).toNat=j+1 /\
 R (hd Tryd.f27 0) { env:=[(0,.sl syS l),(1,.int .i64 m),(4,.ptr 4 0),(6,.ptr 6 0),(7,.int .i64 (i64.wrap ((i:Int)+1)))],blk:=[(4,.var [.bool false,.int .i64 0,.int .i64 0,.nils]),(6,.var [.bool false,.int .i64 m,.int .i64 (l.length:Int),.win true opS 65 0 (j+1+1)]),(65,.var [.arr (56:Nat) Sh.unit (List.replicate (56:TypeId) ()),.arr (j+1) opS (xs++[(k,a,c,b,d)]),.int .i64 (rkd (gtY l (i:Int).toNat)),.int .i64 (gtY l (i:Int).toNat).2.1,.int .i64 ((1:Int)),.int .u8 0,.win true uB 97 0 (1:Nat)]),(97,.row 5 uB (winL uB 0 1 ((List.replicate (1:Nat) uB.dflt).set (0:Nat) (gtY l (i:Int).toNat).2.2)))] }) (R (hd Tryd.f27 0) { env:=[(0,.sl syS l),(1,.int .i64 m),(4,.ptr 4 0),(6,.ptr 6 0),(7,.int .i64 (i64.wrap ((i:Int)+1)))],blk:=[(4,.var [.bool false,.int .i64 0,.int .i64 0,.nils]),(6,.var [.bool false,.int .i64 m,.int .i64 (l.length:Int),.win true opS 65 0 (j+1+1)]),(65,.var [.arr (56:Nat) Sh.unit (List.replicate (56:TypeId) ()),.arr (j+1) opS (xs++[(k,a,c,b,d)]),.int .i64 (rkd (gtY l (i:Int).toNat)),.int .i64 (gtY l (i:Int).toNat).2.1,.int .i64 ((1:Int)),.int .u8 0,.nils])] })) ((0:Int)<=i64.wrap ((i:Int)-1) /\
 i64.wrap ((i:Int)-1)<(l.length:Int) /\
 (0:Int)<=(i:Int) /\
 (i:Int)<(l.length:Int) /\
 ctRgo.pre ((gtY l (i64.wrap ((i:Int)-1)).toNat),(gtY l (i:Int).toNat),()) /\
 bc (bif false then true else !rgoB (gtY l (i64.wrap ((i:Int)-1)).toNat) (gtY l (i:Int).toNat)) ((0:Int)<=(i:Int) /\
 (i:Int)<(l.length:Int) /\
 ctRk.pre ((gtY l (i:Int).toNat),()) /\
 (0:Int)<=(i:Int) /\
 (i:Int)<(l.length:Int) /\
 j+1=j+1 /\
 j+2<2 ^ 30 /\
 (56:Nat)<=2 ^ 10 /\
 (0:Int)<=i64.wrap ((↑(j+1+1):Int)-1) /\
 i64.wrap ((↑(j+1+1):Int)-1)<(↑(j+1+1):Int) /\
 0+(i64.wrap ((↑(j+1+1):Int)-1)).toNat=j+1 /\
 0+(i64.wrap ((↑(j+1+1):Int)-1)).toNat=j+1 /\
 0+(i64.wrap ((↑(j+1+1):Int)-1)).toNat=j+1 /\
 bc (decide (rkd (gtY l (i:Int).toNat)≠1)) (0+(i64.wrap ((↑(j+1+1):Int)-1)).toNat=j+1 /\
 (0:Int)<=(i:Int) /\
 (i:Int)<(l.length:Int) /\
 0+1<=((List.replicate (1:Nat) uB.dflt).set (0:Nat) (gtY l (i:Int).toNat).2.2).length /\
 (winL uB 0 1 ((List.replicate (1:Nat) uB.dflt).set (0:Nat) (gtY l (i:Int).toNat).2.2)).length<2 ^ 30 /\
 (1:Nat)<=2 ^ 10 /\
 0+(i64.wrap ((↑(j+1+1):Int)-1)).toNat=j+1 /\
 R (hd Tryd.f27 0) { env:=[(0,.sl syS l),(1,.int .i64 m),(4,.ptr 4 0),(6,.ptr 6 0),(7,.int .i64 (i64.wrap ((i:Int)+1)))],blk:=[(4,.var [.bool false,.int .i64 0,.int .i64 0,.nils]),(6,.var [.bool false,.int .i64 m,.int .i64 (l.length:Int),.win true opS 65 0 (j+1+1)]),(65,.var [.arr (56:Nat) Sh.unit (List.replicate (56:TypeId) ()),.arr (j+1) opS (xs++[(k,a,c,b,d)]),.int .i64 (rkd (gtY l (i:Int).toNat)),.int .i64 (gtY l (i:Int).toNat).2.1,.int .i64 ((1:Int)),.int .u8 0,.win true uB 97 0 (1:Nat)]),(97,.row 5 uB (winL uB 0 1 ((List.replicate (1:Nat) uB.dflt).set (0:Nat) (gtY l (i:Int).toNat).2.2)))] }) (R (hd Tryd.f27 0) { env:=[(0,.sl syS l),(1,.int .i64 m),(4,.ptr 4 0),(6,.ptr 6 0),(7,.int .i64 (i64.wrap ((i:Int)+1)))],blk:=[(4,.var [.bool false,.int .i64 0,.int .i64 0,.nils]),(6,.var [.bool false,.int .i64 m,.int .i64 (l.length:Int),.win true opS 65 0 (j+1+1)]),(65,.var [.arr (56:Nat) Sh.unit (List.replicate (56:TypeId) ()),.arr (j+1) opS (xs++[(k,a,c,b,d)]),.int .i64 (rkd (gtY l (i:Int).toNat)),.int .i64 (gtY l (i:Int).toNat).2.1,.int .i64 ((1:Int)),.int .u8 0,.nils])] })) ((0:Int)<=i64.wrap ((↑(j+1):Int)-1) /\
 i64.wrap ((↑(j+1):Int)-1)<(↑(j+1):Int) /\
 0+(i64.wrap ((↑(j+1):Int)-1)).toNat=j /\
 0+(i64.wrap ((↑(j+1):Int)-1)).toNat=j /\
 0+(i64.wrap ((↑(j+1):Int)-1)).toNat=j /\
 bc (decide (k≠1)) (0+(i64.wrap ((↑(j+1):Int)-1)).toNat=j /\
 (0:Int)<=(i:Int) /\
 (i:Int)<(l.length:Int) /\
 False) (R (hd Tryd.f27 0) { env:=[(0,.sl syS l),(1,.int .i64 m),(4,.ptr 4 0),(6,.ptr 6 0),(7,.int .i64 (i64.wrap ((i:Int)+1)))],blk:=[(4,.var [.bool false,.int .i64 0,.int .i64 0,.nils]),(6,.var [.bool false,.int .i64 m,.int .i64 (l.length:Int),.win true opS 65 0 (j+1)]),(65,.var [.arr (56:Nat) Sh.unit (List.replicate (56:Nat) ()),.arr j opS xs,.int .i64 k,.int .i64 a,.int .i64 (i64.wrap (c+1)),.int .u8 b,.sl uB d])] }))))) (bc (decide ((4096:Int)<(↑(j+1):Int))) (Q [.agg [.bool false,.int .i64 0,.int .i64 0,.nils],.int .i64 2] (qkg m l j xs k a c b d)) (Q [.agg [.bool false,.int .i64 m,.int .i64 (l.length:Int),.win true opS 65 0 (j+1)],.int .i64 0] [(4,.var [.bool false,.int .i64 m,.int .i64 (l.length:Int),.win true opS 65 0 (j+1)]),(6,.var [.bool false,.int .i64 m,.int .i64 (l.length:Int),.win true opS 65 0 (j+1)]),(65,.var [.arr (56:Nat) Sh.unit (List.replicate (56:Nat) ()),.arr j opS xs,.int .i64 k,.int .i64 a,.int .i64 c,.int .u8 b,.sl uB d])]))):=by kernel_rfl
def qkf (m:Int) (l:List SyT) (d:List OpT):List (Nat × LB):=[(4,.var [.bool false,.int .i64 0,.int .i64 0,.nils]),(6,.var [.bool false,.int .i64 m,.int .i64 (l.length:Int),.sl opS d])]
theorem q3h (m:Int) (l:List SyT) (d:List OpT) (i:Nat) (Q:QT) (R:RT):sy ttO G0 COf Tryd.f27.ntmps Tryd.f27.results.toList Q (fun it S=>R it (qa4 [0,1,4,6,7] [4,6,65,97] S)) 1000 (hd Tryd.f27 0) ⟨[(0,.sl syS l),(1,.int .i64 m),(4,.ptr 4 0),(6,.ptr 6 0),(7,.int .i64 (i:Nat))],[(4,.var [.bool false,.int .i64 0,.int .i64 0,.nils]),(6,.var [.bool false,.int .i64 m,.int .i64 (l.length:Nat),.sl opS d])]⟩ =
  (bc (decide ((i:Int)<(l.length:Int))) ((0:Int)<=(i:Int) /\
 (i:Int)<(l.length:Int) /\
 ctRsyB.pre ((gtY l (i:Int).toNat),m,()) /\
 bc (!sOK m (gtY l (i:Int).toNat)) (Q [.agg [.bool false,.int .i64 0,.int .i64 0,.nils],.int .i64 60] (qkf m l d)) (bc (decide ((i:Int)=(0:Int))) (true=true /\
 (0:Int)<=(i:Int) /\
 (i:Int)<(l.length:Int) /\
 ctRk.pre ((gtY l (i:Int).toNat),()) /\
 (0:Int)<=(i:Int) /\
 (i:Int)<(l.length:Int) /\
 False) ((0:Int)<=i64.wrap ((i:Int)-1) /\
 i64.wrap ((i:Int)-1)<(l.length:Int) /\
 (0:Int)<=(i:Int) /\
 (i:Int)<(l.length:Int) /\
 ctRgo.pre ((gtY l (i64.wrap ((i:Int)-1)).toNat),(gtY l (i:Int).toNat),()) /\
 bc (bif false then true else !rgoB (gtY l (i64.wrap ((i:Int)-1)).toNat) (gtY l (i:Int).toNat)) ((0:Int)<=(i:Int) /\
 (i:Int)<(l.length:Int) /\
 ctRk.pre ((gtY l (i:Int).toNat),()) /\
 (0:Int)<=(i:Int) /\
 (i:Int)<(l.length:Int) /\
 False) ((0:Int)<=i64.wrap ((d.length:Int)-1) /\
 i64.wrap ((d.length:Int)-1)<(d.length:Int) /\
 False)))) (bc (decide ((4096:Int)<(d.length:Int))) (Q [.agg [.bool false,.int .i64 0,.int .i64 0,.nils],.int .i64 2] (qkf m l d)) (Q [.agg [.bool false,.int .i64 m,.int .i64 (l.length:Int),.sl opS d],.int .i64 0] [(4,.var [.bool false,.int .i64 m,.int .i64 (l.length:Int),.sl opS d]),(6,.var [.bool false,.int .i64 m,.int .i64 (l.length:Int),.sl opS d])]))):=by kernel_rfl
theorem q9b {tt:TT} {a:Nat} {ti:TI} (h:lk tt a=some ti) (t:Nat):lk ((a,ti)::tt) t=lk tt t:=by
 simp only[lk];split
 ·rename_i e;subst e;exact h.symm
 ·rfl
theorem q8d:∀ t,lk ttO t=lk tt t:=by
 intro t;unfold ttO;split
 ·rename_i ti h;exact q9b h t
 ·rfl
theorem cxO:CxOK Tryd.prog ttO G0 COf:=((((cx0.cons qu7 (fn:=Tryd.f49) rfl rfl rfl).cons qyq (fn:=Tryd.f48) rfl rfl rfl).cons qu4 (fn:=Tryd.f47) rfl rfl rfl).cons qm7 (fn:=Tryd.f46) rfl rfl rfl).tab q8d
def newO (s:SyT):OpT:=(rkd s,s.2.1,1,0,if rkd s=1 then [] else [s.2.2])
def extO (x:OpT) (s:SyT):OpT:=(x.1,x.2.1,x.2.2.1+1,x.2.2.2.1,if x.1=1 then x.2.2.2.2 else x.2.2.2.2++[s.2.2])
def stpR (r:List OpT × OpT) (p s:SyT):List OpT × OpT:=match rgoB p s with
 | true=>(r.1,extO r.2 s)
 | false=>(r.1++[r.2],newO s)
def ofR (l:List SyT):Nat->List OpT × OpT
 | 0=>([],newO (gtY l 0))
 | i+1=>stpR (ofR l i) (gtY l i) (gtY l (i+1))
def ofO (l:List SyT):List OpT:=match l.length with
 | 0=>[]
 | n+1=>(ofR l n).1++[(ofR l n).2]
def ofRV (l:List SyT) (m:Int):PaT × Int:=if szB m=true/\szB l.length=true/\l.all (sOK m)=true then (if 4096<(ofO l).length then ((false,0,0,[]),2) else ((false,m,l.length,ofO l),0)) else ((false,0,0,[]),60)
def invR (l:List SyT) (i:Nat) (r:List OpT × OpT):Prop:=r.2.1=rkd (gtY l i)/\(1<=r.2.2.2.1/\r.2.2.2.1<=i+1)/\r.1.length<=i/\r.2.2.2.2.2.length<=i+1/\(r.2.1=1->r.2.2.2.2.2=[])
theorem qrg (s:SyT):(newO s).2.2.2.2.length<=1/\(rkd s=1->(newO s).2.2.2.2=[]):=by
 unfold newO;by_cases h:rkd s=1
 ·simp[h]
 ·simp[h]
theorem qm1 (l:List SyT):∀ i,invR l i (ofR l i)
 | 0=>⟨rfl,⟨Int.le_refl _,by simp[ofR,newO]⟩,Nat.le_refl _,(qrg _).1,(qrg _).2⟩
 | i+1=>by
  obtain ⟨h1,⟨h2,h3⟩,h4,h5,h6⟩:=qm1 l i
  show invR l (i+1) (stpR (ofR l i) (gtY l i) (gtY l (i+1)))
  unfold stpR;split
  ·rename_i hg;simp only[rgoB,Bool.and_eq_true,decide_eq_true_eq] at hg;refine ⟨h1.trans hg.1,⟨?_,?_⟩,Nat.le_succ_of_le h4,?_,?_⟩
   ·show 1<=(ofR l i).2.2.2.1+1;omega
   ·show (ofR l i).2.2.2.1+1<=((i+1:Nat):Int)+1;omega
   ·show (extO (ofR l i).2 (gtY l (i+1))).2.2.2.2.length<=_
    unfold extO;by_cases hk:(ofR l i).2.1=1
    ·simp only[hk,if_true];omega
    ·simp only[hk,if_false,List.length_append,List.length_singleton];omega
   ·intro hk;have hk:(ofR l i).2.1=1:=hk
    show (extO (ofR l i).2 (gtY l (i+1))).2.2.2.2=[]
    unfold extO;simp only[hk,if_true];exact h6 hk
  ·refine ⟨rfl,⟨Int.le_refl _,?_⟩,?_,?_,(qrg _).2⟩
   ·show (1:Int)<=((i+1:Nat):Int)+1;omega
   ·simp only[List.length_append,List.length_singleton];omega
   ·have:=(qrg (gtY l (i+1))).1;show (newO (gtY l (i+1))).2.2.2.2.length<=_;omega
abbrev QPe (p:PaT × Int):List SV->List (Nat × LB)->Prop:=fun rs _=>MtL (fun _=>none) [paV p.1,.int .i64 p.2] rs
abbrev GDo (Q:List SV->List (Nat × LB)->Prop) (it:List Item) (S:PS):Prop:=Px.Good Tryd.prog ttO G0 27 Tryd.f27.ntmps Tryd.f27.results.toList Q it S
section
variable (m:Int) (l:List SyT) (hm0:0<=m) (hm1:m<=65536) (hn:l.length<=65536)
abbrev sE (i:Nat) (w:SV) (bs:List (Nat × LB)):PS:=⟨[(0,.sl syS l),(1,.int .i64 m),(4,.ptr 4 0),(6,.ptr 6 0),(7,.int .i64 (i:Nat))],(4,.var [.bool false,.int .i64 0,.int .i64 0,.nils])::(6,.var [.bool false,.int .i64 m,.int .i64 (l.length:Nat),w])::bs⟩
abbrev bO (xs:List OpT) (k a c b:Int) (d:SV):LB:=.var [.arr 56 .unit (List.replicate 56 ()),.arr xs.length opS xs,.int .i64 k,.int .i64 a,.int .i64 c,.int .u8 b,d]
abbrev sB (i:Nat) (xs:List OpT) (k a c b:Int):PS:=sE m l i (.win true opS 65 0 (xs.length+1)) [(65,bO xs k a c b .nils)]
abbrev sC (i:Nat) (xs:List OpT) (k a c b:Int) (d:List Int):PS:=sE m l i (.win true opS 65 0 (xs.length+1)) [(65,bO xs k a c b (.win true uB 97 0 d.length)),(97,.row 5 uB d)]
abbrev sD (i:Nat) (xs:List OpT) (k a c b:Int) (d:List Int):PS:=sE m l i (.win true opS 65 0 (xs.length+1)) [(65,bO xs k a c b (.sl uB d))]
theorem sC_D {i:Nat} {xs:List OpT} {k a c b:Int} {d:List Int} {Q:List SV->List (Nat × LB)->Prop} {it:List Item} (h:GDo Q it (sD m l i xs k a c b d)):GDo Q it (sC m l i xs k a c b d):=by
 refine Good.frz (i:=97) (e:=uB) (et:=5) (xs:=d) rfl (fun c hc=>?_) ?_
 ·have hc:c∈[0+d.length<=d.length]:=hc;rw[List.mem_singleton] at hc;subst hc;omega
 ·have e:winL uB 0 d.length d=d:=winA (e:=uB) d;refine Good.only (S':=sD m l i xs k a c b (winL uB 0 d.length d)) ?_ ⟨rfl,rfl,rfl,rfl,rfl,trivial⟩ ⟨rfl,rfl,rfl,trivial⟩;rw[e];exact h
end
section
variable (m:Int) (l:List SyT) (hm0:0<=m) (hm1:m<=65536) (hn:l.length<=65536) {Q:List SV->List (Nat × LB)->Prop}
theorem wr1 (i:Nat) (h:i<1000000):IntKind.i64.wrap (((i+1:Nat):Int)-1)=(i:Nat):=by rw[IntWalk.i64_in _ (by omega)];omega
theorem wr2 (i:Nat) (h:i<1000000):IntKind.i64.wrap ((i:Int)+1)=((i+1:Nat):Int):=by rw[IntWalk.i64_in _ (by omega)];omega
include hm0 hm1 hn
abbrev badQ (Q:List SV->List (Nat × LB)->Prop):Prop:=∀ blk,Q [SV.agg [SV.bool false,SV.int .i64 0,SV.int .i64 0,SV.nils],SV.int .i64 60] blk
theorem rndB (i:Nat) (xs:List OpT) (k a c b:Int) (hi:i+1<l.length) (hk:k=1) (hc:1<=c/\c<=i+1) (hx:xs.length<=i) (bad:sOK m (gtY l (i+1))=false->badQ Q)
  (nxG:sOK m (gtY l (i+1))=true->rgoB (gtY l i) (gtY l (i+1))=true->GDo Q (Px.hd Tryd.f27 0) (sB m l (i+2) xs k a (c+1) b))
  (nx1:sOK m (gtY l (i+1))=true->rgoB (gtY l i) (gtY l (i+1))=false->rkd (gtY l (i+1))=1->GDo Q (Px.hd Tryd.f27 0) (sB m l (i+2) (xs++[(k,a,c,b,[])]) (rkd (gtY l (i+1))) (gtY l (i+1)).2.1 1 0))
  (nx2:sOK m (gtY l (i+1))=true->rgoB (gtY l i) (gtY l (i+1))=false->rkd (gtY l (i+1))≠1->GDo Q (Px.hd Tryd.f27 0) (sC m l (i+2) (xs++[(k,a,c,b,[])]) (rkd (gtY l (i+1))) (gtY l (i+1)).2.1 1 0 [(gtY l (i+1)).2.2])) :
  GDo Q (Px.hd Tryd.f27 0) (sB m l (i+1) xs k a c b):=by
 refine qak cxO (q3k m l (i+1) xs.length xs k a c b [] _ _) ?_;have e1:=wr1 i (by omega);have e2:=wr2 (i+1) (by omega);have e3:=wr1 xs.length (by omega);have e4:=wr1 (xs.length+1) (by omega);have e5:IntKind.i64.wrap (c+1)=c+1:=IntWalk.i64_in _ (by omega);rw[decide_eq_true (show ((i+1:Nat):Int)<(l.length:Int) by omega),bc_t];refine ⟨by omega,by omega,⟨hm0,(show m<16777216 by omega)⟩,?_⟩;rw[decide_eq_false (show ¬ ((i+1:Nat):Int)=0 by omega)];simp only[e1,e2,e3,e4,e5,Int.toNat_natCast,bc_f,cond_false];refine qaf (fun hs=>bad (by simpa using hs) _) (fun hs=>⟨by omega,by omega,by omega,by omega,trivial,qaf (fun hg=>?_) (fun hg=>?_)⟩)
 ·have hs:sOK m (gtY l (i+1))=true:=by simpa using hs
  have hg:rgoB (gtY l i) (gtY l (i+1))=false:=by simpa using hg
  refine ⟨by omega,by omega,trivial,by omega,by omega,trivial,by omega,by decide,by omega,by omega,Nat.zero_add _,Nat.zero_add _,Nat.zero_add _,qaf (fun h=>?_) (fun h=>?_)⟩
  ·have h:=of_decide_eq_true h;exact ⟨Nat.zero_add _,by omega,by omega,Nat.le_refl 1,(show 1<2 ^ 30 by decide),by decide,Nat.zero_add _,(nx2 hs hg h).only ⟨rfl,rfl,rfl,rfl,rfl,trivial⟩ ⟨rfl,by rw[List.length_append];rfl,by simp only[bO,List.length_append];rfl,rfl,trivial⟩⟩
  ·have h:rkd (gtY l (i+1))=1:=by have:=of_decide_eq_false h;omega
   exact (nx1 hs hg h).only ⟨rfl,rfl,rfl,rfl,rfl,trivial⟩ ⟨rfl,by rw[List.length_append];rfl,by simp only[bO,List.length_append];rfl,trivial⟩
 ·have hs:sOK m (gtY l (i+1))=true:=by simpa using hs
  have hg:rgoB (gtY l i) (gtY l (i+1))=true:=by simpa using hg
  refine ⟨by omega,by omega,Nat.zero_add _,Nat.zero_add _,Nat.zero_add _,?_⟩;rw[decide_eq_false (show ¬ k≠1 by omega),bc_f];exact (nxG hs hg).only ⟨rfl,rfl,rfl,rfl,rfl,trivial⟩ ⟨rfl,rfl,rfl,trivial⟩
theorem rndD (i:Nat) (xs:List OpT) (k a c b:Int) (d:List Int) (hi:i+1<l.length) (hx:xs.length<=i) (hg:rgoB (gtY l i) (gtY l (i+1))=false) (bad:sOK m (gtY l (i+1))=false->badQ Q)
  (nx1:sOK m (gtY l (i+1))=true->rkd (gtY l (i+1))=1->GDo Q (Px.hd Tryd.f27 0) (sB m l (i+2) (xs++[(k,a,c,b,d)]) (rkd (gtY l (i+1))) (gtY l (i+1)).2.1 1 0))
  (nx2:sOK m (gtY l (i+1))=true->rkd (gtY l (i+1))≠1->GDo Q (Px.hd Tryd.f27 0) (sC m l (i+2) (xs++[(k,a,c,b,d)]) (rkd (gtY l (i+1))) (gtY l (i+1)).2.1 1 0 [(gtY l (i+1)).2.2])) :
  GDo Q (Px.hd Tryd.f27 0) (sD m l (i+1) xs k a c b d):=by
 refine qak cxO (q3i m l (i+1) xs.length xs k a c b d _ _) ?_;have e1:=wr1 i (by omega);have e2:=wr2 (i+1) (by omega);have e4:=wr1 (xs.length+1) (by omega);rw[decide_eq_true (show ((i+1:Nat):Int)<(l.length:Int) by omega),bc_t];refine ⟨by omega,by omega,⟨hm0,(show m<16777216 by omega)⟩,?_⟩;rw[decide_eq_false (show ¬ ((i+1:Nat):Int)=0 by omega)];simp only[e1,e2,e4,Int.toNat_natCast,bc_f,cond_false];refine qaf (fun hs=>bad (by simpa using hs) _) (fun hs=>⟨by omega,by omega,by omega,by omega,trivial,?_⟩);have hs:sOK m (gtY l (i+1))=true:=by simpa using hs
 rw[hg,Bool.not_false,bc_t];refine ⟨by omega,by omega,trivial,by omega,by omega,trivial,by omega,by decide,by omega,by omega,Nat.zero_add _,Nat.zero_add _,Nat.zero_add _,qaf (fun h=>?_) (fun h=>?_)⟩
 ·have h:=of_decide_eq_true h;exact ⟨Nat.zero_add _,by omega,by omega,Nat.le_refl 1,(show 1<2 ^ 30 by decide),by decide,Nat.zero_add _,(nx2 hs h).only ⟨rfl,rfl,rfl,rfl,rfl,trivial⟩ ⟨rfl,by rw[List.length_append];rfl,by simp only[bO,List.length_append];rfl,rfl,trivial⟩⟩
 ·have h:rkd (gtY l (i+1))=1:=by have:=of_decide_eq_false h;omega
  exact (nx1 hs h).only ⟨rfl,rfl,rfl,rfl,rfl,trivial⟩ ⟨rfl,by rw[List.length_append];rfl,by simp only[bO,List.length_append];rfl,trivial⟩
theorem rndC (i:Nat) (xs:List OpT) (k a c b:Int) (d:List Int) (hi:i+1<l.length) (hk:k≠1) (hc:1<=c/\c<=i+1) (hx:xs.length<=i) (hd:d.length<=i+1) (hg:rgoB (gtY l i) (gtY l (i+1))=true) (bad:sOK m (gtY l (i+1))=false->badQ Q)
  (nxG:sOK m (gtY l (i+1))=true->GDo Q (Px.hd Tryd.f27 0) (sC m l (i+2) xs k a (c+1) b (d++[(gtY l (i+1)).2.2]))):GDo Q (Px.hd Tryd.f27 0) (sC m l (i+1) xs k a c b d):=by
 refine qak cxO (q3j m l (i+1) xs.length xs k a c b d _ _) ?_;have e1:=wr1 i (by omega);have e2:=wr2 (i+1) (by omega);have e3:=wr1 xs.length (by omega);have e5:IntKind.i64.wrap (c+1)=c+1:=IntWalk.i64_in _ (by omega);rw[decide_eq_true (show ((i+1:Nat):Int)<(l.length:Int) by omega),bc_t];refine ⟨by omega,by omega,⟨hm0,(show m<16777216 by omega)⟩,?_⟩;rw[decide_eq_false (show ¬ ((i+1:Nat):Int)=0 by omega)];simp only[e1,e2,e3,e5,Int.toNat_natCast,bc_f,cond_false];refine qaf (fun hs=>bad (by simpa using hs) _) (fun hs=>⟨by omega,by omega,by omega,by omega,trivial,?_⟩);have hs:sOK m (gtY l (i+1))=true:=by simpa using hs
 rw[hg,Bool.not_true,bc_f];refine ⟨by omega,by omega,Nat.zero_add _,Nat.zero_add _,Nat.zero_add _,?_⟩;rw[decide_eq_true hk,bc_t];refine ⟨Nat.zero_add _,by omega,by omega,Nat.le_refl 1,trivial,trivial,?_,by decide,Nat.zero_add _,(nxG hs).only ⟨rfl,rfl,rfl,rfl,rfl,trivial⟩ ⟨rfl,rfl,by simp only[bO,List.length_append];rfl,rfl,trivial⟩⟩
 show d.length+1<2 ^ 30
 omega
end
section
variable (m:Int) (l:List SyT) (hm0:0<=m) (hm1:m<=65536) (hn:l.length<=65536)
theorem okM (hm0:0<=m) (hm1:m<=65536):szB m=true:=by simp[szB];omega
theorem qre {i:Nat} (hi:i<l.length) (h:sOK m (gtY l i)=false):ofRV l m=((false,0,0,[]),60):=by
 refine if_neg fun q=>?_
 have:=List.all_eq_true.1 q.2.2 (gtY l i) (by rw[qbn hi];exact List.getElem_mem hi);rw[h] at this;cases this
include hm0 hm1 hn
theorem qpo (h:∀ j,j<l.length->sOK m (gtY l j)=true):ofRV l m=(if 4096<(ofO l).length then ((false,0,0,[]),2) else ((false,m,(l.length:Int),ofO l),0):PaT × Int):=by
 refine if_pos ⟨okM m hm0 hm1,by simp[szB];omega,?_⟩;rw[List.all_eq_true];intro x hx;obtain ⟨j,hj,rfl⟩:=List.getElem_of_mem hx;rw[<- qbn hj];exact h j hj
theorem rndE (hok:∀ j,j<l.length->sOK m (gtY l j)=true):GDo (QPe (ofRV l m)) (Px.hd Tryd.f27 0) (sE m l l.length (.sl opS (ofO l)) []):=by
 rw[qpo m l hm0 hm1 hn hok];refine qak cxO (q3h m l (ofO l) l.length _ _) ?_;rw[decide_eq_false (show ¬ (l.length:Int)<(l.length:Int) by omega),bc_f];refine qaf (fun h=>?_) (fun h=>?_)
 ·have h:=of_decide_eq_true h;rw[if_pos (by omega)];exact qcy 2
 ·have h:=of_decide_eq_false h;rw[if_neg (by omega)];exact ⟨_,_,rfl,⟨_,rfl,_,_,rfl,rfl,_,_,rfl,rfl,_,_,rfl,rfl,_,_,rfl,.inl rfl,rfl⟩,_,_,rfl,rfl,rfl⟩
theorem shutD (i:Nat) (xs:List OpT) (k a c b:Int) (d:List Int) {Q:List SV->List (Nat × LB)->Prop} {it:List Item} (h:GDo Q it (sE m l i (.sl opS (xs++[(k,a,c,b,d)])) [])):GDo Q it (sD m l i xs k a c b d):=by
 have _:=And.intro hm0 (And.intro hm1 hn);refine Good.shut (i:=65) (e:=opS) (y:=(k,a,c,b,d)) rfl rfl (by decide) fun et'=>?_
 refine Good.frz (i:=65) (e:=opS) (et:=et') (xs:=xs++[(k,a,c,b,d)]) rfl (fun c hc=>?_) ?_
 ·have hc:c∈[0+(xs.length+1)<=(xs++[(k,a,_,b,d)]).length]:=hc;rw[List.mem_singleton] at hc;subst hc;rw[List.length_append,List.length_singleton];omega
 ·have e:winL opS 0 (xs.length+1) (xs++[(k,a,c,b,d)])=xs++[(k,a,c,b,d)]:=by
   have:=winA (e:=opS) (xs++[(k,a,c,b,d)]);rwa[List.length_append,List.length_singleton] at this
  refine Good.only (S':=sE m l i (.sl opS (winL opS 0 (xs.length+1) (xs++[(k,a,c,b,d)]))) []) ?_ ⟨rfl,rfl,rfl,rfl,rfl,trivial⟩ ⟨rfl,rfl,trivial⟩;rw[e];exact h
theorem shutB (i:Nat) (xs:List OpT) (k a c b:Int) {Q:List SV->List (Nat × LB)->Prop} {it:List Item} (h:GDo Q it (sE m l i (.sl opS (xs++[(k,a,c,b,[])])) [])):GDo Q it (sB m l i xs k a c b):=by
 have _:=And.intro hm0 (And.intro hm1 hn);refine Good.shut (i:=65) (e:=opS) (y:=(k,a,c,b,[])) rfl rfl (by decide) fun et'=>?_
 refine Good.frz (i:=65) (e:=opS) (et:=et') (xs:=xs++[(k,a,c,b,[])]) rfl (fun c hc=>?_) ?_
 ·have hc:c∈[0+(xs.length+1)<=(xs++[(k,a,_,b,[])]).length]:=hc;rw[List.mem_singleton] at hc;subst hc;rw[List.length_append,List.length_singleton];omega
 ·have e:winL opS 0 (xs.length+1) (xs++[(k,a,c,b,[])])=xs++[(k,a,c,b,[])]:=by
   have:=winA (e:=opS) (xs++[(k,a,c,b,[])]);rwa[List.length_append,List.length_singleton] at this
  refine Good.only (S':=sE m l i (.sl opS (winL opS 0 (xs.length+1) (xs++[(k,a,c,b,[])]))) []) ?_ ⟨rfl,rfl,rfl,rfl,rfl,trivial⟩ ⟨rfl,rfl,trivial⟩;rw[e];exact h
theorem qrf:∀ (n i:Nat),l.length-(i+1)=n->i+1<=l.length->(∀ j,j<i+1->sOK m (gtY l j)=true)->∀ xs k a c b d,ofR l i=(xs,(k,a,c,b,d)) ->
  (k=1->GDo (QPe (ofRV l m)) (Px.hd Tryd.f27 0) (sB m l (i+1) xs k a c b))/\(k≠1->GDo (QPe (ofRV l m)) (Px.hd Tryd.f27 0) (sC m l (i+1) xs k a c b d)):=by
 intro n
 induction n with
 | zero=>
  intro i hk hi hok xs k a c b d he;have hil:i+1=l.length:=by omega
  have hO:ofO l=xs++[(k,a,c,b,d)]:=by unfold ofO;rw[<- hil];simp only;rw[he]
  have hE:=rndE m l hm0 hm1 hn (fun j hj=>hok j (by omega));rw[hO,<- hil] at hE;obtain ⟨_,_,_,_,h6⟩:=qm1 l i;rw[he] at h6;refine ⟨fun hk1=>shutB m l hm0 hm1 hn _ xs k a c b ?_,fun _=>sC_D m l (shutD m l hm0 hm1 hn _ xs k a c b d hE)⟩;have hd:d=[]:=h6 hk1;rw[hd] at hE;exact hE
 | succ n ih=>
  intro i hk hi hok xs k a c b d he;obtain ⟨h1,h2,h4,h5,h6⟩:=qm1 l i;rw[he] at h1 h2 h4 h5 h6;have h1:k=rkd (gtY l i):=h1;have h2:1<=c/\c<=i+1:=h2;have h4:xs.length<=i:=h4;have h5:d.length<=i+1:=h5;have h6:k=1->d=[]:=h6;have hi2:i+1<l.length:=by omega
  have hS:ofR l (i+1)=stpR (xs,(k,a,c,b,d)) (gtY l i) (gtY l (i+1)):=by rw[<- he];rfl
  have bad:sOK m (gtY l (i+1))=false->badQ (QPe (ofRV l m)):=fun h blk=>by
   rw[qre m l hi2 h];exact qcy 60
  have nx:sOK m (gtY l (i+1))=true->∀ xs k a c b d,ofR l (i+1)=(xs,(k,a,c,b,d))->(k=1->GDo (QPe (ofRV l m)) (Px.hd Tryd.f27 0) (sB m l (i+2) xs k a c b))/\(k≠1->GDo (QPe (ofRV l m)) (Px.hd Tryd.f27 0) (sC m l (i+2) xs k a c b d)):=fun hs=>
   ih (i+1) (by omega) (by omega) fun j hj=>by
    rcases Nat.lt_or_ge j (i+1) with h | h
    ·exact hok j h
    ·rw[show j=i+1 by omega];exact hs
  have hN:rgoB (gtY l i) (gtY l (i+1))=false->ofR l (i+1)=(xs++[(k,a,c,b,d)],newO (gtY l (i+1))):=fun hg=>by rw[hS];unfold stpR;rw[hg]
  have hG:rgoB (gtY l i) (gtY l (i+1))=true->ofR l (i+1)=(xs,(k,a,c+1,b,if k=1 then d else d++[(gtY l (i+1)).2.2])):=fun hg=>by rw[hS];unfold stpR;rw[hg];rfl
  have n1:sOK m (gtY l (i+1))=true->rgoB (gtY l i) (gtY l (i+1))=false->rkd (gtY l (i+1))=1->GDo (QPe (ofRV l m)) (Px.hd Tryd.f27 0) (sB m l (i+2) (xs++[(k,a,c,b,d)]) (rkd (gtY l (i+1))) (gtY l (i+1)).2.1 1 0):=fun hs hg h1=>(nx hs _ _ _ _ _ _ (hN hg)).1 h1
  have n2:sOK m (gtY l (i+1))=true->rgoB (gtY l i) (gtY l (i+1))=false->rkd (gtY l (i+1))≠1->GDo (QPe (ofRV l m)) (Px.hd Tryd.f27 0) (sC m l (i+2) (xs++[(k,a,c,b,d)]) (rkd (gtY l (i+1))) (gtY l (i+1)).2.1 1 0 [(gtY l (i+1)).2.2]):=fun hs hg h1=>by
   have:=(nx hs _ _ _ _ _ _ (hN hg)).2 h1;simp only[if_neg h1] at this;exact this
  constructor
  ·intro hk1;have hd:=h6 hk1;subst hd;refine rndB m l hm0 hm1 hn i xs k a c b hi2 hk1 h2 h4 bad (fun hs hg=>(nx hs _ _ _ _ _ _ (hG hg)).1 hk1) n1 n2
  ·intro hk1
   cases hg:rgoB (gtY l i) (gtY l (i+1)) with
   | false=>exact sC_D m l (rndD m l hm0 hm1 hn i xs k a c b d hi2 h4 hg bad (fun hs h=>n1 hs hg h) (fun hs h=>n2 hs hg h))
   | true=>
    refine rndC m l hm0 hm1 hn i xs k a c b d hi2 hk1 h2 h4 h5 hg bad fun hs=>?_
    have:=(nx hs _ _ _ _ _ _ (hG hg)).2 hk1;rw[if_neg hk1] at this;exact this
theorem qv1:GDo (QPe (ofRV l m)) (Px.hd Tryd.f27 0) (sE m l 0 .nils []):=by
 refine qak cxO (q3l m l 0 _ _) ?_;refine qaf (fun h=>?_) (fun h=>?_)
 ·have h:=of_decide_eq_true h;have h0:0<l.length:=by omega
  have e2:IntKind.i64.wrap (((0:Nat):Int)+1)=((0+1:Nat):Int):=by rw[IntWalk.i64_in _ (by omega)];omega
  have e4:IntKind.i64.wrap (((1:Nat):Int)-1)=(0:Nat):=by rw[IntWalk.i64_in _ (by omega)];omega
  refine ⟨by omega,by omega,⟨hm0,(show m<16777216 by omega)⟩,?_⟩;rw[decide_eq_true (show ((0:Nat):Int)=0 by omega),bc_t];simp only[e2,e4,Int.toNat_natCast];refine qaf (fun hs=>?_) (fun hs=>⟨trivial,by omega,by omega,trivial,by omega,by omega,by decide,by omega,by omega,trivial,trivial,trivial,qaf (fun h1=>?_) (fun h1=>?_)⟩)
  ·rw[qre m l h0 (by simpa using hs)];exact qcy 60
  ·have h1:=of_decide_eq_true h1;have hs:sOK m (gtY l 0)=true:=by simpa using hs
   have nx:=(qrf m l hm0 hm1 hn _ 0 rfl (by omega) (fun j hj=>by rw[show j=0 by omega];exact hs) _ _ _ _ _ _ rfl).2 h1;simp only[if_neg h1] at nx;exact ⟨trivial,by omega,by omega,Nat.le_refl 1,(show 1<2 ^ 30 by decide),by decide,trivial,nx.only ⟨rfl,rfl,rfl,rfl,rfl,trivial⟩ ⟨rfl,rfl,rfl,rfl,trivial⟩⟩
  ·have h1:rkd (gtY l 0)=1:=by have:=of_decide_eq_false h1;omega
   have hs:sOK m (gtY l 0)=true:=by simpa using hs
   have nx:=(qrf m l hm0 hm1 hn _ 0 rfl (by omega) (fun j hj=>by rw[show j=0 by omega];exact hs) _ _ _ _ _ _ rfl).1 h1;exact nx.only ⟨rfl,rfl,rfl,rfl,rfl,trivial⟩ ⟨rfl,rfl,rfl,trivial⟩
 ·have h:=of_decide_eq_false h;have h0:l.length=0:=by omega
  rw[qpo m l hm0 hm1 hn fun j hj=>by omega];have hO:ofO l=[]:=by unfold ofO;rw[h0]
  rw[hO,if_neg (by simp)];exact ⟨_,_,rfl,⟨_,rfl,_,_,rfl,rfl,_,_,rfl,rfl,_,_,rfl,rfl,_,_,rfl,.inr ⟨rfl,rfl⟩,rfl⟩,_,_,rfl,rfl,rfl⟩
end
def q14 (l:List SyT):Prop:=l.length<1099511627776
def ctOf6:Ctr:=⟨[.sl syS,iI],fun x=>q14 x.1,fun x=>[paV (ofRV x.1 x.2.1).1,.int .i64 (ofRV x.1 x.2.1).2],fun _=>[]⟩
theorem qza:Held Tryd.prog G0 27 ctOf6:=by
 refine Held.of cxO (fn:=Tryd.f27) rfl rfl ⟨by decide,by decide⟩ ?_;rintro ⟨l,m,⟨⟩⟩ hp;replace hp:q14 l:=hp;have go:GDo (QPe (ofRV l m)) [.code (qae Tryd.f27)] (entry [.sl syS,iI] (l,m,())):=by
  refine qak cxO (q7k m l _ _) ⟨trivial,?_⟩;have bad:¬ (szB m=true/\szB l.length=true/\l.all (sOK m)=true)->ofRV l m=((false,0,0,[]),60):=fun q=>if_neg q
  refine qaf (fun h=>⟨rfl,?_⟩) (fun h=>qaf (fun h2=>?_) (fun h2=>?_))
  ·have h:(!szB m)=true:=h;rw[bad fun q=>by rw[q.1] at h;cases h];exact qcy 60
  ·have h2:decide ((65536:Int)<(l.length:Int))=true:=h2;have h2:=of_decide_eq_true h2;rw[bad fun q=>by have:=q.2.1;simp[szB] at this;omega];exact qcy 60
  ·have h:(!szB m)=false:=h;have h2:decide ((65536:Int)<(l.length:Int))=false:=h2;have h2:=of_decide_eq_false h2;have h3:szB m=true:=by simpa using h
   simp only[szB,Bool.and_eq_true,decide_eq_true_eq] at h3;exact (qv1 m l h3.1 h3.2 (by omega)).only ⟨rfl,rfl,rfl,rfl,rfl,trivial⟩ ⟨rfl,rfl,trivial⟩
 exact go.post fun rs blk h=>QC.mt h rfl
theorem q15 {s:List SyT} {m:Int} (hr:∀ x∈s,sOK m x=true) (h0:0<=m) (h1:m<=65536) (hl:s.length<=4096):poV s m=((false,m,(s.length:Int),chL s),0)/\symF (chL s)=s/\(∀ x∈chL s,isRB x m=true)/\q0h (chL s)=cst s/\(chL s).length<=4096 /\
  (chkV (false,m,(s.length:Int),chL s)).2=0:=by
 obtain ⟨c1,c2,c3,c4⟩:=ch_ok (m:=m) (by omega) s.length s (Nat.le_refl _) (by omega) hr;have hb:=qr2 s (by omega);unfold boL at hb;have hlen:(chL s).length<=4096:=by
  show (chF s.length s).length<=4096
  have:oct s=(bst s).2.2.2:=rfl;omega
 have hs:=qfs c2;rw[c1] at hs;refine ⟨?_,c1,c2,c3,hlen,?_⟩
 ·unfold poV;rw[if_neg (by omega)]
 ·have:=qw9 (li:=false) (o:=(s.length:Int)) h0 h1 (by omega) hlen c2 hs.symm;rw[this]
theorem q9q {s:List SyT} {m:Int} (hr:∀ x∈s,sOK m x=true) (h0:0<=m) (h1:m<=65536) (hl:s.length<=4096):cpV s m=((false,m,(s.length:Int),chL s),0):=by
 unfold cpV;rw[if_neg (q5l ⟨by simp[szB];omega,by simp[szB];omega,by rw[List.all_eq_true];exact hr⟩)];exact (q15 hr h0 h1 hl).1
theorem q6h {x:OpT} {m:Int} (h:isRB x m=true) (h0:0<=m) (hm:m<16777216) {k:Nat} (hk:(k:Int)<x.2.2.1):sOK m (elO x.1.toNat x k)=true:=by
 have pp:=qwo h ⟨h0,hm⟩;rcases (qfe h).1 with e | e | e | e
 ·rw[e];have pp:=pp (.inl e)
  show sOK m (true,IntKind.i64.wrap (x.2.1+(k:Int)),0)=true
  rw[IntWalk.i64_in _ (by omega)];simp[sOK];omega
 ·rw[e];have pp:=pp (.inr e)
  show sOK m (true,IntKind.i64.wrap (x.2.1+(k:Int)),gtB x.2.2.2.2 k)=true
  rw[IntWalk.i64_in _ (by omega)];simp[sOK];omega
 ·rw[e];rfl
 ·rw[e];rfl
theorem q39 {m:Int} (h0:0<=m) (hm:m<16777216) {l:List OpT} (hr:∀ x∈l,isRB x m=true):∀ s∈symF l,sOK m s=true:=fun s hs=>by
 obtain ⟨x,hx,k,hk,e⟩:=qun hr s hs;rw[e];exact q6h (hr x hx) h0 hm hk
theorem q6r {p:PaT} (h:(chkV p).2=0):0<=p.2.1/\p.2.1<=65536:=by
 unfold chkV at h;split at h
 ·rename_i q;exact q1q q.1
 ·cases h
theorem sy_ok {p:PaT} (h:(chkV p).2=0):symV p=(symF p.2.2.2,0):=by unfold symV;rw[if_pos h]
theorem q4a {p:PaT} (h:(symV p).2=0):(chkV p).2=0/\(symV p).1=symF p.2.2.2:=by
 unfold symV at h |-;split at h
 ·rename_i q;rw[if_pos q];exact ⟨q,rfl⟩
 ·rename_i q;exact absurd h q
theorem qsk {p:PaT} (h:(symV p).2=0):(∀ s∈(symV p).1,sOK p.2.1 s=true)/\(0<=p.2.1/\p.2.1<=65536)/\((symV p).1.length:Int)=p.2.2.1:=by
 obtain ⟨h1,h2⟩:=q4a h;obtain ⟨hr,hs,ho,hl⟩:=qk3 h1;have hi:=q6r h1;rw[h2];exact ⟨q39 hi.1 (by omega) hr,hi,by rw[qfs hr,hs]⟩
abbrev nfP (li:Bool) (m:Int) (s:List SyT):PaT:=(li,m,(s.length:Int),chL s)
theorem nf_ok {s:List SyT} {m:Int} (li:Bool) (hr:∀ x∈s,sOK m x=true) (h0:0<=m) (h1:m<=65536) (hl:s.length<=4096):(chkV (nfP li m s)).2=0/\symF (chL s)=s/\symV (nfP li m s)=(s,0):=by
 obtain ⟨q1,q2,q3,q4,q5,q6⟩:=q15 hr h0 h1 hl;have q6:(chkV (nfP li m s)).2=0:=q6;refine ⟨q6,q2,?_⟩;unfold symV;rw[if_pos q6];exact Prod.ext q2 rfl
end Go.Proofs.YtnmkfdgnenkhpaaDoor
