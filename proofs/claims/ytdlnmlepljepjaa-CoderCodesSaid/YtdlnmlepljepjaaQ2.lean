/-
  A part of the proof: what pieces of the program give; conditions: those of each theorem.
-/
import Derived.Test.YtdlnmlepljepjaaQ1
import Derived.Test.YtdlnmlepljepjaaHD
set_option linter.unusedVariables false
set_option linter.unusedSimpArgs false
namespace Go.Proofs.Ytdlnmlepljepjaa
open Go.Px Go.Ax
open Go.IntKind(i64 u32 u8)
set_option maxRecDepth 100000
def CL:CV:=[(14,.inl ctSan),(17,.inl ctEncF),(19,.inl ctDecF),(18,.inl qx9),(15,.inl ctLim)]
set_option maxRecDepth 100000
theorem q05 (raw b:List Int) (n:Int) (Q:List SV->Prop) (R:List Item->PS->Prop):sA CL Try.f5 (λ rs _=>Q rs) (λ it S=>R it (qa2 [2,7,8,9,10] [] S)) [.code (qak Try.f5)] (entry [.sl uB,.sl uB,uB] (raw,b,n,())) =
  (ctSan.pre ()/\ctLim.pre (raw,(60:Int),())/\ctLim.pre (b,(60:Int),())/\R (hd Try.f5 0) { env:=[(2,.u n),(7,.bool true),(8,.sl uB (List.take (Int.toNat (60:Int)) raw)),(9,.sl uB (List.take (Int.toNat (60:Int)) b)),(10,.i (0:Int))],blk:=[] }):=by kernel_rfl
theorem qsq (y x:List Int) (n m:Int) (Q:List SV->Prop) (R:List Item->PS->Prop):sA CL Try.f5 (λ rs _=>Q rs) (λ it S=>R it (qa2 [2,7,8,9,10] [] S)) (hd Try.f5 0) ⟨[(2,.u n),(7,.bool true),(8,.sl uB y),(9,.sl uB x),(10,.i m)],[]⟩ =
  (bc (decide (m<3)) ((101:Int)≠0/\ctDecF.pre (m,y,i64.wrap (n.tmod (101:Int)),())/\bc (decide ((decA m y (i64.wrap (n.tmod (101:Int)))).2=(0:Int))) (ctEncF.pre (m,(decA m y (i64.wrap (n.tmod (101:Int)))).1,())/\bc (decide ((cA m (decA m y (i64.wrap (n.tmod (101:Int)))).1).2≠0)) (true=true/\true=true/\Q [.bool false]) ((101:Int)≠0/\bc (decide ((↑(decA m y (i64.wrap (n.tmod (101:Int)))).1.length:Int)≠i64.wrap (n.tmod (101:Int)))) (true=true/\Q [.bool false]) (bc (decide (List.map toB (cA m (decA m y (i64.wrap (n.tmod (101:Int)))).1).1≠List.map toB y)) (Q [.bool false]) (ctEncF.pre (m,x,())/\(0:Nat)=(List.replicate (0:Nat) uB.dflt).length/\(0:Nat)=(0:Nat)/\(0:Nat)+(cA m x).1.length<2 ^ 30/\(1:Nat)<=2 ^ 10/\(0:Nat)+1<=((List.replicate (1:Nat) uB.dflt).set (0:Nat) (0:Int)).length/\(0:Nat)+(cA m x).1.length=((cA m x).1).length/\(0:Nat)=(0:Nat)/\(0:Nat)+(cA m x).1.length+[(0:Int)].length<2 ^ 30/\(1:Nat)<=2 ^ 10/\(0:Nat)+((0:Nat)+(cA m x).1.length+[(0:Int)].length)<=((cA m x).1++winL uB 0 1 ((List.replicate (1:Nat) uB.dflt).set (0:Nat) (0:Int))).length/\ctDecF.pre (m,winL uB 0 ((0:Nat)+(cA m x).1.length+[(0:Int)].length) ((cA m x).1++winL uB 0 1 ((List.replicate (1:Nat) uB.dflt).set (0:Nat) (0:Int))),(x.length:Int),())/\bc (decide ((cA m x).2≠0)) (true=true/\Q [.bool false]) (bc (decide ((decA m (winL uB 0 ((0:Nat)+(cA m x).1.length+[(0:Int)].length) ((cA m x).1++winL uB 0 1 ((List.replicate (1:Nat) uB.dflt).set (0:Nat) (0:Int)))) (x.length:Int)).2≠130)) (Q [.bool false]) (R (hd Try.f5 0) { env:=[(2,.u n),(7,.bool true),(8,.sl uB y),(9,.sl uB x),(10,.i (i64.wrap (m+1)))],blk:=[] })))))) (bc (decide ((decA m y (i64.wrap (n.tmod (101:Int)))).2≠130)) (true=true/\Q [.bool false]) (bc (decide ((↑(decA m y (i64.wrap (n.tmod (101:Int)))).1.length:Int)≠0)) (Q [.bool false]) (ctEncF.pre (m,x,())/\(0:Nat)=(List.replicate (0:Nat) uB.dflt).length/\(0:Nat)=(0:Nat)/\(0:Nat)+(cA m x).1.length<2 ^ 30/\(1:Nat)<=2 ^ 10/\(0:Nat)+1<=((List.replicate (1:Nat) uB.dflt).set (0:Nat) (0:Int)).length/\(0:Nat)+(cA m x).1.length=((cA m x).1).length/\(0:Nat)=(0:Nat)/\(0:Nat)+(cA m x).1.length+[(0:Int)].length<2 ^ 30/\(1:Nat)<=2 ^ 10/\(0:Nat)+((0:Nat)+(cA m x).1.length+[(0:Int)].length)<=((cA m x).1++winL uB 0 1 ((List.replicate (1:Nat) uB.dflt).set (0:Nat) (0:Int))).length/\ctDecF.pre (m,winL uB 0 ((0:Nat)+(cA m x).1.length+[(0:Int)].length) ((cA m x).1++winL uB 0 1 ((List.replicate (1:Nat) uB.dflt).set (0:Nat) (0:Int))),(x.length:Int),())/\bc (decide ((cA m x).2≠0)) (true=true/\Q [.bool false]) (bc (decide ((decA m (winL uB 0 ((0:Nat)+(cA m x).1.length+[(0:Int)].length) ((cA m x).1++winL uB 0 1 ((List.replicate (1:Nat) uB.dflt).set (0:Nat) (0:Int)))) (x.length:Int)).2≠130)) (Q [.bool false]) (R (hd Try.f5 0) { env:=[(2,.u n),(7,.bool true),(8,.sl uB y),(9,.sl uB x),(10,.i (i64.wrap (m+1)))],blk:=[] })))))) (Q [.bool true])):=by kernel_rfl
theorem q2d (g:Nat):∀ (xs:List Int),byL xs->∀ (D:Nat->Tb) (z:Nat) (l:List Int) (lo w:Int),DOK D->WI l lo w->(eG g xs D z l lo w).1.length<=l.length+4*xs.length:=by
 intro xs
 induction xs with
 | nil=>intro _ D z l lo w _ _;exact Nat.le_refl _
 | cons y xs ih=>
  intro hy D z l lo w hD hW;obtain ⟨x,rfl⟩:=Int.eq_ofNat_of_zero_le (hy y (List.mem_cons_self ..)).1;have hx:=(hy x (List.mem_cons_self ..)).2;obtain ⟨s1,s,s2,s3,_⟩:=ql0 (b:=[]) (λ _ h=>by cases h) hW (hD (atD g z)) (x:=x) (by omega);rw[eG];have:=ih (λ a ha=>hy a (List.mem_cons_of_mem _ ha)) (nxD g D z x) (x:Int).toNat _ _ _ (quu hD z (by omega)) s1;rw[List.length_cons];omega
theorem qz9 (g:Nat) {b:List Int} (hb:byL b):(qci g b).length<=4*b.length+4:=by
 have h:=(qmu g hb).2.2.1;have:=q2d g b hb D0 0 [] 0 4294967295 qz3 wi_0;rw[List.length_nil] at this;omega
theorem q2j {m:Int} (h0:0<=m) (h2:m<=2) {b:List Int} (h6:b.length<=65536):cA m b=(qci m.toNat b,0):=by
 unfold cA;rw[q12 h0 h2,decide_eq_false (by omega)]
theorem qz4 {m:Int} (h0:0<=m) (h2:m<=2) (b:List Int) (n:Int):decA m b n=decG m.toNat b n:=by
 unfold decA;rw[q12 h0 h2]
theorem q2c {m:Int} (h0:0<=m) (h2:m<=2) {y:List Int} (hy:byL y) (n:Int):decA m y n=([],130)\/∃ o,decA m y n=(o,0)/\0<=n/\n<=65536/\(o.length:Int)=n/\byL o/\qci m.toNat o=y:=by
 rw[qz4 h0 h2];exact qz0 _ hy
theorem q0p {L:List Int} {n:Nat} (h:n=L.length):winL uB 0 n L=L:=by subst h;exact List.take_length
theorem q2l {a b:List Int} (ha:byL a) (hb:byL b):byL (a++b):=λ x hx=>(List.mem_append.1 hx).elim (ha x) (hb x)
theorem qu3 {a:List Int} (ha:byL a) (n:Nat):byL (a.take n):=λ x hx=>ha x (List.mem_of_mem_take hx)
theorem by_1 {c:Int} (h:0<=c/\c<256):byL [c]:=λ x hx=>by rw[List.mem_singleton.1 hx];exact h
attribute [local irreducible] Go.Px.sy Go.Px.syE
theorem cxL:CxOK Try.prog tt G0 CL:=((((cx0.k qv5 (fn:=Try.f15)).k qs5 (fn:=Try.f18)).k qux (fn:=Try.f19)).k qup (fn:=Try.f17)).k qvq (fn:=Try.f14)
def isT:List SV->Prop:=λ rs=>rs=[.bool true]
abbrev GL (f:Nat) (fn:Func) (it:List Item) (S:PS):Prop:=Px.Good Try.prog tt G0 f fn.ntmps fn.results.toList (λ rs _=>isT rs) it S
theorem q1o {ct:Ctr} {x:DL ct.args} {rs:List SV} {blk:List (Nat × LB)} (ho:ct.out x=[.bool true]) (hr:ct.rows x=[]) (h:isT rs):QC ct x rs blk:=by
 have h:rs=[.bool true]:=h;subst h;exact QC.flat ho hr rfl
theorem no_t {p:Prop} [Decidable p] {q:Prop} (hp:¬ p) (h:decide p=true):q:=absurd (of_decide_eq_true h) hp
theorem no_f {p:Prop} [Decidable p] {q:Prop} (hp:p) (h:decide p=false):q:=absurd hp (of_decide_eq_false h)
theorem qzw (l:List Int):ezV (l++[0])=true:=by
 unfold ezV;rw[List.length_append,decide_eq_true (show 0<l.length+[(0:Int)].length by exact Nat.succ_pos _)]
 show (true&&decide (gtB (l++[0]) (l.length+1-1)=0))=true
 rw[Nat.add_sub_cancel,qt8];rfl
theorem qwr {y x:List Int} (hy:byL y) (hyl:y.length<=60) (hb:byL x) (hl:x.length<=60) {n:Int} (hn:0<=n/\n<256):∀ (k:Nat) (m:Int),3-m=k->0<=m ->
  GL 5 Try.f5 (hd Try.f5 0) ⟨[(2,.u n),(7,.bool true),(8,.sl uB y),(9,.sl uB x),(10,.i m)],[]⟩:=by
 intro k
 induction k with
 | zero=>
  intro m hk h0;refine qaj cxL (qsq y x n m _ _) (qa7 (no_t (by omega)) λ _=>?_);rfl
 | succ k ih=>
  intro m hk h0;have nx:=ih (m+1) (by omega) (by omega);refine qaj cxL (qsq y x n m _ _) (qa7 (λ _=>?_) (no_f (by omega)));have en:IntKind.i64.wrap (n.tmod 101)=n % 101:=by
   rw[Int.tmod_eq_emod_of_nonneg hn.1,IntWalk.i64_in _ (by omega)]
  have cl:=qz9 m.toNat hb;rw[q2j h0 (by omega) (show x.length<=65536 by omega),IntWalk.i64_in (m+1) (by omega),en];have ew:winL uB 0 (0+(qci m.toNat x).length+[(0:Int)].length) (qci m.toNat x++[0])=qci m.toNat x++[0]:=q0p (by rw[List.length_append,Nat.zero_add]);have ed:decA m (qci m.toNat x++[0]) x.length=([],130):=by
   rcases q2c h0 (by omega) (q2l (qmu m.toNat hb).1 (by_1 (c:=0) ⟨by decide,by decide⟩)) (x.length:Int) with h | ⟨o,_,_,_,_,h1,h2⟩
   ·exact h
   ·have h3:=(qmu m.toNat h1).2.1;rw[h2,qzw] at h3;cases h3
  have rest:ctEncF.pre (m,x,())/\(0:Nat)=(List.replicate (0:Nat) uB.dflt).length/\(0:Nat)=(0:Nat)/\(0:Nat)+(qci m.toNat x).length<(2:Nat) ^ (30:Nat)/\(1:Nat)<=(2:Nat) ^ (10:Nat)/\(0:Nat)+(1:Nat)<=((List.replicate (1:Nat) uB.dflt).set (0:Nat) (0:Int)).length/\   (0:Nat)+(qci m.toNat x).length=(qci m.toNat x).length/\(0:Nat)=(0:Nat)/\(0:Nat)+(qci m.toNat x).length+[(0:Int)].length<(2:Nat) ^ (30:Nat)/\(1:Nat)<=(2:Nat) ^ (10:Nat)/\(0:Nat)+((0:Nat)+(qci m.toNat x).length+[(0:Int)].length)<=(qci m.toNat x++[(0:Int)]).length/\   ctDecF.pre (m,winL uB (0:Nat) ((0:Nat)+(qci m.toNat x).length+[(0:Int)].length) (qci m.toNat x++[(0:Int)]),(x.length:Int),())/\   bc (decide ((0:Int)≠0)) (true=true/\isT [SV.bool false]) (bc (decide ((decA m (winL uB (0:Nat) ((0:Nat)+(qci m.toNat x).length+[(0:Int)].length) (qci m.toNat x++[(0:Int)])) (x.length:Int)).2≠130)) (isT [SV.bool false]) (GL 5 Try.f5 (hd Try.f5 0) ⟨[(2,.u n),(7,.bool true),(8,.sl uB y),(9,.sl uB x),(10,.i (m+1))],[]⟩)):=by
   rw[ew,ed];have el:[(0:Int)].length=1:=rfl;have e2:(qci m.toNat x++[(0:Int)]).length=(qci m.toNat x).length+1:=List.length_append;rw[el,e2];refine ⟨hb,rfl,rfl,by omega,by decide,by decide,by omega,rfl,by omega,by decide,by omega,?_,qa7 (no_t λ q=>q rfl) λ _=>qa7 (no_t λ q=>q rfl) λ _=>nx⟩
   show (qci m.toNat x++[(0:Int)]).length<1099511627776
   rw[e2];omega
  refine ⟨by decide,(show y.length<1099511627776 by omega),?_⟩;rcases q2c h0 (by omega) hy (n % 101) with h | ⟨o,e1,o1,o2,o3,o4,o5⟩
  ·rw[h];exact qa7 (no_t (show ¬ (130:Int)=0 by decide)) λ _=>qa7 (no_t λ q=>q rfl) λ _=>qa7 (no_t λ q=>q rfl) λ _=>rest
  ·rw[e1]
   show bc (decide ((0:Int)=0)) (ctEncF.pre (m,o,())/\bc (decide ((cA m o).2≠0)) _ ((101:Int)≠0/\bc (decide ((o.length:Int)≠n % 101)) _ (bc (decide (List.map toB (cA m o).1≠List.map toB y)) _ _))) _
   rw[q2j h0 (by omega) (show o.length<=65536 by omega),o5];exact qa7 (λ _=>⟨o4,qa7 (no_t λ q=>q rfl) λ _=>⟨by decide,qa7 (no_t λ q=>q o3) λ _=>qa7 (no_t λ q=>q rfl) λ _=>rest⟩⟩) (no_f rfl)
def q1q:(x:DL [Sh.sl uB,Sh.sl uB,uB])->Prop:=λ x=>byL x.1/\byL x.2.1/\(0<=x.2.2.1/\(show Int from x.2.2.1)<256)
def q2g:Ctr:=⟨[.sl uB,.sl uB,uB],q1q,λ _=>[.bool true],λ _=>[]⟩
theorem q0a:Held Try.prog G0 5 q2g:=Held.of cxL (fn:=Try.f5) rfl rfl ⟨by decide,by decide⟩ λ ⟨r,b,t,_⟩ hp=>by
 obtain ⟨hr,hb,ht⟩:byL r/\byL b/\(0<=t/\(show Int from t)<256):=hp;have g:GL 5 Try.f5 [.code (qak Try.f5)] (entry [.sl uB,.sl uB,uB] (r,b,t,())):=qaj cxL (q05 r b t _ _) ⟨trivial,(by decide:(0:Int)<=60),(by decide:(0:Int)<=60),qwr (qu3 hr _) (by rw[List.length_take];exact Nat.min_le_left _ _) (qu3 hb _) (by rw[List.length_take];exact Nat.min_le_left _ _) ht 3 0 rfl (by decide)⟩;exact g.post λ rs blk h=>q1o rfl rfl h
theorem hG:Glob G0.raw:=⟨λ g x h=>by simp[G0,T.get] at h,λ g x h=>by simp[G0,T.get] at h⟩
abbrev H0:AHeap:=⟨qks,G0.raw⟩
theorem q09 {n:Int} (h:(Lit.int .u8 n).wf=true):0<=n/\n<256:=by
 have:=Go.bounds_u8 h;exact ⟨this.1,by omega⟩
theorem q2k {l:List Int} (h:wfD (.sl uB) l):byL l:=λ x hx=>q09 (h.2 x hx)
end Go.Proofs.Ytdlnmlepljepjaa
