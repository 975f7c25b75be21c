/-
  A part of the proof: what pieces of the program give; conditions: those of each theorem.
-/
import Derived.Test.YtdlnmlepljepjaaQ1
import Derived.Test.YtdlnmlepljepjaaHD
set_option linter.unusedVariables false
set_option linter.unusedSimpArgs false
namespace Go.Proofs.Ytdlnmlepljepjaa
open Go.Px Go.Ax
open Go.IntKind(i64 u32 u8)
set_option maxRecDepth 100000
def CL:CV:=[(14,.inl ctSan),(17,.inl ctEncF),(19,.inl ctDecF),(18,.inl qya),(15,.inl ctLim)]
set_option maxRecDepth 100000
theorem q0v (n c:Int) (b:List Int) (Q:List SV->Prop) (R:List Item->PS->Prop):sA CL Try.f9 (λ rs _=>Q rs) (λ it S=>R it (qa3 [7,13,14] [] S)) [.code (qak Try.f9)] (entry [.int .u16,uB,.sl uB] (n,c,b,())) =
  (ctSan.pre ()/\(300:Int)≠0/\(0:Int)<=i64.wrap (n.tmod (300:Int))/\i64.wrap (n.tmod (300:Int))<=i64.wrap (n.tmod (300:Int))/\i64.wrap (n.tmod (300:Int))<2 ^ 24/\(↑(1:Nat):Int)*i64.wrap (n.tmod (300:Int))<=2 ^ 48/\(0:Nat)+1<=((List.replicate (1:Nat) uB.dflt).set (0:Nat) c).length/\(i64.wrap (n.tmod (300:Int))).toNat=(List.replicate (i64.wrap (n.tmod (300:Int))).toNat uB.dflt).length/\(0:Nat)=(0:Nat)/\(i64.wrap (n.tmod (300:Int))).toNat+[c].length<2 ^ 30/\(1:Nat)<=2 ^ 10/\(0:Nat)+((i64.wrap (n.tmod (300:Int))).toNat+[c].length)<=(List.replicate (i64.wrap (n.tmod (300:Int))).toNat uB.dflt++[c]).length/\(0:Nat)+((i64.wrap (n.tmod (300:Int))).toNat+[c].length)<=(List.replicate (i64.wrap (n.tmod (300:Int))).toNat uB.dflt++[c]).length/\(0:Nat)+((i64.wrap (n.tmod (300:Int))).toNat+[c].length)<=(List.replicate (i64.wrap (n.tmod (300:Int))).toNat uB.dflt++[c]).length/\ctEncF.pre ((1:Int),winL uB 0 ((i64.wrap (n.tmod (300:Int))).toNat+[c].length) (List.replicate (i64.wrap (n.tmod (300:Int))).toNat uB.dflt++[c]),())/\ctEncF.pre ((2:Int),winL uB 0 ((i64.wrap (n.tmod (300:Int))).toNat+[c].length) (List.replicate (i64.wrap (n.tmod (300:Int))).toNat uB.dflt++[c]),())/\bc (decide ((cA (1:Int) (winL uB 0 ((i64.wrap (n.tmod (300:Int))).toNat+[c].length) (List.replicate (i64.wrap (n.tmod (300:Int))).toNat uB.dflt++[c]))).2≠0)) (true=true/\true=true/\Q [.bool false]) (bc (decide ((cA (2:Int) (winL uB 0 ((i64.wrap (n.tmod (300:Int))).toNat+[c].length) (List.replicate (i64.wrap (n.tmod (300:Int))).toNat uB.dflt++[c]))).2≠0)) (true=true/\Q [.bool false]) (bc (decide (List.map toB (cA (1:Int) (winL uB 0 ((i64.wrap (n.tmod (300:Int))).toNat+[c].length) (List.replicate (i64.wrap (n.tmod (300:Int))).toNat uB.dflt++[c]))).1≠List.map toB (cA (2:Int) (winL uB 0 ((i64.wrap (n.tmod (300:Int))).toNat+[c].length) (List.replicate (i64.wrap (n.tmod (300:Int))).toNat uB.dflt++[c]))).1)) (Q [.bool false]) (ctLim.pre (b,(300:Int),())/\R (hd Try.f9 0) { env:=[(7,.bool true),(13,.sl uB (List.take (Int.toNat (300:Int)) b)),(14,.i (-1:Int))],blk:=[] })))):=by kernel_rfl
theorem qsk (y:List Int) (m:Int) (Q:List SV->Prop) (R:List Item->PS->Prop):sA CL Try.f9 (λ rs _=>Q rs) (λ it S=>R it (qa3 [7,13,14] [] S)) (hd Try.f9 0) ⟨[(7,.bool true),(13,.sl uB y),(14,.i m)],[]⟩ =
  (bc (decide (m<5)) (ctEncF.pre (m,y,())/\ctDecF.pre (m,(cA m y).1,(y.length:Int),())/\bc (decide ((0:Int)<=m)) (bc (!decide ((cA m y).2=(0:Int)) == bif true then decide (m<3) else false) (true=true/\true=true/\true=true/\Q [.bool false]) (bc (!decide ((decA m (cA m y).1 (y.length:Int)).2=(0:Int)) == bif true then decide (m<3) else false) (true=true/\true=true/\Q [.bool false]) (bc (bif true then decide (m<3) else false) (bc (bif true then decide (List.map toB (decA m (cA m y).1 (y.length:Int)).1≠List.map toB y) else false) (true=true/\Q [.bool false]) (bc (!bif true then decide (m<3) else false) (bc (decide ((cA m y).2≠130)) (true=true/\Q [.bool false]) (bc (bif true then decide ((decA m (cA m y).1 (y.length:Int)).2≠130) else false) (Q [.bool false]) (R (hd Try.f9 0) { env:=[(7,.bool true),(13,.sl uB y),(14,.i (i64.wrap (m+1)))],blk:=[] }))) (false=false/\R (hd Try.f9 0) { env:=[(7,.bool true),(13,.sl uB y),(14,.i (i64.wrap (m+1)))],blk:=[] }))) (false=false/\bc (!bif true then decide (m<3) else false) (bc (decide ((cA m y).2≠130)) (true=true/\Q [.bool false]) (bc (bif true then decide ((decA m (cA m y).1 (y.length:Int)).2≠130) else false) (Q [.bool false]) (R (hd Try.f9 0) { env:=[(7,.bool true),(13,.sl uB y),(14,.i (i64.wrap (m+1)))],blk:=[] }))) (false=false/\R (hd Try.f9 0) { env:=[(7,.bool true),(13,.sl uB y),(14,.i (i64.wrap (m+1)))],blk:=[] }))))) (false=false/\bc (!decide ((cA m y).2=(0:Int)) == false) (true=true/\true=true/\true=true/\Q [.bool false]) (bc (!decide ((decA m (cA m y).1 (y.length:Int)).2=(0:Int)) == false) (true=true/\true=true/\Q [.bool false]) (false=false/\bc (decide ((cA m y).2≠130)) (true=true/\Q [.bool false]) (bc (bif true then decide ((decA m (cA m y).1 (y.length:Int)).2≠130) else false) (Q [.bool false]) (R (hd Try.f9 0) { env:=[(7,.bool true),(13,.sl uB y),(14,.i (i64.wrap (m+1)))],blk:=[] })))))) (Q [.bool true])):=by kernel_rfl
theorem q2f (g:Nat):∀ (xs:List Int),byL xs->∀ (D:Nat->Tb) (z:Nat) (l:List Int) (lo w:Int),DOK D->WI l lo w->(eG g xs D z l lo w).1.length<=l.length+4*xs.length:=by
 intro xs
 induction xs with
 | nil=>intro _ D z l lo w _ _;exact Nat.le_refl _
 | cons y xs ih=>
  intro hy D z l lo w hD hW;obtain ⟨x,rfl⟩:=Int.eq_ofNat_of_zero_le (hy y (List.mem_cons_self ..)).1;have hx:=(hy x (List.mem_cons_self ..)).2;obtain ⟨s1,s,s2,s3,_⟩:=qlz (b:=[]) (λ _ h=>by cases h) hW (hD (atD g z)) (x:=x) (by omega);rw[eG];have:=ih (λ a ha=>hy a (List.mem_cons_of_mem _ ha)) (nxD g D z x) (x:Int).toNat _ _ _ (qq0 hD z (by omega)) s1;rw[List.length_cons];omega
theorem q0c (g:Nat) {b:List Int} (hb:byL b):(qdx g b).length<=4*b.length+4:=by
 have h:=(qu1 g hb).2.2.1;have:=q2f g b hb D0 0 [] 0 4294967295 qz3 wi_0;rw[List.length_nil] at this;omega
theorem q0h {m:Int} (h0:0<=m) (h2:m<=2) {b:List Int} (h6:b.length<=65536):cA m b=(qdx m.toNat b,0):=by
 unfold cA;rw[q16 h0 h2,decide_eq_false (by omega)]
theorem cA_no {m:Int} (h:¬ (0<=m/\m<=2)) (b:List Int):cA m b=([],130):=by
 unfold cA;rw[qwc h]
theorem qz5 {m:Int} (h0:0<=m) (h2:m<=2) (b:List Int) (n:Int):decA m b n=decG m.toNat b n:=by
 unfold decA;rw[q16 h0 h2]
theorem qz6 {m:Int} (h:¬ (0<=m/\m<=2)) (b:List Int) (n:Int):decA m b n=([],130):=by
 unfold decA;rw[qwc h]
theorem de_en {m:Int} (h0:0<=m) (h2:m<=2) {b:List Int} (hb:byL b) (h6:b.length<=65536):decA m (qdx m.toNat b) b.length=(b,0):=by
 rw[qz5 h0 h2];exact qz4 _ hb h6
theorem q0s {L:List Int} {n:Nat} (h:n=L.length):winL uB 0 n L=L:=by subst h;exact List.take_length
theorem q2l {a b:List Int} (ha:byL a) (hb:byL b):byL (a++b):=λ x hx=>(List.mem_append.1 hx).elim (ha x) (hb x)
theorem q0i {a:List Int} (ha:byL a) (n:Nat):byL (a.take n):=λ x hx=>ha x (List.mem_of_mem_take hx)
theorem by_1 {c:Int} (h:0<=c/\c<256):byL [c]:=λ x hx=>by rw[List.mem_singleton.1 hx];exact h
attribute [local irreducible] Go.Px.sy Go.Px.syE
theorem cxL:CxOK Try.prog tt G0 CL:=((((cx0.k qv6 (fn:=Try.f15)).k qs5 (fn:=Try.f18)).k qux (fn:=Try.f19)).k qur (fn:=Try.f17)).k qvr (fn:=Try.f14)
def isT:List SV->Prop:=λ rs=>rs=[.bool true]
abbrev GL (f:Nat) (fn:Func) (it:List Item) (S:PS):Prop:=Px.Good Try.prog tt G0 f fn.ntmps fn.results.toList (λ rs _=>isT rs) it S
theorem q1s {ct:Ctr} {x:DL ct.args} {rs:List SV} {blk:List (Nat × LB)} (ho:ct.out x=[.bool true]) (hr:ct.rows x=[]) (h:isT rs):QC ct x rs blk:=by
 have h:rs=[.bool true]:=h;subst h;exact QC.flat ho hr rfl
theorem no_t {p:Prop} [Decidable p] {q:Prop} (hp:¬ p) (h:decide p=true):q:=absurd (of_decide_eq_true h) hp
theorem no_f {p:Prop} [Decidable p] {q:Prop} (hp:p) (h:decide p=false):q:=absurd hp (of_decide_eq_false h)
theorem eG_12 (c:Int):∀ (n:Nat) (D:Nat->Tb) (l:List Int) (lo w:Int),eG 1 (List.replicate n 0++[c]) D 0 l lo w=eG 2 (List.replicate n 0++[c]) D 0 l lo w:=by
 intro n
 induction n with
 | zero=>intro D l lo w;rfl
 | succ n ih=>
  intro D l lo w;rw[List.replicate_succ,List.cons_append,eG,eG];exact ih _ _ _ _
theorem q0b (c:Int) (n:Nat):qdx 1 (List.replicate n 0++[c])=qdx 2 (List.replicate n 0++[c]):=by
 unfold qdx outG;rw[eG_12]
theorem qvm {y:List Int} (hb:byL y) (hl:y.length<=300):∀ (k:Nat) (m:Int),5-m=k -> -1<=m ->
  GL 9 Try.f9 (hd Try.f9 0) ⟨[(7,.bool true),(13,.sl uB y),(14,.i m)],[]⟩:=by
 intro k
 induction k with
 | zero=>
  intro m hk h0;refine qaj cxL (qsk y m _ _) (qau (no_t (by omega)) λ _=>?_);rfl
 | succ k ih=>
  intro m hk h0;have nx:=ih (m+1) (by omega) (by omega);refine qaj cxL (qsk y m _ _) (qau (λ _=>?_) (no_f (by omega)));rw[IntWalk.i64_in (m+1) (by omega)];by_cases hm:0<=m/\m<=2
  ·have cl:=q0c m.toNat hb;rw[q0h hm.1 hm.2 (show y.length<=65536 by omega),decide_eq_true (show m<3 by omega)];have e:=de_en hm.1 hm.2 hb (by omega);refine ⟨hb,(show (qdx m.toNat y).length<1099511627776 by omega),qau (λ _=>?_) (no_f hm.1)⟩
   show bc (!decide ((0:Int)=0) == true) _ (bc (!decide ((decA m (qdx m.toNat y) (y.length:Int)).2=0) == true) _ (bc true (bc (decide (List.map toB (decA m (qdx m.toNat y) (y.length:Int)).1≠List.map toB y)) _ (bc false _ (_/\_))) _))
   rw[e,decide_eq_true rfl];exact qau (λ h=>by cases h) λ _=>qau (λ h=>by cases h) λ _=>qau (λ _=>qau (no_t λ q=>q rfl) λ _=>qau (λ h=>by cases h) λ _=>⟨rfl,nx⟩) (λ h=>by cases h)
  ·rw[cA_no hm];refine ⟨hb,(by decide:(0:Nat)<1099511627776),?_⟩
   show bc (decide ((0:Int)<=m)) (bc (!decide ((130:Int)=0) == decide (m<3)) _ (bc (!decide ((decA m [] (y.length:Int)).2=0) == decide (m<3)) _ (bc (decide (m<3)) _ (_/\bc (!decide (m<3)) (bc (decide ((130:Int)≠130)) _ (bc (decide ((decA m [] (y.length:Int)).2≠130)) _ _)) _)))) (_/\bc (!decide ((130:Int)=0) == false) _ (bc (!decide ((decA m [] (y.length:Int)).2=0) == false) _ (_/\bc (decide ((130:Int)≠130)) _ (bc (decide ((decA m [] (y.length:Int)).2≠130)) _ _))))
   rw[qz6 hm];refine qau (λ h=>?_) (λ _=>⟨rfl,qau (λ h=>by cases h) λ _=>qau (λ h=>by cases h) λ _=>⟨rfl,qau (no_t λ q=>q rfl) λ _=>qau (no_t λ q=>q rfl) λ _=>nx⟩⟩);have h:0<=m:=of_decide_eq_true h;rw[decide_eq_false (show ¬ m<3 by omega)];exact qau (λ h=>by cases h) λ _=>qau (λ h=>by cases h) λ _=>qau (λ h=>by cases h) λ _=>⟨rfl,qau (λ _=>qau (no_t λ q=>q rfl) λ _=>qau (no_t λ q=>q rfl) λ _=>nx) (λ h=>by cases h)⟩
def q1u:(x:DL [Sh.int .u16,uB,.sl uB])->Prop:=λ x=>(0<=x.1/\(show Int from x.1)<65536)/\(0<=x.2.1/\(show Int from x.2.1)<256)/\byL x.2.2.1
def q2i:Ctr:=⟨[.int .u16,uB,.sl uB],q1u,λ _=>[.bool true],λ _=>[]⟩
theorem qyv (n c:Int) (b:List Int) (hn:0<=n/\n<65536) (hc:0<=c/\c<256) (hb:byL b):GL 9 Try.f9 [.code (qak Try.f9)] (entry [.int .u16,uB,.sl uB] (n,c,b,())):=by
 refine qaj cxL (q0v n c b _ _) ?_;have en:IntKind.i64.wrap (n.tmod 300)=((n.toNat % 300:Nat):Int):=by
  rw[Int.tmod_eq_emod_of_nonneg hn.1,IntWalk.i64_in _ (by omega)];omega
 have hN:n.toNat % 300<300:=by omega
 rw[en,Int.toNat_natCast];generalize n.toNat % 300=N at *;have el:(List.replicate N (0:Int)).length=N:=List.length_replicate;have eL:(List.replicate N (0:Int)++[c]).length=N+1:=by rw[List.length_append,el];rfl
 have ew:winL uB 0 (N+[c].length) (List.replicate N (0:Int)++[c])=List.replicate N 0++[c]:=q0s eL.symm;have hx:byL (List.replicate N 0++[c]):=q2l (qu4 N) (by_1 hc);have e1:cA 1 (List.replicate N 0++[c])=(qdx 1 (List.replicate N 0++[c]),0):=q0h (by decide) (by decide) (by omega);have e2:cA 2 (List.replicate N 0++[c])=(qdx 1 (List.replicate N 0++[c]),0):=by rw[q0b];exact q0h (by decide) (by decide) (by omega)
 have e3:[c].length=1:=rfl;have ed:uB.dflt=(0:Int):=rfl;rw[ed,ew,e1,e2,el,eL,e3];exact ⟨trivial,by decide,by omega,Int.le_refl _,by omega,by omega,Nat.le_refl _,rfl,rfl,by omega,by decide,by omega,by omega,by omega,hx,hx,qau (no_t λ q=>q rfl) λ _=>qau (no_t λ q=>q rfl) λ _=>qau (no_t λ q=>q rfl) λ _=>⟨(by decide:(0:Int)<=300),qvm (q0i hb _) (by rw[List.length_take];exact Nat.min_le_left _ _) 6 (-1) rfl (by decide)⟩⟩
theorem qyw:Held Try.prog G0 9 q2i:=Held.of cxL (fn:=Try.f9) rfl rfl ⟨by decide,by decide⟩ λ ⟨n,c,b,_⟩ hp=>by
 obtain ⟨hn,hc,hb⟩:(0<=n/\(show Int from n)<65536)/\(0<=c/\(show Int from c)<256)/\byL b:=hp;exact (qyv n c b hn hc hb).post λ rs blk h=>q1s rfl rfl h
theorem hG:Glob G0.raw:=⟨λ g x h=>by simp[G0,T.get] at h,λ g x h=>by simp[G0,T.get] at h⟩
abbrev H0:AHeap:=⟨qks,G0.raw⟩
theorem q1c {n:Int} (h:(Lit.int .u8 n).wf=true):0<=n/\n<256:=by
 have:=Go.bounds_u8 h;exact ⟨this.1,by omega⟩
theorem q1d {n:Int} (h:(Lit.int .u16 n).wf=true):0<=n/\n<65536:=by
 have:=Go.bounds_u16 h;exact ⟨this.1,by omega⟩
theorem by_wf {l:List Int} (h:wfD (.sl uB) l):byL l:=λ x hx=>q1c (h.2 x hx)
end Go.Proofs.Ytdlnmlepljepjaa
