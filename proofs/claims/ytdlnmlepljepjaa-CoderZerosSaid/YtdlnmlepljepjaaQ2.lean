/-
  A part of the proof: what pieces of the program give; conditions: those of each theorem.
-/
import Derived.Test.YtdlnmlepljepjaaQ1
import Derived.Test.YtdlnmlepljepjaaHD
set_option linter.unusedVariables false
set_option linter.unusedSimpArgs false
namespace Go.Proofs.Ytdlnmlepljepjaa
open Go.Px Go.Ax
open Go.IntKind(i64 u32 u8)
set_option maxRecDepth 100000
def CL:CV:=[(14,.inl ctSan),(17,.inl ctEncF),(19,.inl ctDecF),(18,.inl qyg),(15,.inl q0h)]
set_option maxRecDepth 100000
theorem q0w (n at_ c:Int) (Q:List SV->Prop) (R:List Item->PS->Prop):sA CL Try.f8 (λ rs _=>Q rs) (λ it S=>R it (qa2 [1,2,7,8,9] [21] S)) [.code (qak Try.f8)] (entry [.int .u16,.int .u16,uB] (n,at_,c,())) =
  (ctSan.pre ()/\(1001:Int)≠0/\(0:Int)<=i64.wrap (n.tmod (1001:Int))/\i64.wrap (n.tmod (1001:Int))<=i64.wrap (n.tmod (1001:Int))/\i64.wrap (n.tmod (1001:Int))<2 ^ 24/\(↑(1:Nat):Int)*i64.wrap (n.tmod (1001:Int))<=2 ^ 48/\R (hd Try.f8 0) { env:=[(1,.int .u16 at_),(2,.u c),(7,.bool true),(8,.win true uB 21 0 (i64.wrap (n.tmod (1001:Int))).toNat),(9,.i (0:Int))],blk:=[(21,.row 5 uB (List.replicate (i64.wrap (n.tmod (1001:Int))).toNat uB.dflt))] }):=by kernel_rfl
theorem qsk (x:List Int) (n at_ c m:Int) (Q:List SV->Prop) (R:List Item->PS->Prop):sA CL Try.f8 (λ rs _=>Q rs) (λ it S=>R it (qa2 [1,2,7,8,9] [21] S)) (hd Try.f8 0) ⟨[(1,.int .u16 at_),(2,.u c),(7,.bool true),(8,.sl uB x),(9,.i m)],[]⟩ =
  (bc (decide (m<3)) (ctEncF.pre (m,x,())/\ctDecF.pre (m,[],(x.length:Int),())/\bc (decide ((cA m x).2≠0)) (true=true/\true=true/\true=true/\Q [.bool false]) (bc (decide ((↑(cA m x).1.length:Int)≠0)) (true=true/\true=true/\Q [.bool false]) (bc (decide ((decA m [] (x.length:Int)).2≠0)) (true=true/\Q [.bool false]) (bc (decide (List.map toB (decA m [] (x.length:Int)).1≠List.map toB x)) (Q [.bool false]) (bc (decide ((x.length:Int)=(0:Int))) (true=true/\R (hd Try.f8 0) { env:=[(1,.int .u16 at_),(2,.u c),(7,.bool true),(8,.sl uB x),(9,.i (i64.wrap (m+1)))],blk:=[] }) (bc (decide (c=(0:Int))) (R (hd Try.f8 0) { env:=[(1,.int .u16 at_),(2,.u c),(7,.bool true),(8,.sl uB x),(9,.i (i64.wrap (m+1)))],blk:=[] }) ((0:Nat)=(List.replicate (0:Nat) uB.dflt).length/\(0:Nat)=(0:Nat)/\(0:Nat)+x.length<2 ^ 30/\(1:Nat)<=2 ^ 10/\(x.length:Int)≠0/\(0:Int)<=(i64.wrap at_).tmod (x.length:Int)/\(i64.wrap at_).tmod (x.length:Int)<(↑((0:Nat)+x.length):Int)/\(0:Nat)+((i64.wrap at_).tmod (x.length:Int)).toNat<(x).length/\(0:Nat)+((0:Nat)+x.length)<=((x).set ((0:Nat)+((i64.wrap at_).tmod (x.length:Int)).toNat) c).length/\(0:Nat)+((0:Nat)+x.length)<=((x).set ((0:Nat)+((i64.wrap at_).tmod (x.length:Int)).toNat) c).length/\(0:Nat)+((0:Nat)+x.length)<=((x).set ((0:Nat)+((i64.wrap at_).tmod (x.length:Int)).toNat) c).length/\(0:Nat)+((0:Nat)+x.length)<=((x).set ((0:Nat)+((i64.wrap at_).tmod (x.length:Int)).toNat) c).length/\ctEncF.pre (m,winL uB 0 ((0:Nat)+x.length) ((x).set ((0:Nat)+((i64.wrap at_).tmod (x.length:Int)).toNat) c),())/\bc (decide ((cA m (winL uB 0 ((0:Nat)+x.length) ((x).set ((0:Nat)+((i64.wrap at_).tmod (x.length:Int)).toNat) c))).2≠0)) (true=true/\Q [.bool false]) (bc (decide ((↑(cA m (winL uB 0 ((0:Nat)+x.length) ((x).set ((0:Nat)+((i64.wrap at_).tmod (x.length:Int)).toNat) c))).1.length:Int)=(0:Int))) (Q [.bool false]) (R (hd Try.f8 0) { env:=[(1,.int .u16 at_),(2,.u c),(7,.bool true),(8,.sl uB x),(9,.i (i64.wrap (m+1)))],blk:=[] }))))))))) (Q [.bool true])):=by kernel_rfl
theorem q2m {m:Int} (h0:0<=m) (h2:m<=2) {b:List Int} (h6:b.length<=65536):cA m b=(qf3 m.toNat b,0):=by
 unfold cA;rw[q17 h0 h2,decide_eq_false (by omega)]
theorem q0d {m:Int} (h0:0<=m) (h2:m<=2) (b:List Int) (n:Int):decA m b n=decG m.toNat b n:=by
 unfold decA;rw[q17 h0 h2]
theorem q2h {m:Int} (h0:0<=m) (h2:m<=2) {b:List Int} (hb:byL b) (h6:b.length<=65536):decA m (qf3 m.toNat b) b.length=(b,0):=by
 rw[q0d h0 h2];exact q0c _ hb h6
theorem qxf {L:List Int} {n:Nat} (h:n=L.length):winL uB 0 n L=L:=by subst h;exact List.take_length
theorem q2n:byL []:=λ x hx=>by cases hx
attribute [local irreducible] Go.Px.sy Go.Px.syE
theorem cxL:CxOK Try.prog tt G0 CL:=((((cx0.k qv8 (fn:=Try.f15)).k qs8 (fn:=Try.f18)).k quz (fn:=Try.f19)).k qut (fn:=Try.f17)).k qvt (fn:=Try.f14)
def isT:List SV->Prop:=λ rs=>rs=[.bool true]
abbrev GL (f:Nat) (fn:Func) (it:List Item) (S:PS):Prop:=Px.Good Try.prog tt G0 f fn.ntmps fn.results.toList (λ rs _=>isT rs) it S
theorem q1t {ct:Ctr} {x:DL ct.args} {rs:List SV} {blk:List (Nat × LB)} (ho:ct.out x=[.bool true]) (hr:ct.rows x=[]) (h:isT rs):QC ct x rs blk:=by
 have h:rs=[.bool true]:=h;subst h;exact QC.flat ho hr rfl
theorem no_t {p:Prop} [Decidable p] {q:Prop} (hp:¬ p) (h:decide p=true):q:=absurd (of_decide_eq_true h) hp
theorem no_f {p:Prop} [Decidable p] {q:Prop} (hp:p) (h:decide p=false):q:=absurd hp (of_decide_eq_false h)
theorem frzK {f:Nat} {fn:Func} {it:List Item} {S:PS} {i:Nat} {e:Sh} {et:TypeId} {xs:List e.D} (hl:lk S.blk i=some (.row et e xs)) (hc:cdP i xs.length S=[0+xs.length<=xs.length]) (h:GL f fn it (S.frzR i e xs)):GL f fn it S:=
 Good.frz hl (λ c hm=>by rw[hc,List.mem_singleton] at hm;subst hm;omega) h
theorem qz9 (g:Nat):∀ (xs:List Int),(∀ x∈xs,x=0)->∀ (D:Nat->Tb) (z:Nat) (l:List Int) (lo w:Int),DOK D->WI l lo w->nW l lo=0->nW (eG g xs D z l lo w).1 (eG g xs D z l lo w).2.1=0:=by
 intro xs
 induction xs with
 | nil=>intro _ D z l lo w _ _ h;exact h
 | cons y xs ih=>
  intro hy D z l lo w hD hW h;have e:y=((0:Nat):Int):=hy y (List.mem_cons_self ..);subst e;obtain ⟨s1,s,s2,s3,s4,_⟩:=ql0 (b:=[]) (λ _ h=>by cases h) hW (hD (atD g z)) (x:=0) (by decide);rw[eG];refine ih (λ a ha=>hy a (List.mem_cons_of_mem _ ha)) _ _ _ _ _ (qq3 hD z (by decide)) s1 ?_;rw[s4,h]
  show (0+_*sm [])*_=(0:Int)
  rw[show sm []=0 from rfl];simp
theorem qxt:∀ k,pv [] k=0
 | 0=>rfl
 | k+1=>by rw[pv,qxt k];rfl
theorem qn7 (g n:Nat):qf3 g (List.replicate n 0)=[]:=by
 obtain ⟨c1,c2,c3,c4⟩:=qu3 g (qpe n);rw[qz9 g _ (λ x hx=>List.eq_of_mem_replicate hx) D0 0 [] 0 4294967295 q0b wi_0 rfl] at c4;exact no_ez c2 rfl c3 (Nat.zero_le _) (qxu c1 q2n _ (by rw[c4,qxt]))
theorem qvh {N:Nat} (hN:N<=1000) {n a c:Int} (ha:0<=a/\a<65536) (hc:0<=c/\c<256):∀ (k:Nat) (m:Int),3-m=k->0<=m ->
  GL 8 Try.f8 (hd Try.f8 0) ⟨[(1,.int .u16 a),(2,.u c),(7,.bool true),(8,.sl uB (List.replicate N (0:Int))),(9,.i m)],[]⟩:=by
 intro k
 induction k with
 | zero=>
  intro m hk h0;refine qaj cxL (qsk _ n a c m _ _) (qa8 (no_t (by omega)) λ _=>?_);rfl
 | succ k ih=>
  intro m hk h0;have nx:=ih (m+1) (by omega) (by omega);refine qaj cxL (qsk _ n a c m _ _) (qa8 (λ _=>?_) (no_f (by omega)));have el:(List.replicate N (0:Int)).length=N:=List.length_replicate;have hx:=qpe N;have e1:cA m (List.replicate N 0)=([],0):=by rw[q2m h0 (by omega) (by omega),qn7]
  have e2:decA m [] ((List.replicate N (0:Int)).length:Int)=(List.replicate N 0,0):=by
   have:=q2h h0 (by omega) hx (by omega);rw[qn7] at this;exact this
  rw[IntWalk.i64_in (m+1) (by omega)];generalize hX:List.replicate N (0:Int)=X at *;rw[e1,e2];refine ⟨hx,(by decide:(0:Nat)<1099511627776),qa8 (no_t λ q=>q rfl) λ _=>qa8 (no_t λ q=>q rfl) λ _=>qa8 (no_t λ q=>q rfl) λ _=>qa8 (no_t λ q=>q rfl) λ _=>qa8 (λ _=>⟨rfl,nx⟩) λ h0'=>qa8 (λ _=>nx) λ hc0=>?_⟩;have hc0:¬ c=0:=of_decide_eq_false hc0;have hN0:¬ (X.length:Int)=0:=of_decide_eq_false h0';have ea:(IntKind.i64.wrap a).tmod (X.length:Int)=a % (X.length:Int):=by
   rw[IntWalk.i64_in a (by omega),Int.tmod_eq_emod_of_nonneg ha.1]
  have r1:0<=a % (X.length:Int):=Int.emod_nonneg _ hN0;have r2:a % (X.length:Int)<(X.length:Int):=Int.emod_lt_of_pos _ (by omega);obtain ⟨i,hi⟩:=Int.eq_ofNat_of_zero_le r1;rw[ea,hi,Int.toNat_natCast];simp only[Nat.zero_add];have eS:(X.set i c).length=X.length:=List.length_set;have ew:winL uB 0 X.length (X.set i c)=X.set i c:=qxf eS.symm;have hyb:byL (X.set i c):=qu6 hx hc;rw[ew,eS];have e3:cA m (X.set i c)=(qf3 m.toNat (X.set i c),0):=q2m h0 (by omega) (by omega);have e4:qf3 m.toNat (X.set i c)≠[]:=λ q=>by
   have h1:=q2h h0 (by omega) hyb (by omega);rw[q,eS,e2] at h1;have h2:X=X.set i c:=congrArg Prod.fst h1;have h3:gtB X i=gtB (X.set i c) i:=by rw[<- h2]
   rw[qj8,if_pos ⟨rfl,by omega⟩] at h3;have h4:gtB X i=0:=by
    show (X[i]?).getD (0:Int)=0
    rw[<- hX,List.getElem?_replicate];split <;> rfl
   omega
  rw[e3];refine ⟨rfl,trivial,by omega,by decide,hN0,by omega,by omega,by omega,Nat.le_refl _,Nat.le_refl _,Nat.le_refl _,Nat.le_refl _,hyb,qa8 (no_t λ q=>q rfl) λ _=>qa8 (no_t λ q=>?_) λ _=>nx⟩;have q:((qf3 m.toNat (X.set i c)).length:Int)=0:=q;exact e4 (List.eq_nil_of_length_eq_zero (by omega))
def q1v:(x:DL [Sh.int .u16,.int .u16,uB])->Prop:=λ x=>(0<=x.1/\(show Int from x.1)<65536)/\(0<=x.2.1/\(show Int from x.2.1)<65536)/\(0<=x.2.2.1/\(show Int from x.2.2.1)<256)
def q2k:Ctr:=⟨[.int .u16,.int .u16,uB],q1v,λ _=>[.bool true],λ _=>[]⟩
theorem qyn (n a c:Int) (hn:0<=n/\n<65536) (ha:0<=a/\a<65536) (hc:0<=c/\c<256):GL 8 Try.f8 [.code (qak Try.f8)] (entry [.int .u16,.int .u16,uB] (n,a,c,())):=by
 refine qaj cxL (q0w n a c _ _) ?_;have en:IntKind.i64.wrap (n.tmod 1001)=((n.toNat % 1001:Nat):Int):=by
  rw[Int.tmod_eq_emod_of_nonneg hn.1,IntWalk.i64_in _ (by omega)];omega
 have hN:n.toNat % 1001<=1000:=by omega
 rw[en,Int.toNat_natCast];generalize n.toNat % 1001=N at *;refine ⟨trivial,by decide,by omega,Int.le_refl _,by omega,by omega,?_⟩;have el:(List.replicate N (0:Int)).length=N:=List.length_replicate;have ew:winL uB 0 N (List.replicate N (0:Int))=List.replicate N 0:=qxf el.symm;have g:=qvh hN (n:=n) ha hc 3 0 rfl (by decide);refine frzK (i:=21) (e:=uB) (xs:=List.replicate N (0:Int)) rfl ?_ ?_
 ·show [0+N<=(List.replicate N (0:Int)).length]=_
  rw[el]
 ·refine Good.only g ⟨rfl,rfl,rfl,?_,rfl,trivial⟩ trivial
  show some (SV.sl uB (winL uB 0 N (List.replicate N (0:Int))))=_
  rw[ew]
theorem qyo:Held Try.prog G0 8 q2k:=Held.of cxL (fn:=Try.f8) rfl rfl ⟨by decide,by decide⟩ λ ⟨n,a,c,_⟩ hp=>by
 obtain ⟨hn,ha,hc⟩:(0<=n/\(show Int from n)<65536)/\(0<=a/\(show Int from a)<65536)/\(0<=c/\(show Int from c)<256):=hp;exact (qyn n a c hn ha hc).post λ rs blk h=>q1t rfl rfl h
theorem hG:Glob G0.raw:=⟨λ g x h=>by simp[G0,T.get] at h,λ g x h=>by simp[G0,T.get] at h⟩
abbrev H0:AHeap:=⟨qkt,G0.raw⟩
theorem u8_wf {n:Int} (h:(Lit.int .u8 n).wf=true):0<=n/\n<256:=by
 have:=Go.bounds_u8 h;exact ⟨this.1,by omega⟩
theorem qxj {n:Int} (h:(Lit.int .u16 n).wf=true):0<=n/\n<65536:=by
 have:=Go.bounds_u16 h;exact ⟨this.1,by omega⟩
end Go.Proofs.Ytdlnmlepljepjaa
