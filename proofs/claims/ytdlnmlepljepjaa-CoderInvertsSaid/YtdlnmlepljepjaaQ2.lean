/-
  A part of the proof: what pieces of the program give; conditions: those of each theorem.
-/
import Derived.Test.YtdlnmlepljepjaaQ1
import Derived.Test.YtdlnmlepljepjaaHD
set_option linter.unusedVariables false
set_option linter.unusedSimpArgs false
namespace Go.Proofs.Ytdlnmlepljepjaa
open Go.Px Go.Ax
set_option maxRecDepth 100000
theorem q2e (g:Nat):∀ (xs:List Int),byL xs->∀ (D:Nat->Tb) (z:Nat) (l:List Int) (lo w:Int),DOK D->WI l lo w->(eG g xs D z l lo w).1.length<=l.length+4*xs.length:=by
 intro xs
 induction xs with
 | nil=>intro _ D z l lo w _ _;exact Nat.le_refl _
 | cons y xs ih=>
  intro hy D z l lo w hD hW;obtain ⟨x,rfl⟩:=Int.eq_ofNat_of_zero_le (hy y (List.mem_cons_self ..)).1;have hx:=(hy x (List.mem_cons_self ..)).2;obtain ⟨s1,s,s2,s3,_⟩:=qlz (b:=[]) (λ _ h=>by cases h) hW (hD (atD g z)) (x:=x) (by omega);rw[eG];have:=ih (λ a ha=>hy a (List.mem_cons_of_mem _ ha)) (nxD g D z x) (x:Int).toNat _ _ _ (qq3 hD z (by omega)) s1;rw[List.length_cons];omega
theorem q0d (g:Nat) {b:List Int} (hb:byL b):(qfh g b).length<=4*b.length+4:=by
 have h:=(qu5 g hb).2.2.1;have:=q2e g b hb D0 0 [] 0 4294967295 qz6 wi_0;rw[List.length_nil] at this;omega
theorem cA_ok {m:Int} (h0:0<=m) (h2:m<=2) {b:List Int} (h6:b.length<=65536):cA m b=(qfh m.toNat b,0):=by
 unfold cA;rw[q15 h0 h2,decide_eq_false (by omega)]
theorem qz8 {m:Int} (h0:0<=m) (h2:m<=2) (b:List Int) (n:Int):decA m b n=decG m.toNat b n:=by
 unfold decA;rw[q15 h0 h2]
theorem de_en {m:Int} (h0:0<=m) (h2:m<=2) {b:List Int} (hb:byL b) (h6:b.length<=65536):decA m (qfh m.toNat b) b.length=(b,0):=by
 rw[qz8 h0 h2];exact qz7 _ hb h6
theorem qxf {L:List Int} {n:Nat} (h:n=L.length):winL uB 0 n L=L:=by subst h;exact List.take_length
theorem q2k {a b:List Int} (ha:byL a) (hb:byL b):byL (a++b):=λ x hx=>(List.mem_append.1 hx).elim (ha x) (hb x)
theorem q0j {a:List Int} (ha:byL a) (n:Nat):byL (a.take n):=λ x hx=>ha x (List.mem_of_mem_take hx)
theorem q2j:byL []:=λ x hx=>by cases hx
attribute [local irreducible] Go.Px.sy Go.Px.syE
theorem cxL:CxOK Try.prog tt G0 CL:=((((cx0.k qv8 (fn:=Try.f15)).k qs7 (fn:=Try.f18)).k qu1 (fn:=Try.f19)).k quv (fn:=Try.f17)).k qvt (fn:=Try.f14)
def isT:List SV->Prop:=λ rs=>rs=[.bool true]
abbrev GL (f:Nat) (fn:Func) (it:List Item) (S:PS):Prop:=Px.Good Try.prog tt G0 f fn.ntmps fn.results.toList (λ rs _=>isT rs) it S
theorem q1r {ct:Ctr} {x:DL ct.args} {rs:List SV} {blk:List (Nat × LB)} (ho:ct.out x=[.bool true]) (hr:ct.rows x=[]) (h:isT rs):QC ct x rs blk:=by
 have h:rs=[.bool true]:=h;subst h;exact QC.flat ho hr rfl
theorem no_t {p:Prop} [Decidable p] {q:Prop} (hp:¬ p) (h:decide p=true):q:=absurd (of_decide_eq_true h) hp
theorem no_f {p:Prop} [Decidable p] {q:Prop} (hp:p) (h:decide p=false):q:=absurd hp (of_decide_eq_false h)
theorem qub {x:List Int} (hb:byL x) (hl:x.length<=2200):∀ (k:Nat) (m:Int),3-m=k->0<=m ->
  GL 4 Try.f4 (hd Try.f4 1) ⟨[(5,.bool true),(6,.sl uB x),(8,.i m)],[]⟩:=by
 intro k
 induction k with
 | zero=>
  intro m hk h0;refine qag cxL (qpm x m _ _) (qbf (no_t (by omega)) λ _=>?_);rfl
 | succ k ih=>
  intro m hk h0;have nx:=ih (m+1) (by omega) (by omega);refine qag cxL (qpm x m _ _) (qbf (λ _=>?_) (no_f (by omega)));rw[cA_ok h0 (by omega) (by omega),IntWalk.i64_in (m+1) (by omega)];have cl:=q0d m.toNat hb;have e:=de_en h0 (by omega) hb (by omega)
  show ctEncF.pre (m,x,())/\ctDecF.pre (m,qfh m.toNat x,(x.length:Int),())/\bc (decide ((0:Int)≠0)) _ (bc (decide ((decA m (qfh m.toNat x) (x.length:Int)).2≠0)) _ (bc (decide (List.map toB (decA m (qfh m.toNat x) (x.length:Int)).1≠List.map toB x)) _ _))
  rw[e];exact ⟨hb,(show (qfh m.toNat x).length<1099511627776 by omega),qbf (no_t λ q=>q rfl) λ _=>qbf (no_t λ q=>q rfl) λ _=>qbf (no_t λ q=>q rfl) λ _=>nx⟩
theorem frzK {f:Nat} {fn:Func} {it:List Item} {S:PS} {i:Nat} {e:Sh} {et:TypeId} {xs:List e.D} (hl:lk S.blk i=some (.row et e xs)) (hc:cdP i xs.length S=[0+xs.length<=xs.length]) (h:GL f fn it (S.frzR i e xs)):GL f fn it S:=
 Good.frz hl (λ c hm=>by rw[hc,List.mem_singleton] at hm;subst hm;omega) h
theorem qo2 {x b:List Int} {times i:Int} (hb:byL x) (hl:x.length<=2200):GL 4 Try.f4 (hd Try.f4 1) ⟨[(0,.sl uB b),(1,.u times),(5,.bool true),(6,.win true uB 14 0 x.length),(7,.i i),(8,.i 0)],[(14,.row 5 uB x)]⟩:=by
 have g:=qub (x:=winL uB 0 x.length x) (by rw[qxf rfl];exact hb) (by rw[qxf rfl];exact hl) 3 0 rfl (by decide);exact (frzK (i:=14) (e:=uB) (xs:=x) rfl rfl (Good.only g ⟨rfl,rfl,rfl,trivial⟩ trivial))
theorem quc {b:List Int} (hb:byL b) {times:Int} (ht:0<=times/\times<256):∀ (k:Nat) (i:Int) (x:List Int),13-i=k->0<=i->byL x->x.length<=2200 ->
  GL 4 Try.f4 (hd Try.f4 0) ⟨[(0,.sl uB b),(1,.u times),(5,.bool true),(6,.win true uB 14 0 x.length),(7,.i i)],[(14,.row 5 uB x)]⟩:=by
 have et:IntKind.i64.wrap (times.tmod 12)<=11:=by
  have h:times.tmod 12=times % 12:=Int.tmod_eq_emod_of_nonneg ht.1;rw[h,IntWalk.i64_in _ (by omega)];omega
 intro k
 induction k with
 | zero=>
  intro i x hk h0 hx hl;refine qag cxL (qpn b x times i _ _) ⟨by decide,qbf (no_t (by omega)) λ _=>⟨rfl,qo2 hx hl⟩⟩
 | succ k ih=>
  intro i x hk h0 hx hl;refine qag cxL (qpn b x times i _ _) ⟨by decide,qbf (λ hi=>qbf (λ h=>?_) λ _=>qo2 hx hl) λ _=>⟨rfl,qo2 hx hl⟩⟩;have h2:(x.length:Int)<2000:=of_decide_eq_true h;have hi:i<=IntKind.i64.wrap (times.tmod 12):=of_decide_eq_true hi;have hbl:(List.take (Int.toNat (200:Int)) b).length<=200:=by rw[List.length_take];exact Nat.min_le_left _ _
  rw[IntWalk.i64_in (i+1) (by omega)];have nx:=ih (i+1) (x++List.take (Int.toNat (200:Int)) b) (by omega) (by omega) (q2k hx (q0j hb _)) (by rw[List.length_append];omega);rw[List.length_append] at nx;exact ⟨(by decide:(0:Int)<=200),rfl,rfl,by omega,by decide,Good.onlyR nx [(14,30)] rfl ⟨rfl,rfl,rfl,rfl,rfl,trivial⟩ ⟨rfl,trivial⟩⟩
def q1t:(x:DL [Sh.sl uB,uB])->Prop:=λ x=>byL x.1/\(0<=x.2.1/\(show Int from x.2.1)<256)
def q2h:Ctr:=⟨[.sl uB,uB],q1t,λ _=>[.bool true],λ _=>[]⟩
theorem qzx:Held Try.prog G0 4 q2h:=Held.of cxL (fn:=Try.f4) rfl rfl ⟨by decide,by decide⟩ λ ⟨b,t,_⟩ hp=>by
 obtain ⟨hb,ht⟩:byL b/\(0<=t/\(show Int from t)<256):=hp;have g:GL 4 Try.f4 [.code (qak Try.f4)] (entry [.sl uB,uB] (b,t,())):=qag cxL (q04 b t _ _) ⟨trivial,quc hb ht 13 0 [] rfl (by decide) q2j (by decide)⟩;exact g.post λ rs blk h=>q1r rfl rfl h
theorem hG:Glob G0.raw:=⟨λ g x h=>by simp[G0,T.get] at h,λ g x h=>by simp[G0,T.get] at h⟩
abbrev H0:AHeap:=⟨qks,G0.raw⟩
theorem q1c {n:Int} (h:(Lit.int .u8 n).wf=true):0<=n/\n<256:=by
 have:=Go.bounds_u8 h;exact ⟨this.1,by omega⟩
theorem by_wf {l:List Int} (h:wfD (.sl uB) l):byL l:=λ x hx=>q1c (h.2 x hx)
end Go.Proofs.Ytdlnmlepljepjaa
