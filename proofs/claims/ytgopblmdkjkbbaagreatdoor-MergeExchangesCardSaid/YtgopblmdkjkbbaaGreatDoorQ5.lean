/-
  A part of the proof: what pieces of the program give; conditions: those of each theorem.
-/
import Derived.Test.YtgopblmdkjkbbaaGreatDoorQ4
import Derived.Test.YtgopblmdkjkbbaaGreatDoorQ3
import Derived.Test.YtgopblmdkjkbbaaGreatDoorHD
import Derived.KernelRfl
import Derived.Test.YtgopblmdkjkbbaaGreatDoorQ1
set_option linter.unusedVariables false
set_option linter.unusedSimpArgs false
namespace Go.Proofs.YtgopblmdkjkbbaaGreatDoor
open Go.Px Go.Ax
open Go.IntKind(i64 u32 u8)
set_option maxRecDepth 100000
attribute [local irreducible] Go.Px.sy Go.Px.syE
theorem qmv:Held Tryz.prog G0 80 ctSys:=Held.run (cx0.k qvu (fn:=Tryz.f15)) (fn:=Tryz.f80) rfl rfl ⟨by decide,by decide⟩ λ ⟨⟨li,m,o,l⟩,_⟩ _=>(q8c li m o l _ _).mpr ⟨trivial,QC.row0 (e:=syS) (xs:=sySy (li,m,o,l)) (et:=93) (a:=1028672) rfl rfl rfl rfl rfl⟩
theorem qt7:CxOK Tryz.prog tt G0 C13:=(((cx0.k qvu (fn:=Tryz.f15)).k q0c (fn:=Tryz.f24)).k q5y (fn:=Tryz.f57)).k qmv (fn:=Tryz.f80)
def mkP (l:List SyT):PaT:=(false,(l.length:Int),(l.length:Int),ofO l)
def q1f (l:List SyT):Prop:=l.length<=4096/\∀ s∈l,sOK l.length s=true
theorem q3h {l:List SyT} (h:q1f l):ofRV l l.length=(mkP l,0)/\(chkV (mkP l)).2=0/\symF (ofO l)=l:=q99 h.2 (by omega) (by have:=h.1;omega) h.1
def byY (l:List SyT):Prop:=∀ x∈l,0<=x.2.2/\x.2.2<256
def P11 (n:Int) (v:PaT):Prop:=∃ l,(q1f l/\byY l)/\(l.length:Int)=n/\v=mkP l
abbrev Q13 (v:PaT):List SV->List (Nat × LB)->Prop:=λ rs _=>MtL (λ _=>none) [paV v] rs
theorem q5x:∀ n:Nat,n<13->(symV (rwV n)).1.length=n/\∀ s∈(symV (rwV n)).1,sOK n s=true/\0<=s.2.2/\s.2.2<256:=by decide +kernel
theorem q9u {l:List SyT} (h:byY l) {i:Nat} {x:SyT} (hx:0<=x.2.2/\x.2.2<256):byY (l.set i x):=λ s hs=>by
 rcases List.mem_or_eq_of_mem_set hs with h1 | rfl
 ·exact h s h1
 ·exact hx
theorem q23 {l:List SyT} {m:Int} (h:∀ s∈l,sOK m s=true) {i:Nat} {x:SyT} (hx:sOK m x=true):∀ s∈l.set i x,sOK m s=true:=λ s hs=>by
 rcases List.mem_or_eq_of_mem_set hs with h1 | rfl
 ·exact h s h1
 ·exact hx
section
variable (z:Int) (n:Nat) (l:List (List Int)) (hl:qtf l) (hn:n<13) (hll:l.length<9223372036854775808)
abbrev GD8 (v:PaT) (it:List Item) (S:PS):Prop:=GD 32 Tryz.f32 (Q13 v) it S
abbrev sO (s:List SyT) (i:Nat):PS:=⟨[(1,.i n),(2,.ptr 2 0),(4,.ptr 4 0),(5,.win true syS 1057344 0 s.length),(6,.i (i:Nat))],[(2,.var [.u z,.sl a4S l]),(4,.var [.bool false,.i 0,.i 0,.nils]),(1057344,.row 93 syS s)]⟩
abbrev sI (s:List SyT) (i:Nat) (a k:Nat) (c:List Int):PS:=⟨[(1,.i n),(2,.ptr 2 0),(4,.ptr 4 0),(5,.win true syS 1057344 0 s.length),(6,.i (i:Nat)),(7,.ptr 7 0),(8,.i (a:Nat)),(9,.i (k:Nat))],[(2,.var [.u z,.sl a4S l]),(4,.var [.bool false,.i 0,.i 0,.nils]),(7,.var [.arr 4 uB c]),(1057344,.row 93 syS s)]⟩
def inv8 (s:List SyT):Prop:=s.length=n/\(∀ x∈s,sOK n x=true)/\byY s
include hl hn hll
theorem q2w {s:List SyT} (hs:inv8 n s) {i:Nat} (hi:¬ (i<l.length/\i<5/\0<n)):GD8 (mkP s) (hd Tryz.f32 0) (sO z n l s i):=by
 have _:=And.intro hl hll;have hg:q1f s:=⟨by rw[hs.1];omega,by rw[hs.1];exact hs.2.1⟩;obtain ⟨e,_,_⟩:=q3h hg;rw[hs.1] at e;have fin:0+s.length<=s.length/\0+s.length<=s.length/\ctOf6.pre (winL syS 0 s.length s,(n:Int),())/\∀ blk,Q13 (mkP s) [SV.agg [.bool (ofRV (winL syS 0 s.length s) n).1.1,.i (ofRV (winL syS 0 s.length s) n).1.2.1,.i (ofRV (winL syS 0 s.length s) n).1.2.2.1,.sl opS (ofRV (winL syS 0 s.length s) n).1.2.2.2]] blk:=by
  rw[winA,e];exact ⟨by omega,by omega,(show s.length<1099511627776 by rw[hs.1];omega),λ blk=>⟨_,_,rfl,⟨_,rfl,_,_,rfl,rfl,_,_,rfl,rfl,_,_,rfl,rfl,_,_,rfl,.inl rfl,rfl⟩,rfl⟩⟩
 obtain ⟨f1,f2,f3,f4⟩:=fin;refine qak qt7 (q2m z n l s i _ _) (qaf (λ h=>qaf (λ h2=>qaf (λ h3=>?_) (λ _=>⟨f1,f2,f3,f4 _⟩)) (λ _=>⟨rfl,f1,f2,f3,f4 _⟩)) (λ _=>⟨rfl,rfl,f1,f2,f3,f4 _⟩));have h:=of_decide_eq_true h;have h2:=of_decide_eq_true h2;have h3:=of_decide_eq_true h3;omega
theorem qy9 (hn0:0<n) (i:Nat) (c:List Int) (hc:q6a c) (a:Nat) (ha:a<n) (nx:∀ s,inv8 n s->∃ v,P11 n v/\GD8 v (hd Tryz.f32 0) (sO z n l s (i+1))) (hi:i+1<9223372036854775808) :
  ∀ (f k:Nat),k<=3->n-k=f->∀ s,inv8 n s->∃ v,P11 n v/\GD8 v (hd Tryz.f32 1) (sI z n l s i a k c):=by
 have _:=And.intro hl hll;have hb1:=hc 1;have hb2:=hc 2;have hb3:=hc 3;have w:∀ x:Int,0<=x->x<100000->i64.wrap x=x:=λ x h1 h2=>IntWalk.i64_in x (by omega)
 have t64:0<=Int.tdiv (gtB c 1) 64/\Int.tdiv (gtB c 1) 64<4:=by
  rw[Int.tdiv_eq_ediv_of_nonneg hb1.1];omega
 have wu:u8.wrap (Int.tdiv (gtB c 1) 64)=Int.tdiv (gtB c 1) 64:=IntWalk.u8_in _ (by omega);have t3:0<=Int.tmod (Int.tdiv (gtB c 1) 64) 3/\Int.tmod (Int.tdiv (gtB c 1) 64) 3<3:=⟨Int.tmod_nonneg _ t64.1,Int.tmod_lt_of_pos _ (by omega)⟩;have hcnt:∀ k:Nat,(k:Int)<1+Int.tmod (Int.tdiv (gtB c 1) 64) 3->k<3:=λ k h=>by omega
 have tm4:0<=Int.tmod (gtB c 1) 4/\Int.tmod (gtB c 1) 4<4:=⟨Int.tmod_nonneg _ hb1.1,Int.tmod_lt_of_pos _ (by omega)⟩;have tn2:0<=Int.tmod (gtB c 2) n/\Int.tmod (gtB c 2) n<n:=⟨Int.tmod_nonneg _ hb2.1,Int.tmod_lt_of_pos _ (by omega)⟩;have out:∀ {k:Nat} {s:List SyT} {v:PaT},GD8 v (hd Tryz.f32 0) (sO z n l s (i+1))->¬ ((k:Int)<1+Int.tmod (Int.tdiv (gtB c 1) 64) 3/\(a:Int)+k<n)->k<=3->GD8 v (hd Tryz.f32 1) (sI z n l s i a k c):=fun {k s v} g hk h3=>by
  refine qak qt7 (q2n z n l s i a k c _ _) ?_;rw[wu,w _ t64.1 (by omega),w (1+_) (by omega) (by omega),IntWalk.i64_in ((i:Int)+1) (by omega),w ((a:Int)+k) (by omega) (by omega)];refine ⟨by omega,by omega,by omega,by omega,by omega,qaf (λ h=>qaf (λ h2=>?_) (λ _=>?_)) (λ _=>⟨rfl,?_⟩)⟩
  ·exact absurd ⟨of_decide_eq_true h,of_decide_eq_true h2⟩ hk
  ·exact g.only ⟨rfl,rfl,rfl,rfl,rfl,trivial⟩ ⟨rfl,rfl,rfl,trivial⟩
  ·exact g.only ⟨rfl,rfl,rfl,rfl,rfl,trivial⟩ ⟨rfl,rfl,rfl,trivial⟩
 intro f
 induction f with
 | zero=>
  intro k hk3 hk s hs;obtain ⟨v,hv,g⟩:=nx s hs;exact ⟨v,hv,out g (by omega) hk3⟩
 | succ f ih=>
  intro k hk3 hk s hs;by_cases q1:(k:Int)<1+Int.tmod (Int.tdiv (gtB c 1) 64) 3/\(a:Int)+k<n
  ·obtain ⟨q1,q2⟩:=q1;have e0:((a:Int)+(k:Int)).toNat=a+k:=by omega
   have hk2:=hcnt k q1;have nxt:∀ x,sOK n x=true->0<=x.2.2/\x.2.2<256->∃ v,P11 n v/\GD8 v (hd Tryz.f32 1) ⟨[(1,.i n),(2,.ptr 2 0),(4,.ptr 4 0),(5,.win true syS 1057344 0 s.length),(6,.i (i:Nat)),(7,.ptr 7 0),(8,.i (a:Nat)),(9,.i (i64.wrap ((k:Int)+1)))],[(2,.var [.u z,.sl a4S l]),(4,.var [.bool false,.i 0,.i 0,.nils]),(7,.var [.arr 4 uB c]),(1057344,.row 93 syS (s.set (0+((a:Int)+(k:Int)).toNat) x))]⟩:=λ x hx hxb=>by
    obtain ⟨v,hv,g⟩:=ih (k+1) (by omega) (by omega) (s.set (0+((a:Int)+(k:Int)).toNat) x) ⟨by rw[List.length_set];exact hs.1,q23 hs.2.1 hx,q9u hs.2.2 hxb⟩;refine ⟨v,hv,?_⟩;have g:=g;rw[w ((k:Int)+1) (by omega) (by omega)];simp only[sI,List.length_set] at g;exact g
   have go:∀ {v},((Int.tmod (gtB c 1) 4=0->GD8 v (hd Tryz.f32 1) ⟨[(1,.i n),(2,.ptr 2 0),(4,.ptr 4 0),(5,.win true syS 1057344 0 s.length),(6,.i (i:Nat)),(7,.ptr 7 0),(8,.i (a:Nat)),(9,.i (i64.wrap ((k:Int)+1)))],[(2,.var [.u z,.sl a4S l]),(4,.var [.bool false,.i 0,.i 0,.nils]),(7,.var [.arr 4 uB c]),(1057344,.row 93 syS (s.set (0+((a:Int)+(k:Int)).toNat) (false,(0:Int),gtB c 2)))]⟩)
     /\ (Int.tmod (gtB c 1) 4=1->GD8 v (hd Tryz.f32 1) ⟨[(1,.i n),(2,.ptr 2 0),(4,.ptr 4 0),(5,.win true syS 1057344 0 s.length),(6,.i (i:Nat)),(7,.ptr 7 0),(8,.i (a:Nat)),(9,.i (i64.wrap ((k:Int)+1)))],[(2,.var [.u z,.sl a4S l]),(4,.var [.bool false,.i 0,.i 0,.nils]),(7,.var [.arr 4 uB c]),(1057344,.row 93 syS (s.set (0+((a:Int)+(k:Int)).toNat) (true,(a:Int)+(k:Int),gtB c 3)))]⟩)
     /\ (Int.tmod (gtB c 1) 4=2->GD8 v (hd Tryz.f32 1) ⟨[(1,.i n),(2,.ptr 2 0),(4,.ptr 4 0),(5,.win true syS 1057344 0 s.length),(6,.i (i:Nat)),(7,.ptr 7 0),(8,.i (a:Nat)),(9,.i (i64.wrap ((k:Int)+1)))],[(2,.var [.u z,.sl a4S l]),(4,.var [.bool false,.i 0,.i 0,.nils]),(7,.var [.arr 4 uB c]),(1057344,.row 93 syS (s.set (0+((a:Int)+(k:Int)).toNat) (true,Int.tmod (gtB c 2) n,0)))]⟩)
     /\ (Int.tmod (gtB c 1) 4=3->GD8 v (hd Tryz.f32 1) ⟨[(1,.i n),(2,.ptr 2 0),(4,.ptr 4 0),(5,.win true syS 1057344 0 s.length),(6,.i (i:Nat)),(7,.ptr 7 0),(8,.i (a:Nat)),(9,.i (i64.wrap ((k:Int)+1)))],[(2,.var [.u z,.sl a4S l]),(4,.var [.bool false,.i 0,.i 0,.nils]),(7,.var [.arr 4 uB c]),(1057344,.row 93 syS (s.set (0+((a:Int)+(k:Int)).toNat) (true,Int.tmod (gtB c 2+k) n,Int.tmod (gtB c 3) 3)))]⟩))
     -> GD8 v (hd Tryz.f32 1) (sI z n l s i a k c):=fun {v} g=>by
    obtain ⟨g0,g1,g2,g3⟩:=g;refine qak qt7 (q2n z n l s i a k c _ _) ?_;rw[wu,w _ t64.1 (by omega),w (1+_) (by omega) (by omega),w ((a:Int)+k) (by omega) (by omega),w (gtB c 2) (by omega) (by omega),w (gtB c 2+_) (by omega) (by omega)];have hsl:=hs.1;refine ⟨by omega,by omega,by omega,by omega,by omega,?_⟩;rw[decide_eq_true q1,bc_t,decide_eq_true q2,bc_t];refine ⟨by omega,by omega,by omega,by omega,qaf (λ h=>⟨by omega,by omega,by omega,by omega,by omega,by omega,g0 (of_decide_eq_true h)⟩) (λ h=>qaf (λ h2=>⟨by omega,by omega,by omega,by omega,by omega,by omega,g1 (of_decide_eq_true h2)⟩) (λ h2=>qaf (λ h3=>⟨by omega,by omega,by omega,by omega,by omega,by omega,by omega,g2 (of_decide_eq_true h3)⟩) (λ h3=>⟨by omega,by omega,by omega,by omega,by omega,by omega,by omega,by omega,by omega,by omega,by omega,g3 ?_⟩)))⟩;have h:=of_decide_eq_false h;have h2:=of_decide_eq_false h2;have h3:=of_decide_eq_false h3;omega
   have hq:Int.tmod (gtB c 1) 4=0\/Int.tmod (gtB c 1) 4=1\/Int.tmod (gtB c 1) 4=2\/Int.tmod (gtB c 1) 4=3:=by omega
   rcases hq with e | e | e | e
   ·obtain ⟨v,hv,g⟩:=nxt (false,0,gtB c 2) rfl hb2;exact ⟨v,hv,go ⟨λ _=>g,λ h=>by omega,λ h=>by omega,λ h=>by omega⟩⟩
   ·obtain ⟨v,hv,g⟩:=nxt (true,(a:Int)+k,gtB c 3) (by simp[sOK];omega) hb3;exact ⟨v,hv,go ⟨λ h=>by omega,λ _=>g,λ h=>by omega,λ h=>by omega⟩⟩
   ·obtain ⟨v,hv,g⟩:=nxt (true,Int.tmod (gtB c 2) n,0) (by simp[sOK];omega) (by simp);exact ⟨v,hv,go ⟨λ h=>by omega,λ h=>by omega,λ _=>g,λ h=>by omega⟩⟩
   ·have tk:0<=Int.tmod (gtB c 2+k) n/\Int.tmod (gtB c 2+k) n<n:=⟨Int.tmod_nonneg _ (by omega),Int.tmod_lt_of_pos _ (by omega)⟩;obtain ⟨v,hv,g⟩:=nxt (true,Int.tmod (gtB c 2+k) n,Int.tmod (gtB c 3) 3) (by simp[sOK];omega) (have t:0<=Int.tmod (gtB c 3) 3/\Int.tmod (gtB c 3) 3<3:=⟨Int.tmod_nonneg _ hb3.1,Int.tmod_lt_of_pos _ (by omega)⟩;⟨t.1,Int.lt_trans t.2 (by omega)⟩);exact ⟨v,hv,go ⟨λ h=>by omega,λ h=>by omega,λ h=>by omega,λ _=>g⟩⟩
  ·obtain ⟨v,hv,g⟩:=nx s hs;exact ⟨v,hv,out g q1 hk3⟩
theorem qy8:∀ (f i:Nat),l.length-i=f->i<=l.length->∀ s,inv8 n s->∃ v,P11 n v/\GD8 v (hd Tryz.f32 0) (sO z n l s i):=by
 intro f
 induction f with
 | zero=>
  intro i hf hi s hs;exact ⟨mkP s,⟨s,⟨⟨by rw[hs.1];omega,by rw[hs.1];exact hs.2.1⟩,hs.2.2⟩,by rw[hs.1],rfl⟩,q2w z n l hl hn hll hs (by omega)⟩
 | succ f ih=>
  intro i hf hi s hs;by_cases q:i<l.length/\i<5/\0<n
  ·have hb:q6a (gtA4 l i):=hl i;have t0:0<=Int.tmod (gtB (gtA4 l i) 0) n/\Int.tmod (gtB (gtA4 l i) 0) n<n:=⟨Int.tmod_nonneg _ (hb 0).1,Int.tmod_lt_of_pos _ (by omega)⟩;obtain ⟨v,hv,g⟩:=qy9 z n l hl hn hll q.2.2 i (gtA4 l i) hb (Int.tmod (gtB (gtA4 l i) 0) n).toNat (by omega) (λ s hs=>ih (i+1) (by omega) (by omega) s hs) (by omega) n 0 (by omega) (by omega) s hs;refine ⟨v,hv,qak qt7 (q2m z n l s i _ _) ?_⟩;rw[decide_eq_true (show (i:Int)<(l.length:Int) by omega),bc_t,decide_eq_true (show (i:Int)<5 by omega),bc_t,decide_eq_true (show (0:Int)<(n:Int) by omega),bc_t,Int.toNat_natCast,IntWalk.i64_in (gtB (gtA4 l i) 0) (by have:=hb 0;omega)];refine ⟨by omega,by omega,by omega,by omega,by omega,by omega,?_⟩;have e:((Int.tmod (gtB (gtA4 l i) 0) n).toNat:Int)=Int.tmod (gtB (gtA4 l i) 0) n:=by omega
   simp only[sI,e] at g;exact g.only ⟨rfl,rfl,rfl,rfl,rfl,rfl,rfl,rfl,trivial⟩ ⟨rfl,rfl,rfl,rfl,trivial⟩
  ·exact ⟨mkP s,⟨s,⟨⟨by rw[hs.1];omega,by rw[hs.1];exact hs.2.1⟩,hs.2.2⟩,by rw[hs.1],rfl⟩,q2w z n l hl hn hll hs q⟩
theorem sz_ex:∃ v,P11 n v/\GD8 v [.code (qad Tryz.f32)] (entry [raS,iI] ((z,l),(n:Int),())):=by
 have hr:inv8 n (sySy (rwV n)):=⟨(q5x n hn).1,λ x hx=>((q5x n hn).2 x hx).1,λ x hx=>((q5x n hn).2 x hx).2⟩;obtain ⟨v,hv,g⟩:=qy8 z n l hl hn hll _ 0 rfl (Nat.zero_le _) (sySy (rwV n)) hr;exact ⟨v,hv,qak qt7 (q33 z n l _ _) ⟨trivial,trivial,g.only ⟨rfl,rfl,rfl,rfl,rfl,trivial⟩ ⟨rfl,rfl,rfl,trivial⟩⟩⟩
end
open Classical in
noncomputable def S11V (z n:Int) (l:List (List Int)):PaT:=if h:∃ v,P11 n v/\GD8 v [.code (qad Tryz.f32)] (entry [raS,iI] ((z,l),n,())) then Classical.choose h else (false,0,0,[])
def qrp (n:Int) (l:List (List Int)):Prop:=qtf l/\0<=n/\n<13/\l.length<9223372036854775808
theorem qyh {z n:Int} {l:List (List Int)} (h:qrp n l):P11 n (S11V z n l)/\GD8 (S11V z n l) [.code (qad Tryz.f32)] (entry [raS,iI] ((z,l),n,())):=by
 obtain ⟨h1,h2,h3,h4⟩:=h;have k:=sz_ex z n.toNat l h1 (by omega) h4;rw[Int.toNat_of_nonneg h2] at k;unfold S11V;rw[dif_pos k];exact Classical.choose_spec k
noncomputable def ctS11:Ctr:=⟨[raS,iI],λ x=>qrp x.2.1 x.1.2,λ x=>[paV (S11V x.1.1 x.2.1 x.1.2)],λ _=>[]⟩
theorem qrg:Held Tryz.prog G0 32 ctS11:=Held.of qt7 (fn:=Tryz.f32) rfl rfl ⟨by decide,by decide⟩ λ ⟨⟨z,l⟩,n,_⟩ hp=>(qyh hp).2.post λ rs blk h=>QC.mt h rfl
theorem vc_sr (x y:List (Int × Int)) (Q:QT) (R:RT):sA [] Tryz.f37 Q R [.code (qad Tryz.f37)] (entry [.sl rgS,.sl rgS] (x,y,())) =
  (bc (decide ((x.length:Int)≠(y.length:Int))) (Q [.bool false] []) (R (hd Tryz.f37 0) { env:=[(0,.sl rgS x),(1,.sl rgS y),(4,.bool false),(5,.i 0),(6,.sl rgS x),(7,.i x.length),(8,.sl rgS y),(9,.i y.length),(10,.bool (decide ((x.length:Int)≠(y.length:Int))))],blk:=[] })):=by kernel_rfl
theorem q2o (x y:List (Int × Int)) (i:Int) (Q:QT) (R:RT):sA [] Tryz.f37 Q R (hd Tryz.f37 0) ⟨[(0,.sl rgS x),(1,.sl rgS y),(5,.i i)],[]⟩ =
  (bc (decide (i<(x.length:Int))) ((0:Int)<=i/\i<(x.length:Int)/\(0:Int)<=i/\i<(y.length:Int)/\bc (!decide ([(gtR x i.toNat).1,(gtR x i.toNat).2]=[(gtR y i.toNat).1,(gtR y i.toNat).2])) (Q [.bool false] []) (R (hd Tryz.f37 0) { env:=[(0,.sl rgS x),(1,.sl rgS y),(5,.i (IntKind.i64.wrap (i+1))),(11,.i i),(12,.sl rgS x),(13,.i x.length),(14,.bool (decide (i<(x.length:Int)))),(15,.i i),(16,.i (IntKind.i64.wrap (i+1))),(17,.sl rgS x),(18,.i i),(19,.elv rgS (gtR x i.toNat)),(20,.agg [.i (gtR x i.toNat).1,.i (gtR x i.toNat).2]),(21,.sl rgS y),(22,.i i),(23,.elv rgS (gtR y i.toNat)),(24,.agg [.i (gtR y i.toNat).1,.i (gtR y i.toNat).2]),(25,.bool !decide ([(gtR x i.toNat).1,(gtR x i.toNat).2]=[(gtR y i.toNat).1,(gtR y i.toNat).2]))],blk:=[] })) (Q [.bool true] [])):=by kernel_rfl
abbrev z4:PaT:=(false,0,0,[])
def cmV (p q:PaT):PaT × PaT × Int:=match decide ((qah [p,q]).2≠0) with
 | true=>(z4,z4,(qah [p,q]).2)
 | false=>match disB (sySy p) (sySy q) with
  | true=>(z4,z4,110)
  | false=>match disB (sySy q) (sySy p) with
   | true=>(z4,z4,110)
   | false=>match decide ((foV q).2≠0) with
    | true=>(z4,z4,(foV q).2)
    | false=>match decide ((foV p).2≠0) with
     | true=>(z4,z4,(foV p).2)
     | false=>((foV q).1,(foV p).1,0)
def ctCm:Ctr:=⟨[paS,paS],λ _=>True,λ x=>[paV (cmV x.1 x.2.1).1,paV (cmV x.1 x.2.1).2.1,.i (cmV x.1 x.2.1).2.2],λ _=>[]⟩
theorem quh (z:Int):MtL (λ _=>none) [paV z4,paV z4,.i z] [.agg [.bool false,.i 0,.i 0,.nils],.agg [.bool false,.i 0,.i 0,.nils],.i z]:=⟨_,_,rfl,⟨_,rfl,_,_,rfl,rfl,_,_,rfl,rfl,_,_,rfl,rfl,_,_,rfl,.inr ⟨rfl,rfl⟩,rfl⟩,_,_,rfl,⟨_,rfl,_,_,rfl,rfl,_,_,rfl,rfl,_,_,rfl,rfl,_,_,rfl,.inr ⟨rfl,rfl⟩,rfl⟩,_,_,rfl,rfl,rfl⟩
theorem p2_mt (p q:PaT) (z:Int):MtL (λ _=>none) [paV p,paV q,.i z] [.agg (pL p.1 p.2.1 p.2.2.1 p.2.2.2),.agg (pL q.1 q.2.1 q.2.2.1 q.2.2.2),.i z]:=⟨_,_,rfl,⟨_,rfl,_,_,rfl,rfl,_,_,rfl,rfl,_,_,rfl,rfl,_,_,rfl,.inl rfl,rfl⟩,_,_,rfl,⟨_,rfl,_,_,rfl,rfl,_,_,rfl,rfl,_,_,rfl,rfl,_,_,rfl,.inl rfl,rfl⟩,_,_,rfl,rfl,rfl⟩
theorem q61 (li:Bool) (m o:Int) (l:List OpT) (li2:Bool) (m2 o2:Int) (l2:List OpT) (R:List Item->PS->Prop):sA C11 Tryz.f96 (QC ctCm ((li,m,o,l),(li2,m2,o2,l2),())) R [.code (qad Tryz.f96)] (entry [paS,paS] ((li,m,o,l),(li2,m2,o2,l2),())):=by
 have fin:∀ {v:PaT × PaT × Int} {rs blk},cmV (li,m,o,l) (li2,m2,o2,l2)=v->MtL (λ _=>none) [paV v.1,paV v.2.1,.i v.2.2] rs->QC ctCm ((li,m,o,l),(li2,m2,o2,l2),()) rs blk:=fun {v rs blk} h k=>by
  refine QC.mt ?_ rfl
  show MtL _ [paV (cmV (li,m,o,l) (li2,m2,o2,l2)).1,paV (cmV (li,m,o,l) (li2,m2,o2,l2)).2.1,.i (cmV (li,m,o,l) (li2,m2,o2,l2)).2.2] _
  rw[h];exact k
 refine (q8x li m o l li2 m2 o2 l2 _ _).mpr ⟨Nat.le_refl _,⟨by simp,by simp⟩,qaf (λ h=>?_) (λ h=>?_)⟩
 ·refine fin (v:=(z4,z4,(qah [(li,m,o,l),(li2,m2,o2,l2)]).2)) ?_ (quh _);unfold cmV;rw[show decide ((qah [(li,m,o,l),(li2,m2,o2,l2)]).2≠0)=true from h]
 ·have h0:(qah [(li,m,o,l),(li2,m2,o2,l2)]).2=0:=by have:=of_decide_eq_false h;simpa using this
  obtain ⟨h1,h2,h3,h4,_⟩:=sy2 h0;have hY:=ev_Y h2;have hY2:=ev_Y h3;have la:=(qfo h2).1;have lb:=(qfo h3).1;have hle:(sySy (li,m,o,l)).length=(sySy (li2,m2,o2,l2)).length:=by have:=h4;omega
  have e1:decide ((qah [(li,m,o,l),(li2,m2,o2,l2)]).2≠0)=false:=h;rw[h1];simp only[Nat.add_zero,Nat.zero_add,qxn,q7b];refine ⟨by omega,by simp,by simp,by omega,by simp,by simp,⟨hY2,Nat.le_of_eq hle⟩,qaf (λ k=>⟨trivial,?_⟩) (λ k=>⟨by omega,by simp,by simp,by omega,by simp,by simp,⟨hY,Nat.le_of_eq hle.symm⟩,?_⟩)⟩
  ·exact fin (by unfold cmV;rw[e1,k]) (quh _)
  ·refine qaf (λ k2=>?_) (λ k2=>?_)
   ·have k2:disB (sySy (li2,m2,o2,l2)) (sySy (li,m,o,l))=true:=k2;exact fin (by unfold cmV;rw[e1,k,k2]) (quh _)
   ·have k2:disB (sySy (li2,m2,o2,l2)) (sySy (li,m,o,l))=false:=k2;refine ⟨trivial,qaf (λ k3=>?_) (λ k3=>⟨trivial,qaf (λ k4=>?_) (λ k4=>?_)⟩)⟩
    ·exact fin (v:=(z4,z4,(foV (li2,m2,o2,l2)).2)) (by unfold cmV;rw[e1,k,k2,k3]) (quh _)
    ·exact fin (v:=(z4,z4,(foV (li,m,o,l)).2)) (by unfold cmV;rw[e1,k,k2,k3,k4]) (quh _)
    ·exact fin (v:=((foV (li2,m2,o2,l2)).1,(foV (li,m,o,l)).1,0)) (by unfold cmV;rw[e1,k,k2,k3,k4]) (p2_mt _ _ _)
theorem q0n:Held Tryz.prog G0 96 ctCm:=Held.run cx11 (fn:=Tryz.f96) rfl rfl ⟨by decide,by decide⟩ λ ⟨⟨li,m,o,l⟩,⟨li2,m2,o2,l2⟩,⟨⟩⟩ _=>q61 li m o l li2 m2 o2 l2 _
theorem q3l {l:List (Int × Int)} {i:Nat} (h:i<l.length):gtR l i=l[i]:=gtE (e:=rgS) h
theorem q90 {s t:Int × Int}:([s.1,s.2]=[t.1,t.2])↔s=t:=by
 obtain ⟨a,b⟩:=s;obtain ⟨c,d⟩:=t;simp
def ctSr:Ctr:=⟨[.sl rgS,.sl rgS],λ x=>List.length x.1<1099511627776,λ x=>[.bool (decide ((show List (Int × Int) from x.1)=x.2.1))],λ _=>[]⟩
theorem q5r (x y:List (Int × Int)) (hl:x.length<1099511627776) (he:x.length=y.length):∀ (k i:Nat),x.length-i=k->i<=x.length->x.take i=y.take i ->
  GD 37 Tryz.f37 (λ rs _=>rs=[.bool (decide (x=y))]) (hd Tryz.f37 0) ⟨[(0,.sl rgS x),(1,.sl rgS y),(5,.i (i:Nat))],[]⟩:=by
 intro k
 induction k with
 | zero=>
  intro i hk hi ht;refine qaj cx0 _ _ _ ((q2o x y i _ _).mpr ?_);rw[decide_eq_false (show ¬ (i:Int)<(x.length:Int) by omega),bc_f];rw[List.take_of_length_le (by omega),List.take_of_length_le (by omega)] at ht
  show [SV.bool true]=_
  rw[decide_eq_true ht]
 | succ k ih=>
  intro i hk hi ht;have hx:i<x.length:=by omega
  have hy:i<y.length:=by omega
  refine qaj cx0 _ _ _ ((q2o x y i _ _).mpr ?_);rw[decide_eq_true (show (i:Int)<(x.length:Int) by omega),bc_t,Int.toNat_natCast,q3l hx,q3l hy,IntWalk.i64_in ((i:Int)+1) (by omega)];refine ⟨by omega,by omega,by omega,by omega,qaf (λ h=>?_) (λ h=>?_)⟩
  ·have h:¬ x[i]=y[i]:=λ q=>by
    rw[decide_eq_true (q90.2 q)] at h;cases h
   show [SV.bool false]=_
   rw[decide_eq_false (λ q=>h (by simp only[q]))]
  ·have h:x[i]=y[i]:=by
    have h:(!decide ([x[i].1,x[i].2]=[y[i].1,y[i].2]))=false:=h;rw[Bool.not_eq_false'] at h;exact q90.1 (of_decide_eq_true h)
   exact (ih (i+1) (by omega) (by omega) (by rw[List.take_succ_eq_append_getElem hx,List.take_succ_eq_append_getElem hy,ht,h])).only ⟨rfl,rfl,rfl,trivial⟩ trivial
theorem q5s:Held Tryz.prog G0 37 ctSr:=by
 refine Held.run cx0 (fn:=Tryz.f37) rfl rfl ⟨by decide,by decide⟩ ?_;rintro ⟨x,y,⟨⟩⟩ hp;replace hp:x.length<1099511627776:=hp;refine (vc_sr x y _ _).mpr (qaf (λ h=>?_) (λ h=>?_))
 ·have h:(x.length:Int)≠y.length:=of_decide_eq_true h;refine QC.flat ?_ rfl rfl
  show [SV.bool (decide (x=y))]=_
  rw[decide_eq_false (λ q=>h (by rw[q]))]
 ·have h:¬ (x.length:Int)≠y.length:=of_decide_eq_false h;have h:x.length=y.length:=by omega
  exact ((q5r x y hp h _ 0 rfl (by omega) rfl).post λ rs blk hq=>QC.flat (by rw[hq];rfl) rfl (by rw[hq];rfl)).only ⟨rfl,rfl,rfl,trivial⟩ trivial
abbrev exS:Sh:=.pair paS (.pair paS iI)
def CR1:CV:=[(37,.inl ctSr)]
theorem cxR1:CxOK Tryz.prog tt G0 CR1:=cx0.k q5s (fn:=Tryz.f37)
def CR2:CV:=[(27,.inl ctSm)]
theorem cxR2:CxOK Tryz.prog tt G0 CR2:=cx0.k qvh (fn:=Tryz.f27)
def CR3:CV:=[(96,.inl ctCm)]
theorem cxR3:CxOK Tryz.prog tt G0 CR3:=cx0.k q0n (fn:=Tryz.f96)
noncomputable def CR4:CV:=[(32,.inl ctS11)]
theorem cxR4:CxOK Tryz.prog tt G0 CR4:=cx0.k qrg (fn:=Tryz.f32)
set_option maxRecDepth 100000
theorem q4q (z:Int) (l:List (List Int)) (Q:QT) (R:RT):sA CR4 Tryz.f31 Q R [.code (qad Tryz.f31)] (entry [raS] ((z,l),())) =
  ((13:Int)≠0/\ctS11.pre ((z,l),(i64.wrap z).tmod (13:Int),())/\Q [.agg [.bool (S11V z ((i64.wrap z).tmod (13:Int)) l).1,.i (S11V z ((i64.wrap z).tmod (13:Int)) l).2.1,.i (S11V z ((i64.wrap z).tmod (13:Int)) l).2.2.1,.sl opS (S11V z ((i64.wrap z).tmod (13:Int)) l).2.2.2]] [(1,.var [.u z,.sl (Sh.arr (4:Nat) uB) l]),(2,.var [.bool (S11V z ((i64.wrap z).tmod (13:Int)) l).1,.i (S11V z ((i64.wrap z).tmod (13:Int)) l).2.1,.i (S11V z ((i64.wrap z).tmod (13:Int)) l).2.2.1,.sl opS (S11V z ((i64.wrap z).tmod (13:Int)) l).2.2.2])]):=by kernel_rfl
theorem q8h (l:List (Int × Int)) (e:Int) (w:Int × Int) (Q:QT) (R:RT):sA CR1 Tryz.f79 Q R [.code (qad Tryz.f79)] (entry [.sl rgS,iI,rgS] (l,e,w,())) =
  (bc (decide ([w.1,w.2]=[(0:Int),(0:Int)])) (bc (decide (e=(0:Int))) (Q [.bool (decide ((l.length:Int)=(0:Int)))] [(5,.var [.i w.1,.i w.2])]) (false=false/\Q [.bool false] [(5,.var [.i w.1,.i w.2])])) (bc (decide (e=(0:Int))) (0+1<=([(w.1,w.2)]:List rgS.D).length/\ctSr.pre (l,([(w.1,w.2)]:List rgS.D),())/\Q [.bool (decide ((have this:=l;this)=([(w.1,w.2)]:List rgS.D)))] [(5,.var [.i w.1,.i w.2]),(22,.row 127 rgS ([(w.1,w.2)]:List rgS.D))]) (false=false/\Q [.bool false] [(5,.var [.i w.1,.i w.2])]))):=by kernel_rfl
def qif (p q p2 q2:PaT) (e e2:Int):List (Nat × LB):=[(2,.var [.bool p.1,.i p.2.1,.i p.2.2.1,.sl opS p.2.2.2,.bool q.1,.i q.2.1,.i q.2.2.1,.sl opS q.2.2.2,.i e]),(3,.var [.bool p2.1,.i p2.2.1,.i p2.2.2.1,.sl opS p2.2.2.2,.bool q2.1,.i q2.2.1,.i q2.2.2.1,.sl opS q2.2.2.2,.i e2])]
theorem q8e (p q p2 q2:PaT) (e e2:Int) (Q:QT) (R:RT):sA CR2 Tryz.f42 Q R [.code (qad Tryz.f42)] (entry [exS,exS] ((p,q,e),(p2,q2,e2),())) =
  (ctSm.pre (p,p2,())/\bc (smB p p2) (ctSm.pre (q,q2,())/\bc (bif true then smB q q2 else false) (Q [.bool (decide (e=e2))] (qif p q p2 q2 e e2)) (false=false/\Q [.bool false] (qif p q p2 q2 e e2))) (false=false/\false=false/\Q [.bool false] (qif p q p2 q2 e e2))):=by kernel_rfl
theorem q86 (p q:PaT) (Q:QT) (R:RT):sA CR3 Tryz.f43 Q R [.code (qad Tryz.f43)] (entry [paS,paS] (p,q,())) =
  (ctCm.pre (p,q,())/\Q [.agg [.bool (cmV p q).1.1,.i (cmV p q).1.2.1,.i (cmV p q).1.2.2.1,.sl opS (cmV p q).1.2.2.2,.bool (cmV p q).2.1.1,.i (cmV p q).2.1.2.1,.i (cmV p q).2.1.2.2.1,.sl opS (cmV p q).2.1.2.2.2,.i (cmV p q).2.2]] [(2,.var (pL p.1 p.2.1 p.2.2.1 p.2.2.2)),(3,.var (pL q.1 q.2.1 q.2.2.1 q.2.2.2)),(4,.var [.bool (cmV p q).1.1,.i (cmV p q).1.2.1,.i (cmV p q).1.2.2.1,.sl opS (cmV p q).1.2.2.2,.bool (cmV p q).2.1.1,.i (cmV p q).2.1.2.1,.i (cmV p q).2.1.2.2.1,.sl opS (cmV p q).2.1.2.2.2,.i (cmV p q).2.2]),(5,.var [.bool (cmV p q).1.1,.i (cmV p q).1.2.1,.i (cmV p q).1.2.2.1,.sl opS (cmV p q).1.2.2.2]),(6,.var [.bool (cmV p q).2.1.1,.i (cmV p q).2.1.2.1,.i (cmV p q).2.1.2.2.1,.sl opS (cmV p q).2.1.2.2.2])]):=by kernel_rfl
theorem p1_mt (p:PaT):MtL (λ _=>none) [paV p] [.agg (pL p.1 p.2.1 p.2.2.1 p.2.2.2)]:=⟨_,_,rfl,⟨_,rfl,_,_,rfl,rfl,_,_,rfl,rfl,_,_,rfl,rfl,_,_,rfl,.inl rfl,rfl⟩,rfl⟩
def qv9 (z:Int) (l:List (List Int)):Prop:=(0<=z/\z<256)/\qtf l/\l.length<9223372036854775808
noncomputable def zab (z:Int) (l:List (List Int)):PaT:=S11V z ((IntKind.i64.wrap z).tmod 13) l
theorem q3j {z:Int} {l:List (List Int)} (h:qv9 z l):qrp ((IntKind.i64.wrap z).tmod 13) l:=by
 obtain ⟨⟨h1,h2⟩,h3,h4⟩:=h;rw[IntWalk.i64_in z (by omega)];exact ⟨h3,Int.tmod_nonneg _ h1,Int.tmod_lt_of_pos _ (by omega),h4⟩
noncomputable def ctM11:Ctr:=⟨[raS],λ x=>qv9 x.1.1 x.1.2,λ x=>[paV (zab x.1.1 x.1.2)],λ _=>[]⟩
theorem q0p:Held Tryz.prog G0 31 ctM11:=Held.run cxR4 (fn:=Tryz.f31) rfl rfl ⟨by decide,by decide⟩ λ ⟨⟨z,l⟩,_⟩ hp=>(q4q z l _ _).mpr ⟨by omega,q3j hp,QC.mt (p1_mt _) rfl⟩
def rgsV (l:List (Int × Int)) (e:Int) (w:Int × Int):Bool:=match decide ([w.1,w.2]=[(0:Int),0]) with
 | true=>match decide (e=0) with
  | true=>decide ((l.length:Int)=0)
  | false=>false
 | false=>match decide (e=0) with
  | true=>decide (l=[(w.1,w.2)])
  | false=>false
def ctRgs:Ctr:=⟨[.sl rgS,iI,rgS],λ x=>List.length x.1<1099511627776,λ x=>[.bool (rgsV x.1 x.2.1 x.2.2.1)],λ _=>[]⟩
theorem q51 (l:List (Int × Int)) (e:Int) (w:Int × Int) (hl:l.length<1099511627776) (R:List Item->PS->Prop):sA CR1 Tryz.f79 (QC ctRgs (l,e,w,())) R [.code (qad Tryz.f79)] (entry [.sl rgS,iI,rgS] (l,e,w,())):=by
 have fin:∀ {v:Bool} {blk},rgsV l e w=v->QC ctRgs (l,e,w,()) [.bool v] blk:=fun {v blk} h=>QC.flat (by show [SV.bool (rgsV l e w)]=[SV.bool v];rw[h]) rfl rfl
 refine (q8h l e w _ _).mpr (qaf (λ h=>qaf (λ h2=>fin ?_) (λ h2=>⟨rfl,fin ?_⟩)) (λ h=>qaf (λ h2=>⟨by simp,hl,fin ?_⟩) (λ h2=>⟨rfl,fin ?_⟩))) <;> (unfold rgsV;rw[h,h2])
theorem qzs:Held Tryz.prog G0 79 ctRgs:=Held.run cxR1 (fn:=Tryz.f79) rfl rfl ⟨by decide,by decide⟩ λ ⟨l,e,w,_⟩ hp=>q51 l e w hp _
def smeV (x y:exS.D):Bool:=match smB x.1 y.1 with
 | true=>match smB x.2.1 y.2.1 with
  | true=>decide (x.2.2=y.2.2)
  | false=>false
 | false=>false
def q28 (x:exS.D):Prop:=x.1.2.2.2.length<1099511627776/\x.2.1.2.2.2.length<1099511627776
def ctSme:Ctr:=⟨[exS,exS],λ x=>q28 x.1,λ x=>[.bool (smeV x.1 x.2.1)],λ _=>[]⟩
theorem q5u (p q p2 q2:PaT) (e e2:Int) (hp:q28 (p,q,e)) (R:List Item->PS->Prop):sA CR2 Tryz.f42 (QC ctSme ((p,q,e),(p2,q2,e2),())) R [.code (qad Tryz.f42)] (entry [exS,exS] ((p,q,e),(p2,q2,e2),())):=by
 have fin:∀ {v:Bool} {blk},smeV (p,q,e) (p2,q2,e2)=v->QC ctSme ((p,q,e),(p2,q2,e2),()) [.bool v] blk:=fun {v blk} h=>QC.flat (by show [SV.bool (smeV (p,q,e) (p2,q2,e2))]=[SV.bool v];rw[h]) rfl rfl
 refine (q8e p q p2 q2 e e2 _ _).mpr ⟨hp.1,qaf (λ h=>⟨hp.2,?_⟩) (λ h=>⟨rfl,rfl,fin ?_⟩)⟩
 ·refine qaf (λ h2=>fin ?_) (λ h2=>⟨rfl,fin ?_⟩)
  ·have h2:smB q q2=true:=h2;unfold smeV;simp only[h,h2]
  ·have h2:smB q q2=false:=h2;unfold smeV;simp only[h,h2]
 ·unfold smeV;simp only[h]
theorem qrb:Held Tryz.prog G0 42 ctSme:=Held.run cxR2 (fn:=Tryz.f42) rfl rfl ⟨by decide,by decide⟩ λ ⟨⟨p,q,e⟩,⟨p2,q2,e2⟩,_⟩ hp=>q5u p q p2 q2 e e2 hp _
def exV (x:PaT × PaT × Int):SV:=.agg [.bool x.1.1,.i x.1.2.1,.i x.1.2.2.1,.sl opS x.1.2.2.2,.bool x.2.1.1,.i x.2.1.2.1,.i x.2.1.2.2.1,.sl opS x.2.1.2.2.2,.i x.2.2]
def ctExc:Ctr:=⟨[paS,paS],λ _=>True,λ x=>[exV (cmV x.1 x.2.1)],λ _=>[]⟩
theorem qsf:Held Tryz.prog G0 43 ctExc:=Held.run cxR3 (fn:=Tryz.f43) rfl rfl ⟨by decide,by decide⟩ λ ⟨p,q,_⟩ _=>(q86 p q _ _).mpr ⟨trivial,QC.mt ⟨_,_,rfl,⟨_,rfl,_,_,rfl,rfl,_,_,rfl,rfl,_,_,rfl,rfl,_,_,rfl,.inl rfl,_,_,rfl,rfl,_,_,rfl,rfl,_,_,rfl,rfl,_,_,rfl,.inl rfl,_,_,rfl,rfl,rfl⟩,rfl⟩ rfl⟩
def CTo:CV:=[(80,.inl ctSys)]
theorem cxTo:CxOK Tryz.prog tt G0 CTo:=cx0.k qmv (fn:=Tryz.f80)
set_option maxRecDepth 100000
theorem vc_to (p:PaT) (Q:QT) (R:RT):sA CTo Tryz.f48 Q (λ it S=>R it (qa5 [3,4,5] [8,1040960] S)) [.code (qad Tryz.f48)] (entry [paS] (p,())) =
  ((0:Int)<=p.2.1/\p.2.1<=p.2.1/\p.2.1<2 ^ 24/\(↑(1:Nat):Int)*p.2.1<=2 ^ 48/\ctSys.pre (p,())/\R (hd Tryz.f48 0) { env:=[(3,.win true Sh.bool (8:Nat) (0:Nat) (Int.toNat p.2.1)),(4,.win true syS 1040960 0 (sySy p).length),(5,.i 0)],blk:=[(8,.row 4 Sh.bool (List.replicate (Int.toNat p.2.1) Sh.bool.dflt)),(1040960,.row 93 syS (sySy p))] }):=by kernel_rfl
theorem q2l (b:List Bool) (s:List SyT) (i:Int) (Q:QT) (R:RT):sA CTo Tryz.f48 Q (λ it S=>R it (qa5 [3,4,5] [8,1040960] S)) (hd Tryz.f48 0) ⟨[(3,.win true .bool 8 0 b.length),(4,.win true syS 1040960 0 s.length),(5,.i i)],[(8,.row 4 .bool b),(1040960,.row 93 syS s)]⟩ =
  (bc (decide (i<(s.length:Int))) ((0:Int)<=i/\i<(s.length:Int)/\0+i.toNat<s.length/\(0:Int)<=i/\i<(b.length:Int)/\0+i.toNat<b.length/\R (hd Tryz.f48 0) { env:=[(3,.win true Sh.bool (8:Nat) (0:Nat) b.length),(4,.win true syS 1040960 0 s.length),(5,.i (IntKind.i64.wrap (i+1)))],blk:=[(8,.row 4 Sh.bool (b.set (0+i.toNat) !decide ([Cl.cb (gtY s (0+i.toNat)).1,Cl.ci IntKind.i64 (gtY s (0+i.toNat)).2.1,Cl.ci IntKind.u8 (gtY s (0+i.toNat)).2.2]=[Cl.cb true,Cl.ci IntKind.i64 i,Cl.ci IntKind.u8 (0:Int)]))),(1040960,.row 93 syS s)] }) (Q [.win true Sh.bool (8:Nat) (0:Nat) b.length] [(8,.row 4 Sh.bool b),(1040960,.row 93 syS s)])):=by kernel_rfl
structure IsP (n:Nat) (l:List SyT) (p:PaT):Prop where
 ck:(chkV p).2=0
 sf:symF p.2.2.2=l
 li:p.1=false
 hm:p.2.1=n
 ho:p.2.2.1=n
 len:l.length=n
 le:n<=4096
 ok:∀ s∈l,sOK n s=true
variable {n:Nat} {l a b c:List SyT} {p q r:PaT}
theorem IsP.sy (h:IsP n l p):symV p=(l,0):=by rw[qzd h.ck,h.sf]
theorem IsP.sySy (h:IsP n l p):sySy p=l:=by unfold Go.Proofs.YtgopblmdkjkbbaaGreatDoor.sySy;rw[h.sy]
theorem zag {l:List SyT} (h:q1f l):IsP l.length l (mkP l):=by
 obtain ⟨_,h2,h3⟩:=q3h h;exact ⟨h2,h3,rfl,rfl,rfl,rfl,h.1,h.2⟩
theorem qxi (h1:l.length=n) (h2:n<=4096) (h3:∀ s∈l,sOK n s=true):IsP n l (nfP false n l):=by
 obtain ⟨k1,k2,_⟩:=nf_ok (m:=n) false h3 (by omega) (by omega) (by omega);exact ⟨k1,k2,rfl,rfl,by show (l.length:Int)=n;omega,h1,h2,h3⟩
theorem IsP.fo (h:IsP n l p):foV p=(nfP false n l,0):=by
 rw[fo_nf h.ck (by rw[h.ho];have:=h.le;omega),h.li,h.hm,h.sf]
theorem q5f (h:IsP n a p) (k:IsP n b q):syEr [p,q]=0:=by
 unfold syEr syEr syEr;rw[h.sy,k.sy];rfl
theorem IsP.all (h:IsP n a p) (k:IsP n b q):qah [p,q]=([a,b],0):=by
 rw[qpt (q5f h k)]
 ·show ([Go.Proofs.YtgopblmdkjkbbaaGreatDoor.sySy p,Go.Proofs.YtgopblmdkjkbbaaGreatDoor.sySy q],(0:Int))=_
  rw[h.sySy,k.sySy]
 ·simp[othB,q1e,h.li,k.li]
 ·simp[uneB,q1e,h.hm,k.hm,h.ho,k.ho]
theorem zae (ha:∀ s∈a,sOK n s=true) (hb:∀ s∈b,sOK n s=true):∀ s∈mgL a b,sOK n s=true:=by
 have key:∀ (rs:List (Int × SyT)) (o:List SyT),(∀ x∈rs,sOK n x.2=true)->(∀ s∈o,sOK n s=true)->∀ s∈mgF rs o,sOK n s=true:=by
  intro rs
  induction rs with
  | nil=>intro o _ h;exact h
  | cons x rs ih=>exact λ o h1 h2=>ih _ (λ y hy=>h1 y (by simp[hy])) (q23 h2 (h1 x (by simp)))
 refine key _ _ (λ x hx=>?_) hb;have:∀ (i:Nat) (a:List SyT),(∀ s∈a,sOK n s=true)->∀ x∈whF tcB i a,sOK n x.2=true:=by
  intro i a
  induction a generalizing i with
  | nil=>intro _ x hx;cases hx
  | cons s a ih=>
   intro h x hx;unfold whF at hx;split at hx
   ·rcases List.mem_cons.1 hx with rfl | hx
    ·exact h s (by simp)
    ·exact ih (i+1) (λ y hy=>h y (by simp[hy])) x hx
   ·exact ih (i+1) (λ y hy=>h y (by simp[hy])) x hx
 exact this 0 a ha x hx
theorem q6z:∀ (a:List SyT) (i:Nat) (o:List SyT),i+a.length<=o.length->∀ j,j<o.length->gtY (mgF (whF tcB i a) o) j=if i<=j/\j<i+a.length/\tcB j (gtY a (j-i))=true then gtY a (j-i) else gtY o j:=by
 intro a
 induction a with
 | nil=>intro i o _ j _;rw[if_neg (by rintro ⟨h1,h2,_⟩;simp at h2;omega)];rfl
 | cons s a ih=>
  intro i o hl j hj;have hl':i+1+a.length<=o.length:=by simp at hl;omega
  have step:∀ o':List SyT,o'.length=o.length->(∀ j,j≠i->j<o.length->gtY o' j=gtY o j)->gtY o' i=(if tcB i s=true then s else gtY o i)->gtY (mgF (whF tcB (i+1) a) o') j=if i<=j/\j<i+(s::a).length/\tcB j (gtY (s::a) (j-i))=true then gtY (s::a) (j-i) else gtY o j:=by
   intro o' h1 h2 h3;rw[ih (i+1) o' (by rw[h1];exact hl') j (by rw[h1];exact hj)];by_cases e:j=i
   ·subst e;rw[if_neg (by omega),h3,Nat.sub_self,qox];simp
   ·rw[h2 j e hj];by_cases g:i+1<=j
    ·have:gtY (s::a) (j-i)=gtY a (j-(i+1)):=by
      rw[show j-i=(j-(i+1))+1 by omega];rfl
     rw[this];by_cases t:i+1<=j/\j<i+1+a.length/\tcB j (gtY a (j-(i+1)))=true
     ·rw[if_pos t,if_pos ⟨by omega,by simp;omega,t.2.2⟩]
     ·rw[if_neg t,if_neg λ t2=>t ⟨g,by have:=t2.2.1;simp at this;omega,t2.2.2⟩]
    ·rw[if_neg (by omega),if_neg (by omega)]
  unfold whF
  cases hq:tcB i s with
  | true=>
   show gtY (mgF (whF tcB (i+1) a) (o.set ((i:Int)).toNat s)) j=_
   rw[Int.toNat_natCast];refine step _ (by rw[List.length_set]) (λ j hj hjl=>?_) ?_
   ·rw[qay (by rw[List.length_set];exact hjl),qay hjl,List.getElem_set_ne (by omega)]
   ·rw[qay (by rw[List.length_set];simp at hl;omega),List.getElem_set_self];rw[hq];rfl
  | false=>exact step o rfl (λ _ _ _=>rfl) (by rw[hq];rfl)
theorem qgr:(mgL a b).length=b.length:=qqb _ _
theorem qqa (h:a.length=b.length) {j:Nat} (hj:j<b.length):gtY (mgL a b) j=if tcB j (gtY a j)=true then gtY a j else gtY b j:=by
 unfold mgL;rw[q6z a 0 b (by omega) j hj,Nat.sub_zero];by_cases t:tcB j (gtY a j)=true
 ·rw[if_pos ⟨by omega,by omega,t⟩,if_pos t]
 ·rw[if_neg (λ h=>t h.2.2),if_neg t]
theorem zao (h:a.length=b.length) (hg:∀ j,j<b.length->gtY a j=gtY b j):a=b:=by
 refine List.ext_getElem h λ i h1 h2=>?_
 rw[<- qay h1,<- qay h2];exact hg i h2
def noCl (a b:List SyT):Prop:=∀ j,j<a.length->tcB j (gtY a j)=true->tcB j (gtY b j)=true->gtY a j=gtY b j
theorem qvw:∀ (r:List Int) (o:List (Int × Int)),0<o.length->0<(rngF r o).length
 | [],_,h=>h
 | i::r,o,h=>by
  rw[rngF];refine qvw r _ ?_;unfold rngS;split
  ·rw[List.length_set];exact h
  ·simp
theorem qzr {r:List Int}:(rngF r []).length=0↔r=[]:=by
 cases r with
 | nil=>simp[rngF]
 | cons i r=>
  have:=qvw r (rngS [] i) (by simp[rngS]);rw[rngF];constructor
  ·intro h;omega
  ·intro h;cases h
theorem qui {α:Type} {f:Int->α->Bool}:∀ (l:List α) (i:Nat),whF f i l=[]↔∀ j (h:j<l.length),f ((i+j:Nat):Int) l[j]=false
 | [],i=>by simp[whF]
 | s::l,i=>by
  have ih:=qui (f:=f) l (i+1);unfold whF;cases h:f i s with
  | true=>
   simp only[reduceCtorEq,false_iff];intro k;have:=k 0 (by simp);simp only[Nat.add_zero,List.getElem_cons_zero] at this;rw[h] at this;cases this
  | false=>
   simp only;rw[ih];constructor
   ·intro k j hj
    cases j with
    | zero=>simpa using h
    | succ j=>have:=k j (by simpa using hj);rw[show i+(j+1)=i+1+j by omega];simpa using this
   ·intro k j hj;have:=k (j+1) (by simpa using hj);rw[show i+(j+1)=i+1+j by omega] at this;simpa using this
theorem qxx {s t:SyT}:(!decide ((s.1,s.2.1,s.2.2)=(t.1,t.2.1,t.2.2)))=false↔s=t:=by
 obtain ⟨s1,s2,s3⟩:=s;obtain ⟨t1,t2,t3⟩:=t;simp
theorem q52:(rgCV a b).length=0↔noCl a b:=by
 unfold rgCV;rw[qzr,List.map_eq_nil_iff,qui];constructor
 ·intro h j hj h1 h2;have:=h j hj;rw[Nat.zero_add,<- qay hj] at this;unfold clB at this;rw[h1,Int.toNat_natCast,h2,Bool.true_and,Bool.true_and] at this;exact qxx.1 this
 ·intro h j hj;rw[Nat.zero_add,<- qay hj];unfold clB;rw[Int.toNat_natCast]
  cases h1:tcB j (gtY a j) with
  | false=>rfl
  | true=>
   cases h2:tcB j (gtY b j) with
   | false=>rfl
   | true=>rw[Bool.true_and,Bool.true_and];exact qxx.2 (h j hj h1 h2)
theorem mg_ok (h:IsP n a p) (k:IsP n b q) (hc:noCl a b):mgV p q=(nfP false n (mgL a b),0)/\IsP n (mgL a b) (nfP false n (mgL a b)):=by
 have hl:(mgL a b).length=n:=by rw[qgr,k.len]
 have hs:=zae h.ok k.ok;refine ⟨?_,qxi hl h.le hs⟩;have hcp:=zax (m:=n) hs (by omega) (by have:=h.le;omega) (by rw[hl];exact h.le);unfold mgV;rw[h.all k,h.sySy,k.sySy,show decide ((([a,b],(0:Int)):List (List SyT) × Int).2≠0)=false from rfl,decide_eq_false (show ¬ 0<(rgCV a b).length by have:=q52.2 hc;omega),h.hm,hcp,h.li];rfl
theorem q5b {j:Nat} {s:SyT} (h:tcB j s=false):s=(true,(j:Int),0):=by unfold tcB at h;exact (qxx (s:=s) (t:=(true,(j:Int),0))).1 h
theorem q0h (hl:a.length=b.length) (hc:noCl a b):mgL a b=mgL b a:=by
 refine zao (by rw[qgr,qgr,hl]) λ j hj=>?_
 rw[qgr] at hj;rw[qqa hl (by omega),qqa hl.symm hj]
 cases h1:tcB j (gtY a j) <;> cases h2:tcB j (gtY b j) <;> simp only[if_true,if_false,Bool.false_eq_true]
 ·have e1:gtY a j=(true,(j:Int),0):=by
   exact q5b h1
  have e2:gtY b j=(true,(j:Int),0):=by
   exact q5b h2
  rw[e1,e2]
 ·exact hc j hj h1 h2
theorem qrc (p:PaT):smB p p=true:=by
 have:∀ l:List OpT,smL l l=true:=by
  intro l
  induction l with
  | nil=>rfl
  | cons x l ih=>rw[smL,ih,Bool.and_true];unfold soB;simp
 unfold smB;simp[this]
end Go.Proofs.YtgopblmdkjkbbaaGreatDoor
namespace Go.Proofs.YtgopblmdkjkbbaaGreatDoor
open Go.Px Go.Ax
set_option maxRecDepth 100000
section
variable {α β:Type} {f:Int->α->Bool} {g:Int->β->Bool}
theorem whF_t {s:α} {l:List α} {i:Nat} (h:f i s=true):whF f i (s::l)=((i:Int),s)::whF f (i+1) l:=by
 conv=>lhs;unfold whF;rw[h]
theorem whF_f {s:α} {l:List α} {i:Nat} (h:f i s=false):whF f i (s::l)=whF f (i+1) l:=by
 conv=>lhs;unfold whF;rw[h]
end
attribute [local irreducible] Go.Px.sy Go.Px.syE
def toI (s:List SyT) (i:Nat):List Bool:=(List.range s.length).map λ j=>decide (j<i)&&tcB j (gtY s j)
theorem qe1 (s:List SyT) (i:Nat):(toI s i).length=s.length:=by simp[toI]
theorem q5a {s:List SyT} {i:Nat}:(toI s i).set i (tcB i (gtY s i))=toI s (i+1):=by
 refine List.ext_getElem (by simp[toI]) λ j h1 h2=>?_
 rw[List.getElem_set];simp only[toI,List.getElem_map,List.getElem_range];by_cases e:i=j
 ·subst e;rw[if_pos rfl,decide_eq_true (show i<i+1 by omega),Bool.true_and]
 ·rw[if_neg e]
  congr 1
  exact decide_eq_decide.2 (by omega)
theorem toI_z (s:List SyT):toI s 0=List.replicate s.length false:=by
 refine List.ext_getElem (by simp[toI]) λ j h1 h2=>?_
 simp[toI]
def ctTo:Ctr:=⟨[paS],λ x=>evP x.1,λ x=>[.win true .bool 0 0 (toI (sySy x.1) (sySy x.1).length).length],λ x=>[.row 4 .bool (toI (sySy x.1) (sySy x.1).length)]⟩
theorem q49 {s:List SyT} {Q:List SV->List (Nat × LB)->Prop} (hs:s.length<=65536) (hQ:∀ blk,lk blk 8=some (.row 4 .bool (toI s s.length))->Q [.win true .bool 8 0 s.length] blk):∀ (k i:Nat),s.length-i=k->i<=s.length ->
  GD 48 Tryz.f48 Q (hd Tryz.f48 0) ⟨[(3,.win true .bool 8 0 (toI s i).length),(4,.win true syS 1040960 0 s.length),(5,.i (i:Nat))],[(8,.row 4 .bool (toI s i)),(1040960,.row 93 syS s)]⟩:=by
 intro k
 induction k with
 | zero=>
  intro i hk hi;refine qak cxTo (q2l (toI s i) s i _ _) ?_;rw[decide_eq_false (show ¬ (i:Int)<(s.length:Int) by omega),bc_f,qe1];have e:i=s.length:=by omega
  subst e;exact hQ _ rfl
 | succ k ih=>
  intro i hk hi;have nx:=ih (i+1) (by omega) (by omega);rw[<- q5a,List.length_set] at nx;refine qak cxTo (q2l (toI s i) s i _ _) ?_;rw[decide_eq_true (show (i:Int)<(s.length:Int) by omega),bc_t,Int.toNat_natCast,Nat.zero_add,IntWalk.i64_in ((i:Int)+1) (by omega)];have e:(!decide ([Cl.cb (gtY s i).1,Cl.ci IntKind.i64 (gtY s i).2.1,Cl.ci IntKind.u8 (gtY s i).2.2]=[Cl.cb true,Cl.ci IntKind.i64 (i:Int),Cl.ci IntKind.u8 (0:Int)]))=tcB i (gtY s i):=by
   unfold tcB;generalize gtY s i=y;obtain ⟨y1,y2,y3⟩:=y;simp
  rw[e];have hl:=qe1 s i;exact ⟨by omega,by omega,by omega,by omega,by omega,by omega,nx.only ⟨rfl,rfl,rfl,trivial⟩ ⟨rfl,rfl,trivial⟩⟩
theorem qu6:Held Tryz.prog G0 48 ctTo:=Held.of cxTo (fn:=Tryz.f48) rfl rfl ⟨by decide,by decide⟩ λ ⟨p,_⟩ hp=>by
 have hp:evP p:=hp;obtain ⟨h1,⟨h2,h3⟩,_⟩:=qfo hp;have hs:(sySy p).length<=65536:=by omega
 have e:Int.toNat p.2.1=(sySy p).length:=by omega
 refine qak cxTo (vc_to p _ _) ⟨h2,by omega,by omega,by omega,trivial,?_⟩;rw[e];have g:=q49 (s:=sySy p) (Q:=QC ctTo (p,())) hs (λ blk hb=>QC.row0 (e:=.bool) (et:=4) (xs:=toI (sySy p) (sySy p).length) rfl rfl rfl (by rw[qe1]) hb) _ 0 rfl (Nat.zero_le _);rw[toI_z,List.length_replicate] at g;exact g.only ⟨rfl,rfl,rfl,trivial⟩ ⟨rfl,rfl,trivial⟩
theorem q8a  (Q:QT) (R:RT):sA [] Tryz.f78 Q R [.code (qad Tryz.f78)] (entry [] ()) =
  (0+1<=([(9:Int)]:List uB.D).length/\0+1<=([(9:Int)]:List uB.D).length/\0+1<=([(1:Int)]:List uB.D).length/\0+1<=([(1:Int)]:List uB.D).length/\0+3<=((((List.replicate (3:Nat) opS.dflt).set (0:Nat) ((1:Int),(0:Int),(1:Int),(0:Int),[])).set (1:Nat) ((4:Int),(0:Int),(1:Int),(0:Int),([(9:Int)]:List uB.D))).set (2:Nat) ((1:Int),(2:Int),(2:Int),(0:Int),[])).length/\0+3<=((((List.replicate (3:Nat) opS.dflt).set (0:Nat) ((1:Int),(0:Int),(1:Int),(0:Int),[])).set (1:Nat) ((4:Int),(0:Int),(1:Int),(0:Int),([(9:Int)]:List uB.D))).set (2:Nat) ((1:Int),(2:Int),(2:Int),(0:Int),[])).length/\0+3<=((((List.replicate (3:Nat) opS.dflt).set (0:Nat) ((1:Int),(0:Int),(1:Int),(0:Int),[])).set (1:Nat) ((4:Int),(0:Int),(1:Int),(0:Int),([(9:Int)]:List uB.D))).set (2:Nat) ((1:Int),(2:Int),(2:Int),(0:Int),[])).length/\0+3<=((((List.replicate (3:Nat) opS.dflt).set (0:Nat) ((1:Int),(0:Int),(1:Int),(0:Int),[])).set (1:Nat) ((4:Int),(0:Int),(1:Int),(0:Int),([(9:Int)]:List uB.D))).set (2:Nat) ((1:Int),(2:Int),(2:Int),(0:Int),[])).length/\0+2<=(((List.replicate (2:Nat) opS.dflt).set (0:Nat) ((1:Int),(0:Int),(3:Int),(0:Int),[])).set (1:Nat) ((2:Int),(0:Int),(1:Int),(0:Int),([(1:Int)]:List uB.D))).length/\0+2<=(((List.replicate (2:Nat) opS.dflt).set (0:Nat) ((1:Int),(0:Int),(3:Int),(0:Int),[])).set (1:Nat) ((2:Int),(0:Int),(1:Int),(0:Int),([(1:Int)]:List uB.D))).length/\0+2<=(((List.replicate (2:Nat) opS.dflt).set (0:Nat) ((1:Int),(0:Int),(3:Int),(0:Int),[])).set (1:Nat) ((2:Int),(0:Int),(1:Int),(0:Int),([(1:Int)]:List uB.D))).length/\0+2<=(((List.replicate (2:Nat) opS.dflt).set (0:Nat) ((1:Int),(0:Int),(3:Int),(0:Int),[])).set (1:Nat) ((2:Int),(0:Int),(1:Int),(0:Int),([(1:Int)]:List uB.D))).length/\0+2<=(((List.replicate (2:Nat) opS.dflt).set (0:Nat) ((1:Int),(0:Int),(1:Int),(0:Int),[])).set (1:Nat) ((3:Int),(0:Int),(3:Int),(9:Int),[])).length/\0+2<=(((List.replicate (2:Nat) opS.dflt).set (0:Nat) ((1:Int),(0:Int),(1:Int),(0:Int),[])).set (1:Nat) ((3:Int),(0:Int),(3:Int),(9:Int),[])).length/\Q [.arr (3:Nat) paS (((List.set (Sh.arr (3:Nat) paS).dflt (0:Nat) (false,(4:Int),(4:Int),winL opS 0 3 ((((List.replicate (3:Nat) opS.dflt).set (0:Nat) ((1:Int),(0:Int),(1:Int),(0:Int),[])).set (1:Nat) ((4:Int),(0:Int),(1:Int),(0:Int),([(9:Int)]:List uB.D))).set (2:Nat) ((1:Int),(2:Int),(2:Int),(0:Int),[])))).set (1:Nat) (false,(4:Int),(4:Int),winL opS 0 2 (((List.replicate (2:Nat) opS.dflt).set (0:Nat) ((1:Int),(0:Int),(3:Int),(0:Int),[])).set (1:Nat) ((2:Int),(0:Int),(1:Int),(0:Int),([(1:Int)]:List uB.D))))).set (2:Nat) (false,(4:Int),(4:Int),winL opS 0 2 (((List.replicate (2:Nat) opS.dflt).set (0:Nat) ((1:Int),(0:Int),(1:Int),(0:Int),[])).set (1:Nat) ((3:Int),(0:Int),(3:Int),(9:Int),[]))))] [(0,.var [.arr (3:Nat) paS (((List.set (Sh.arr (3:Nat) paS).dflt (0:Nat) (false,(4:Int),(4:Int),winL opS 0 3 ((((List.replicate (3:Nat) opS.dflt).set (0:Nat) ((1:Int),(0:Int),(1:Int),(0:Int),[])).set (1:Nat) ((4:Int),(0:Int),(1:Int),(0:Int),([(9:Int)]:List uB.D))).set (2:Nat) ((1:Int),(2:Int),(2:Int),(0:Int),[])))).set (1:Nat) (false,(4:Int),(4:Int),winL opS 0 2 (((List.replicate (2:Nat) opS.dflt).set (0:Nat) ((1:Int),(0:Int),(3:Int),(0:Int),[])).set (1:Nat) ((2:Int),(0:Int),(1:Int),(0:Int),([(1:Int)]:List uB.D))))).set (2:Nat) (false,(4:Int),(4:Int),winL opS 0 2 (((List.replicate (2:Nat) opS.dflt).set (0:Nat) ((1:Int),(0:Int),(1:Int),(0:Int),[])).set (1:Nat) ((3:Int),(0:Int),(3:Int),(9:Int),[]))))]),(1,.var [.bool false,.i 4,.i 4,.sl opS (winL opS 0 3 ((((List.replicate (3:Nat) opS.dflt).set (0:Nat) ((1:Int),(0:Int),(1:Int),(0:Int),[])).set (1:Nat) ((4:Int),(0:Int),(1:Int),(0:Int),([(9:Int)]:List uB.D))).set (2:Nat) ((1:Int),(2:Int),(2:Int),(0:Int),[])))]),(2,.var [.bool false,.i 4,.i 4,.sl opS (winL opS 0 2 (((List.replicate (2:Nat) opS.dflt).set (0:Nat) ((1:Int),(0:Int),(3:Int),(0:Int),[])).set (1:Nat) ((2:Int),(0:Int),(1:Int),(0:Int),([(1:Int)]:List uB.D))))])]):=by kernel_rfl
def thrL:List PaT:=[(false,4,4,[(1,0,1,0,[]),(4,0,1,0,[9]),(1,2,2,0,[])]),(false,4,4,[(1,0,3,0,[]),(2,0,1,0,[1])]),(false,4,4,[(1,0,1,0,[]),(3,0,3,9,[])])]
def ctThr:Ctr:=⟨[],λ _=>True,λ _=>[.arr 3 paS thrL],λ _=>[]⟩
theorem qy6:Held Tryz.prog G0 78 ctThr:=Held.run cx0 (fn:=Tryz.f78) rfl rfl ⟨by decide,by decide⟩ λ _ _=>(q8a _ _).mpr (by
 repeat' first
  | (refine And.intro ?_ ?_)
  | (exact QC.flat rfl rfl rfl)
  | decide)
def CSan:CV:=[(78,.inl ctThr),(33,.inl ctTch),(35,.inl ctRd),(38,.inl ctCl),(40,.inl ctMg),(79,.inl ctRgs),(27,.inl ctSm),(43,.inl ctExc),(42,.inl ctSme)]
theorem cxSan:CxOK Tryz.prog tt G0 CSan:=((((((((cx0.k qrb (fn:=Tryz.f42)).k qsf (fn:=Tryz.f43)).k qvh (fn:=Tryz.f27)).k qzs (fn:=Tryz.f79)).k qr2 (fn:=Tryz.f40)).k q0o (fn:=Tryz.f38)).k q0m (fn:=Tryz.f35)).k qw3 (fn:=Tryz.f33)).k qy6 (fn:=Tryz.f78)
set_option maxRecDepth 100000
theorem q4p  (Q:QT) (R:RT):sA CSan Tryz.f30 Q R [.code (qad Tryz.f30)] (entry [] ()) =
  (ctThr.pre ()/\(0:Int)<=0/\(0:Int)<(↑(3:Nat):Int)/\0<3/\ctTch.pre ((gtP thrL (0)),())/\(0:Int)<=2/\(2:Int)<(↑(3:Nat):Int)/\2<3/\ctTch.pre ((gtP thrL (2)),())/\(0:Int)<=1/\(1:Int)<(↑(3:Nat):Int)/\1<3/\ctRd.pre ((gtP thrL (1)),())/\(0:Int)<=0/\(0:Int)<(↑(3:Nat):Int)/\0<3/\(0:Int)<=2/\(2:Int)<(↑(3:Nat):Int)/\2<3/\ctCl.pre ((gtP thrL (0)),(gtP thrL (2)),())/\(0:Int)<=1/\(1:Int)<(↑(3:Nat):Int)/\1<3/\(0:Int)<=2/\(2:Int)<(↑(3:Nat):Int)/\2<3/\ctCl.pre ((gtP thrL (1)),(gtP thrL (2)),())/\(0:Int)<=0/\(0:Int)<(↑(3:Nat):Int)/\0<3/\(0:Int)<=1/\(1:Int)<(↑(3:Nat):Int)/\1<3/\ctMg.pre ((gtP thrL (0)),(gtP thrL (1)),())/\(0:Int)<=0/\(0:Int)<(↑(3:Nat):Int)/\0<3/\ctMg.pre ((gtP thrL (0)),(false,(0:Int),(0:Int),[]),())/\(0:Int)<=1/\(1:Int)<(↑(3:Nat):Int)/\1<3/\(0:Int)<=2/\(2:Int)<(↑(3:Nat):Int)/\2<3/\ctMg.pre ((gtP thrL (1)),(gtP thrL (2)),())/\0+1<=([(9:Int)]:List uB.D).length/\0+1<=([(9:Int)]:List uB.D).length/\0+1<=([(1:Int)]:List uB.D).length/\0+1<=([(1:Int)]:List uB.D).length/\0+(tchV (gtP thrL (0))).1.length<=(tchV (gtP thrL (0))).1.length/\ctRgs.pre (winL rgS 0 (tchV (gtP thrL (0))).1.length (tchV (gtP thrL (0))).1,(tchV (gtP thrL (0))).2,((1:Int),(2:Int)),())/\0+(tchV (gtP thrL (2))).1.length<=(tchV (gtP thrL (2))).1.length/\ctRgs.pre (winL rgS 0 (tchV (gtP thrL (2))).1.length (tchV (gtP thrL (2))).1,(tchV (gtP thrL (2))).2,((1:Int),(4:Int)),())/\0+(rdV (gtP thrL (1))).1.length<=(rdV (gtP thrL (1))).1.length/\ctRgs.pre (winL rgS 0 (rdV (gtP thrL (1))).1.length (rdV (gtP thrL (1))).1,(rdV (gtP thrL (1))).2,((0:Int),(1:Int)),())/\0+(clV (gtP thrL (0)) (gtP thrL (2))).1.length<=(clV (gtP thrL (0)) (gtP thrL (2))).1.length/\ctRgs.pre (winL rgS 0 (clV (gtP thrL (0)) (gtP thrL (2))).1.length (clV (gtP thrL (0)) (gtP thrL (2))).1,(clV (gtP thrL (0)) (gtP thrL (2))).2,((0:Int),(0:Int)),())/\0+(clV (gtP thrL (1)) (gtP thrL (2))).1.length<=(clV (gtP thrL (1)) (gtP thrL (2))).1.length/\ctRgs.pre (winL rgS 0 (clV (gtP thrL (1)) (gtP thrL (2))).1.length (clV (gtP thrL (1)) (gtP thrL (2))).1,(clV (gtP thrL (1)) (gtP thrL (2))).2,((3:Int),(4:Int)),())/\0+4<=(((((List.replicate (4:Nat) opS.dflt).set (0:Nat) ((1:Int),(0:Int),(1:Int),(0:Int),[])).set (1:Nat) ((4:Int),(0:Int),(1:Int),(0:Int),([(9:Int)]:List uB.D))).set (2:Nat) ((1:Int),(2:Int),(1:Int),(0:Int),[])).set (3:Nat) ((2:Int),(0:Int),(1:Int),(0:Int),([(1:Int)]:List uB.D))).length/\ctSm.pre (((mgV (gtP thrL (0)) (gtP thrL (1))).1),(false,(4:Int),(4:Int),winL opS 0 4 (((((List.replicate (4:Nat) opS.dflt).set (0:Nat) ((1:Int),(0:Int),(1:Int),(0:Int),[])).set (1:Nat) ((4:Int),(0:Int),(1:Int),(0:Int),([(9:Int)]:List uB.D))).set (2:Nat) ((1:Int),(2:Int),(1:Int),(0:Int),[])).set (3:Nat) ((2:Int),(0:Int),(1:Int),(0:Int),([(1:Int)]:List uB.D)))),())/\(0:Int)<=0/\(0:Int)<(↑(3:Nat):Int)/\0<3/\(0:Int)<=1/\(1:Int)<(↑(3:Nat):Int)/\1<3/\ctExc.pre ((gtP thrL (0)),(gtP thrL (1)),())/\(0:Int)<=1/\(1:Int)<(↑(3:Nat):Int)/\1<3/\(0:Int)<=0/\(0:Int)<(↑(3:Nat):Int)/\0<3/\ctSme.pre ((((cmV (gtP thrL (0)) (gtP thrL (1))).1),((cmV (gtP thrL (0)) (gtP thrL (1))).2.1.1,(cmV (gtP thrL (0)) (gtP thrL (1))).2.1.2.1,(cmV (gtP thrL (0)) (gtP thrL (1))).2.1.2.2.1,(cmV (gtP thrL (0)) (gtP thrL (1))).2.1.2.2.2),(cmV (gtP thrL (0)) (gtP thrL (1))).2.2),((gtP thrL (1)),(gtP thrL (0)),(0:Int)),())/\(0:Int)<=1/\(1:Int)<(↑(3:Nat):Int)/\1<3/\(0:Int)<=2/\(2:Int)<(↑(3:Nat):Int)/\2<3/\ctExc.pre ((gtP thrL (1)),(gtP thrL (2)),())/\Q [.bool (decide ((cmV (gtP thrL (1)) (gtP thrL (2))).2.2=(110:Int)))] [(1,.var [.arr (3:Nat) paS thrL]),(12,.var [.bool (mgV (gtP thrL (0)) (gtP thrL (1))).1.1,.i (mgV (gtP thrL (0)) (gtP thrL (1))).1.2.1,.i (mgV (gtP thrL (0)) (gtP thrL (1))).1.2.2.1,.sl opS (mgV (gtP thrL (0)) (gtP thrL (1))).1.2.2.2]),(14,.var [.bool (mgV (gtP thrL (0)) (false,(0:Int),(0:Int),[])).1.1,.i (mgV (gtP thrL (0)) (false,(0:Int),(0:Int),[])).1.2.1,.i (mgV (gtP thrL (0)) (false,(0:Int),(0:Int),[])).1.2.2.1,.sl opS (mgV (gtP thrL (0)) (false,(0:Int),(0:Int),[])).1.2.2.2]),(16,.var [.bool (mgV (gtP thrL (1)) (gtP thrL (2))).1.1,.i (mgV (gtP thrL (1)) (gtP thrL (2))).1.2.1,.i (mgV (gtP thrL (1)) (gtP thrL (2))).1.2.2.1,.sl opS (mgV (gtP thrL (1)) (gtP thrL (2))).1.2.2.2]),(18,.var [.bool false,.i 4,.i 4,.win true opS 84 0 (4:Nat)]),(84,.row 91 opS (((((List.replicate (4:Nat) opS.dflt).set (0:Nat) ((1:Int),(0:Int),(1:Int),(0:Int),[])).set (1:Nat) ((4:Int),(0:Int),(1:Int),(0:Int),([(9:Int)]:List uB.D))).set (2:Nat) ((1:Int),(2:Int),(1:Int),(0:Int),[])).set (3:Nat) ((2:Int),(0:Int),(1:Int),(0:Int),([(1:Int)]:List uB.D)))),(1098304,.row 127 rgS (tchV (gtP thrL (0))).1),(1122880,.row 127 rgS (tchV (gtP thrL (2))).1),(1147456,.row 127 rgS (rdV (gtP thrL (1))).1),(1180224,.row 127 rgS (clV (gtP thrL (0)) (gtP thrL (2))).1),(1212992,.row 127 rgS (clV (gtP thrL (1)) (gtP thrL (2))).1)]):=by kernel_rfl
def ctSn11:Ctr:=⟨[],λ _=>True,λ _=>[.bool true],λ _=>[]⟩
theorem q0g (R:List Item->PS->Prop):sA CSan Tryz.f30 (QC ctSn11 ()) R [.code (qad Tryz.f30)] (entry [] ()):=by
 refine (q4p _ _).mpr ?_
 repeat' first
  | exact trivial
  | (show List.length _<1000000;decide +kernel)
  | (show List.length _<16777216;decide +kernel)
  | (show List.length _<1099511627776;decide +kernel)
  | decide +kernel
  | refine And.intro ?_ ?_
  | (refine QC.flat ?_ rfl rfl)
  | (refine congrArg (λ b=>[SV.bool b]) ?_;decide +kernel)
theorem qwz:Held Tryz.prog G0 30 ctSn11:=Held.run cxSan (fn:=Tryz.f30) rfl rfl ⟨by decide,by decide⟩ λ x _=>q0g _
abbrev gtRa (l:List (Int × List (List Int))) (i:Nat):Int × List (List Int):=gt raS l i
noncomputable abbrev oP (x:List (Int × List (List Int))):PaT:=zab (gtRa x (0)).fst (gtRa x (0)).snd
noncomputable abbrev oQ (x:List (Int × List (List Int))) (i:Nat):PaT:=S11V (gtRa x i).fst (oP x).snd.fst (gtRa x i).snd
set_option maxRecDepth 100000
theorem qyi {n:Nat} {v:PaT} (h:P11 n v):∃ l,IsP n l v/\byY l:=by
 obtain ⟨l,⟨h1,hb⟩,h2,rfl⟩:=h;have h2:l.length=n:=by omega
 subst h2;exact ⟨l,zag h1,hb⟩
def preX (x:List (Int × List (List Int))):Prop:=∀ j,qv9 (gtRa x j).1 (gtRa x j).2
theorem oP_ok {x:List (Int × List (List Int))} (h:preX x):∃ n:Nat,n<13/\∃ a,IsP n a (oP x)/\byY a:=by
 have k:=q3j (h 0);have k1:=(qyh (z:=(gtRa x 0).1) k).1;obtain ⟨_,k2,k3,_⟩:=k;obtain ⟨n,hn⟩:=Int.eq_ofNat_of_zero_le k2;have k1:P11 ((IntKind.i64.wrap (gtRa x 0).1).tmod 13) (oP x):=k1;rw[hn] at k1 k3;exact ⟨n,by omega,qyi k1⟩
theorem q3d {x:List (Int × List (List Int))} (h:preX x) {n:Nat} (hn:n<13) (e:(oP x).2.1=n) (i:Nat):qrp (oP x).2.1 (gtRa x i).2:=by
 rw[e];exact ⟨(h i).2.1,by omega,by omega,(h i).2.2⟩
theorem oQ_ok {x:List (Int × List (List Int))} (h:preX x) {n:Nat} (hn:n<13) (e:(oP x).2.1=n) (i:Nat):∃ b,IsP n b (oQ x i)/\byY b:=by
 have k:=(qyh (z:=(gtRa x i).1) (q3d h hn e i)).1;rw[e] at k;have k:P11 n (oQ x i):=by show P11 n (S11V (gtRa x i).1 (oP x).2.1 (gtRa x i).2);rw[e];exact k
 exact qyi k
theorem q2j:(z4).2.2.2.length<1099511627776:=by decide
theorem qxm {s:List SyT} {i:Nat} (hi:i<s.length):gtT (toI s s.length) i=tcB i (gtY s i):=by
 have h:gtT (toI s s.length) i=(toI s s.length)[i]'(by rw[qe1];exact hi):=gtE (e:=.bool) (by rw[qe1];exact hi);rw[h];simp[toI,hi]
theorem IsP.ev {n:Nat} {a:List SyT} {p:PaT} (h:IsP n a p):evP p:=⟨by rw[h.sy],by rw[h.hm,h.ho]⟩
abbrev doL (x:List Int) (l:List SyT):List Int:=l.map (ruB x)
theorem qil {x:List Int} {l:List SyT} {j:Nat} (h:j<l.length):gtB (doL x l) j=ruB x (gtY l j):=by
 rw[qk5 (by rw[List.length_map];exact h),List.getElem_map,qay h]
theorem ru_id {x:List Int} {j:Nat} (h:0<=gtB x j/\gtB x j<256):ruB x (true,(j:Int),0)=gtB x j:=by
 unfold ruB;simp only[if_true,Int.toNat_natCast,Int.zero_add];exact IntWalk.u8_in _ (by omega)
theorem qpc {x:List Int} {l:List SyT} {j:Nat} (hj:j<l.length) (hx:0<=gtB x j/\gtB x j<256) (h:tcB j (gtY l j)=false):gtB (doL x l) j=gtB x j:=by
 rw[qil hj,q5b h,ru_id hx]
theorem do_mg {x:List Int} {a b:List SyT} {j:Nat} (h:a.length=b.length) (hj:j<b.length):gtB (doL x (mgL a b)) j=if tcB j (gtY a j)=true then gtB (doL x a) j else gtB (doL x b) j:=by
 rw[qil (by rw[qgr];exact hj),qqa h hj];split
 ·rw[qil (by omega)]
 ·rw[qil hj]
def reads (l:List SyT) (m:Nat):Prop:=∃ j,j<l.length/\tcB j (gtY l j)=true/\(gtY l j).1=true/\(gtY l j).2.1.toNat=m
theorem q7l {x y:List Int} {l:List SyT} (h:∀ m,reads l m->gtB x m=gtB y m) {j:Nat} (hj:j<l.length) (ht:tcB j (gtY l j)=true):gtB (doL x l) j=gtB (doL y l) j:=by
 rw[qil hj,qil hj];unfold ruB
 cases ho:(gtY l j).1 with
 | false=>simp
 | true=>rw[h _ ⟨j,hj,ht,ho,rfl⟩]
def qk4 (a b:List SyT):Prop:=∀ j,j<a.length->tcB j (gtY a j)=true->tcB j (gtY b j)=false/\¬ reads b j
theorem q7g {a b:List Int} (h:a.length=b.length) (hg:∀ j,j<b.length->gtB a j=gtB b j):a=b:=by
 refine List.ext_getElem h λ i h1 h2=>?_
 rw[<- qk5 h1,<- qk5 h2];exact hg i h2
theorem q3s {x:List Int} {a b:List SyT} (hl:a.length=b.length) (hxl:x.length=a.length) (hx:∀ j,0<=gtB x j/\gtB x j<256) (hru:∀ j,0<=gtB (doL x a) j/\gtB (doL x a) j<256) (h1:qk4 a b) (hr:∀ m,reads b m->m<a.length):doL (doL x a) b=doL x (mgL a b):=by
 refine q7g (by simp[qgr]) λ j hj=>?_
 have hj:j<b.length:=by simpa [qgr] using hj
 rw[do_mg hl hj]
 cases ta:tcB j (gtY a j) with
 | true=>
  rw[if_pos rfl,qpc hj (hru j) (h1 j (by omega) ta).1]
 | false=>
  rw[if_neg (by decide)]
  cases tb:tcB j (gtY b j) with
  | false=>
   rw[qpc hj (hru j) tb,qpc (by omega) (hx j) ta,qpc hj (hx j) tb]
  | true=>
   refine q7l (λ m hm=>?_) hj tb;have hm2:=hr m hm
   cases tm:tcB m (gtY a m) with
   | true=>exact absurd hm (h1 m hm2 tm).2
   | false=>exact qpc hm2 (hx m) tm
theorem qi2 {l:List Bool} {i:Nat} (h:i<l.length):gtT l i=l[i]:=gtE (e:=.bool) h
theorem qm6:∀ (rs:List (Int × SyT)) (o:List Bool) (m:Nat),m<o.length->(gtT (rdbF rs o) m=true↔gtT o m=true\/∃ x∈rs,x.2.1=true/\x.2.2.1.toNat=m)
 | [],o,m,h=>by simp[rdbF]
 | x::rs,o,m,h=>by
  rw[rdbF]
  cases hq:x.2.1 with
  | true=>
   have ih:=qm6 rs (o.set x.2.2.1.toNat true) m (by rw[List.length_set];exact h)
   show gtT (rdbF rs (o.set x.2.2.1.toNat true)) m=true↔_
   rw[ih,qi2 (by rw[List.length_set];exact h),qi2 h,List.getElem_set];constructor
   ·rintro (k | ⟨y,hy,k⟩)
    ·split at k
     next e=>exact .inr ⟨x,by simp,hq,e⟩
     ·exact .inl k
    ·exact .inr ⟨y,by simp[hy],k⟩
   ·rintro (k | ⟨y,hy,k1,k2⟩)
    ·left;split
     ·rfl
     ·exact k
    ·rcases List.mem_cons.1 hy with rfl | hy
     ·left;rw[if_pos k2]
     ·exact .inr ⟨y,hy,k1,k2⟩
  | false=>
   have ih:=qm6 rs o m h
   show gtT (rdbF rs o) m=true↔_
   rw[ih];constructor
   ·rintro (k | ⟨y,hy,k⟩)
    ·exact .inl k
    ·exact .inr ⟨y,by simp[hy],k⟩
   ·rintro (k | ⟨y,hy,k1,k2⟩)
    ·exact .inl k
    ·rcases List.mem_cons.1 hy with rfl | hy
     ·rw[hq] at k1;cases k1
     ·exact .inr ⟨y,hy,k1,k2⟩
theorem qg0 {α:Type} {f:Int->α->Bool}:∀ (l:List α) (i:Nat) (x:Int × α),x∈whF f i l↔∃ j,∃ h:j<l.length,x=(((i+j:Nat):Int),l[j])/\f ((i+j:Nat):Int) l[j]=true
 | [],i,x=>by simp[whF]
 | s::l,i,x=>by
  have ih:=qg0 (f:=f) l (i+1) x;have key:(∃ j,∃ h:j<(s::l).length,x=(((i+j:Nat):Int),(s::l)[j])/\f ((i+j:Nat):Int) (s::l)[j]=true)↔(x=((i:Int),s)/\f i s=true)\/x∈whF f (i+1) l:=by
   rw[ih];constructor
   ·rintro ⟨j,hj,e,k⟩
    cases j with
    | zero=>exact .inl ⟨e,k⟩
    | succ j=>exact .inr ⟨j,by simpa using hj,by rw[e,show i+1+j=i+(j+1) by omega];rfl,by rw[show i+1+j=i+(j+1) by omega];exact k⟩
   ·rintro (⟨e,k⟩ | ⟨j,hj,e,k⟩)
    ·exact ⟨0,by simp,e,k⟩
    ·exact ⟨j+1,by simpa using hj,by rw[e,show i+(j+1)=i+1+j by omega];rfl,by rw[show i+(j+1)=i+1+j by omega];exact k⟩
  rw[key];cases h:f i s with
  | true=>rw[whF_t h,List.mem_cons];simp
  | false=>rw[whF_f h];simp
theorem qkd {l:List SyT} {m:Nat} (hm:m<l.length):gtT (rdbV l) m=true↔reads l m:=by
 unfold rdbV;rw[qm6 _ _ _ (by rw[List.length_replicate];exact hm),qi2 (by rw[List.length_replicate];exact hm)];simp only[List.getElem_replicate,Bool.false_eq_true,false_or];constructor
 ·rintro ⟨x,hx,h1,h2⟩;obtain ⟨j,hj,e,k⟩:=(qg0 l 0 x).1 hx;subst e;rw[Nat.zero_add] at k;exact ⟨j,hj,by rw[qay hj];exact k,by rw[qay hj];exact h1,by rw[qay hj];exact h2⟩
 ·rintro ⟨j,hj,k,h1,h2⟩;rw[qay hj] at k h1 h2;exact ⟨((j:Int),l[j]),(qg0 l 0 _).2 ⟨j,hj,by rw[Nat.zero_add],by rw[Nat.zero_add];exact k⟩,h1,h2⟩
theorem qnu {a b:List SyT} (hl:a.length=b.length):disB a b=false↔qk4 a b:=by
 unfold disB;rw[List.any_eq_false];constructor
 ·intro h j hj ht;have:=h ((j:Int),a[j]) ((qg0 a 0 _).2 ⟨j,hj,by rw[Nat.zero_add],by rw[Nat.zero_add,<- qay hj];exact ht⟩);simp only[disP,Int.toNat_natCast,Bool.or_eq_true,not_or,Bool.not_eq_true] at this;exact ⟨this.1,λ q=>by rw[<- qkd (by omega)] at q;rw[q] at this;cases this.2⟩
 ·intro h x hx;obtain ⟨j,hj,e,k⟩:=(qg0 a 0 x).1 hx;subst e;rw[Nat.zero_add] at k |-;have:=h j hj (by rw[qay hj];exact k);simp only[disP,Int.toNat_natCast,Bool.or_eq_true,not_or,Bool.not_eq_true];refine ⟨this.1,?_⟩
  cases q:gtT (rdbV b) j with
  | false=>rfl
  | true=>exact absurd ((qkd (by omega)).1 q) this.2
theorem cm_ok {n:Nat} {a b:List SyT} {p q:PaT} (h:IsP n a p) (k:IsP n b q) (h1:qk4 a b) (h2:qk4 b a):cmV p q=(nfP false n b,nfP false n a,0):=by
 have hl:a.length=b.length:=by rw[h.len,k.len]
 unfold cmV;rw[h.all k,h.sySy,k.sySy,(qnu hl).2 h1,(qnu hl.symm).2 h2,h.fo,k.fo];rfl
theorem cm_no {n:Nat} {a b:List SyT} {p q:PaT} (h:IsP n a p) (k:IsP n b q) (hi:¬ (qk4 a b/\qk4 b a)):cmV p q=(z4,z4,110):=by
 have hl:a.length=b.length:=by rw[h.len,k.len]
 unfold cmV;rw[h.all k,h.sySy,k.sySy];rw[show decide ((([a,b],(0:Int)):List (List SyT) × Int).2≠0)=false from rfl]
 cases d1:disB a b with
 | true=>rfl
 | false=>
  cases d2:disB b a with
  | true=>rfl
  | false=>exact absurd ⟨(qnu hl).1 d1,(qnu hl.symm).1 d2⟩ hi
theorem qr8 {a b:List SyT} (h:qk4 a b):noCl a b:=λ j hj h1 h2=>by
 rw[(h j hj h1).1] at h2;cases h2
def CQ:CV:=[(62,.inl ctPl),(22,.inl ctSym)]
theorem cxQ:CxOK Tryz.prog tt G0 CQ:=(cx0.k qmx (fn:=Tryz.f22)).k q6b (fn:=Tryz.f62)
theorem qy3 (old:List Int) (li:Bool) (m o:Int) (l:List OpT) (Q:QT) (R:RT):sA CQ Tryz.f17 Q R [.code (qad Tryz.f17)] (entry [.sl uB,paS] (old,(li,m,o,l),())) =
  (ctSym.pre ((li,m,o,l),())/\bc (decide ((symV (li,m,o,l)).2≠0)) (Q [.nils,.i (symV (li,m,o,l)).2] [(3,.var (pL li m o l)),(1040960,.row 93 syS (symV (li,m,o,l)).1)]) (bc li False ((0:Nat)+(symV (li,m,o,l)).1.length<=(symV (li,m,o,l)).1.length/\ctPl.pre (old,m,winL syS 0 (symV (li,m,o,l)).1.length (symV (li,m,o,l)).1,())/\Q [.win true uB 1118784 0 (plV old m (winL syS 0 (symV (li,m,o,l)).1.length (symV (li,m,o,l)).1)).1.length,.i (plV old m (winL syS 0 (symV (li,m,o,l)).1.length (symV (li,m,o,l)).1)).2] [(3,.var (pL li m o l)),(1040960,.row 93 syS (symV (li,m,o,l)).1),(1118784,.row 5 uB (plV old m (winL syS 0 (symV (li,m,o,l)).1.length (symV (li,m,o,l)).1)).1)]))):=by kernel_rfl
def apV (old:List Int) (p:PaT):List Int × Int:=if (symV p).2=0 then plV old p.2.1 (symV p).1 else ([],(symV p).2)
def ctAp:Ctr:=⟨[.sl uB,paS],λ x=>x.2.1.1=false,λ x=>[.win true uB 0 0 (apV x.1 x.2.1).1.length,.i (apV x.1 x.2.1).2],λ x=>[.row 5 uB (apV x.1 x.2.1).1]⟩
theorem q74:Held Tryz.prog G0 17 ctAp:=by
 refine Held.run cxQ (fn:=Tryz.f17) rfl rfl ⟨by decide,by decide⟩ ?_;rintro ⟨old,⟨li,m,o,l⟩,⟨⟩⟩ hp;replace hp:li=false:=hp;subst hp;refine (qy3 old false m o l _ _).mpr ⟨trivial,qaf (λ h=>?_) (λ h=>?_)⟩
 ·have h:(symV (false,m,o,l)).2≠0:=of_decide_eq_true h;have hv:apV old (false,m,o,l)=([],(symV (false,m,o,l)).2):=if_neg h;refine qkf (e:=uB) (et:=5) (z:=(symV (false,m,o,l)).2) ?_ ?_ rfl (by decide)
  ·show [_,_]=_;rw[hv];rfl
  ·show [_]=_;rw[hv]
 ·have h:¬ (symV (false,m,o,l)).2≠0:=of_decide_eq_false h;have h:(symV (false,m,o,l)).2=0:=by simpa using h
  have hv:apV old (false,m,o,l)=plV old m (symV (false,m,o,l)).1:=if_pos h;have hl:=qzc (false,m,o,l);have hw:winL syS 0 (symV (false,m,o,l)).1.length (symV (false,m,o,l)).1=(symV (false,m,o,l)).1:=winA (e:=syS) _;rw[bc_f,hw];refine ⟨Nat.le_of_eq (Nat.zero_add _),hl,?_⟩;refine qke (e:=uB) (et:=5) (a:=1118784) (z:=(plV old m (symV (false,m,o,l)).1).2) (xs:=(plV old m (symV (false,m,o,l)).1).1) ?_ ?_ rfl rfl rfl
  ·show [_,_]=_;rw[hv]
  ·show [_]=_;rw[hv]
theorem q9x {m:Int} {old:List Int} {s:SyT} (h:sOK m s=true) (hm:m=(old.length:Int)):ruOK old s=true:=by
 subst hm;obtain ⟨s1,s2,s3⟩:=s;unfold sOK at h;unfold ruOK
 cases s1 with
 | false=>rfl
 | true=>simp at h |-;omega
theorem qph {n:Nat} {a:List SyT} {p:PaT} {old:List Int} (h:IsP n a p) (hl:old.length=n):apV old p=(doL old a,0):=by
 unfold apV plV;rw[h.sy,if_pos rfl,if_pos (by rw[hl,h.hm])];unfold runV;rw[if_pos (List.all_eq_true.2 λ x hx=>q9x (h.ok x hx) (by rw[hl]))]
theorem qx0 {x:List Int} {l:List SyT}:(doL x l).length=l.length:=List.length_map ..
def by8 (x:List Int):Prop:=∀ j,0<=gtB x j/\gtB x j<256
theorem u8w (n:Int):0<=IntKind.u8.wrap n/\IntKind.u8.wrap n<256:=by
 rw[show IntKind.u8.wrap n=n % 256 from rfl];omega
theorem zal {x:List Int} {j:Nat} (h:x.length<=j):gtB x j=0:=by
 show gt uB _ _=_
 unfold gt;rw[List.getElem?_eq_none h];rfl
theorem qx6 {x:List Int} (h:∀ v∈x,0<=v/\v<256):by8 x:=λ j=>by
 by_cases hj:j<x.length
 ·rw[qk5 hj];exact h _ (List.getElem_mem hj)
 ·rw[zal (by omega)];decide
theorem qx5 {x:List Int} {l:List SyT} (h:byY l):by8 (doL x l):=qx6 λ v hv=>by
 obtain ⟨s,hs,rfl⟩:=List.mem_map.1 hv;unfold ruB;split
 ·exact u8w _
 ·exact h s hs
theorem q7z {x:List Int} (h:by8 x) (n:Nat):by8 (inpL x n):=qx6 λ v hv=>by
 obtain ⟨i,_,rfl⟩:=List.mem_map.1 hv;unfold inB;split
 ·exact h _
 ·exact u8w _
theorem q24 {n:Nat} {a:List SyT} {p:PaT} (h:IsP n a p) {m:Nat} (hr:reads a m):m<n:=by
 obtain ⟨j,hj,_,ho,he⟩:=hr;have:=h.ok _ (show gtY a j∈a by rw[qay hj];exact List.getElem_mem hj);revert ho he this;generalize gtY a j=s;obtain ⟨s1,s2,s3⟩:=s;intro ho he h;subst ho;simp[sOK] at h;have he:s2.toNat=m:=he;omega
open Go.IntKind(i64 u32 u8)
def CRd:CV:=[(80,.inl ctSys),(48,.inl ctTo)]
theorem cxRd:CxOK Tryz.prog tt G0 CRd:=(cx0.k qu6 (fn:=Tryz.f48)).k qmv (fn:=Tryz.f80)
def ctRs:Ctr:=⟨[paS],λ x=>evP x.1,λ x=>[.win true .bool 0 0 (rdbV (sySy x.1)).length],λ x=>[.row 4 .bool (rdbV (sySy x.1))]⟩
def CId:CV:=[(48,.inl ctTo),(91,.inl ctRs)]
set_option maxRecDepth 100000
theorem q4b (p:PaT) (Q:QT) (R:RT):sA CRd Tryz.f91 Q (λ it S=>R it (qa5 [3,4,5,6] [9,1045056,1053248] S)) [.code (qad Tryz.f91)] (entry [paS] (p,())) =
  ((0:Int)<=p.2.1/\p.2.1<=p.2.1/\p.2.1<2 ^ 24/\(↑(1:Nat):Int)*p.2.1<=2 ^ 48/\ctSys.pre (p,())/\ctTo.pre (p,())/\R (hd Tryz.f91 0) { env:=[(3,.win true Sh.bool (9:Nat) (0:Nat) (Int.toNat p.2.1)),(4,.win true syS 1045056 0 (sySy p).length),(5,.win true Sh.bool (1053248:Nat) (0:Nat) (toI (sySy p) (sySy p).length).length),(6,.i 0)],blk:=[(9,.row 4 Sh.bool (List.replicate (Int.toNat p.2.1) Sh.bool.dflt)),(1045056,.row 93 syS (sySy p)),(1053248,.row 4 Sh.bool (toI (sySy p) (sySy p).length))] }):=by kernel_rfl
theorem qq4 (o b:List Bool) (s:List SyT) (i:Int) (Q:QT) (R:RT):sA CRd Tryz.f91 Q (λ it S=>R it (qa5 [3,4,5,6] [9,1045056,1053248] S)) (hd Tryz.f91 0) ⟨[(3,.win true .bool 9 0 o.length),(4,.win true syS 1045056 0 s.length),(5,.win true .bool 1053248 0 b.length),(6,.i i)],[(9,.row 4 .bool o),(1045056,.row 93 syS s),(1053248,.row 4 .bool b)]⟩ =
  (bc (decide (i<(s.length:Int))) ((0:Int)<=i/\i<(b.length:Int)/\0+i.toNat<b.length/\bc (gtT b (0+i.toNat)) ((0:Int)<=i/\i<(s.length:Int)/\0+i.toNat<s.length/\bc (bif true then (gtY s (0+i.toNat)).1 else false) ((0:Int)<=i/\i<(s.length:Int)/\0+i.toNat<s.length/\(0:Int)<=(gtY s (0+i.toNat)).2.1/\(gtY s (0+i.toNat)).2.1<(o.length:Int)/\0+Int.toNat (gtY s (0+i.toNat)).2.1<o.length/\R (hd Tryz.f91 0) { env:=[(3,.win true Sh.bool (9:Nat) (0:Nat) o.length),(4,.win true syS 1045056 0 s.length),(5,.win true Sh.bool (1053248:Nat) (0:Nat) b.length),(6,.i (i64.wrap (i+1)))],blk:=[(9,.row 4 Sh.bool (o.set (0+Int.toNat (gtY s (0+i.toNat)).2.1) true)),(1045056,.row 93 syS s),(1053248,.row 4 Sh.bool b)] }) (R (hd Tryz.f91 0) { env:=[(3,.win true Sh.bool (9:Nat) (0:Nat) o.length),(4,.win true syS 1045056 0 s.length),(5,.win true Sh.bool (1053248:Nat) (0:Nat) b.length),(6,.i (i64.wrap (i+1)))],blk:=[(9,.row 4 Sh.bool o),(1045056,.row 93 syS s),(1053248,.row 4 Sh.bool b)] })) (false=false/\R (hd Tryz.f91 0) { env:=[(3,.win true Sh.bool (9:Nat) (0:Nat) o.length),(4,.win true syS 1045056 0 s.length),(5,.win true Sh.bool (1053248:Nat) (0:Nat) b.length),(6,.i (i64.wrap (i+1)))],blk:=[(9,.row 4 Sh.bool o),(1045056,.row 93 syS s),(1053248,.row 4 Sh.bool b)] })) (Q [.win true Sh.bool (9:Nat) (0:Nat) o.length] [(9,.row 4 Sh.bool o),(1045056,.row 93 syS s),(1053248,.row 4 Sh.bool b)])):=by kernel_rfl
theorem q83 (p q:PaT) (Q:List SV->Prop) (R:List Item->PS->Prop):sA CId Tryz.f49 (λ rs _=>Q rs) (λ it S=>R it (qa5 [2,5,6,7,8,9] [2,1045056,1053248,1061440,1069632] S)) [.code (qad Tryz.f49)] (entry [paS,paS] (p,q,())) =
  (ctTo.pre (p,())/\ctRs.pre (p,())/\ctTo.pre (q,())/\ctRs.pre (q,())/\R (hd Tryz.f49 0) { env:=[(2,.ptr 2 0),(5,.win true Sh.bool (1045056:Nat) (0:Nat) (toI (sySy p) (sySy p).length).length),(6,.win true Sh.bool (1053248:Nat) (0:Nat) (rdbV (sySy p)).length),(7,.win true Sh.bool (1061440:Nat) (0:Nat) (toI (sySy q) (sySy q).length).length),(8,.win true Sh.bool (1069632:Nat) (0:Nat) (rdbV (sySy q)).length),(9,.i 0)],blk:=[(2,.var (pL p.1 p.2.1 p.2.2.1 p.2.2.2)),(1045056,.row 4 Sh.bool (toI (sySy p) (sySy p).length)),(1053248,.row 4 Sh.bool (rdbV (sySy p))),(1061440,.row 4 Sh.bool (toI (sySy q) (sySy q).length)),(1069632,.row 4 Sh.bool (rdbV (sySy q)))] }):=by kernel_rfl
theorem quz (p:PaT) (a b c d:List Bool) (i:Int) (Q:List SV->Prop) (R:List Item->PS->Prop):sA CId Tryz.f49 (λ rs _=>Q rs) (λ it S=>R it (qa5 [2,5,6,7,8,9] [2,1045056,1053248,1061440,1069632] S)) (hd Tryz.f49 0) ⟨[(2,.ptr 2 0),(5,.win true .bool 1045056 0 a.length),(6,.win true .bool 1053248 0 b.length),(7,.win true .bool 1061440 0 c.length),(8,.win true .bool 1069632 0 d.length),(9,.i i)],[(2,.var (pL p.1 p.2.1 p.2.2.1 p.2.2.2)),(1045056,.row 4 .bool a),(1053248,.row 4 .bool b),(1061440,.row 4 .bool c),(1069632,.row 4 .bool d)]⟩ =
  (bc (decide (i<p.2.1)) ((0:Int)<=i/\i<(a.length:Int)/\0+i.toNat<a.length/\bc (gtT a (0+i.toNat)) ((0:Int)<=i/\i<(c.length:Int)/\0+i.toNat<c.length/\bc (gtT c (0+i.toNat)) (true=true/\true=true/\Q [.bool false]) ((0:Int)<=i/\i<(d.length:Int)/\0+i.toNat<d.length/\bc (bif true then bif false then true else gtT d (0+i.toNat) else false) (true=true/\Q [.bool false]) ((0:Int)<=i/\i<(b.length:Int)/\0+i.toNat<b.length/\bc (gtT b (0+i.toNat)) ((0:Int)<=i/\i<(c.length:Int)/\0+i.toNat<c.length/\bc (bif false then true else bif true then gtT c (0+i.toNat) else false) (Q [.bool false]) (R (hd Tryz.f49 0) { env:=[(2,.ptr 2 0),(5,.win true Sh.bool (1045056:Nat) (0:Nat) a.length),(6,.win true Sh.bool (1053248:Nat) (0:Nat) b.length),(7,.win true Sh.bool (1061440:Nat) (0:Nat) c.length),(8,.win true Sh.bool (1069632:Nat) (0:Nat) d.length),(9,.i (i64.wrap (i+1)))],blk:=[(2,.var (pL p.1 p.2.1 p.2.2.1 p.2.2.2)),(1045056,.row 4 Sh.bool a),(1053248,.row 4 Sh.bool b),(1061440,.row 4 Sh.bool c),(1069632,.row 4 Sh.bool d)] })) (false=false/\R (hd Tryz.f49 0) { env:=[(2,.ptr 2 0),(5,.win true Sh.bool (1045056:Nat) (0:Nat) a.length),(6,.win true Sh.bool (1053248:Nat) (0:Nat) b.length),(7,.win true Sh.bool (1061440:Nat) (0:Nat) c.length),(8,.win true Sh.bool (1069632:Nat) (0:Nat) d.length),(9,.i (i64.wrap (i+1)))],blk:=[(2,.var (pL p.1 p.2.1 p.2.2.1 p.2.2.2)),(1045056,.row 4 Sh.bool a),(1053248,.row 4 Sh.bool b),(1061440,.row 4 Sh.bool c),(1069632,.row 4 Sh.bool d)] })))) (false=false/\(0:Int)<=i/\i<(b.length:Int)/\0+i.toNat<b.length/\bc (gtT b (0+i.toNat)) ((0:Int)<=i/\i<(c.length:Int)/\0+i.toNat<c.length/\bc (bif false then true else bif true then gtT c (0+i.toNat) else false) (Q [.bool false]) (R (hd Tryz.f49 0) { env:=[(2,.ptr 2 0),(5,.win true Sh.bool (1045056:Nat) (0:Nat) a.length),(6,.win true Sh.bool (1053248:Nat) (0:Nat) b.length),(7,.win true Sh.bool (1061440:Nat) (0:Nat) c.length),(8,.win true Sh.bool (1069632:Nat) (0:Nat) d.length),(9,.i (i64.wrap (i+1)))],blk:=[(2,.var (pL p.1 p.2.1 p.2.2.1 p.2.2.2)),(1045056,.row 4 Sh.bool a),(1053248,.row 4 Sh.bool b),(1061440,.row 4 Sh.bool c),(1069632,.row 4 Sh.bool d)] })) (false=false/\R (hd Tryz.f49 0) { env:=[(2,.ptr 2 0),(5,.win true Sh.bool (1045056:Nat) (0:Nat) a.length),(6,.win true Sh.bool (1053248:Nat) (0:Nat) b.length),(7,.win true Sh.bool (1061440:Nat) (0:Nat) c.length),(8,.win true Sh.bool (1069632:Nat) (0:Nat) d.length),(9,.i (i64.wrap (i+1)))],blk:=[(2,.var (pL p.1 p.2.1 p.2.2.1 p.2.2.2)),(1045056,.row 4 Sh.bool a),(1053248,.row 4 Sh.bool b),(1061440,.row 4 Sh.bool c),(1069632,.row 4 Sh.bool d)] }))) (Q [.bool true])):=by kernel_rfl
def rdsN (s:List SyT):Nat->List Bool
 | 0=>List.replicate s.length false
 | i+1=>match tcB i (gtY s i)&&(gtY s i).1 with
  | true=>(rdsN s i).set (gtY s i).2.1.toNat true
  | false=>rdsN s i
theorem qdq (s:List SyT):∀ i,(rdsN s i).length=s.length
 | 0=>by simp[rdsN]
 | i+1=>by
  rw[rdsN];split
  ·rw[List.length_set,qdq]
  ·exact qdq s i
theorem qrl {s:List SyT} {m:Nat} (hm:m<s.length):∀ i,gtT (rdsN s i) m=true↔∃ j,j<i/\tcB j (gtY s j)=true/\(gtY s j).1=true/\(gtY s j).2.1.toNat=m
 | 0=>by
  rw[qi2 (by rw[qdq];exact hm)];simp[rdsN]
 | i+1=>by
  have ih:=qrl hm i;have hl:=qdq s i;have k:(∃ j,j<i+1/\tcB j (gtY s j)=true/\(gtY s j).1=true/\(gtY s j).2.1.toNat=m)↔gtT (rdsN s i) m=true\/(tcB i (gtY s i)=true/\(gtY s i).1=true/\(gtY s i).2.1.toNat=m):=by
   rw[ih];constructor
   ·rintro ⟨j,h1,h2⟩;by_cases e:j=i
    ·subst e;exact .inr h2
    ·exact .inl ⟨j,by omega,h2⟩
   ·rintro (⟨j,h1,h2⟩ | h)
    ·exact ⟨j,by omega,h2⟩
    ·exact ⟨i,by omega,h⟩
  rw[k,rdsN]
  cases ht:tcB i (gtY s i) <;> cases ho:(gtY s i).1 <;> simp only[Bool.and_true,Bool.and_false,Bool.false_eq_true,false_and,and_false,or_false,true_and]
  rw[qi2 (by rw[List.length_set,hl];exact hm),qi2 (by rw[hl];exact hm),List.getElem_set];by_cases e:(gtY s i).2.1.toNat=m
  ·rw[if_pos e];simp[e]
  ·rw[if_neg e];simp[e]
theorem qjl (s:List SyT):(rdbV s).length=s.length:=by unfold rdbV;rw[qjm,List.length_replicate]
theorem qzx (s:List SyT):rdsN s s.length=rdbV s:=by
 refine List.ext_getElem (by rw[qdq,qjl]) λ m h1 h2=>?_
 have hm:m<s.length:=by rw[qdq] at h1;exact h1
 rw[<- qi2 h1,<- qi2 h2,Bool.eq_iff_iff,qrl hm,qkd hm];rfl
theorem q5z {s:List SyT} {Q:List SV->List (Nat × LB)->Prop} (hy:evY s) (hs:s.length<=65536) (hQ:∀ blk,lk blk 9=some (.row 4 .bool (rdsN s s.length))->Q [.win true .bool 9 0 s.length] blk):∀ (k i:Nat),s.length-i=k->i<=s.length ->
  GD 91 Tryz.f91 Q (hd Tryz.f91 0) ⟨[(3,.win true .bool 9 0 (rdsN s i).length),(4,.win true syS 1045056 0 s.length),(5,.win true .bool 1053248 0 (toI s s.length).length),(6,.i (i:Nat))],[(9,.row 4 .bool (rdsN s i)),(1045056,.row 93 syS s),(1053248,.row 4 .bool (toI s s.length))]⟩:=by
 intro k
 induction k with
 | zero=>
  intro i hk hi;have e:i=s.length:=by omega
  subst e;refine qak cxRd (qq4 (rdsN s s.length) (toI s s.length) s _ _ _) ?_;rw[decide_eq_false (show ¬ ((s.length:Nat):Int)<(s.length:Int) by omega),bc_f,qdq];exact hQ _ rfl
 | succ k ih=>
  intro i hk hi;have hx:i<s.length:=by omega
  have nx:=ih (i+1) (by omega) (by omega);have hl:=qe1 s s.length;have hr:=qdq s i;refine qak cxRd (qq4 (rdsN s i) (toI s s.length) s i _ _) ?_;rw[decide_eq_true (show (i:Int)<(s.length:Int) by omega),bc_t,Int.toNat_natCast,Nat.zero_add,IntWalk.i64_in ((i:Int)+1) (by omega),qxm hx];have e:rdsN s (i+1)=match tcB i (gtY s i)&&(gtY s i).1 with
   | true=>(rdsN s i).set (gtY s i).2.1.toNat true
   | false=>rdsN s i:=rfl
  refine ⟨by omega,by omega,by omega,qaf (λ ht=>⟨by omega,by omega,by omega,qaf (λ ho=>?_) (λ ho=>?_)⟩) (λ ht=>⟨rfl,?_⟩)⟩
  ·have ho:(gtY s i).1=true:=ho;have hb:=hy.2 (gtY s i) (by rw[qay hx];exact List.getElem_mem hx) ho;rw[ht,ho] at e;have e:rdsN s (i+1)=(rdsN s i).set (gtY s i).2.1.toNat true:=e;rw[e,List.length_set] at nx;rw[Nat.zero_add];exact ⟨by omega,by omega,by omega,by omega,by omega,by omega,nx.only ⟨rfl,rfl,rfl,rfl,trivial⟩ ⟨rfl,rfl,rfl,trivial⟩⟩
  ·have ho:(gtY s i).1=false:=ho;rw[ht,ho] at e;have e:rdsN s (i+1)=rdsN s i:=e;rw[e] at nx;exact nx.only ⟨rfl,rfl,rfl,rfl,trivial⟩ ⟨rfl,rfl,rfl,trivial⟩
  ·rw[ht] at e;have e:rdsN s (i+1)=rdsN s i:=e;rw[e] at nx;exact nx.only ⟨rfl,rfl,rfl,rfl,trivial⟩ ⟨rfl,rfl,rfl,trivial⟩
theorem qvv:Held Tryz.prog G0 91 ctRs:=Held.of cxRd (fn:=Tryz.f91) rfl rfl ⟨by decide,by decide⟩ λ ⟨p,_⟩ hp=>by
 have hp:evP p:=hp;obtain ⟨h1,⟨h2,h3⟩,_⟩:=qfo hp;have hs:(sySy p).length<=65536:=by omega
 have e:Int.toNat p.2.1=(sySy p).length:=by omega
 refine qak cxRd (q4b p _ _) ⟨h2,by omega,by omega,by omega,trivial,hp,?_⟩;rw[e];have g:=q5z (s:=sySy p) (Q:=QC ctRs (p,())) (ev_Y hp) hs (λ blk hb=>QC.row0 (e:=.bool) (et:=4) (xs:=rdbV (sySy p)) rfl rfl rfl (by rw[qjl]) (by rw[qzx] at hb;exact hb)) _ 0 rfl (Nat.zero_le _);have e0:rdsN (sySy p) 0=List.replicate (sySy p).length false:=rfl;rw[e0,List.length_replicate] at g;exact g.only ⟨rfl,rfl,rfl,rfl,trivial⟩ ⟨rfl,rfl,rfl,trivial⟩
def indP (a b:List SyT) (j:Nat):Bool := !((tcB j (gtY a j)&&(tcB j (gtY b j) || gtT (rdbV b) j)) || (gtT (rdbV a) j&&tcB j (gtY b j)))
def indB (a b:List SyT):Bool:=(List.range a.length).all (indP a b)
theorem qr9 {a b:List SyT} (hl:a.length=b.length):indB a b=true↔qk4 a b/\qk4 b a:=by
 unfold indB;rw[List.all_eq_true];have key:∀ j,j<a.length->(indP a b j=true↔(tcB j (gtY a j)=true->tcB j (gtY b j)=false/\¬ reads b j)/\(tcB j (gtY b j)=true->tcB j (gtY a j)=false/\¬ reads a j)):=λ j hj=>by
  have r1:reads b j↔gtT (rdbV b) j=true:=(qkd (by omega)).symm;have r2:reads a j↔gtT (rdbV a) j=true:=(qkd hj).symm;rw[r1,r2];unfold indP
  cases tcB j (gtY a j) <;> cases tcB j (gtY b j) <;> cases gtT (rdbV a) j <;> cases gtT (rdbV b) j <;> simp
 constructor
 ·intro h;exact ⟨λ j hj=>((key j hj).1 (h j (List.mem_range.2 hj))).1,λ j hj=>((key j (by omega)).1 (h j (List.mem_range.2 (by omega)))).2⟩
 ·rintro ⟨h1,h2⟩ j hj;have hj:=List.mem_range.1 hj;exact (key j hj).2 ⟨h1 j hj,h2 j (by omega)⟩
def ctInd:Ctr:=⟨[paS,paS],λ x=>(evP x.1/\evP x.2.1)/\x.1.2.1=x.2.1.2.1,λ x=>[.bool (indB (sySy x.1) (sySy x.2.1))],λ _=>[]⟩
theorem cxId:CxOK Tryz.prog tt G0 CId:=(cx0.k qvv (fn:=Tryz.f91)).k qu6 (fn:=Tryz.f48)
theorem zai {a b:List SyT} {i:Nat} (hi:i<a.length) (h:indP a b i=false):indB a b=false:=by
 unfold indB;rw[List.all_eq_false];exact ⟨i,List.mem_range.2 hi,by rw[h];decide⟩
theorem q06 {p:PaT} {a b:List SyT} (hm:p.2.1=(a.length:Int)) (hl:a.length=b.length) (hs:a.length<=65536):∀ (k i:Nat),a.length-i=k->i<=a.length->(∀ j,j<i->indP a b j=true) ->
  GD 49 Tryz.f49 (λ rs _=>rs=[.bool (indB a b)]) (hd Tryz.f49 0) ⟨[(2,.ptr 2 0),(5,.win true .bool 1045056 0 (toI a a.length).length),(6,.win true .bool 1053248 0 (rdbV a).length),(7,.win true .bool 1061440 0 (toI b b.length).length),(8,.win true .bool 1069632 0 (rdbV b).length),(9,.i (i:Nat))],[(2,.var (pL p.1 p.2.1 p.2.2.1 p.2.2.2)),(1045056,.row 4 .bool (toI a a.length)),(1053248,.row 4 .bool (rdbV a)),(1061440,.row 4 .bool (toI b b.length)),(1069632,.row 4 .bool (rdbV b))]⟩:=by
 intro k
 induction k with
 | zero=>
  intro i hk hi hall;refine qak cxId (quz p _ _ _ _ _ _ _) ?_;rw[decide_eq_false (show ¬ (i:Int)<p.2.1 by omega),bc_f];have:indB a b=true:=by
   unfold indB;rw[List.all_eq_true];intro j hj;exact hall j (by have:=List.mem_range.1 hj;omega)
  rw[this]
 | succ k ih=>
  intro i hk hi hall;have hx:i<a.length:=by omega
  have nx:indP a b i=true->_:=λ h=>ih (i+1) (by omega) (by omega) (λ j hj=>by
   by_cases e:j=i
   ·subst e;exact h
   ·exact hall j (by omega))
  have l1:=qe1 a a.length;have l2:=qe1 b b.length;have l3:=qjl a;have l4:=qjl b;refine qak cxId (quz p _ _ _ _ _ _ _) ?_;rw[decide_eq_true (show (i:Int)<p.2.1 by omega),bc_t,Int.toNat_natCast,Nat.zero_add,IntWalk.i64_in ((i:Int)+1) (by omega),qxm hx,qxm (s:=b) (by omega)];have bad:indP a b i=false->[SV.bool false]=[SV.bool (indB a b)]:=λ h=>by rw[zai hx h]
  refine ⟨by omega,by omega,by omega,?_⟩
  cases h1:tcB i (gtY a i) <;> cases h2:tcB i (gtY b i) <;> cases h3:gtT (rdbV a) i <;> cases h4:gtT (rdbV b) i <;> simp only[bc_t,bc_f,cond_true,cond_false] <;>
   repeat' first
    | exact bad (by unfold indP;rw[h1,h2,h3,h4];rfl)
    | exact (nx (by unfold indP;rw[h1,h2,h3,h4];rfl)).only ⟨rfl,rfl,rfl,rfl,rfl,rfl,trivial⟩ ⟨rfl,rfl,rfl,rfl,rfl,trivial⟩
    | refine And.intro ?_ ?_
    | exact trivial
    | omega
theorem q69 (p q:PaT) (hp1:evP p) (hp2:evP q) (hp3:p.2.1=q.2.1):GD 49 Tryz.f49 (λ rs _=>rs=[.bool (indB (sySy p) (sySy q))]) [.code (qad Tryz.f49)] (entry [paS,paS] (p,q,())):=by
 obtain ⟨h1,⟨h2,h3⟩,_⟩:=qfo hp1;obtain ⟨k1,_,_⟩:=qfo hp2;have g:=q06 (p:=p) (a:=sySy p) (b:=sySy q) (by omega) (by omega) (by omega) _ 0 rfl (Nat.zero_le _) (λ j hj=>by omega);exact qak cxId (q83 p q _ _) ⟨hp1,hp1,hp2,hp2,g.only ⟨rfl,rfl,rfl,rfl,rfl,rfl,trivial⟩ ⟨rfl,rfl,rfl,rfl,rfl,trivial⟩⟩
theorem q07:Held Tryz.prog G0 49 ctInd:=Held.of cxId (fn:=Tryz.f49) rfl rfl ⟨by decide,by decide⟩ λ ⟨p,q,_⟩ hp=>
 (q69 p q hp.1.1 hp.1.2 hp.2).post λ rs blk hq=>QC.flat (by rw[hq];rfl) rfl (by rw[hq];rfl)
noncomputable def CLx:CV:=[(30,.inl ctSn11),(31,.inl ctM11),(32,.inl ctS11),(40,.inl ctMg),(14,.inl ctInp),(17,.inl ctAp),(49,.inl ctInd),(43,.inl ctExc),(42,.inl ctSme)]
theorem cxLx:CxOK Tryz.prog tt G0 CLx:=((((((((cx0.k qrb (fn:=Tryz.f42)).k qsf (fn:=Tryz.f43)).k q07 (fn:=Tryz.f49)).k q74 (fn:=Tryz.f17)).k q05 (fn:=Tryz.f14)).k qr2 (fn:=Tryz.f40)).k qrg (fn:=Tryz.f32)).k q0p (fn:=Tryz.f31)).k qwz (fn:=Tryz.f30)
set_option maxRecDepth 100000
theorem q8u (x:List (Int × List (List Int))) (b:List Int) (Q:List SV->Prop) (R:List Item->PS->Prop):sA CLx Tryz.f8 (λ rs _=>Q rs) R [.code (qad Tryz.f8)] (entry [.arr 2 raS,.sl uB] (x,b,())) =
  (ctSn11.pre ()/\(0:Int)<=0/\(0:Int)<(↑(2:Nat):Int)/\0<2/\ctM11.pre (((gtRa x (0)).1,(gtRa x (0)).2),())/\(0:Int)<=1/\(1:Int)<(↑(2:Nat):Int)/\1<2/\ctS11.pre (((gtRa x (1)).1,(gtRa x (1)).2),(oP x).2.1,())/\ctExc.pre ((oP x),(oQ x 1),())/\ctInd.pre ((oP x),(oQ x 1),())/\bc (!indB (sySy (oP x)) (sySy (oQ x 1))) (ctSme.pre ((((cmV (oP x) (oQ x 1)).1),((cmV (oP x) (oQ x 1)).2.1.1,(cmV (oP x) (oQ x 1)).2.1.2.1,(cmV (oP x) (oQ x 1)).2.1.2.2.1,(cmV (oP x) (oQ x 1)).2.1.2.2.2),(cmV (oP x) (oQ x 1)).2.2),((false,(0:Int),(0:Int),[]),(false,(0:Int),(0:Int),[]),(110:Int)),())/\bc (smeV (((cmV (oP x) (oQ x 1)).1),((cmV (oP x) (oQ x 1)).2.1.1,(cmV (oP x) (oQ x 1)).2.1.2.1,(cmV (oP x) (oQ x 1)).2.1.2.2.1,(cmV (oP x) (oQ x 1)).2.1.2.2.2),(cmV (oP x) (oQ x 1)).2.2) ((false,(0:Int),(0:Int),[]),(false,(0:Int),(0:Int),[]),(110:Int))) (Q [.bool true]) (false=false/\Q [.bool false])) (ctMg.pre ((oP x),(oQ x 1),())/\bc (decide ((cmV (oP x) (oQ x 1)).2.2≠0)) (true=true/\Q [.bool false]) (bc (bif false then true else decide ((mgV (oP x) (oQ x 1)).2≠0)) (Q [.bool false]) (ctInp.pre (b,(oP x).2.1,())/\0+(inpL b (oP x).2.1.toNat).length<=(inpL b (oP x).2.1.toNat).length/\ctAp.pre (winL uB 0 (inpL b (oP x).2.1.toNat).length (inpL b (oP x).2.1.toNat),(oP x),())/\0+(apV (winL uB 0 (inpL b (oP x).2.1.toNat).length (inpL b (oP x).2.1.toNat)) (oP x)).1.length<=(apV (winL uB 0 (inpL b (oP x).2.1.toNat).length (inpL b (oP x).2.1.toNat)) (oP x)).1.length/\ctAp.pre (winL uB 0 (apV (winL uB 0 (inpL b (oP x).2.1.toNat).length (inpL b (oP x).2.1.toNat)) (oP x)).1.length (apV (winL uB 0 (inpL b (oP x).2.1.toNat).length (inpL b (oP x).2.1.toNat)) (oP x)).1,(oQ x 1),())/\0+(inpL b (oP x).2.1.toNat).length<=(inpL b (oP x).2.1.toNat).length/\ctAp.pre (winL uB 0 (inpL b (oP x).2.1.toNat).length (inpL b (oP x).2.1.toNat),((cmV (oP x) (oQ x 1)).1),())/\0+(apV (winL uB 0 (inpL b (oP x).2.1.toNat).length (inpL b (oP x).2.1.toNat)) ((cmV (oP x) (oQ x 1)).1)).1.length<=(apV (winL uB 0 (inpL b (oP x).2.1.toNat).length (inpL b (oP x).2.1.toNat)) ((cmV (oP x) (oQ x 1)).1)).1.length/\ctAp.pre (winL uB 0 (apV (winL uB 0 (inpL b (oP x).2.1.toNat).length (inpL b (oP x).2.1.toNat)) ((cmV (oP x) (oQ x 1)).1)).1.length (apV (winL uB 0 (inpL b (oP x).2.1.toNat).length (inpL b (oP x).2.1.toNat)) ((cmV (oP x) (oQ x 1)).1)).1,((cmV (oP x) (oQ x 1)).2.1.1,(cmV (oP x) (oQ x 1)).2.1.2.1,(cmV (oP x) (oQ x 1)).2.1.2.2.1,(cmV (oP x) (oQ x 1)).2.1.2.2.2),())/\0+(inpL b (oP x).2.1.toNat).length<=(inpL b (oP x).2.1.toNat).length/\ctAp.pre (winL uB 0 (inpL b (oP x).2.1.toNat).length (inpL b (oP x).2.1.toNat),((mgV (oP x) (oQ x 1)).1),())/\bc (decide ((apV (winL uB 0 (inpL b (oP x).2.1.toNat).length (inpL b (oP x).2.1.toNat)) (oP x)).2=(0:Int))) (bc (decide ((apV (winL uB 0 (apV (winL uB 0 (inpL b (oP x).2.1.toNat).length (inpL b (oP x).2.1.toNat)) (oP x)).1.length (apV (winL uB 0 (inpL b (oP x).2.1.toNat).length (inpL b (oP x).2.1.toNat)) (oP x)).1) (oQ x 1)).2=(0:Int))) (bc (decide ((apV (winL uB 0 (inpL b (oP x).2.1.toNat).length (inpL b (oP x).2.1.toNat)) ((cmV (oP x) (oQ x 1)).1)).2=(0:Int))) (bc (decide ((apV (winL uB 0 (apV (winL uB 0 (inpL b (oP x).2.1.toNat).length (inpL b (oP x).2.1.toNat)) ((cmV (oP x) (oQ x 1)).1)).1.length (apV (winL uB 0 (inpL b (oP x).2.1.toNat).length (inpL b (oP x).2.1.toNat)) ((cmV (oP x) (oQ x 1)).1)).1) ((cmV (oP x) (oQ x 1)).2.1.1,(cmV (oP x) (oQ x 1)).2.1.2.1,(cmV (oP x) (oQ x 1)).2.1.2.2.1,(cmV (oP x) (oQ x 1)).2.1.2.2.2)).2=(0:Int))) (bc (decide ((apV (winL uB 0 (inpL b (oP x).2.1.toNat).length (inpL b (oP x).2.1.toNat)) ((mgV (oP x) (oQ x 1)).1)).2=(0:Int))) (0+(apV (winL uB 0 (apV (winL uB 0 (inpL b (oP x).2.1.toNat).length (inpL b (oP x).2.1.toNat)) (oP x)).1.length (apV (winL uB 0 (inpL b (oP x).2.1.toNat).length (inpL b (oP x).2.1.toNat)) (oP x)).1) (oQ x 1)).1.length<=(apV (winL uB 0 (apV (winL uB 0 (inpL b (oP x).2.1.toNat).length (inpL b (oP x).2.1.toNat)) (oP x)).1.length (apV (winL uB 0 (inpL b (oP x).2.1.toNat).length (inpL b (oP x).2.1.toNat)) (oP x)).1) (oQ x 1)).1.length/\0+(apV (winL uB 0 (apV (winL uB 0 (inpL b (oP x).2.1.toNat).length (inpL b (oP x).2.1.toNat)) ((cmV (oP x) (oQ x 1)).1)).1.length (apV (winL uB 0 (inpL b (oP x).2.1.toNat).length (inpL b (oP x).2.1.toNat)) ((cmV (oP x) (oQ x 1)).1)).1) ((cmV (oP x) (oQ x 1)).2.1.1,(cmV (oP x) (oQ x 1)).2.1.2.1,(cmV (oP x) (oQ x 1)).2.1.2.2.1,(cmV (oP x) (oQ x 1)).2.1.2.2.2)).1.length<=(apV (winL uB 0 (apV (winL uB 0 (inpL b (oP x).2.1.toNat).length (inpL b (oP x).2.1.toNat)) ((cmV (oP x) (oQ x 1)).1)).1.length (apV (winL uB 0 (inpL b (oP x).2.1.toNat).length (inpL b (oP x).2.1.toNat)) ((cmV (oP x) (oQ x 1)).1)).1) ((cmV (oP x) (oQ x 1)).2.1.1,(cmV (oP x) (oQ x 1)).2.1.2.1,(cmV (oP x) (oQ x 1)).2.1.2.2.1,(cmV (oP x) (oQ x 1)).2.1.2.2.2)).1.length/\bc (decide (List.map toB (winL uB 0 (apV (winL uB 0 (apV (winL uB 0 (inpL b (oP x).2.1.toNat).length (inpL b (oP x).2.1.toNat)) (oP x)).1.length (apV (winL uB 0 (inpL b (oP x).2.1.toNat).length (inpL b (oP x).2.1.toNat)) (oP x)).1) (oQ x 1)).1.length (apV (winL uB 0 (apV (winL uB 0 (inpL b (oP x).2.1.toNat).length (inpL b (oP x).2.1.toNat)) (oP x)).1.length (apV (winL uB 0 (inpL b (oP x).2.1.toNat).length (inpL b (oP x).2.1.toNat)) (oP x)).1) (oQ x 1)).1)=List.map toB (winL uB 0 (apV (winL uB 0 (apV (winL uB 0 (inpL b (oP x).2.1.toNat).length (inpL b (oP x).2.1.toNat)) ((cmV (oP x) (oQ x 1)).1)).1.length (apV (winL uB 0 (inpL b (oP x).2.1.toNat).length (inpL b (oP x).2.1.toNat)) ((cmV (oP x) (oQ x 1)).1)).1) ((cmV (oP x) (oQ x 1)).2.1.1,(cmV (oP x) (oQ x 1)).2.1.2.1,(cmV (oP x) (oQ x 1)).2.1.2.2.1,(cmV (oP x) (oQ x 1)).2.1.2.2.2)).1.length (apV (winL uB 0 (apV (winL uB 0 (inpL b (oP x).2.1.toNat).length (inpL b (oP x).2.1.toNat)) ((cmV (oP x) (oQ x 1)).1)).1.length (apV (winL uB 0 (inpL b (oP x).2.1.toNat).length (inpL b (oP x).2.1.toNat)) ((cmV (oP x) (oQ x 1)).1)).1) ((cmV (oP x) (oQ x 1)).2.1.1,(cmV (oP x) (oQ x 1)).2.1.2.1,(cmV (oP x) (oQ x 1)).2.1.2.2.1,(cmV (oP x) (oQ x 1)).2.1.2.2.2)).1))) (0+(apV (winL uB 0 (apV (winL uB 0 (inpL b (oP x).2.1.toNat).length (inpL b (oP x).2.1.toNat)) (oP x)).1.length (apV (winL uB 0 (inpL b (oP x).2.1.toNat).length (inpL b (oP x).2.1.toNat)) (oP x)).1) (oQ x 1)).1.length<=(apV (winL uB 0 (apV (winL uB 0 (inpL b (oP x).2.1.toNat).length (inpL b (oP x).2.1.toNat)) (oP x)).1.length (apV (winL uB 0 (inpL b (oP x).2.1.toNat).length (inpL b (oP x).2.1.toNat)) (oP x)).1) (oQ x 1)).1.length/\0+(apV (winL uB 0 (inpL b (oP x).2.1.toNat).length (inpL b (oP x).2.1.toNat)) ((mgV (oP x) (oQ x 1)).1)).1.length<=(apV (winL uB 0 (inpL b (oP x).2.1.toNat).length (inpL b (oP x).2.1.toNat)) ((mgV (oP x) (oQ x 1)).1)).1.length/\bc (decide (List.map toB (winL uB 0 (apV (winL uB 0 (apV (winL uB 0 (inpL b (oP x).2.1.toNat).length (inpL b (oP x).2.1.toNat)) (oP x)).1.length (apV (winL uB 0 (inpL b (oP x).2.1.toNat).length (inpL b (oP x).2.1.toNat)) (oP x)).1) (oQ x 1)).1.length (apV (winL uB 0 (apV (winL uB 0 (inpL b (oP x).2.1.toNat).length (inpL b (oP x).2.1.toNat)) (oP x)).1.length (apV (winL uB 0 (inpL b (oP x).2.1.toNat).length (inpL b (oP x).2.1.toNat)) (oP x)).1) (oQ x 1)).1)=List.map toB (winL uB 0 (apV (winL uB 0 (inpL b (oP x).2.1.toNat).length (inpL b (oP x).2.1.toNat)) ((mgV (oP x) (oQ x 1)).1)).1.length (apV (winL uB 0 (inpL b (oP x).2.1.toNat).length (inpL b (oP x).2.1.toNat)) ((mgV (oP x) (oQ x 1)).1)).1))) (Q [.bool true]) (false=false/\Q [.bool false])) (false=false/\false=false/\Q [.bool false])) (false=false/\false=false/\false=false/\Q [.bool false])) (false=false/\false=false/\false=false/\false=false/\Q [.bool false])) (false=false/\false=false/\false=false/\false=false/\false=false/\Q [.bool false])) (false=false/\false=false/\false=false/\false=false/\false=false/\false=false/\Q [.bool false])) (false=false/\false=false/\false=false/\false=false/\false=false/\false=false/\false=false/\Q [.bool false]))))):=by kernel_rfl
abbrev GDx (it:List Item) (S:PS):Prop:=GD 8 Tryz.f8 (λ rs _=>rs=[SV.bool true]) it S
theorem qvg (x:exS.D):smeV x x=true:=by
 unfold smeV;rw[qrc,qrc];simp
noncomputable def ctMx:Ctr:=⟨[.arr 2 raS,.sl uB],λ x=>preX x.1/\by8 x.2.1,λ _=>[.bool true],λ _=>[]⟩
theorem q60 (x:List (Int × List (List Int))) (b:List Int) (hx:preX x) (hb8:by8 b):GDx [.code (qad Tryz.f8)] (entry [.arr 2 raS,.sl uB] (x,b,())):=by
 obtain ⟨n,hn,a,hp,hpb⟩:=oP_ok hx;have h1:=q3d hx hn hp.hm 1;obtain ⟨c,hq,hqb⟩:=oQ_ok hx hn hp.hm 1;refine qlq cxLx (q8u x b _ _) ⟨trivial,by omega,by omega,by decide,hx 0,by omega,by omega,by decide,h1,trivial,?_,?_⟩
 ·exact ⟨⟨hp.ev,hq.ev⟩,hp.hm.trans hq.hm.symm⟩
 have hm:=hp.hm;have hal:=hp.len;have hcl:=hq.len;have hac:a.length=c.length:=by rw[hal,hcl]
 have hsy:sySy (oP x)=a:=hp.sySy;have hsq:sySy (oQ x 1)=c:=hq.sySy;generalize hpe:oP x=p at *;generalize hqe:oQ x 1=q at *;rw[hsy,hsq]
 cases hi:indB a c with
 | false=>
  have hni:¬ (qk4 a c/\qk4 c a):=λ h=>by rw[(qr9 hac).2 h] at hi;cases hi
  rw[cm_no hp hq hni,Bool.not_false,bc_t];refine ⟨⟨q2j,q2j⟩,?_⟩;rw[show smeV ((((z4,z4,(110:Int)):PaT × PaT × Int).1),((((z4,z4,(110:Int)):PaT × PaT × Int).2.1.1,((z4,z4,(110:Int)):PaT × PaT × Int).2.1.2.1,((z4,z4,(110:Int)):PaT × PaT × Int).2.1.2.2.1,((z4,z4,(110:Int)):PaT × PaT × Int).2.1.2.2.2):PaT),((z4,z4,(110:Int)):PaT × PaT × Int).2.2) ((false,0,0,[]),(false,0,0,[]),110)=true from qvg _,bc_t]
 | true=>
  obtain ⟨i1,i2⟩:=(qr9 hac).1 hi;have hc:=qr8 i1;have hc2:=qr8 i2;obtain ⟨g1,g2⟩:=mg_ok hp hq hc;have hil:(inpL b n).length=n:=qr7 b n;have pq:IsP n c (nfP false n c):=qxi hcl hq.le hq.ok;have pp:IsP n a (nfP false n a):=qxi hal hp.le hp.ok;have d1:(doL (inpL b n) a).length=n:=by rw[qx0];exact hal
  have d2:(doL (inpL b n) c).length=n:=by rw[qx0];exact hcl
  have hb:=q7z hb8 n;have t1:doL (doL (inpL b n) a) c=doL (inpL b n) (mgL a c):=q3s hac (by rw[hil,hal]) hb (qx5 hpb) i1 (λ m hr=>by have:=q24 hq hr;omega);have t2:doL (doL (inpL b n) c) a=doL (inpL b n) (mgL a c):=by
   rw[q0h hac hc];exact q3s hac.symm (by rw[hil,hcl]) hb (qx5 hqb) i2 (λ m hr=>by have:=q24 hp hr;omega)
  rw[cm_ok hp hq i1 i2,g1,hm,Int.toNat_natCast,Bool.not_true,bc_f];have w2:∀ l:List Int,winL uB 0 l.length l=l:=λ l=>winA (e:=uB) l
  have e1:=qph hp hil;have e2:=qph pq hil;have e3:=qph g2 hil;have e4:=qph hq d1;have e5:apV (doL (inpL b n) c) ((false,(n:Int),(a.length:Int),chL a):PaT)=(doL (doL (inpL b n) c) a,0):=qph pp d2;simp only[w2,e1,e2,e3,e4,e5,t1,t2];have pI:preI (n:Int):=⟨by omega,by omega⟩;have li1:p.1=false:=hp.li;have li2:q.1=false:=hq.li;simp only[ne_eq,not_true_eq_false,decide_false,decide_true,cond_false,cond_true,bc_f,bc_t,Nat.zero_add]
  repeat' first
   | exact rfl
   | exact trivial
   | exact pI
   | exact li1
   | exact li2
   | exact Nat.le_refl _
   | refine And.intro ?_ ?_
   | omega
theorem q0i:Held Tryz.prog G0 8 ctMx:=Held.of cxLx (fn:=Tryz.f8) rfl rfl ⟨by decide,by decide⟩ λ ⟨x,b,_⟩ hp=>(q60 x b hp.1 hp.2).post λ rs blk hq=>QC.flat (by rw[hq];rfl) rfl (by rw[hq];rfl)
abbrev u8L (b:List Int):Prop:=by8 b
theorem q9h {n:Int} (h:wfD uB n):0<=n/\n<256:=by
 have h:(Lit.int IntKind.u8 n).wf=true:=h;simp[Lit.wf,IntKind.min,IntKind.max,IntKind.signed,IntKind.bits] at h;omega
theorem qy5 {l:List Int} (h:∀ x∈l,wfD uB x):u8L l:=λ j=>by
 by_cases hj:j<l.length
 ·rw[qk5 hj];exact q9h (h _ (List.getElem_mem hj))
 ·have:gtB l j=0:=by
   show gt uB _ _=_
   unfold gt;rw[List.getElem?_eq_none (by omega)];rfl
  rw[this];decide
theorem l4_of {l:List (List Int)} (h:∀ x∈l,wfD a4S x):qtf l:=λ j=>by
 by_cases hj:j<l.length
 ·have e:gt a4S l j=l[j]:=gtE (e:=a4S) hj;rw[e];exact qy5 (h _ (List.getElem_mem hj)).2
 ·have:gt a4S l j=List.replicate 4 (0:Int):=by
   unfold gt;rw[List.getElem?_eq_none (by omega)];rfl
  rw[this];exact qy5 λ x hx=>by
   rw[List.eq_of_mem_replicate hx];rfl
theorem x_of {x:List (Int × List (List Int))} (h:∀ r∈x,wfD raS r):preX x:=λ j=>by
 by_cases hj:j<x.length
 ·have e:gtRa x j=x[j]:=gtE (e:=raS) hj;rw[e];have k:=h _ (List.getElem_mem hj);exact ⟨q9h k.1,l4_of k.2.2,k.2.1⟩
 ·have:gtRa x j=((0:Int),([]:List (List Int))):=by
   unfold gtRa gt;rw[List.getElem?_eq_none (by omega)];rfl
  rw[this];exact ⟨⟨Int.le_refl 0,by decide⟩,λ k i=>by rw[show gt a4S ([]:List (List Int)) k=List.replicate 4 (0:Int) from rfl];exact qy5 (λ x hx=>by rw[List.eq_of_mem_replicate hx];rfl) i,by decide⟩
theorem quf {g:Nat} {x:ABlk} (h:rawG.get g=some x):(g=0/\x=.cells qhu 240 2)\/(g=1/\x=.cells qhp 248 2):=by
 unfold rawG T.get at h;split at h
 next e=>cases h;exact .inl ⟨e,rfl⟩
 next h0=>
  split at h
  next h1=>
   unfold T.get at h;split at h
   next h2=>cases h;exact .inr ⟨by omega,rfl⟩
   ·split at h <;> simp[T.get] at h
  ·simp[T.get] at h
theorem hG:Glob G0.raw:=⟨λ g x h=>by rcases quf h with ⟨rfl,_⟩ | ⟨rfl,_⟩ <;> decide,λ g x h=>by rcases quf h with ⟨_,rfl⟩ | ⟨_,rfl⟩ <;> decide⟩
abbrev H0:AHeap:=⟨qlu,G0.raw⟩
def Z0:Nat->Option ABlk:=λ g=>rawG.get g
theorem gz0:GZ Z0 G0:=by
 refine ⟨λ g x e=>?_,λ g x e=>e⟩;simp only[G0,lk] at e;split at e
 next h=>subst h;cases e;refine ⟨by decide,λ ν=>⟨0,0,qhu,240,2,rfl,rfl,by decide,?_⟩⟩;exact qvl (.arr 5 coS) costsL ⟨rfl,λ x _=>⟨trivial,trivial⟩⟩
 ·split at e
  next h=>subst h;cases e;refine ⟨by decide,λ ν=>⟨1,0,qhp,248,2,rfl,rfl,by decide,?_⟩⟩;exact qvl (.arr 9 kindSh) kindsL ⟨rfl,λ x _=>⟨trivial,trivial,trivial,trivial,trivial⟩⟩
  ·cases e
theorem fro0:Px.Fro G0 H0:=⟨λ i x h=>by rcases quf h with ⟨rfl,rfl⟩ | ⟨rfl,rfl⟩ <;> rfl,λ i x h=>by rcases quf h with ⟨rfl,rfl⟩ | ⟨rfl,rfl⟩ <;> trivial,λ i x h=>by rcases quf h with ⟨rfl,rfl⟩ | ⟨rfl,rfl⟩ <;> decide,gz0⟩
end Go.Proofs.YtgopblmdkjkbbaaGreatDoor
