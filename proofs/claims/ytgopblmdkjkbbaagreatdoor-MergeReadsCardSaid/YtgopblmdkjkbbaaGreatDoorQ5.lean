/-
  A part of the proof: what pieces of the program give; conditions: those of each theorem.
-/
import Derived.Test.YtgopblmdkjkbbaaGreatDoorQ4
import Derived.Test.YtgopblmdkjkbbaaGreatDoorQ3
import Derived.Test.YtgopblmdkjkbbaaGreatDoorHD
import Derived.KernelRfl
import Derived.Test.YtgopblmdkjkbbaaGreatDoorQ1
set_option linter.unusedVariables false
set_option linter.unusedSimpArgs false
namespace Go.Proofs.YtgopblmdkjkbbaaGreatDoor
open Go.Px Go.Ax
open Go.IntKind(i64 u32 u8)
set_option maxRecDepth 100000
attribute [local irreducible] Go.Px.sy Go.Px.syE
theorem qyu:Held Tryz.prog G0 80 ctSys:=Held.run (cx0.k qve (fn:=Tryz.f15)) (fn:=Tryz.f80) rfl rfl ⟨by decide,by decide⟩ λ ⟨⟨li,m,o,l⟩,_⟩ _=>(q7q li m o l _ _).mpr ⟨trivial,QC.row0 (e:=syS) (xs:=sySy (li,m,o,l)) (et:=93) (a:=1028672) rfl rfl rfl rfl rfl⟩
theorem qtr:CxOK Tryz.prog tt G0 C13:=(((cx0.k qve (fn:=Tryz.f15)).k qzw (fn:=Tryz.f24)).k q49 (fn:=Tryz.f57)).k qyu (fn:=Tryz.f80)
def mkP (l:List SyT):PaT:=(false,(l.length:Int),(l.length:Int),ofO l)
def q0w (l:List SyT):Prop:=l.length<=4096/\∀ s∈l,sOK l.length s=true
theorem q2v {l:List SyT} (h:q0w l):ofRV l l.length=(mkP l,0)/\(chkV (mkP l)).2=0/\symF (ofO l)=l:=q9r h.2 (by omega) (by have:=h.1;omega) h.1
def byY (l:List SyT):Prop:=∀ x∈l,0<=x.2.2/\x.2.2<256
def P11 (n:Int) (v:PaT):Prop:=∃ l,(q0w l/\byY l)/\(l.length:Int)=n/\v=mkP l
abbrev Q13 (v:PaT):List SV->List (Nat × LB)->Prop:=λ rs _=>MtL (λ _=>none) [paV v] rs
theorem q48:∀ n:Nat,n<13->(symV (rwV n)).1.length=n/\∀ s∈(symV (rwV n)).1,sOK n s=true/\0<=s.2.2/\s.2.2<256:=by decide +kernel
theorem q9a {l:List SyT} (h:byY l) {i:Nat} {x:SyT} (hx:0<=x.2.2/\x.2.2<256):byY (l.set i x):=λ s hs=>by
 rcases List.mem_or_eq_of_mem_set hs with h1 | rfl
 ·exact h s h1
 ·exact hx
theorem q89 {l:List SyT} {m:Int} (h:∀ s∈l,sOK m s=true) {i:Nat} {x:SyT} (hx:sOK m x=true):∀ s∈l.set i x,sOK m s=true:=λ s hs=>by
 rcases List.mem_or_eq_of_mem_set hs with h1 | rfl
 ·exact h s h1
 ·exact hx
section
variable (z:Int) (n:Nat) (l:List (List Int)) (hl:qsz l) (hn:n<13) (hll:l.length<9223372036854775808)
abbrev GD8 (v:PaT) (it:List Item) (S:PS):Prop:=GD 32 Tryz.f32 (Q13 v) it S
abbrev sO (s:List SyT) (i:Nat):PS:=⟨[(1,.i (n:Int)),(2,.ptr 2 0),(4,.ptr 4 0),(5,.win true syS 1057344 0 s.length),(6,.i (i:Nat))],[(2,.var [.u z,.sl a4S l]),(4,.var [.bool false,.i 0,.i 0,.nils]),(1057344,.row 93 syS s)]⟩
abbrev sI (s:List SyT) (i:Nat) (a k:Nat) (c:List Int):PS:=⟨[(1,.i (n:Int)),(2,.ptr 2 0),(4,.ptr 4 0),(5,.win true syS 1057344 0 s.length),(6,.i (i:Nat)),(7,.ptr 7 0),(8,.i (a:Nat)),(9,.i (k:Nat))],[(2,.var [.u z,.sl a4S l]),(4,.var [.bool false,.i 0,.i 0,.nils]),(7,.var [.arr 4 uB c]),(1057344,.row 93 syS s)]⟩
def inv8 (s:List SyT):Prop:=s.length=n/\(∀ x∈s,sOK n x=true)/\byY s
include hl hn hll
theorem q2d {s:List SyT} (hs:inv8 n s) {i:Nat} (hi:¬ (i<l.length/\i<5/\0<n)):GD8 (mkP s) (hd Tryz.f32 0) (sO z n l s i):=by
 have _:=And.intro hl hll;have hg:q0w s:=⟨by rw[hs.1];omega,by rw[hs.1];exact hs.2.1⟩;obtain ⟨e,_,_⟩:=q2v hg;rw[hs.1] at e;have fin:0+s.length<=s.length/\0+s.length<=s.length/\ctOf6.pre (winL syS 0 s.length s,(n:Int),())/\∀ blk,Q13 (mkP s) [SV.agg [.bool (ofRV (winL syS 0 s.length s) n).1.1,.i (ofRV (winL syS 0 s.length s) n).1.2.1,.i (ofRV (winL syS 0 s.length s) n).1.2.2.1,.sl opS (ofRV (winL syS 0 s.length s) n).1.2.2.2]] blk:=by
  rw[winA,e];exact ⟨by omega,by omega,(show s.length<1099511627776 by rw[hs.1];omega),λ blk=>⟨_,_,rfl,⟨_,rfl,_,_,rfl,rfl,_,_,rfl,rfl,_,_,rfl,rfl,_,_,rfl,.inl rfl,rfl⟩,rfl⟩⟩
 obtain ⟨f1,f2,f3,f4⟩:=fin;refine qak qtr (q12 z n l s i _ _) (qaf (λ h=>qaf (λ h2=>qaf (λ h3=>?_) (λ _=>⟨f1,f2,f3,f4 _⟩)) (λ _=>⟨rfl,f1,f2,f3,f4 _⟩)) (λ _=>⟨rfl,rfl,f1,f2,f3,f4 _⟩));have h:=of_decide_eq_true h;have h2:=of_decide_eq_true h2;have h3:=of_decide_eq_true h3;omega
theorem qyt (hn0:0<n) (i:Nat) (c:List Int) (hc:q5o c) (a:Nat) (ha:a<n) (nx:∀ s,inv8 n s->∃ v,P11 n v/\GD8 v (hd Tryz.f32 0) (sO z n l s (i+1))) (hi:i+1<9223372036854775808) :
  ∀ (f k:Nat),k<=3->n-k=f->∀ s,inv8 n s->∃ v,P11 n v/\GD8 v (hd Tryz.f32 1) (sI z n l s i a k c):=by
 have _:=And.intro hl hll;have hb1:=hc 1;have hb2:=hc 2;have hb3:=hc 3;have w:∀ x:Int,0<=x->x<100000->i64.wrap x=x:=λ x h1 h2=>IntWalk.i64_in x (by omega)
 have t64:0<=Int.tdiv (gtB c 1) 64/\Int.tdiv (gtB c 1) 64<4:=by
  rw[Int.tdiv_eq_ediv_of_nonneg hb1.1];omega
 have wu:u8.wrap (Int.tdiv (gtB c 1) 64)=Int.tdiv (gtB c 1) 64:=IntWalk.u8_in _ (by omega);have t3:0<=Int.tmod (Int.tdiv (gtB c 1) 64) 3/\Int.tmod (Int.tdiv (gtB c 1) 64) 3<3:=⟨Int.tmod_nonneg _ t64.1,Int.tmod_lt_of_pos _ (by omega)⟩;have hcnt:∀ k:Nat,(k:Int)<1+Int.tmod (Int.tdiv (gtB c 1) 64) 3->k<3:=λ k h=>by omega
 have tm4:0<=Int.tmod (gtB c 1) 4/\Int.tmod (gtB c 1) 4<4:=⟨Int.tmod_nonneg _ hb1.1,Int.tmod_lt_of_pos _ (by omega)⟩;have tn2:0<=Int.tmod (gtB c 2) n/\Int.tmod (gtB c 2) n<n:=⟨Int.tmod_nonneg _ hb2.1,Int.tmod_lt_of_pos _ (by omega)⟩;have out:∀ {k:Nat} {s:List SyT} {v:PaT},GD8 v (hd Tryz.f32 0) (sO z n l s (i+1))->¬ ((k:Int)<1+Int.tmod (Int.tdiv (gtB c 1) 64) 3/\(a:Int)+k<n)->k<=3->GD8 v (hd Tryz.f32 1) (sI z n l s i a k c):=fun {k s v} g hk h3=>by
  refine qak qtr (q13 z n l s i a k c _ _) ?_;rw[wu,w _ t64.1 (by omega),w (1+_) (by omega) (by omega),IntWalk.i64_in ((i:Int)+1) (by omega),w ((a:Int)+k) (by omega) (by omega)];refine ⟨by omega,by omega,by omega,by omega,by omega,qaf (λ h=>qaf (λ h2=>?_) (λ _=>?_)) (λ _=>⟨rfl,?_⟩)⟩
  ·exact absurd ⟨of_decide_eq_true h,of_decide_eq_true h2⟩ hk
  ·exact g.only ⟨rfl,rfl,rfl,rfl,rfl,trivial⟩ ⟨rfl,rfl,rfl,trivial⟩
  ·exact g.only ⟨rfl,rfl,rfl,rfl,rfl,trivial⟩ ⟨rfl,rfl,rfl,trivial⟩
 intro f
 induction f with
 | zero=>
  intro k hk3 hk s hs;obtain ⟨v,hv,g⟩:=nx s hs;exact ⟨v,hv,out g (by omega) hk3⟩
 | succ f ih=>
  intro k hk3 hk s hs;by_cases q1:(k:Int)<1+Int.tmod (Int.tdiv (gtB c 1) 64) 3/\(a:Int)+k<n
  ·obtain ⟨q1,q2⟩:=q1;have e0:((a:Int)+(k:Int)).toNat=a+k:=by omega
   have hk2:=hcnt k q1;have nxt:∀ x,sOK n x=true->0<=x.2.2/\x.2.2<256->∃ v,P11 n v/\GD8 v (hd Tryz.f32 1) ⟨[(1,.i (n:Int)),(2,.ptr 2 0),(4,.ptr 4 0),(5,.win true syS 1057344 0 s.length),(6,.i (i:Nat)),(7,.ptr 7 0),(8,.i (a:Nat)),(9,.i (i64.wrap ((k:Int)+1)))],[(2,.var [.u z,.sl a4S l]),(4,.var [.bool false,.i 0,.i 0,.nils]),(7,.var [.arr 4 uB c]),(1057344,.row 93 syS (s.set (0+((a:Int)+(k:Int)).toNat) x))]⟩:=λ x hx hxb=>by
    obtain ⟨v,hv,g⟩:=ih (k+1) (by omega) (by omega) (s.set (0+((a:Int)+(k:Int)).toNat) x) ⟨by rw[List.length_set];exact hs.1,q89 hs.2.1 hx,q9a hs.2.2 hxb⟩;refine ⟨v,hv,?_⟩;have g:=g;rw[w ((k:Int)+1) (by omega) (by omega)];simp only[sI,List.length_set] at g;exact g
   have go:∀ {v},((Int.tmod (gtB c 1) 4=0->GD8 v (hd Tryz.f32 1) ⟨[(1,.i (n:Int)),(2,.ptr 2 0),(4,.ptr 4 0),(5,.win true syS 1057344 0 s.length),(6,.i (i:Nat)),(7,.ptr 7 0),(8,.i (a:Nat)),(9,.i (i64.wrap ((k:Int)+1)))],[(2,.var [.u z,.sl a4S l]),(4,.var [.bool false,.i 0,.i 0,.nils]),(7,.var [.arr 4 uB c]),(1057344,.row 93 syS (s.set (0+((a:Int)+(k:Int)).toNat) (false,(0:Int),gtB c 2)))]⟩)
     /\ (Int.tmod (gtB c 1) 4=1->GD8 v (hd Tryz.f32 1) ⟨[(1,.i (n:Int)),(2,.ptr 2 0),(4,.ptr 4 0),(5,.win true syS 1057344 0 s.length),(6,.i (i:Nat)),(7,.ptr 7 0),(8,.i (a:Nat)),(9,.i (i64.wrap ((k:Int)+1)))],[(2,.var [.u z,.sl a4S l]),(4,.var [.bool false,.i 0,.i 0,.nils]),(7,.var [.arr 4 uB c]),(1057344,.row 93 syS (s.set (0+((a:Int)+(k:Int)).toNat) (true,(a:Int)+(k:Int),gtB c 3)))]⟩)
     /\ (Int.tmod (gtB c 1) 4=2->GD8 v (hd Tryz.f32 1) ⟨[(1,.i (n:Int)),(2,.ptr 2 0),(4,.ptr 4 0),(5,.win true syS 1057344 0 s.length),(6,.i (i:Nat)),(7,.ptr 7 0),(8,.i (a:Nat)),(9,.i (i64.wrap ((k:Int)+1)))],[(2,.var [.u z,.sl a4S l]),(4,.var [.bool false,.i 0,.i 0,.nils]),(7,.var [.arr 4 uB c]),(1057344,.row 93 syS (s.set (0+((a:Int)+(k:Int)).toNat) (true,Int.tmod (gtB c 2) n,0)))]⟩)
     /\ (Int.tmod (gtB c 1) 4=3->GD8 v (hd Tryz.f32 1) ⟨[(1,.i (n:Int)),(2,.ptr 2 0),(4,.ptr 4 0),(5,.win true syS 1057344 0 s.length),(6,.i (i:Nat)),(7,.ptr 7 0),(8,.i (a:Nat)),(9,.i (i64.wrap ((k:Int)+1)))],[(2,.var [.u z,.sl a4S l]),(4,.var [.bool false,.i 0,.i 0,.nils]),(7,.var [.arr 4 uB c]),(1057344,.row 93 syS (s.set (0+((a:Int)+(k:Int)).toNat) (true,Int.tmod (gtB c 2+k) n,Int.tmod (gtB c 3) 3)))]⟩))
     -> GD8 v (hd Tryz.f32 1) (sI z n l s i a k c):=fun {v} g=>by
    obtain ⟨g0,g1,g2,g3⟩:=g;refine qak qtr (q13 z n l s i a k c _ _) ?_;rw[wu,w _ t64.1 (by omega),w (1+_) (by omega) (by omega),w ((a:Int)+k) (by omega) (by omega),w (gtB c 2) (by omega) (by omega),w (gtB c 2+_) (by omega) (by omega)];have hsl:=hs.1;refine ⟨by omega,by omega,by omega,by omega,by omega,?_⟩;rw[decide_eq_true q1,bc_t,decide_eq_true q2,bc_t];refine ⟨by omega,by omega,by omega,by omega,qaf (λ h=>⟨by omega,by omega,by omega,by omega,by omega,by omega,g0 (of_decide_eq_true h)⟩) (λ h=>qaf (λ h2=>⟨by omega,by omega,by omega,by omega,by omega,by omega,g1 (of_decide_eq_true h2)⟩) (λ h2=>qaf (λ h3=>⟨by omega,by omega,by omega,by omega,by omega,by omega,by omega,g2 (of_decide_eq_true h3)⟩) (λ h3=>⟨by omega,by omega,by omega,by omega,by omega,by omega,by omega,by omega,by omega,by omega,by omega,g3 ?_⟩)))⟩;have h:=of_decide_eq_false h;have h2:=of_decide_eq_false h2;have h3:=of_decide_eq_false h3;omega
   have hq:Int.tmod (gtB c 1) 4=0\/Int.tmod (gtB c 1) 4=1\/Int.tmod (gtB c 1) 4=2\/Int.tmod (gtB c 1) 4=3:=by omega
   rcases hq with e | e | e | e
   ·obtain ⟨v,hv,g⟩:=nxt (false,0,gtB c 2) rfl hb2;exact ⟨v,hv,go ⟨λ _=>g,λ h=>by omega,λ h=>by omega,λ h=>by omega⟩⟩
   ·obtain ⟨v,hv,g⟩:=nxt (true,(a:Int)+k,gtB c 3) (by simp[sOK];omega) hb3;exact ⟨v,hv,go ⟨λ h=>by omega,λ _=>g,λ h=>by omega,λ h=>by omega⟩⟩
   ·obtain ⟨v,hv,g⟩:=nxt (true,Int.tmod (gtB c 2) n,0) (by simp[sOK];omega) (by simp);exact ⟨v,hv,go ⟨λ h=>by omega,λ h=>by omega,λ _=>g,λ h=>by omega⟩⟩
   ·have tk:0<=Int.tmod (gtB c 2+k) n/\Int.tmod (gtB c 2+k) n<n:=⟨Int.tmod_nonneg _ (by omega),Int.tmod_lt_of_pos _ (by omega)⟩;obtain ⟨v,hv,g⟩:=nxt (true,Int.tmod (gtB c 2+k) n,Int.tmod (gtB c 3) 3) (by simp[sOK];omega) (have t:0<=Int.tmod (gtB c 3) 3/\Int.tmod (gtB c 3) 3<3:=⟨Int.tmod_nonneg _ hb3.1,Int.tmod_lt_of_pos _ (by omega)⟩;⟨t.1,Int.lt_trans t.2 (by omega)⟩);exact ⟨v,hv,go ⟨λ h=>by omega,λ h=>by omega,λ h=>by omega,λ _=>g⟩⟩
  ·obtain ⟨v,hv,g⟩:=nx s hs;exact ⟨v,hv,out g q1 hk3⟩
theorem qys:∀ (f i:Nat),l.length-i=f->i<=l.length->∀ s,inv8 n s->∃ v,P11 n v/\GD8 v (hd Tryz.f32 0) (sO z n l s i):=by
 intro f
 induction f with
 | zero=>
  intro i hf hi s hs;exact ⟨mkP s,⟨s,⟨⟨by rw[hs.1];omega,by rw[hs.1];exact hs.2.1⟩,hs.2.2⟩,by rw[hs.1],rfl⟩,q2d z n l hl hn hll hs (by omega)⟩
 | succ f ih=>
  intro i hf hi s hs;by_cases q:i<l.length/\i<5/\0<n
  ·have hb:q5o (gtA4 l i):=hl i;have t0:0<=Int.tmod (gtB (gtA4 l i) 0) n/\Int.tmod (gtB (gtA4 l i) 0) n<n:=⟨Int.tmod_nonneg _ (hb 0).1,Int.tmod_lt_of_pos _ (by omega)⟩;obtain ⟨v,hv,g⟩:=qyt z n l hl hn hll q.2.2 i (gtA4 l i) hb (Int.tmod (gtB (gtA4 l i) 0) n).toNat (by omega) (λ s hs=>ih (i+1) (by omega) (by omega) s hs) (by omega) n 0 (by omega) (by omega) s hs;refine ⟨v,hv,qak qtr (q12 z n l s i _ _) ?_⟩;rw[decide_eq_true (show (i:Int)<(l.length:Int) by omega),bc_t,decide_eq_true (show (i:Int)<5 by omega),bc_t,decide_eq_true (show (0:Int)<(n:Int) by omega),bc_t,Int.toNat_natCast,IntWalk.i64_in (gtB (gtA4 l i) 0) (by have:=hb 0;omega)];refine ⟨by omega,by omega,by omega,by omega,by omega,by omega,?_⟩;have e:((Int.tmod (gtB (gtA4 l i) 0) n).toNat:Int)=Int.tmod (gtB (gtA4 l i) 0) n:=by omega
   simp only[sI,e] at g;exact g.only ⟨rfl,rfl,rfl,rfl,rfl,rfl,rfl,rfl,trivial⟩ ⟨rfl,rfl,rfl,rfl,trivial⟩
  ·exact ⟨mkP s,⟨s,⟨⟨by rw[hs.1];omega,by rw[hs.1];exact hs.2.1⟩,hs.2.2⟩,by rw[hs.1],rfl⟩,q2d z n l hl hn hll hs q⟩
theorem sz_ex:∃ v,P11 n v/\GD8 v [.code (qad Tryz.f32)] (entry [raS,iI] ((z,l),(n:Int),())):=by
 have hr:inv8 n (sySy (rwV n)):=⟨(q48 n hn).1,λ x hx=>((q48 n hn).2 x hx).1,λ x hx=>((q48 n hn).2 x hx).2⟩;obtain ⟨v,hv,g⟩:=qys z n l hl hn hll _ 0 rfl (Nat.zero_le _) (sySy (rwV n)) hr;exact ⟨v,hv,qak qtr (q3h z n l _ _) ⟨trivial,trivial,g.only ⟨rfl,rfl,rfl,rfl,rfl,trivial⟩ ⟨rfl,rfl,rfl,trivial⟩⟩⟩
end
open Classical in
noncomputable def S11V (z n:Int) (l:List (List Int)):PaT:=if h:∃ v,P11 n v/\GD8 v [.code (qad Tryz.f32)] (entry [raS,iI] ((z,l),n,())) then Classical.choose h else (false,0,0,[])
def qvu (n:Int) (l:List (List Int)):Prop:=qsz l/\0<=n/\n<13/\l.length<9223372036854775808
theorem q3d {z n:Int} {l:List (List Int)} (h:qvu n l):P11 n (S11V z n l)/\GD8 (S11V z n l) [.code (qad Tryz.f32)] (entry [raS,iI] ((z,l),n,())):=by
 obtain ⟨h1,h2,h3,h4⟩:=h;have k:=sz_ex z n.toNat l h1 (by omega) h4;rw[Int.toNat_of_nonneg h2] at k;unfold S11V;rw[dif_pos k];exact Classical.choose_spec k
noncomputable def ctS11:Ctr:=⟨[raS,iI],λ x=>qvu x.2.1 x.1.2,λ x=>[paV (S11V x.1.1 x.2.1 x.1.2)],λ _=>[]⟩
theorem qy6:Held Tryz.prog G0 32 ctS11:=Held.of qtr (fn:=Tryz.f32) rfl rfl ⟨by decide,by decide⟩ λ ⟨⟨z,l⟩,n,_⟩ hp=>(q3d hp).2.post λ rs blk h=>QC.mt h rfl
theorem vc_sr (x y:List (Int × Int)) (Q:QT) (R:RT):sA [] Tryz.f37 Q R [.code (qad Tryz.f37)] (entry [.sl rgS,.sl rgS] (x,y,())) =
  (bc (decide ((x.length:Int)≠(y.length:Int))) (Q [.bool false] []) (R (hd Tryz.f37 0) { env:=[(0,.sl rgS x),(1,.sl rgS y),(4,.bool false),(5,.i 0),(6,.sl rgS x),(7,.i (x.length:Int)),(8,.sl rgS y),(9,.i (y.length:Int)),(10,.bool (decide ((x.length:Int)≠(y.length:Int))))],blk:=[] })):=by kernel_rfl
theorem q14 (x y:List (Int × Int)) (i:Int) (Q:QT) (R:RT):sA [] Tryz.f37 Q R (hd Tryz.f37 0) ⟨[(0,.sl rgS x),(1,.sl rgS y),(5,.i i)],[]⟩ =
  (bc (decide (i<(x.length:Int))) ((0:Int)<=i/\i<(x.length:Int)/\(0:Int)<=i/\i<(y.length:Int)/\bc (!decide ([(gtR x i.toNat).1,(gtR x i.toNat).2]=[(gtR y i.toNat).1,(gtR y i.toNat).2])) (Q [.bool false] []) (R (hd Tryz.f37 0) { env:=[(0,.sl rgS x),(1,.sl rgS y),(5,.i (IntKind.i64.wrap (i+1))),(11,.i i),(12,.sl rgS x),(13,.i (x.length:Int)),(14,.bool (decide (i<(x.length:Int)))),(15,.i i),(16,.i (IntKind.i64.wrap (i+1))),(17,.sl rgS x),(18,.i i),(19,.elv rgS (gtR x i.toNat)),(20,.agg [.i (gtR x i.toNat).1,.i (gtR x i.toNat).2]),(21,.sl rgS y),(22,.i i),(23,.elv rgS (gtR y i.toNat)),(24,.agg [.i (gtR y i.toNat).1,.i (gtR y i.toNat).2]),(25,.bool !decide ([(gtR x i.toNat).1,(gtR x i.toNat).2]=[(gtR y i.toNat).1,(gtR y i.toNat).2]))],blk:=[] })) (Q [.bool true] [])):=by kernel_rfl
abbrev z4:PaT:=(false,0,0,[])
def cmV (p q:PaT):PaT × PaT × Int:=match decide ((qah [p,q]).2≠0) with
 | true=>(z4,z4,(qah [p,q]).2)
 | false=>match disB (sySy p) (sySy q) with
  | true=>(z4,z4,110)
  | false=>match disB (sySy q) (sySy p) with
   | true=>(z4,z4,110)
   | false=>match decide ((foV q).2≠0) with
    | true=>(z4,z4,(foV q).2)
    | false=>match decide ((foV p).2≠0) with
     | true=>(z4,z4,(foV p).2)
     | false=>((foV q).1,(foV p).1,0)
def ctCm:Ctr:=⟨[paS,paS],λ _=>True,λ x=>[paV (cmV x.1 x.2.1).1,paV (cmV x.1 x.2.1).2.1,.i (cmV x.1 x.2.1).2.2],λ _=>[]⟩
theorem qt1 (z:Int):MtL (λ _=>none) [paV z4,paV z4,.i z] [.agg [.bool false,.i 0,.i 0,.nils],.agg [.bool false,.i 0,.i 0,.nils],.i z]:=⟨_,_,rfl,⟨_,rfl,_,_,rfl,rfl,_,_,rfl,rfl,_,_,rfl,rfl,_,_,rfl,.inr ⟨rfl,rfl⟩,rfl⟩,_,_,rfl,⟨_,rfl,_,_,rfl,rfl,_,_,rfl,rfl,_,_,rfl,rfl,_,_,rfl,.inr ⟨rfl,rfl⟩,rfl⟩,_,_,rfl,rfl,rfl⟩
theorem p2_mt (p q:PaT) (z:Int):MtL (λ _=>none) [paV p,paV q,.i z] [.agg [.bool p.1,.i p.2.1,.i p.2.2.1,.sl opS p.2.2.2],.agg [.bool q.1,.i q.2.1,.i q.2.2.1,.sl opS q.2.2.2],.i z]:=⟨_,_,rfl,⟨_,rfl,_,_,rfl,rfl,_,_,rfl,rfl,_,_,rfl,rfl,_,_,rfl,.inl rfl,rfl⟩,_,_,rfl,⟨_,rfl,_,_,rfl,rfl,_,_,rfl,rfl,_,_,rfl,rfl,_,_,rfl,.inl rfl,rfl⟩,_,_,rfl,rfl,rfl⟩
theorem q6d (li:Bool) (m o:Int) (l:List OpT) (li2:Bool) (m2 o2:Int) (l2:List OpT) (R:List Item->PS->Prop):sA C11 Tryz.f96 (QC ctCm ((li,m,o,l),(li2,m2,o2,l2),())) R [.code (qad Tryz.f96)] (entry [paS,paS] ((li,m,o,l),(li2,m2,o2,l2),())):=by
 have fin:∀ {v:PaT × PaT × Int} {rs blk},cmV (li,m,o,l) (li2,m2,o2,l2)=v->MtL (λ _=>none) [paV v.1,paV v.2.1,.i v.2.2] rs->QC ctCm ((li,m,o,l),(li2,m2,o2,l2),()) rs blk:=fun {v rs blk} h k=>by
  refine QC.mt ?_ rfl
  show MtL _ [paV (cmV (li,m,o,l) (li2,m2,o2,l2)).1,paV (cmV (li,m,o,l) (li2,m2,o2,l2)).2.1,.i (cmV (li,m,o,l) (li2,m2,o2,l2)).2.2] _
  rw[h];exact k
 refine (q8b li m o l li2 m2 o2 l2 _ _).mpr ⟨Nat.le_refl _,⟨by simp,by simp⟩,qaf (λ h=>?_) (λ h=>?_)⟩
 ·refine fin (v:=(z4,z4,(qah [(li,m,o,l),(li2,m2,o2,l2)]).2)) ?_ (qt1 _);unfold cmV;rw[show decide ((qah [(li,m,o,l),(li2,m2,o2,l2)]).2≠0)=true from h]
 ·have h0:(qah [(li,m,o,l),(li2,m2,o2,l2)]).2=0:=by have:=of_decide_eq_false h;simpa using this
  obtain ⟨h1,h2,h3,h4,_⟩:=sy2 h0;have hY:=ev_Y h2;have hY2:=ev_Y h3;have la:=(qk3 h2).1;have lb:=(qk3 h3).1;have hle:(sySy (li,m,o,l)).length=(sySy (li2,m2,o2,l2)).length:=by have:=h4;omega
  have e1:decide ((qah [(li,m,o,l),(li2,m2,o2,l2)]).2≠0)=false:=h;rw[h1];simp only[Nat.add_zero,Nat.zero_add,qw9,q6o];refine ⟨by omega,by simp,by simp,by omega,by simp,by simp,⟨hY2,Nat.le_of_eq hle⟩,qaf (λ k=>⟨trivial,?_⟩) (λ k=>⟨by omega,by simp,by simp,by omega,by simp,by simp,⟨hY,Nat.le_of_eq hle.symm⟩,?_⟩)⟩
  ·exact fin (by unfold cmV;rw[e1,k]) (qt1 _)
  ·refine qaf (λ k2=>?_) (λ k2=>?_)
   ·have k2:disB (sySy (li2,m2,o2,l2)) (sySy (li,m,o,l))=true:=k2;exact fin (by unfold cmV;rw[e1,k,k2]) (qt1 _)
   ·have k2:disB (sySy (li2,m2,o2,l2)) (sySy (li,m,o,l))=false:=k2;refine ⟨trivial,qaf (λ k3=>?_) (λ k3=>⟨trivial,qaf (λ k4=>?_) (λ k4=>?_)⟩)⟩
    ·exact fin (v:=(z4,z4,(foV (li2,m2,o2,l2)).2)) (by unfold cmV;rw[e1,k,k2,k3]) (qt1 _)
    ·exact fin (v:=(z4,z4,(foV (li,m,o,l)).2)) (by unfold cmV;rw[e1,k,k2,k3,k4]) (qt1 _)
    ·exact fin (v:=((foV (li2,m2,o2,l2)).1,(foV (li,m,o,l)).1,0)) (by unfold cmV;rw[e1,k,k2,k3,k4]) (p2_mt _ _ _)
theorem qz8:Held Tryz.prog G0 96 ctCm:=Held.run cx11 (fn:=Tryz.f96) rfl rfl ⟨by decide,by decide⟩ λ ⟨⟨li,m,o,l⟩,⟨li2,m2,o2,l2⟩,⟨⟩⟩ _=>q6d li m o l li2 m2 o2 l2 _
theorem ql0 {l:List (Int × Int)} {i:Nat} (h:i<l.length):gtR l i=l[i]:=gtE (e:=rgS) h
theorem q9h {s t:Int × Int}:([s.1,s.2]=[t.1,t.2])↔s=t:=by
 obtain ⟨a,b⟩:=s;obtain ⟨c,d⟩:=t;simp
def ctSr:Ctr:=⟨[.sl rgS,.sl rgS],λ x=>List.length x.1<1099511627776,λ x=>[.bool (decide ((show List (Int × Int) from x.1)=x.2.1))],λ _=>[]⟩
theorem q42 (x y:List (Int × Int)) (hl:x.length<1099511627776) (he:x.length=y.length):∀ (k i:Nat),x.length-i=k->i<=x.length->x.take i=y.take i ->
  GD 37 Tryz.f37 (λ rs _=>rs=[.bool (decide (x=y))]) (hd Tryz.f37 0) ⟨[(0,.sl rgS x),(1,.sl rgS y),(5,.i (i:Nat))],[]⟩:=by
 intro k
 induction k with
 | zero=>
  intro i hk hi ht;refine qaj cx0 _ _ _ ((q14 x y i _ _).mpr ?_);rw[decide_eq_false (show ¬ (i:Int)<(x.length:Int) by omega),bc_f];rw[List.take_of_length_le (by omega),List.take_of_length_le (by omega)] at ht
  show [SV.bool true]=_
  rw[decide_eq_true ht]
 | succ k ih=>
  intro i hk hi ht;have hx:i<x.length:=by omega
  have hy:i<y.length:=by omega
  refine qaj cx0 _ _ _ ((q14 x y i _ _).mpr ?_);rw[decide_eq_true (show (i:Int)<(x.length:Int) by omega),bc_t,Int.toNat_natCast,ql0 hx,ql0 hy,IntWalk.i64_in ((i:Int)+1) (by omega)];refine ⟨by omega,by omega,by omega,by omega,qaf (λ h=>?_) (λ h=>?_)⟩
  ·have h:¬ x[i]=y[i]:=λ q=>by
    rw[decide_eq_true (q9h.2 q)] at h;cases h
   show [SV.bool false]=_
   rw[decide_eq_false (λ q=>h (by simp only[q]))]
  ·have h:x[i]=y[i]:=by
    have h:(!decide ([x[i].1,x[i].2]=[y[i].1,y[i].2]))=false:=h;rw[Bool.not_eq_false'] at h;exact q9h.1 (of_decide_eq_true h)
   exact (ih (i+1) (by omega) (by omega) (by rw[List.take_succ_eq_append_getElem hx,List.take_succ_eq_append_getElem hy,ht,h])).only ⟨rfl,rfl,rfl,trivial⟩ trivial
theorem q43:Held Tryz.prog G0 37 ctSr:=by
 refine Held.run cx0 (fn:=Tryz.f37) rfl rfl ⟨by decide,by decide⟩ ?_;rintro ⟨x,y,⟨⟩⟩ hp;replace hp:x.length<1099511627776:=hp;refine (vc_sr x y _ _).mpr (qaf (λ h=>?_) (λ h=>?_))
 ·have h:(x.length:Int)≠y.length:=of_decide_eq_true h;refine QC.flat ?_ rfl rfl
  show [SV.bool (decide (x=y))]=_
  rw[decide_eq_false (λ q=>h (by rw[q]))]
 ·have h:¬ (x.length:Int)≠y.length:=of_decide_eq_false h;have h:x.length=y.length:=by omega
  exact ((q42 x y hp h _ 0 rfl (by omega) rfl).post λ rs blk hq=>QC.flat (by rw[hq];rfl) rfl (by rw[hq];rfl)).only ⟨rfl,rfl,rfl,trivial⟩ trivial
abbrev exS:Sh:=.pair paS (.pair paS iI)
def CR1:CV:=[(37,.inl ctSr)]
theorem cxR1:CxOK Tryz.prog tt G0 CR1:=cx0.k q43 (fn:=Tryz.f37)
def CR2:CV:=[(27,.inl ctSm)]
theorem cxR2:CxOK Tryz.prog tt G0 CR2:=cx0.k qu1 (fn:=Tryz.f27)
def CR3:CV:=[(96,.inl ctCm)]
theorem cxR3:CxOK Tryz.prog tt G0 CR3:=cx0.k qz8 (fn:=Tryz.f96)
noncomputable def CR4:CV:=[(32,.inl ctS11)]
theorem cxR4:CxOK Tryz.prog tt G0 CR4:=cx0.k qy6 (fn:=Tryz.f32)
set_option maxRecDepth 100000
theorem q34 (z:Int) (l:List (List Int)) (Q:QT) (R:RT):sA CR4 Tryz.f31 Q R [.code (qad Tryz.f31)] (entry [raS] ((z,l),())) =
  ((13:Int)≠0/\ctS11.pre ((z,l),(i64.wrap z).tmod (13:Int),())/\Q [.agg [.bool (S11V z ((i64.wrap z).tmod (13:Int)) l).1,.i (S11V z ((i64.wrap z).tmod (13:Int)) l).2.1,.i (S11V z ((i64.wrap z).tmod (13:Int)) l).2.2.1,.sl opS (S11V z ((i64.wrap z).tmod (13:Int)) l).2.2.2]] [(1,.var [.u z,.sl (Sh.arr (4:Nat) uB) l]),(2,.var [.bool (S11V z ((i64.wrap z).tmod (13:Int)) l).1,.i (S11V z ((i64.wrap z).tmod (13:Int)) l).2.1,.i (S11V z ((i64.wrap z).tmod (13:Int)) l).2.2.1,.sl opS (S11V z ((i64.wrap z).tmod (13:Int)) l).2.2.2])]):=by kernel_rfl
theorem q7v (l:List (Int × Int)) (e:Int) (w:Int × Int) (Q:QT) (R:RT):sA CR1 Tryz.f79 Q R [.code (qad Tryz.f79)] (entry [.sl rgS,iI,rgS] (l,e,w,())) =
  (bc (decide ([w.1,w.2]=[(0:Int),(0:Int)])) (bc (decide (e=(0:Int))) (Q [.bool (decide ((l.length:Int)=(0:Int)))] [(5,.var [.i w.1,.i w.2])]) (false=false/\Q [.bool false] [(5,.var [.i w.1,.i w.2])])) (bc (decide (e=(0:Int))) (0+1<=([(w.1,w.2)]:List rgS.D).length/\ctSr.pre (l,([(w.1,w.2)]:List rgS.D),())/\Q [.bool (decide ((have this:=l;this)=([(w.1,w.2)]:List rgS.D)))] [(5,.var [.i w.1,.i w.2]),(22,.row 127 rgS ([(w.1,w.2)]:List rgS.D))]) (false=false/\Q [.bool false] [(5,.var [.i w.1,.i w.2])]))):=by kernel_rfl
def qh9 (p q p2 q2:PaT) (e e2:Int):List (Nat × LB):=[(2,.var [.bool p.1,.i p.2.1,.i p.2.2.1,.sl opS p.2.2.2,.bool q.1,.i q.2.1,.i q.2.2.1,.sl opS q.2.2.2,.i e]),(3,.var [.bool p2.1,.i p2.2.1,.i p2.2.2.1,.sl opS p2.2.2.2,.bool q2.1,.i q2.2.1,.i q2.2.2.1,.sl opS q2.2.2.2,.i e2])]
theorem q7s (p q p2 q2:PaT) (e e2:Int) (Q:QT) (R:RT):sA CR2 Tryz.f42 Q R [.code (qad Tryz.f42)] (entry [exS,exS] ((p,q,e),(p2,q2,e2),())) =
  (ctSm.pre (p,p2,())/\bc (smB p p2) (ctSm.pre (q,q2,())/\bc (bif true then smB q q2 else false) (Q [.bool (decide (e=e2))] (qh9 p q p2 q2 e e2)) (false=false/\Q [.bool false] (qh9 p q p2 q2 e e2))) (false=false/\false=false/\Q [.bool false] (qh9 p q p2 q2 e e2))):=by kernel_rfl
theorem q8k (p q:PaT) (Q:QT) (R:RT):sA CR3 Tryz.f43 Q R [.code (qad Tryz.f43)] (entry [paS,paS] (p,q,())) =
  (ctCm.pre (p,q,())/\Q [.agg [.bool (cmV p q).1.1,.i (cmV p q).1.2.1,.i (cmV p q).1.2.2.1,.sl opS (cmV p q).1.2.2.2,.bool (cmV p q).2.1.1,.i (cmV p q).2.1.2.1,.i (cmV p q).2.1.2.2.1,.sl opS (cmV p q).2.1.2.2.2,.i (cmV p q).2.2]] [(2,.var [.bool p.1,.i p.2.1,.i p.2.2.1,.sl opS p.2.2.2]),(3,.var [.bool q.1,.i q.2.1,.i q.2.2.1,.sl opS q.2.2.2]),(4,.var [.bool (cmV p q).1.1,.i (cmV p q).1.2.1,.i (cmV p q).1.2.2.1,.sl opS (cmV p q).1.2.2.2,.bool (cmV p q).2.1.1,.i (cmV p q).2.1.2.1,.i (cmV p q).2.1.2.2.1,.sl opS (cmV p q).2.1.2.2.2,.i (cmV p q).2.2]),(5,.var [.bool (cmV p q).1.1,.i (cmV p q).1.2.1,.i (cmV p q).1.2.2.1,.sl opS (cmV p q).1.2.2.2]),(6,.var [.bool (cmV p q).2.1.1,.i (cmV p q).2.1.2.1,.i (cmV p q).2.1.2.2.1,.sl opS (cmV p q).2.1.2.2.2])]):=by kernel_rfl
theorem p1_mt (p:PaT):MtL (λ _=>none) [paV p] [.agg [.bool p.1,.i p.2.1,.i p.2.2.1,.sl opS p.2.2.2]]:=⟨_,_,rfl,⟨_,rfl,_,_,rfl,rfl,_,_,rfl,rfl,_,_,rfl,rfl,_,_,rfl,.inl rfl,rfl⟩,rfl⟩
def qoa (z:Int) (l:List (List Int)):Prop:=(0<=z/\z<256)/\qsz l/\l.length<9223372036854775808
noncomputable def qz0 (z:Int) (l:List (List Int)):PaT:=S11V z ((IntKind.i64.wrap z).tmod 13) l
theorem q2x {z:Int} {l:List (List Int)} (h:qoa z l):qvu ((IntKind.i64.wrap z).tmod 13) l:=by
 obtain ⟨⟨h1,h2⟩,h3,h4⟩:=h;rw[IntWalk.i64_in z (by omega)];exact ⟨h3,Int.tmod_nonneg _ h1,Int.tmod_lt_of_pos _ (by omega),h4⟩
noncomputable def ctM11:Ctr:=⟨[raS],λ x=>qoa x.1.1 x.1.2,λ x=>[paV (qz0 x.1.1 x.1.2)],λ _=>[]⟩
theorem q0a:Held Tryz.prog G0 31 ctM11:=Held.run cxR4 (fn:=Tryz.f31) rfl rfl ⟨by decide,by decide⟩ λ ⟨⟨z,l⟩,_⟩ hp=>(q34 z l _ _).mpr ⟨by omega,q2x hp,QC.mt (p1_mt _) rfl⟩
def rgsV (l:List (Int × Int)) (e:Int) (w:Int × Int):Bool:=match decide ([w.1,w.2]=[(0:Int),0]) with
 | true=>match decide (e=0) with
  | true=>decide ((l.length:Int)=0)
  | false=>false
 | false=>match decide (e=0) with
  | true=>decide (l=[(w.1,w.2)])
  | false=>false
def ctRgs:Ctr:=⟨[.sl rgS,iI,rgS],λ x=>List.length x.1<1099511627776,λ x=>[.bool (rgsV x.1 x.2.1 x.2.2.1)],λ _=>[]⟩
theorem q5d (l:List (Int × Int)) (e:Int) (w:Int × Int) (hl:l.length<1099511627776) (R:List Item->PS->Prop):sA CR1 Tryz.f79 (QC ctRgs (l,e,w,())) R [.code (qad Tryz.f79)] (entry [.sl rgS,iI,rgS] (l,e,w,())):=by
 have fin:∀ {v:Bool} {blk},rgsV l e w=v->QC ctRgs (l,e,w,()) [.bool v] blk:=fun {v blk} h=>QC.flat (by show [SV.bool (rgsV l e w)]=[SV.bool v];rw[h]) rfl rfl
 refine (q7v l e w _ _).mpr (qaf (λ h=>qaf (λ h2=>fin ?_) (λ h2=>⟨rfl,fin ?_⟩)) (λ h=>qaf (λ h2=>⟨by simp,hl,fin ?_⟩) (λ h2=>⟨rfl,fin ?_⟩))) <;> (unfold rgsV;rw[h,h2])
theorem qzd:Held Tryz.prog G0 79 ctRgs:=Held.run cxR1 (fn:=Tryz.f79) rfl rfl ⟨by decide,by decide⟩ λ ⟨l,e,w,_⟩ hp=>q5d l e w hp _
def smeV (x y:exS.D):Bool:=match smB x.1 y.1 with
 | true=>match smB x.2.1 y.2.1 with
  | true=>decide (x.2.2=y.2.2)
  | false=>false
 | false=>false
def q2n (x:exS.D):Prop:=x.1.2.2.2.length<1099511627776/\x.2.1.2.2.2.length<1099511627776
def ctSme:Ctr:=⟨[exS,exS],λ x=>q2n x.1,λ x=>[.bool (smeV x.1 x.2.1)],λ _=>[]⟩
theorem q45 (p q p2 q2:PaT) (e e2:Int) (hp:q2n (p,q,e)) (R:List Item->PS->Prop):sA CR2 Tryz.f42 (QC ctSme ((p,q,e),(p2,q2,e2),())) R [.code (qad Tryz.f42)] (entry [exS,exS] ((p,q,e),(p2,q2,e2),())):=by
 have fin:∀ {v:Bool} {blk},smeV (p,q,e) (p2,q2,e2)=v->QC ctSme ((p,q,e),(p2,q2,e2),()) [.bool v] blk:=fun {v blk} h=>QC.flat (by show [SV.bool (smeV (p,q,e) (p2,q2,e2))]=[SV.bool v];rw[h]) rfl rfl
 refine (q7s p q p2 q2 e e2 _ _).mpr ⟨hp.1,qaf (λ h=>⟨hp.2,?_⟩) (λ h=>⟨rfl,rfl,fin ?_⟩)⟩
 ·refine qaf (λ h2=>fin ?_) (λ h2=>⟨rfl,fin ?_⟩)
  ·have h2:smB q q2=true:=h2;unfold smeV;simp only[h,h2]
  ·have h2:smB q q2=false:=h2;unfold smeV;simp only[h,h2]
 ·unfold smeV;simp only[h]
theorem qy4:Held Tryz.prog G0 42 ctSme:=Held.run cxR2 (fn:=Tryz.f42) rfl rfl ⟨by decide,by decide⟩ λ ⟨⟨p,q,e⟩,⟨p2,q2,e2⟩,_⟩ hp=>q45 p q p2 q2 e e2 hp _
def exV (x:PaT × PaT × Int):SV:=.agg [.bool x.1.1,.i x.1.2.1,.i x.1.2.2.1,.sl opS x.1.2.2.2,.bool x.2.1.1,.i x.2.1.2.1,.i x.2.1.2.2.1,.sl opS x.2.1.2.2.2,.i x.2.2]
def ctExc:Ctr:=⟨[paS,paS],λ _=>True,λ x=>[exV (cmV x.1 x.2.1)],λ _=>[]⟩
theorem q01:Held Tryz.prog G0 43 ctExc:=Held.run cxR3 (fn:=Tryz.f43) rfl rfl ⟨by decide,by decide⟩ λ ⟨p,q,_⟩ _=>(q8k p q _ _).mpr ⟨trivial,QC.mt ⟨_,_,rfl,⟨_,rfl,_,_,rfl,rfl,_,_,rfl,rfl,_,_,rfl,rfl,_,_,rfl,.inl rfl,_,_,rfl,rfl,_,_,rfl,rfl,_,_,rfl,rfl,_,_,rfl,.inl rfl,_,_,rfl,rfl,rfl⟩,rfl⟩ rfl⟩
def CIn:CV:=[(98,.inl ctIn)]
set_option maxRecDepth 100000
theorem q3v (x a b:Int) (Q:QT) (R:RT):sA [] Tryz.f98 Q R [.code (qad Tryz.f98)] (entry [iI,iI,iI] (x,a,b,())) =
  (bc (decide (a<=x)) (Q [.bool (decide (x<=b))] []) (false=false/\Q [.bool false] [])):=by kernel_rfl
theorem vc_rt (l:List (Int × Int)) (n:Int) (Q:QT) (R:RT):sA [] Tryz.f46 Q R [.code (qad Tryz.f46)] (entry [.sl rgS,iI] (l,n,())) =
  (R (hd Tryz.f46 0) { env:=[(0,.sl rgS l),(1,.i n),(4,.bool false),(5,.i 0)],blk:=[] }):=by kernel_rfl
theorem q15 (l:List (Int × Int)) (n i:Int) (Q:QT) (R:RT):sA [] Tryz.f46 Q (λ it S=>R it (qa7 [0,1,4,5] [] S)) (hd Tryz.f46 0) ⟨[(0,.sl rgS l),(1,.i n),(4,.bool false),(5,.i i)],[]⟩ =
  (bc (decide (i<(l.length:Int))) ((0:Int)<=i/\i<(l.length:Int)/\bc (decide ((gtR l i.toNat).1<0)) (true=true/\true=true/\true=true/\Q [.bool false] []) ((0:Int)<=i/\i<(l.length:Int)/\(0:Int)<=i/\i<(l.length:Int)/\bc (bif false then true else decide ((gtR l i.toNat).2<=(gtR l i.toNat).1)) (true=true/\true=true/\Q [.bool false] []) ((0:Int)<=i/\i<(l.length:Int)/\bc (bif false then true else decide (n<(gtR l i.toNat).2)) (true=true/\Q [.bool false] []) (bc (decide ((0:Int)<i)) ((0:Int)<=i64.wrap (i-1)/\i64.wrap (i-1)<(l.length:Int)/\(0:Int)<=i/\i<(l.length:Int)/\bc (bif false then true else bif true then decide ((gtR l i.toNat).1<=(gtR l (i64.wrap (i-1)).toNat).2) else false) (Q [.bool false] []) (R (hd Tryz.f46 0) { env:=[(0,.sl rgS l),(1,.i n),(4,.bool false),(5,.i (i64.wrap (i+1)))],blk:=[] })) (false=false/\R (hd Tryz.f46 0) { env:=[(0,.sl rgS l),(1,.i n),(4,.bool false),(5,.i (i64.wrap (i+1)))],blk:=[] }))))) (Q [.bool true] [])):=by kernel_rfl
theorem q8h (l:List (Int × Int)) (n:Int) (Q:QT) (R:RT):sA CIn Tryz.f47 Q R [.code (qad Tryz.f47)] (entry [.sl rgS,iI] (l,n,())) =
  (R (hd Tryz.f47 0) { env:=[(0,.sl rgS l),(1,.i n),(4,.bool false),(5,.i 0)],blk:=[] }):=by kernel_rfl
theorem quk (l:List (Int × Int)) (n i:Int) (Q:QT) (R:RT):sA CIn Tryz.f47 Q (λ it S=>R it (qa7 [0,1,4,5] [] S)) (hd Tryz.f47 0) ⟨[(0,.sl rgS l),(1,.i n),(4,.bool false),(5,.i i)],[]⟩ =
  (bc (decide (i<(l.length:Int))) ((0:Int)<=i/\i<(l.length:Int)/\(0:Int)<=i/\i<(l.length:Int)/\ctIn.pre (n,(gtR l i.toNat).1,i64.wrap ((gtR l i.toNat).2-1),())/\bc (decide ((gtR l i.toNat).1<=n)&&decide (n<=i64.wrap ((gtR l i.toNat).2-1))) (Q [.bool true] []) (R (hd Tryz.f47 0) { env:=[(0,.sl rgS l),(1,.i n),(4,.bool false),(5,.i (i64.wrap (i+1)))],blk:=[] })) (Q [.bool false] [])):=by kernel_rfl
structure IsP (n:Nat) (l:List SyT) (p:PaT):Prop where
 ck:(chkV p).2=0
 sf:symF p.2.2.2=l
 li:p.1=false
 hm:p.2.1=n
 ho:p.2.2.1=n
 len:l.length=n
 le:n<=4096
 ok:∀ s∈l,sOK n s=true
variable {n:Nat} {l a b c:List SyT} {p q r:PaT}
theorem IsP.sy (h:IsP n l p):symV p=(l,0):=by rw[sy_ok h.ck,h.sf]
theorem IsP.sySy (h:IsP n l p):sySy p=l:=by unfold Go.Proofs.YtgopblmdkjkbbaaGreatDoor.sySy;rw[h.sy]
theorem q9x {l:List SyT} (h:q0w l):IsP l.length l (mkP l):=by
 obtain ⟨_,h2,h3⟩:=q2v h;exact ⟨h2,h3,rfl,rfl,rfl,rfl,h.1,h.2⟩
end Go.Proofs.YtgopblmdkjkbbaaGreatDoor
namespace Go.Proofs.YtgopblmdkjkbbaaGreatDoor
open Go.Px Go.Ax
set_option maxRecDepth 100000
theorem q9f (o:List (Int × Int)) (f t i:Int):rngS (o++[(f,t)]) i=if t=i then o++[(f,i+1)] else o++[(f,t)]++[(i,i+1)]:=by
 unfold rngS;have hl:(o++[(f,t)]).length-1=o.length:=by simp
 have hg:gtR (o++[(f,t)]) o.length=(f,t):=by rw[ql0 (by simp)];simp
 rw[hl,hg];by_cases h:t=i
 ·rw[decide_eq_true (by simp[h]),if_pos h];simp
 ·rw[decide_eq_false (by simp[h]),if_neg h]
structure RJ (o:List (Int × Int)) (s:List Int) (hi:Int):Prop where
 rt:∀ r∈o,0<=r.1/\r.1<r.2/\r.2<=hi
 pw:o.Pairwise (λ a b=>a.2<b.1)
 mem:∀ x:Int,(∃ r∈o,r.1<=x/\x<r.2)↔x∈s
theorem RJ.add {o:List (Int × Int)} {s:List Int} {hi i:Int} (h:RJ o s hi) (h0:0<=i) (h1:hi<=i) (h2:∀ r∈o,r.2<i):RJ (o++[(i,i+1)]) (s++[i]) (i+1):=by
 refine ⟨λ r hr=>?_,?_,λ x=>?_⟩
 ·rcases List.mem_append.1 hr with hr | hr
  ·have:=h.rt r hr;omega
  ·rw[List.mem_singleton] at hr;subst hr;simp only;omega
 ·rw[List.pairwise_append];exact ⟨h.pw,List.pairwise_singleton _ _,λ a ha b hb=>by rw[List.mem_singleton] at hb;subst hb;exact h2 a ha⟩
 ·rw[List.mem_append,List.mem_singleton,<- h.mem x];constructor
  ·rintro ⟨r,hr,k1,k2⟩;rcases List.mem_append.1 hr with hr | hr
   ·exact .inl ⟨r,hr,k1,k2⟩
   ·rw[List.mem_singleton] at hr;subst hr;simp only at k1 k2;right;omega
  ·rintro (⟨r,hr,k1,k2⟩ | rfl)
   ·exact ⟨r,List.mem_append_left _ hr,k1,k2⟩
   ·exact ⟨_,List.mem_append_right _ (List.mem_singleton.2 rfl),Int.le_refl _,by simp only;omega⟩
theorem RJ.step {o:List (Int × Int)} {s:List Int} {hi i:Int} (h:RJ o s hi) (h0:0<=i) (h1:hi<=i):RJ (rngS o i) (s++[i]) (i+1):=by
 rcases List.eq_nil_or_concat o with rfl | ⟨o,⟨f,t⟩,rfl⟩
 ·exact h.add h0 h1 (by simp)
 ·rw[List.concat_eq_append] at h |-;rw[q9f];have hl:=h.rt (f,t) (by simp);simp only at hl;have hp:=List.pairwise_append.1 h.pw;split
  next e=>
   subst e;refine ⟨λ r hr=>?_,?_,λ x=>?_⟩
   ·rcases List.mem_append.1 hr with hr | hr
    ·have:=h.rt r (by simp[hr]);omega
    ·rw[List.mem_singleton] at hr;subst hr;simp only;omega
   ·rw[List.pairwise_append];refine ⟨hp.1,List.pairwise_singleton _ _,λ a ha b hb=>?_⟩;rw[List.mem_singleton] at hb;subst hb;exact hp.2.2 a ha (f,t) (by simp)
   ·rw[List.mem_append,List.mem_singleton,<- h.mem x];constructor
    ·rintro ⟨r,hr,k1,k2⟩;rcases List.mem_append.1 hr with hr | hr
     ·exact .inl ⟨r,List.mem_append_left _ hr,k1,k2⟩
     ·rw[List.mem_singleton] at hr;subst hr;simp only at k1 k2;by_cases e:x=t
      ·exact .inr e
      ·exact .inl ⟨(f,t),by simp,k1,by simp only;omega⟩
    ·rintro (⟨r,hr,k1,k2⟩ | rfl)
     ·rcases List.mem_append.1 hr with hr | hr
      ·exact ⟨r,List.mem_append_left _ hr,k1,k2⟩
      ·rw[List.mem_singleton] at hr;subst hr;simp only at k1 k2;exact ⟨(f,t+1),by simp,k1,by simp only;omega⟩
     ·exact ⟨(f,x+1),by simp,by simp only;omega,by simp only;omega⟩
  next e=>
   refine h.add h0 h1 λ r hr=>?_
   rcases List.mem_append.1 hr with hr | hr
   ·have:=hp.2.2 r hr (f,t) (by simp);simp only at this;omega
   ·rw[List.mem_singleton] at hr;subst hr;simp only;omega
theorem RJ.fold {n:Int}:∀ (r:List Int) (o:List (Int × Int)) (s:List Int) (hi:Int),RJ o s hi->r.Pairwise (·<·)->(∀ x∈r,hi<=x/\0<=x/\x<n)->hi<=n->RJ (rngF r o) (s++r) n
 | [],o,s,hi,h,_,_,hn=>by
  rw[List.append_nil];exact ⟨λ r hr=>by have:=h.rt r hr;omega,h.pw,h.mem⟩
 | i::r,o,s,hi,h,hp,hb,hn=>by
  have hi':=hb i (by simp);have hp':=List.pairwise_cons.1 hp;rw[rngF,show s++i::r=(s++[i])++r by simp];exact RJ.fold r _ _ (i+1) (h.step hi'.2.1 hi'.1) hp'.2 (λ x hx=>⟨hp'.1 x hx,(hb x (by simp[hx])).2⟩) (by omega)
theorem RJ.nil:RJ [] [] 0:=⟨by simp,List.Pairwise.nil,by simp⟩
section
variable {α β:Type} {f:Int->α->Bool} {g:Int->β->Bool}
theorem qx4 {s:α} {l:List α} {i:Nat} (h:f i s=true):whF f i (s::l)=((i:Int),s)::whF f (i+1) l:=by
 conv=>lhs;unfold whF;rw[h]
theorem qx5 {s:α} {l:List α} {i:Nat} (h:f i s=false):whF f i (s::l)=whF f (i+1) l:=by
 conv=>lhs;unfold whF;rw[h]
theorem qml:∀ (l:List α) (i:Nat) (x:Int),x∈(whF f i l).map (·.1)↔∃ j,∃ h:j<l.length,x=((i+j:Nat):Int)/\f ((i+j:Nat):Int) l[j]=true
 | [],i,x=>by simp[whF]
 | s::l,i,x=>by
  have ih:=qml l (i+1) x;have key:(∃ j,∃ h:j<(s::l).length,x=((i+j:Nat):Int)/\f ((i+j:Nat):Int) (s::l)[j]=true)↔(x=i/\f i s=true)\/x∈(whF f (i+1) l).map (·.1):=by
   rw[ih];constructor
   ·rintro ⟨j,hj,e,k⟩
    cases j with
    | zero=>exact .inl ⟨by simpa using e,by simpa using k⟩
    | succ j=>exact .inr ⟨j,by simpa using hj,by rw[e];omega,by rw[show i+1+j=i+(j+1) by omega];simpa using k⟩
   ·rintro (⟨e,k⟩ | ⟨j,hj,e,k⟩)
    ·exact ⟨0,by simp,by simpa using e,by simpa using k⟩
    ·exact ⟨j+1,by simpa using hj,by rw[e];omega,by rw[show i+(j+1)=i+1+j by omega];simpa using k⟩
  rw[key];cases h:f i s with
  | true=>rw[qx4 h,List.map_cons,List.mem_cons];simp
  | false=>rw[qx5 h];simp
theorem qt2:∀ (l:List α) (i:Nat),((whF f i l).map (·.1)).Pairwise (·<·)
 | [],i=>by simp[whF]
 | s::l,i=>by
  have ih:=qt2 l (i+1);cases h:f i s with
  | true=>
   rw[qx4 h];simp only[List.map_cons,List.pairwise_cons];refine ⟨λ x hx=>?_,ih⟩;obtain ⟨j,hj,e,_⟩:=(qml l (i+1) x).1 hx;rw[e];omega
  | false=>rw[qx5 h];exact ih
theorem qvf (l:List α):RJ (rngF ((whF f 0 l).map (·.1)) []) ((whF f 0 l).map (·.1)) l.length:=by
 have:=RJ.fold (n:=l.length) _ [] [] 0 RJ.nil (qt2 (f:=f) l 0) (λ x hx=>by
  obtain ⟨j,hj,e,_⟩:=(qml l 0 x).1 hx
  rw[e];omega) (by omega)
 rwa[List.nil_append] at this
end
attribute [local irreducible] Go.Px.sy Go.Px.syE
theorem qvs:Held Tryz.prog G0 98 ctIn:=Held.run cx0 (fn:=Tryz.f98) rfl rfl ⟨by decide,by decide⟩ λ ⟨n,a,b,_⟩ _=>by
 refine (q3v n a b _ _).mpr (qaf (λ h=>?_) (λ h=>⟨rfl,?_⟩))
 ·exact QC.flat (by simp only[ctIn,h];rfl) rfl rfl
 ·exact QC.flat (by simp only[ctIn,h];rfl) rfl rfl
theorem cxIn:CxOK Tryz.prog tt G0 CIn:=cx0.k qvs (fn:=Tryz.f98)
def qvv (l:List (Int × Int)) (n:Int):Prop:=l.length<1099511627776/\(∀ r∈l,0<=r.1/\r.1<r.2/\r.2<=n)/\l.Pairwise (λ a b=>a.2<b.1)
def ctRt:Ctr:=⟨[.sl rgS,iI],λ x=>qvv x.1 x.2.1,λ _=>[.bool true],λ _=>[]⟩
theorem q5a (l:List (Int × Int)) (n:Int) (hp:qvv l n):∀ (k i:Nat),l.length-i=k->i<=l.length ->
  GD 46 Tryz.f46 (λ rs _=>rs=[.bool true]) (hd Tryz.f46 0) ⟨[(0,.sl rgS l),(1,.i n),(4,.bool false),(5,.i (i:Nat))],[]⟩:=by
 obtain ⟨hl,hr,hw⟩:=hp;intro k
 induction k with
 | zero=>
  intro i hk hi;refine qak cx0 (q15 l n i _ _) ?_;rw[decide_eq_false (show ¬ (i:Int)<(l.length:Int) by omega),bc_f]
 | succ k ih=>
  intro i hk hi;have hx:i<l.length:=by omega
  have nx:=ih (i+1) (by omega) (by omega);have h1:=hr _ (List.getElem_mem hx);refine qak cx0 (q15 l n i _ _) ?_;rw[decide_eq_true (show (i:Int)<(l.length:Int) by omega),bc_t,Int.toNat_natCast,ql0 hx,IntWalk.i64_in ((i:Int)+1) (by omega),IntWalk.i64_in ((i:Int)-1) (by omega),decide_eq_false (show ¬ l[i].1<0 by omega),bc_f,decide_eq_false (show ¬ l[i].2<=l[i].1 by omega),decide_eq_false (show ¬ n<l[i].2 by omega)];simp only[cond_false,cond_true,bc_f];refine ⟨by omega,by omega,by omega,by omega,by omega,by omega,by omega,by omega,qaf (λ h=>?_) (λ h=>?_)⟩
  ·have h:=of_decide_eq_true h;have e:((i:Int)-1).toNat=i-1:=by omega
   have hp:=List.pairwise_iff_getElem.1 hw (i-1) i (by omega) hx (by omega);rw[e,ql0 (show i-1<l.length by omega),decide_eq_false (show ¬ l[i].1<=l[i-1].2 by omega)];exact ⟨by omega,by omega,by omega,by omega,nx.only ⟨rfl,rfl,rfl,rfl,trivial⟩ trivial⟩
  ·first | exact ⟨trivial,nx.only ⟨rfl,rfl,rfl,rfl,trivial⟩ trivial⟩ | exact ⟨rfl,nx.only ⟨rfl,rfl,rfl,rfl,trivial⟩ trivial⟩
theorem q5b:Held Tryz.prog G0 46 ctRt:=Held.of cx0 (fn:=Tryz.f46) rfl rfl ⟨by decide,by decide⟩ λ ⟨l,n,_⟩ hp=>
 (qaj cx0 _ _ _ ((vc_rt l n _ _).mpr ((q5a l n hp _ 0 rfl (Nat.zero_le _)).only ⟨rfl,rfl,rfl,rfl,trivial⟩ trivial))).post λ rs blk hq=>QC.flat (by rw[hq];rfl) rfl (by rw[hq];rfl)
def inrB (n:Int) (r:Int × Int):Bool:=decide (r.1<=n)&&decide (n<=r.2-1)
def qob (l:List (Int × Int)):Prop:=l.length<1099511627776/\∀ r∈l,0<=r.2/\r.2<1099511627776
def ctIr:Ctr:=⟨[.sl rgS,iI],λ x=>qob x.1,λ x=>[.bool (List.any x.1 (inrB x.2.1))],λ _=>[]⟩
theorem q6l (l:List (Int × Int)) (n:Int) (hp:qob l):∀ (k i:Nat),l.length-i=k->i<=l.length ->
  GD 47 Tryz.f47 (λ rs _=>rs=[.bool ((l.drop i).any (inrB n))]) (hd Tryz.f47 0) ⟨[(0,.sl rgS l),(1,.i n),(4,.bool false),(5,.i (i:Nat))],[]⟩:=by
 obtain ⟨hl,hr⟩:=hp;intro k
 induction k with
 | zero=>
  intro i hk hi;refine qak cxIn (quk l n i _ _) ?_;rw[decide_eq_false (show ¬ (i:Int)<(l.length:Int) by omega),bc_f,List.drop_of_length_le (by omega)];rfl
 | succ k ih=>
  intro i hk hi;have hx:i<l.length:=by omega
  have nx:=ih (i+1) (by omega) (by omega);have h1:=hr _ (List.getElem_mem hx);refine qak cxIn (quk l n i _ _) ?_;rw[decide_eq_true (show (i:Int)<(l.length:Int) by omega),bc_t,Int.toNat_natCast,ql0 hx,IntWalk.i64_in ((i:Int)+1) (by omega),IntWalk.i64_in (l[i].2-1) (by omega),List.drop_eq_getElem_cons hx,List.any_cons];refine ⟨by omega,by omega,by omega,by omega,trivial,qaf (λ h=>?_) (λ h=>?_)⟩
  ·have h:inrB n l[i]=true:=h;rw[h];rfl
  ·have h:inrB n l[i]=false:=h;rw[h,Bool.false_or];exact nx.only ⟨rfl,rfl,rfl,rfl,trivial⟩ trivial
theorem q6m:Held Tryz.prog G0 47 ctIr:=Held.of cxIn (fn:=Tryz.f47) rfl rfl ⟨by decide,by decide⟩ λ ⟨l,n,_⟩ hp=>
 (qaj cxIn _ _ _ ((q8h l n _ _).mpr ((q6l l n hp _ 0 rfl (Nat.zero_le _)).only ⟨rfl,rfl,rfl,rfl,trivial⟩ trivial))).post λ rs blk hq=>QC.flat (by rw[hq];rfl) rfl (by rw[hq];rfl)
def toI (s:List SyT) (i:Nat):List Bool:=(List.range s.length).map λ j=>decide (j<i)&&tcB j (gtY s j)
theorem q7o  (Q:QT) (R:RT):sA [] Tryz.f78 Q R [.code (qad Tryz.f78)] (entry [] ()) =
  (0+1<=([(9:Int)]:List uB.D).length/\0+1<=([(9:Int)]:List uB.D).length/\0+1<=([(1:Int)]:List uB.D).length/\0+1<=([(1:Int)]:List uB.D).length/\0+3<=((((List.replicate (3:Nat) opS.dflt).set (0:Nat) ((1:Int),(0:Int),(1:Int),(0:Int),[])).set (1:Nat) ((4:Int),(0:Int),(1:Int),(0:Int),([(9:Int)]:List uB.D))).set (2:Nat) ((1:Int),(2:Int),(2:Int),(0:Int),[])).length/\0+3<=((((List.replicate (3:Nat) opS.dflt).set (0:Nat) ((1:Int),(0:Int),(1:Int),(0:Int),[])).set (1:Nat) ((4:Int),(0:Int),(1:Int),(0:Int),([(9:Int)]:List uB.D))).set (2:Nat) ((1:Int),(2:Int),(2:Int),(0:Int),[])).length/\0+3<=((((List.replicate (3:Nat) opS.dflt).set (0:Nat) ((1:Int),(0:Int),(1:Int),(0:Int),[])).set (1:Nat) ((4:Int),(0:Int),(1:Int),(0:Int),([(9:Int)]:List uB.D))).set (2:Nat) ((1:Int),(2:Int),(2:Int),(0:Int),[])).length/\0+3<=((((List.replicate (3:Nat) opS.dflt).set (0:Nat) ((1:Int),(0:Int),(1:Int),(0:Int),[])).set (1:Nat) ((4:Int),(0:Int),(1:Int),(0:Int),([(9:Int)]:List uB.D))).set (2:Nat) ((1:Int),(2:Int),(2:Int),(0:Int),[])).length/\0+2<=(((List.replicate (2:Nat) opS.dflt).set (0:Nat) ((1:Int),(0:Int),(3:Int),(0:Int),[])).set (1:Nat) ((2:Int),(0:Int),(1:Int),(0:Int),([(1:Int)]:List uB.D))).length/\0+2<=(((List.replicate (2:Nat) opS.dflt).set (0:Nat) ((1:Int),(0:Int),(3:Int),(0:Int),[])).set (1:Nat) ((2:Int),(0:Int),(1:Int),(0:Int),([(1:Int)]:List uB.D))).length/\0+2<=(((List.replicate (2:Nat) opS.dflt).set (0:Nat) ((1:Int),(0:Int),(3:Int),(0:Int),[])).set (1:Nat) ((2:Int),(0:Int),(1:Int),(0:Int),([(1:Int)]:List uB.D))).length/\0+2<=(((List.replicate (2:Nat) opS.dflt).set (0:Nat) ((1:Int),(0:Int),(3:Int),(0:Int),[])).set (1:Nat) ((2:Int),(0:Int),(1:Int),(0:Int),([(1:Int)]:List uB.D))).length/\0+2<=(((List.replicate (2:Nat) opS.dflt).set (0:Nat) ((1:Int),(0:Int),(1:Int),(0:Int),[])).set (1:Nat) ((3:Int),(0:Int),(3:Int),(9:Int),[])).length/\0+2<=(((List.replicate (2:Nat) opS.dflt).set (0:Nat) ((1:Int),(0:Int),(1:Int),(0:Int),[])).set (1:Nat) ((3:Int),(0:Int),(3:Int),(9:Int),[])).length/\Q [.arr (3:Nat) paS (((List.set (Sh.arr (3:Nat) paS).dflt (0:Nat) (false,(4:Int),(4:Int),winL opS 0 3 ((((List.replicate (3:Nat) opS.dflt).set (0:Nat) ((1:Int),(0:Int),(1:Int),(0:Int),[])).set (1:Nat) ((4:Int),(0:Int),(1:Int),(0:Int),([(9:Int)]:List uB.D))).set (2:Nat) ((1:Int),(2:Int),(2:Int),(0:Int),[])))).set (1:Nat) (false,(4:Int),(4:Int),winL opS 0 2 (((List.replicate (2:Nat) opS.dflt).set (0:Nat) ((1:Int),(0:Int),(3:Int),(0:Int),[])).set (1:Nat) ((2:Int),(0:Int),(1:Int),(0:Int),([(1:Int)]:List uB.D))))).set (2:Nat) (false,(4:Int),(4:Int),winL opS 0 2 (((List.replicate (2:Nat) opS.dflt).set (0:Nat) ((1:Int),(0:Int),(1:Int),(0:Int),[])).set (1:Nat) ((3:Int),(0:Int),(3:Int),(9:Int),[]))))] [(0,.var [.arr (3:Nat) paS (((List.set (Sh.arr (3:Nat) paS).dflt (0:Nat) (false,(4:Int),(4:Int),winL opS 0 3 ((((List.replicate (3:Nat) opS.dflt).set (0:Nat) ((1:Int),(0:Int),(1:Int),(0:Int),[])).set (1:Nat) ((4:Int),(0:Int),(1:Int),(0:Int),([(9:Int)]:List uB.D))).set (2:Nat) ((1:Int),(2:Int),(2:Int),(0:Int),[])))).set (1:Nat) (false,(4:Int),(4:Int),winL opS 0 2 (((List.replicate (2:Nat) opS.dflt).set (0:Nat) ((1:Int),(0:Int),(3:Int),(0:Int),[])).set (1:Nat) ((2:Int),(0:Int),(1:Int),(0:Int),([(1:Int)]:List uB.D))))).set (2:Nat) (false,(4:Int),(4:Int),winL opS 0 2 (((List.replicate (2:Nat) opS.dflt).set (0:Nat) ((1:Int),(0:Int),(1:Int),(0:Int),[])).set (1:Nat) ((3:Int),(0:Int),(3:Int),(9:Int),[]))))]),(1,.var [.bool false,.i 4,.i 4,.sl opS (winL opS 0 3 ((((List.replicate (3:Nat) opS.dflt).set (0:Nat) ((1:Int),(0:Int),(1:Int),(0:Int),[])).set (1:Nat) ((4:Int),(0:Int),(1:Int),(0:Int),([(9:Int)]:List uB.D))).set (2:Nat) ((1:Int),(2:Int),(2:Int),(0:Int),[])))]),(2,.var [.bool false,.i 4,.i 4,.sl opS (winL opS 0 2 (((List.replicate (2:Nat) opS.dflt).set (0:Nat) ((1:Int),(0:Int),(3:Int),(0:Int),[])).set (1:Nat) ((2:Int),(0:Int),(1:Int),(0:Int),([(1:Int)]:List uB.D))))])]):=by kernel_rfl
def thrL:List PaT:=[(false,4,4,[(1,0,1,0,[]),(4,0,1,0,[9]),(1,2,2,0,[])]),(false,4,4,[(1,0,3,0,[]),(2,0,1,0,[1])]),(false,4,4,[(1,0,1,0,[]),(3,0,3,9,[])])]
def ctThr:Ctr:=⟨[],λ _=>True,λ _=>[.arr 3 paS thrL],λ _=>[]⟩
theorem qyq:Held Tryz.prog G0 78 ctThr:=Held.run cx0 (fn:=Tryz.f78) rfl rfl ⟨by decide,by decide⟩ λ _ _=>(q7o _ _).mpr (by
 repeat' first
  | (refine And.intro ?_ ?_)
  | (exact QC.flat rfl rfl rfl)
  | decide)
def CSan:CV:=[(78,.inl ctThr),(33,.inl ctTch),(35,.inl ctRd),(38,.inl ctCl),(40,.inl ctMg),(79,.inl ctRgs),(27,.inl ctSm),(43,.inl ctExc),(42,.inl ctSme)]
theorem cxSan:CxOK Tryz.prog tt G0 CSan:=((((((((cx0.k qy4 (fn:=Tryz.f42)).k q01 (fn:=Tryz.f43)).k qu1 (fn:=Tryz.f27)).k qzd (fn:=Tryz.f79)).k qz7 (fn:=Tryz.f40)).k qz9 (fn:=Tryz.f38)).k qrn (fn:=Tryz.f35)).k qok (fn:=Tryz.f33)).k qyq (fn:=Tryz.f78)
set_option maxRecDepth 100000
theorem q33  (Q:QT) (R:RT):sA CSan Tryz.f30 Q R [.code (qad Tryz.f30)] (entry [] ()) =
  (ctThr.pre ()/\(0:Int)<=0/\(0:Int)<(↑(3:Nat):Int)/\0<3/\ctTch.pre ((gtP thrL (0)),())/\(0:Int)<=2/\(2:Int)<(↑(3:Nat):Int)/\2<3/\ctTch.pre ((gtP thrL (2)),())/\(0:Int)<=1/\(1:Int)<(↑(3:Nat):Int)/\1<3/\ctRd.pre ((gtP thrL (1)),())/\(0:Int)<=0/\(0:Int)<(↑(3:Nat):Int)/\0<3/\(0:Int)<=2/\(2:Int)<(↑(3:Nat):Int)/\2<3/\ctCl.pre ((gtP thrL (0)),(gtP thrL (2)),())/\(0:Int)<=1/\(1:Int)<(↑(3:Nat):Int)/\1<3/\(0:Int)<=2/\(2:Int)<(↑(3:Nat):Int)/\2<3/\ctCl.pre ((gtP thrL (1)),(gtP thrL (2)),())/\(0:Int)<=0/\(0:Int)<(↑(3:Nat):Int)/\0<3/\(0:Int)<=1/\(1:Int)<(↑(3:Nat):Int)/\1<3/\ctMg.pre ((gtP thrL (0)),(gtP thrL (1)),())/\(0:Int)<=0/\(0:Int)<(↑(3:Nat):Int)/\0<3/\ctMg.pre ((gtP thrL (0)),(false,(0:Int),(0:Int),[]),())/\(0:Int)<=1/\(1:Int)<(↑(3:Nat):Int)/\1<3/\(0:Int)<=2/\(2:Int)<(↑(3:Nat):Int)/\2<3/\ctMg.pre ((gtP thrL (1)),(gtP thrL (2)),())/\0+1<=([(9:Int)]:List uB.D).length/\0+1<=([(9:Int)]:List uB.D).length/\0+1<=([(1:Int)]:List uB.D).length/\0+1<=([(1:Int)]:List uB.D).length/\0+(tchV (gtP thrL (0))).1.length<=(tchV (gtP thrL (0))).1.length/\ctRgs.pre (winL rgS 0 (tchV (gtP thrL (0))).1.length (tchV (gtP thrL (0))).1,(tchV (gtP thrL (0))).2,((1:Int),(2:Int)),())/\0+(tchV (gtP thrL (2))).1.length<=(tchV (gtP thrL (2))).1.length/\ctRgs.pre (winL rgS 0 (tchV (gtP thrL (2))).1.length (tchV (gtP thrL (2))).1,(tchV (gtP thrL (2))).2,((1:Int),(4:Int)),())/\0+(rdV (gtP thrL (1))).1.length<=(rdV (gtP thrL (1))).1.length/\ctRgs.pre (winL rgS 0 (rdV (gtP thrL (1))).1.length (rdV (gtP thrL (1))).1,(rdV (gtP thrL (1))).2,((0:Int),(1:Int)),())/\0+(clV (gtP thrL (0)) (gtP thrL (2))).1.length<=(clV (gtP thrL (0)) (gtP thrL (2))).1.length/\ctRgs.pre (winL rgS 0 (clV (gtP thrL (0)) (gtP thrL (2))).1.length (clV (gtP thrL (0)) (gtP thrL (2))).1,(clV (gtP thrL (0)) (gtP thrL (2))).2,((0:Int),(0:Int)),())/\0+(clV (gtP thrL (1)) (gtP thrL (2))).1.length<=(clV (gtP thrL (1)) (gtP thrL (2))).1.length/\ctRgs.pre (winL rgS 0 (clV (gtP thrL (1)) (gtP thrL (2))).1.length (clV (gtP thrL (1)) (gtP thrL (2))).1,(clV (gtP thrL (1)) (gtP thrL (2))).2,((3:Int),(4:Int)),())/\0+4<=(((((List.replicate (4:Nat) opS.dflt).set (0:Nat) ((1:Int),(0:Int),(1:Int),(0:Int),[])).set (1:Nat) ((4:Int),(0:Int),(1:Int),(0:Int),([(9:Int)]:List uB.D))).set (2:Nat) ((1:Int),(2:Int),(1:Int),(0:Int),[])).set (3:Nat) ((2:Int),(0:Int),(1:Int),(0:Int),([(1:Int)]:List uB.D))).length/\ctSm.pre (((mgV (gtP thrL (0)) (gtP thrL (1))).1),(false,(4:Int),(4:Int),winL opS 0 4 (((((List.replicate (4:Nat) opS.dflt).set (0:Nat) ((1:Int),(0:Int),(1:Int),(0:Int),[])).set (1:Nat) ((4:Int),(0:Int),(1:Int),(0:Int),([(9:Int)]:List uB.D))).set (2:Nat) ((1:Int),(2:Int),(1:Int),(0:Int),[])).set (3:Nat) ((2:Int),(0:Int),(1:Int),(0:Int),([(1:Int)]:List uB.D)))),())/\(0:Int)<=0/\(0:Int)<(↑(3:Nat):Int)/\0<3/\(0:Int)<=1/\(1:Int)<(↑(3:Nat):Int)/\1<3/\ctExc.pre ((gtP thrL (0)),(gtP thrL (1)),())/\(0:Int)<=1/\(1:Int)<(↑(3:Nat):Int)/\1<3/\(0:Int)<=0/\(0:Int)<(↑(3:Nat):Int)/\0<3/\ctSme.pre ((((cmV (gtP thrL (0)) (gtP thrL (1))).1),((cmV (gtP thrL (0)) (gtP thrL (1))).2.1.1,(cmV (gtP thrL (0)) (gtP thrL (1))).2.1.2.1,(cmV (gtP thrL (0)) (gtP thrL (1))).2.1.2.2.1,(cmV (gtP thrL (0)) (gtP thrL (1))).2.1.2.2.2),(cmV (gtP thrL (0)) (gtP thrL (1))).2.2),((gtP thrL (1)),(gtP thrL (0)),(0:Int)),())/\(0:Int)<=1/\(1:Int)<(↑(3:Nat):Int)/\1<3/\(0:Int)<=2/\(2:Int)<(↑(3:Nat):Int)/\2<3/\ctExc.pre ((gtP thrL (1)),(gtP thrL (2)),())/\Q [.bool (decide ((cmV (gtP thrL (1)) (gtP thrL (2))).2.2=(110:Int)))] [(1,.var [.arr (3:Nat) paS thrL]),(12,.var [.bool (mgV (gtP thrL (0)) (gtP thrL (1))).1.1,.i (mgV (gtP thrL (0)) (gtP thrL (1))).1.2.1,.i (mgV (gtP thrL (0)) (gtP thrL (1))).1.2.2.1,.sl opS (mgV (gtP thrL (0)) (gtP thrL (1))).1.2.2.2]),(14,.var [.bool (mgV (gtP thrL (0)) (false,(0:Int),(0:Int),[])).1.1,.i (mgV (gtP thrL (0)) (false,(0:Int),(0:Int),[])).1.2.1,.i (mgV (gtP thrL (0)) (false,(0:Int),(0:Int),[])).1.2.2.1,.sl opS (mgV (gtP thrL (0)) (false,(0:Int),(0:Int),[])).1.2.2.2]),(16,.var [.bool (mgV (gtP thrL (1)) (gtP thrL (2))).1.1,.i (mgV (gtP thrL (1)) (gtP thrL (2))).1.2.1,.i (mgV (gtP thrL (1)) (gtP thrL (2))).1.2.2.1,.sl opS (mgV (gtP thrL (1)) (gtP thrL (2))).1.2.2.2]),(18,.var [.bool false,.i 4,.i 4,.win true opS 84 0 (4:Nat)]),(84,.row 91 opS (((((List.replicate (4:Nat) opS.dflt).set (0:Nat) ((1:Int),(0:Int),(1:Int),(0:Int),[])).set (1:Nat) ((4:Int),(0:Int),(1:Int),(0:Int),([(9:Int)]:List uB.D))).set (2:Nat) ((1:Int),(2:Int),(1:Int),(0:Int),[])).set (3:Nat) ((2:Int),(0:Int),(1:Int),(0:Int),([(1:Int)]:List uB.D)))),(1098304,.row 127 rgS (tchV (gtP thrL (0))).1),(1122880,.row 127 rgS (tchV (gtP thrL (2))).1),(1147456,.row 127 rgS (rdV (gtP thrL (1))).1),(1180224,.row 127 rgS (clV (gtP thrL (0)) (gtP thrL (2))).1),(1212992,.row 127 rgS (clV (gtP thrL (1)) (gtP thrL (2))).1)]):=by kernel_rfl
def ctSn11:Ctr:=⟨[],λ _=>True,λ _=>[.bool true],λ _=>[]⟩
theorem qz1 (R:List Item->PS->Prop):sA CSan Tryz.f30 (QC ctSn11 ()) R [.code (qad Tryz.f30)] (entry [] ()):=by
 refine (q33 _ _).mpr ?_
 repeat' first
  | exact trivial
  | (show List.length _<1000000;decide +kernel)
  | (show List.length _<16777216;decide +kernel)
  | (show List.length _<1099511627776;decide +kernel)
  | decide +kernel
  | refine And.intro ?_ ?_
  | (refine QC.flat ?_ rfl rfl)
  | (refine congrArg (λ b=>[SV.bool b]) ?_;decide +kernel)
theorem qwl:Held Tryz.prog G0 30 ctSn11:=Held.run cxSan (fn:=Tryz.f30) rfl rfl ⟨by decide,by decide⟩ λ x _=>qz1 _
theorem q7i {n:Nat} {v:PaT} (h:P11 n v):∃ l,IsP n l v/\byY l:=by
 obtain ⟨l,⟨h1,hb⟩,h2,rfl⟩:=h;have h2:l.length=n:=by omega
 subst h2;exact ⟨l,q9x h1,hb⟩
theorem qvh:∀ (r:List Int) (o:List (Int × Int)),(rngF r o).length<=o.length+r.length
 | [],o=>Nat.le_refl _
 | i::r,o=>by
  have:=qvh r (rngS o i);have h:(rngS o i).length<=o.length+1:=by
   unfold rngS;split
   ·rw[List.length_set];omega
   ·simp
  rw[rngF,List.length_cons];omega
theorem q1y {α:Type} {f:Int->α->Bool}:∀ (l:List α) (i:Nat),(whF f i l).length<=l.length
 | [],_=>Nat.le_refl _
 | s::l,i=>by
  have:=q1y (f:=f) l (i+1);cases h:f i s with
  | true=>rw[qx4 h,List.length_cons,List.length_cons];omega
  | false=>rw[qx5 h,List.length_cons];omega
def CQ:CV:=[(62,.inl ctPl),(22,.inl ctSym)]
theorem cxQ:CxOK Tryz.prog tt G0 CQ:=(cx0.k qmn (fn:=Tryz.f22)).k q5p (fn:=Tryz.f62)
theorem qyo (old:List Int) (li:Bool) (m o:Int) (l:List OpT) (Q:QT) (R:RT):sA CQ Tryz.f17 Q R [.code (qad Tryz.f17)] (entry [.sl uB,paS] (old,(li,m,o,l),())) =
  (ctSym.pre ((li,m,o,l),())/\bc (decide ((symV (li,m,o,l)).2≠0)) (Q [.nils,.i (symV (li,m,o,l)).2] [(3,.var [.bool li,.i m,.i o,.sl opS l]),(1040960,.row 93 syS (symV (li,m,o,l)).1)]) (bc li False ((0:Nat)+(symV (li,m,o,l)).1.length<=(symV (li,m,o,l)).1.length/\ctPl.pre (old,m,winL syS 0 (symV (li,m,o,l)).1.length (symV (li,m,o,l)).1,())/\Q [.win true uB 1118784 0 (plV old m (winL syS 0 (symV (li,m,o,l)).1.length (symV (li,m,o,l)).1)).1.length,.i (plV old m (winL syS 0 (symV (li,m,o,l)).1.length (symV (li,m,o,l)).1)).2] [(3,.var [.bool li,.i m,.i o,.sl opS l]),(1040960,.row 93 syS (symV (li,m,o,l)).1),(1118784,.row 5 uB (plV old m (winL syS 0 (symV (li,m,o,l)).1.length (symV (li,m,o,l)).1)).1)]))):=by kernel_rfl
def apV (old:List Int) (p:PaT):List Int × Int:=if (symV p).2=0 then plV old p.2.1 (symV p).1 else ([],(symV p).2)
def ctAp:Ctr:=⟨[.sl uB,paS],λ x=>x.2.1.1=false,λ x=>[.win true uB 0 0 (apV x.1 x.2.1).1.length,.i (apV x.1 x.2.1).2],λ x=>[.row 5 uB (apV x.1 x.2.1).1]⟩
theorem q7h:Held Tryz.prog G0 17 ctAp:=by
 refine Held.run cxQ (fn:=Tryz.f17) rfl rfl ⟨by decide,by decide⟩ ?_;rintro ⟨old,⟨li,m,o,l⟩,⟨⟩⟩ hp;replace hp:li=false:=hp;subst hp;refine (qyo old false m o l _ _).mpr ⟨trivial,qaf (λ h=>?_) (λ h=>?_)⟩
 ·have h:(symV (false,m,o,l)).2≠0:=of_decide_eq_true h;have hv:apV old (false,m,o,l)=([],(symV (false,m,o,l)).2):=if_neg h;refine qj6 (e:=uB) (et:=5) (z:=(symV (false,m,o,l)).2) ?_ ?_ rfl (by decide)
  ·show [_,_]=_;rw[hv];rfl
  ·show [_]=_;rw[hv]
 ·have h:¬ (symV (false,m,o,l)).2≠0:=of_decide_eq_false h;have h:(symV (false,m,o,l)).2=0:=by simpa using h
  have hv:apV old (false,m,o,l)=plV old m (symV (false,m,o,l)).1:=if_pos h;have hl:=qyx (false,m,o,l);have hw:winL syS 0 (symV (false,m,o,l)).1.length (symV (false,m,o,l)).1=(symV (false,m,o,l)).1:=winA (e:=syS) _;rw[bc_f,hw];refine ⟨Nat.le_of_eq (Nat.zero_add _),hl,?_⟩;refine qj5 (e:=uB) (et:=5) (a:=1118784) (z:=(plV old m (symV (false,m,o,l)).1).2) (xs:=(plV old m (symV (false,m,o,l)).1).1) ?_ ?_ rfl rfl rfl
  ·show [_,_]=_;rw[hv]
  ·show [_]=_;rw[hv]
noncomputable abbrev oR (x:Int × List (List Int)):PaT:=qz0 x.1 x.2
noncomputable def CLt:CV:=[(30,.inl ctSn11),(31,.inl ctM11),(33,.inl ctTch),(35,.inl ctRd),(45,.inl ctWh),(14,.inl ctInp),(17,.inl ctAp),(46,.inl ctRt),(47,.inl ctIr)]
theorem cxLt:CxOK Tryz.prog tt G0 CLt:=((((((((cx0.k q6m (fn:=Tryz.f47)).k q5b (fn:=Tryz.f46)).k q7h (fn:=Tryz.f17)).k q0p (fn:=Tryz.f14)).k q3g (fn:=Tryz.f45)).k qrn (fn:=Tryz.f35)).k qok (fn:=Tryz.f33)).k q0a (fn:=Tryz.f31)).k qwl (fn:=Tryz.f30)
set_option maxRecDepth 100000
abbrev doL (x:List Int) (l:List SyT):List Int:=l.map (ruB x)
theorem qxm {x:List Int} {l:List SyT} {j:Nat} (h:j<l.length):gtB (doL x l) j=ruB x (gtY l j):=by
 rw[ql1 (by rw[List.length_map];exact h),List.getElem_map,qbf h]
def reads (l:List SyT) (m:Nat):Prop:=∃ j,j<l.length/\tcB j (gtY l j)=true/\(gtY l j).1=true/\(gtY l j).2.1.toNat=m
theorem q6y {x y:List Int} {l:List SyT} (h:∀ m,reads l m->gtB x m=gtB y m) {j:Nat} (hj:j<l.length) (ht:tcB j (gtY l j)=true):gtB (doL x l) j=gtB (doL y l) j:=by
 rw[qxm hj,qxm hj];unfold ruB
 cases ho:(gtY l j).1 with
 | false=>simp
 | true=>rw[h _ ⟨j,hj,ht,ho,rfl⟩]
theorem qru {l:List Bool} {i:Nat} (h:i<l.length):gtT l i=l[i]:=gtE (e:=.bool) h
theorem qmz:∀ (rs:List (Int × SyT)) (o:List Bool) (m:Nat),m<o.length->(gtT (rdbF rs o) m=true↔gtT o m=true\/∃ x∈rs,x.2.1=true/\x.2.2.1.toNat=m)
 | [],o,m,h=>by simp[rdbF]
 | x::rs,o,m,h=>by
  rw[rdbF]
  cases hq:x.2.1 with
  | true=>
   have ih:=qmz rs (o.set x.2.2.1.toNat true) m (by rw[List.length_set];exact h)
   show gtT (rdbF rs (o.set x.2.2.1.toNat true)) m=true↔_
   rw[ih,qru (by rw[List.length_set];exact h),qru h,List.getElem_set];constructor
   ·rintro (k | ⟨y,hy,k⟩)
    ·split at k
     next e=>exact .inr ⟨x,by simp,hq,e⟩
     ·exact .inl k
    ·exact .inr ⟨y,by simp[hy],k⟩
   ·rintro (k | ⟨y,hy,k1,k2⟩)
    ·left;split
     ·rfl
     ·exact k
    ·rcases List.mem_cons.1 hy with rfl | hy
     ·left;rw[if_pos k2]
     ·exact .inr ⟨y,hy,k1,k2⟩
  | false=>
   have ih:=qmz rs o m h
   show gtT (rdbF rs o) m=true↔_
   rw[ih];constructor
   ·rintro (k | ⟨y,hy,k⟩)
    ·exact .inl k
    ·exact .inr ⟨y,by simp[hy],k⟩
   ·rintro (k | ⟨y,hy,k1,k2⟩)
    ·exact .inl k
    ·rcases List.mem_cons.1 hy with rfl | hy
     ·rw[hq] at k1;cases k1
     ·exact .inr ⟨y,hy,k1,k2⟩
theorem qmj {α:Type} {f:Int->α->Bool}:∀ (l:List α) (i:Nat) (x:Int × α),x∈whF f i l↔∃ j,∃ h:j<l.length,x=(((i+j:Nat):Int),l[j])/\f ((i+j:Nat):Int) l[j]=true
 | [],i,x=>by simp[whF]
 | s::l,i,x=>by
  have ih:=qmj (f:=f) l (i+1) x;have key:(∃ j,∃ h:j<(s::l).length,x=(((i+j:Nat):Int),(s::l)[j])/\f ((i+j:Nat):Int) (s::l)[j]=true)↔(x=((i:Int),s)/\f i s=true)\/x∈whF f (i+1) l:=by
   rw[ih];constructor
   ·rintro ⟨j,hj,e,k⟩
    cases j with
    | zero=>exact .inl ⟨e,k⟩
    | succ j=>exact .inr ⟨j,by simpa using hj,by rw[e,show i+1+j=i+(j+1) by omega];rfl,by rw[show i+1+j=i+(j+1) by omega];exact k⟩
   ·rintro (⟨e,k⟩ | ⟨j,hj,e,k⟩)
    ·exact ⟨0,by simp,e,k⟩
    ·exact ⟨j+1,by simpa using hj,by rw[e,show i+(j+1)=i+1+j by omega];rfl,by rw[show i+(j+1)=i+1+j by omega];exact k⟩
  rw[key];cases h:f i s with
  | true=>rw[qx4 h,List.mem_cons];simp
  | false=>rw[qx5 h];simp
theorem q5g {l:List SyT} {m:Nat} (hm:m<l.length):gtT (rdbV l) m=true↔reads l m:=by
 unfold rdbV;rw[qmz _ _ _ (by rw[List.length_replicate];exact hm),qru (by rw[List.length_replicate];exact hm)];simp only[List.getElem_replicate,Bool.false_eq_true,false_or];constructor
 ·rintro ⟨x,hx,h1,h2⟩;obtain ⟨j,hj,e,k⟩:=(qmj l 0 x).1 hx;subst e;rw[Nat.zero_add] at k;exact ⟨j,hj,by rw[qbf hj];exact k,by rw[qbf hj];exact h1,by rw[qbf hj];exact h2⟩
 ·rintro ⟨j,hj,k,h1,h2⟩;rw[qbf hj] at k h1 h2;exact ⟨((j:Int),l[j]),(qmj l 0 _).2 ⟨j,hj,by rw[Nat.zero_add],by rw[Nat.zero_add];exact k⟩,h1,h2⟩
theorem qvg {α:Type} {f:Int->α->Bool} {l:List α} {j:Nat} (hj:j<l.length):(rngF ((whF f 0 l).map (·.1)) []).any (inrB j)=f j l[j]:=by
 rw[Bool.eq_iff_iff,List.any_eq_true];have key:=(qvf (f:=f) l).mem j;rw[qml] at key;constructor
 ·rintro ⟨r,h1,h2⟩;simp only[inrB,Bool.and_eq_true,decide_eq_true_eq] at h2;obtain ⟨k,hk,e,q⟩:=key.1 ⟨r,h1,h2.1,by omega⟩;have:k=j:=by omega
  subst this;rw[Nat.zero_add] at q;exact q
 ·intro q;obtain ⟨r,h1,h2,h3⟩:=key.2 ⟨j,hj,by rw[Nat.zero_add],by rw[Nat.zero_add];exact q⟩;exact ⟨r,h1,by simp only[inrB,Bool.and_eq_true,decide_eq_true_eq];exact ⟨h2,by omega⟩⟩
theorem qn7 {α:Type} {f:Int->α->Bool} {l:List α} (hn:l.length<=4096):qvv (rngF ((whF f 0 l).map (·.1)) []) l.length/\qob (rngF ((whF f 0 l).map (·.1)) []):=by
 have h:=qvf (f:=f) l;have hl:(rngF ((whF f 0 l).map (·.1)) []).length<=l.length:=by
  have h1:=qvh ((whF f 0 l).map (·.1)) [];have h2:=q1y (f:=f) l 0;rw[List.length_map] at h1;simp only[List.length_nil,Nat.zero_add] at h1;omega
 exact ⟨⟨by omega,h.rt,h.pw⟩,⟨by omega,λ r hr=>by have:=h.rt r hr;omega⟩⟩
theorem q5e {l:List SyT} {j:Nat} (hj:j<l.length):(rgTV l).any (inrB j)=tcB j (gtY l j):=by
 rw[qbf hj];exact qvg hj
theorem q5f {l:List Bool} {j:Nat} (hj:j<l.length):(rgRV l).any (inrB j)=gtT l j:=by
 rw[qru hj];exact qvg (f:=λ _ x=>x) hj
theorem q4n {n:Nat} {a:List SyT} {p:PaT} (h:IsP n a p):tchV p=(rgTV a,0):=by
 have e:syEr [p]=0:=by unfold syEr syEr;rw[h.sy];rfl
 have k:qah [p]=([a],0):=by
  rw[qmp e (by simp[othB,qtd]) (by simp[uneB,qtd,h.hm,h.ho])]
  show ([Go.Proofs.YtgopblmdkjkbbaaGreatDoor.sySy p],(0:Int))=_
  rw[h.sySy]
 unfold tchV;rw[k,h.sySy];rfl
theorem rd_val {n:Nat} {a:List SyT} {p:PaT} (h:IsP n a p):rdV p=(rgRV (rdbV a),0):=by
 have e:syEr [p]=0:=by unfold syEr syEr;rw[h.sy];rfl
 have k:qah [p]=([a],0):=by
  rw[qmp e (by simp[othB,qtd]) (by simp[uneB,qtd,h.hm,h.ho])]
  show ([Go.Proofs.YtgopblmdkjkbbaaGreatDoor.sySy p],(0:Int))=_
  rw[h.sySy]
 unfold rdV;rw[k,h.sySy];rfl
theorem q9d {m:Int} {old:List Int} {s:SyT} (h:sOK m s=true) (hm:m=(old.length:Int)):ruOK old s=true:=by
 subst hm;obtain ⟨s1,s2,s3⟩:=s;unfold sOK at h;unfold ruOK
 cases s1 with
 | false=>rfl
 | true=>simp at h |-;omega
theorem q3a {n:Nat} {a:List SyT} {p:PaT} {old:List Int} (h:IsP n a p) (hl:old.length=n):apV old p=(doL old a,0):=by
 unfold apV plV;rw[h.sy,if_pos rfl,if_pos (by rw[hl,h.hm])];unfold runV;rw[if_pos (List.all_eq_true.2 λ x hx=>q9d (h.ok x hx) (by rw[hl]))]
theorem qxl {x:List Int} {l:List SyT}:(doL x l).length=l.length:=List.length_map ..
def by8 (x:List Int):Prop:=∀ j,0<=gtB x j/\gtB x j<256
theorem q2z {x:List Int} {j:Nat} (h:x.length<=j):gtB x j=0:=by
 show gt uB _ _=_
 unfold gt;rw[List.getElem?_eq_none h];rfl
theorem q9i {n:Nat} {a:List SyT} {p:PaT} (h:IsP n a p) {m:Nat} (hr:reads a m):m<n:=by
 obtain ⟨j,hj,_,ho,he⟩:=hr;have:=h.ok _ (show gtY a j∈a by rw[qbf hj];exact List.getElem_mem hj);revert ho he this;generalize gtY a j=s;obtain ⟨s1,s2,s3⟩:=s;intro ho he h;subst ho;simp[sOK] at h;have he:s2.toNat=m:=he;omega
theorem q9v {z:Int} {l:List (List Int)} (h:qoa z l):∃ n:Nat,n<13/\∃ a,IsP n a (qz0 z l)/\byY a:=by
 have k:=q2x h;have k1:=(q3d (z:=z) k).1;obtain ⟨_,k2,k3,_⟩:=k;obtain ⟨n,hn⟩:=Int.eq_ofNat_of_zero_le k2;have k1:P11 ((IntKind.i64.wrap z).tmod 13) (qz0 z l):=k1;rw[hn] at k1 k3;exact ⟨n,by omega,q7i k1⟩
theorem qmy (s:List SyT):(rdbV s).length=s.length:=by unfold rdbV;rw[qjd,List.length_replicate]
abbrev gtBs (l:List (List Int)) (i:Nat):List Int:=gt (.sl uB) l i
set_option maxRecDepth 100000
theorem q76 (x:Int × List (List Int)) (b:List (List Int)) (Q:List SV->Prop) (R:List Item->PS->Prop):sA CLt Tryz.f6 (λ rs _=>Q rs) (λ it S=>R it (qa7 [4,5,6,7,9,11,12,13,14,16,18] [6,1098304,1118784,1200704,1221184,1303104,1327680] S)) [.code (qad Tryz.f6)] (entry [raS,.arr 2 (.sl uB)] (x,b,())) =
  (ctSn11.pre ()/\ctM11.pre ((x.1,x.2),())/\ctTch.pre ((oR x),())/\ctRd.pre ((oR x),())/\bc (decide ((tchV (oR x)).2≠0)) (true=true/\true=true/\Q [.bool false]) (bc (bif false then true else decide ((rdV (oR x)).2≠0)) (true=true/\Q [.bool false]) (0+(rdV (oR x)).1.length<=(rdV (oR x)).1.length/\ctRt.pre (winL rgS 0 (rdV (oR x)).1.length (rdV (oR x)).1,(oR x).2.1,())/\(0:Int)<=0/\(0:Int)<(↑(2:Nat):Int)/\0<2/\ctInp.pre (gtBs b (0),(oR x).2.1,())/\(0:Int)<=1/\(1:Int)<(↑(2:Nat):Int)/\1<2/\ctInp.pre (gtBs b (1),(oR x).2.1,())/\R (hd Tryz.f6 0) { env:=[(4,.bool false),(5,.bool true),(6,.ptr 6 0),(7,.win true rgS 1098304 0 (tchV (oR x)).1.length),(9,.win true rgS 1118784 0 (rdV (oR x)).1.length),(11,.win true uB 1200704 0 (inpL (gtBs b (0)) (oR x).2.1.toNat).length),(12,.win true uB 1221184 0 (inpL (gtBs b (1)) (oR x).2.1.toNat).length),(13,.i 0)],blk:=[(6,.var [.bool (oR x).1,.i (oR x).2.1,.i (oR x).2.2.1,.sl opS (oR x).2.2.2]),(1098304,.row 127 rgS (tchV (oR x)).1),(1118784,.row 127 rgS (rdV (oR x)).1),(1200704,.row 5 uB (inpL (gtBs b (0)) (oR x).2.1.toNat)),(1221184,.row 5 uB (inpL (gtBs b (1)) (oR x).2.1.toNat))] }))):=by kernel_rfl
theorem qud (p:PaT) (l r:List (Int × Int)) (u v:List Int) (i:Int) (Q:List SV->Prop) (R:List Item->PS->Prop):sA CLt Tryz.f6 (λ rs _=>Q rs) (λ it S=>R it (qa7 [4,5,6,7,9,11,12,13,14,16,18] [6,1098304,1118784,1200704,1221184,1303104,1327680] S)) (hd Tryz.f6 0) ⟨[(4,.bool false),(5,.bool true),(6,.ptr 6 0),(7,.win true rgS 1098304 0 l.length),(9,.win true rgS 1118784 0 r.length),(11,.win true uB 1200704 0 u.length),(12,.win true uB 1221184 0 v.length),(13,.i i)],[(6,.var [.bool p.1,.i p.2.1,.i p.2.2.1,.sl opS p.2.2.2]),(1098304,.row 127 rgS l),(1118784,.row 127 rgS r),(1200704,.row 5 uB u),(1221184,.row 5 uB v)]⟩ =
  (bc (decide (i<p.2.1)) (0+r.length<=r.length/\ctIr.pre (winL rgS 0 r.length r,i,())/\bc ((winL rgS 0 r.length r).any (inrB i)) ((0:Int)<=i/\i<(u.length:Int)/\0+i.toNat<u.length/\(0:Int)<=i/\i<(v.length:Int)/\0+i.toNat<v.length/\R (hd Tryz.f6 0) { env:=[(4,.bool false),(5,.bool true),(6,.ptr 6 0),(7,.win true rgS 1098304 0 l.length),(9,.win true rgS 1118784 0 r.length),(11,.win true uB 1200704 0 u.length),(12,.win true uB 1221184 0 v.length),(13,.i (IntKind.i64.wrap (i+1)))],blk:=[(6,.var [.bool p.1,.i p.2.1,.i p.2.2.1,.sl opS p.2.2.2]),(1098304,.row 127 rgS l),(1118784,.row 127 rgS r),(1200704,.row 5 uB u),(1221184,.row 5 uB (v.set (0+i.toNat) (gtB u (0+i.toNat))))] }) (R (hd Tryz.f6 0) { env:=[(4,.bool false),(5,.bool true),(6,.ptr 6 0),(7,.win true rgS 1098304 0 l.length),(9,.win true rgS 1118784 0 r.length),(11,.win true uB 1200704 0 u.length),(12,.win true uB 1221184 0 v.length),(13,.i (IntKind.i64.wrap (i+1)))],blk:=[(6,.var [.bool p.1,.i p.2.1,.i p.2.2.1,.sl opS p.2.2.2]),(1098304,.row 127 rgS l),(1118784,.row 127 rgS r),(1200704,.row 5 uB u),(1221184,.row 5 uB v)] })) (0+u.length<=u.length/\ctAp.pre (winL uB 0 u.length u,p,())/\0+v.length<=v.length/\ctAp.pre (winL uB 0 v.length v,p,())/\bc (decide ((apV (winL uB 0 u.length u) p).2≠0)) (true=true/\true=true/\true=true/\Q [.bool false]) (bc (bif false then true else decide ((apV (winL uB 0 v.length v) p).2≠0)) (true=true/\true=true/\Q [.bool false]) (bc (bif false then true else decide ((↑(apV (winL uB 0 u.length u) p).1.length:Int)≠p.2.1)) (true=true/\Q [.bool false]) (bc (bif false then true else decide ((↑(apV (winL uB 0 v.length v) p).1.length:Int)≠p.2.1)) (Q [.bool false]) (R (hd Tryz.f6 1) { env:=[(4,.bool false),(5,.bool true),(6,.ptr 6 0),(7,.win true rgS 1098304 0 l.length),(9,.win true rgS 1118784 0 r.length),(11,.win true uB 1200704 0 u.length),(12,.win true uB 1221184 0 v.length),(13,.i i),(14,.win true uB 1303104 0 (apV (winL uB 0 u.length u) p).1.length),(16,.win true uB 1327680 0 (apV (winL uB 0 v.length v) p).1.length),(18,.i 0)],blk:=[(6,.var [.bool p.1,.i p.2.1,.i p.2.2.1,.sl opS p.2.2.2]),(1098304,.row 127 rgS l),(1118784,.row 127 rgS r),(1200704,.row 5 uB u),(1221184,.row 5 uB v),(1303104,.row 5 uB (apV (winL uB 0 u.length u) p).1),(1327680,.row 5 uB (apV (winL uB 0 v.length v) p).1)] })))))):=by kernel_rfl
theorem quc (p:PaT) (l:List (Int × Int)) (u v:List Int) (i:Int) (Q:List SV->Prop) (R:List Item->PS->Prop):sA CLt Tryz.f6 (λ rs _=>Q rs) (λ it S=>R it (qa7 [4,5,6,7,9,11,12,13,14,16,18] [6,1098304,1118784,1200704,1221184,1303104,1327680] S)) (hd Tryz.f6 1) ⟨[(4,.bool false),(5,.bool true),(6,.ptr 6 0),(7,.win true rgS 1098304 0 l.length),(14,.win true uB 1303104 0 u.length),(16,.win true uB 1327680 0 v.length),(18,.i i)],[(6,.var [.bool p.1,.i p.2.1,.i p.2.2.1,.sl opS p.2.2.2]),(1098304,.row 127 rgS l),(1303104,.row 5 uB u),(1327680,.row 5 uB v)]⟩ =
  (bc (decide (i<p.2.1)) (0+l.length<=l.length/\ctIr.pre (winL rgS 0 l.length l,i,())/\bc ((winL rgS 0 l.length l).any (inrB i)) ((0:Int)<=i/\i<(u.length:Int)/\0+i.toNat<u.length/\(0:Int)<=i/\i<(v.length:Int)/\0+i.toNat<v.length/\bc (decide (gtB u (0+i.toNat)≠gtB v (0+i.toNat))) (Q [.bool false]) (R (hd Tryz.f6 1) { env:=[(4,.bool false),(5,.bool true),(6,.ptr 6 0),(7,.win true rgS 1098304 0 l.length),(14,.win true uB 1303104 0 u.length),(16,.win true uB 1327680 0 v.length),(18,.i (IntKind.i64.wrap (i+1)))],blk:=[(6,.var [.bool p.1,.i p.2.1,.i p.2.2.1,.sl opS p.2.2.2]),(1098304,.row 127 rgS l),(1303104,.row 5 uB u),(1327680,.row 5 uB v)] })) (false=false/\R (hd Tryz.f6 1) { env:=[(4,.bool false),(5,.bool true),(6,.ptr 6 0),(7,.win true rgS 1098304 0 l.length),(14,.win true uB 1303104 0 u.length),(16,.win true uB 1327680 0 v.length),(18,.i (IntKind.i64.wrap (i+1)))],blk:=[(6,.var [.bool p.1,.i p.2.1,.i p.2.2.1,.sl opS p.2.2.2]),(1098304,.row 127 rgS l),(1303104,.row 5 uB u),(1327680,.row 5 uB v)] })) (Q [.bool true])):=by kernel_rfl
abbrev GDr (it:List Item) (S:PS):Prop:=GD 6 Tryz.f6 (λ rs _=>rs=[SV.bool true]) it S
abbrev mrBS (p:PaT) (l:List (Int × Int)) (u v:List Int) (i:Nat):PS:=⟨[(4,.bool false),(5,.bool true),(6,.ptr 6 0),(7,.win true rgS 1098304 0 l.length),(14,.win true uB 1303104 0 u.length),(16,.win true uB 1327680 0 v.length),(18,.i (i:Nat))],[(6,.var [.bool p.1,.i p.2.1,.i p.2.2.1,.sl opS p.2.2.2]),(1098304,.row 127 rgS l),(1303104,.row 5 uB u),(1327680,.row 5 uB v)]⟩
abbrev mrAS (p:PaT) (l r:List (Int × Int)) (u v:List Int) (i:Nat):PS:=⟨[(4,.bool false),(5,.bool true),(6,.ptr 6 0),(7,.win true rgS 1098304 0 l.length),(9,.win true rgS 1118784 0 r.length),(11,.win true uB 1200704 0 u.length),(12,.win true uB 1221184 0 v.length),(13,.i (i:Nat))],[(6,.var [.bool p.1,.i p.2.1,.i p.2.2.1,.sl opS p.2.2.2]),(1098304,.row 127 rgS l),(1118784,.row 127 rgS r),(1200704,.row 5 uB u),(1221184,.row 5 uB v)]⟩
theorem qz3 {p:PaT} {l:List (Int × Int)} {u v:List Int} {n:Nat} (hn:n<=4096) (hm:p.2.1=n) (hir:qob l) (hu:u.length=n) (hv:v.length=n) (h:∀ j:Nat,j<n->l.any (inrB j)=true->gtB u j=gtB v j):∀ (k i:Nat),n-i=k->i<=n ->
  GDr (hd Tryz.f6 1) (mrBS p l u v i):=by
 intro k
 induction k with
 | zero=>
  intro i hk hi;refine qak cxLt (quc p l u v i _ _) ?_;rw[decide_eq_false (show ¬ (i:Int)<p.2.1 by omega),bc_f]
 | succ k ih=>
  intro i hk hi;have fin:GDr (hd Tryz.f6 1) (mrBS p l u v (i+1)):=ih (i+1) (by omega) (by omega);refine qak cxLt (quc p l u v i _ _) ?_;rw[decide_eq_true (show (i:Int)<p.2.1 by omega),bc_t,winA,Int.toNat_natCast,Nat.zero_add,Nat.zero_add,IntWalk.i64_in ((i:Int)+1) (by omega)];refine ⟨by omega,hir,qaf (λ hq=>⟨by omega,by omega,by omega,by omega,by omega,by omega,qaf (λ hx=>?_) (λ _=>fin.only ⟨rfl,rfl,rfl,rfl,rfl,rfl,rfl,trivial⟩ ⟨rfl,rfl,rfl,rfl,trivial⟩)⟩) (λ hq=>⟨rfl,fin.only ⟨rfl,rfl,rfl,rfl,rfl,rfl,rfl,trivial⟩ ⟨rfl,rfl,rfl,rfl,trivial⟩⟩)⟩;exact absurd (h i (by omega) hq) (of_decide_eq_true hx)
theorem q6q {v:List Int} {i m:Nat} {x:Int} (hi:i<v.length):gtB (v.set i x) m=if i=m then x else gtB v m:=by
 by_cases hm:m<v.length
 ·rw[ql1 (by rw[List.length_set];exact hm),List.getElem_set];split
  ·rfl
  ·rw[ql1 hm]
 ·rw[q2z (by rw[List.length_set];omega),q2z (by omega),if_neg (by omega)]
theorem qz4 {p:PaT} {a:List SyT} {l r:List (Int × Int)} {u:List Int} {n:Nat} (hp:IsP n a p) (hn:n<=4096) (hir:qob r) (hil:qob l) (hr:∀ j:Nat,j<n->r.any (inrB j)=gtT (rdbV a) j) (hl:∀ j:Nat,j<n->l.any (inrB j)=tcB j (gtY a j)) (hu:u.length=n):∀ (k i:Nat) (v:List Int),n-i=k->i<=n->v.length=n->(∀ m,m<i->gtT (rdbV a) m=true->gtB v m=gtB u m) ->
  GDr (hd Tryz.f6 0) (mrAS p l r u v i):=by
 have hm:=hp.hm;have hal:=hp.len;intro k
 induction k with
 | zero=>
  intro i v hk hi hv hE;refine qak cxLt (qud p l r u v i _ _) ?_;have e1:=q3a hp hu;have e2:=q3a hp hv;have l1:(doL u a).length=n:=by rw[qxl,hal]
  have l2:(doL v a).length=n:=by rw[qxl,hal]
  rw[decide_eq_false (show ¬ (i:Int)<p.2.1 by omega),bc_f,winA,winA,e1,e2];simp only[l1,l2,hm,ne_eq,not_true_eq_false,decide_false,cond_false,bc_f];refine ⟨by omega,hp.li,by omega,hp.li,?_⟩
  have g:=qz3 (p:=p) (l:=l) (u:=doL u a) (v:=doL v a) hn hm hil l1 l2 (λ j hj hq=>by
   rw[hl j hj] at hq;refine q6y (λ m hr2=>?_) (by omega) hq;have hmn:=q9i hp hr2
   exact (hE m (by omega) ((q5g (by omega)).2 hr2)).symm) _ 0 rfl (Nat.zero_le _)
  rw[<- hm];refine g.only ⟨rfl,rfl,rfl,rfl,?_,?_,rfl,trivial⟩ ⟨?_,rfl,rfl,rfl,trivial⟩
  ·rw[l1];rfl
  ·rw[l2];rfl
  ·rw[hm];rfl
 | succ k ih=>
  intro i v hk hi hv hE;refine qak cxLt (qud p l r u v i _ _) ?_;rw[decide_eq_true (show (i:Int)<p.2.1 by omega),bc_t,winA,Int.toNat_natCast,Nat.zero_add,Nat.zero_add,IntWalk.i64_in ((i:Int)+1) (by omega)];refine ⟨by omega,hir,qaf (λ hq=>⟨by omega,by omega,by omega,by omega,by omega,by omega,?_⟩) (λ hq=>?_)⟩
  ·have fin:GDr (hd Tryz.f6 0) (mrAS p l r u (v.set i (gtB u i)) (i+1)):=ih (i+1) _ (by omega) (by omega) (by rw[List.length_set];exact hv) λ m hm2 ht=>by
    rw[q6q (by omega)];split
    next e=>rw[e]
    ·exact hE m (by omega) ht
   refine fin.only ⟨rfl,rfl,rfl,rfl,rfl,rfl,?_,rfl,trivial⟩ ⟨rfl,rfl,rfl,rfl,?_,trivial⟩
   ·rw[List.length_set];rfl
   ·rfl
  ·have fin:GDr (hd Tryz.f6 0) (mrAS p l r u v (i+1)):=ih (i+1) v (by omega) (by omega) hv λ m hm2 ht=>by
    by_cases e:m=i
    ·subst e;have hq:r.any (inrB m)=false:=hq;rw[hr m (by omega),ht] at hq;cases hq
    ·exact hE m (by omega) ht
   exact fin.only ⟨rfl,rfl,rfl,rfl,rfl,rfl,rfl,rfl,trivial⟩ ⟨rfl,rfl,rfl,rfl,rfl,trivial⟩
def ctMr:Ctr:=⟨[raS,.arr 2 (.sl uB)],λ x=>qoa x.1.1 x.1.2,λ _=>[.bool true],λ _=>[]⟩
theorem q6a (x:Int × List (List Int)) (b:List (List Int)) (hx:qoa x.1 x.2):GDr [.code (qad Tryz.f6)] (entry [raS,.arr 2 (.sl uB)] (x,b,())):=by
 obtain ⟨n,hn,a,hp,hby⟩:=q9v hx;have hp:IsP n a (oR x):=hp;refine qak cxLt (q76 x b _ _) ?_;have e1:=q4n hp;have e2:=rd_val hp;have hm:=hp.hm;have hal:=hp.len;generalize hpe:oR x=p at *;rw[hm,e1,e2];have hu:∀ c,(inpL c n).length=n:=λ c=>qrs c n
 have hi1:qob (rgTV a):=(qn7 (f:=tcB) (l:=a) (by omega)).2;have hi2:qvv (rgRV (rdbV a)) (rdbV a).length/\qob (rgRV (rdbV a)):=qn7 (f:=λ _ x=>x) (l:=rdbV a) (by rw[qmy];omega);have g:=qz4 (p:=p) (a:=a) (l:=rgTV a) (r:=rgRV (rdbV a)) (u:=inpL (gtBs b 0) n) hp (by omega) hi2.2 hi1 (λ j hj=>q5f (by rw[qmy];omega)) (λ j hj=>q5e (by omega)) (hu _) _ 0 (inpL (gtBs b 1) n) rfl (Nat.zero_le _) (hu _) (λ m hm2=>by omega);simp only[ne_eq,not_true_eq_false,decide_false,cond_false,bc_f,Int.toNat_natCast];have pI:preI (n:Int):=⟨by omega,by omega⟩;refine ⟨trivial,hx,trivial,trivial,by omega,?_,by omega,by omega,by decide,pI,by omega,by omega,by decide,pI,?_⟩
 ·rw[winA]
  show qvv (rgRV (rdbV a)) (n:Int)
  have:=hi2.1;rw[qmy,hal] at this;exact this
 ·rw[<- hm];refine g.only ⟨rfl,rfl,rfl,rfl,rfl,rfl,rfl,rfl,trivial⟩ ⟨?_,rfl,rfl,rfl,rfl,trivial⟩;rw[hm];rfl
theorem qz2:Held Tryz.prog G0 6 ctMr:=Held.of cxLt (fn:=Tryz.f6) rfl rfl ⟨by decide,by decide⟩ λ ⟨x,b,_⟩ hp=>(q6a x b hp).post λ rs blk hq=>QC.flat (by rw[hq];rfl) rfl (by rw[hq];rfl)
abbrev u8L (b:List Int):Prop:=by8 b
theorem q8v {n:Int} (h:wfD uB n):0<=n/\n<256:=by
 have h:(Lit.int IntKind.u8 n).wf=true:=h;simp[Lit.wf,IntKind.min,IntKind.max,IntKind.signed,IntKind.bits] at h;omega
theorem q8w {l:List Int} (h:∀ x∈l,wfD uB x):u8L l:=λ j=>by
 by_cases hj:j<l.length
 ·rw[ql1 hj];exact q8v (h _ (List.getElem_mem hj))
 ·have:gtB l j=0:=by
   show gt uB _ _=_
   unfold gt;rw[List.getElem?_eq_none (by omega)];rfl
  rw[this];decide
theorem l4_of {l:List (List Int)} (h:∀ x∈l,wfD a4S x):qsz l:=λ j=>by
 by_cases hj:j<l.length
 ·have e:gt a4S l j=l[j]:=gtE (e:=a4S) hj;rw[e];exact q8w (h _ (List.getElem_mem hj)).2
 ·have:gt a4S l j=List.replicate 4 (0:Int):=by
   unfold gt;rw[List.getElem?_eq_none (by omega)];rfl
  rw[this];exact q8w λ x hx=>by
   rw[List.eq_of_mem_replicate hx];rfl
theorem qtz {g:Nat} {x:ABlk} (h:rawG.get g=some x):(g=0/\x=.cells qhp 240 2)\/(g=1/\x=.cells qhk 248 2):=by
 unfold rawG T.get at h;split at h
 next e=>cases h;exact .inl ⟨e,rfl⟩
 next h0=>
  split at h
  next h1=>
   unfold T.get at h;split at h
   next h2=>cases h;exact .inr ⟨by omega,rfl⟩
   ·split at h <;> simp[T.get] at h
  ·simp[T.get] at h
theorem hG:Glob G0.raw:=⟨λ g x h=>by rcases qtz h with ⟨rfl,_⟩ | ⟨rfl,_⟩ <;> decide,λ g x h=>by rcases qtz h with ⟨_,rfl⟩ | ⟨_,rfl⟩ <;> decide⟩
abbrev H0:AHeap:=⟨qli,G0.raw⟩
def Z0:Nat->Option ABlk:=λ g=>rawG.get g
theorem gz0:GZ Z0 G0:=by
 refine ⟨λ g x e=>?_,λ g x e=>e⟩;simp only[G0,lk] at e;split at e
 next h=>subst h;cases e;refine ⟨by decide,λ ν=>⟨0,0,qhp,240,2,rfl,rfl,by decide,?_⟩⟩;exact qu5 (.arr 5 coS) costsL ⟨rfl,λ x _=>⟨trivial,trivial⟩⟩
 ·split at e
  next h=>subst h;cases e;refine ⟨by decide,λ ν=>⟨1,0,qhk,248,2,rfl,rfl,by decide,?_⟩⟩;exact qu5 (.arr 9 kindSh) kindsL ⟨rfl,λ x _=>⟨trivial,trivial,trivial,trivial,trivial⟩⟩
  ·cases e
theorem fro0:Px.Fro G0 H0:=⟨λ i x h=>by rcases qtz h with ⟨rfl,rfl⟩ | ⟨rfl,rfl⟩ <;> rfl,λ i x h=>by rcases qtz h with ⟨rfl,rfl⟩ | ⟨rfl,rfl⟩ <;> trivial,λ i x h=>by rcases qtz h with ⟨rfl,rfl⟩ | ⟨rfl,rfl⟩ <;> decide,gz0⟩
end Go.Proofs.YtgopblmdkjkbbaaGreatDoor
