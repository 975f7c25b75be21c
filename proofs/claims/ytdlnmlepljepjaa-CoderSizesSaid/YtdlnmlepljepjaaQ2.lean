/-
  A part of the proof: what pieces of the program give; conditions: those of each theorem.
-/
import Derived.Test.YtdlnmlepljepjaaQ1
import Derived.Test.YtdlnmlepljepjaaHD
set_option linter.unusedVariables false
set_option linter.unusedSimpArgs false
namespace Go.Proofs.Ytdlnmlepljepjaa
open Go.Px Go.Ax
set_option maxRecDepth 100000
attribute [local irreducible] Go.Px.sy Go.Px.syE
theorem cxL:CxOK Try.prog tt G0 CL:=((((cx0.k qv0 (fn:=Try.f15)).k qs5 (fn:=Try.f18)).k qut (fn:=Try.f19)).k qum (fn:=Try.f17)).k qvl (fn:=Try.f14)
def isT:List SV->Prop:=λ rs=>rs=[.bool true]
abbrev GL (f:Nat) (fn:Func) (it:List Item) (S:PS):Prop:=Px.Good Try.prog tt G0 f fn.ntmps fn.results.toList (λ rs _=>isT rs) it S
theorem q1f {ct:Ctr} {x:DL ct.args} {rs:List SV} {blk:List (Nat × LB)} (ho:ct.out x=[.bool true]) (hr:ct.rows x=[]) (h:isT rs):QC ct x rs blk:=by
 have h:rs=[.bool true]:=h;subst h;exact QC.flat ho hr rfl
theorem no_t {p:Prop} [Decidable p] {q:Prop} (hp:¬ p) (h:decide p=true):q:=absurd (of_decide_eq_true h) hp
theorem no_f {p:Prop} [Decidable p] {q:Prop} (hp:p) (h:decide p=false):q:=absurd hp (of_decide_eq_false h)
theorem qvj {x:List Int} (hb:byL x) (hl:x.length<=1000):∀ (k:Nat) (m:Int),3-m=k->0<=m ->
  GL 7 Try.f7 (hd Try.f7 0) ⟨[(3,.bool true),(4,.sl uB x),(5,.i m)],[]⟩:=by
 intro k
 induction k with
 | zero=>
  intro m hk h0;refine qaj cxL (qsk x m _ _) (qbc (no_t (by omega)) λ _=>?_);rfl
 | succ k ih=>
  intro m hk h0;have nx:=ih (m+1) (by omega) (by omega);refine qaj cxL (qsk x m _ _) (qbc (λ _=>?_) (no_f (by omega)));rw[cA_ok h0 (by omega) (by omega),IntWalk.i64_in (m+1) (by omega)];obtain ⟨c1,c2,_⟩:=qpc m.toNat hb;have cl:=qz2 m.toNat hb;refine ⟨hb,hb,qbc (no_t λ q=>q rfl) λ _=>qbc (no_t λ q=>q rfl) λ _=>qbc (no_t λ q=>q rfl) λ _=>?_⟩;have rest:bc (decide (m=0)) (bc (decide (IntKind.i64.wrap ((x.length:Int)+4)<((qd9 m.toNat x).length:Int))) (isT [SV.bool false]) (GL 7 Try.f7 (hd Try.f7 0) ⟨[(3,.bool true),(4,.sl uB x),(5,.i (m+1))],[]⟩)) (false=false/\GL 7 Try.f7 (hd Try.f7 0) ⟨[(3,.bool true),(4,.sl uB x),(5,.i (m+1))],[]⟩):=by
   refine qbc (λ h=>qbc (no_t ?_) λ _=>nx) (λ _=>⟨rfl,nx⟩);have hm:m=0:=of_decide_eq_true h;have:=qwm hb;rw[IntWalk.i64_in ((x.length:Int)+4) (by omega),hm]
   show ¬ (x.length:Int)+4<((qd9 0 x).length:Int)
   omega
  refine qbc (λ h=>?_) (λ _=>⟨rfl,rest⟩);have h:(0:Int)<((qd9 m.toNat x).length:Int):=of_decide_eq_true h;have ew:IntKind.i64.wrap (((qd9 m.toNat x).length:Int)-1)=(((qd9 m.toNat x).length-1:Nat):Int):=by rw[IntWalk.i64_in _ (by omega)];omega
  show 0<=IntKind.i64.wrap (((qd9 m.toNat x).length:Int)-1)/\IntKind.i64.wrap (((qd9 m.toNat x).length:Int)-1)<((qd9 m.toNat x).length:Int)/\bc (decide (gt uB (qd9 m.toNat x) (IntKind.i64.wrap (((qd9 m.toNat x).length:Int)-1)).toNat=0)) _ _
  rw[ew,Int.toNat_natCast];exact ⟨by omega,by omega,qbc (no_t λ q=>qzs c2 (by omega) q) λ _=>rest⟩
def q1h:(x:DL [Sh.sl uB])->Prop:=λ x=>byL x.1
def q15:Ctr:=⟨[.sl uB],q1h,λ _=>[.bool true],λ _=>[]⟩
theorem qyt:Held Try.prog G0 7 q15:=Held.of cxL (fn:=Try.f7) rfl rfl ⟨by decide,by decide⟩ λ ⟨b,_⟩ hp=>by
 have hb:byL b:=hp;have g:GL 7 Try.f7 [.code (qak Try.f7)] (entry [.sl uB] (b,())):=qaj cxL (q0l b _ _) ⟨trivial,(by decide:(0:Int)<=1000),qvj (qz8 hb _) (by rw[List.length_take];exact Nat.min_le_left _ _) 3 0 rfl (by decide)⟩;exact g.post λ rs blk h=>q1f rfl rfl h
theorem hG:Glob G0.raw:=⟨λ g x h=>by simp[G0,T.get] at h,λ g x h=>by simp[G0,T.get] at h⟩
abbrev H0:AHeap:=⟨qks,G0.raw⟩
theorem u8_wf {n:Int} (h:(Lit.int .u8 n).wf=true):0<=n/\n<256:=by
 have:=Go.bounds_u8 h;exact ⟨this.1,by omega⟩
theorem by_wf {l:List Int} (h:wfD (.sl uB) l):byL l:=λ x hx=>u8_wf (h.2 x hx)
end Go.Proofs.Ytdlnmlepljepjaa
