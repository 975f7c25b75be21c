/-
  A part of the proof: what pieces of the program give; conditions: those of each theorem.
-/
import Derived.Test.YtdlnmlepljepjaaQ2
set_option linter.unusedVariables false
set_option linter.unusedSimpArgs false
namespace Go.Proofs.Ytdlnmlepljepjaa
open Go.Px Go.Ax
set_option maxRecDepth 100000
attribute [local irreducible] Go.Px.sy Go.Px.syE
theorem q44 {c r:List Int} {v w t:Int} {x:Nat} (hw:WOK w) (ht:qa7 c t) (hx:x<256) (hv0:0<=v) (hv4:v<4294967296) (hv1:uu w t*sm (c.take x)<=v) (hv2:v<uu w t*sm (c.take x)+uu w t*gtU c x) :
  nxtV r c v w t=(((x:Int),true),nrmV 4 r (v-uu w t*sm (c.take x)) (uu w t*gtU c x)):=by
 have hg:=qew ht hx;have hxl:x<c.length:=by rw[ht.1];exact hx
 have hs:=qb9 hxl;have hT:=qe0 ht;obtain ⟨eu,u1,u2⟩:=qg2 hw hT.1 hT.2;have eu:uniV w t=uu w t:=eu;have u1:256<=uu w t:=u1;have u2:uu w t*t<=w:=u2;have hup:0<uu w t:=by omega
 have m1:0<=uu w t*sm (c.take x):=Int.mul_nonneg (by omega) (qb5 ht x).1;have m3:uu w t*gtU c x<=uu w t*t:=Int.mul_le_mul_of_nonneg_left hg.2 (by omega);have m4:0<=uu w t*gtU c x:=Int.mul_nonneg (by omega) (by omega);have hw2:=hw.2;have en:numV v w t=v / uu w t:=by
  unfold numV;rw[eu,IntWalk.u32_quo _ _ (by omega)]
 have q1:sm (c.take x)<=v / uu w t:=by
  rw[Int.le_ediv_iff_mul_le hup,Int.mul_comm];exact hv1
 have q2:v / uu w t<sm (c.take (x+1)):=by
  rw[Int.ediv_lt_iff_lt_mul hup,hs,Int.mul_comm,Int.mul_add];exact hv2
 have q3:=(qb5 ht (x+1)).2;have ea:atV c v w t=((x:Int),sm (c.take x)):=by
  unfold atV;rw[en];exact qwv ht (by have:=(qb5 ht x).1;omega) q1 q2
 have e1:subV c v w t=v-uu w t*sm (c.take x):=by
  unfold subV;rw[ea,eu]
  show IntKind.u32.wrap (v-IntKind.u32.wrap (uu w t*sm (c.take x)))=_
  rw[IntWalk.u32_in (uu w t*sm (c.take x)) (by omega),IntWalk.u32_in _ (by omega)]
 have e2:widV c v w t=uu w t*gtU c x:=by
  unfold widV;rw[ea,eu]
  show IntKind.u32.wrap (uu w t*gtU c (x:Int).toNat)=_
  rw[Int.toNat_natCast,IntWalk.u32_in _ (by omega)]
 unfold nxtV;rw[en,decide_eq_false (by omega),ea,e1,e2]
theorem q43 {c r:List Int} {v w t:Int} (hw:WOK w) (ht:qa7 c t) (hv0:0<=v) (hv4:v<4294967296) (h:uu w t*t<=v):(nxtV r c v w t).1.2=false:=by
 have hT:=qe0 ht;obtain ⟨eu,u1,u2⟩:=qg2 hw hT.1 hT.2;have eu:uniV w t=uu w t:=eu;have u1:256<=uu w t:=u1;have en:numV v w t=v / uu w t:=by
  unfold numV;rw[eu,IntWalk.u32_quo _ _ (by omega)]
 have q:t<=v / uu w t:=by
  rw[Int.le_ediv_iff_mul_le (by omega),Int.mul_comm];exact h
 unfold nxtV;rw[en,decide_eq_true q]
def RDI (g:Nat) (b:List Int) (F:Option (List Int)) (k:Nat) (o:List Int) (v w:Int) (D:Nat->Tb) (z a:Nat):Prop:=
 DOK D/\byL o/\z<256/\(0<=v/\v<4294967296)/\(∃ l lo,WI l lo w/\RI b l lo (b.drop a) v)/\dG g k o (b.drop a) v w D z=F
theorem q1l {g:Nat} {b:List Int} (hb:byL b) {F:Option (List Int)} {k:Nat} {o:List Int} {v w:Int} {D:Nat->Tb} {z a x:Nat} (h:RDI g b F (k+1) o v w D z a) (hx:x<256)
  (hv1:uu w (D (atD g z)).2*sm ((D (atD g z)).1.take x)<=v) (hv2:v<uu w (D (atD g z)).2*sm ((D (atD g z)).1.take x)+uu w (D (atD g z)).2*gtU (D (atD g z)).1 x) {R2:List Int} {v2 w2:Int}
  (e:nrmV 4 (b.drop a) (v-uu w (D (atD g z)).2*sm ((D (atD g z)).1.take x)) (uu w (D (atD g z)).2*gtU (D (atD g z)).1 x)=(R2,v2,w2)):WOK w2/\∀ A,b.drop A=R2->RDI g b F k (o++[(x:Int)]) v2 w2 (nxD g D z x) x A:=by
 obtain ⟨hD,ho,hz,hv,⟨l,lo,hW,hr⟩,hF⟩:=h;have en:=q44 (r:=b.drop a) hW.wk (hD (atD g z)) hx hv.1 hv.2 hv1 hv2;rw[e] at en;obtain ⟨s1,s,s2,s3,s4,s5,s6⟩:=qgn hb hW (hD (atD g z)) hx;obtain ⟨t1,t2,t3,t4,t5⟩:=s6 _ v hr hv.1 hv1 hv2;rw[dG] at hF;rw[en] at t2 t3 t4 t5 hF;have t3:w2=_:=t3;have t4:0<=v2:=t4;have t5:v2<w2:=t5;have sw:=s1.wk;rw[<- t3] at s1 sw;refine ⟨sw,λ A hA=>?_⟩;subst hA;have:=sw.2;refine ⟨qkx hD z hx,q5o ho (by_1 ⟨by omega,by omega⟩),hx,⟨t4,by omega⟩,⟨_,_,s1,t2⟩,?_⟩;rw[<- hF]
 show _=dG g k (o++[(x:Int)]) (b.drop A) v2 w2 (nxD g D z x) (x:Int).toNat
 rw[Int.toNat_natCast]
theorem rd_no {g:Nat} {b:List Int} {F:Option (List Int)} {k:Nat} {o:List Int} {v w:Int} {D:Nat->Tb} {z a:Nat} (h:RDI g b F (k+1) o v w D z a) (hv:uu w (D (atD g z)).2*(D (atD g z)).2<=v):F=none:=by
 obtain ⟨hD,ho,hz,h4,⟨l,lo,hW,hr⟩,hF⟩:=h;rw[<- hF,dG,q43 hW.wk (hD _) h4.1 h4.2 hv]
abbrev rdF0 (m:Int) (b:List Int) (n:Int):Option (List Int):=dG m.toNat n.toNat [] (b.drop 4) (pv b 4) 4294967295 D0 0
theorem q0i {m n:Int} {b:List Int} (hm:0<=m/\m<=2) (hn:0<=n/\n<=65536) (hb:byL b):(rdF0 m b n=none->decA m b n=([],130))/\∀ o,decA m b n=(o,0)->rdF0 m b n=some o:=by
 rw[qky hm.1 hm.2];unfold decG;rw[decide_eq_false (by omega),decide_eq_false (by omega),qum hb]
 cases ezV b with
 | true=>exact ⟨λ _=>rfl,λ o h=>by cases h⟩
 | false=>
  show (_->(match rdF0 m b n with
   | some o=>(o,(0:Int))
   | none=>([],130))=_)/\∀ o,(match rdF0 m b n with
   | some o=>(o,(0:Int))
   | none=>([],130))=_->_
  cases rdF0 m b n with
  | none=>exact ⟨λ _=>rfl,λ o h=>by cases h⟩
  | some q=>exact ⟨λ h=>(by cases h),λ o h=>(by cases h;rfl)⟩
def ctRDec:Ctr:=⟨[iI,.sl uB,iI],λ x=>byL x.2.1/\List.length x.2.1<1000000,λ x=>[.sl uB (decA x.1 x.2.1 x.2.2.1).1,.i (decA x.1 x.2.1 x.2.2.1).2],λ _=>[]⟩
theorem qic {m n:Int} {b:List Int} (h:decA m b n=([],130)) {blk:List (Nat × LB)}:QC ctRDec (m,b,n,()) [SV.nils,.i 130] blk:=by
 refine ⟨λ _=>none,?_,trivial,λ i j a h=>(by cases h),rfl⟩
 show MtL _ [SV.sl uB (decA m b n).1,.i (decA m b n).2] _
 rw[h];exact ⟨_,_,rfl,.inr ⟨rfl,rfl⟩,_,_,rfl,rfl,rfl⟩
theorem q4u {m n:Int} {b o:List Int} (h:decA m b n=(o,0)) {blk:List (Nat × LB)}:QC ctRDec (m,b,n,()) [SV.sl uB o,.i 0] blk:=by
 refine ⟨λ _=>none,?_,trivial,λ i j a h=>(by cases h),rfl⟩
 show MtL _ [SV.sl uB (decA m b n).1,.i (decA m b n).2] _
 rw[h];exact ⟨_,_,rfl,.inl rfl,_,_,rfl,rfl,rfl⟩
theorem qn3:Held Try.prog G0 16 ctEncF:=by
 have h:=renc_held.frz (λ x _=>by
  show inL 0 (encA x.1 x.2.1).1.length [SV.win false uB 0 0 (encA x.1 x.2.1).2.1,SV.i (encA x.1 x.2.1).2.2]/\True
  exact ⟨⟨λ _=>by have:=(qh1 x.1 x.2.1).1;omega,⟨trivial,trivial⟩⟩,trivial⟩)
 refine h.iff rfl (λ x h=>h) (λ x _=>?_) (λ x _=>rfl)
 show [SV.sl uB (cA x.1 x.2.1).1,SV.i (cA x.1 x.2.1).2]=[SV.sl uB (winL uB 0 (encA x.1 x.2.1).2.1 (encA x.1 x.2.1).1),SV.i (encA x.1 x.2.1).2.2]
 rw[(qh1 x.1 x.2.1).2.1,(qh1 x.1 x.2.1).2.2]
theorem cxD9:CxOK Try.prog ttO G0 CD9:=CxOK.tab ((((((cx0.k qn3 (fn:=Try.f16)).consI qpa (fn:=Try.f35) rfl rfl rfl).consI qq4 (fn:=Try.f45) rfl rfl rfl).consI qxk (fn:=Try.f44) rfl rfl rfl).consI qm0 (fn:=Try.f34) rfl rfl rfl).consI qnj (fn:=Try.f32) rfl rfl rfl) qev
abbrev GRD (Q:List SV->List (Nat × LB)->Prop) (V:List Value) (D:Nat->Tb) (j:Nat) (it:List Item) (S:PS):Prop:=Px.GoodT Try.prog G0 20 Try.f20.ntmps (endK ttO G0 Try.f20.results.toList Q) V (rT D) j it S
abbrev rdE (m n:Int) (b P:List Int) (v a w:Int) (k:Nat) (i:Int):List (Nat × SV):=[(0,.i m),(1,.sl uB b),(2,.i n),(8,.sl uB P),(9,.ptr 88 0),(10,.i v),(11,.i a),(12,.i w),(13,.win true uB 62 0 k),(14,.i i)]
abbrev rdE2 (m n:Int) (b P:List Int) (v a w:Int) (k:Nat) (i x:Int):List (Nat × SV):=[(0,.i m),(1,.sl uB b),(2,.i n),(8,.sl uB P),(9,.ptr 88 0),(10,.i v),(11,.i a),(12,.i w),(13,.win true uB 62 0 k),(14,.i i),(17,.u x)]
abbrev rdS (m n:Int) (b P o:List Int) (V:List Value) (v w z:Int) (a i:Nat):PS:=⟨rdE m n b P v a w o.length i,[(62,.row 5 uB o),(88,rkV m V 256 .nilp z)]⟩
abbrev rdB (o c:List Int) (V:List Value) (j:Nat) (m z t:Int):List (Nat × LB):=[(62,.row 5 uB o),(77,rtV c t),(88,rkV m V j (.ptr 77 0) z)]
theorem rd_cl {Q:List SV->List (Nat × LB)->Prop} {V:List Value} {D:Nat->Tb} {b P o:List Int} {m n v w:Int} {z a x i:Nat} (h0:0<=m) (hz:z<256)
  (nx:∀ V',GRD Q V' (nxD m.toNat D z x) 256 (hd Try.f20 1) (rdS m n b P o V' v w (x:Nat) a i)):GRD Q V D (atD m.toNat z) (hd Try.f20 1) ⟨rdE m n b P v a w o.length i,rdB o (nxT m (D (atD m.toNat z)).1 (D (atD m.toNat z)).2 x).1 V (atD m.toNat z) m (x:Nat) (nxT m (D (atD m.toNat z)).1 (D (atD m.toNat z)).2 x).2⟩:=
 GoodT.closeP (q:=88) (id:=77) (m:=256) (p:=[.int .i64 m]) (r:=[.int .u8 (x:Int)]) (s:=tbR (nxT m (D (atD m.toNat z)).1 (D (atD m.toNat z)).2 x)) rfl (qh3 hz) rfl (qot _) (by decide) λ V'=>by
  rw[q4v m D z x h0 (qh3 hz)];exact nx V'
theorem qxn {Q:List SV->List (Nat × LB)->Prop} {V:List Value} {D:Nat->Tb} {b P o c:List Int} {m n z t:Int} {j x i B:Nat} (hb:byL b) (hP:∀ k,gtB P k=gtB b k) (hB:B<=1000000) {R2:List Int} {v2 w2:Int}
  (nx:∀ A:Nat,A<=B->b.drop A=R2->GRD Q V D j (hd Try.f20 2) ⟨rdE2 m n b P v2 A w2 o.length i x,rdB o c V j m z t⟩):∀ (f a:Nat) (v w:Int),0<=v->v<w->a+f<=B->nrmV f (b.drop a) v w=(R2,v2,w2) ->
  GRD Q V D j (hd Try.f20 2) ⟨rdE2 m n b P v a w o.length i x,rdB o c V j m z t⟩:=by
 intro f
 induction f with
 | zero=>
  intro a v w h0 h1 ha e;cases e;exact nx a (by omega) rfl
 | succ f ih=>
  intro a v w h0 h1 ha e;rw[nrmV] at e;by_cases hq:w<16777216
  ·rw[decide_eq_true hq] at e;have e1:=quc hb (k:=a) (v:=v) ⟨h0,by omega⟩;have g:=qhw hb a;have ew:IntKind.u32.wrap (w*2 ^ 8)=w*256:=IntWalk.u32_in _ (by show 0<=w*256/\w*256<=_;omega);rw[e1,ew] at e;have nx':=ih (a+1) (256*v+gtB b a) (w*256) (by omega) (by omega) (by omega) e;have ea:IntKind.i64.wrap ((a:Int)+1)=((a+1:Nat):Int):=by rw[IntWalk.i64_in _ (by omega)];omega
   refine GoodT.goK cxD9 (qti m n b P o c V j z v w t a i x _ _) (qaj (λ _=>?_) (no_f hq));rw[ea,IntWalk.i64_in (w*256) (by omega),IntWalk.i64_in (v*256) (by omega),Int.toNat_natCast];refine qaj (λ h=>⟨by omega,of_decide_eq_true h,?_⟩) (λ h=>?_)
   ·have e2:gt uB P a=gtB b a:=hP a;rw[e2,IntWalk.i64_in (gtB b a) (by omega),IntWalk.i64_in (v*256+gtB b a) (by omega),show v*256+gtB b a=256*v+gtB b a by omega];exact nx'.only ⟨rfl,rfl,rfl,rfl,rfl,rfl,rfl,rfl,rfl,rfl,rfl,trivial⟩ ⟨rfl,rfl,rfl,trivial⟩
   ·have h:=of_decide_eq_false h;have e2:gtB b a=0:=(hP a).symm.trans (qon (by omega));rw[e2,show 256*v+0=v*256 by omega] at nx';exact nx'.only ⟨rfl,rfl,rfl,rfl,rfl,rfl,rfl,rfl,rfl,rfl,rfl,trivial⟩ ⟨rfl,rfl,rfl,trivial⟩
  ·rw[decide_eq_false hq] at e;cases e;exact nx a (by omega) rfl
open Go.IntKind(i64 u32 u8)
theorem uu_ok {w t:Int} (hw:WOK w) (h0:256<=t) (h1:t<=65536):256<=uu w t/\uu w t<=16777216/\uu w t*t<=w/\i64.wrap (w.tdiv t)=uu w t:=by
 obtain ⟨_,u1,u2⟩:=qg2 hw h0 h1;have u1:256<=uu w t:=u1;have u2:uu w t*t<=w:=u2;have u3:uu w t*256<=uu w t*t:=Int.mul_le_mul_of_nonneg_left h0 (by omega);have:=hw.1;have:=hw.2;refine ⟨u1,by omega,u2,?_⟩;rw[Int.tdiv_eq_ediv_of_nonneg (by omega)]
 show i64.wrap (uu w t)=_
 exact IntWalk.i64_in _ (by omega)
theorem gt_0 (P:List Int) (j:Nat):gtB (P++[0]) j=gtB P j:=by
 rcases Nat.lt_trichotomy j P.length with h | h | h
 ·exact qz6 h
 ·subst h;rw[qvr,qon (Nat.le_refl _)]
 ·rw[qon (by rw[List.length_append];show P.length+1<=j;omega),qon (by omega)]
theorem q4t {b P:List Int} (hb:byL b) (hP:∀ k,gtB P k=gtB b k):rdv P=pv b 4:=by
 have g0:=qhw hb 0;have g1:=qhw hb 1;have g2:=qhw hb 2;have g3:=qhw hb 3;have e0:gt uB P (Int.toNat (0:Int))=gtB b 0:=hP 0;have e1:gt uB P (Int.toNat (1:Int))=gtB b 1:=hP 1;have e2:gt uB P (Int.toNat (2:Int))=gtB b 2:=hP 2;have e3:gt uB P (Int.toNat (3:Int))=gtB b 3:=hP 3;have e24:(2:Int) ^ min (Int.toNat (24:Int)) i64.bits=16777216:=by decide
 have e16:(2:Int) ^ min (Int.toNat (16:Int)) i64.bits=65536:=by decide
 have e8:(2:Int) ^ min (Int.toNat (8:Int)) i64.bits=256:=by decide
 unfold rdv
 rw[e24,e16,e8,e0,e1,e2,e3,IntWalk.i64_in (gtB b 0) (by omega),IntWalk.i64_in (gtB b 1) (by omega),IntWalk.i64_in (gtB b 2) (by omega),IntWalk.i64_in (gtB b 3) (by omega),IntWalk.i64_in (gtB b 0*16777216) (by omega),IntWalk.i64_in (gtB b 1*65536) (by omega),IntWalk.i64_in (gtB b 2*256) (by omega),
  IntWalk.i64_in (gtB b 0*16777216+gtB b 1*65536) (by omega),IntWalk.i64_in (gtB b 0*16777216+gtB b 1*65536+gtB b 2*256) (by omega),IntWalk.i64_in (gtB b 0*16777216+gtB b 1*65536+gtB b 2*256+gtB b 3) (by omega)]
 show _=256*(256*(256*(256*0+gtB b 0)+gtB b 1)+gtB b 2)+gtB b 3
 omega
theorem qxo {m n:Int} {b P:List Int} (hm:0<=m/\m<=2) (hn:0<=n/\n<=65536) (hb:byL b) (hP:∀ k,gtB P k=gtB b k):∀ (k i:Nat) (o:List Int) (V:List Value) (D:Nat->Tb) (v w:Int) (z a:Nat),i+k=n.toNat->o.length=i->a<=4+4*i->RDI m.toNat b (rdF0 m b n) k o v w D z a ->
  GRD (QC ctRDec (m,b,n,())) V D 256 (hd Try.f20 1) (rdS m n b P o V v w (z:Nat) a i):=by
 intro k
 induction k with
 | zero=>
  intro i o V D v w z a hk hl ha hI;obtain ⟨hD,ho,hz,hv,⟨l,lo,hW,hr⟩,hF⟩:=hI;have hj:=qh3 (g:=m.toNat) hz;refine GoodT.open1P (q:=88) (id:=77) (b:=atD m.toNat z) (p:=[.int .i64 m]) (r:=[.int .u8 (z:Int)]) (s:=tbR (D (atD m.toNat z))) rfl hj (by show (if _<256 then _ else _)=_;rw[if_pos hj]) rfl (by decide) rfl ?_;refine GoodT.goK cxD9 (qtj m n b P o (D (atD m.toNat z)).1 V (atD m.toNat z) z v w (D (atD m.toNat z)).2 a i _ _) (qaj (no_t (by omega)) λ _=>?_);have ew:winL uB 0 o.length o=o:=qnp rfl;rw[ew,q5l hm.1 hm.2 (by omega)];refine ⟨by omega,by omega,ho,qaj (λ h=>?_) (λ h=>?_)⟩
  ·have h:=of_decide_eq_true h;rcases en_de hm.1 hm.2 hb n with q | ⟨o',q1,q2,q3,q4,q5,q6⟩
   ·exact qic q
   ·exfalso;have h1:=(q0i hm hn hb).2 o' q1;rw[h1,dG] at hF
    cases hc:(decide (v=0)&&decide (((b.drop a).length:Int)=0)) with
    | false=>rw[hc] at hF;cases hF
    | true=>
     rw[hc] at hF;cases hF;exact h (congrArg _ q6)
  ·have h:=of_decide_eq_false h;have hc:qfp m.toNat o=b:=q09 (qkz m.toNat ho).1 hb (Decidable.of_not_not h);have d:=de_en hm.1 hm.2 ho (by omega);rw[hc,show (o.length:Int)=n by omega] at d;exact q4u d
 | succ k ih=>
  intro i o V D v w z a hk hl ha hI;have hI2:=hI;obtain ⟨hD,ho,hz,hv,⟨l,lo,hW,hr⟩,hF⟩:=hI;have hj:=qh3 (g:=m.toNat) hz;have tz:=hD (atD m.toNat z);have hT:=qe0 tz;obtain ⟨u1,u2,u3,er⟩:=uu_ok hW.wk hT.1 hT.2;obtain ⟨f1,f2,f3⟩:=q5a (c:=(D (atD m.toNat z)).1) (r:=uu w (D (atD m.toNat z)).2) hv.1;have pz:qsi m (atD m.toNat z) (z:Int):=⟨hm.1,⟨by omega,by omega⟩,by rw[Int.toNat_natCast]⟩;have pf:q1p (D (atD m.toNat z)).1 (D (atD m.toNat z)).2 (uu w (D (atD m.toNat z)).2) v:=⟨tz,⟨by omega,u2⟩,hv⟩;refine GoodT.open1P (q:=88) (id:=77) (b:=atD m.toNat z) (p:=[.int .i64 m]) (r:=[.int .u8 (z:Int)]) (s:=tbR (D (atD m.toNat z))) rfl hj (by show (if _<256 then _ else _)=_;rw[if_pos hj]) rfl (by decide) rfl ?_;refine GoodT.goK cxD9 (qtj m n b P o (D (atD m.toNat z)).1 V (atD m.toNat z) z v w (D (atD m.toNat z)).2 a i _ _) (qaj (λ _=>?_) (no_f (by omega)));rw[er];generalize fnN (D (atD m.toNat z)).1 (uu w (D (atD m.toNat z)).2) v=x at f1 f2 f3 |-;have pb:qpo (D (atD m.toNat z)).1 (D (atD m.toNat z)).2 (x:Int):=⟨tz,by omega,by omega⟩;have hg:=qew tz f1;have hxl:x<(D (atD m.toNat z)).1.length:=by rw[tz.1];exact f1
  have hs:=qb9 hxl;have m1:0<=uu w (D (atD m.toNat z)).2*sm ((D (atD m.toNat z)).1.take x):=Int.mul_nonneg (by omega) (qb5 tz x).1;have m3:uu w (D (atD m.toNat z)).2*gtU (D (atD m.toNat z)).1 x<=uu w (D (atD m.toNat z)).2*(D (atD m.toNat z)).2:=Int.mul_le_mul_of_nonneg_left hg.2 (by omega);have m4:uu w (D (atD m.toNat z)).2*1<=uu w (D (atD m.toNat z)).2*gtU (D (atD m.toNat z)).1 x:=Int.mul_le_mul_of_nonneg_left hg.1 (by omega);have hw2:=hW.wk.2;rw[Int.toNat_natCast,show gt (Sh.int .i64) (D (atD m.toNat z)).1 x=gtU (D (atD m.toNat z)).1 x from rfl,IntWalk.i64_in (uu w (D (atD m.toNat z)).2*sm ((D (atD m.toNat z)).1.take x)) (by omega),IntWalk.i64_in (uu w (D (atD m.toNat z)).2*gtU (D (atD m.toNat z)).1 x) (by omega),IntWalk.i64_in (v-uu w (D (atD m.toNat z)).2*sm ((D (atD m.toNat z)).1.take x)) (by omega)];refine ⟨rfl,rfl,pz,by omega,pf,pb,by omega,by omega,f1,qaj (λ h=>?_) (λ h=>?_)⟩
  ·have h:=of_decide_eq_true h;rcases f3 with f3 | f3
   ·rw[hs,Int.mul_add] at f3;omega
   ·subst f3;have e:sm ((D (atD m.toNat z)).1.take (255+1))=(D (atD m.toNat z)).2:=by
     rw[List.take_of_length_le (by rw[tz.1];decide)];exact tz.2.2.1
    rw[e] at hs;have hu:uu w (D (atD m.toNat z)).2*(D (atD m.toNat z)).2<=v:=by
     have q:uu w (D (atD m.toNat z)).2*(D (atD m.toNat z)).2=uu w (D (atD m.toNat z)).2*sm ((D (atD m.toNat z)).1.take 255)+uu w (D (atD m.toNat z)).2*gtU (D (atD m.toNat z)).1 255:=(congrArg _ hs).trans (Int.mul_add _ _ _);omega
    exact qic ((q0i hm hn hb).1 (rd_no hI2 hu))
  ·have h:=of_decide_eq_false h;rcases e:nrmV 4 (b.drop a) (v-uu w (D (atD m.toNat z)).2*sm ((D (atD m.toNat z)).1.take x)) (uu w (D (atD m.toNat z)).2*gtU (D (atD m.toNat z)).1 x) with ⟨R2,v2,w2⟩
   obtain ⟨sw,st⟩:=q1l hb hI2 f1 f2 (by omega) e;refine (qxn (B:=8+4*i) hb hP (by omega) (λ A hA hR=>?_) 4 a _ _ (by omega) (by omega) (by omega) e).only ⟨rfl,rfl,rfl,rfl,rfl,rfl,rfl,rfl,rfl,rfl,rfl,trivial⟩ ⟨rfl,rfl,rfl,trivial⟩;have ei:i64.wrap ((i:Int)+1)=((i+1:Nat):Int):=by rw[IntWalk.i64_in _ (by omega)];omega
   refine GoodT.goK cxD9 (qti m n b P o (D (atD m.toNat z)).1 V (atD m.toNat z) z v2 w2 (D (atD m.toNat z)).2 A i x _ _) (qaj (no_t (by have:=sw.1;omega)) λ _=>?_);rw[ei];have nx:=λ V'=>ih (i+1) (o++[(x:Int)]) V' (nxD m.toNat D z x) v2 w2 x A (by omega) (by rw[List.length_append,hl];rfl) (by omega) (st A hR)
   have nx:=rd_cl (V:=V) hm.1 hz nx;rw[List.length_append] at nx;refine ⟨Nat.le_refl 1,rfl,rfl,by show o.length+1<2 ^ 30;omega,by decide,rfl,rfl,⟨pz,pb⟩,?_⟩;exact nx.onlyR [(62,125)] rfl ⟨rfl,rfl,rfl,rfl,rfl,rfl,rfl,rfl,rfl,rfl,trivial⟩ ⟨rfl,rfl,rfl,trivial⟩
theorem rd_go {m n:Int} {b P:List Int} (hm:0<=m/\m<=2) (hn:0<=n/\n<=65536) (hb:byL b) (hP:∀ k,gtB P k=gtB b k):GoodE Try.prog G0 20 Try.f20.ntmps .fn Y0 (endK ttO G0 Try.f20.results.toList (QC ctRDec (m,b,n,()))) (hd Try.f20 1) (0,false) ⟨[(0,SV.i m),(1,SV.sl uB b),(2,SV.i n),(8,SV.sl uB P),(9,SV.ptr 1180231 0),(10,SV.i (rdv P)),(11,SV.i (4:Int)),(12,SV.i (4294967295:Int)),(13,SV.win true uB 67 0 0),(14,SV.i (0:Int))],rdeB m⟩:=by
 rw[q4t hb hP];refine GoodT.implode (q:=1180231) (m:=256) (g0:=1180324) (p:=[.i m]) (r:=[.u 0]) (s:=λ _=>tbR (c1L,256)) (Sc:=λ V=>⟨[(0,SV.i m),(1,SV.sl uB b),(2,SV.i n),(8,SV.sl uB P),(9,SV.ptr 1180231 0),(10,SV.i (pv b 4)),(11,SV.i (4:Int)),(12,SV.i (4294967295:Int)),(13,SV.win true uB 67 0 0),(14,SV.i (0:Int))],[(67,.row 5 uB []),(1180231,rkV m V 256 .nilp 0)]⟩)
  rfl (λ k hk=>?_) (λ _=>qot _) rfl (λ V=>qet _ ⟨rfl,rfl,rfl,rfl,rfl,rfl,rfl,rfl,rfl,rfl,trivial⟩) (λ V t x h=>?_) (λ k hk=>by omega) λ V=>?_
 ·show lk (rdeB m) _=_
  unfold rdeB;simp only[lk];rw[if_neg (by omega),if_neg (by omega)];exact qog (f:=λ _=>rtV c1L 256) (List.mem_range.2 hk)
 ·simp only[lk] at h;split at h
  next e=>subst e;cases h;exact .inr ⟨by decide,λ k hk=>by omega,rfl⟩
  ·split at h
   next e=>subst e;cases h;exact .inl ⟨rfl,rfl⟩
   ·cases h
 ·have g:=qxo (P:=P) hm hn hb hP n.toNat 0 [] V D0 (pv b 4) 4294967295 0 4 (Nat.zero_add _) rfl (by decide) ⟨qs0,qwn,by decide,pv4 hb,⟨[],0,wi_0,ri_0 b⟩,rfl⟩;exact g.onlyR [(62,67),(88,1180231)] rfl ⟨rfl,rfl,rfl,rfl,rfl,rfl,rfl,rfl,rfl,rfl,trivial⟩ ⟨rfl,rfl,trivial⟩
theorem q1k {m n:Int} {b P:List Int} (hm:0<=m/\m<=2) (hn:0<=n/\n<=65536) (hb:byL b) (hP:∀ k,gtB P k=gtB b k) (h4:4<=P.length):GDO 20 Try.f20 (QC ctRDec (m,b,n,())) (hd Try.f20 0) ⟨[(0,.i m),(1,.sl uB b),(2,.i n),(8,.sl uB P)],[]⟩:=
 qag cxD9 (q0v m n b P _ _) (qaj (no_t (by omega)) λ _=>⟨trivial,by decide,by omega,by decide,by decide,by omega,by decide,by decide,by omega,by decide,by decide,by omega,rd_go hm hn hb hP⟩)
theorem qug {m n:Int} {b P:List Int} (hm:0<=m/\m<=2) (hn:0<=n/\n<=65536) (hb:byL b) (hP:∀ k,gtB P k=gtB b k) (h4:4<=P.length):GDO 20 Try.f20 (QC ctRDec (m,b,n,())) (hd Try.f20 0) ⟨[(0,.i m),(1,.sl uB b),(2,.i n),(8,.win true uB 61 0 P.length)],[(61,.row 5 uB P)]⟩:=by
 have g:=q1k (m:=m) (n:=n) (b:=b) (P:=winL uB 0 P.length P) hm hn hb (by rw[qnp rfl];exact hP) (by rw[qnp rfl];exact h4);refine Good.frz (i:=61) (e:=uB) (et:=5) (xs:=P) rfl (λ c hc=>?_) (Good.only g ⟨rfl,rfl,rfl,rfl,trivial⟩ trivial);rw[show cdP 61 P.length ⟨[(0,.i m),(1,.sl uB b),(2,.i n),(8,.win true uB 61 0 P.length)],[(61,.row 5 uB P)]⟩=[0+P.length<=P.length] from rfl,List.mem_singleton] at hc;subst hc;omega
theorem qxm {m n:Int} {b:List Int} (hm:0<=m/\m<=2) (hn:0<=n/\n<=65536) (hb:byL b):∀ (k:Nat) (P:List Int),4<=P.length+k->(∀ j,gtB P j=gtB b j) ->
  GDO 20 Try.f20 (QC ctRDec (m,b,n,())) (hd Try.f20 0) ⟨[(0,.i m),(1,.sl uB b),(2,.i n),(8,.win true uB 61 0 P.length)],[(61,.row 5 uB P)]⟩:=by
 intro k
 induction k with
 | zero=>exact λ P h4 hP=>qug hm hn hb hP h4
 | succ k ih=>
  intro P h4 hP;by_cases hq:4<=P.length
  ·exact qug hm hn hb hP hq
  ·have nx:=ih (P++[0]) (by rw[List.length_append];show 4<=P.length+1+k;omega) (λ j=>(gt_0 P j).trans (hP j));rw[List.length_append] at nx;refine qag (cx0.tab qev) (q0w m n b P _ _) (qaj (λ _=>⟨Nat.le_refl 1,rfl,rfl,by show P.length+1<2 ^ 30;omega,by decide,?_⟩) (no_f (by omega)));exact nx.onlyR [(61,42)] rfl ⟨rfl,rfl,rfl,rfl,trivial⟩ ⟨rfl,trivial⟩
theorem quh:Held Try.prog G0 20 ctRDec:=Held.of cxD9 (fn:=Try.f20) rfl rfl ⟨by decide,by decide⟩ λ ⟨m,b,n,_⟩ hp=>by
 obtain ⟨hb,hl⟩:byL b/\b.length<1000000:=hp;refine qag cxD9 (q0x m n b _ _) (qaj (λ h=>⟨rfl,rfl,rfl,qic (qwf (λ q=>?_) b n)⟩) λ h0=>qaj (λ h=>⟨rfl,rfl,qic (qwf (λ q=>?_) b n)⟩) λ h2=>qaj (λ h=>⟨rfl,qic ?_⟩) λ h3=>qaj (λ h=>qic ?_) λ h4=>⟨rfl,rfl,by omega,by decide,?_⟩)
 ·have:=of_decide_eq_true h;omega
 ·have:=of_decide_eq_true (show decide ((2:Int)<m)=true from h);omega
 all_goals
  have h0:=of_decide_eq_false h0;have h2:=of_decide_eq_false (show decide ((2:Int)<m)=false from h2)
 ·rw[qky (by omega) (by omega)];have h:decide (n<0)=true:=h;unfold decG;rw[h]
 ·have h3:decide (n<0)=false:=h3;have h:decide (65536<n)=true:=h;rw[qky (by omega) (by omega)];unfold decG;rw[h3,h]
 ·have h3:(0:Int)<=n:=Int.not_lt.1 (of_decide_eq_false h3);have h4:=of_decide_eq_false (show decide ((65536:Int)<n)=false from h4);rw[Nat.zero_add];exact (qxm (m:=m) (n:=n) ⟨by omega,by omega⟩ ⟨by omega,by omega⟩ hb 4 b (by omega) λ _=>rfl).onlyR [(61,36)] rfl ⟨rfl,rfl,rfl,rfl,trivial⟩ ⟨rfl,trivial⟩
def CLR:CV:=[(14,.inl ctSan),(16,.inl ctEncF),(20,.inl ctRDec),(17,.inl ctEncF),(19,.inl ctDecF),(18,.inl ctSizF),(15,.inl ctLim)]
set_option maxRecDepth 100000
theorem q30 (b raw w:List Int) (Q:List SV->List (Nat × LB)->Prop) (R:List Item->PS->Prop):sA CLR Try.f3 Q (λ it S=>R it (qar [7,8,10,18,19] [92] S)) [.code (qah Try.f3)] (entry [.sl uB,.sl uB,.arr 3 uB] (b,raw,w,())) =
  (ctSan.pre ()/\ctLim.pre (b,(200:Int),())/\ctLim.pre (raw,(200:Int),())/\(0:Int)<=2/\(2:Int)<(↑(3:Nat):Int)/\Int.toNat (2:Int)<3/\(6:Int)≠0/\ctEncF.pre (i64.wrap (i64.wrap (Int.tmod (gt uB w (Int.toNat (2:Int))) (6:Int))-1),List.take (Int.toNat (200:Int)) b,())/\ctEncF.pre (i64.wrap (i64.wrap (Int.tmod (gt uB w (Int.toNat (2:Int))) (6:Int))-1),List.take (Int.toNat (200:Int)) b,())/\ctSizF.pre (i64.wrap (i64.wrap (Int.tmod (gt uB w (Int.toNat (2:Int))) (6:Int))-1),List.take (Int.toNat (200:Int)) b,())/\bc (decide (List.map toB (cA (i64.wrap (i64.wrap (Int.tmod (gt uB w (Int.toNat (2:Int))) (6:Int))-1)) (List.take (Int.toNat (200:Int)) b)).fst≠List.map toB (cA (i64.wrap (i64.wrap (Int.tmod (gt uB w (Int.toNat (2:Int))) (6:Int))-1)) (List.take (Int.toNat (200:Int)) b)).fst)) (true=true/\true=true/\true=true/\Q [SV.bool false] [(5,LB.var [SV.arr (3:Nat) uB w])]) (bc (decide ((cA (i64.wrap (i64.wrap (Int.tmod (gt uB w (Int.toNat (2:Int))) (6:Int))-1)) (List.take (Int.toNat (200:Int)) b)).snd≠(cA (i64.wrap (i64.wrap (Int.tmod (gt uB w (Int.toNat (2:Int))) (6:Int))-1)) (List.take (Int.toNat (200:Int)) b)).snd)) (true=true/\true=true/\Q [SV.bool false] [(5,LB.var [SV.arr (3:Nat) uB w])]) (bc (decide ((cA (i64.wrap (i64.wrap (Int.tmod (gt uB w (Int.toNat (2:Int))) (6:Int))-1)) (List.take (Int.toNat (200:Int)) b)).snd≠(cA (i64.wrap (i64.wrap (Int.tmod (gt uB w (Int.toNat (2:Int))) (6:Int))-1)) (List.take (Int.toNat (200:Int)) b)).snd)) (true=true/\Q [SV.bool false] [(5,LB.var [SV.arr (3:Nat) uB w])]) (bc (decide ((↑(cA (i64.wrap (i64.wrap (Int.tmod (gt uB w (Int.toNat (2:Int))) (6:Int))-1)) (List.take (Int.toNat (200:Int)) b)).fst.length:Int)≠(↑(cA (i64.wrap (i64.wrap (Int.tmod (gt uB w (Int.toNat (2:Int))) (6:Int))-1)) (List.take (Int.toNat (200:Int)) b)).fst.length:Int))) (Q [SV.bool false] [(5,LB.var [SV.arr (3:Nat) uB w])]) ((0:Nat)=(List.replicate (0:Nat) uB.dflt).length/\(0:Nat)=(0:Nat)/\(0:Nat)+(cA (i64.wrap (i64.wrap (Int.tmod (gt uB w (Int.toNat (2:Int))) (6:Int))-1)) (List.take (Int.toNat (200:Int)) b)).fst.length<2 ^ 30/\(1:Nat)<=2 ^ 10/\bc (decide ((0:Int)<(↑((0:Nat)+(cA (i64.wrap (i64.wrap (Int.tmod (gt uB w (Int.toNat (2:Int))) (6:Int))-1)) (List.take (Int.toNat (200:Int)) b)).fst.length):Int))) ((0:Int)<=0/\(0:Int)<(↑(3:Nat):Int)/\Int.toNat (0:Int)<3/\(↑((0:Nat)+(cA (i64.wrap (i64.wrap (Int.tmod (gt uB w (Int.toNat (2:Int))) (6:Int))-1)) (List.take (Int.toNat (200:Int)) b)).fst.length):Int)≠0/\(0:Int)<=1/\(1:Int)<(↑(3:Nat):Int)/\Int.toNat (1:Int)<3/\(0:Int)<=(i64.wrap (gt uB w (Int.toNat (0:Int)))).tmod (↑((0:Nat)+(cA (i64.wrap (i64.wrap (Int.tmod (gt uB w (Int.toNat (2:Int))) (6:Int))-1)) (List.take (Int.toNat (200:Int)) b)).fst.length):Int)/\(i64.wrap (gt uB w (Int.toNat (0:Int)))).tmod (↑((0:Nat)+(cA (i64.wrap (i64.wrap (Int.tmod (gt uB w (Int.toNat (2:Int))) (6:Int))-1)) (List.take (Int.toNat (200:Int)) b)).fst.length):Int)<(↑((0:Nat)+(cA (i64.wrap (i64.wrap (Int.tmod (gt uB w (Int.toNat (2:Int))) (6:Int))-1)) (List.take (Int.toNat (200:Int)) b)).fst.length):Int)/\(0:Nat)+((i64.wrap (gt uB w (Int.toNat (0:Int)))).tmod (↑((0:Nat)+(cA (i64.wrap (i64.wrap (Int.tmod (gt uB w (Int.toNat (2:Int))) (6:Int))-1)) (List.take (Int.toNat (200:Int)) b)).fst.length):Int)).toNat<((cA (i64.wrap (i64.wrap (Int.tmod (gt uB w (Int.toNat (2:Int))) (6:Int))-1)) (List.take (Int.toNat (200:Int)) b)).fst).length/\(0:Nat)+((0:Nat)+(cA (i64.wrap (i64.wrap (Int.tmod (gt uB w (Int.toNat (2:Int))) (6:Int))-1)) (List.take (Int.toNat (200:Int)) b)).fst.length)<=(((cA (i64.wrap (i64.wrap (Int.tmod (gt uB w (Int.toNat (2:Int))) (6:Int))-1)) (List.take (Int.toNat (200:Int)) b)).fst).set ((0:Nat)+((i64.wrap (gt uB w (Int.toNat (0:Int)))).tmod (↑((0:Nat)+(cA (i64.wrap (i64.wrap (Int.tmod (gt uB w (Int.toNat (2:Int))) (6:Int))-1)) (List.take (Int.toNat (200:Int)) b)).fst.length):Int)).toNat) (gt uB w (Int.toNat (1:Int)))).length/\(0:Nat)+((0:Nat)+(cA (i64.wrap (i64.wrap (Int.tmod (gt uB w (Int.toNat (2:Int))) (6:Int))-1)) (List.take (Int.toNat (200:Int)) b)).fst.length)<=(((cA (i64.wrap (i64.wrap (Int.tmod (gt uB w (Int.toNat (2:Int))) (6:Int))-1)) (List.take (Int.toNat (200:Int)) b)).fst).set ((0:Nat)+((i64.wrap (gt uB w (Int.toNat (0:Int)))).tmod (↑((0:Nat)+(cA (i64.wrap (i64.wrap (Int.tmod (gt uB w (Int.toNat (2:Int))) (6:Int))-1)) (List.take (Int.toNat (200:Int)) b)).fst.length):Int)).toNat) (gt uB w (Int.toNat (1:Int)))).length/\(0:Nat)+((0:Nat)+(cA (i64.wrap (i64.wrap (Int.tmod (gt uB w (Int.toNat (2:Int))) (6:Int))-1)) (List.take (Int.toNat (200:Int)) b)).fst.length)<=(((cA (i64.wrap (i64.wrap (Int.tmod (gt uB w (Int.toNat (2:Int))) (6:Int))-1)) (List.take (Int.toNat (200:Int)) b)).fst).set ((0:Nat)+((i64.wrap (gt uB w (Int.toNat (0:Int)))).tmod (↑((0:Nat)+(cA (i64.wrap (i64.wrap (Int.tmod (gt uB w (Int.toNat (2:Int))) (6:Int))-1)) (List.take (Int.toNat (200:Int)) b)).fst.length):Int)).toNat) (gt uB w (Int.toNat (1:Int)))).length/\(0:Nat)+((0:Nat)+(cA (i64.wrap (i64.wrap (Int.tmod (gt uB w (Int.toNat (2:Int))) (6:Int))-1)) (List.take (Int.toNat (200:Int)) b)).fst.length)<=(((cA (i64.wrap (i64.wrap (Int.tmod (gt uB w (Int.toNat (2:Int))) (6:Int))-1)) (List.take (Int.toNat (200:Int)) b)).fst).set ((0:Nat)+((i64.wrap (gt uB w (Int.toNat (0:Int)))).tmod (↑((0:Nat)+(cA (i64.wrap (i64.wrap (Int.tmod (gt uB w (Int.toNat (2:Int))) (6:Int))-1)) (List.take (Int.toNat (200:Int)) b)).fst.length):Int)).toNat) (gt uB w (Int.toNat (1:Int)))).length/\(0:Nat)+((0:Nat)+(cA (i64.wrap (i64.wrap (Int.tmod (gt uB w (Int.toNat (2:Int))) (6:Int))-1)) (List.take (Int.toNat (200:Int)) b)).fst.length)<=(((cA (i64.wrap (i64.wrap (Int.tmod (gt uB w (Int.toNat (2:Int))) (6:Int))-1)) (List.take (Int.toNat (200:Int)) b)).fst).set ((0:Nat)+((i64.wrap (gt uB w (Int.toNat (0:Int)))).tmod (↑((0:Nat)+(cA (i64.wrap (i64.wrap (Int.tmod (gt uB w (Int.toNat (2:Int))) (6:Int))-1)) (List.take (Int.toNat (200:Int)) b)).fst.length):Int)).toNat) (gt uB w (Int.toNat (1:Int)))).length/\(0:Nat)+((0:Nat)+(cA (i64.wrap (i64.wrap (Int.tmod (gt uB w (Int.toNat (2:Int))) (6:Int))-1)) (List.take (Int.toNat (200:Int)) b)).fst.length)<=(((cA (i64.wrap (i64.wrap (Int.tmod (gt uB w (Int.toNat (2:Int))) (6:Int))-1)) (List.take (Int.toNat (200:Int)) b)).fst).set ((0:Nat)+((i64.wrap (gt uB w (Int.toNat (0:Int)))).tmod (↑((0:Nat)+(cA (i64.wrap (i64.wrap (Int.tmod (gt uB w (Int.toNat (2:Int))) (6:Int))-1)) (List.take (Int.toNat (200:Int)) b)).fst.length):Int)).toNat) (gt uB w (Int.toNat (1:Int)))).length/\R (hd Try.f3 (0:Nat)) { env:=[(7,SV.bool true),(8,SV.sl uB (List.take (Int.toNat (200:Int)) b)),(10,SV.i (i64.wrap (i64.wrap (Int.tmod (gt uB w (Int.toNat (2:Int))) (6:Int))-1))),(18,SV.win true uB.sl (92:Nat) (0:Nat) (3:Nat)),(19,SV.i (0:Int))],blk:=[(92,LB.row (22:Nat) uB.sl ((((List.replicate (3:Nat) uB.sl.dflt).set (0:Nat) (cA (i64.wrap (i64.wrap (Int.tmod (gt uB w (Int.toNat (2:Int))) (6:Int))-1)) (List.take (Int.toNat (200:Int)) b)).fst).set (1:Nat) (winL uB 0 ((0:Nat)+(cA (i64.wrap (i64.wrap (Int.tmod (gt uB w (Int.toNat (2:Int))) (6:Int))-1)) (List.take (Int.toNat (200:Int)) b)).fst.length) (((cA (i64.wrap (i64.wrap (Int.tmod (gt uB w (Int.toNat (2:Int))) (6:Int))-1)) (List.take (Int.toNat (200:Int)) b)).fst).set ((0:Nat)+((i64.wrap (gt uB w (Int.toNat (0:Int)))).tmod (↑((0:Nat)+(cA (i64.wrap (i64.wrap (Int.tmod (gt uB w (Int.toNat (2:Int))) (6:Int))-1)) (List.take (Int.toNat (200:Int)) b)).fst.length):Int)).toNat) (gt uB w (Int.toNat (1:Int)))))).set (2:Nat) (List.take (Int.toNat (200:Int)) raw)))] }) ((0:Nat)+((0:Nat)+(cA (i64.wrap (i64.wrap (Int.tmod (gt uB w (Int.toNat (2:Int))) (6:Int))-1)) (List.take (Int.toNat (200:Int)) b)).fst.length)<=((cA (i64.wrap (i64.wrap (Int.tmod (gt uB w (Int.toNat (2:Int))) (6:Int))-1)) (List.take (Int.toNat (200:Int)) b)).fst).length/\(0:Nat)+((0:Nat)+(cA (i64.wrap (i64.wrap (Int.tmod (gt uB w (Int.toNat (2:Int))) (6:Int))-1)) (List.take (Int.toNat (200:Int)) b)).fst.length)<=((cA (i64.wrap (i64.wrap (Int.tmod (gt uB w (Int.toNat (2:Int))) (6:Int))-1)) (List.take (Int.toNat (200:Int)) b)).fst).length/\(0:Nat)+((0:Nat)+(cA (i64.wrap (i64.wrap (Int.tmod (gt uB w (Int.toNat (2:Int))) (6:Int))-1)) (List.take (Int.toNat (200:Int)) b)).fst.length)<=((cA (i64.wrap (i64.wrap (Int.tmod (gt uB w (Int.toNat (2:Int))) (6:Int))-1)) (List.take (Int.toNat (200:Int)) b)).fst).length/\(0:Nat)+((0:Nat)+(cA (i64.wrap (i64.wrap (Int.tmod (gt uB w (Int.toNat (2:Int))) (6:Int))-1)) (List.take (Int.toNat (200:Int)) b)).fst.length)<=((cA (i64.wrap (i64.wrap (Int.tmod (gt uB w (Int.toNat (2:Int))) (6:Int))-1)) (List.take (Int.toNat (200:Int)) b)).fst).length/\R (hd Try.f3 (0:Nat)) { env:=[(7,SV.bool true),(8,SV.sl uB (List.take (Int.toNat (200:Int)) b)),(10,SV.i (i64.wrap (i64.wrap (Int.tmod (gt uB w (Int.toNat (2:Int))) (6:Int))-1))),(18,SV.win true uB.sl (92:Nat) (0:Nat) (3:Nat)),(19,SV.i (0:Int))],blk:=[(92,LB.row (22:Nat) uB.sl ((((List.replicate (3:Nat) uB.sl.dflt).set (0:Nat) (cA (i64.wrap (i64.wrap (Int.tmod (gt uB w (Int.toNat (2:Int))) (6:Int))-1)) (List.take (Int.toNat (200:Int)) b)).fst).set (1:Nat) (winL uB 0 ((0:Nat)+(cA (i64.wrap (i64.wrap (Int.tmod (gt uB w (Int.toNat (2:Int))) (6:Int))-1)) (List.take (Int.toNat (200:Int)) b)).fst.length) ((cA (i64.wrap (i64.wrap (Int.tmod (gt uB w (Int.toNat (2:Int))) (6:Int))-1)) (List.take (Int.toNat (200:Int)) b)).fst))).set (2:Nat) (List.take (Int.toNat (200:Int)) raw)))] })))))):=by kernel_rfl
theorem qtr (x:List Int) (L:List (List Int)) (m i:Int) (Q:List SV->List (Nat × LB)->Prop) (R:List Item->PS->Prop):sA CLR Try.f3 Q (λ it S=>R it (qar [7,8,10,18,19] [92] S)) (hd Try.f3 0) ⟨[(7,.bool true),(8,.sl uB x),(10,.i m),(18,.win true uB.sl 92 0 3),(19,.i i)],[(92,.row 22 uB.sl L)]⟩ =
  (bc (decide (i<3)) ((0:Int)<=i/\i<(↑(3:Nat):Int)/\(0:Nat)+i.toNat<L.length/\ctDecF.pre (m,gt uB.sl L ((0:Nat)+i.toNat),(↑x.length:Int),())/\(0:Int)<=i/\i<(↑(3:Nat):Int)/\(0:Nat)+i.toNat<L.length/\ctRDec.pre (m,gt uB.sl L ((0:Nat)+i.toNat),(↑x.length:Int),())/\bc (decide (List.map toB (decA m (gt uB.sl L ((0:Nat)+i.toNat)) (↑x.length:Int)).fst≠List.map toB (decA m (gt uB.sl L ((0:Nat)+i.toNat)) (↑x.length:Int)).fst)) (true=true/\Q [SV.bool false] [(92,LB.row (22:Nat) uB.sl L)]) (bc (decide ((decA m (gt uB.sl L ((0:Nat)+i.toNat)) (↑x.length:Int)).snd≠(decA m (gt uB.sl L ((0:Nat)+i.toNat)) (↑x.length:Int)).snd)) (Q [SV.bool false] [(92,LB.row (22:Nat) uB.sl L)]) (R (hd Try.f3 (0:Nat)) { env:=[(7,SV.bool true),(8,SV.sl uB x),(10,SV.i m),(18,SV.win true uB.sl (92:Nat) (0:Nat) (3:Nat)),(19,SV.i (i64.wrap (i+1)))],blk:=[(92,LB.row (22:Nat) uB.sl L)] }))) (Q [SV.bool true] [(92,LB.row (22:Nat) uB.sl L)])):=by kernel_rfl
theorem cxLR:CxOK Try.prog tt G0 CLR:=((((((cx0.k qx9 (fn:=Try.f15)).k qt9 (fn:=Try.f18)).k qwe (fn:=Try.f19)).k qv6 (fn:=Try.f17)).k quh (fn:=Try.f20)).k qn3 (fn:=Try.f16)).k qxf (fn:=Try.f14)
def gdL (l:List Int):Prop:=byL l/\l.length<1000000
theorem gd_3 {A B C:List Int} (ha:gdL A) (hb:gdL B) (hc:gdL C):∀ j,gdL (gt uB.sl [A,B,C] j)
 | 0=>ha
 | 1=>hb
 | 2=>hc
 | _+3=>⟨qwn,(show List.length ([]:List Int)<1000000 by decide)⟩
theorem cA_gd (m:Int) {x:List Int} (hx:byL x) (hl:x.length<=200):byL (cA m x).1/\(cA m x).1.length<1000:=by
 by_cases h:0<=m/\m<=2
 ·have e:=q23 m.toNat hx;rw[q5l h.1 h.2 (by omega)];exact ⟨(qkz m.toNat hx).1,by show (qfp m.toNat x).length<1000;omega⟩
 ·rw[cA_no h];exact ⟨qwn,by decide⟩
theorem qx7 {x:List Int} {L:List (List Int)} {m:Int} (hL:L.length=3) (hg:∀ j,gdL (gt uB.sl L j)):∀ (k:Nat) (i:Int),3-i=k->0<=i ->
  GL 3 Try.f3 (hd Try.f3 0) ⟨[(7,.bool true),(8,.sl uB x),(10,.i m),(18,.win true uB.sl 92 0 3),(19,.i i)],[(92,.row 22 uB.sl L)]⟩:=by
 intro k
 induction k with
 | zero=>
  intro i hk h0;exact qag cxLR (qtr x L m i _ _) (qaj (no_t (by omega)) λ _=>rfl)
 | succ k ih=>
  intro i hk h0;have nx:=ih (i+1) (by omega) (by omega);refine qag cxLR (qtr x L m i _ _) (qaj (λ _=>?_) (no_f (by omega)));have g:=hg (0+i.toNat);have g2:=g.2;rw[IntWalk.i64_in (i+1) (by omega)];exact ⟨h0,by omega,by omega,(show List.length (gt uB.sl L (0+i.toNat))<1099511627776 by omega),h0,by omega,by omega,g,qaj (no_t λ q=>q rfl) λ _=>qaj (no_t λ q=>q rfl) λ _=>nx⟩
theorem q2h (b raw w:List Int) (hb:byL b) (hr:byL raw) (hw:byL w):GL 3 Try.f3 [.code (qah Try.f3)] (entry [.sl uB,.sl uB,.arr 3 uB] (b,raw,w,())):=by
 refine qag cxLR (q30 b raw w _ _) ?_;generalize IntKind.i64.wrap (IntKind.i64.wrap (Int.tmod (gt uB w (Int.toNat (2:Int))) (6:Int))-(1:Int))=m;have hx:byL (List.take (Int.toNat (200:Int)) b):=qwl hb _;have hxl:(List.take (Int.toNat (200:Int)) b).length<=200:=by rw[List.length_take];exact Nat.min_le_left _ _
 have hy:gdL (List.take (Int.toNat (200:Int)) raw):=⟨qwl hr _,by
  have:(List.take (Int.toNat (200:Int)) raw).length<=200:=by rw[List.length_take];exact Nat.min_le_left _ _
  omega⟩
 generalize List.take (Int.toNat (200:Int)) b=x at *;generalize List.take (Int.toNat (200:Int)) raw=y at *;obtain ⟨hc,hcl⟩:=cA_gd m hx hxl;generalize cA m x=p at *;obtain ⟨p,e⟩:=p;have hc:byL p:=hc;have hcl:p.length<1000:=hcl;have hq:(0:Int)<=gt uB w (Int.toNat (0:Int))/\@LT.lt Int _ (gt uB w (Int.toNat (0:Int))) 256:=qhw hw 0;have hz:(0:Int)<=gt uB w (Int.toNat (1:Int))/\@LT.lt Int _ (gt uB w (Int.toNat (1:Int))) 256:=qhw hw 1;generalize gt uB w (Int.toNat (0:Int))=q at *;generalize gt uB w (Int.toNat (1:Int))=z at *;have fin:∀ A,gdL A->GL 3 Try.f3 (hd Try.f3 0) ⟨[(7,.bool true),(8,.sl uB x),(10,.i m),(18,.win true uB.sl 92 0 3),(19,.i 0)],[(92,.row 22 uB.sl [p,A,y])]⟩:=λ A hA=>qx7 rfl (gd_3 ⟨hc,by omega⟩ hA hy) 3 0 rfl (by decide)
 refine ⟨trivial,(by decide:(0:Int)<=200),(by decide:(0:Int)<=200),by decide,by decide,by decide,by decide,hx,hx,hx,qaj (no_t λ q=>q rfl) λ _=>qaj (no_t λ q=>q rfl) λ _=>qaj (no_t λ q=>q rfl) λ _=>qaj (no_t λ q=>q rfl) λ _=>⟨rfl,rfl,by show 0+p.length<2 ^ 30;omega,by decide,?_⟩⟩;simp only[Nat.zero_add];refine qaj (λ h=>?_) (λ h=>?_)
 ·have h:0<(p.length:Int):=of_decide_eq_true h;have ei:(IntKind.i64.wrap q).tmod p.length=q % p.length:=by
   rw[IntWalk.i64_in q (by omega),Int.tmod_eq_emod_of_nonneg hq.1]
  have h1:=Int.emod_nonneg q (show (p.length:Int)≠0 by omega);have h2:=Int.emod_lt_of_pos q h;rw[ei];generalize q % (p.length:Int)=t at *;have es:(p.set t.toNat z).length=p.length:=List.length_set;have ew:winL uB 0 p.length (p.set t.toNat z)=p.set t.toNat z:=qnp es.symm;have f:=fin (p.set t.toNat z) ⟨qwm hc hz,by omega⟩;rw[<- ew] at f;have le:p.length<=(p.set t.toNat z).length:=by omega
  exact ⟨by decide,by decide,by decide,by omega,by decide,by decide,by decide,h1,h2,by omega,le,le,le,le,le,le,f⟩
 ·have ew:winL uB 0 p.length p=p:=qnp rfl;have f:=fin (winL uB 0 p.length p) (by rw[ew];exact ⟨hc,by omega⟩);exact ⟨Nat.le_refl _,Nat.le_refl _,Nat.le_refl _,Nat.le_refl _,f⟩
def q4y:(x:DL [Sh.sl uB,Sh.sl uB,Sh.arr 3 uB])->Prop:=λ x=>byL x.1/\byL x.2.1/\byL x.2.2.1
def q5j:Ctr:=⟨[.sl uB,.sl uB,.arr 3 uB],q4y,λ _=>[.bool true],λ _=>[]⟩
theorem q2i:Held Try.prog G0 3 q5j:=Held.of cxLR (fn:=Try.f3) rfl rfl ⟨by decide,by decide⟩ λ ⟨b,r,w,_⟩ hp=>by
 obtain ⟨hb,hr,hw⟩:byL b/\byL r/\byL w:=hp;exact (q2h b r w hb hr hw).post λ rs blk h=>q4w rfl rfl h
theorem q5m {n:Nat} {l:List Int} (h:wfD (.arr n uB) l):byL l:=λ x hx=>q4b (h.2 x hx)
end Go.Proofs.Ytdlnmlepljepjaa
