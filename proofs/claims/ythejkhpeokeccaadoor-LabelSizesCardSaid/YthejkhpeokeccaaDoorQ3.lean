/-
  A part of the proof: what pieces of the program give; conditions: those of each theorem.
-/
import Derived.Test.YthejkhpeokeccaaDoorQ2
import Derived.KernelRfl
import Derived.Test.YthejkhpeokeccaaDoorQ1
set_option linter.unusedVariables false
set_option linter.unusedSimpArgs false
namespace Go.Proofs.YthejkhpeokeccaaDoor
open Go.Px Go.Ax
set_option maxRecDepth 100000
attribute [local irreducible] Go.Px.sy Go.Px.syE
noncomputable def inV:DI K2i->List Int:=Classical.choose (exC q62)
noncomputable def rvV:DI K2i->List Int:=Classical.choose (exC q43)
noncomputable def hpV:DI K2i->List Int:=Classical.choose (exC q64)
noncomputable def bpV:DI K2i->List Int:=Classical.choose (exC q7n)
noncomputable def piV:DI K2i->Bool:=Classical.choose (exC q5v)
noncomputable def chV:DI K2i->Int × Int:=Classical.choose (exC q7j)
instance:Nonempty PtR:=⟨([],0,false)⟩
instance:Nonempty PeR:=⟨([],0)⟩
noncomputable def ptV:DI K3i->PtR:=Classical.choose (exC q5e)
noncomputable def peV:DI K3i->PeR:=Classical.choose (exC q5z)
noncomputable def ctIn:CtrI:=⟨K2i,fun x=>qhn x.1 x.2.1 x.2.2.1,fun _=>[],fun x=>bkKL 0 K2i (inV x,x.2)⟩
noncomputable def ctRv:CtrI:=⟨K2i,fun x=>qhn x.1 x.2.1 x.2.2.1,fun _=>[],fun x=>bkKL 0 K2i (rvV x,x.2)⟩
noncomputable def ctHp:CtrI:=⟨K2i,fun x=>preS x.1 x.2.1 x.2.2.1,fun _=>[],fun x=>bkKL 0 K2i (hpV x,x.2)⟩
noncomputable def ctBp:CtrI:=⟨K2i,fun x=>preS x.1 x.2.1 x.2.2.1,fun _=>[],fun x=>bkKL 0 K2i (bpV x,x.2)⟩
noncomputable def ctPi:CtrI:=⟨K2i,fun x=>preS x.1 x.2.1 x.2.2.1,fun x=>[.bool (piV x)],fun x=>bkKL 0 K2i (x.1,x.2)⟩
noncomputable def ctCh:CtrI:=⟨K2i,fun x=>preS x.1 x.2.1 x.2.2.1,fun x=>[.int .i64 (chV x).1,.int .i64 (chV x).2],fun x=>bkKL 0 K2i (x.1,x.2)⟩
noncomputable def ctPt:CtrI:=⟨K3i,fun x=>qd4 x.1 x.2.1 x.2.2.1 x.2.2.2.1,fun x=>[.int .i64 ((ptV x).2.1:Nat),.bool (ptV x).2.2],fun x=>bkKL 0 K3i ((ptV x).1,x.2)⟩
noncomputable def ctPe:CtrI:=⟨K3i,fun x=>qd4 x.1 x.2.1 x.2.2.1 x.2.2.2.1,fun x=>[.int .i64 ((peV x).2:Nat)],fun x=>bkKL 0 K3i ((peV x).1,x.2)⟩
theorem q61:HeldI Tryd.prog G0 76 ctIn:=(Classical.choose_spec (exC q62)).2
theorem q42:HeldI Tryd.prog G0 80 ctRv:=(Classical.choose_spec (exC q43)).2
theorem q63:HeldI Tryd.prog G0 77 ctHp:=(Classical.choose_spec (exC q64)).2
theorem q7m:HeldI Tryd.prog G0 78 ctBp:=(Classical.choose_spec (exC q7n)).2
theorem q5u:HeldI Tryd.prog G0 81 ctPi:=(Classical.choose_spec (exC q5v)).2
theorem q7i:HeldI Tryd.prog G0 79 ctCh:=(Classical.choose_spec (exC q7j)).2
theorem q5d:HeldI Tryd.prog G0 84 ctPt:=(Classical.choose_spec (exC q5e)).2
theorem q5y:HeldI Tryd.prog G0 83 ctPe:=(Classical.choose_spec (exC q5z)).2
theorem q9z (l:List Int) (a b:Int) (h:qhn l a b):SrtS l a b (inV (l,a,b,())):=(Classical.choose_spec (exC q62)).1 (l,a,b,()) h
theorem qws (l:List Int) (a b:Int) (h:qhn l a b):Swp a.toNat b.toNat l (rvV (l,a,b,())):=(Classical.choose_spec (exC q43)).1 (l,a,b,()) h
theorem q91 (l:List Int) (a b:Int) (h:preS l a b):SrtS l a b (hpV (l,a,b,())):=(Classical.choose_spec (exC q64)).1 (l,a,b,()) h
theorem zag (l:List Int) (a b:Int) (h:preS l a b):Swp a.toNat b.toNat l (bpV (l,a,b,())):=(Classical.choose_spec (exC q7n)).1 (l,a,b,()) h
theorem q28 (l:List Int) (a b:Int) (h:preS l a b):piV (l,a,b,())=true->Inc l a.toNat b.toNat:=(Classical.choose_spec (exC q5v)).1 (l,a,b,()) h
theorem q3v (l:List Int) (a b:Int) (h:preS l a b):a<=(chV (l,a,b,())).1/\(chV (l,a,b,())).1<b:=(Classical.choose_spec (exC q7j)).1 (l,a,b,()) h
theorem q81 (l:List Int) (a b p:Int) (h:qd4 l a b p):PtS l a.toNat b.toNat (ptV (l,a,b,p,())):=(Classical.choose_spec (exC q5e)).1 (l,a,b,p,()) h
theorem q9b (l:List Int) (a b p:Int) (h:qd4 l a b p):PeS l a.toNat b.toNat (gtI l p.toNat) (peV (l,a,b,p,())):=(Classical.choose_spec (exC q5z)).1 (l,a,b,p,()) h
def PreO (l:List Int) (a b:Nat):Prop:=a=0\/∀ k,a<=k->k<b->gtI l (a-1)<=gtI l k
def qig (n:Nat) (l:List Int) (a b m:Int):Prop:=qhn l a b/\b-a<n/\n<=50/\0<=m/\m<1000/\PreO l a.toNat b.toNat
def ctPq (V:DI Kpdq->List Int) (n:Nat):CtrI:=⟨Kpdq,fun x=>qig n x.1 x.2.1 x.2.2.1 x.2.2.2.1,fun _=>[],fun x=>bkKL 0 Kpdq (V x,x.2)⟩
noncomputable def CPq0:CV:=(76,.inr ctIn)::(80,.inr ctRv)::(77,.inr ctHp)::(78,.inr ctBp)::(81,.inr ctPi)::(79,.inr ctCh)::(84,.inr ctPt)::(83,.inr ctPe)::qdf
noncomputable def CPq (V:DI Kpdq->List Int) (n:Nat):CV:=(70,.inr (ctPq V n))::CPq0
theorem cxPq0:CxOK Tryd.prog tt G0 CPq0:=
 (((((((cxLess.consI q5y (fn:=Tryd.f83) rfl rfl rfl).consI q5d (fn:=Tryd.f84) rfl rfl rfl).consI q7i (fn:=Tryd.f79) rfl rfl rfl).consI q5u (fn:=Tryd.f81) rfl rfl rfl).consI q7m (fn:=Tryd.f78) rfl rfl rfl).consI q63 (fn:=Tryd.f77) rfl rfl rfl).consI q42 (fn:=Tryd.f80) rfl rfl rfl).consI q61 (fn:=Tryd.f76) rfl rfl rfl
theorem cxPq {V:DI Kpdq->List Int} {n:Nat} (h:HeldI Tryd.prog G0 70 (ctPq V n)):CxOK Tryd.prog tt G0 (CPq V n):=cxPq0.consI h (fn:=Tryd.f70) rfl rfl rfl
abbrev PQ (n0:Nat) (a b m:Int) (w q:Bool) (z:List Int):PS:=⟨[(0,.win true iI 1099511627776 0 n0),(1,.int .i64 a),(2,.int .i64 b),(3,.int .i64 m),(8,.bool w),(9,.bool q)],[(1099511627776,.row 3 iI z)]⟩
abbrev i6 (x:Int):Int:=IntKind.i64.wrap x
def TLt (V:DI Kpdq->List Int) (n:Nat) (R:List Item->PS->Prop) (n0:Nat) (z:List Int) (a b p m:Int):Prop:=
 n0=z.length/\ctPt.pre (z,a,b,p,())/\(8:Int)≠0 /\
 bc (decide (i6 (((ptV (z,a,b,p,())).2.1:Int)-a)<i6 (b-((ptV (z,a,b,p,())).2.1:Int))))
  (n0=(ptV (z,a,b,p,())).1.length/\(ctPq V n).pre ((ptV (z,a,b,p,())).1,a,((ptV (z,a,b,p,())).2.1:Int),m,()) /\
   R (hd Tryd.f70 0) (PQ n0 (i6 (((ptV (z,a,b,p,())).2.1:Int)+1)) b m (decide (i6 ((i6 (b-a)).tdiv 8)<=i6 (((ptV (z,a,b,p,())).2.1:Int)-a))) (ptV (z,a,b,p,())).2.2 (V ((ptV (z,a,b,p,())).1,a,((ptV (z,a,b,p,())).2.1:Int),m,()))))
  (n0=(ptV (z,a,b,p,())).1.length/\(ctPq V n).pre ((ptV (z,a,b,p,())).1,i6 (((ptV (z,a,b,p,())).2.1:Int)+1),b,m,()) /\
   R (hd Tryd.f70 0) (PQ n0 a ((ptV (z,a,b,p,())).2.1:Int) m (decide (i6 ((i6 (b-a)).tdiv 8)<=i6 (b-((ptV (z,a,b,p,())).2.1:Int)))) (ptV (z,a,b,p,())).2.2 (V ((ptV (z,a,b,p,())).1,i6 (((ptV (z,a,b,p,())).2.1:Int)+1),b,m,()))))
def TL (V:DI Kpdq->List Int) (n:Nat) (R:List Item->PS->Prop) (n0:Nat) (w q:Bool) (z:List Int) (a b p m:Int):Prop:=
 bc (decide ((0:Int)<a)) (0<=i6 (a-1)/\i6 (a-1)<(n0:Int)/\0+(i6 (a-1)).toNat<z.length/\0<=p/\p<(n0:Int)/\0+p.toNat<z.length /\
  ctLess.pre (gtI z (0+(i6 (a-1)).toNat),gtI z (0+p.toNat),()) /\
  bc (bif true then !decide ((show Int from gtI z (0+(i6 (a-1)).toNat))<gtI z (0+p.toNat)) else false)
   (n0=z.length/\ctPe.pre (z,a,b,p,())/\R (hd Tryd.f70 0) (PQ n0 ((peV (z,a,b,p,())).2:Int) b m w q (peV (z,a,b,p,())).1))
   (TLt V n R n0 z a b p m))
  (false=false/\TLt V n R n0 z a b p m)
theorem qhe (V:DI Kpdq->List Int) (n:Nat) (l:List Int) (a b m:Int) (Q:QT) (R:RT):sy tt G0 (CPq V n) Tryd.f70.ntmps Tryd.f70.results.toList Q (fun it S=>R it (qar [0,1,2,3,8,9] [BIG] S)) 1000 (hd Tryd.f70 0) (PQ l.length a b m true true l) =
  (bc (decide (i6 (b-a)<=12)) (l.length=l.length/\ctIn.pre (l,a,b,())/\Q [] [(BIG,.row 3 iI (inV (l,a,b,())))]) (bc (decide (m=0)) (l.length=l.length/\ctHp.pre (l,a,b,())/\Q [] [(BIG,.row 3 iI (hpV (l,a,b,())))]) (l.length=l.length/\ctCh.pre (l,a,b,())/\bc (decide ((chV (l,a,b,())).2=2)) (l.length=l.length/\ctRv.pre (l,a,b,())/\l.length=(rvV (l,a,b,())).length/\ctPi.pre (rvV (l,a,b,()),a,b,())/\bc (piV (rvV (l,a,b,()),a,b,())) (Q [] [(BIG,.row 3 iI (rvV (l,a,b,())))]) (TL V n R l.length true true (rvV (l,a,b,())) a b (i6 (i6 (b-1)-i6 ((chV (l,a,b,())).1-a))) m))
   (bc (decide ((chV (l,a,b,())).2=1)) (l.length=l.length/\ctPi.pre (l,a,b,())/\bc (piV (l,a,b,())) (Q [] [(BIG,.row 3 iI l)]) (TL V n R l.length true true l a b (chV (l,a,b,())).1 m)) (TL V n R l.length true true l a b (chV (l,a,b,())).1 m))))):=by kernel_rfl
theorem qnp (V:DI Kpdq->List Int) (n:Nat) (l:List Int) (a b m:Int) (Q:QT) (R:RT):sy tt G0 (CPq V n) Tryd.f70.ntmps Tryd.f70.results.toList Q (fun it S=>R it (qar [0,1,2,3,8,9] [BIG] S)) 1000 (hd Tryd.f70 0) (PQ l.length a b m true false l) =
  (bc (decide (i6 (b-a)<=12)) (l.length=l.length/\ctIn.pre (l,a,b,())/\Q [] [(BIG,.row 3 iI (inV (l,a,b,())))]) (bc (decide (m=0)) (l.length=l.length/\ctHp.pre (l,a,b,())/\Q [] [(BIG,.row 3 iI (hpV (l,a,b,())))]) (l.length=l.length/\ctCh.pre (l,a,b,())/\bc (decide ((chV (l,a,b,())).2=2)) (l.length=l.length/\ctRv.pre (l,a,b,())/\false=false/\TL V n R l.length true false (rvV (l,a,b,())) a b (i6 (i6 (b-1)-i6 ((chV (l,a,b,())).1-a))) m) (false=false/\TL V n R l.length true false l a b (chV (l,a,b,())).1 m)))):=by kernel_rfl
theorem qsj (V:DI Kpdq->List Int) (n:Nat) (l:List Int) (a b m:Int) (p:Bool) (Q:QT) (R:RT):sy tt G0 (CPq V n) Tryd.f70.ntmps Tryd.f70.results.toList Q (fun it S=>R it (qar [0,1,2,3,8,9] [BIG] S)) 1000 (hd Tryd.f70 0) (PQ l.length a b m false p l) =
  (bc (decide (i6 (b-a)<=12)) (l.length=l.length/\ctIn.pre (l,a,b,())/\Q [] [(BIG,.row 3 iI (inV (l,a,b,())))]) (bc (decide (m=0)) (l.length=l.length/\ctHp.pre (l,a,b,())/\Q [] [(BIG,.row 3 iI (hpV (l,a,b,())))]) (l.length=l.length/\ctBp.pre (l,a,b,())/\l.length=(bpV (l,a,b,())).length/\ctCh.pre (bpV (l,a,b,()),a,b,())/\bc (decide ((chV (bpV (l,a,b,()),a,b,())).2=2)) (l.length=(bpV (l,a,b,())).length/\ctRv.pre (bpV (l,a,b,()),a,b,())/\false=false/\false=false/\TL V n R l.length false p (rvV (bpV (l,a,b,()),a,b,())) a b (i6 (i6 (b-1)-i6 ((chV (bpV (l,a,b,()),a,b,())).1-a))) (i6 (m-1))) (false=false/\false=false/\TL V n R l.length false p (bpV (l,a,b,())) a b (chV (bpV (l,a,b,()),a,b,())).1 (i6 (m-1)))))):=by kernel_rfl
theorem glue {y:List Int} {a c b:Nat} {v:Int} (hy:gtI y c=v) (h1:∀ k,a<=k->k<c->gtI y k<=v) (h2:∀ k,c<k->k<b->v<=gtI y k) (i1:Inc y a c) (i2:Inc y (c+1) b):Inc y a b:=fun k k1 k2=>by
 rcases Nat.lt_trichotomy (k+1) c with h | h | h
 ·exact i1 k k1 h
 ·rw[h,hy];exact h1 k k1 (by omega)
 ·by_cases e:k=c
  ·subst e;rw[hy];exact h2 _ (by omega) k2
  ·exact i2 k (by omega) k2
section
variable {z y1 y:List Int} {a b:Nat} {r:PtR}
theorem ptL (P:PtS z a b r) (hb:b<=z.length) (s1:Swp a r.2.1 r.1 y1) (i1:Inc y1 a r.2.1) (s2:Swp (r.2.1+1) b y1 y) (i2:Inc y (r.2.1+1) b):Swp a b z y/\Inc y a b:=by
 obtain ⟨sw,lo,hi,le,ge⟩:=P;have l1:=sw.len;have l2:=s1.len;have o1:∀ k,k<r.2.1+1->gtI y k=gtI y1 k:=fun k h=>s2.out (by omega) (.inl h)
 have o2:∀ k,r.2.1<=k->gtI y1 k=gtI r.1 k:=fun k h=>s1.out (by omega) (.inr h)
 refine ⟨(sw.trans (s1.mono (Nat.le_refl _) (by omega))).trans (s2.mono (by omega) (Nat.le_refl _)),?_⟩;refine glue (c:=r.2.1) (v:=gtI r.1 r.2.1) (by rw[o1 _ (by omega),o2 _ (Nat.le_refl _)]) (fun k k1 k2=>?_) (fun k k1 k2=>?_) (fun k k1 k2=>?_) i2
 ·rw[o1 k (by omega)];exact s1.all (by omega) (P:=fun v=>v<=gtI r.1 r.2.1) (fun k k1 k2=>Int.le_of_lt (le k k1 k2)) k k1 k2
 ·exact s2.all (by omega) (P:=fun v=>gtI r.1 r.2.1<=v) (fun k k1 k2=>by rw[o2 k (by omega)];exact ge k (by omega) k2) k (by omega) k2
 ·rw[o1 k (by omega),o1 (k+1) (by omega)];exact i1 k k1 k2
theorem ptR (P:PtS z a b r) (hb:b<=z.length) (s1:Swp (r.2.1+1) b r.1 y1) (i1:Inc y1 (r.2.1+1) b) (s2:Swp a r.2.1 y1 y) (i2:Inc y a r.2.1):Swp a b z y/\Inc y a b:=by
 obtain ⟨sw,lo,hi,le,ge⟩:=P;have l1:=sw.len;have l2:=s1.len;have o1:∀ k,r.2.1<=k->gtI y k=gtI y1 k:=fun k h=>s2.out (by omega) (.inr h)
 have o2:∀ k,k<r.2.1+1->gtI y1 k=gtI r.1 k:=fun k h=>s1.out (by omega) (.inl h)
 refine ⟨(sw.trans (s1.mono (by omega) (Nat.le_refl _))).trans (s2.mono (Nat.le_refl _) (by omega)),?_⟩;refine glue (c:=r.2.1) (v:=gtI r.1 r.2.1) (by rw[o1 _ (Nat.le_refl _),o2 _ (by omega)]) (fun k k1 k2=>?_) (fun k k1 k2=>?_) i2 (fun k k1 k2=>?_)
 ·exact s2.all (by omega) (P:=fun v=>v<=gtI r.1 r.2.1) (fun k k1 k2=>by rw[o2 k (by omega)];exact Int.le_of_lt (le k k1 k2)) k k1 k2
 ·rw[o1 k (by omega)];exact s1.all (by omega) (P:=fun v=>gtI r.1 r.2.1<=v) (fun k k1 k2=>ge k (by omega) k2) k (by omega) k2
 ·rw[o1 k (by omega),o1 (k+1) (by omega)];exact i1 k k1 k2
theorem qtc (h:PreO z a b) (s:Swp a b z y) (hb:b<=z.length):PreO y a b:=by
 rcases h with h | h
 ·exact .inl h
 ·by_cases e:a=0
  ·exact .inl e
  ·refine .inr fun k k1 k2=>?_
   rw[s.out hb (k:=a-1) (.inl (by omega))];exact s.all hb (P:=fun v=>gtI z (a-1)<=v) h k k1 k2
theorem q0i {c:Nat} (h:PreO y a b) (hc:c<=b):PreO y a c:=by
 rcases h with h | h
 ·exact .inl h
 ·exact .inr fun k k1 k2=>h k k1 (by omega)
theorem q5j {c:Nat} (h:PreO y a c) (e:∀ k,k<c->gtI y1 k=gtI y k) (hc:a<=c):PreO y1 a c:=by
 rcases h with h | h
 ·exact .inl h
 ·by_cases q:a=0
  ·exact .inl q
  ·refine .inr fun k k1 k2=>?_
   rw[e k k2,e (a-1) (by omega)];exact h k k1 k2
theorem qw7 (h:PreO z a b) (P:PtS z a b r) (hb:b<=z.length):PreO r.1 a r.2.1:=q0i (qtc h P.sw hb) (Nat.le_of_lt P.hi)
theorem q5c (P:PtS z a b r):PreO r.1 (r.2.1+1) b:=.inr fun k k1 k2=>P.ge k k1 k2
theorem q5b (P:PtS z a b r) (hb:b<=z.length) (s1:Swp a r.2.1 r.1 y1):PreO y1 (r.2.1+1) b:=by
 have l1:=P.sw.len;have h:=P.hi;refine .inr fun k k1 k2=>?_
 show gtI y1 r.2.1<=_
 rw[s1.out (by omega) (.inr (Nat.le_refl _)),s1.out (k:=k) (by omega) (.inr (by omega))];exact P.ge k k1 k2
theorem q5a (h:PreO z a b) (P:PtS z a b r) (hb:b<=z.length) (s1:Swp (r.2.1+1) b r.1 y1):PreO y1 a r.2.1:=by
 have l1:=P.sw.len;exact q5j (qw7 h P hb) (fun k k1=>s1.out (by omega) (.inl (by omega))) P.lo
theorem q88 {v:Int} {r:PeR} (P:PeS z a b v r):PreO r.1 r.2 b:=by
 have h:=P.lo;exact .inr fun k k1 k2=>Int.le_trans (P.le (r.2-1) (by omega) (by omega)) (Int.le_of_lt (P.ge k k1 k2))
theorem q89 {v:Int} {r:PeR} (P:PeS z a b v r) (hb:b<=z.length) (h:PreO z a b) (ha:0<a) (hv:v<=gtI z (a-1)) (s2:Swp r.2 b r.1 y) (i2:Inc y r.2 b):Swp a b z y/\Inc y a b:=by
 obtain ⟨sw,lo,hi,le,ge⟩:=P;have l1:=sw.len;have o1:∀ k,k<r.2->gtI y k=gtI r.1 k:=fun k h=>s2.out (by omega) (.inl h)
 have lb:∀ k,a<=k->k<b->v<=gtI r.1 k:=by
  rcases h with h | h
  ·omega
  ·exact sw.all hb (P:=fun x=>v<=x) fun k k1 k2=>Int.le_trans hv (h k k1 k2)
 refine ⟨sw.trans (s2.mono (by omega) (Nat.le_refl _)),fun k k1 k2=>?_⟩;rcases Nat.lt_trichotomy (k+1) r.2 with h | h | h
 ·rw[o1 k (by omega),o1 (k+1) h];exact Int.le_trans (le k k1 (by omega)) (lb (k+1) (by omega) k2)
 ·rw[o1 k (by omega)];refine Int.le_trans (le k k1 (by omega)) (Int.le_of_lt ?_);exact s2.all (by omega) (P:=fun x=>v<x) ge (k+1) (by omega) k2
 ·exact i2 k (by omega) k2
end
abbrev QE (y:List Int):List SV->List (Nat × LB)->Prop:=fun rs blk=>rs=[]/\lk blk BIG=some (.row 3 iI y)
structure PqH (n0 k:Nat) (z:List Int) (a b m:Int):Prop where
 ha:0<=a
 hab:a<=b
 hb:b<=n0
 hz:z.length=n0
 hn:n0<1073741824
 hk:b-a<=k
 hm:0<=m
 hm2:m<1000
 ho:PreO z a.toNat b.toNat
def Goes (V:DI Kpdq->List Int) (n n0 k:Nat):Prop:=∀ (z:List Int) (a b m:Int) (w q:Bool),PqH n0 k z a b m ->
 ∃ y,SrtS z a b y/\GD 70 Tryd.f70 (QE y) (hd Tryd.f70 0) (PQ n0 a b m w q z)
theorem q8k {V:DI Kpdq->List Int} {n n0 k:Nat} (hV:∀ x:DI Kpdq,qig n x.1 x.2.1 x.2.2.1 x.2.2.2.1->SrtS x.1 x.2.1 x.2.2.1 (V x)) (hn:k<n) (h50:n<=49) (IH:Goes V n n0 k) {z:List Int} {a b p m:Int} (H:PqH n0 (k+1) z a b m) (h1:a<=p) (h2:p<b) :
  ∃ y,SrtS z a b y/\TLt V n (GD 70 Tryd.f70 (QE y)) n0 z a b p m:=by
 obtain ⟨ha,hab,hb,hz,hl,hk,hm,hm2,ho⟩:=H;have pp:qd4 z a b p:=⟨ha,by omega,by omega,by omega,h1,h2⟩;have P:=q81 z a b p pp;unfold TLt;generalize ptV (z,a,b,p,())=r at P |-;have l1:=P.sw.len;have lo:=P.lo;have hi:=P.hi;have ec:((r.2.1:Nat):Int).toNat=r.2.1:=Int.toNat_natCast _;have ec1:((r.2.1:Int)+1).toNat=r.2.1+1:=by omega
 have w1:i6 ((r.2.1:Int)+1)=(r.2.1:Int)+1:=IntWalk.i64_in _ (by omega);rw[w1];by_cases c:i6 ((r.2.1:Int)-a)<i6 (b-(r.2.1:Int))
 ·have p1:qig n r.1 a r.2.1 m:=⟨⟨ha,by omega,by omega,by omega⟩,by omega,by omega,hm,hm2,by rw[ec];exact qw7 ho P (by omega)⟩;obtain ⟨s1,i1⟩:=hV (r.1,a,r.2.1,m,()) p1;rw[show ((r.1,a,(r.2.1:Int),m,()):DI Kpdq).2.2.1=(r.2.1:Int) from rfl,ec] at s1 i1;have l2:=s1.len;obtain ⟨y,⟨y1,y2⟩,y3⟩:=IH (V (r.1,a,r.2.1,m,())) ((r.2.1:Int)+1) b m (decide (i6 ((i6 (b-a)).tdiv 8)<=i6 ((r.2.1:Int)-a))) r.2.2 ⟨by omega,by omega,hb,by rw[l2];show r.1.length=n0;omega,hl,by omega,hm,hm2,by rw[ec1];exact q5b P (by omega) s1⟩;rw[ec1] at y1 y2;exact ⟨y,ptL P (by omega) s1 i1 y1 y2,hz.symm,pp,by decide,bcT (decide_eq_true c) ⟨by omega,p1,y3⟩⟩
 ·have p1:qig n r.1 ((r.2.1:Int)+1) b m:=⟨⟨by omega,by omega,by omega,by omega⟩,by omega,by omega,hm,hm2,by rw[ec1];exact q5c P⟩;obtain ⟨s1,i1⟩:=hV (r.1,(r.2.1:Int)+1,b,m,()) p1;rw[show ((r.1,(r.2.1:Int)+1,b,m,()):DI Kpdq).2.1=(r.2.1:Int)+1 from rfl,ec1] at s1 i1;have l2:=s1.len;obtain ⟨y,⟨y1,y2⟩,y3⟩:=IH (V (r.1,(r.2.1:Int)+1,b,m,())) a (r.2.1:Int) m (decide (i6 ((i6 (b-a)).tdiv 8)<=i6 (b-(r.2.1:Int)))) r.2.2 ⟨by omega,by omega,by omega,by rw[l2];show r.1.length=n0;omega,hl,by omega,hm,hm2,by rw[ec];exact q5a ho P (by omega) s1⟩;rw[ec] at y1 y2;exact ⟨y,ptR P (by omega) s1 i1 y1 y2,hz.symm,pp,by decide,bcF (decide_eq_false c) ⟨by omega,p1,y3⟩⟩
theorem quq {V:DI Kpdq->List Int} {n n0 k:Nat} (hV:∀ x:DI Kpdq,qig n x.1 x.2.1 x.2.2.1 x.2.2.2.1->SrtS x.1 x.2.1 x.2.2.1 (V x)) (hn:k<n) (h50:n<=49) (IH:Goes V n n0 k) {z:List Int} {a b p m:Int} (H:PqH n0 (k+1) z a b m) (h1:a<=p) (h2:p<b) (w q:Bool) :
  ∃ y,SrtS z a b y/\TL V n (GD 70 Tryd.f70 (QE y)) n0 w q z a b p m:=by
 obtain ⟨t,t1,t2⟩:=q8k hV hn h50 IH H h1 h2;obtain ⟨ha,hab,hb,hz,hl,hk,hm,hm2,ho⟩:=H;unfold TL;by_cases c:0<a
 ·have w1:i6 (a-1)=a-1:=IntWalk.i64_in _ (by omega);have e1:(0+(a-1).toNat)=a.toNat-1:=by omega
  have e2:0+p.toNat=p.toNat:=by omega
  rw[w1,e1,e2];by_cases d:gtI z (a.toNat-1)<gtI z p.toNat
  ·exact ⟨t,t1,bcT (decide_eq_true c) ⟨by omega,by omega,by omega,by omega,by omega,by omega,trivial,bcF (by rw[decide_eq_true d];rfl) t2⟩⟩
  ·have pp:qd4 z a b p:=⟨ha,by omega,by omega,by omega,h1,h2⟩;have P:=q9b z a b p pp;generalize peV (z,a,b,p,())=r at P |-;have l1:=P.sw.len;have lo:=P.lo;have hi:=P.hi;have ec:((r.2:Nat):Int).toNat=r.2:=Int.toNat_natCast _;obtain ⟨y,⟨y1,y2⟩,y3⟩:=IH r.1 (r.2:Int) b m w q ⟨by omega,by omega,hb,by omega,hl,by omega,hm,hm2,by rw[ec];exact q88 P⟩;rw[ec] at y1 y2;exact ⟨y,q89 P (by omega) ho (by omega) (by omega) y1 y2,bcT (decide_eq_true c) ⟨by omega,by omega,by omega,by omega,by omega,by omega,trivial,bcT (by rw[decide_eq_false d];rfl) ⟨hz.symm,pp,y3⟩⟩⟩
 ·exact ⟨t,t1,bcF (decide_eq_false c) ⟨rfl,t2⟩⟩
theorem PqH.swp {n0 k:Nat} {z y:List Int} {a b m m':Int} (H:PqH n0 k z a b m) (s:Swp a.toNat b.toNat z y) (h1:0<=m') (h2:m'<1000):PqH n0 k y a b m':=by
 have l:=s.len;have e:=H.hz;have:=H.hb;have:=H.hab;exact ⟨H.ha,H.hab,H.hb,by omega,H.hn,H.hk,h1,h2,qtc H.ho s (by omega)⟩
theorem qko {z y x:List Int} {a b:Int} (s:Swp a.toNat b.toNat z y) (h:SrtS y a b x):SrtS z a b x:=⟨s.trans h.1,h.2⟩
theorem qtf {V:DI Kpdq->List Int} {n n0 k:Nat} (cx:CxOK Tryd.prog tt G0 (CPq V n)) {z:List Int} {a b m:Int} {w q:Bool} (H:PqH n0 k z a b m) (h:b-a<=12) :
  ∃ y,SrtS z a b y/\GD 70 Tryd.f70 (QE y) (hd Tryd.f70 0) (PQ n0 a b m w q z):=by
 obtain ⟨ha,hab,hb,rfl,hl,hk,hm,hm2,ho⟩:=H;have w1:i6 (b-a)=b-a:=IntWalk.i64_in _ (by omega);have p1:qhn z a b:=⟨ha,hab,hb,hl⟩;refine ⟨_,q9z z a b p1,?_⟩;cases w
 ·refine qae cx (qsj V n z a b m q _ _) ?_;exact bcT (decide_eq_true (by rw[w1];exact h)) ⟨rfl,p1,rfl,rfl⟩
 ·cases q
  ·refine qae cx (qnp V n z a b m _ _) ?_;exact bcT (decide_eq_true (by rw[w1];exact h)) ⟨rfl,p1,rfl,rfl⟩
  ·refine qae cx (qhe V n z a b m _ _) ?_;exact bcT (decide_eq_true (by rw[w1];exact h)) ⟨rfl,p1,rfl,rfl⟩
theorem q5q {V:DI Kpdq->List Int} {n n0 k:Nat} (cx:CxOK Tryd.prog tt G0 (CPq V n)) {z:List Int} {a b m:Int} {w q:Bool} (H:PqH n0 k z a b m) (h:12<b-a) (h50:b-a<50) (h0:m=0) :
  ∃ y,SrtS z a b y/\GD 70 Tryd.f70 (QE y) (hd Tryd.f70 0) (PQ n0 a b m w q z):=by
 obtain ⟨ha,hab,hb,rfl,hl,hk,hm,hm2,ho⟩:=H;have w1:i6 (b-a)=b-a:=IntWalk.i64_in _ (by omega);have p1:preS z a b:=⟨⟨ha,hab,hb,hl⟩,h,h50⟩;have f1:decide (i6 (b-a)<=12)=false:=decide_eq_false (by rw[w1];omega);refine ⟨_,q91 z a b p1,?_⟩;cases w
 ·refine qae cx (qsj V n z a b m q _ _) ?_;exact bcF f1 (bcT (decide_eq_true h0) ⟨rfl,p1,rfl,rfl⟩)
 ·cases q
  ·refine qae cx (qnp V n z a b m _ _) ?_;exact bcF f1 (bcT (decide_eq_true h0) ⟨rfl,p1,rfl,rfl⟩)
  ·refine qae cx (qhe V n z a b m _ _) ?_;exact bcF f1 (bcT (decide_eq_true h0) ⟨rfl,p1,rfl,rfl⟩)
theorem pivW {a b c:Int} (ha:0<=a) (hb:b<1073741824) (h1:a<=c) (h2:c<b):a<=i6 (i6 (b-1)-i6 (c-a))/\i6 (i6 (b-1)-i6 (c-a))<b:=by
 have w1:i6 (b-1)=b-1:=IntWalk.i64_in _ (by omega);have w2:i6 (c-a)=c-a:=IntWalk.i64_in _ (by omega);have w3:i6 (b-1-(c-a))=b-1-(c-a):=IntWalk.i64_in _ (by omega);rw[w1,w2,w3];omega
theorem q5o {V:DI Kpdq->List Int} {n n0 k:Nat} (cx:CxOK Tryd.prog tt G0 (CPq V n)) (hV:∀ x:DI Kpdq,qig n x.1 x.2.1 x.2.2.1 x.2.2.2.1->SrtS x.1 x.2.1 x.2.2.1 (V x)) (hn:k<n) (h50:n<=49) (IH:Goes V n n0 k):Goes V n n0 (k+1):=by
 intro z a b m w q H;by_cases c12:b-a<=12
 ·exact qtf cx H c12
 have c12:12<b-a:=by omega
 have hk:=H.hk;have c50:b-a<50:=by omega
 by_cases c0:m=0
 ·exact q5q cx H c12 c50 c0
 have ha:=H.ha;have hb:=H.hb;have hl:=H.hn;have hm:=H.hm;have hm2:=H.hm2;have w1:i6 (b-a)=b-a:=IntWalk.i64_in _ (by omega);have f1:decide (i6 (b-a)<=12)=false:=decide_eq_false (by rw[w1];omega);have f2:decide (m=0)=false:=decide_eq_false c0;have pS:∀ y:List Int,y.length=n0->preS y a b:=fun y e=>⟨⟨ha,by omega,by omega,by omega⟩,c12,c50⟩
 have wm:i6 (m-1)=m-1:=IntWalk.i64_in _ (by omega);have hz:=H.hz;have p0:=pS z hz;cases w
 ·have s1:=zag z a b p0;have e1:=s1.len;have p1:=pS _ (e1.trans hz);obtain ⟨q1,q2⟩:=q3v _ a b p1;have H1:=H.swp s1 (m':=i6 (m-1)) (by rw[wm];omega) (by rw[wm];omega);by_cases d:(chV (bpV (z,a,b,()),a,b,())).2=2
  ·have s2:=qws _ a b p1.1;obtain ⟨r1,r2⟩:=pivW ha (by omega) q1 q2;obtain ⟨y,y1,y2⟩:=quq hV hn h50 IH (H1.swp s2 H1.hm H1.hm2) r1 r2 false q;refine ⟨y,qko (s1.trans s2) y1,?_⟩;subst hz;refine qae cx (qsj V n z a b m q _ _) ?_;exact bcF f1 (bcF f2 ⟨rfl,p0,e1.symm,p1,bcT (decide_eq_true d) ⟨e1.symm,p1.1,rfl,rfl,y2⟩⟩)
  ·obtain ⟨y,y1,y2⟩:=quq hV hn h50 IH H1 q1 q2 false q;refine ⟨y,qko s1 y1,?_⟩;subst hz;refine qae cx (qsj V n z a b m q _ _) ?_;exact bcF f1 (bcF f2 ⟨rfl,p0,e1.symm,p1,bcF (decide_eq_false d) ⟨rfl,rfl,y2⟩⟩)
 ·obtain ⟨q1,q2⟩:=q3v _ a b p0;cases q
  ·by_cases d:(chV (z,a,b,())).2=2
   ·have s2:=qws _ a b p0.1;obtain ⟨r1,r2⟩:=pivW ha (by omega) q1 q2;obtain ⟨y,y1,y2⟩:=quq hV hn h50 IH (H.swp s2 hm hm2) r1 r2 true false;refine ⟨y,qko s2 y1,?_⟩;subst hz;refine qae cx (qnp V n z a b m _ _) ?_;exact bcF f1 (bcF f2 ⟨rfl,p0,bcT (decide_eq_true d) ⟨rfl,p0.1,rfl,y2⟩⟩)
   ·obtain ⟨y,y1,y2⟩:=quq hV hn h50 IH H q1 q2 true false;refine ⟨y,y1,?_⟩;subst hz;refine qae cx (qnp V n z a b m _ _) ?_;exact bcF f1 (bcF f2 ⟨rfl,p0,bcF (decide_eq_false d) ⟨rfl,y2⟩⟩)
  ·by_cases d:(chV (z,a,b,())).2=2
   ·have s2:=qws _ a b p0.1;have e2:=s2.len;have p2:=pS _ (e2.trans hz);obtain ⟨r1,r2⟩:=pivW ha (by omega) q1 q2;by_cases g:piV (rvV (z,a,b,()),a,b,())=true
    ·refine ⟨_,⟨s2,q28 _ a b p2 g⟩,?_⟩;subst hz;refine qae cx (qhe V n z a b m _ _) ?_;exact bcF f1 (bcF f2 ⟨rfl,p0,bcT (decide_eq_true d) ⟨rfl,p0.1,e2.symm,p2,bcT g ⟨rfl,rfl⟩⟩⟩)
    ·obtain ⟨y,y1,y2⟩:=quq hV hn h50 IH (H.swp s2 hm hm2) r1 r2 true true;refine ⟨y,qko s2 y1,?_⟩;subst hz;refine qae cx (qhe V n z a b m _ _) ?_;exact bcF f1 (bcF f2 ⟨rfl,p0,bcT (decide_eq_true d) ⟨rfl,p0.1,e2.symm,p2,bcF (Bool.eq_false_iff.mpr g) y2⟩⟩)
   ·obtain ⟨t,t1,t2⟩:=quq hV hn h50 IH H q1 q2 true true;by_cases d1:(chV (z,a,b,())).2=1
    ·by_cases g:piV (z,a,b,())=true
     ·refine ⟨_,⟨.refl,q28 _ a b p0 g⟩,?_⟩;subst hz;refine qae cx (qhe V n z a b m _ _) ?_;exact bcF f1 (bcF f2 ⟨rfl,p0,bcF (decide_eq_false d) (bcT (decide_eq_true d1) ⟨rfl,p0,bcT g ⟨rfl,rfl⟩⟩)⟩)
     ·refine ⟨t,t1,?_⟩;subst hz;refine qae cx (qhe V n z a b m _ _) ?_;exact bcF f1 (bcF f2 ⟨rfl,p0,bcF (decide_eq_false d) (bcT (decide_eq_true d1) ⟨rfl,p0,bcF (Bool.eq_false_iff.mpr g) t2⟩)⟩)
    ·refine ⟨t,t1,?_⟩;subst hz;refine qae cx (qhe V n z a b m _ _) ?_;exact bcF f1 (bcF f2 ⟨rfl,p0,bcF (decide_eq_false d) (bcF (decide_eq_false d1) t2)⟩)
theorem qxj {V:DI Kpdq->List Int} {n n0:Nat} (cx:CxOK Tryd.prog tt G0 (CPq V n)) (hV:∀ x:DI Kpdq,qig n x.1 x.2.1 x.2.2.1 x.2.2.2.1->SrtS x.1 x.2.1 x.2.2.1 (V x)) (h50:n<=49):∀ k,k<=n->Goes V n n0 k
 | 0,_=>fun _ _ _ _ _ _ H=>qtf cx H (by have:=H.hk;omega)
 | k+1,h=>q5o cx hV (by omega) h50 (qxj cx hV h50 k (by omega))
theorem q7z (V:DI Kpdq->List Int) (n:Nat) (l:List Int) (a b m:Int) (Q:QT) (R:RT):sy tt G0 (CPq V n) Tryd.f70.ntmps Tryd.f70.results.toList Q (fun it S=>R it (qar [0,1,2,3,8,9] [BIG] S)) 1000 [.code (qaf Tryd.f70)] (qao Kpdq (l,a,b,m,())) =
  (R (hd Tryd.f70 0) { env:=[(0,.win true iI BIG 0 l.length),(1,.int .i64 a),(2,.int .i64 b),(3,.int .i64 m),(8,.bool true),(9,.bool true)],blk:=[(BIG,.row 3 iI l)] }):=by kernel_rfl
theorem qh4 {l:List Int} {j:Nat} (h:j+1<l.length) (i:Nat):gtI (swp l j) i=if i=j then gtI l (j+1) else if i=j+1 then gtI l j else gtI l i:=by
 unfold swp;rw[qdq (by rw[List.length_set];omega)];split
 ·rfl
 ·rw[qdq h]
def inI' (n:Nat) (l:List Int) (x:Int):Prop:=∃ i,i<n/\gtI l i=x
theorem q8o {l:List Int} {j:Nat} (h:j+1<l.length) (x:Int):inI' l.length (swp l j) x↔inI' l.length l x:=by
 constructor
 ·rintro ⟨i,hi,e⟩;rw[qh4 h] at e;split at e
  ·exact ⟨j+1,h,e⟩
  ·split at e
   ·exact ⟨j,by omega,e⟩
   ·exact ⟨i,hi,e⟩
 ·rintro ⟨i,hi,e⟩;by_cases h1:i=j
  ·exact ⟨j+1,h,by rw[qh4 h,if_neg (by omega),if_pos rfl,<- h1];exact e⟩
  ·by_cases h2:i=j+1
   ·exact ⟨j,by omega,by rw[qh4 h,if_pos rfl,<- h2];exact e⟩
   ·exact ⟨i,hi,by rw[qh4 h,if_neg h1,if_neg h2];exact e⟩
def srt (m:Nat) (l:List Int):Prop:=∀ a b,a<b->b<m->gtI l a<=gtI l b
theorem qwo {m:Nat}:∀ (j:Nat) (l:List Int),j<m->m<=l.length->(∀ a b,a<b->b<m->a≠j->b≠j->gtI l a<=gtI l b)->(∀ b,j<b->b<m->gtI l j<=gtI l b) ->
  srt m (qhh j l)/\(∀ x,inI' l.length (qhh j l) x↔inI' l.length l x)/\∀ i,m<=i->gtI (qhh j l) i=gtI l i
 | 0,l,hj,hm,h1,h2=>by
  refine ⟨fun a b hab hb=>?_,fun x=>Iff.rfl,fun i _=>rfl⟩;by_cases ha:a=0
  ·subst ha;exact h2 b hab hb
  ·exact h1 a b hab hb ha (by omega)
 | j+1,l,hj,hm,h1,h2=>by
  rw[qhh];split
  ·rename_i hlt;have hjl:j+1<l.length:=by omega
   obtain ⟨r1,r2,r3⟩:=qwo (m:=m) j (swp l j) (by omega) (by rw[qk3];exact hm)
    (fun a b hab hb ha hb'=>by
     rw[qh4 hjl,qh4 hjl,if_neg ha,if_neg hb'];by_cases e1:a=j+1
     ·rw[if_pos e1,if_neg (by omega)];exact h1 j b (by omega) hb (by omega) (by omega)
     ·rw[if_neg e1];by_cases e2:b=j+1
      ·rw[if_pos e2];exact h1 a j (by omega) (by omega) e1 (by omega)
      ·rw[if_neg e2];exact h1 a b hab hb e1 e2)
    (fun b hb hbm=>by
     rw[qh4 hjl,qh4 hjl,if_pos rfl,if_neg (by omega)];by_cases e2:b=j+1
     ·rw[if_pos e2];omega
     ·rw[if_neg e2];exact h2 b (by omega) hbm)
   rw[qk3] at r2;exact ⟨r1,fun x=>(r2 x).trans (q8o hjl x),fun i hi=>by rw[r3 i hi,qh4 hjl,if_neg (by omega),if_neg (by omega)]⟩
  ·rename_i hlt;refine ⟨fun a b hab hb=>?_,fun x=>Iff.rfl,fun i _=>rfl⟩;by_cases ha:a=j+1
   ·subst ha;exact h2 b hab hb
   ·by_cases hb':b=j+1
    ·subst hb';by_cases e:a=j
     ·subst e;omega
     ·have:=h1 a j (by omega) (by omega) ha (by omega);omega
    ·exact h1 a b hab hb ha hb'
theorem q3l:∀ (k i:Nat) (l:List Int),i+k<=l.length->1<=i->srt i l->srt (i+k) (insF k i l)/\(∀ x,inI' l.length (insF k i l) x↔inI' l.length l x)
 | 0,i,l,_,_,h=>⟨h,fun x=>Iff.rfl⟩
 | k+1,i,l,hl,hi,h=>by
  rw[insF];obtain ⟨s1,s2,s3⟩:=qwo (m:=i+1) i l (by omega) (by omega) (fun a b hab hb ha hb'=>h a b hab (by omega)) (fun b hb hbm=>by omega);obtain ⟨r1,r2⟩:=q3l k (i+1) (qhh i l) (by rw[qfp];omega) (by omega) s1;rw[qfp] at r2;exact ⟨by rw[show i+(k+1)=i+1+k by omega];exact r1,fun x=>(r2 x).trans (s2 x)⟩
theorem qqy (l:List Int):srt l.length (qdj l)/\∀ x,inI' l.length (qdj l) x↔inI' l.length l x:=by
 unfold qdj;by_cases h:l.length=0
 ·refine ⟨fun a b _ hb=>by omega,fun x=>?_⟩;rw[h];exact ⟨fun ⟨i,hi,_⟩=>by omega,fun ⟨i,hi,_⟩=>by omega⟩
 ·obtain ⟨r1,r2⟩:=q3l (l.length-1) 1 l (by omega) (Nat.le_refl _) (fun a b hab hb=>by omega);rw[show 1+(l.length-1)=l.length by omega] at r1;exact ⟨r1,r2⟩
theorem qsx {b:Nat}:∀ (j:Nat) (l:List Int),j<b->Swp 0 b l (qhh j l)
 | 0,_,_=>.refl
 | j+1,l,h=>by
  rw[qhh];split
  ·exact (Swp.one (j+1) j (Nat.zero_le _) h (Nat.zero_le _) (by omega)).trans (qsx j _ (by omega))
  ·exact .refl
theorem qyl {b:Nat}:∀ (k i:Nat) (l:List Int),i+k<=b->Swp 0 b l (insF k i l)
 | 0,_,_,_=>.refl
 | k+1,i,l,h=>by
  rw[insF];exact (qsx i l (by omega)).trans (qyl k (i+1) _ (by omega))
theorem qwm (l:List Int):Swp 0 l.length l (qdj l):=by
 unfold qdj;by_cases h:l.length=0
 ·rw[show l.length-1=0 by omega];exact .refl
 ·exact qyl _ _ _ (by omega)
theorem quu {l y:List Int} (s:Swp 0 l.length l y) (i:Inc y 0 l.length):y=qdj l:=by
 have ly:=s.len;have q:=qwm l;have lq:=q.len;refine List.Perm.eq_of_pairwise (le:=fun a b:Int=>a<=b) (fun a b _ _ h1 h2=>Int.le_antisymm h1 h2) ?_ ?_ ((s.perm (Nat.le_refl _)).trans (q.perm (Nat.le_refl _)).symm)
 ·refine List.pairwise_iff_getElem.mpr fun a b ha hb hab=>?_
  have:=i.le2 (i:=a) (j:=b) (Nat.zero_le _) (by omega) (by omega);rwa[qc9 ha,qc9 hb] at this
 ·refine List.pairwise_iff_getElem.mpr fun a b ha hb hab=>?_
  have:=(qqy l).1 a b hab (by omega);rwa[qc9 ha,qc9 hb] at this
theorem bk4 (a b p:Int) (m:List Int) {blk:List (Nat × LB)} (h:lk blk BIG=some (.row 3 iI m)):∀ q∈bkKL 0 Kpdq (m,a,b,p,()),lk blk q.1=some q.2:=by
 intro q hq;simp only[bkKL,bkK,List.append_nil,List.mem_cons,List.not_mem_nil,or_false] at hq;subst hq;exact h
theorem q85 {V:DI Kpdq->List Int} {n:Nat} (cx:CxOK Tryd.prog tt G0 (CPq V n)) (hV:∀ x:DI Kpdq,qig n x.1 x.2.1 x.2.2.1 x.2.2.2.1->SrtS x.1 x.2.1 x.2.2.1 (V x)) (l:List Int) (a b m:Int) (hp:qig (n+1) l a b m) :
  ∃ y,SrtS l a b y/\GD 70 Tryd.f70 (fun rs blk=>rs=[]/\∀ p∈bkKL 0 Kpdq (y,a,b,m,()),lk blk p.1=some p.2) [.code (qaf Tryd.f70)] (qao Kpdq (l,a,b,m,())):=by
 obtain ⟨⟨h0,h1,h2,h3⟩,h4,h5,h6,h7,h8⟩:=hp;obtain ⟨y,y1,y2⟩:=qxj (n0:=l.length) cx hV (by omega) n (Nat.le_refl _) l a b m true true ⟨h0,h1,h2,rfl,h3,by omega,h6,h7,h8⟩;refine ⟨y,y1,qae cx (q7z V n l a b m _ _) ?_⟩;exact y2.post fun rs blk hq=>⟨hq.1,bk4 a b m y hq.2⟩
theorem pqC:∀ n,n<=50->∃ V:DI Kpdq->List Int,(∀ x:DI Kpdq,qig n x.1 x.2.1 x.2.2.1 x.2.2.2.1->SrtS x.1 x.2.1 x.2.2.1 (V x))/\HeldI Tryd.prog G0 70 (ctPq V n)
 | 0,_=>by
  have no:∀ x:DI Kpdq,¬ qig 0 x.1 x.2.1 x.2.2.1 x.2.2.2.1:=fun x hp=>by
   obtain ⟨⟨h0,h1,h2,h3⟩,h4,h5⟩:=hp;omega
  exact ⟨fun _=>[],fun x hp=>(no x hp).elim,fun x hp=>(no x hp).elim⟩
 | n+1,h=>by
  obtain ⟨V,hV,hh⟩:=pqC n (by omega);exact exC (qc3 (K:=Kpdq) (Y:=List Int) (pre:=fun x=>qig (n+1) x.1 x.2.1 x.2.2.1 x.2.2.2.1) (cxPq hh) (fn:=Tryd.f70) (fun x y=>SrtS x.1 x.2.1 x.2.2.1 y) (fun _=>[]) (fun x y=>(y,x.2)) rfl rfl ⟨by decide,by decide⟩ (fun _=>rfl) (fun _=>rfl) fun x hp=>q85 (cxPq hh) hV x.1 x.2.1 x.2.2.1 x.2.2.2.1 hp)
noncomputable def pqV:DI Kpdq->List Int:=Classical.choose (pqC 50 (Nat.le_refl _))
theorem q86 (l:List Int) (a b m:Int) (h:qig 50 l a b m):SrtS l a b (pqV (l,a,b,m,())):=(Classical.choose_spec (pqC 50 (Nat.le_refl _))).1 (l,a,b,m,()) h
theorem q5p:HeldI Tryd.prog G0 70 (ctPq pqV 50):=(Classical.choose_spec (pqC 50 (Nat.le_refl _))).2
noncomputable def CSo:CV:=(71,.inl ctL64)::(70,.inr (ctPq pqV 50))::[]
theorem cxSo:CxOK Tryd.prog tt G0 CSo:=(cx0.consI q5p (fn:=Tryd.f70) rfl rfl rfl).cons qqh (fn:=Tryd.f71) rfl rfl rfl
theorem q34 (l:List Int) (Q:QT) (R:RT):sy tt G0 CSo Tryd.f63.ntmps Tryd.f63.results.toList Q R 1000 [.code (qaf Tryd.f63)] (qao [rI] (l,())) =
  (ctL64.pre (IntKind.u64.wrap (l.length:Int),()) /\
 l.length=l.length /\
 (ctPq pqV 50).pre (l,(0:Int),(l.length:Int),lenV (IntKind.u64.wrap (l.length:Int)),()) /\
 Q [] [(BIG,.row 3 iI (pqV (l,(0:Int),(l.length:Int),lenV (IntKind.u64.wrap (l.length:Int)),())))]):=by kernel_rfl
theorem q8f (l:List Int) (Q:QT) (R:RT):sy tt G0 [] Tryd.f64.ntmps Tryd.f64.results.toList Q R 1000 [.code (qaf Tryd.f64)] (qao [rI] (l,())) =
  (bc (decide ((l.length:Int)<2)) (Q [.win true iI BIG 0 l.length] [(BIG,.row 3 iI l)]) (R (hd Tryd.f64 0) { env:=[(0,.win true iI BIG 0 l.length),(2,.nils),(3,.int .i64 1),(6,.win true iI BIG 0 l.length),(7,.int .i64 (l.length:Int)),(8,.bool (decide ((l.length:Int)<2)))],blk:=[(BIG,.row 3 iI l)] })):=by kernel_rfl
def q25 (l:List Int):Prop:=l.length<=49
def ctSrt:CtrI:=⟨[rI],fun x=>q25 x.1,fun _=>[],fun x=>bkKL 0 [rI] (qdj x.1,())⟩
theorem q4v (l:List Int) (hl:q25 l) (R:List Item->PS->Prop):sy tt G0 CSo Tryd.f63.ntmps Tryd.f63.results.toList (QI ctSrt (l,())) R 1000 [.code (qaf Tryd.f63)] (qao [rI] (l,())):=by
 have hl':l.length<=49:=hl;have e:IntKind.u64.wrap (l.length:Int)=l.length:=IntWalk.u64_in _ (by omega);refine (q34 l _ _).mpr ?_;rw[e];have lv:0<=lenV l.length/\lenV l.length<1000:=by
  have:=(L8[(l.length:Int).toNat]?.getD 0).toNat_lt
  show 0<=(((L8[(l.length:Int).toNat]?.getD 0).toNat:Nat):Int)/\(((L8[(l.length:Int).toNat]?.getD 0).toNat:Nat):Int)<1000
  omega
 have pp:qig 50 l 0 l.length (lenV l.length):=⟨⟨Int.le_refl _,by omega,Int.le_refl _,by omega⟩,by omega,Nat.le_refl _,lv.1,lv.2,.inl rfl⟩;have ev:pqV (l,0,(l.length:Int),lenV l.length,())=qdj l:=by
  obtain ⟨s,i⟩:=q86 l 0 l.length _ pp;exact quu (by simpa using s) (by simpa using i)
 refine ⟨(show qxc l.length from ⟨by omega,by omega⟩),rfl,pp,?_⟩;refine QI.self rfl rfl rfl ?_;intro b hb;simp only[ctSrt,bkKL,bkK,cnt,cntL,List.append_nil,List.nil_append,List.mem_append,List.mem_cons,List.mem_singleton,List.not_mem_nil,or_false] at hb;rcases hb with rfl
 show lk [(1099511627776,LB.row 3 iI (pqV (l,0,(l.length:Int),lenV l.length,())))] BIG=_
 rw[ev];rfl
theorem qz3:HeldI Tryd.prog G0 63 ctSrt:=HeldI.run cxSo (fn:=Tryd.f63) rfl rfl ⟨by decide,by decide⟩ fun x hp=>q4v x.1 hp _
open Go.IntKind(i64 u32 u8)
theorem qwd (l:List Int) (k:Int) (Q:QT) (R:RT):sy tt G0 [] Tryd.f64.ntmps Tryd.f64.results.toList Q R 1000 (hd Tryd.f64 0) ⟨[(0,.win true iI BIG 0 l.length),(3,.int .i64 k)],[(BIG,.row 3 iI l)]⟩ =
  (bc (decide (k<(l.length:Int))) (0<=k /\
 k<(l.length:Int) /\
 0+k.toNat<l.length /\
 0<=i64.wrap (k-1) /\
 i64.wrap (k-1)<(l.length:Int) /\
 0+(i64.wrap (k-1)).toNat<l.length /\
 bc (decide (gtI l (0+k.toNat)=gtI l (0+(i64.wrap (k-1)).toNat))) (0<=k /\
 k<=(l.length:Int) /\
 0+l.length<=l.length /\
 R (hd Tryd.f64 1) { env:=[(0,.win true iI BIG 0 l.length),(3,.int .i64 k),(4,.win false iI BIG (0+k.toNat) (l.length-k.toNat)),(5,.int .i64 1),(10,.int .i64 k),(11,.win true iI BIG 0 l.length),(12,.int .i64 (l.length:Int)),(13,.bool (decide (k<(l.length:Int)))),(16,.win true iI BIG 0 l.length),(17,.int .i64 k),(18,.elp iI BIG (0+k.toNat) 0),(19,.int .i64 (gtI l (0+k.toNat))),(20,.win true iI BIG 0 l.length),(21,.int .i64 k),(22,.int .i64 (i64.wrap (k-1))),(23,.elp iI BIG (0+(i64.wrap (k-1)).toNat) 0),(24,.int .i64 (gtI l (0+(i64.wrap (k-1)).toNat))),(25,.bool (decide (gtI l (0+k.toNat)=gtI l (0+(i64.wrap (k-1)).toNat)))),(26,.win true iI BIG 0 l.length),(27,.int .i64 k),(28,.win false iI BIG (0+k.toNat) (l.length-k.toNat))],blk:=[(BIG,.row 3 iI l)] }) (R (hd Tryd.f64 0) { env:=[(0,.win true iI BIG 0 l.length),(3,.int .i64 (i64.wrap (k+1))),(10,.int .i64 k),(11,.win true iI BIG 0 l.length),(12,.int .i64 (l.length:Int)),(13,.bool (decide (k<(l.length:Int)))),(14,.int .i64 k),(15,.int .i64 (i64.wrap (k+1))),(16,.win true iI BIG 0 l.length),(17,.int .i64 k),(18,.elp iI BIG (0+k.toNat) 0),(19,.int .i64 (gtI l (0+k.toNat))),(20,.win true iI BIG 0 l.length),(21,.int .i64 k),(22,.int .i64 (i64.wrap (k-1))),(23,.elp iI BIG (0+(i64.wrap (k-1)).toNat) 0),(24,.int .i64 (gtI l (0+(i64.wrap (k-1)).toNat))),(25,.bool (decide (gtI l (0+k.toNat)=gtI l (0+(i64.wrap (k-1)).toNat))))],blk:=[(BIG,.row 3 iI l)] })) (Q [.win true iI BIG 0 l.length] [(BIG,.row 3 iI l)])):=by kernel_rfl
theorem qwc (l:List Int) (lo n:Nat) (k m:Int) (Q:QT) (R:RT):sy tt G0 [] Tryd.f64.ntmps Tryd.f64.results.toList Q R 1000 (hd Tryd.f64 1) ⟨[(0,.win true iI BIG 0 l.length),(3,.int .i64 k),(4,.win false iI BIG lo n),(5,.int .i64 m)],[(BIG,.row 3 iI l)]⟩ =
  (bc (decide (m<(n:Int))) (0<=m /\
 m<(n:Int) /\
 lo+m.toNat<l.length /\
 0<=i64.wrap (m-1) /\
 i64.wrap (m-1)<(n:Int) /\
 lo+(i64.wrap (m-1)).toNat<l.length /\
 bc (decide (gtI l (lo+m.toNat)≠gtI l (lo+(i64.wrap (m-1)).toNat))) (0<=m /\
 m<(n:Int) /\
 lo+m.toNat<l.length /\
 0<=k /\
 k<(l.length:Int) /\
 0+k.toNat<l.length /\
 R (hd Tryd.f64 1) { env:=[(0,.win true iI BIG 0 l.length),(3,.int .i64 (i64.wrap (k+1))),(4,.win false iI BIG lo n),(5,.int .i64 (i64.wrap (m+1))),(29,.int .i64 m),(30,.win false iI BIG lo n),(31,.int .i64 (n:Int)),(32,.bool (decide (m<(n:Int)))),(33,.int .i64 m),(34,.int .i64 (i64.wrap (m+1))),(35,.win false iI BIG lo n),(36,.int .i64 m),(37,.elp iI BIG (lo+m.toNat) 0),(38,.int .i64 (gtI l (lo+m.toNat))),(39,.win false iI BIG lo n),(40,.int .i64 m),(41,.int .i64 (i64.wrap (m-1))),(42,.elp iI BIG (lo+(i64.wrap (m-1)).toNat) 0),(43,.int .i64 (gtI l (lo+(i64.wrap (m-1)).toNat))),(44,.bool (decide (gtI l (lo+m.toNat)≠gtI l (lo+(i64.wrap (m-1)).toNat)))),(45,.win true iI BIG 0 l.length),(46,.int .i64 k),(47,.win false iI BIG lo n),(48,.int .i64 m),(49,.elp iI BIG (lo+m.toNat) 0),(50,.int .i64 (gtI l (lo+m.toNat))),(51,.elp iI BIG (0+k.toNat) 0),(52,.int .i64 k),(53,.int .i64 (i64.wrap (k+1)))],blk:=[(BIG,.row 3 iI (l.set (0+k.toNat) (gtI l (lo+m.toNat))))] }) (R (hd Tryd.f64 1) { env:=[(0,.win true iI BIG 0 l.length),(3,.int .i64 k),(4,.win false iI BIG lo n),(5,.int .i64 (i64.wrap (m+1))),(29,.int .i64 m),(30,.win false iI BIG lo n),(31,.int .i64 (n:Int)),(32,.bool (decide (m<(n:Int)))),(33,.int .i64 m),(34,.int .i64 (i64.wrap (m+1))),(35,.win false iI BIG lo n),(36,.int .i64 m),(37,.elp iI BIG (lo+m.toNat) 0),(38,.int .i64 (gtI l (lo+m.toNat))),(39,.win false iI BIG lo n),(40,.int .i64 m),(41,.int .i64 (i64.wrap (m-1))),(42,.elp iI BIG (lo+(i64.wrap (m-1)).toNat) 0),(43,.int .i64 (gtI l (lo+(i64.wrap (m-1)).toNat))),(44,.bool (decide (gtI l (lo+m.toNat)≠gtI l (lo+(i64.wrap (m-1)).toNat))))],blk:=[(BIG,.row 3 iI l)] })) (0<=k /\
 k<=(l.length:Int) /\
 0+l.length<=l.length /\
 0+k.toNat+(l.length-k.toNat)<=l.length /\
 0<=k /\
 k<=(l.length:Int) /\
 0+l.length<=(setRow l (0+k.toNat) (List.replicate (l.length-k.toNat) iI.dflt)).length /\
 Q [.win false iI BIG 0 (k.toNat-0)] [(BIG,.row 3 iI (setRow l (0+k.toNat) (List.replicate (l.length-k.toNat) iI.dflt)))])):=by kernel_rfl
def cpJ (lo:Nat):Nat->Nat->Nat->List Int->Nat × List Int
 | 0,_,k,l=>(k,l)
 | f+1,m,k,l=>if gtI l (lo+m)≠gtI l (lo+(m-1)) then cpJ lo f (m+1) (k+1) (l.set k (gtI l (lo+m))) else cpJ lo f (m+1) k l
def cpZ (r:Nat × List Int):Bool × Nat × List Int:=(false,r.1,setRow r.2 r.1 (List.replicate (r.2.length-r.1) 0))
def cpI:Nat->Nat->List Int->Bool × Nat × List Int
 | 0,_,l=>(true,l.length,l)
 | f+1,k,l=>if gtI l k=gtI l (k-1) then cpZ (cpJ k (l.length-k-1) 1 k l) else cpI f (k+1) l
def cptV (l:List Int):Bool × Nat × List Int:=cpI (l.length-1) 1 l
abbrev QBc (r:Bool × Nat × List Int):List SV->List (Nat × LB)->Prop:=fun rs blk=>rs=[.win r.1 iI 1099511627776 0 r.2.1]/\blk=[(1099511627776,.row 3 iI r.2.2)]
abbrev cpSI (l:List Int) (k:Int):PS:=⟨[(0,.win true iI 1099511627776 0 l.length),(3,.int .i64 k)],[(1099511627776,.row 3 iI l)]⟩
abbrev cpSJ (l:List Int) (lo n:Nat) (k m:Int):PS:=⟨[(0,.win true iI 1099511627776 0 l.length),(3,.int .i64 k),(4,.win false iI 1099511627776 lo n),(5,.int .i64 m)],[(1099511627776,.row 3 iI l)]⟩
theorem q14 {lo n N:Nat} (hN:N<1073741824) (hlo:lo+n=N):∀ (f m k:Nat) (l:List Int),l.length=N->n-m=f->1<=m->k+1<=lo+m->k<=N ->
  GD 64 Tryd.f64 (QBc (cpZ (cpJ lo f m k l))) (hd Tryd.f64 1) (cpSJ l lo n k m):=by
 intro f
 induction f with
 | zero=>
  intro m k l hl hf hm hk hkN;refine qfh cx0 (qwc l lo n k m _ _) ?_;rw[decide_eq_false (by omega),bc_f];have w0:∀ a:Nat,(0:Nat)+a=a:=Nat.zero_add;simp only[Int.toNat_natCast,Nat.zero_add,Nat.sub_zero];have hs:(setRow l k (List.replicate (l.length-k) (0:Int))).length=l.length:=by
   unfold setRow;simp only[List.length_append,List.length_take,List.length_replicate,List.length_drop];omega
  have hs':l.length<=(setRow l k (List.replicate (l.length-k) iI.dflt)).length:=Nat.le_of_eq hs.symm;exact ⟨by omega,by omega,by omega,by omega,by omega,by omega,hs',rfl,rfl⟩
 | succ f ih=>
  intro m k l hl hf hm hk hkN;refine qfh cx0 (qwc l lo n k m _ _) ?_;rw[decide_eq_true (by omega),bc_t];have w1:IntKind.i64.wrap ((k:Int)+1)=((k+1:Nat):Int):=by rw[IntWalk.i64_in _ (by omega)];omega
  have w2:IntKind.i64.wrap ((m:Int)+1)=((m+1:Nat):Int):=by rw[IntWalk.i64_in _ (by omega)];omega
  have w3:IntKind.i64.wrap ((m:Int)-1)=((m-1:Nat):Int):=by rw[IntWalk.i64_in _ (by omega)];omega
  rw[w1,w2,w3];simp only[Int.toNat_natCast,Nat.zero_add];refine ⟨by omega,by omega,by omega,by omega,by omega,by omega,qap (fun h=>?_) (fun h=>?_)⟩
  ·have h:gtI l (lo+m)≠gtI l (lo+(m-1)):=of_decide_eq_true h;refine ⟨by omega,by omega,by omega,by omega,by omega,by omega,?_⟩;have nx:=ih (m+1) (k+1) (l.set k (gtI l (lo+m))) (by rw[List.length_set];exact hl) (by omega) (by omega) (by omega) (by omega);rw[cpJ,if_pos h];exact nx.only ⟨qqv List.length_set.symm,rfl,rfl,rfl,trivial⟩ ⟨rfl,trivial⟩
  ·have h:¬ gtI l (lo+m)≠gtI l (lo+(m-1)):=of_decide_eq_false h;rw[cpJ,if_neg h];exact (ih (m+1) k l hl (by omega) (by omega) (by omega) hkN).only ⟨rfl,rfl,rfl,rfl,trivial⟩ ⟨rfl,trivial⟩
theorem q15 {N:Nat} (hN:N<1073741824):∀ (f k:Nat) (l:List Int),l.length=N->N-k=f->1<=k->k<=N ->
  GD 64 Tryd.f64 (QBc (cpI f k l)) (hd Tryd.f64 0) (cpSI l k):=by
 intro f
 induction f with
 | zero=>
  intro k l hl hf h1 hk;refine qfh cx0 (qwd l k _ _) ?_;rw[decide_eq_false (by omega),bc_f];exact ⟨rfl,rfl⟩
 | succ f ih=>
  intro k l hl hf h1 hk;refine qfh cx0 (qwd l k _ _) ?_;rw[decide_eq_true (by omega),bc_t];have w1:IntKind.i64.wrap ((k:Int)+1)=((k+1:Nat):Int):=by rw[IntWalk.i64_in _ (by omega)];omega
  have w3:IntKind.i64.wrap ((k:Int)-1)=((k-1:Nat):Int):=by rw[IntWalk.i64_in _ (by omega)];omega
  rw[w1,w3];simp only[Int.toNat_natCast,Nat.zero_add];refine ⟨by omega,by omega,by omega,by omega,by omega,by omega,qap (fun h=>?_) (fun h=>?_)⟩
  ·have h:gtI l k=gtI l (k-1):=of_decide_eq_true h;refine ⟨by omega,by omega,by omega,?_⟩;rw[cpI,if_pos h];exact (q14 hN (lo:=k) (n:=l.length-k) (by omega) (l.length-k-1) 1 k l hl rfl (Nat.le_refl _) (Nat.le_refl _) hk).only ⟨rfl,rfl,rfl,rfl,trivial⟩ ⟨rfl,trivial⟩
  ·have h:¬ gtI l k=gtI l (k-1):=of_decide_eq_false h;rw[cpI,if_neg h];exact (ih (k+1) l hl (by omega) (by omega) (by omega)).only ⟨rfl,rfl,trivial⟩ ⟨rfl,trivial⟩
def q27 (l:List Int):Prop:=l.length<1073741824
def ctCpt:CtrI:=⟨[rI],fun x=>q27 x.1,fun x=>[.win (cptV x.1).1 iI 1099511627776 0 (cptV x.1).2.1],fun x=>bkKL 0 [rI] ((cptV x.1).2.2,())⟩
theorem q7d (l:List Int) (hl:q27 l):sy tt G0 [] Tryd.f64.ntmps Tryd.f64.results.toList (QI ctCpt (l,())) (Px.Good Tryd.prog tt G0 64 Tryd.f64.ntmps Tryd.f64.results.toList (QI ctCpt (l,()))) 1000 [.code (qaf Tryd.f64)] (qao [rI] (l,())):=by
 rw[q8f];have fin:∀ r,cptV l=r->QI ctCpt (l,()) [.win r.1 iI 1099511627776 0 r.2.1] [(1099511627776,.row 3 iI r.2.2)]:=by
  rintro r rfl;refine QI.self rfl rfl rfl ?_;intro b hb;simp only[ctCpt,bkKL,bkK,cnt,cntL,List.append_nil,List.nil_append,List.mem_append,List.mem_cons,List.mem_singleton,List.not_mem_nil,or_false] at hb;rcases hb with rfl
  rfl
 refine qap (fun h=>?_) (fun h=>?_)
 ·have h:(l.length:Int)<2:=of_decide_eq_true h;refine fin (true,l.length,l) ?_;unfold cptV;rw[show l.length-1=0 by omega];rfl
 ·have h:¬ (l.length:Int)<2:=of_decide_eq_false h;refine ((q15 hl (l.length-1) 1 l rfl rfl (Nat.le_refl _) (by omega)).post fun rs blk hq=>?_).only ⟨rfl,rfl,trivial⟩ ⟨rfl,trivial⟩;obtain ⟨rfl,rfl⟩:=hq;exact fin _ rfl
theorem q13:HeldI Tryd.prog G0 64 ctCpt:=HeldI.run cx0 (fn:=Tryd.f64) rfl rfl ⟨by decide,by decide⟩ fun x hp=>q7d x.1 hp
def CTg:CV:=[(64,.inr ctCpt),(63,.inr ctSrt),(50,.inr ctLkd)]
theorem cxTg:CxOK Tryd.prog tt G0 CTg:=((cx0.consI qtn (fn:=Tryd.f50) rfl rfl rfl).consI qz3 (fn:=Tryd.f63) rfl rfl rfl).consI q13 (fn:=Tryd.f64) rfl rfl rfl
abbrev KT:List AK:=[.ptr [rI]]
set_option maxRecDepth 100000
theorem q7u (l:List Int) (Q:QT) (R:RT):sy tt G0 CTg Tryd.f49.ntmps Tryd.f49.results.toList Q R 1000 [.code (qaf Tryd.f49)] (entry [.sl u4] (l,())) =
  (ctLkd.pre (l,()) /\
 R (hd Tryd.f49 0) { env:=[(0,.sl u4 l),(2,.nils),(3,.ptr 3 0),(6,.sl u4 l),(7,.fn 65 [] [.ptr 1028672 0])],blk:=[(3,.var [.nils]),(1028672,.var [.sl u4 l])] }):=by kernel_rfl
theorem q32 (o:List Int) (i:Int) (r:InT) (j:Nat) (q:Bool) (Q:AExit->Nat × Bool->PS->Prop) (R:List Item->Nat × Bool->PS->Prop):syE tt G0 CTg Tryd.f49.ntmps Y0 Q R .ready 1000 (rnd Tryd.f49 0) (j,q) (ql7 [3] [8,9] KT ySh ((o,()),()) (i,r,())) =
  (0+1<=((List.replicate 1 iI.dflt).set 0 r.2.2.2.2).length /\
 o.length=o.length /\
 0=0 /\
 o.length+(([r.2.2.2.2]:List Int)).length<2 ^ 30 /\
 8<=2 ^ 10 /\
 Q AExit.normal (j,q) { env:=[(5,.ptr 5 0),(8,.int .i64 i),(9,.agg [.int .i64 r.1,.int .i64 r.2.1,.int .i64 r.2.2.1,.int .i64 r.2.2.2.1,.int .i64 r.2.2.2.2]),(3,.ptr BIG 0),(10,.dead),(11,.ptr 5 4),(12,.int .i64 r.2.2.2.2),(13,.win true iI 13 0 1),(14,.win true iI 14 0 (o.length+(([r.2.2.2.2]:List Int)).length))],blk:=[(5,.var [.int .i64 r.1,.int .i64 r.2.1,.int .i64 r.2.2.1,.int .i64 r.2.2.2.1,.int .i64 r.2.2.2.2]),(13,.row 3 iI ((List.replicate 1 iI.dflt).set 0 r.2.2.2.2)),(14,.row 3 iI (o++([r.2.2.2.2]:List Int))),(BIG,.var [.win true iI 14 0 (o.length+(([r.2.2.2.2]:List Int)).length)])] }):=by kernel_rfl
theorem q33 (o:List Int) (j:Nat) (q:Bool) (Q:AExit->Nat × Bool->PS->Prop) (R:List Item->Nat × Bool->PS->Prop):syE tt G0 CTg Tryd.f49.ntmps Y0 Q R .fn 1000 (rfK Tryd.f49 0) (j,q) (⟨[(3,.ptr 3 0)],[(3,.var [.win true iI 1077824 0 o.length]),(1077824,.row 3 iI o)]⟩) =
  (o.length=o.length /\
 ctSrt.pre (o,()) /\
 o.length=(qdj o).length /\
 ctCpt.pre (qdj o,()) /\
 Q AExit.ret (j,q) { env:=[(2,.win (cptV (qdj o)).1 iI 1077824 0 (cptV (qdj o)).2.1),(3,.ptr 3 0),(15,.win true iI 1077824 0 o.length),(16,SV.tup []),(17,.win true iI 1077824 0 o.length),(18,.win (cptV (qdj o)).1 iI 1077824 0 (cptV (qdj o)).2.1)],blk:=[(3,.var [.win true iI 1077824 0 o.length]),(1077824,.row 3 iI (cptV (qdj o)).2.2)] }):=by kernel_rfl
theorem hdT:hd Tryd.f49 0=.code (.rangeFunc (.tmp 7) #[8,9] (rfA Tryd.f49 0) (rfB Tryd.f49 0))::rfK Tryd.f49 0:=by kernel_rfl
theorem rndT:rnd Tryd.f49 0=[.code (rfA Tryd.f49 0),.beginRound,.code (rfB Tryd.f49 0)]:=by kernel_rfl
def tgO (rs:List (Nat × InT)):List Int:=rs.map fun r=>r.2.2.2.2.2
def tgV (l:List Int):Bool × Nat × List Int:=cptV (qdj (tgO (lnk l)))
def qrc (l:List Int):Prop:=wdL l/\(lnk l).length<=49
def ctTg:Ctr:=⟨[.sl u4],fun x=>qrc x.1,fun x=>[.win false iI 0 0 (tgV x.1).2.1],fun x=>[.row 3 iI (tgV x.1).2.2]⟩
theorem qox {QL:AExit->Nat × Bool->DI KT->Prop} {g:Nat × Bool}:∀ (rs:List (Nat × InT)) (o:List Int),o.length+rs.length<2 ^ 30->QL .normal g ((o++tgO rs,()),()) ->
  qvs Tryd.prog G0 49 Tryd.f49.ntmps Y0 [3] [8,9] KT ySh (rfA Tryd.f49 0) (rfB Tryd.f49 0) QL (yL rs) g ((o,()),())
 | [],o,_,h=>by
  rw[tgO,List.map_nil,List.append_nil] at h;exact h
 | r::rs,o,hl,h=>by
  rw[List.length_cons] at hl
  show GoodE Tryd.prog G0 49 Tryd.f49.ntmps .ready Y0 _ [.code (rfA Tryd.f49 0),.beginRound,.code (rfB Tryd.f49 0)] g (ql7 [3] [8,9] KT ySh ((o,()),()) ((r.1:Int),(r.2,())))
  rw[<- rndT];refine qo0 cxTg (q32 o r.1 r.2 g.1 g.2 _ _) ⟨Nat.le_refl _,rfl,rfl,?_,by decide,?_⟩
  ·show o.length+1<2 ^ 30
   omega
  ·have k:=qox rs (o++[r.2.2.2.2.2]) (by rw[List.length_append,List.length_singleton];omega) (by rw[List.append_assoc];exact h);refine ⟨[(BIG+1,14)],((o++[r.2.2.2.2.2],()),()),⟨?_,rfl,rfl⟩,k⟩;have e:SV.win true iI 14 0 (o++[r.2.2.2.2.2]).length=SV.win true iI 14 0 (o.length+1):=by rw[List.length_append,List.length_singleton]
   refine ⟨?_,rfl,trivial⟩
   show some (LB.var [SV.win true iI 14 0 (o.length+1)])=some (LB.var [SV.win true iI 14 0 (o++[r.2.2.2.2.2]).length])
   rw[e]
theorem q48 {ct:Ctr} {x:DL ct.args} {rs:List SV} {blk:List (Nat × LB)} {e:Sh} {et:TypeId} {a k:Nat} {b:Bool} {xs:List e.D} (h:ct.out x=[.win false e 0 0 k]) (hr:ct.rows x=[.row et e xs]) (hs:rs=[.win b e a 0 k]) (hb:lk blk a=some (.row et e xs)):QC ct x rs blk:=by
 subst hs;refine ⟨fun i=>if i=0 then some a else none,?_,?_,fun i j b h1 h2=>?_,by rw[hr];rfl⟩
 ·rw[h];exact ⟨_,_,rfl,.inl ⟨b,a,rfl,rfl,fun h=>by cases h⟩,rfl⟩
 ·rw[hr];exact ⟨.inl ⟨a,rfl,hb⟩,trivial⟩
 ·simp only at h1 h2;split at h1
  ·split at h2
   ·omega
   ·cases h2
  ·cases h1
theorem q8n {l o:List Int} {g:Nat × Bool} (ho:o=tgO (lnk l)) (hl:o.length<=49) :
  GoodE Tryd.prog G0 49 Tryd.f49.ntmps .fn Y0 (endK tt G0 Tryd.f49.results.toList (QC ctTg (l,()))) (rfK Tryd.f49 0) g ⟨[(3,.ptr 3 0)],[(3,.var [.win true iI 1077824 0 o.length]),(1077824,.row 3 iI o)]⟩:=by
 refine qo0 cxTg (q33 o g.1 g.2 _ _) ⟨rfl,hl,(qfo o).symm,(show (qdj o).length<1073741824 by rw[qfo];omega),?_⟩;subst ho;exact q48 rfl rfl rfl rfl
def bkFT (x:DI KT):List (Nat × LB):=[(BIG,.var [.win true iI 0 0 x.1.1.length]),(0,.row 3 iI x.1.1)]
theorem q8m (l:List Int) (hp:qrc l):sy tt G0 CTg Tryd.f49.ntmps Tryd.f49.results.toList (QC ctTg (l,())) (Px.Good Tryd.prog tt G0 49 Tryd.f49.ntmps Tryd.f49.results.toList (QC ctTg (l,()))) 1000 [.code (qaf Tryd.f49)] (entry [.sl u4] (l,())):=by
 obtain ⟨hp1,hp2⟩:=hp;rw[q7u];refine ⟨trivial,?_⟩
 show GoodE Tryd.prog G0 49 Tryd.f49.ntmps .fn Y0 (endK tt G0 Tryd.f49.results.toList (QC ctTg (l,()))) (hd Tryd.f49 0) (0,false) _
 rw[hdT];refine GoodE.rangeF (gf:=65) (ct:=ctIt) (Ko:=KT) (xi:=((l,()),())) (x0:=(([],()),())) (ns1:=[some 1028672]) (ns2:=[some 3,none]) (tl:=[(3,.ptr 3 0)]) (bkF:=bkFT) (rF:=[(0,BIG+1)]) (d:=19) (m:=1)
  (by simp) ?_ qyj rfl rfl rfl ?_ hp1 ⟨rfl,trivial⟩ rfl ?_ (by decide) ⟨by decide,by decide,rfl⟩ rfl ?_ (by decide) ?_
 ·exact fun args w=>qc4 (fn:=Tryd.f65) rfl rfl rfl args w
 ·exact fun c hc=>by cases hc
 ·exact fun c hc=>by cases hc
 ·exact fun x hx=>⟨⟨rfl,rfl,trivial⟩,by simp[bkFT,rho,lk,BIG],fun p hp hb=>(by
   simp only[bkFT,List.mem_cons,List.not_mem_nil,or_false] at hp;rcases hp with rfl | rfl
   ·exact ⟨rfl,rfl⟩
   ·exact absurd hb (show ¬ BIG<=0 by decide)),by kernel_rfl⟩
 ·refine qox _ [] ?_ ?_
  ·show 0+(lnk l).length<2 ^ 30
   omega
  ·exact (q8n (o:=tgO (lnk l)) rfl (by rw[tgO,List.length_map];exact hp2)).only ⟨by kernel_rfl,trivial⟩ ⟨by kernel_rfl,by kernel_rfl,trivial⟩
theorem q4p:Held Tryd.prog G0 49 ctTg:=Held.run cxTg (fn:=Tryd.f49) rfl rfl ⟨by decide,by decide⟩ fun x hp=>q8m x.1 hp
def CLw:CV:=[(48,.inl ct_clone),(49,.inl ctTg),(52,.inl ctIof),(51,.inl ctDb),(50,.inr ctLkd)]
theorem cxLw:CxOK Tryd.prog tt G0 CLw:=((((cx0.consI qtn (fn:=Tryd.f50) rfl rfl rfl).cons qr5 (fn:=Tryd.f51) rfl rfl rfl).cons q1c (fn:=Tryd.f52) rfl rfl rfl).cons q4p (fn:=Tryd.f49) rfl rfl rfl).cons qni (fn:=Tryd.f48) rfl rfl rfl
abbrev KLw:List AK:=[.ptr [.dat (.sl u4)],.ptr [.row 50 u4,.row 4 .bool,.win 3 iI]]
set_option maxRecDepth 100000
theorem q77 (l:List Int) (Q:QT) (R:RT):sy tt G0 CLw Tryd.f26.ntmps Tryd.f26.results.toList Q R 1000 [.code (qaf Tryd.f26)] (entry [.sl u4] (l,())) =
  (ct_clone.pre (l,()) /\
 (0:Int)<=(l.length:Int) /\
 (l.length:Int)<=(l.length:Int) /\
 (l.length:Int)<2 ^ 24 /\
 (↑(1:Nat):Int)*(l.length:Int)<=2 ^ 48 /\
 ctTg.pre (l,()) /\
 ctLkd.pre (l,()) /\
 R (hd Tryd.f26 0) { env:=[(0,.sl u4 l),(1,.ptr 1 0),(2,.ptr 2 0),(3,.ptr 3 0),(6,.sl u4 l),(7,.win true u4 1028672 0 l.length),(8,.sl u4 l),(9,.int .i64 (l.length:Int)),(10,.win true Sh.bool 10 0 (l.length:Int).toNat),(11,.sl u4 l),(12,.win false iI 1049152 0 (tgV l).2.1),(13,.agg [.win true u4 1028672 0 l.length,.win true Sh.bool 10 0 (l.length:Int).toNat,.win false iI 1049152 0 (tgV l).2.1]),(14,.sl u4 l),(15,.fn 65 [] [.ptr 1061440 0])],blk:=[(1,.var [.sl u4 l]),(2,.var [.nils,.nils,.nils]),(3,.var [.win true u4 1028672 0 l.length,.win true Sh.bool 10 0 (l.length:Int).toNat,.win false iI 1049152 0 (tgV l).2.1]),(10,.row 4 Sh.bool (List.replicate (l.length:Int).toNat Sh.bool.dflt)),(1028672,.row 50 u4 l),(1049152,.row 3 iI (tgV l).2.2),(1061440,.var [.sl u4 l])] }):=by kernel_rfl
theorem q4i (l w:List Int) (m:List Bool) (k:Nat) (t:List Int) (i:Int) (r:InT) (j:Nat) (q:Bool) (Q:AExit->Nat × Bool->PS->Prop) (R:List Item->Nat × Bool->PS->Prop):syE tt G0 CLw Tryd.f26.ntmps Y0 Q R .ready 1000 (rnd Tryd.f26 0) (j,q) (ql7 [1,3] [16,17] KLw ySh ((l,()),((w,m,(0,k,t),()),())) (i,r,())) =
  (0<=i /\
 i<(l.length:Int) /\
 ctDb.pre (r.1,()) /\
 0+k<=t.length /\
 ctIof.pre (winL iI 0 k t,r.2.2.2.2,()) /\
 0<=i /\
 i<(w.length:Int) /\
 0+i.toNat<w.length /\
 0<=i /\
 i<(m.length:Int) /\
 0+i.toNat<m.length /\
 Q AExit.normal (j,q) { env:=[(4,.int .i64 i),(5,.ptr 5 0),(16,.int .i64 i),(17,.agg [.int .i64 r.1,.int .i64 r.2.1,.int .i64 r.2.2.1,.int .i64 r.2.2.2.1,.int .i64 r.2.2.2.2]),(1,.ptr BIG 0),(3,.ptr 1099511627777 0),(18,.ptr 1099511627777 0),(19,.win true u4 1099511627778 0 w.length),(20,.int .i64 i),(21,.sl u4 l),(22,.int .i64 i),(23,.elv u4 (gtW l i.toNat)),(24,.int .u32 (gtW l i.toNat)),(25,.ptr 5 0),(26,.int .i64 r.1),(27,.int .u32 (dbV r.1)),(28,.int .u32 (bitI BinOp.andNot u32 (gtW l i.toNat) (dbV r.1))),(29,.ptr 1099511627777 2),(30,.win false iI 1099511627780 0 k),(31,.ptr 5 4),(32,.int .i64 r.2.2.2.2),(33,.int .i64 (↑(iofV (winL iI 0 k t) r.2.2.2.2):Int)),(34,.int .u32 (u32.wrap (↑(iofV (winL iI 0 k t) r.2.2.2.2):Int))),(35,.int .u32 (bitI BinOp.or u32 (bitI BinOp.andNot u32 (gtW l i.toNat) (dbV r.1)) (u32.wrap (↑(iofV (winL iI 0 k t) r.2.2.2.2):Int)))),(36,.elp u4 1099511627778 (0+i.toNat) 0),(37,.ptr 1099511627777 1),(38,.win true Sh.bool 1099511627779 0 m.length),(39,.int .i64 i),(40,.elp Sh.bool 1099511627779 (0+i.toNat) 0)],blk:=[(5,.var [.int .i64 r.1,.int .i64 r.2.1,.int .i64 r.2.2.1,.int .i64 r.2.2.2.1,.int .i64 r.2.2.2.2]),(BIG,.var [.sl u4 l]),(1099511627777,.var [.win true u4 1099511627778 0 w.length,.win true Sh.bool 1099511627779 0 m.length,.win false iI 1099511627780 0 k]),(1099511627778,.row 50 u4 (w.set (0+i.toNat) (bitI BinOp.or u32 (bitI BinOp.andNot u32 (gtW l i.toNat) (dbV r.1)) (u32.wrap (↑(iofV (winL iI 0 k t) r.2.2.2.2):Int))))),(1099511627779,.row 4 Sh.bool (m.set (0+i.toNat) true)),(1099511627780,.row 3 iI t)] }):=by kernel_rfl
theorem q4j (w:List Int) (m:List Bool) (k:Nat) (t:List Int) (j:Nat) (q:Bool) (Q:AExit->Nat × Bool->PS->Prop) (R:List Item->Nat × Bool->PS->Prop):syE tt G0 CLw Tryd.f26.ntmps Y0 Q R .fn 1000 (rfK Tryd.f26 0) (j,q) (⟨[(2,.ptr 2 0),(3,.ptr 3 0)],[(2,.var [.nils,.nils,.nils]),(3,.var [.win true u4 1172032 0 w.length,.win true .bool 1172033 0 m.length,.win false iI 1172034 0 k]),(1172032,.row 50 u4 w),(1172033,.row 4 .bool m),(1172034,.row 3 iI t)]⟩) =
  (Q AExit.ret (j,q) { env:=[(2,.ptr 2 0),(3,.ptr 3 0),(41,.agg [.win true u4 1172032 0 w.length,.win true Sh.bool 1172033 0 m.length,.win false iI 1172034 0 k])],blk:=[(2,.var [.win true u4 1172032 0 w.length,.win true Sh.bool 1172033 0 m.length,.win false iI 1172034 0 k]),(3,.var [.win true u4 1172032 0 w.length,.win true Sh.bool 1172033 0 m.length,.win false iI 1172034 0 k]),(1172032,.row 50 u4 w),(1172033,.row 4 Sh.bool m),(1172034,.row 3 iI t)] }):=by kernel_rfl
def lfW (l lab:List Int) (i:Nat) (r:InT):Int:=bitI .or .u32 (bitI .andNot .u32 (gtW l i) (dbV r.1)) (IntKind.u32.wrap (iofV lab r.2.2.2.2:Nat))
def lfF (l lab:List Int):List (Nat × InT)->List Int->List Bool->List Int × List Bool
 | [],w,m=>(w,m)
 | r::rs,w,m=>lfF l lab rs (w.set r.1 (lfW l lab r.1 r.2)) (m.set r.1 true)
def qdc (l:List Int):List Int:=winL iI 0 (tgV l).2.1 (tgV l).2.2
def lfV (l:List Int):List Int × List Bool:=lfF l (qdc l) (lnk l) l (List.replicate l.length false)
theorem qrs (n:Nat):∀ (l:List Int) (i:Nat),i+l.length=n->∀ r∈lnkF n i l,r.1<n
 | [],_,_,r,hr=>by cases hr
 | w::l,i,h,r,hr=>by
  rw[List.length_cons] at h;rw[lnkF] at hr;split at hr
  ·rcases List.mem_cons.1 hr with rfl | hr
   ·show i<n
    omega
   ·exact qrs n l (i+1) (by omega) r hr
  ·exact qrs n l (i+1) (by omega) r hr
theorem qx7 (l:List Int):∀ r∈lnk l,r.1<l.length:=qrs l.length l 0 (Nat.zero_add _)
theorem hdLw:hd Tryd.f26 0=.code (.rangeFunc (.tmp 15) #[16,17] (rfA Tryd.f26 0) (rfB Tryd.f26 0))::rfK Tryd.f26 0:=by kernel_rfl
theorem rndLw:rnd Tryd.f26 0=[.code (rfA Tryd.f26 0),.beginRound,.code (rfB Tryd.f26 0)]:=by kernel_rfl
theorem vwin {a b c d k:Nat} (h1:a=b) (h2:c=d):some (LB.var [.win true u4 1099511627778 0 a,.win true .bool 1099511627779 0 c,.win false iI 1099511627780 0 k])=some (LB.var [.win true u4 1099511627778 0 b,.win true .bool 1099511627779 0 d,.win false iI 1099511627780 0 k]):=by rw[h1,h2]
theorem qpn {QL:AExit->Nat × Bool->DI KLw->Prop} {g:Nat × Bool} {l t:List Int} {k:Nat} (hk:k<=t.length) (hk2:k<1073741824):∀ (rs:List (Nat × InT)) (w:List Int) (m:List Bool),w.length=l.length->m.length=l.length->(∀ r∈rs,r.1<l.length) ->
  QL .normal g ((l,()),(((lfF l (winL iI 0 k t) rs w m).1,(lfF l (winL iI 0 k t) rs w m).2,(0,k,t),()),())) ->
  qvs Tryd.prog G0 26 Tryd.f26.ntmps Y0 [1,3] [16,17] KLw ySh (rfA Tryd.f26 0) (rfB Tryd.f26 0) QL (yL rs) g ((l,()),((w,m,(0,k,t),()),()))
 | [],w,m,_,_,_,h=>h
 | r::rs,w,m,hw,hm,hr,h=>by
  have h0:=hr r (List.mem_cons_self ..)
  show GoodE Tryd.prog G0 26 Tryd.f26.ntmps .ready Y0 _ [.code (rfA Tryd.f26 0),.beginRound,.code (rfB Tryd.f26 0)] g (ql7 [1,3] [16,17] KLw ySh ((l,()),((w,m,(0,k,t),()),())) ((r.1:Int),(r.2,())))
  rw[<- rndLw];have hwl:(winL iI 0 k t).length<=k:=by unfold winL;rw[List.length_take];exact Nat.min_le_left _ _
  refine qo0 cxLw (q4i l w m k t r.1 r.2 g.1 g.2 _ _) ?_;rw[Int.toNat_natCast,Nat.zero_add,Nat.zero_add];refine ⟨by omega,by omega,trivial,hk,(show qte (winL iI 0 k t) from by unfold qte;omega),by omega,by omega,by omega,by omega,by omega,by omega,?_⟩;have kx:=qpn hk hk2 rs (w.set r.1 (lfW l (winL iI 0 k t) r.1 r.2)) (m.set r.1 true) (by rw[List.length_set];exact hw) (by rw[List.length_set];exact hm) (fun x hx=>hr x (List.mem_cons_of_mem _ hx)) h;refine ⟨[],((l,()),((w.set r.1 (lfW l (winL iI 0 k t) r.1 r.2),m.set r.1 true,(0,k,t),()),())),⟨?_,rfl,rfl⟩,kx⟩;refine ⟨rfl,?_,rfl,rfl,rfl,trivial⟩;exact vwin List.length_set.symm List.length_set.symm
theorem qxv {π:Nat->Option Nat} {a a':List SV} (h:MtL π a a'):Mt π (.agg a) (.agg a'):=by simp only[Mt];exact ⟨a',rfl,h⟩
theorem qjm {π:Nat->Option Nat} {e:Sh} {i j lo n:Nat} {b:Bool} {l r:List SV} (h:π i=some j) (hl:MtL π l r):MtL π (.win false e i lo n::l) (.win b e j lo n::r):=⟨_,_,rfl,.inl ⟨b,j,rfl,h,fun h=>by cases h⟩,hl⟩
def lfT (l:List Int):List SV:=[.agg [.win false u4 0 0 (lfV l).1.length,.win false .bool 1 0 (lfV l).2.length,.win false iI 2 0 (tgV l).2.1]]
def lfR (l:List Int):List LB:=[.row 50 u4 (lfV l).1,.row 4 .bool (lfV l).2,.row 3 iI (tgV l).2.2]
def ctLw:Ctr:=⟨[.sl u4],fun x=>qrc x.1,fun x=>lfT x.1,fun x=>lfR x.1⟩
theorem qw2 {ct:Ctr} {x:DL ct.args} {rs:List SV} {blk:List (Nat × LB)} {a b c:Nat} {A B C:LB} (hab:a≠b) (hac:a≠c) (hbc:b≠c) (hA:isRow A=true) (hB:isRow B=true) (hC:isRow C=true) (hr:ct.rows x=[A,B,C])
  (hs:∀ π:Nat->Option Nat,π 0=some a->π 1=some b->π 2=some c->MtL π (ct.out x) rs) (ha:lk blk a=some A) (hb:lk blk b=some B) (hc:lk blk c=some C):QC ct x rs blk:=by
 refine ⟨fun i=>if i=0 then some a else if i=1 then some b else if i=2 then some c else none,hs _ rfl rfl rfl,?_,fun i j y h1 h2=>?_,by rw[hr];simp[hA,hB,hC]⟩
 ·rw[hr];exact ⟨.inl ⟨a,rfl,ha⟩,.inl ⟨b,rfl,hb⟩,.inl ⟨c,rfl,hc⟩,trivial⟩
 ·have key:∀ i y,(if i=0 then some a else if i=1 then some b else if i=2 then some c else none)=some y->(i=0/\y=a)\/(i=1/\y=b)\/(i=2/\y=c):=by
   intro i y h;by_cases h0:i=0
   ·rw[if_pos h0] at h;exact .inl ⟨h0,(Option.some.inj h).symm⟩
   ·rw[if_neg h0] at h;by_cases h1:i=1
    ·rw[if_pos h1] at h;exact .inr (.inl ⟨h1,(Option.some.inj h).symm⟩)
    ·rw[if_neg h1] at h;by_cases h2:i=2
     ·rw[if_pos h2] at h;exact .inr (.inr ⟨h2,(Option.some.inj h).symm⟩)
     ·rw[if_neg h2] at h;cases h
  rcases key i y h1 with ⟨p,q⟩ | ⟨p,q⟩ | ⟨p,q⟩ <;> rcases key j y h2 with ⟨r,s⟩ | ⟨r,s⟩ | ⟨r,s⟩ <;> first | omega | exact absurd (q.symm.trans s) ‹_› | exact absurd (s.symm.trans q) ‹_›
theorem q1t {tt:TT} {G:GV} {res:List ResultVar} {Q:List SV->List (Nat × LB)->Prop} {g:Nat × Bool} {S:PS} {rs:List SV} (h:rsOf tt G S res=some rs) (hq:Q rs S.blk):endK tt G res Q .ret g S:=by
 simp only[endK,h];exact hq
theorem q9r {l:List Int} {g:Nat × Bool} {w:List Int} {m:List Bool} (hw:w=(lfV l).1) (hm:m=(lfV l).2) :
  GoodE Tryd.prog G0 26 Tryd.f26.ntmps .fn Y0 (endK tt G0 Tryd.f26.results.toList (QC ctLw (l,()))) (rfK Tryd.f26 0) g ⟨[(2,.ptr 2 0),(3,.ptr 3 0)],[(2,.var [.nils,.nils,.nils]),(3,.var [.win true u4 1172032 0 w.length,.win true .bool 1172033 0 m.length,.win false iI 1172034 0 (tgV l).2.1]),(1172032,.row 50 u4 w),(1172033,.row 4 .bool m),(1172034,.row 3 iI (tgV l).2.2)]⟩:=by
 refine qo0 cxLw (q4j w m (tgV l).2.1 (tgV l).2.2 g.1 g.2 _ _) ?_;subst hw;subst hm;refine q1t (rs:=[.agg [.win true u4 1172032 0 (lfV l).1.length,.win true .bool 1172033 0 (lfV l).2.length,.win false iI 1172034 0 (tgV l).2.1]]) (by kernel_rfl) ?_;refine qw2 (ct:=ctLw) (x:=(l,())) (a:=1172032) (b:=1172033) (c:=1172034) (by decide) (by decide) (by decide) (A:=.row 50 u4 (lfV l).1) (B:=.row 4 .bool (lfV l).2) (C:=.row 3 iI (tgV l).2.2) rfl rfl rfl rfl ?_ ?_ ?_ ?_
 ·intro π h0 h1 h2;exact qio (qxv (qjm h0 (qjm h1 (qjm h2 qhs)))) qhs
 ·rfl
 ·rfl
 ·rfl
def bkFL (x:DI KLw):List (Nat × LB):=[(BIG,.var [.sl u4 x.1.1]),(BIG+1,.var [.win true u4 0 0 (List.length x.2.1.1),.win true .bool 1 0 (List.length x.2.1.2.1),.win false iI 2 x.2.1.2.2.1.1 x.2.1.2.2.1.2.1]),(0,.row 50 u4 x.2.1.1),(1,.row 4 .bool x.2.1.2.1),(2,.row 3 iI x.2.1.2.2.1.2.2)]
def x0L (l:List Int):DI KLw:=((l,()),((l,List.replicate l.length false,(0,(tgV l).2.1,(tgV l).2.2),()),()))
theorem q9q (l:List Int) (hp:qrc l) (hk:(tgV l).2.1<=(tgV l).2.2.length) (hk2:(tgV l).2.1<1073741824):sy tt G0 CLw Tryd.f26.ntmps Tryd.f26.results.toList (QC ctLw (l,())) (Px.Good Tryd.prog tt G0 26 Tryd.f26.ntmps Tryd.f26.results.toList (QC ctLw (l,()))) 1000 [.code (qaf Tryd.f26)] (entry [.sl u4] (l,())):=by
 have hp0:=hp;obtain ⟨hp1,hp2⟩:=hp;have hlen:=hp1.2;rw[q77];refine ⟨(show qxh l by unfold qxh;omega),by omega,Int.le_refl _,by omega,by omega,hp0,trivial,?_⟩
 show GoodE Tryd.prog G0 26 Tryd.f26.ntmps .fn Y0 (endK tt G0 Tryd.f26.results.toList (QC ctLw (l,()))) (hd Tryd.f26 0) (0,false) _
 rw[hdLw];refine GoodE.rangeF (gf:=65) (ct:=ctIt) (Ko:=KLw) (xi:=((l,()),())) (x0:=x0L l) (ns1:=[some 1061440]) (ns2:=[some 1,some 3,some 1028672,some 10,some 1049152]) (tl:=[(1,.ptr 1 0),(3,.ptr 3 0)]) (bkF:=bkFL) (rF:=[(0,BIG+2),(1,BIG+3),(2,BIG+4)]) (d:=42) (m:=3)
  (by simp) ?_ qyj rfl rfl rfl ?_ hp1 ⟨rfl,rfl,trivial⟩ rfl ?_ (by decide) ⟨by decide,by decide,rfl⟩ rfl ?_ (by decide) ?_
 ·exact fun args w=>qc4 (fn:=Tryd.f65) rfl rfl rfl args w
 ·exact fun c hc=>by cases hc
 ·intro c hc;have hc:c∈[l.length=l.length,(l.length:Int).toNat=(List.replicate (l.length:Int).toNat Sh.bool.dflt).length]:=hc;rcases List.mem_cons.1 hc with rfl | hc
  ·rfl
  ·rcases List.mem_cons.1 hc with rfl | hc
   ·exact List.length_replicate.symm
   ·cases hc
 ·exact fun x hx=>⟨⟨rfl,rfl,rfl,rfl,rfl,trivial⟩,by simp[bkFL,rho,lk,BIG],fun p hp hb=>(by
   simp only[bkFL,List.mem_cons,List.not_mem_nil,or_false] at hp;rcases hp with rfl | rfl | rfl | rfl | rfl
   ·exact ⟨rfl,rfl⟩
   ·exact ⟨rfl,rfl⟩
   ·exact absurd hb (show ¬ BIG<=0 by decide)
   ·exact absurd hb (show ¬ BIG<=1 by decide)
   ·exact absurd hb (show ¬ BIG<=2 by decide)),by kernel_rfl⟩
 ·refine qpn hk hk2 _ l (List.replicate l.length false) rfl List.length_replicate (qx7 l) ?_;exact (q9r (l:=l) rfl rfl).only ⟨by kernel_rfl,by kernel_rfl,trivial⟩ ⟨by kernel_rfl,by kernel_rfl,by kernel_rfl,by kernel_rfl,by kernel_rfl,trivial⟩
theorem qy5 (lo:Nat):∀ (f m k:Nat) (l:List Int),(cpJ lo f m k l).1<=k+f/\(cpJ lo f m k l).2.length=l.length
 | 0,_,_,_=>⟨Nat.le_refl _,rfl⟩
 | f+1,m,k,l=>by
  rw[cpJ];split
  ·have:=qy5 lo f (m+1) (k+1) (l.set k (gtI l (lo+m)));rw[List.length_set] at this;exact ⟨by omega,this.2⟩
  ·have:=qy5 lo f (m+1) k l;exact ⟨by omega,this.2⟩
theorem q3u:∀ (f k:Nat) (l:List Int),k+f=l.length->(cpI f k l).2.1<=l.length/\(cpI f k l).2.2.length=l.length
 | 0,_,_,_=>⟨Nat.le_refl _,rfl⟩
 | f+1,k,l,h=>by
  rw[cpI];split
  ·have:=qy5 k (l.length-k-1) 1 k l;refine ⟨?_,?_⟩
   ·show (cpJ k (l.length-k-1) 1 k l).1<=_
    omega
   ·show (setRow _ _ _).length=_
    unfold setRow;simp only[List.length_append,List.length_take,List.length_replicate,List.length_drop];omega
  ·exact q3u f (k+1) l (by omega)
theorem q7e (l:List Int):(cptV l).2.1<=l.length/\(cptV l).2.2.length=l.length:=by
 unfold cptV;by_cases h:l.length=0
 ·rw[h];exact ⟨by show l.length<=0;omega,h⟩
 ·exact q3u _ 1 l (by omega)
theorem qoy (l:List Int):(tgV l).2.1<=(lnk l).length/\(tgV l).2.2.length=(lnk l).length:=by
 have h:=q7e (qdj (tgO (lnk l)));rw[qfo,tgO,List.length_map] at h;exact h
theorem qx0:Held Tryd.prog G0 26 ctLw:=Held.run cxLw (fn:=Tryd.f26) rfl rfl ⟨by decide,by decide⟩ fun x hp=>q9q x.1 hp (by have:=qoy x.1;omega) (by have:=qoy x.1;have h2:(lnk x.1).length<=49:=hp.2;omega)
def CLo:CV:=[(48,.inl ct_clone),(54,.inl ct_lk)]
theorem cxLo:CxOK Tryd.prog tt G0 CLo:=(cx0.cons q6s (fn:=Tryd.f54) rfl rfl rfl).cons qni (fn:=Tryd.f48) rfl rfl rfl
set_option maxRecDepth 100000
theorem qzo (w:List Int) (m:List Bool) (l:List Int) (Q:QT) (R:RT):sy tt G0 CLo Tryd.f38.ntmps Tryd.f38.results.toList Q R 1000 [.code (qaf Tryd.f38)] (entry [liS] ((w,m,l),())) =
  (bc (decide ((16384:Int)<(w.length:Int))) (true=true /\
 Q [.nils,.int .i64 30] [(1,.var [.sl u4 w,.sl Sh.bool m,.sl iI l])]) (bc (bif false then true else decide ((m.length:Int)≠(w.length:Int))) (Q [.nils,.int .i64 30] [(1,.var [.sl u4 w,.sl Sh.bool m,.sl iI l])]) (ct_clone.pre (w,()) /\
 R (hd Tryd.f38 0) { env:=[(0,.agg [.sl u4 w,.sl Sh.bool m,.sl iI l]),(1,.ptr 1 0),(2,.nils),(3,.int .i64 0),(4,.win true u4 1098304 0 w.length),(9,.ptr 1 0),(10,.sl u4 w),(11,.int .i64 (w.length:Int)),(12,.bool (decide ((16384:Int)<(w.length:Int)))),(13,.bool false),(14,.ptr 1 1),(15,.sl Sh.bool m),(16,.int .i64 (m.length:Int)),(17,.ptr 1 0),(18,.sl u4 w),(19,.int .i64 (w.length:Int)),(20,.bool (decide ((m.length:Int)≠(w.length:Int)))),(21,.bool (bif false then true else decide ((m.length:Int)≠(w.length:Int)))),(22,.ptr 1 0),(23,.sl u4 w),(24,.win true u4 1098304 0 w.length),(25,.ptr 1 1),(26,.sl Sh.bool m),(27,.int .i64 (m.length:Int)),(28,.int .i64 0)],blk:=[(1,.var [.sl u4 w,.sl Sh.bool m,.sl iI l]),(1098304,.row 50 u4 w)] }))):=by kernel_rfl
theorem qou (w o:List Int) (m:List Bool) (l:List Int) (i:Nat) (Q:QT) (R:RT):sy tt G0 CLo Tryd.f38.ntmps Tryd.f38.results.toList Q (fun it S=>R it (qar [1,4,26,27,28] [1,1098304] S)) 1000 (hd Tryd.f38 0) ⟨[(1,.ptr 1 0),(4,.win true u4 1098304 0 o.length),(26,.sl .bool m),(27,.int .i64 m.length),(28,.int .i64 (i:Nat))],[(1,.var [.sl u4 w,.sl .bool m,.sl iI l]),(1098304,.row 50 u4 o)]⟩ =
  (bc (decide ((i:Int)<(m.length:Int))) ((0:Int)<=(i:Int) /\
 (i:Int)<(m.length:Int) /\
 bc (!gtM m (i:Int).toNat) (R (hd Tryd.f38 0) { env:=[(1,.ptr 1 0),(4,.win true u4 1098304 0 o.length),(26,.sl Sh.bool m),(27,.int .i64 (m.length:Int)),(28,.int .i64 (i64.wrap ((i:Int)+1)))],blk:=[(1,.var [.sl u4 w,.sl Sh.bool m,.sl iI l]),(1098304,.row 50 u4 o)] }) ((0:Int)<=(i:Int) /\
 (i:Int)<(o.length:Int) /\
 0+(i:Int).toNat<o.length /\
 ct_lk.pre (gtW o (0+(i:Int).toNat),i64.wrap ((4:Int)*(i:Int)),l,()) /\
 bc (decide ((lkV (gtW o (0+(i:Int).toNat)) (i64.wrap ((4:Int)*(i:Int))) l).2≠0)) (Q [.nils,.int .i64 (lkV (gtW o (0+(i:Int).toNat)) (i64.wrap ((4:Int)*(i:Int))) l).2] [(1,.var [.sl u4 w,.sl Sh.bool m,.sl iI l]),(1098304,.row 50 u4 o)]) ((0:Int)<=(i:Int) /\
 (i:Int)<(o.length:Int) /\
 0+(i:Int).toNat<o.length /\
 R (hd Tryd.f38 0) { env:=[(1,.ptr 1 0),(4,.win true u4 1098304 0 o.length),(26,.sl Sh.bool m),(27,.int .i64 (m.length:Int)),(28,.int .i64 (i64.wrap ((i:Int)+1)))],blk:=[(1,.var [.sl u4 w,.sl Sh.bool m,.sl iI l]),(1098304,.row 50 u4 (o.set (0+(i:Int).toNat) (lkV (gtW o (0+(i:Int).toNat)) (i64.wrap ((4:Int)*(i:Int))) l).1))] }))) (Q [.win true u4 1098304 0 o.length,.int .i64 0] [(1,.var [.sl u4 w,.sl Sh.bool m,.sl iI l]),(1098304,.row 50 u4 o)])):=by kernel_rfl
def loF (m:List Bool) (l:List Int):Nat->Nat->List Int->List Int × Int
 | 0,_,o=>(o,0)
 | f+1,i,o=>if gtM m i=true then (if (lkV (gtW o i) (4*i) l).2≠0 then ([],(lkV (gtW o i) (4*i) l).2) else loF m l f (i+1) (o.set i (lkV (gtW o i) (4*i) l).1)) else loF m l f (i+1) o
def loV (w:List Int) (m:List Bool) (l:List Int):List Int × Int:=if 16384<w.length\/m.length≠w.length then ([],30) else loF m l m.length 0 w
def q0j (w l:List Int):Prop:=(∀ j,0<=gtW w j/\gtW w j<4294967296)/\q06 l
def ctLo:Ctr:=⟨[liS],fun x=>q0j x.1.1 x.1.2.2,fun x=>[.win true u4 0 0 (List.length (loV x.1.1 x.1.2.1 x.1.2.2).1),.int .i64 (loV x.1.1 x.1.2.1 x.1.2.2).2],fun x=>[.row 50 u4 (loV x.1.1 x.1.2.1 x.1.2.2).1]⟩
theorem qx6 {w:List Int} {m:List Bool} {l:List Int} {e:Int} {blk:List (Nat × LB)} (h:loV w m l=([],e)):QC ctLo ((w,m,l),()) [.nils,.int .i64 e] blk:=by
 refine QC.nil1 (e:=u4) (et:=50) ?_ ?_ (by decide)
 ·show [SV.win true u4 0 0 (List.length (loV w m l).1),SV.int .i64 (loV w m l).2]=_
  rw[h];rfl
 ·show [LB.row 50 u4 (loV w m l).1]=_
  rw[h]
abbrev loS (w o:List Int) (m:List Bool) (l:List Int) (i:Nat):PS:=⟨[(1,.ptr 1 0),(4,.win true u4 1098304 0 o.length),(26,.sl .bool m),(27,.int .i64 m.length),(28,.int .i64 (i:Nat))],[(1,.var [.sl u4 w,.sl .bool m,.sl iI l]),(1098304,.row 50 u4 o)]⟩
theorem q66 {o:List Int} {i j:Nat} {v:Int} (h:i<j):gtW (o.set i v) j=gtW o j:=by
 show ((o.set i v)[j]?).getD _=(o[j]?).getD _
 rw[List.getElem?_set_ne (by omega)]
theorem q6n {w:List Int} {m:List Bool} {l:List Int} (hp:q0j w l) (hm:m.length<=16384):∀ (f i:Nat) (o:List Int),m.length-i=f->i<=m.length->o.length=m.length->(∀ j,i<=j->gtW o j=gtW w j)->loF m l f i o=loV w m l ->
  GD 38 Tryd.f38 (QC ctLo ((w,m,l),())) (hd Tryd.f38 0) (loS w o m l i):=by
 intro f
 induction f with
 | zero=>
  intro i o hf hi ho hj hv;refine qae cxLo (qou w o m l i _ _) ?_;rw[decide_eq_false (by omega),bc_f];have h1:(loV w m l).1=o:=by rw[<- hv];rfl
  have h2:(loV w m l).2=0:=by rw[<- hv];rfl
  refine qny (e:=u4) (et:=50) (a:=1098304) (xs:=o) (z:=0) ?_ ?_ rfl rfl rfl
  ·show [SV.win true u4 0 0 (List.length (loV w m l).1),SV.int .i64 (loV w m l).2]=_
   rw[h1,h2]
  ·show [LB.row 50 u4 (loV w m l).1]=_
   rw[h1]
 | succ f ih=>
  intro i o hf hi ho hj hv;refine qae cxLo (qou w o m l i _ _) ?_;have w1:IntKind.i64.wrap ((i:Int)+1)=((i+1:Nat):Int):=by rw[IntWalk.i64_in _ (by omega)];omega
  have w2:IntKind.i64.wrap (4*(i:Int))=4*i:=IntWalk.i64_in _ (by omega);rw[decide_eq_true (by omega),bc_t,w1,w2,Int.toNat_natCast,Nat.zero_add];rw[loF] at hv;refine ⟨by omega,by omega,qap (fun h=>?_) (fun h=>?_)⟩
  ·have h:¬ gtM m i=true:=by simpa using h
   rw[if_neg h] at hv;exact ih (i+1) o (by omega) (by omega) ho (fun j hj'=>hj j (by omega)) hv
  ·have h:gtM m i=true:=by simpa using h
   rw[if_pos h] at hv;have hw:=hp.1 i;rw[<- hj i (Nat.le_refl _)] at hw;refine ⟨by omega,by omega,by omega,(show q84 (gtW o i) (4*i) l from ⟨⟨hw,by omega,by omega⟩,hp.2⟩),qap (fun h2=>?_) (fun h2=>⟨by omega,by omega,by omega,?_⟩)⟩
   ·have h2:(lkV (gtW o i) (4*i) l).2≠0:=of_decide_eq_true h2;rw[if_pos h2] at hv;exact qx6 hv.symm
   ·have h2:¬ (lkV (gtW o i) (4*i) l).2≠0:=of_decide_eq_false h2;rw[if_neg h2] at hv;have nx:=ih (i+1) (o.set i (lkV (gtW o i) (4*i) l).1) (by omega) (by omega) (by rw[List.length_set];exact ho) (fun j hj'=>by rw[q66 (by omega)];exact hj j (by omega)) hv;exact nx.only ⟨rfl,(show some (SV.win true u4 1098304 0 o.length)=some (SV.win true u4 1098304 0 (o.set i (lkV (gtW o i) (4*i) l).1).length) by rw[List.length_set]),rfl,rfl,rfl,trivial⟩ ⟨rfl,rfl,trivial⟩
theorem q9s (w:List Int) (m:List Bool) (l:List Int) (hp:q0j w l):sy tt G0 CLo Tryd.f38.ntmps Tryd.f38.results.toList (QC ctLo ((w,m,l),())) (Px.Good Tryd.prog tt G0 38 Tryd.f38.ntmps Tryd.f38.results.toList (QC ctLo ((w,m,l),()))) 1000 [.code (qaf Tryd.f38)] (entry [liS] ((w,m,l),())):=by
 rw[qzo];refine qap (fun h=>⟨rfl,?_⟩) (fun h=>qap (fun h2=>?_) (fun h2=>?_))
 ·have h:(16384:Int)<(w.length:Int):=of_decide_eq_true h;exact qx6 (if_pos (.inl (by omega)))
 ·have h2:(m.length:Int)≠(w.length:Int):=by simpa using h2
  exact qx6 (if_pos (.inr (by omega)))
 ·have h:¬ (16384:Int)<(w.length:Int):=of_decide_eq_false h;have h2:(m.length:Int)=(w.length:Int):=by simpa using h2
  refine ⟨(show qxh w by unfold qxh;omega),?_⟩;have e:loV w m l=loF m l m.length 0 w:=if_neg (by omega);exact (q6n hp (by omega) m.length 0 w (by omega) (Nat.zero_le _) (by omega) (fun _ _=>rfl) e.symm).only ⟨rfl,rfl,rfl,rfl,rfl,trivial⟩ ⟨rfl,rfl,trivial⟩
theorem q6o:Held Tryd.prog G0 38 ctLo:=Held.run cxLo (fn:=Tryd.f38) rfl rfl ⟨by decide,by decide⟩ fun x hp=>q9s x.1.1 x.1.2.1 x.1.2.2 hp
def CLf:CV:=[(26,.inl ctLw),(25,.inl ctWo)]
theorem cxLf:CxOK Tryd.prog tt G0 CLf:=(cx0.cons qmp (fn:=Tryd.f25) rfl rfl rfl).cons qx0 (fn:=Tryd.f26) rfl rfl rfl
set_option maxRecDepth 100000
theorem q4h (b:List Int) (Q:QT) (R:RT):sy tt G0 CLf Tryd.f10.ntmps Tryd.f10.results.toList Q R 1000 [.code (qaf Tryd.f10)] (entry [.sl uB] (b,())) =
  (bc (decide ((65536:Int)<(b.length:Int))) (Q [.agg [.nils,.nils,.nils],.int .i64 30] [(2,.var [.nils,.nils,.nils])]) (ctWo.pre (b,()) /\
 bc (decide ((qah b).2≠0)) (Q [.agg [.nils,.nils,.nils],.int .i64 30] [(2,.var [.nils,.nils,.nils]),(1049152,.row 50 u4 (qah b).1)]) (0+(qah b).1.length<=(qah b).1.length /\
 ctLw.pre (winL u4 0 (qah b).1.length (qah b).1,()) /\
 Q [.agg [.win false u4 1077824 0 (lfV (winL u4 0 (qah b).1.length (qah b).1)).1.length,.win false Sh.bool 1077825 0 (lfV (winL u4 0 (qah b).1.length (qah b).1)).2.length,.win false iI 1077826 0 (tgV (winL u4 0 (qah b).1.length (qah b).1)).2.1],.int .i64 0] [(2,.var [.win false u4 1077824 0 (lfV (winL u4 0 (qah b).1.length (qah b).1)).1.length,.win false Sh.bool 1077825 0 (lfV (winL u4 0 (qah b).1.length (qah b).1)).2.length,.win false iI 1077826 0 (tgV (winL u4 0 (qah b).1.length (qah b).1)).2.1]),(1049152,.row 50 u4 (qah b).1),(1077824,.row 50 u4 (lfV (winL u4 0 (qah b).1.length (qah b).1)).1),(1077825,.row 4 Sh.bool (lfV (winL u4 0 (qah b).1.length (qah b).1)).2),(1077826,.row 3 iI (tgV (winL u4 0 (qah b).1.length (qah b).1)).2.2)]))):=by kernel_rfl
theorem qgh (l:List Int):winL u4 0 l.length l=l:=by show (l.drop 0).take l.length=l;rw[List.drop_zero,List.take_length]
structure LfT where
 w:List Int
 m:List Bool
 k:Nat
 t:List Int
 e:Int
def qag (b:List Int):LfT:=
 if 65536<b.length\/(qah b).2≠0 then ⟨[],[],0,[],30⟩ else ⟨(lfV (qah b).1).1,(lfV (qah b).1).2,(tgV (qah b).1).2.1,(tgV (qah b).1).2.2,0⟩
def qdn (b:List Int):Prop:=b.length<=65536->q5f b/\((qah b).2=0->qrc (qah b).1)
def q0p (x:LfT):List SV:=[.agg [.win false u4 0 0 x.w.length,.win false .bool 1 0 x.m.length,.win false iI 2 0 x.k],.int .i64 x.e]
def qz9 (x:LfT):List LB:=[.row 50 u4 x.w,.row 4 .bool x.m,.row 3 iI x.t]
def ctLift:Ctr:=⟨[.sl uB],fun x=>qdn x.1,fun x=>q0p (qag x.1),fun x=>qz9 (qag x.1)⟩
theorem qn9 {π:Nat->Option Nat} {e:Sh} {i:Nat} {b:Bool} {l r:List SV} (h:π i=none) (hl:MtL π l r):MtL π (.win b e i 0 0::l) (.nils::r):=⟨_,_,rfl,.inr ⟨rfl,h,rfl,rfl⟩,hl⟩
theorem qtp {b:List Int} {blk:List (Nat × LB)} (h:qag b=⟨[],[],0,[],30⟩):QC ctLift (b,()) [.agg [.nils,.nils,.nils],.int .i64 30] blk:=by
 refine ⟨fun _=>none,?_,?_,fun i j b h1 h2=>(by cases h1),rfl⟩
 ·show MtL _ (q0p (qag b)) _
  rw[h];exact qio (qxv (qn9 rfl (qn9 rfl (qn9 rfl qhs)))) (qe4 _ _ rfl)
 ·show MtR _ _ 0 (qz9 (qag b))
  rw[h];exact ⟨.inr ⟨rfl,_,_,rfl,by decide⟩,.inr ⟨rfl,_,_,rfl,by decide⟩,.inr ⟨rfl,_,_,rfl,by decide⟩,trivial⟩
theorem q02 (b:List Int) (hp:qdn b) (R:List Item->PS->Prop):sy tt G0 CLf Tryd.f10.ntmps Tryd.f10.results.toList (QC ctLift (b,())) R 1000 [.code (qaf Tryd.f10)] (entry [.sl uB] (b,())):=by
 refine (q4h b _ _).mpr ?_;rw[qgh];refine qap (fun h=>qtp (if_pos (.inl (by have h:(65536:Int)<(b.length:Int):=of_decide_eq_true h;omega)))) (fun h=>?_);have h:¬ (65536:Int)<(b.length:Int):=of_decide_eq_false h;obtain ⟨p1,p2⟩:=hp (by omega);refine ⟨p1,qap (fun h2=>qtp (if_pos (.inr (of_decide_eq_true h2)))) (fun h2=>?_)⟩;have h2:¬ (qah b).2≠0:=of_decide_eq_false h2;have e:qag b=⟨(lfV (qah b).1).1,(lfV (qah b).1).2,(tgV (qah b).1).2.1,(tgV (qah b).1).2.2,0⟩:=if_neg (by rintro (q | q);omega;exact h2 q);refine ⟨by omega,p2 (Decidable.not_not.1 h2),?_⟩;refine qw2 (ct:=ctLift) (x:=(b,())) (a:=1077824) (b:=1077825) (c:=1077826) (by decide) (by decide) (by decide) (A:=.row 50 u4 (lfV (qah b).1).1) (B:=.row 4 .bool (lfV (qah b).1).2) (C:=.row 3 iI (tgV (qah b).1).2.2) rfl rfl rfl ?_ ?_ ?_ ?_ ?_
 ·show qz9 (qag b)=_
  rw[e];rfl
 ·intro π h0 h1 h2
  show MtL π (q0p (qag b)) _
  rw[e];exact qio (qxv (qjm h0 (qjm h1 (qjm h2 qhs)))) (qe4 _ _ rfl)
 ·rfl
 ·rfl
 ·rfl
theorem qlv:Held Tryd.prog G0 10 ctLift:=Held.run cxLf (fn:=Tryd.f10) rfl rfl ⟨by decide,by decide⟩ fun x hp=>q02 x.1 hp _
def CLr:CV:=[(38,.inl ctLo),(26,.inl ctLw),(39,.inl ct_same),(40,.inl ctBy)]
theorem cxLr:CxOK Tryd.prog tt G0 CLr:=(((cx0.cons qnj (fn:=Tryd.f40) rfl rfl rfl).cons qwr (fn:=Tryd.f39) rfl rfl rfl).cons qx0 (fn:=Tryd.f26) rfl rfl rfl).cons q6o (fn:=Tryd.f38) rfl rfl rfl
set_option maxRecDepth 100000
theorem qzv (w:List Int) (m:List Bool) (l:List Int) (Q:QT) (R:RT):sy tt G0 CLr Tryd.f14.ntmps Tryd.f14.results.toList Q R 1000 [.code (qaf Tryd.f14)] (entry [liS] ((w,m,l),())) =
  (ctLo.pre ((w,m,l),()) /\
 bc (decide ((loV w m l).2≠0)) (true=true /\
 Q [.nils,.int .i64 30] [(1,.var [.sl u4 w,.sl Sh.bool m,.sl iI l]),(1032768,.row 50 u4 (loV w m l).1)]) (0+(loV w m l).1.length<=(loV w m l).1.length /\
 ctLw.pre (winL u4 0 (loV w m l).1.length (loV w m l).1,()) /\
 0+(lfV (winL u4 0 (loV w m l).1.length (loV w m l).1)).1.length<=(lfV (winL u4 0 (loV w m l).1.length (loV w m l).1)).1.length /\
 0+(lfV (winL u4 0 (loV w m l).1.length (loV w m l).1)).2.length<=(lfV (winL u4 0 (loV w m l).1.length (loV w m l).1)).2.length /\
 0+(tgV (winL u4 0 (loV w m l).1.length (loV w m l).1)).2.1<=(tgV (winL u4 0 (loV w m l).1.length (loV w m l).1)).2.2.length /\
 ct_same.pre ((winL u4 0 (lfV (winL u4 0 (loV w m l).1.length (loV w m l).1)).1.length (lfV (winL u4 0 (loV w m l).1.length (loV w m l).1)).1,winL Sh.bool 0 (lfV (winL u4 0 (loV w m l).1.length (loV w m l).1)).2.length (lfV (winL u4 0 (loV w m l).1.length (loV w m l).1)).2,winL iI 0 (tgV (winL u4 0 (loV w m l).1.length (loV w m l).1)).2.1 (tgV (winL u4 0 (loV w m l).1.length (loV w m l).1)).2.2),(w,m,l),()) /\
 bc (bif false then true else !decide ((have this:=(winL u4 0 (lfV (winL u4 0 (loV w m l).1.length (loV w m l).1)).1.length (lfV (winL u4 0 (loV w m l).1.length (loV w m l).1)).1,winL Sh.bool 0 (lfV (winL u4 0 (loV w m l).1.length (loV w m l).1)).2.length (lfV (winL u4 0 (loV w m l).1.length (loV w m l).1)).2,winL iI 0 (tgV (winL u4 0 (loV w m l).1.length (loV w m l).1)).2.1 (tgV (winL u4 0 (loV w m l).1.length (loV w m l).1)).2.2);this)=(w,m,l))) (Q [.nils,.int .i64 30] [(1,.var [.sl u4 w,.sl Sh.bool m,.sl iI l]),(1032768,.row 50 u4 (loV w m l).1),(1061440,.row 50 u4 (lfV (winL u4 0 (loV w m l).1.length (loV w m l).1)).1),(1061441,.row 4 Sh.bool (lfV (winL u4 0 (loV w m l).1.length (loV w m l).1)).2),(1061442,.row 3 iI (tgV (winL u4 0 (loV w m l).1.length (loV w m l).1)).2.2)]) (0+(loV w m l).1.length<=(loV w m l).1.length /\
 ctBy.pre (winL u4 0 (loV w m l).1.length (loV w m l).1,()) /\
 Q [.win true uB 1086016 0 (qa1 (winL u4 0 (loV w m l).1.length (loV w m l).1)).length,.int .i64 0] [(1,.var [.sl u4 w,.sl Sh.bool m,.sl iI l]),(1032768,.row 50 u4 (loV w m l).1),(1061440,.row 50 u4 (lfV (winL u4 0 (loV w m l).1.length (loV w m l).1)).1),(1061441,.row 4 Sh.bool (lfV (winL u4 0 (loV w m l).1.length (loV w m l).1)).2),(1061442,.row 3 iI (tgV (winL u4 0 (loV w m l).1.length (loV w m l).1)).2.2),(1086016,.row 5 uB (qa1 (winL u4 0 (loV w m l).1.length (loV w m l).1)))]))):=by kernel_rfl
theorem qh1 (l:List Bool):winL Sh.bool 0 l.length l=l:=by show (l.drop 0).take l.length=l;rw[List.drop_zero,List.take_length]
def qvd (l:List Int):LiT:=((lfV l).1,(lfV l).2,qdc l)
theorem qyd (l lab:List Int):∀ (rs:List (Nat × InT)) (w:List Int) (m:List Bool),(lfF l lab rs w m).1.length=w.length/\(lfF l lab rs w m).2.length=m.length
 | [],_,_=>⟨rfl,rfl⟩
 | r::rs,w,m=>by
  have:=qyd l lab rs (w.set r.1 (lfW l lab r.1 r.2)) (m.set r.1 true);rw[List.length_set,List.length_set] at this;exact this
theorem qya (l:List Int):(lfV l).1.length=l.length/\(lfV l).2.length=l.length:=by
 have:=qyd l (qdc l) (lnk l) l (List.replicate l.length false);rw[List.length_replicate] at this;exact this
theorem qyg (l:List Int):(qdc l).length<=(lnk l).length:=by
 show (((tgV l).2.2.drop 0).take (tgV l).2.1).length<=_
 rw[List.length_take];have:=qoy l;omega
def qbh (w:List Int) (m:List Bool) (l:List Int):List Int × Int:=
 if (loV w m l).2≠0\/qvd (loV w m l).1≠(w,m,l) then ([],30) else (qa1 (loV w m l).1,0)
def qgo (w:List Int) (m:List Bool) (l:List Int):Prop:=q0j w l/\((loV w m l).2=0->qrc (loV w m l).1)
def ctLower:Ctr:=⟨[liS],fun x=>qgo x.1.1 x.1.2.1 x.1.2.2,fun x=>[.win true uB 0 0 (List.length (qbh x.1.1 x.1.2.1 x.1.2.2).1),.int .i64 (qbh x.1.1 x.1.2.1 x.1.2.2).2],fun x=>[.row 5 uB (qbh x.1.1 x.1.2.1 x.1.2.2).1]⟩
theorem qpo {w:List Int} {m:List Bool} {l:List Int} {blk:List (Nat × LB)} (h:qbh w m l=([],30)):QC ctLower ((w,m,l),()) [.nils,.int .i64 30] blk:=by
 refine QC.nil1 (e:=uB) (et:=5) ?_ ?_ (by decide)
 ·show [SV.win true uB 0 0 (List.length (qbh w m l).1),SV.int .i64 (qbh w m l).2]=_
  rw[h];rfl
 ·show [LB.row 5 uB (qbh w m l).1]=_
  rw[h]
theorem qx2 (w:List Int) (m:List Bool) (l:List Int) (hp:qgo w m l) (R:List Item->PS->Prop):sy tt G0 CLr Tryd.f14.ntmps Tryd.f14.results.toList (QC ctLower ((w,m,l),())) R 1000 [.code (qaf Tryd.f14)] (entry [liS] ((w,m,l),())):=by
 obtain ⟨p1,p2⟩:=hp;refine (qzv w m l _ _).mpr ?_;rw[qgh,qgh,qh1];refine ⟨p1,qap (fun h=>⟨rfl,qpo (if_pos (.inl (of_decide_eq_true h)))⟩) (fun h=>?_)⟩;have h:(loV w m l).2=0:=Decidable.not_not.1 (of_decide_eq_false h);have hq:=p2 h;have hn:=hq.1.2;have l1:=qya (loV w m l).1;have l2:=qyg (loV w m l).1;have l3:=qoy (loV w m l).1;have l4:=hq.2;have l5:(qdc (loV w m l).1).length<1099511627776:=by omega
 have l6:(lfV (loV w m l).1).1.length<1099511627776:=by omega
 have l7:(lfV (loV w m l).1).2.length<1099511627776:=by omega
 refine ⟨by omega,hq,by omega,by omega,by omega,(show qxb (qvd (loV w m l).1) from ⟨l6,l7,l5⟩),?_⟩
 show bc (bif false then true else !decide (qvd (loV w m l).1=(w,m,l))) _ _
 refine qap (fun h2=>?_) (fun h2=>?_)
 ·have h2:¬ qvd (loV w m l).1=(w,m,l):=by
   intro q;rw[decide_eq_true q] at h2;cases h2
  exact qpo (if_pos (.inr h2))
 ·have h2:qvd (loV w m l).1=(w,m,l):=by
   by_cases q:qvd (loV w m l).1=(w,m,l)
   ·exact q
   ·rw[decide_eq_false q] at h2;cases h2
  refine ⟨by omega,(show (loV w m l).1.length<4194304 by omega),?_⟩;have e:qbh w m l=(qa1 (loV w m l).1,0):=if_neg (by rintro (q | q);exact q h;exact q h2);refine qny (e:=uB) (et:=5) (a:=1086016) (xs:=qa1 (loV w m l).1) (z:=0) ?_ ?_ rfl rfl rfl
  ·show [SV.win true uB 0 0 (List.length (qbh w m l).1),SV.int .i64 (qbh w m l).2]=_
   rw[e]
  ·show [LB.row 5 uB (qbh w m l).1]=_
   rw[e]
theorem qjo:Held Tryd.prog G0 14 ctLower:=Held.run cxLr (fn:=Tryd.f14) rfl rfl ⟨by decide,by decide⟩ fun x hp=>qx2 x.1.1 x.1.2.1 x.1.2.2 hp _
def ct_mvw:Ctr:=⟨[.sl iI,iI,iI],fun x=>q5k x.1,fun x=>[.win true iI 0 0 (List.map (mvF x.2.1 x.2.2.1) x.1).length],fun x=>[.row 3 iI (List.map (mvF x.2.1 x.2.2.1) x.1)]⟩
section
variable (l:List Int) (f b:Int)
theorem q0t (hl:l.length<16777216):∀ (k i:Nat),l.length-i=k->i<=l.length ->
  GD 36 Tryd.f36 (QC ct_mvw (l,f,b,())) (hd Tryd.f36 0) ⟨[(1,.int .i64 f),(2,.int .i64 b),(7,.win true iI 7 0 ((l.take i).map (mvF f b)).length),(10,.sl iI l),(11,.int .i64 l.length),(12,.int .i64 (i:Nat))],[(7,.row 3 iI ((l.take i).map (mvF f b)))]⟩:=by
 intro k
 induction k with
 | zero=>
  intro i hk hi;have hi:i=l.length:=by omega
  subst hi;rw[List.take_length];refine qae cx0 (qv5 l (l.map (mvF f b)) f b l.length _ _) ?_;rw[decide_eq_false (by omega),bc_f];exact qid (e:=iI) (et:=3) (a:=7) (xs:=l.map (mvF f b)) rfl rfl rfl rfl rfl
 | succ k ih=>
  intro i hk hi;have hil:i<l.length:=by omega
  have nx:=ih (i+1) (by omega) (by omega);rw[List.take_succ_eq_append_getElem hil,List.map_append] at nx;have hlen:((l.take i).map (mvF f b)).length=i:=by rw[List.length_map,List.length_take];omega
  refine qae cx0 (qv5 l ((l.take i).map (mvF f b)) f b i _ _) ?_;rw[decide_eq_true (show (i:Int)<(l.length:Int) by omega),bc_t,Int.toNat_natCast,qc9 hil,IntWalk.i64_in ((i:Int)+1) (by omega)];have h30:((l.take i).map (mvF f b)).length+1<2 ^ 30:=by omega
  refine ⟨by omega,by omega,qap (fun h=>?_) (fun h=>?_)⟩
  ·have e:mvF f b l[i]=IntKind.i64.wrap (l[i]+b):=if_pos (of_decide_eq_true h);simp only[List.map_cons,List.map_nil,e] at nx;exact ⟨Nat.le_refl 1,rfl,rfl,h30,by decide,nx.onlyR [(7,25)] rfl ⟨rfl,rfl,by rw[List.length_append];rfl,rfl,rfl,rfl,trivial⟩ ⟨rfl,trivial⟩⟩
  ·have e:mvF f b l[i]=l[i]:=if_neg (of_decide_eq_false h);simp only[List.map_cons,List.map_nil,e] at nx;exact ⟨Nat.le_refl 1,rfl,rfl,h30,by decide,nx.onlyR [(7,25)] rfl ⟨rfl,rfl,by rw[List.length_append];rfl,rfl,rfl,rfl,trivial⟩ ⟨rfl,trivial⟩⟩
theorem q0u (hl:l.length<16777216):GD 36 Tryd.f36 (QC ct_mvw (l,f,b,())) (hd Tryd.f36 0) ⟨[(1,.int .i64 f),(2,.int .i64 b),(7,.nils),(10,.sl iI l),(11,.int .i64 l.length),(12,.int .i64 0)],[]⟩:=by
 refine qae cx0 (q4d l f b 0 _ _) ?_;refine qap (fun h=>?_) (fun h=>?_)
 ·have h:0<l.length:=by have:=of_decide_eq_true h;omega
  have nx:=q0t l f b hl _ 1 rfl (by omega);have e1:l.take 1=[l[0]]:=by
   rw[List.take_succ_eq_append_getElem h];rfl
  rw[e1] at nx;rw[Int.toNat_natCast,qc9 h,IntWalk.i64_in (((0:Nat):Int)+1) (by omega)];refine ⟨by omega,by omega,qap (fun h=>?_) (fun h=>?_)⟩
  ·have e:mvF f b l[0]=IntKind.i64.wrap (l[0]+b):=if_pos (of_decide_eq_true h);simp only[List.map_cons,List.map_nil,e] at nx;exact ⟨Nat.le_refl 1,(show 1<2 ^ 30 by decide),by decide,nx.onlyR [(7,25)] rfl ⟨rfl,rfl,rfl,rfl,rfl,rfl,trivial⟩ ⟨rfl,trivial⟩⟩
  ·have e:mvF f b l[0]=l[0]:=if_neg (of_decide_eq_false h);simp only[List.map_cons,List.map_nil,e] at nx;exact ⟨Nat.le_refl 1,(show 1<2 ^ 30 by decide),by decide,nx.onlyR [(7,25)] rfl ⟨rfl,rfl,rfl,rfl,rfl,rfl,trivial⟩ ⟨rfl,trivial⟩⟩
 ·have h:=of_decide_eq_false h;have e:l=[]:=List.eq_nil_of_length_eq_zero (by omega);subst e;exact q24 (e:=iI) (et:=3) rfl rfl rfl (by decide)
end
theorem q0v:Held Tryd.prog G0 36 ct_mvw:=
 Held.of cx0 (fn:=Tryd.f36) rfl rfl ⟨by decide,by decide⟩ fun ⟨l,f,b,_⟩ hp=>
  qae cx0 (q72 l f b _ _) ((q0u l f b hp).only ⟨rfl,rfl,rfl,rfl,rfl,rfl,trivial⟩ trivial)
def CMo:CV:=[(10,.inl ctLift),(34,.inl ct_putW),(35,.inl ct_putM),(36,.inl ct_mvw),(14,.inl ctLower)]
theorem cxMo:CxOK Tryd.prog tt G0 CMo:=((((cx0.cons qjo (fn:=Tryd.f14) rfl rfl rfl).cons q0v (fn:=Tryd.f36) rfl rfl rfl).cons qw4 (fn:=Tryd.f35) rfl rfl rfl).cons qw3 (fn:=Tryd.f34) rfl rfl rfl).cons qlv (fn:=Tryd.f10) rfl rfl rfl
set_option maxRecDepth 100000
def qc6 (b:List Int):List (Nat × LB):=[(8,.var [.win false u4 1049152 0 (qag b).w.length,.win false Sh.bool 1049153 0 (qag b).m.length,.win false iI 1049154 0 (qag b).k]),(1049152,.row 50 u4 (qag b).w),(1049153,.row 4 Sh.bool (qag b).m),(1049154,.row 3 iI (qag b).t)]
theorem qzu (b:List Int) (a n:Int) (Q:QT) (R:RT):sy tt G0 CMo Tryd.f12.ntmps Tryd.f12.results.toList Q R 1000 [.code (qaf Tryd.f12)] (entry [.sl uB,iI,iI] (b,a,n,())) =
  (ctLift.pre (b,()) /\
 bc (decide ((qag b).e≠0)) (true=true /\
 true=true /\
 true=true /\
 true=true /\
 Q [.nils,.int .i64 30] (qc6 b)) (bc (bif false then true else decide (a<0)) (true=true /\
 true=true /\
 true=true /\
 Q [.nils,.int .i64 30] (qc6 b)) (bc (bif false then true else decide ((↑(qag b).w.length:Int)<a)) (true=true /\
 true=true /\
 Q [.nils,.int .i64 30] (qc6 b)) (bc (bif false then true else decide (n<0)) (true=true /\
 Q [.nils,.int .i64 30] (qc6 b)) (bc (bif false then true else decide (i64.wrap ((16384:Int)-(↑(qag b).w.length:Int))<n)) (Q [.nils,.int .i64 30] (qc6 b)) (0+(qag b).w.length<=(qag b).w.length /\
 ct_putW.pre (winL u4 0 (qag b).w.length (qag b).w,a,n,()) /\
 0+(qag b).m.length<=(qag b).m.length /\
 ct_putM.pre (winL Sh.bool 0 (qag b).m.length (qag b).m,a,n,()) /\
 0+(qag b).k<=(qag b).t.length /\
 ct_mvw.pre (winL iI 0 (qag b).k (qag b).t,i64.wrap ((4:Int)*a),i64.wrap ((4:Int)*n),()) /\
 0+(putF (have this:=winL u4 0 (qag b).w.length (qag b).w;this) a.toNat n.toNat (0:Int)).length<=(putF (have this:=winL u4 0 (qag b).w.length (qag b).w;this) a.toNat n.toNat (0:u4.D)).length /\
 0+(putF (have this:=winL Sh.bool 0 (qag b).m.length (qag b).m;this) a.toNat n.toNat false).length<=(putF (have this:=winL Sh.bool 0 (qag b).m.length (qag b).m;this) a.toNat n.toNat false).length /\
 0+(List.map (mvF (i64.wrap ((4:Int)*a)) (i64.wrap ((4:Int)*n))) (winL iI 0 (qag b).k (qag b).t)).length<=(List.map (mvF (i64.wrap ((4:Int)*a)) (i64.wrap ((4:Int)*n))) (winL iI 0 (qag b).k (qag b).t)).length /\
 ctLower.pre ((winL u4 0 (putF (have this:=winL u4 0 (qag b).w.length (qag b).w;this) a.toNat n.toNat (0:Int)).length (putF (have this:=winL u4 0 (qag b).w.length (qag b).w;this) a.toNat n.toNat (0:u4.D)),winL Sh.bool 0 (putF (have this:=winL Sh.bool 0 (qag b).m.length (qag b).m;this) a.toNat n.toNat false).length (putF (have this:=winL Sh.bool 0 (qag b).m.length (qag b).m;this) a.toNat n.toNat false),winL iI 0 (List.map (mvF (i64.wrap ((4:Int)*a)) (i64.wrap ((4:Int)*n))) (winL iI 0 (qag b).k (qag b).t)).length (List.map (mvF (i64.wrap ((4:Int)*a)) (i64.wrap ((4:Int)*n))) (winL iI 0 (qag b).k (qag b).t))),()) /\
 Q [.win true uB 1237568 0 (qbh (winL u4 0 (putF (have this:=winL u4 0 (qag b).w.length (qag b).w;this) a.toNat n.toNat (0:Int)).length (putF (have this:=winL u4 0 (qag b).w.length (qag b).w;this) a.toNat n.toNat (0:u4.D))) (winL Sh.bool 0 (putF (have this:=winL Sh.bool 0 (qag b).m.length (qag b).m;this) a.toNat n.toNat false).length (putF (have this:=winL Sh.bool 0 (qag b).m.length (qag b).m;this) a.toNat n.toNat false)) (winL iI 0 (List.map (mvF (i64.wrap ((4:Int)*a)) (i64.wrap ((4:Int)*n))) (winL iI 0 (qag b).k (qag b).t)).length (List.map (mvF (i64.wrap ((4:Int)*a)) (i64.wrap ((4:Int)*n))) (winL iI 0 (qag b).k (qag b).t)))).1.length,.int .i64 (qbh (winL u4 0 (putF (have this:=winL u4 0 (qag b).w.length (qag b).w;this) a.toNat n.toNat (0:Int)).length (putF (have this:=winL u4 0 (qag b).w.length (qag b).w;this) a.toNat n.toNat (0:u4.D))) (winL Sh.bool 0 (putF (have this:=winL Sh.bool 0 (qag b).m.length (qag b).m;this) a.toNat n.toNat false).length (putF (have this:=winL Sh.bool 0 (qag b).m.length (qag b).m;this) a.toNat n.toNat false)) (winL iI 0 (List.map (mvF (i64.wrap ((4:Int)*a)) (i64.wrap ((4:Int)*n))) (winL iI 0 (qag b).k (qag b).t)).length (List.map (mvF (i64.wrap ((4:Int)*a)) (i64.wrap ((4:Int)*n))) (winL iI 0 (qag b).k (qag b).t)))).2] [(8,.var [.win false u4 1049152 0 (qag b).w.length,.win false Sh.bool 1049153 0 (qag b).m.length,.win false iI 1049154 0 (qag b).k]),(1049152,.row 50 u4 (qag b).w),(1049153,.row 4 Sh.bool (qag b).m),(1049154,.row 3 iI (qag b).t),(1180224,.row 50 u4 (putF (have this:=winL u4 0 (qag b).w.length (qag b).w;this) a.toNat n.toNat (0:u4.D))),(1200704,.row 4 Sh.bool (putF (have this:=winL Sh.bool 0 (qag b).m.length (qag b).m;this) a.toNat n.toNat false)),(1229376,.row 3 iI (List.map (mvF (i64.wrap ((4:Int)*a)) (i64.wrap ((4:Int)*n))) (winL iI 0 (qag b).k (qag b).t))),(1237568,.row 5 uB (qbh (winL u4 0 (putF (have this:=winL u4 0 (qag b).w.length (qag b).w;this) a.toNat n.toNat (0:Int)).length (putF (have this:=winL u4 0 (qag b).w.length (qag b).w;this) a.toNat n.toNat (0:u4.D))) (winL Sh.bool 0 (putF (have this:=winL Sh.bool 0 (qag b).m.length (qag b).m;this) a.toNat n.toNat false).length (putF (have this:=winL Sh.bool 0 (qag b).m.length (qag b).m;this) a.toNat n.toNat false)) (winL iI 0 (List.map (mvF (i64.wrap ((4:Int)*a)) (i64.wrap ((4:Int)*n))) (winL iI 0 (qag b).k (qag b).t)).length (List.map (mvF (i64.wrap ((4:Int)*a)) (i64.wrap ((4:Int)*n))) (winL iI 0 (qag b).k (qag b).t)))).1)])))))):=by kernel_rfl
def okM (b:List Int) (a n:Int):Prop:=(qag b).e=0/\0<=a/\a<=(qag b).w.length/\0<=n/\n<=16384-((qag b).w.length:Int)
instance (b:List Int) (a n:Int):Decidable (okM b a n):=by unfold okM;infer_instance
def movX (b:List Int) (a n:Int):LiT:=(putF (qag b).w a.toNat n.toNat 0,putF (qag b).m a.toNat n.toNat false,List.map (mvF (IntKind.i64.wrap (4*a)) (IntKind.i64.wrap (4*n))) (winL iI 0 (qag b).k (qag b).t))
def qb2 (b:List Int) (a n:Int):List Int × Int:=if okM b a n then qbh (movX b a n).1 (movX b a n).2.1 (movX b a n).2.2 else ([],30)
def qih (b:List Int) (a n:Int):Prop:=qdn b/\(okM b a n->qgo (movX b a n).1 (movX b a n).2.1 (movX b a n).2.2)
def ctMoved:Ctr:=⟨[.sl uB,iI,iI],fun x=>qih x.1 x.2.1 x.2.2.1,fun x=>[.win true uB 0 0 (qb2 x.1 x.2.1 x.2.2.1).1.length,.int .i64 (qb2 x.1 x.2.1 x.2.2.1).2],fun x=>[.row 5 uB (qb2 x.1 x.2.1 x.2.2.1).1]⟩
theorem qlo {b:List Int} {a n:Int} {blk:List (Nat × LB)} (h:¬ okM b a n):QC ctMoved (b,a,n,()) [.nils,.int .i64 30] blk:=by
 have hv:qb2 b a n=([],30):=if_neg h;refine QC.nil1 (e:=uB) (et:=5) ?_ ?_ (by decide)
 ·show [SV.win true uB 0 0 (qb2 b a n).1.length,SV.int .i64 (qb2 b a n).2]=_
  rw[hv];rfl
 ·show [LB.row 5 uB (qb2 b a n).1]=_
  rw[hv]
theorem q03 {b:List Int} (hp:qdn b):(qag b).w.length<=16384/\(qag b).m.length=(qag b).w.length/\(qag b).k<=(qag b).t.length/\(qag b).k<=49:=by
 unfold qag;split
 ·exact ⟨by decide,rfl,by decide,by decide⟩
 ·rename_i h;have h1:b.length<=65536:=by omega
  have h2:(qah b).2=0:=by
   by_cases q:(qah b).2=0
   ·exact q
   ·exact absurd (.inr q) h
  obtain ⟨p1,p2⟩:=hp h1;have p3:=p2 h2;have l1:=qya (qah b).1;have l3:=qoy (qah b).1;have l4:=p3.1.2;have l5:=p3.2;refine ⟨?_,?_,?_,?_⟩
  ·show (lfV (qah b).1).1.length<=16384
   omega
  ·show (lfV (qah b).1).2.length=(lfV (qah b).1).1.length
   omega
  ·show (tgV (qah b).1).2.1<=(tgV (qah b).1).2.2.length
   omega
  ·show (tgV (qah b).1).2.1<=49
   omega
theorem q6k (b:List Int) (a n:Int) (hp:qih b a n) (R:List Item->PS->Prop):sy tt G0 CMo Tryd.f12.ntmps Tryd.f12.results.toList (QC ctMoved (b,a,n,())) R 1000 [.code (qaf Tryd.f12)] (entry [.sl uB,iI,iI] (b,a,n,())):=by
 obtain ⟨p1,p2⟩:=hp;obtain ⟨q1,q2,q3,q4⟩:=q03 p1;have w16:IntKind.i64.wrap (16384-((qag b).w.length:Int))=16384-((qag b).w.length:Int):=IntWalk.i64_in _ (by omega);refine (qzu b a n _ _).mpr ?_;rw[w16,qgh,qh1];refine ⟨p1,qap (fun h=>⟨rfl,rfl,rfl,rfl,qlo ?_⟩) (fun h=>qap (fun h2=>⟨rfl,rfl,rfl,qlo ?_⟩) (fun h2=>qap (fun h3=>⟨rfl,rfl,qlo ?_⟩) (fun h3=>qap (fun h4=>⟨rfl,qlo ?_⟩) (fun h4=>qap (fun h5=>qlo ?_) (fun h5=>?_)))))⟩
 ·have h:(qag b).e≠0:=of_decide_eq_true h;exact fun q=>h q.1
 ·have h2:a<0:=of_decide_eq_true h2;exact fun q=>by have:=q.2.1;omega
 ·have h3:((qag b).w.length:Int)<a:=of_decide_eq_true h3;exact fun q=>by have:=q.2.2.1;omega
 ·have h4:n<0:=of_decide_eq_true h4;exact fun q=>by have:=q.2.2.2.1;omega
 ·have h5:16384-((qag b).w.length:Int)<n:=of_decide_eq_true h5;exact fun q=>by have:=q.2.2.2.2;omega
 ·have h:¬ (qag b).e≠0:=of_decide_eq_false h;have h2:¬ a<0:=of_decide_eq_false h2;have h3:¬ ((qag b).w.length:Int)<a:=of_decide_eq_false h3;have h4:¬ n<0:=of_decide_eq_false h4;have h5:¬ 16384-((qag b).w.length:Int)<n:=of_decide_eq_false h5;have hok:okM b a n:=⟨Decidable.not_not.1 h,by omega,by omega,by omega,by omega⟩;have hlw:=p2 hok;have hv:qb2 b a n=qbh (movX b a n).1 (movX b a n).2.1 (movX b a n).2.2:=if_pos hok;have hwl:(winL iI 0 (qag b).k (qag b).t).length<=49:=by
   show (((qag b).t.drop 0).take (qag b).k).length<=49
   rw[List.length_take];omega
  refine ⟨by omega,(show qu0 (qag b).w a n from ⟨⟨by omega,by omega⟩,by omega,by omega⟩),by omega,(show qu0 (qag b).m a n from ⟨⟨by omega,by rw[q2];omega⟩,by omega,by rw[q2];omega⟩),by omega,(show q5k (winL iI 0 (qag b).k (qag b).t) from by unfold q5k;omega),?_⟩;have x1:winL u4 0 (movX b a n).1.length (movX b a n).1=(movX b a n).1:=qgh _;have x2:winL Sh.bool 0 (movX b a n).2.1.length (movX b a n).2.1=(movX b a n).2.1:=qh1 _;have x3:winL iI 0 (movX b a n).2.2.length (movX b a n).2.2=(movX b a n).2.2:=winA (e:=iI) _
  show 0+(movX b a n).1.length<=(movX b a n).1.length/\0+(movX b a n).2.1.length<=(movX b a n).2.1.length/\0+(movX b a n).2.2.length<=(movX b a n).2.2.length /\
   ctLower.pre ((winL u4 0 (movX b a n).1.length (movX b a n).1,winL Sh.bool 0 (movX b a n).2.1.length (movX b a n).2.1,winL iI 0 (movX b a n).2.2.length (movX b a n).2.2),()) /\
   QC ctMoved (b,a,n,()) [SV.win true uB 1237568 0 (qbh (winL u4 0 (movX b a n).1.length (movX b a n).1) (winL Sh.bool 0 (movX b a n).2.1.length (movX b a n).2.1) (winL iI 0 (movX b a n).2.2.length (movX b a n).2.2)).1.length,SV.int .i64 (qbh (winL u4 0 (movX b a n).1.length (movX b a n).1) (winL Sh.bool 0 (movX b a n).2.1.length (movX b a n).2.1) (winL iI 0 (movX b a n).2.2.length (movX b a n).2.2)).2] _
  rw[x1,x2,x3];refine ⟨by omega,by omega,by omega,hlw,?_⟩;refine qny (e:=uB) (et:=5) (a:=1237568) (xs:=(qbh (movX b a n).1 (movX b a n).2.1 (movX b a n).2.2).1) (z:=(qbh (movX b a n).1 (movX b a n).2.1 (movX b a n).2.2).2) ?_ ?_ rfl rfl ?_
  ·show [SV.win true uB 0 0 (qb2 b a n).1.length,SV.int .i64 (qb2 b a n).2]=_
   rw[hv]
  ·show [LB.row 5 uB (qb2 b a n).1]=_
   rw[hv]
  ·rw[<- x1,<- x2,<- x3];rfl
theorem qtk:Held Tryd.prog G0 12 ctMoved:=Held.run cxMo (fn:=Tryd.f12) rfl rfl ⟨by decide,by decide⟩ fun ⟨b,a,n,_⟩ hp=>q6k b a n hp _
def CRd2:CV:=[(41,.inl ct_pa),(19,.inl ct_fo),(42,.inl ct_beq),(14,.inl ctLower)]
theorem cxRd2:CxOK Tryd.prog tt G0 CRd2:=(((cx0.cons qjo (fn:=Tryd.f14) rfl rfl rfl).cons q18 (fn:=Tryd.f42) rfl rfl rfl).cons qry (fn:=Tryd.f19) rfl rfl rfl).cons q51 (fn:=Tryd.f41) rfl rfl rfl
set_option maxRecDepth 100000
theorem q4o (b:List Int) (Q:QT) (R:RT):sy tt G0 CRd2 Tryd.f15.ntmps Tryd.f15.results.toList Q R 1000 [.code (qaf Tryd.f15)] (entry [.sl uB] (b,())) =
  (ct_pa.pre (b,()) /\
 bc (!(parX b).2) (true=true /\
 Q [.agg [.nils,.nils,.nils],.int .i64 3] [(2,.var [.nils,.nils,.nils]),(4,.var [.win true u4 1040960 0 (parX b).1.1.length,.win true Sh.bool 1040961 0 (parX b).1.2.1.length,.sl iI (parX b).1.2.2]),(1040960,.row 50 u4 (parX b).1.1),(1040961,.row 4 Sh.bool (parX b).1.2.1)]) (0+(parX b).1.1.length<=(parX b).1.1.length /\
 0+(parX b).1.2.1.length<=(parX b).1.2.1.length /\
 ct_fo.pre ((winL u4 0 (parX b).1.1.length (parX b).1.1,winL Sh.bool 0 (parX b).1.2.1.length (parX b).1.2.1,(parX b).1.2.2),()) /\
 0+(qdr (winL u4 0 (parX b).1.1.length (parX b).1.1,winL Sh.bool 0 (parX b).1.2.1.length (parX b).1.2.1,(parX b).1.2.2)).length<=(qdr (winL u4 0 (parX b).1.1.length (parX b).1.1,winL Sh.bool 0 (parX b).1.2.1.length (parX b).1.2.1,(parX b).1.2.2)).length /\
 ct_beq.pre (winL uB 0 (qdr (winL u4 0 (parX b).1.1.length (parX b).1.1,winL Sh.bool 0 (parX b).1.2.1.length (parX b).1.2.1,(parX b).1.2.2)).length (qdr (winL u4 0 (parX b).1.1.length (parX b).1.1,winL Sh.bool 0 (parX b).1.2.1.length (parX b).1.2.1,(parX b).1.2.2)),b,()) /\
 bc (bif false then true else !decide (List.map toB (winL uB 0 (qdr (winL u4 0 (parX b).1.1.length (parX b).1.1,winL Sh.bool 0 (parX b).1.2.1.length (parX b).1.2.1,(parX b).1.2.2)).length (qdr (winL u4 0 (parX b).1.1.length (parX b).1.1,winL Sh.bool 0 (parX b).1.2.1.length (parX b).1.2.1,(parX b).1.2.2)))=List.map toB b)) (Q [.agg [.nils,.nils,.nils],.int .i64 3] [(2,.var [.nils,.nils,.nils]),(4,.var [.win true u4 1040960 0 (parX b).1.1.length,.win true Sh.bool 1040961 0 (parX b).1.2.1.length,.sl iI (parX b).1.2.2]),(1040960,.row 50 u4 (parX b).1.1),(1040961,.row 4 Sh.bool (parX b).1.2.1),(1069632,.row 5 uB (qdr (winL u4 0 (parX b).1.1.length (parX b).1.1,winL Sh.bool 0 (parX b).1.2.1.length (parX b).1.2.1,(parX b).1.2.2)))]) (0+(parX b).1.1.length<=(parX b).1.1.length /\
 0+(parX b).1.2.1.length<=(parX b).1.2.1.length /\
 ctLower.pre ((winL u4 0 (parX b).1.1.length (parX b).1.1,winL Sh.bool 0 (parX b).1.2.1.length (parX b).1.2.1,(parX b).1.2.2),()) /\
 bc (decide ((qbh (winL u4 0 (parX b).1.1.length (parX b).1.1) (winL Sh.bool 0 (parX b).1.2.1.length (parX b).1.2.1) (parX b).1.2.2).2≠0)) (Q [.agg [.nils,.nils,.nils],.int .i64 3] [(2,.var [.nils,.nils,.nils]),(4,.var [.win true u4 1040960 0 (parX b).1.1.length,.win true Sh.bool 1040961 0 (parX b).1.2.1.length,.sl iI (parX b).1.2.2]),(1040960,.row 50 u4 (parX b).1.1),(1040961,.row 4 Sh.bool (parX b).1.2.1),(1069632,.row 5 uB (qdr (winL u4 0 (parX b).1.1.length (parX b).1.1,winL Sh.bool 0 (parX b).1.2.1.length (parX b).1.2.1,(parX b).1.2.2))),(1102400,.row 5 uB (qbh (winL u4 0 (parX b).1.1.length (parX b).1.1) (winL Sh.bool 0 (parX b).1.2.1.length (parX b).1.2.1) (parX b).1.2.2).1)]) (Q [.agg [.win true u4 1040960 0 (parX b).1.1.length,.win true Sh.bool 1040961 0 (parX b).1.2.1.length,.sl iI (parX b).1.2.2],.int .i64 0] [(2,.var [.win true u4 1040960 0 (parX b).1.1.length,.win true Sh.bool 1040961 0 (parX b).1.2.1.length,.sl iI (parX b).1.2.2]),(4,.var [.win true u4 1040960 0 (parX b).1.1.length,.win true Sh.bool 1040961 0 (parX b).1.2.1.length,.sl iI (parX b).1.2.2]),(1040960,.row 50 u4 (parX b).1.1),(1040961,.row 4 Sh.bool (parX b).1.2.1),(1069632,.row 5 uB (qdr (winL u4 0 (parX b).1.1.length (parX b).1.1,winL Sh.bool 0 (parX b).1.2.1.length (parX b).1.2.1,(parX b).1.2.2))),(1102400,.row 5 uB (qbh (winL u4 0 (parX b).1.1.length (parX b).1.1) (winL Sh.bool 0 (parX b).1.2.1.length (parX b).1.2.1) (parX b).1.2.2).1)])))):=by kernel_rfl
end Go.Proofs.YthejkhpeokeccaaDoor
