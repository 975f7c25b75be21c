/-
  A part of the proof: what pieces of the program give; conditions: those of each theorem.
-/
import Derived.Test.YtdlnmlepljepjaaQ1
import Derived.Test.YtdlnmlepljepjaaHD
set_option linter.unusedVariables false
set_option linter.unusedSimpArgs false
namespace Go.Proofs.Ytdlnmlepljepjaa
open Go.Px Go.Ax
set_option maxRecDepth 100000
attribute [local irreducible] Go.Px.sy Go.Px.syE
def cA (m:Int) (b:List Int):List Int × Int:=match isM m with
 | true=>match decide (65536<(b.length:Int)) with
  | true=>([],2)
  | false=>(qfp m.toNat b,0)
 | false=>([],130)
theorem qh1 (m:Int) (b:List Int):(encA m b).2.1<=(encA m b).1.length/\winL uB 0 (encA m b).2.1 (encA m b).1=(cA m b).1/\(encA m b).2.2=(cA m b).2:=by
 unfold encA cA encG
 cases isM m with
 | false=>exact ⟨Nat.le_refl _,rfl,rfl⟩
 | true=>
  cases decide (65536<(b.length:Int)) with
  | true=>exact ⟨Nat.le_refl _,rfl,rfl⟩
  | false=>exact ⟨(qme (outG m.toNat b) _ (Nat.le_refl _)).1,rfl,rfl⟩
def ctEncF:Ctr:=⟨[iI,.sl uB],λ x=>byL x.2.1,λ x=>[.sl uB (cA x.1 x.2.1).1,.i (cA x.1 x.2.1).2],λ _=>[]⟩
def ctDecF:Ctr:=⟨[iI,.sl uB,iI],λ x=>List.length x.2.1<1099511627776,λ x=>[.sl uB (decA x.1 x.2.1 x.2.2.1).1,.i (decA x.1 x.2.1 x.2.2.1).2],λ _=>[]⟩
def ctSizF:Ctr:=⟨[iI,.sl uB],λ x=>byL x.2.1,λ x=>[.i ((cA x.1 x.2.1).1.length:Nat),.i (cA x.1 x.2.1).2],λ _=>[]⟩
theorem qv6:Held Try.prog G0 17 ctEncF:=by
 have h:=enc_held.frz (λ x _=>by
  show inL 0 (encA x.1 x.2.1).1.length [SV.win false uB 0 0 (encA x.1 x.2.1).2.1,SV.i (encA x.1 x.2.1).2.2]/\True
  exact ⟨⟨λ _=>by have:=(qh1 x.1 x.2.1).1;omega,⟨trivial,trivial⟩⟩,trivial⟩)
 refine h.iff rfl (λ x h=>h) (λ x _=>?_) (λ x _=>rfl)
 show [SV.sl uB (cA x.1 x.2.1).1,SV.i (cA x.1 x.2.1).2]=[SV.sl uB (winL uB 0 (encA x.1 x.2.1).2.1 (encA x.1 x.2.1).1),SV.i (encA x.1 x.2.1).2.2]
 rw[(qh1 x.1 x.2.1).2.1,(qh1 x.1 x.2.1).2.2]
theorem qwe:Held Try.prog G0 19 ctDecF:=by
 have h:=dec_held.frz (λ x _=>by
  show inL 0 (decA x.1 x.2.1 x.2.2.1).1.length [SV.win true uB 0 0 (decA x.1 x.2.1 x.2.2.1).1.length,SV.i (decA x.1 x.2.1 x.2.2.1).2]/\True
  exact ⟨⟨λ _=>by omega,⟨trivial,trivial⟩⟩,trivial⟩)
 refine h.iff rfl (λ x h=>h) (λ x _=>?_) (λ x _=>rfl)
 show [SV.sl uB (decA x.1 x.2.1 x.2.2.1).1,SV.i (decA x.1 x.2.1 x.2.2.1).2]=[SV.sl uB (winL uB 0 (decA x.1 x.2.1 x.2.2.1).1.length (decA x.1 x.2.1 x.2.2.1).1),SV.i (decA x.1 x.2.1 x.2.2.1).2]
 rw[show winL uB 0 (decA x.1 x.2.1 x.2.2.1).1.length (decA x.1 x.2.1 x.2.2.1).1=(decA x.1 x.2.1 x.2.2.1).1 from List.take_length]
theorem qt9:Held Try.prog G0 18 ctSizF:=by
 refine siz_held.iff rfl (λ x h=>h) (λ x _=>?_) (λ x _=>rfl)
 show [SV.i ((cA x.1 x.2.1).1.length:Nat),SV.i (cA x.1 x.2.1).2]=[SV.i (encA x.1 x.2.1).2.1,SV.i (encA x.1 x.2.1).2.2]
 have e:(cA x.1 x.2.1).1.length=(encA x.1 x.2.1).2.1:=by
  rw[<- (qh1 x.1 x.2.1).2.1]
  show (List.take _ _).length=_
  rw[List.length_take];exact Nat.min_eq_left (qh1 x.1 x.2.1).1
 rw[e,(qh1 x.1 x.2.1).2.2]
theorem q5g (g:Nat):∀ (xs:List Int),byL xs->∀ (D:Nat->Tb) (z:Nat) (l:List Int) (lo w:Int),DOK D->WI l lo w->(eG g xs D z l lo w).1.length<=l.length+4*xs.length:=by
 intro xs
 induction xs with
 | nil=>intro _ D z l lo w _ _;exact Nat.le_refl _
 | cons y xs ih=>
  intro hy D z l lo w hD hW;obtain ⟨x,rfl⟩:=Int.eq_ofNat_of_zero_le (hy y (List.mem_cons_self ..)).1;have hx:=(hy x (List.mem_cons_self ..)).2;obtain ⟨s1,s,s2,s3,_⟩:=qgn (b:=[]) (λ _ h=>by cases h) hW (hD (atD g z)) (x:=x) (by omega);rw[eG];have:=ih (λ a ha=>hy a (List.mem_cons_of_mem _ ha)) (nxD g D z x) (x:Int).toNat _ _ _ (qkx hD z (by omega)) s1;rw[List.length_cons];omega
theorem q23 (g:Nat) {b:List Int} (hb:byL b):(qfp g b).length<=4*b.length+4:=by
 have h:=(qkz g hb).2.2.1;have:=q5g g b hb D0 0 [] 0 4294967295 qs0 wi_0;rw[List.length_nil] at this;omega
theorem q5l {m:Int} (h0:0<=m) (h2:m<=2) {b:List Int} (h6:b.length<=65536):cA m b=(qfp m.toNat b,0):=by
 unfold cA;rw[qyf h0 h2,decide_eq_false (by omega)]
theorem cA_no {m:Int} (h:¬ (0<=m/\m<=2)) (b:List Int):cA m b=([],130):=by
 unfold cA;rw[qss h]
theorem qky {m:Int} (h0:0<=m) (h2:m<=2) (b:List Int) (n:Int):decA m b n=decG m.toNat b n:=by
 unfold decA;rw[qyf h0 h2]
theorem qwf {m:Int} (h:¬ (0<=m/\m<=2)) (b:List Int) (n:Int):decA m b n=([],130):=by
 unfold decA;rw[qss h]
theorem de_en {m:Int} (h0:0<=m) (h2:m<=2) {b:List Int} (hb:byL b) (h6:b.length<=65536):decA m (qfp m.toNat b) b.length=(b,0):=by
 rw[qky h0 h2];exact q2y _ hb h6
theorem en_de {m:Int} (h0:0<=m) (h2:m<=2) {y:List Int} (hy:byL y) (n:Int):decA m y n=([],130)\/∃ o,decA m y n=(o,0)/\0<=n/\n<=65536/\(o.length:Int)=n/\byL o/\qfp m.toNat o=y:=by
 rw[qky h0 h2];exact q2v _ hy
theorem qnp {L:List Int} {n:Nat} (h:n=L.length):winL uB 0 n L=L:=by subst h;exact List.take_length
theorem q09 {l m:List Int} (hl:byL l) (hm:byL m) (h:l.map toB=m.map toB):l=m:=by
 have key:∀ {l m:List Int},byL l->byL m->l.map toB=m.map toB->l=m:=by
  intro l
  induction l with
  | nil=>
   intro m _ _ h
   cases m with
   | nil=>rfl
   | cons y m=>simp at h
  | cons x l ih=>
   intro m hl hm h
   cases m with
   | nil=>simp at h
   | cons y m=>
    simp only[List.map_cons,List.cons.injEq] at h;have hx:=hl x (List.mem_cons_self ..);have hy:=hm y (List.mem_cons_self ..);have e:x=y:=by
     rw[<- qtz x hx.1 hx.2,<- qtz y hy.1 hy.2,h.1]
    rw[e,ih (λ a ha=>hl a (List.mem_cons_of_mem _ ha)) (λ a ha=>hm a (List.mem_cons_of_mem _ ha)) h.2]
 exact key hl hm h
theorem q5o {a b:List Int} (ha:byL a) (hb:byL b):byL (a++b):=λ x hx=>(List.mem_append.1 hx).elim (ha x) (hb x)
theorem qwl {a:List Int} (ha:byL a) (n:Nat):byL (a.take n):=λ x hx=>ha x (List.mem_of_mem_take hx)
theorem qwn:byL []:=λ x hx=>by cases hx
theorem by_1 {c:Int} (h:0<=c/\c<256):byL [c]:=λ x hx=>by rw[List.mem_singleton.1 hx];exact h
def isT:List SV->Prop:=λ rs=>rs=[.bool true]
abbrev GL (f:Nat) (fn:Func) (it:List Item) (S:PS):Prop:=Px.Good Try.prog tt G0 f fn.ntmps fn.results.toList (λ rs _=>isT rs) it S
theorem q4w {ct:Ctr} {x:DL ct.args} {rs:List SV} {blk:List (Nat × LB)} (ho:ct.out x=[.bool true]) (hr:ct.rows x=[]) (h:isT rs):QC ct x rs blk:=by
 have h:rs=[.bool true]:=h;subst h;exact QC.flat ho hr rfl
theorem no_t {p:Prop} [Decidable p] {q:Prop} (hp:¬ p) (h:decide p=true):q:=absurd (of_decide_eq_true h) hp
theorem no_f {p:Prop} [Decidable p] {q:Prop} (hp:p) (h:decide p=false):q:=absurd hp (of_decide_eq_false h)
theorem hG:Glob G0.raw:=⟨λ g x h=>by simp[G0,T.get] at h,λ g x h=>by simp[G0,T.get] at h⟩
abbrev H0:AHeap:=⟨qla,G0.raw⟩
theorem q4b {n:Int} (h:(Lit.int .u8 n).wf=true):0<=n/\n<256:=by
 have:=Go.bounds_u8 h;exact ⟨this.1,by omega⟩
theorem q5n {l:List Int} (h:wfD (.sl uB) l):byL l:=λ x hx=>q4b (h.2 x hx)
open Go.IntKind(i64 u32 u8)
abbrev RTk:AK:=.ptr [.dat (.arr 256 iI),.dat iI]
abbrev rtV (c:List Int) (t:Int):LB:=.var [.arr 256 iI c,.i t]
abbrev RKk:AK:=.ptr [.dat iI,.pta 256 RTk,.dat uB]
abbrev RSk:AK:=.ptr [.dat iI,.dat iI,.row 5 uB]
set_option maxRecDepth 100000
theorem q34  (Q:List SV->List (Nat × LB)->Prop) (R:List Item->PS->Prop):sA [] Try.f62 Q R [.code (qah Try.f62)] (entry [] ()) =
  (R (hd Try.f62 (0:Nat)) { env:=[(0,SV.nilp),(1,SV.ptr (4:Nat) (0:Nat)),(2,SV.i (0:Int)),(3,SV.agg [SV.arr 256 (Sh.int .i64) (Sh.arr 256 (Sh.int .i64)).dflt,SV.i (256:Int)]),(4,SV.ptr (4:Nat) (0:Nat))],blk:=[(4,LB.var [SV.arr 256 (Sh.int .i64) (Sh.arr 256 (Sh.int .i64)).dflt,SV.i (256:Int)])] }):=by kernel_rfl
theorem qtt (c:List Int) (i:Int) (Q:List SV->List (Nat × LB)->Prop) (R:List Item->PS->Prop):sA [] Try.f62 Q (λ it S=>R it (qar [1,2] [4] S)) (hd Try.f62 0) ⟨[(1,.ptr 4 0),(2,.i i)],[(4,rtV c 256)]⟩ =
  (bc (decide (i<256)) ((0:Int)<=i/\i<(↑256:Int)/\i.toNat<256/\R (hd Try.f62 (0:Nat)) { env:=[(1,SV.ptr (4:Nat) (0:Nat)),(2,SV.i (i64.wrap (i+1)))],blk:=[(4,LB.var [SV.arr 256 (Sh.int .i64) (c.set i.toNat (1:Int)),SV.i (256:Int)])] }) (Q [SV.ptr (4:Nat) (0:Nat)] [(4,LB.var [SV.arr 256 (Sh.int .i64) c,SV.i (256:Int)])])):=by kernel_rfl
theorem q3w (c:List Int) (t b:Int) (Q:List SV->List (Nat × LB)->Prop) (R:List Item->PS->Prop):sA [] Try.f45 Q R [.code (qah Try.f45)] (qav [RTk,.dat uB] ((c,t,()),b,())) =
  (R (hd Try.f45 (0:Nat)) { env:=[(0,SV.ptr (1099511627776:Nat) (0:Nat)),(1,SV.u b),(4,SV.i (0:Int)),(5,SV.i (0:Int)),(6,SV.i (0:Int))],blk:=[(1099511627776,LB.var [SV.arr 256 (Sh.int .i64) c,SV.i t])] }):=by kernel_rfl
theorem qtl (c:List Int) (t b n i:Int) (Q:List SV->List (Nat × LB)->Prop) (R:List Item->PS->Prop):sA [] Try.f45 Q (λ it S=>R it (qar [0,1,5,6] [BIG] S)) (hd Try.f45 0) ⟨[(0,.ptr BIG 0),(1,.u b),(5,.i n),(6,.i i)],[(BIG,rtV c t)]⟩ =
  (bc (decide (i<i64.wrap b)) ((0:Int)<=i/\i<(↑256:Int)/\i.toNat<256/\R (hd Try.f45 (0:Nat)) { env:=[(0,SV.ptr (1099511627776:Nat) (0:Nat)),(1,SV.u b),(5,SV.i (i64.wrap (n+gt (Sh.int .i64) c i.toNat))),(6,SV.i (i64.wrap (i+1)))],blk:=[(1099511627776,LB.var [SV.arr 256 (Sh.int .i64) c,SV.i t])] }) (Q [SV.i n] [(1099511627776,LB.var [SV.arr 256 (Sh.int .i64) c,SV.i t])])):=by kernel_rfl
theorem q3p (c:List Int) (t b:Int) (Q:List SV->List (Nat × LB)->Prop) (R:List Item->PS->Prop):sA [] Try.f64 Q (λ it S=>R it (qar [0,4] [BIG] S)) [.code (qah Try.f64)] (qav [RTk,.dat uB] ((c,t,()),b,())) =
  ((0:Int)<=b/\b<(↑256:Int)/\b.toNat<256/\(0:Int)<=b/\b<(↑256:Int)/\b.toNat<256/\bc (decide (i64.wrap (t+32)<=65536)) (Q [] [(1099511627776,LB.var [SV.arr 256 (Sh.int .i64) (c.set b.toNat (i64.wrap (gt (Sh.int .i64) c b.toNat+32))),SV.i (i64.wrap (t+32))])]) (R (hd Try.f64 (0:Nat)) { env:=[(0,SV.ptr (1099511627776:Nat) (0:Nat)),(4,SV.i (0:Int))],blk:=[(1099511627776,LB.var [SV.arr 256 (Sh.int .i64) (c.set b.toNat (i64.wrap (gt (Sh.int .i64) c b.toNat+32))),SV.i (0:Int)])] })):=by kernel_rfl
theorem qte (c:List Int) (t i:Int) (Q:List SV->List (Nat × LB)->Prop) (R:List Item->PS->Prop):sA [] Try.f64 Q (λ it S=>R it (qar [0,4] [BIG] S)) (hd Try.f64 0) ⟨[(0,.ptr BIG 0),(4,.i i)],[(BIG,rtV c t)]⟩ =
  (bc (decide (i<256)) ((0:Int)<=i/\i<(↑256:Int)/\i.toNat<256/\(2:Int)≠0/\(0:Int)<=i/\i<(↑256:Int)/\i.toNat<256/\(0:Int)<=i/\i<(↑256:Int)/\i.toNat<256/\R (hd Try.f64 (0:Nat)) { env:=[(0,SV.ptr (1099511627776:Nat) (0:Nat)),(4,SV.i (i64.wrap (i+1)))],blk:=[(1099511627776,LB.var [SV.arr 256 (Sh.int .i64) (c.set i.toNat (i64.wrap ((i64.wrap (gt (Sh.int .i64) c i.toNat+1)).tdiv (2:Int)))),SV.i (i64.wrap (t+gt (Sh.int .i64) (c.set i.toNat (i64.wrap ((i64.wrap (gt (Sh.int .i64) c i.toNat+1)).tdiv (2:Int)))) i.toNat))])] }) (Q [] [(1099511627776,LB.var [SV.arr 256 (Sh.int .i64) c,SV.i t])])):=by kernel_rfl
theorem q3s (l:List Value) (j:Nat) (c:List Int) (m t b:Int) (Q:List SV->List (Nat × LB)->Prop) (R:List Item->PS->Prop):sA [] Try.f34 Q R [.code (qah Try.f34)] (qav [RKk] ((m,((l,j),(c,t,())),b,()),())) =
  (bc (decide (m=(2:Int))) ((0:Int)<=b/\b<(↑256:Int)/\b.toNat<256/\b.toNat=j/\Q [SV.ptr (1099511627777:Nat) (0:Nat)] [(1099511627776,LB.var [SV.int .i64 m,SV.pta 256 l j [SV.ptr (1099511627777:Nat) (0:Nat)],SV.int .u8 b]),(1099511627777,LB.var [SV.arr 256 (Sh.int .i64) c,SV.int .i64 t])]) ((0:Int)<=0/\(0:Int)<(↑256:Int)/\Int.toNat (0:Int)<256/\Int.toNat (0:Int)=j/\Q [SV.ptr (1099511627777:Nat) (0:Nat)] [(1099511627776,LB.var [SV.int .i64 m,SV.pta 256 l j [SV.ptr (1099511627777:Nat) (0:Nat)],SV.int .u8 b]),(1099511627777,LB.var [SV.arr 256 (Sh.int .i64) c,SV.int .i64 t])])):=by kernel_rfl
theorem q3v (l:List Int) (lo w:Int) (Q:List SV->List (Nat × LB)->Prop) (R:List Item->PS->Prop):sA [] Try.f63 Q R [.code (qah Try.f63)] (qav [RSk] ((lo,w,l,()),())) =
  (R (hd Try.f63 (0:Nat)) { env:=[(0,SV.ptr (1099511627776:Nat) (0:Nat)),(2,SV.i (i64.wrap ((↑l.length:Int)-1))),(3,SV.ptr (1099511627776:Nat) (0:Nat)),(4,SV.ptr (1099511627776:Nat) (0:Nat)),(5,SV.ptr (1099511627776:Nat) (2:Nat)),(6,SV.win true uB (1099511627777:Nat) (0:Nat) l.length),(7,SV.i (↑l.length:Int)),(8,SV.i (i64.wrap ((↑l.length:Int)-1)))],blk:=[(1099511627776,LB.var [SV.i lo,SV.i w,SV.win true uB (1099511627777:Nat) (0:Nat) l.length]),(1099511627777,LB.row (5:Nat) uB l)] }):=by kernel_rfl
theorem qtk (l:List Int) (lo w:Int) (i:Int) (Q:List SV->List (Nat × LB)->Prop) (R:List Item->PS->Prop):sA [] Try.f63 Q (λ it S=>R it (qar [0,2] [BIG,BIG+1] S)) (hd Try.f63 0) ⟨[(0,.ptr BIG 0),(2,.i i)],[(BIG,.var [.i lo,.i w,.win true uB (BIG+1) 0 l.length]),(BIG+1,.row 5 uB l)]⟩ =
  (bc (decide ((0:Int)<=i)) ((0:Int)<=i/\i<(↑l.length:Int)/\0+i.toNat<l.length/\(0:Int)<=i/\i<(↑l.length:Int)/\0+i.toNat<l.length/\(0:Int)<=i/\i<(↑l.length:Int)/\0+i.toNat<(l.set (0+i.toNat) (u8.wrap (gt uB l (0+i.toNat)+1))).length/\bc (decide (gt uB (l.set (0+i.toNat) (u8.wrap (gt uB l (0+i.toNat)+1))) (0+i.toNat)≠0)) (Q [] [(1099511627776,LB.var [SV.i lo,SV.i w,SV.win true uB (1099511627777:Nat) (0:Nat) l.length]),(1099511627777,LB.row (5:Nat) uB (l.set (0+i.toNat) (u8.wrap (gt uB l (0+i.toNat)+1))))]) (R (hd Try.f63 (0:Nat)) { env:=[(0,SV.ptr (1099511627776:Nat) (0:Nat)),(2,SV.i (i64.wrap (i-1)))],blk:=[(1099511627776,LB.var [SV.i lo,SV.i w,SV.win true uB (1099511627777:Nat) (0:Nat) l.length]),(1099511627777,LB.row (5:Nat) uB (l.set (0+i.toNat) (u8.wrap (gt uB l (0+i.toNat)+1))))] })) (Q [] [(1099511627776,LB.var [SV.i lo,SV.i w,SV.win true uB (1099511627777:Nat) (0:Nat) l.length]),(1099511627777,LB.row (5:Nat) uB l)])):=by kernel_rfl
def ctRFre:CtrI:=⟨[],λ _=>True,λ _=>[.ptr 0 0],λ _=>[(0,rtV c1L 256)]⟩
theorem qyk:∀ (k i:Nat),256-i=k->i<=256->GD 62 Try.f62 (QI ctRFre ()) (hd Try.f62 0) ⟨[(1,.ptr 4 0),(2,.i (i:Nat))],[(4,rtV (List.replicate i (1:Int)++List.replicate (256-i) (0:Int)) 256)]⟩:=by
 intro k
 induction k with
 | zero=>
  intro i hk hi;have hi:i=256:=by omega
  subst hi;refine qag cx0 (qtt _ 256 _ _) ?_;rw[decide_eq_false (by decide),bc_f];refine ⟨[(0,4)],?_,?_,by decide,λ p hp=>?_⟩
  ·refine ⟨_,_,rfl,?_,rfl⟩;exact ⟨4,rfl,by decide⟩
  ·exact ⟨.inl ⟨4,_,by decide,rfl,_,rfl,qbt _ _ rfl⟩,trivial⟩
  ·simp only[List.mem_cons,List.not_mem_nil,or_false] at hp;subst hp;decide
 | succ k ih=>
  intro i hk hi;refine qag cx0 (qtt _ i _ _) ?_;rw[decide_eq_true (show (i:Int)<256 by omega),bc_t,IntWalk.i64_in ((i:Int)+1) (by omega)];refine ⟨by omega,by omega,by omega,?_⟩;have nx:=ih (i+1) (by omega) (by omega);have e:(List.replicate i (1:Int)++List.replicate (256-i) (0:Int)).set (i:Int).toNat 1=List.replicate (i+1) (1:Int)++List.replicate (256-(i+1)) (0:Int):=by
   rw[Int.toNat_natCast,show 256-i=(256-(i+1))+1 by omega,List.replicate_succ];rw[List.set_append_right _ _ (by simp)];simp[List.replicate_succ']
  rw[e];exact nx.only ⟨rfl,rfl,trivial⟩ ⟨rfl,trivial⟩
theorem qyl:HeldI Try.prog G0 62 ctRFre:=HeldI.of cx0 (fn:=Try.f62) rfl rfl ⟨by decide,by decide⟩ λ _ _=>by
 refine qbf cx0 (q34 _ _) ?_;exact (qyk 256 0 rfl (by omega)).only ⟨rfl,rfl,trivial⟩ ⟨rfl,trivial⟩
def qpo (c:List Int) (t b:Int):Prop:=qa7 c t/\0<=b/\b<256
def ctRBef:CtrI:=⟨[RTk,.dat uB],λ x=>qpo x.1.1 x.1.2.1 x.2.1,λ x=>[.i (sm (List.take x.2.1.toNat x.1.1))],λ x=>bkKL 0 [RTk,.dat uB] x⟩
theorem qxs {c:List Int} {t:Int} (ht:qa7 c t) {b:Nat} (hb:b<256):∀ (k i:Nat),b-i=k->i<=b->GD 45 Try.f45 (QI ctRBef ((c,t,()),(b:Int),())) (hd Try.f45 0) ⟨[(0,.ptr BIG 0),(1,.u b),(5,.i (sm (c.take i))),(6,.i (i:Nat))],[(BIG,rtV c t)]⟩:=by
 have eb:i64.wrap (b:Int)=b:=IntWalk.i64_in _ (by omega);intro k
 induction k with
 | zero=>
  intro i hk hi;have hi:i=b:=by omega
  subst hi;refine qag cx0 (qtl c t _ _ i _ _) ?_;rw[eb,decide_eq_false (by omega),bc_f];refine QI.self ?_ rfl rfl (lk1 rfl)
  show [SV.i (sm (List.take (i:Int).toNat c))]=_
  rw[Int.toNat_natCast]
 | succ k ih=>
  intro i hk hi;refine qag cx0 (qtl c t _ _ i _ _) ?_;have hil:i<c.length:=by rw[ht.1];omega
  have h1:=qb5 ht i;have h2:=qb5 ht (i+1);have h3:=(qe0 ht).2;have es:=qb9 hil;have eg:gt (Sh.int .i64) c (i:Int).toNat=gtU c i:=by rw[Int.toNat_natCast];rfl
  rw[eb,decide_eq_true (by omega),bc_t,IntWalk.i64_in ((i:Int)+1) (by omega),eg,<- es,IntWalk.i64_in (sm (c.take (i+1))) (by omega)];exact ⟨by omega,by omega,by omega,(ih (i+1) (by omega) (by omega)).only ⟨rfl,rfl,rfl,rfl,trivial⟩ ⟨rfl,trivial⟩⟩
theorem qq4:HeldI Try.prog G0 45 ctRBef:=HeldI.of cx0 (fn:=Try.f45) rfl rfl ⟨by decide,by decide⟩ λ ⟨⟨c,t,_⟩,b,_⟩ hp=>by
 obtain ⟨ht,h0,h1⟩:qa7 c t/\(0:Int)<=b/\(show Int from b)<256:=hp;obtain ⟨n,rfl⟩:=Int.eq_ofNat_of_zero_le h0;refine qbf cx0 (q3w c t _ _ _) ?_;exact (qxs ht (b:=n) (Int.ofNat_lt.1 h1) n 0 rfl (Nat.zero_le _)).only ⟨rfl,rfl,rfl,rfl,trivial⟩ ⟨rfl,trivial⟩
def ctRTsa:CtrI:=⟨[RTk,.dat uB],λ x=>qpo x.1.1 x.1.2.1 x.2.1,λ _=>[],λ x=>[(BIG,rtV (groV x.1.1 x.1.2.1 x.2.1).1 (groV x.1.1 x.1.2.1 x.2.1).2)]⟩
theorem qxg {c0:List Int} {t0 b0:Int} {V:List Int × Int} (hV:groV c0 t0 b0=V) {c:List Int} (hc:c.length=256) (hr:∀ x∈c,1<=x/\x<=65568) (h1:V.1=halC c) (h2:V.2=sumF (halC c) 256):∀ (k i:Nat) (d:List Int),256-i=k->i<=256->d=(halC c).take i++c.drop i ->
  GD 64 Try.f64 (QI ctRTsa ((c0,t0,()),b0,())) (hd Try.f64 0) ⟨[(0,.ptr BIG 0),(4,.i (i:Nat))],[(BIG,rtV d (sm ((halC c).take i)))]⟩:=by
 obtain ⟨s1,s2,s3⟩:=qpc hr;have hL:(halC c).length=256:=by show (List.map _ _).length=256;rw[List.length_map];exact hc
 have hb:∀ x∈halC c,x<=32785:=λ x hx=>by
  obtain ⟨y,hy,rfl⟩:=List.mem_map.1 hx;have hy:=hr y hy;have e:u32.wrap ((u32.wrap (y+1)).tdiv 2)=(y+1) / 2:=by rw[IntWalk.u32_in (y+1) (by omega),IntWalk.u32_quo _ _ (by omega)]
  show u32.wrap ((u32.wrap (y+1)).tdiv 2)<=_
  rw[e];omega
 have hsm:∀ (l:List Int),(∀ x∈l,1<=x/\x<=32785)->0<=sm l/\sm l<=32785*l.length:=λ l=>by
  induction l with
  | nil=>intro _;exact ⟨Int.le_refl _,Int.le_refl _⟩
  | cons x l ih=>
   intro h;have hx:=h x (List.mem_cons_self ..);have:=ih λ y hy=>h y (List.mem_cons_of_mem _ hy)
   rw[List.length_cons]
   show 0<=x+sm l/\x+sm l<=_
   omega
 intro k
 induction k with
 | zero=>
  intro i d hk hi hd;have hi:i=256:=by omega
  subst hi;refine qag cx0 (qte d _ 256 _ _) ?_;rw[decide_eq_false (by decide),bc_f];have ed:d=halC c:=by rw[hd,List.take_of_length_le (by omega),List.drop_eq_nil_of_le (by omega),List.append_nil]
  have ht:=hsm (halC c) λ x hx=>⟨s1 x hx,hb x hx⟩
  rw[hL] at ht;have es:sm ((halC c).take 256)=sumF (halC c) 256:=by
   have hk:2*sm (halC c)<=sm c+256:=by rw[hc] at s2;exact s2
   rw[List.take_of_length_le (by omega)];have:∀ n,n<=256->sumF (halC c) n=sm ((halC c).take n):=by
    intro n
    induction n with
    | zero=>intro _;rfl
    | succ n ih=>
     intro hn;have hl:n<(halC c).length:=by omega
     have:=hsm ((halC c).take (n+1)) λ x hx=>⟨s1 x (List.mem_of_mem_take hx),hb x (List.mem_of_mem_take hx)⟩
     have hlt:((halC c).take (n+1)).length<=256:=by rw[List.length_take];omega
     rw[sumF,ih (by omega)];rw[qb9 hl] at this |-;exact IntWalk.u32_in _ (by omega)
   rw[this 256 (Nat.le_refl _),List.take_of_length_le (by omega)]
  refine QI.self rfl rfl rfl (lk1 ?_)
  show some (rtV d (sm ((halC c).take 256)))=some (rtV (groV c0 t0 b0).1 (groV c0 t0 b0).2)
  rw[hV,h1,h2,ed,es]
 | succ k ih=>
  intro i d hk hi hd;refine qag cx0 (qte d _ i _ _) ?_;have hil:i<c.length:=by omega
  have hih:i<(halC c).length:=by omega
  have hy:=hr _ (List.getElem_mem hil);have eg:gt (Sh.int .i64) d i=c[i]:=by
   show (d[i]?).getD _=_
   rw[hd,List.getElem?_append_right (by rw[List.length_take];omega),List.length_take,Nat.min_eq_left (by omega),Nat.sub_self,List.getElem?_drop,Nat.add_zero,List.getElem?_eq_getElem hil];rfl
  have eh:(halC c)[i]=(c[i]+1) / 2:=by
   simp only[halC,List.getElem_map];rw[IntWalk.u32_in (c[i]+1) (by omega),IntWalk.u32_quo _ _ (by omega)]
  have eq2:i64.wrap ((i64.wrap (c[i]+1)).tdiv 2)=(halC c)[i]:=by
   rw[IntWalk.i64_in (c[i]+1) (by omega),Int.tdiv_eq_ediv_of_nonneg (by omega),eh];exact IntWalk.i64_in _ (by omega)
  have hdl:d.length=256:=by rw[hd,List.length_append,List.length_take,List.length_drop];omega
  have egs:gt (Sh.int .i64) (d.set i (halC c)[i]) i=(halC c)[i]:=by
   show ((d.set i (halC c)[i])[i]?).getD _=_
   rw[List.getElem?_set_self (by omega)];rfl
  have hn:=hsm ((halC c).take (i+1)) λ x hx=>⟨s1 x (List.mem_of_mem_take hx),hb x (List.mem_of_mem_take hx)⟩
  have hlt:((halC c).take (i+1)).length<=256:=by rw[List.length_take];omega
  have es:sm ((halC c).take i)+(halC c)[i]=sm ((halC c).take (i+1)):=by rw[qb9 hih,qlw hih]
  have ed:d.set i (halC c)[i]=(halC c).take (i+1)++c.drop (i+1):=by
   rw[hd,List.set_append_right _ _ (by rw[List.length_take];omega),List.length_take,Nat.min_eq_left (by omega),Nat.sub_self,List.drop_eq_getElem_cons hil,List.set_cons_zero,List.take_succ_eq_append_getElem hih,List.append_assoc];rfl
  rw[decide_eq_true (show (i:Int)<256 by omega),bc_t,IntWalk.i64_in ((i:Int)+1) (by omega),Int.toNat_natCast,eg,eq2,egs,es,IntWalk.i64_in (sm ((halC c).take (i+1))) (by omega)];exact ⟨by omega,by omega,by omega,by decide,by omega,by omega,by omega,by omega,by omega,by omega,(ih (i+1) _ (by omega) (by omega) ed).only ⟨rfl,rfl,trivial⟩ ⟨rfl,trivial⟩⟩
theorem q1f (c:List Int) (t:Int) (n:Nat) (ht:qa7 c t) (hn:n<256):GD 64 Try.f64 (QI ctRTsa ((c,t,()),(n:Int),())) [.code (qah Try.f64)] (qav [RTk,.dat uB] ((c,t,()),(n:Int),())):=by
 have h0:(0:Int)<=n:=by omega
 have h1:(n:Int)<256:=by omega
 have hl:n<c.length:=by rw[ht.1];exact hn
 have hg:=qew ht hn;have hT:=qe0 ht;have eg:gt (Sh.int .i64) c (n:Int).toNat=gtU c n:=by rw[Int.toNat_natCast];rfl
 have e1:u32.wrap (gtU c n+32)=gtU c n+32:=IntWalk.u32_in _ (by omega);have e2:u32.wrap (t+32)=t+32:=IntWalk.u32_in _ (by omega);have hm:∀ x∈c.set n (gtU c n+32),1<=x/\x<=65568:=λ x hx=>by
  rcases List.mem_or_eq_of_mem_set hx with q | q
  ·obtain ⟨j,hj,rfl⟩:=List.mem_iff_getElem.1 q;have:=qew ht (i:=j) (by rw[<- ht.1];exact hj);rw[qlw hj] at this;omega
  ·rw[q];omega
 refine qag cx0 (q3p c t _ _ _) ⟨h0,h1,by omega,h0,h1,by omega,?_⟩;rw[eg,Int.toNat_natCast,IntWalk.i64_in (gtU c n+32) (by omega),IntWalk.i64_in (t+32) (by omega)];refine qaj (λ h=>?_) (λ h=>?_)
 ·have h:t+32<=65536:=of_decide_eq_true h;have e:groV c t n=(c.set n (gtU c n+32),t+32):=by
   unfold groV;rw[Int.toNat_natCast,e1,e2,decide_eq_false (by omega)]
  refine QI.self rfl rfl rfl (lk1 ?_)
  show _=some (rtV (groV c t n).1 (groV c t n).2)
  rw[e];rfl
 ·have h:¬ t+32<=65536:=of_decide_eq_false h;have e:groV c t n=(halC (c.set n (gtU c n+32)),sumF (halC (c.set n (gtU c n+32))) 256):=by
   unfold groV;rw[Int.toNat_natCast,e1,e2,decide_eq_true (by omega)]
  exact (qxg (c0:=c) (t0:=t) (b0:=n) e (by rw[List.length_set];exact ht.1) hm rfl rfl 256 0 _ rfl (Nat.zero_le _) rfl).only ⟨rfl,rfl,trivial⟩ ⟨rfl,trivial⟩
theorem qxh:HeldI Try.prog G0 64 ctRTsa:=HeldI.of cx0 (fn:=Try.f64) rfl rfl ⟨by decide,by decide⟩ λ ⟨⟨c,t,_⟩,b,_⟩ hp=>by
 obtain ⟨ht,h0,h1⟩:qa7 c t/\(0:Int)<=b/\(show Int from b)<256:=hp;obtain ⟨n,rfl⟩:=Int.eq_ofNat_of_zero_le h0;exact q1f c t n ht (Int.ofNat_lt.1 h1)
abbrev rsV (a n:Nat) (lo w:Int):LB:=.var [.i lo,.i w,.win true uB a 0 n]
abbrev rkV (m:Int) (l:List Value) (j:Nat) (p:SV) (b:Int):LB:=.var [.int .i64 m,.pta 256 l j [p],.int .u8 b]
def qsi (m:Int) (j:Nat) (b:Int):Prop:=0<=m/\(0<=b/\b<256)/\j=atD m.toNat b.toNat
def nxT (m:Int) (c:List Int) (t x:Int):Tb:=match decide (0<m) with
 | true=>groV c t x
 | false=>(c,t)
def ctRNo:CtrI:=⟨[RKk],λ x=>qsi x.1.1 x.1.2.1.1.2 x.1.2.2.1,λ _=>[.ptr (BIG+1) 0],λ x=>bkKL 0 [RKk] x⟩
def ctRSw:CtrI:=⟨[RKk,.dat uB],λ x=>qsi x.1.1 x.1.2.1.1.2 x.1.2.2.1/\qpo x.1.2.1.2.1 x.1.2.1.2.2.1 x.2.1,λ _=>[],λ x=>[(BIG,rkV x.1.1 x.1.2.1.1.1 x.1.2.1.1.2 (.ptr (BIG+1) 0) x.2.1),(BIG+1,rtV (nxT x.1.1 x.1.2.1.2.1 x.1.2.1.2.2.1 x.2.1).1 (nxT x.1.1 x.1.2.1.2.1 x.1.2.1.2.2.1 x.2.1).2)]⟩
def ctRCa:CtrI:=⟨[RSk],λ x=>List.length x.1.2.2.1<1000000000,λ _=>[],λ x=>[(BIG,rsV (BIG+1) (List.length x.1.2.2.1) x.1.1 x.1.2.1),(BIG+1,.row 5 uB (carF x.1.2.2.1 (List.length x.1.2.2.1)))]⟩
def CRs:CV:=[(34,.inr ctRNo),(64,.inr ctRTsa)]
def CRa:CV:=[(45,.inr ctRBef),(63,.inr ctRCa)]
set_option maxRecDepth 100000
theorem q3q (l:List Value) (j:Nat) (c:List Int) (m t b x:Int) (Q:List SV->List (Nat × LB)->Prop) (R:List Item->PS->Prop):sA CRs Try.f35 Q R [.code (qah Try.f35)] (qav [RKk,.dat uB] ((m,((l,j),(c,t,())),b,()),x,())) =
  (bc (decide ((0:Int)<m)) (256=256/\256=256/\ctRNo.pre ((m,((l,j),c,t,()),b,()),())/\ctRTsa.pre ((c,t,()),x,())/\Q [] [(1099511627776,LB.var [SV.int .i64 m,SV.pta 256 l j [SV.ptr (1099511627777:Nat) (0:Nat)],SV.int .u8 x]),(1099511627777,LB.var [SV.arr 256 (Sh.int .i64) (groV c t x).fst,SV.int .i64 (groV c t x).snd])]) (Q [] [(1099511627776,LB.var [SV.int .i64 m,SV.pta 256 l j [SV.ptr (1099511627777:Nat) (0:Nat)],SV.int .u8 x]),(1099511627777,LB.var [SV.arr 256 (Sh.int .i64) c,SV.int .i64 t])])):=by kernel_rfl
theorem q46 (l:List Value) (j:Nat) (c:List Int) (m t b:Int) (hp:qsi m j b):GD 34 Try.f34 (QI ctRNo ((m,((l,j),(c,t,())),b,()),())) [.code (qah Try.f34)] (qav [RKk] ((m,((l,j),(c,t,())),b,()),())):=by
 obtain ⟨h0,hb,hj⟩:=hp;refine qbf cx0 (q3s l j c m t b _ _) (qaj (λ h=>?_) (λ h=>?_))
 ·have h:m=2:=of_decide_eq_true h;subst h;have hj:j=b.toNat:=hj;exact ⟨hb.1,hb.2,by omega,hj.symm,QI.self rfl rfl rfl (lk2 rfl rfl)⟩
 ·have h:¬ m=2:=of_decide_eq_false h;have hj:j=0:=by
   rw[hj];have h2:m.toNat≠2:=by omega
   generalize m.toNat=g at h2;unfold atD;split
   ·exact absurd rfl h2
   ·rfl
  exact ⟨by decide,by decide,by decide,hj.symm,QI.self rfl rfl rfl (lk2 rfl rfl)⟩
theorem qm0:HeldI Try.prog G0 34 ctRNo:=HeldI.of cx0 (fn:=Try.f34) rfl rfl ⟨by decide,by decide⟩ λ ⟨⟨m,⟨⟨l,j⟩,⟨c,t,_⟩⟩,b,_⟩,_⟩ hp=>q46 l j c m t b hp
theorem cxRs:CxOK Try.prog tt G0 CRs:=(cx0.consI qxh (fn:=Try.f64) rfl rfl rfl).consI qm0 (fn:=Try.f34) rfl rfl rfl
theorem q4e (l:List Value) (j:Nat) (c:List Int) (m t b x:Int) (hp:qsi m j b) (hx:qpo c t x):GD 35 Try.f35 (QI ctRSw ((m,((l,j),(c,t,())),b,()),x,())) [.code (qah Try.f35)] (qav [RKk,.dat uB] ((m,((l,j),(c,t,())),b,()),x,())):=by
 refine qbf cxRs (q3q l j c m t b x _ _) (qaj (λ h=>?_) (λ h=>?_))
 ·have h:decide (0<m)=true:=h;refine ⟨rfl,rfl,hp,hx,QI.self rfl rfl rfl (lk2 rfl ?_)⟩
  show _=some (rtV (nxT m c t x).1 (nxT m c t x).2)
  unfold nxT;rw[h];rfl
 ·have h:decide (0<m)=false:=h;refine QI.self rfl rfl rfl (lk2 rfl ?_)
  show _=some (rtV (nxT m c t x).1 (nxT m c t x).2)
  unfold nxT;rw[h];rfl
theorem qpa:HeldI Try.prog G0 35 ctRSw:=HeldI.of cxRs (fn:=Try.f35) rfl rfl ⟨by decide,by decide⟩ λ ⟨⟨m,⟨⟨l,j⟩,⟨c,t,_⟩⟩,b,_⟩,x,_⟩ hp=>q4e l j c m t b x hp.1 hp.2
theorem qxq {l0:List Int} {lo w:Int}:∀ (n:Nat) (l:List Int),n<=l.length->l.length=l0.length->l.length<1000000000->carF l n=carF l0 l0.length ->
  GD 63 Try.f63 (QI ctRCa ((lo,w,l0,()),())) (hd Try.f63 0) ⟨[(0,.ptr BIG 0),(2,.i ((n:Int)-1))],[(BIG,rsV (BIG+1) l.length lo w),(BIG+1,.row 5 uB l)]⟩:=by
 have fin:∀ (l:List Int),l.length=l0.length->l=carF l0 l0.length->QI ctRCa ((lo,w,l0,()),()) [] [(BIG,rsV (BIG+1) l.length lo w),(BIG+1,.row 5 uB l)]:=λ l hl hv=>by
  refine QI.self rfl rfl rfl (lk2 ?_ ?_)
  ·show some (rsV (BIG+1) l.length lo w)=some (rsV (BIG+1) l0.length lo w)
   rw[hl]
  ·show some (LB.row 5 uB l)=some (.row 5 uB (carF l0 l0.length))
   rw[hv]
 intro n
 induction n with
 | zero=>
  intro l hn hl hL hv;refine qag cx0 (qtk l lo w _ _ _) ?_;rw[decide_eq_false (by omega),bc_f];exact fin l hl hv
 | succ n ih=>
  intro l hn hl hL hv;refine qag cx0 (qtk l lo w _ _ _) ?_;have e0:((n+1:Nat):Int)-1=(n:Int):=by omega
  rw[e0,decide_eq_true (by omega),bc_t,IntWalk.i64_in ((n:Int)-1) (by omega)];simp only[Int.toNat_natCast,Nat.zero_add];have hnl:n<l.length:=hn;have e1:gt uB (l.set n (IntKind.u8.wrap (gt uB l n+1))) n=IntKind.u8.wrap (gtB l n+1):=by
   show gtB (l.set n (IntKind.u8.wrap (gtB l n+1))) n=_
   rw[qi1 (by rw[List.length_set];exact hnl),List.getElem_set_self]
  rw[e1];rw[carF] at hv;refine ⟨by omega,by omega,hnl,by omega,by omega,hnl,by omega,by omega,by rw[List.length_set];exact hnl,qaj (λ h=>?_) (λ h=>?_)⟩
  ·rw[h] at hv;have:=fin (l.set n (IntKind.u8.wrap (gtB l n+1))) (by rw[List.length_set];exact hl) hv;rw[List.length_set] at this;exact this
  ·rw[h] at hv;have:=ih (l.set n (IntKind.u8.wrap (gtB l n+1))) (by rw[List.length_set];omega) (by rw[List.length_set];exact hl) (by rw[List.length_set];exact hL) hv;rw[List.length_set] at this;exact this.only ⟨rfl,rfl,trivial⟩ ⟨rfl,rfl,trivial⟩
theorem q1m (l:List Int) (lo w:Int) (hp:l.length<1000000000):GD 63 Try.f63 (QI ctRCa ((lo,w,l,()),())) [.code (qah Try.f63)] (qav [RSk] ((lo,w,l,()),())):=by
 refine qbf cx0 (q3v l lo w _ _) ?_;have g:=qxq (l0:=l) (lo:=lo) (w:=w) l.length l (Nat.le_refl _) rfl hp rfl;rw[IntWalk.i64_in ((l.length:Int)-1) (by omega)];exact g.only ⟨rfl,rfl,trivial⟩ ⟨rfl,rfl,trivial⟩
theorem qxr:HeldI Try.prog G0 63 ctRCa:=HeldI.of cx0 (fn:=Try.f63) rfl rfl ⟨by decide,by decide⟩ λ ⟨⟨lo,w,l,_⟩,_⟩ hp=>q1m l lo w hp
theorem cxRa:CxOK Try.prog tt G0 CRa:=(cx0.consI qxr (fn:=Try.f63) rfl rfl rfl).consI qq4 (fn:=Try.f45) rfl rfl rfl
theorem qp6:CxOK Try.prog ttO G0 CRa:=cxRa.tab qev
theorem q3x (l c:List Int) (lo w t x:Int) (Q:List SV->List (Nat × LB)->Prop) (R:List Item->PS->Prop):sy ttO G0 CRa Try.f33.ntmps Try.f33.results.toList Q (λ it S=>R it (qar [0] [BIG,BIG+1,BIG+2] S)) 1000 [.code (qah Try.f33)] (qav [RSk,RTk,.dat uB] ((lo,w,l,()),(c,t,()),x,())) =
  (t≠0/\ctRBef.pre ((c,t,()),x,())/\bc (decide ((4294967296:Int)<=i64.wrap (lo+i64.wrap (i64.wrap (w.tdiv t)*sm (List.take x.toNat c))))) (l.length=l.length/\ctRCa.pre ((i64.wrap (i64.wrap (lo+i64.wrap (i64.wrap (w.tdiv t)*sm (List.take x.toNat c)))-4294967296),w,l,()),())/\(0:Int)<=x/\x<(↑256:Int)/\x.toNat<256/\R (hd Try.f33 (0:Nat)) { env:=[(0,SV.ptr (1099511627776:Nat) (0:Nat))],blk:=[(1099511627776,LB.var [SV.i (i64.wrap (i64.wrap (lo+i64.wrap (i64.wrap (w.tdiv t)*sm (List.take x.toNat c)))-4294967296)),SV.i (i64.wrap (i64.wrap (w.tdiv t)*gt (Sh.int .i64) c x.toNat)),SV.win true uB (1099511627777:Nat) (0:Nat) l.length]),(1099511627777,LB.row (5:Nat) uB (carF l l.length)),(1099511627778,LB.var [SV.arr 256 (Sh.int .i64) c,SV.i t])] }) ((0:Int)<=x/\x<(↑256:Int)/\x.toNat<256/\R (hd Try.f33 (0:Nat)) { env:=[(0,SV.ptr (1099511627776:Nat) (0:Nat))],blk:=[(1099511627776,LB.var [SV.i (i64.wrap (lo+i64.wrap (i64.wrap (w.tdiv t)*sm (List.take x.toNat c)))),SV.i (i64.wrap (i64.wrap (w.tdiv t)*gt (Sh.int .i64) c x.toNat)),SV.win true uB (1099511627777:Nat) (0:Nat) l.length]),(1099511627777,LB.row (5:Nat) uB l),(1099511627778,LB.var [SV.arr 256 (Sh.int .i64) c,SV.i t])] })):=by kernel_rfl
theorem qtn (l c:List Int) (lo w t:Int) (Q:List SV->List (Nat × LB)->Prop) (R:List Item->PS->Prop):sy ttO G0 CRa Try.f33.ntmps Try.f33.results.toList Q (λ it S=>R it (qar [0] [BIG,BIG+1,BIG+2,70] S)) 1000 (hd Try.f33 0) ⟨[(0,.ptr BIG 0)],[(BIG,rsV (BIG+1) l.length lo w),(BIG+1,.row 5 uB l),(BIG+2,rtV c t)]⟩ =
  (bc (decide (w<16777216)) ((16777216:Int)≠0/\0+1<=((List.replicate (1:Nat) uB.dflt).set (0:Nat) (u8.wrap (i64.wrap (lo.tdiv (16777216:Int))))).length/\l.length=l.length/\(0:Nat)=(0:Nat)/\l.length+(winL ((λ self=>self.6) (mkT (1:Nat) (1:Nat) false (TK.int .u8) uB none)) (0:Nat) (1:Nat) ((List.replicate (1:Nat) uB.dflt).set (0:Nat) (u8.wrap (i64.wrap (lo.tdiv (16777216:Int)))))).length<2 ^ 30/\(1:Nat)<=2 ^ 10/\(16777216:Int)≠0/\R (hd Try.f33 (0:Nat)) { env:=[(0,SV.ptr (1099511627776:Nat) (0:Nat))],blk:=[(70,LB.row (5:Nat) uB (l++winL uB 0 1 ((List.replicate (1:Nat) uB.dflt).set (0:Nat) (u8.wrap (i64.wrap (lo.tdiv (16777216:Int))))))),(1099511627776,LB.var [SV.i (i64.wrap (lo.tmod (16777216:Int)*(256:Int))),SV.i (i64.wrap (w*(256:Int))),SV.win true uB (70:Nat) (0:Nat) (l.length+(winL ((λ self=>self.6) (mkT (1:Nat) (1:Nat) false (TK.int .u8) uB none)) (0:Nat) (1:Nat) ((List.replicate (1:Nat) uB.dflt).set (0:Nat) (u8.wrap (i64.wrap (lo.tdiv (16777216:Int)))))).length)]),(1099511627778,LB.var [SV.arr 256 (Sh.int .i64) c,SV.i t])] }) (Q [] [(1099511627776,LB.var [SV.i lo,SV.i w,SV.win true uB (1099511627777:Nat) (0:Nat) l.length]),(1099511627777,LB.row (5:Nat) uB l),(1099511627778,LB.var [SV.arr 256 (Sh.int .i64) c,SV.i t])])):=by kernel_rfl
theorem qtm (l c:List Int) (lo w t:Int) (Q:List SV->List (Nat × LB)->Prop) (R:List Item->PS->Prop):sy ttO G0 CRa Try.f33.ntmps Try.f33.results.toList Q (λ it S=>R it (qar [0] [66,70,BIG,BIG+1,BIG+2] S)) 1000 (hd Try.f33 0) ⟨[(0,.ptr BIG 0)],[(66,.row 5 uB l),(BIG,rsV 66 l.length lo w),(BIG+2,rtV c t)]⟩ =
  (bc (decide (w<16777216)) ((16777216:Int)≠0/\0+1<=((List.replicate (1:Nat) uB.dflt).set (0:Nat) (u8.wrap (i64.wrap (lo.tdiv (16777216:Int))))).length/\l.length=l.length/\(0:Nat)=(0:Nat)/\l.length+(winL ((λ self=>self.6) (mkT (1:Nat) (1:Nat) false (TK.int .u8) uB none)) (0:Nat) (1:Nat) ((List.replicate (1:Nat) uB.dflt).set (0:Nat) (u8.wrap (i64.wrap (lo.tdiv (16777216:Int)))))).length<2 ^ 30/\(1:Nat)<=2 ^ 10/\(16777216:Int)≠0/\R (hd Try.f33 (0:Nat)) { env:=[(0,SV.ptr (1099511627776:Nat) (0:Nat))],blk:=[(70,LB.row (5:Nat) uB (l++winL uB 0 1 ((List.replicate (1:Nat) uB.dflt).set (0:Nat) (u8.wrap (i64.wrap (lo.tdiv (16777216:Int))))))),(1099511627776,LB.var [SV.i (i64.wrap (lo.tmod (16777216:Int)*(256:Int))),SV.i (i64.wrap (w*(256:Int))),SV.win true uB (70:Nat) (0:Nat) (l.length+(winL ((λ self=>self.6) (mkT (1:Nat) (1:Nat) false (TK.int .u8) uB none)) (0:Nat) (1:Nat) ((List.replicate (1:Nat) uB.dflt).set (0:Nat) (u8.wrap (i64.wrap (lo.tdiv (16777216:Int)))))).length)]),(1099511627778,LB.var [SV.arr 256 (Sh.int .i64) c,SV.i t])] }) (Q [] [(66,LB.row (5:Nat) uB l),(1099511627776,LB.var [SV.i lo,SV.i w,SV.win true uB (66:Nat) (0:Nat) l.length]),(1099511627778,LB.var [SV.arr 256 (Sh.int .i64) c,SV.i t])])):=by kernel_rfl
abbrev GDO (f:Nat) (fn:Func) (Q:List SV->List (Nat × LB)->Prop) (it:List Item) (S:PS):Prop:=Px.Good Try.prog ttO G0 f fn.ntmps fn.results.toList Q it S
abbrev RAs:List AK:=[RSk,RTk,.dat uB]
def qu1 (l c:List Int) (lo w t x:Int):Prop:=WI l lo w/\l.length<1000000/\qpo c t x
def ctRAd0:CtrI:=⟨RAs,λ x=>qu1 x.1.2.2.1 x.2.1.1 x.1.1 x.1.2.1 x.2.1.2.1 x.2.2.1/\¬ wid2 x.2.1.1 x.1.2.1 x.2.1.2.1 x.2.2.1<16777216,λ _=>[],λ x=>[(BIG,rsV (BIG+1) (qa6 x.1.2.2.1 x.2.1.1 x.1.1 x.1.2.1 x.2.1.2.1 x.2.2.1).length (lowV x.2.1.1 x.1.1 x.1.2.1 x.2.1.2.1 x.2.2.1) (wid2 x.2.1.1 x.1.2.1 x.2.1.2.1 x.2.2.1)),(BIG+1,.row 5 uB (qa6 x.1.2.2.1 x.2.1.1 x.1.1 x.1.2.1 x.2.1.2.1 x.2.2.1)),(BIG+2,rtV x.2.1.1 x.2.1.2.1)]⟩
def ctRAd1:CtrI:=⟨RAs,λ x=>qu1 x.1.2.2.1 x.2.1.1 x.1.1 x.1.2.1 x.2.1.2.1 x.2.2.1/\wid2 x.2.1.1 x.1.2.1 x.2.1.2.1 x.2.2.1<16777216,λ _=>[],λ x=>[(BIG,rsV 0 (putV x.1.2.2.1 x.2.1.1 x.1.1 x.1.2.1 x.2.1.2.1 x.2.2.1).1.length (putV x.1.2.2.1 x.2.1.1 x.1.1 x.1.2.1 x.2.1.2.1 x.2.2.1).2.1 (putV x.1.2.2.1 x.2.1.1 x.1.1 x.1.2.1 x.2.1.2.1 x.2.2.1).2.2),(0,.row 5 uB (putV x.1.2.2.1 x.2.1.1 x.1.1 x.1.2.1 x.2.1.2.1 x.2.2.1).1),(BIG+2,rtV x.2.1.1 x.2.1.2.1)]⟩
theorem qun {l c:List Int} {lo w t b:Int} {V:List Int × Int × Int} (hv:putV l c lo w t b=V) {a n:Nat} (ha:a<BIG) (hn:n=V.1.length) {blk:List (Nat × LB)} (h1:lk blk BIG=some (rsV a n V.2.1 V.2.2)) (h2:lk blk a=some (.row 5 uB V.1)) (h3:lk blk (BIG+2)=some (rtV c t)):QI ctRAd1 ((lo,w,l,()),(c,t,()),b,()) [] blk:=by
 subst hn;subst hv;have p0:piOf [(0,a)] 0=some a:=rfl;have pB:∀ i,BIG<=i->piOf [(0,a)] i=some i:=λ i hi=>by
  unfold piOf;rw[decide_eq_true hi]
 refine ⟨[(0,a)],rfl,⟨.inl ⟨BIG,_,pB _ (Nat.le_refl _),h1,?_⟩,.inl ⟨a,_,p0,h2,rfl⟩,.inl ⟨BIG+2,_,pB _ (by omega),h3,_,rfl,qbt _ _ rfl⟩,trivial⟩,by simp,λ p hp=>?_⟩
 ·exact ⟨_,rfl,_,_,rfl,rfl,_,_,rfl,rfl,_,_,rfl,.inl ⟨true,a,rfl,p0,λ _=>rfl⟩,rfl⟩
 ·rw[List.mem_singleton] at hp;subst hp;exact ha
theorem q4p {lo:Int} (h:0<=lo/\lo<4294967296) (l:List Int):l++[u8.wrap (i64.wrap (lo.tdiv 16777216))]=wshL l lo/\i64.wrap (lo.tmod 16777216*256)=u32.wrap (lo*2 ^ 8):=by
 have e1:i64.wrap (lo.tdiv 16777216)=lo.fdiv (2 ^ 24):=by
  rw[Int.fdiv_eq_ediv_of_nonneg _ (by decide),Int.tdiv_eq_ediv_of_nonneg h.1]
  show i64.wrap (lo / 16777216)=lo / 16777216
  exact IntWalk.i64_in _ (by omega)
 refine ⟨by rw[e1];rfl,?_⟩;rw[Int.tmod_eq_emod_of_nonneg h.1,IntWalk.i64_in _ (by omega),IntKind.wrap_u32]
 show lo % 16777216*256=lo*256 % _
 omega
theorem qzn (lo:Int):0<=u32.wrap (lo*2 ^ 8)/\u32.wrap (lo*2 ^ 8)<4294967296:=by
 rw[IntKind.wrap_u32];exact ⟨Int.emod_nonneg _ (by decide),Int.emod_lt_of_pos _ (by decide)⟩
theorem w_sh {w:Int} (h0:0<=w) (h:w<16777216):i64.wrap (w*256)=w*256/\u32.wrap (w*2 ^ 8)=w*256:=⟨IntWalk.i64_in _ (by omega),IntWalk.u32_in _ (by show 0<=w*256/\w*256<=_;omega)⟩
theorem qup {l0 c:List Int} {lo0 w0 t b:Int}:∀ (f:Nat) (l:List Int) (lo w:Int),0<=w->16777216<=w*256 ^ f->(0<=lo/\lo<4294967296)->l.length+f<200000000->putV l0 c lo0 w0 t b=putF f l lo w ->
  GDO 33 Try.f33 (QI ctRAd1 ((lo0,w0,l0,()),(c,t,()),b,())) (hd Try.f33 0) ⟨[(0,.ptr BIG 0)],[(66,.row 5 uB l),(BIG,rsV 66 l.length lo w),(BIG+2,rtV c t)]⟩:=by
 intro f
 induction f with
 | zero=>
  intro l lo w hw0 ho h0 hl hv;have ho:¬ w<16777216:=by simp at ho;omega
  refine qag qp6 (qtm l c lo w t _ _) ?_;rw[decide_eq_false ho,bc_f];exact qun (V:=(l,lo,w)) hv (a:=66) (by decide) rfl rfl rfl rfl
 | succ f ih=>
  intro l lo w hw0 ho h0 hl hv;refine qag qp6 (qtm l c lo w t _ _) (qaj (λ h=>?_) (λ h=>?_))
  ·have h2:w<16777216:=of_decide_eq_true h;rw[putF,h] at hv;have hL:(wshL l lo).length=l.length+1:=by show (l++[_]).length=_;rw[List.length_append];rfl
   obtain ⟨w1,w2⟩:=w_sh hw0 h2;obtain ⟨s1,s2⟩:=q4p h0 l;have hv:putV l0 c lo0 w0 t b=putF f (wshL l lo) (u32.wrap (lo*2 ^ 8)) (w*256):=by rw[<- w2];exact hv
   have nx:=ih (wshL l lo) (u32.wrap (lo*2 ^ 8)) (w*256) (by omega) (by rw[<- qpp];exact ho) (qzn lo) (by rw[hL];omega) hv;rw[w1,s2];refine ⟨by decide,Nat.le_refl 1,rfl,rfl,?_,by decide,by decide,?_⟩
   ·show l.length+1<2 ^ 30;omega
   ·refine Good.onlyR nx [(66,70)] rfl ⟨rfl,trivial⟩ ⟨?_,?_,rfl,trivial⟩
    ·show some (LB.row 5 uB (l++[u8.wrap (i64.wrap (lo.tdiv 16777216))]))=some (.row 5 uB (wshL l lo))
     rw[s1]
    ·show some (rsV 70 (l.length+1) _ _)=some (rsV 70 (wshL l lo).length _ _)
     rw[hL]
  ·have h2:¬ w<16777216:=of_decide_eq_false h;rw[putF,h] at hv;exact qun (V:=(l,lo,w)) hv (a:=66) (by decide) rfl rfl rfl rfl
theorem qn4 {Q:List SV->List (Nat × LB)->Prop} {l c:List Int} {lo w t:Int} {x:Nat} (hW:WI l lo w) (hl:l.length<1000000) (ht:qa7 c t) (hx:x<256)
  (g:GDO 33 Try.f33 Q (hd Try.f33 0) ⟨[(0,.ptr BIG 0)],[(BIG,rsV (BIG+1) (qa6 l c lo w t x).length (lowV c lo w t x) (wid2 c w t x)),(BIG+1,.row 5 uB (qa6 l c lo w t x)),(BIG+2,rtV c t)]⟩) :
  GDO 33 Try.f33 Q [.code (qah Try.f33)] (qav RAs ((lo,w,l,()),(c,t,()),(x:Int),())):=by
 obtain ⟨p1,p2,p3,p4,p5,p6,p7,p8⟩:=qmq hW ht hx;have hT:=qe0 ht;have hg:=qew ht hx;have hw:=hW.wk;have h1:=hw.1;have h2:=hw.2;have h0:=hW.lo0;have hs:=qb5 ht x;have eu:i64.wrap (w.tdiv t)=uu w t:=by
  rw[Int.tdiv_eq_ediv_of_nonneg (by omega)];exact IntWalk.i64_in _ (by have:uu w t=w / t:=rfl;have:=Int.ediv_le_self t (show 0<=w by omega);omega)
 have m1:0<=uu w t*sm (c.take x):=Int.mul_nonneg (by omega) hs.1;have m3:0<=uu w t*gtU c x:=Int.mul_nonneg (by omega) (by omega);have eg:gt (Sh.int .i64) c (x:Int).toNat=gtU c x:=by rw[Int.toNat_natCast];rfl
 have u1:=(qg2 hw hT.1 hT.2).1;have eM:qoc c w t x=uu w t*sm (c.take x):=by
  unfold qoc;rw[Int.toNat_natCast,qwt ht x (by omega),u1];exact IntWalk.u32_in _ (by show 0<=uu w t*_/\uu w t*_<=_;omega)
 have eL:lowV c lo w t x=(lo+uu w t*sm (c.take x)) % 4294967296:=by
  unfold lowV;rw[eM,IntKind.wrap_u32]
 rw[p5] at g;have hx0:(0:Int)<=x:=by omega
 have hx1:(x:Int)<256:=by omega
 refine qag qp6 (q3x l c lo w t x _ _) ⟨by omega,⟨ht,hx0,hx1⟩,?_⟩;rw[eu,eg,Int.toNat_natCast,IntWalk.i64_in (uu w t*sm (c.take x)) (by omega),IntWalk.i64_in (uu w t*gtU c x) (by omega)];unfold qa6 at g;rw[eM] at g;generalize uu w t*sm (c.take x)=A at *;generalize uu w t*gtU c x=B at *;rw[IntWalk.i64_in (lo+A) (by omega)];refine qaj (λ h=>?_) (λ h=>?_)
 ·have h:4294967296<=lo+A:=of_decide_eq_true h;have e1:lowV c lo w t x=lo+A-4294967296:=by rw[eL];omega
  rw[IntWalk.i64_in (lo+A-4294967296) (by omega)];rw[e1,decide_eq_true (by omega)] at g;have g:GDO 33 Try.f33 Q (hd Try.f33 0) ⟨[(0,.ptr BIG 0)],[(BIG,rsV (BIG+1) (carF l l.length).length (lo+A-4294967296) B),(BIG+1,.row 5 uB (carF l l.length)),(BIG+2,rtV c t)]⟩:=g;rw[qh0] at g;exact ⟨rfl,(show l.length<1000000000 by omega),by omega,by omega,by omega,g.only ⟨rfl,trivial⟩ ⟨rfl,rfl,rfl,trivial⟩⟩
 ·have h:¬ 4294967296<=lo+A:=of_decide_eq_false h;have e1:lowV c lo w t x=lo+A:=by rw[eL];omega
  rw[e1,decide_eq_false (by omega)] at g;exact ⟨by omega,by omega,by omega,g.only ⟨rfl,trivial⟩ ⟨rfl,rfl,rfl,trivial⟩⟩
theorem qxu {l c:List Int} {lo w t:Int} {x:Nat} (hW:WI l lo w) (hl:l.length<1000000) (ht:qa7 c t) (hx:x<256) (hw:¬ wid2 c w t x<16777216):GDO 33 Try.f33 (QI ctRAd0 ((lo,w,l,()),(c,t,()),(x:Int),())) [.code (qah Try.f33)] (qav RAs ((lo,w,l,()),(c,t,()),(x:Int),())):=by
 refine qn4 hW hl ht hx ?_;refine qag qp6 (qtn _ c _ _ t _ _) ?_;rw[decide_eq_false hw,bc_f];exact QI.self rfl rfl rfl (lk3 rfl rfl rfl)
theorem qxt {l c:List Int} {lo w t:Int} {x:Nat} (hW:WI l lo w) (hl:l.length<1000000) (ht:qa7 c t) (hx:x<256) (hw:wid2 c w t x<16777216):GDO 33 Try.f33 (QI ctRAd1 ((lo,w,l,()),(c,t,()),(x:Int),())) [.code (qah Try.f33)] (qav RAs ((lo,w,l,()),(c,t,()),(x:Int),())):=by
 obtain ⟨p1,p2,p3,p4,p5,p6,p7,p8⟩:=qmq hW ht hx;have q:=qqg ht hW.wk (x:=(x:Int)) ⟨by omega,by omega⟩;have hg:=qew ht hx;have m4:0<=wid2 c w t x:=by rw[p5];exact Int.mul_nonneg (by omega) (by omega)
 refine qn4 hW hl ht hx ?_;have hv:putV l c lo w t x=putF 3 (wshL (qa6 l c lo w t x) (lowV c lo w t x)) (u32.wrap (lowV c lo w t x*2 ^ 8)) (u32.wrap (wid2 c w t x*2 ^ 8)):=by
  unfold putV;rw[putF,decide_eq_true hw]
 rw[<- p2] at hl;obtain ⟨w1,w2⟩:=w_sh m4 hw;obtain ⟨s1,s2⟩:=q4p p3 (qa6 l c lo w t x);rw[w2] at hv;generalize qa6 l c lo w t x=l' at *;generalize lowV c lo w t x=lo' at *;generalize wid2 c w t x=w' at *;refine qag qp6 (qtn l' c lo' w' t _ _) ?_;have hS:(wshL l' lo').length=l'.length+1:=by show (l'++[_]).length=_;rw[List.length_append];rfl
 rw[decide_eq_true hw,bc_t,w1,s2];have nx:=qup 3 (wshL l' lo') (u32.wrap (lo'*2 ^ 8)) (w'*256) (by omega) (by rw[<- qpp];exact q.1) (qzn lo') (by rw[hS];omega) hv;refine ⟨by decide,Nat.le_refl 1,rfl,rfl,?_,by decide,by decide,?_⟩
 ·show l'.length+1<2 ^ 30;omega
 ·refine Good.onlyR nx [(66,70)] rfl ⟨rfl,trivial⟩ ⟨?_,?_,rfl,trivial⟩
  ·show some (LB.row 5 uB (l'++[u8.wrap (i64.wrap (lo'.tdiv 16777216))]))=some (.row 5 uB (wshL l' lo'))
   rw[s1]
  ·show some (rsV 70 (l'.length+1) _ _)=some (rsV 70 (wshL l' lo').length _ _)
   rw[hS]
theorem qur:HeldI Try.prog G0 33 ctRAd0:=HeldI.of qp6 (fn:=Try.f33) rfl rfl ⟨by decide,by decide⟩ λ ⟨⟨lo,w,l,_⟩,⟨c,t,_⟩,b,_⟩ hp=>by
 obtain ⟨⟨hW,hl,ht,h0,h1⟩,hw⟩:qu1 l c lo w t b/\¬ wid2 c w t b<16777216:=hp;obtain ⟨n,rfl⟩:=Int.eq_ofNat_of_zero_le h0;exact qxu hW hl ht (Int.ofNat_lt.1 h1) hw
theorem quq:HeldI Try.prog G0 33 ctRAd1:=HeldI.of qp6 (fn:=Try.f33) rfl rfl ⟨by decide,by decide⟩ λ ⟨⟨lo,w,l,_⟩,⟨c,t,_⟩,b,_⟩ hp=>by
 obtain ⟨⟨hW,hl,ht,h0,h1⟩,hw⟩:qu1 l c lo w t b/\wid2 c w t b<16777216:=hp;obtain ⟨n,rfl⟩:=Int.eq_ofNat_of_zero_le h0;exact qxt hW hl ht (Int.ofNat_lt.1 h1) hw
def CRb:CV:=[(62,.inr ctRFre)]
def begB (m:Int):List (Nat × LB):=(7,.var ([.i m]++(ptrL 100 256++[.u 0])))::(List.range 256).map λ k=>(100+k,rtV c1L 256)
set_option maxRecDepth 100000
theorem q38 (m:Int) (Q:List SV->List (Nat × LB)->Prop) (R:List Item->PS->Prop):sy ttO G0 CRb Try.f32.ntmps Try.f32.results.toList Q R 1000 [.code (qah Try.f32)] (entry [iI] (m,())) =
  (R (hd Try.f32 (0:Nat)) { env:=[(0,SV.i m),(2,SV.nilp),(3,SV.ptr (7:Nat) (0:Nat)),(4,SV.i (0:Int)),(5,SV.i m),(6,SV.agg [SV.i m,SV.pta 256 (List.replicate 256 (Value.pointer none)) 256 [SV.nilp],SV.u (0:Int)]),(7,SV.ptr (7:Nat) (0:Nat))],blk:=[(7,LB.var [SV.i m,SV.pta 256 (List.replicate 256 (Value.pointer none)) 256 [SV.nilp],SV.u (0:Int)])] }):=by kernel_rfl
theorem q07 (m:Int) (V:List Value) (j:Nat) (i:Int) (Q:List SV->List (Nat × LB)->Prop) (R:List Item->PS->Prop):sy ttO G0 CRb Try.f32.ntmps Try.f32.results.toList Q R 1000 (hd Try.f32 0) ⟨[(3,.ptr 7 0),(4,.int .i64 i)],[(7,rkV m V j .nilp 0)]⟩ =
  (bc (decide (i<256)) (ctRFre.pre ()/\(0:Int)<=i/\i<(↑256:Int)/\i.toNat<256/\i.toNat=j/\R (hd Try.f32 (0:Nat)) { env:=[(3,SV.ptr (7:Nat) (0:Nat)),(4,SV.int .i64 (IntKind.i64.wrap (i+1))),(8,SV.int .i64 i),(9,SV.bool (decide (i<256))),(10,SV.int .i64 i),(11,SV.int .i64 (IntKind.i64.wrap (i+1))),(12,SV.ptr (7:Nat) (0:Nat)),(13,SV.int .i64 i),(14,SV.ptr (1057344:Nat) (0:Nat)),(15,SV.ptr (7:Nat) (0:Nat)),(16,SV.ptr (7:Nat) (1:Nat)),(17,SV.aep Sh.bool (7:Nat) (1:Nat) i.toNat (0:Nat))],blk:=[(7,LB.var [SV.int .i64 m,SV.pta 256 V j [SV.ptr (1057344:Nat) (0:Nat)],SV.int .u8 (0:Int)]),(1057344,LB.var [SV.arr 256 (Sh.int .i64) c1L,SV.int .i64 (256:Int)])] }) (Q [SV.ptr (7:Nat) (0:Nat)] [(7,LB.var [SV.int .i64 m,SV.pta 256 V j [SV.nilp],SV.int .u8 (0:Int)])])):=by kernel_rfl
theorem q08 (m:Int) (Q:List SV->List (Nat × LB)->Prop) (R:List Item->PS->Prop):sy ttO G0 CRb Try.f32.ntmps Try.f32.results.toList Q R 1000 (hd Try.f32 0) ⟨[(3,.ptr 7 0),(4,.i 256)],begB m⟩=Q [.ptr 7 0] (begB m):=by kernel_rfl
theorem qm5 {α:Type} {f:Nat->α} {g t:Nat} {x:α}:∀ {L:List Nat},lk (L.map λ k=>(g+k,f k)) t=some x->∃ k∈L,t=g+k/\x=f k
 | [],h=>by simp[lk] at h
 | k::L,h=>by
  simp only[List.map_cons,lk] at h;split at h
  next e=>cases h;exact ⟨k,List.mem_cons_self ..,e.symm,rfl⟩
  ·obtain ⟨k',h1,h2⟩:=qm5 h;exact ⟨k',List.mem_cons_of_mem _ h1,h2⟩
theorem qog {α:Type} {f:Nat->α} {g k:Nat}:∀ {L:List Nat},k∈L->lk (L.map λ k=>(g+k,f k)) (g+k)=some (f k)
 | i::L,h=>by
  simp only[List.map_cons,lk];by_cases e:i=k
  ·subst e;rw[if_pos rfl]
  ·rw[if_neg (by omega)];exact qog ((List.mem_cons.1 h).resolve_left λ q=>e q.symm)
def farN (g m:Nat) (S:PS):Bool:=(S.env.all λ p=>(ids p.2).all λ i=>decide (i<g) || decide (g+m<=i))&&S.blk.all λ p=>(decide (p.1<g) || decide (g+m<=p.1))&&(idsB p.2).all λ i=>decide (i<g) || decide (g+m<=i)
theorem q2q {g m:Nat} {S:PS} (h:farN g m S=true):∀ t x,lk S.env t=some x->∀ i,ment i x=true->i<g\/g+m<=i:=λ t x e i hi=>by
 simp only[farN,Bool.and_eq_true,List.all_eq_true,Bool.or_eq_true,decide_eq_true_eq] at h;exact h.1 (t,x) (qa4 e) i (qm3 x hi)
theorem q2r {g m:Nat} {S:PS} (h:farN g m S=true):∀ t x,lk S.blk t=some x->(t<g\/g+m<=t)/\∀ i,qey i x=true->i<g\/g+m<=i:=λ t x e=>by
 simp only[farN,Bool.and_eq_true,List.all_eq_true,Bool.or_eq_true,decide_eq_true_eq] at h;have:=h.2 (t,x) (qa4 e);exact ⟨this.1,λ i hi=>this.2 i (qrd hi)⟩
abbrev tbR (p:Tb):List SV:=[.arr 256 iI p.1,.i p.2]
theorem qot (p:Tb):FixL (tbR p):=⟨rfl,λ Z ν cs h Z' ν'=>by
 simp only[CRL,CR] at h |-;obtain ⟨u,w,rfl,h1,h2⟩:=h
 exact ⟨u,w,rfl,RV.plain (.arr 256 iI) rfl _ _ h1,h2⟩⟩
def ctRBeg:CtrI:=⟨[.dat iI],λ _=>True,λ _=>[.ptr 7 0],λ x=>begB x.1⟩
theorem cxRb:CxOK Try.prog ttO G0 CRb:=CxOK.tab (cx0.consI qyl (fn:=Try.f62) rfl rfl rfl) qev
def begT:List (Nat × Nat):=(7,7)::(List.range 256).map λ k=>(100+k,100+k)
theorem qwr {k:Nat} (h:k<256):piOf begT (100+k)=some (100+k):=by
 unfold piOf;rw[decide_eq_false (by have:BIG=1099511627776:=rfl;omega)]
 show lk begT (100+k)=_
 unfold begT;simp only[lk];rw[if_neg (by omega)];exact qog (f:=λ k=>100+k) (List.mem_range.2 h)
theorem qvj {π:Nat->Option Nat} {g:Nat} {r:List SV} (hr:MtL π r r):∀ {L:List Nat},(∀ k∈L,π (g+k)=some (g+k))->MtL π ((L.map λ k=>SV.ptr (g+k) 0)++r) ((L.map λ k=>SV.ptr (g+k) 0)++r)
 | [],_=>hr
 | k::L,h=>⟨_,_,rfl,⟨_,rfl,h k (List.mem_cons_self ..)⟩,qvj hr λ k hk=>h k (List.mem_cons_of_mem _ hk)⟩
theorem qvk {π:Nat->Option Nat} {blk:List (Nat × LB)}:∀ {l:List (Nat × LB)},(∀ p∈l,π p.1=some p.1/\lk blk p.1=some p.2/\MtB π p.2 p.2)->MtK π blk l
 | [],_=>trivial
 | (i,b)::l,h=>⟨.inl ⟨i,b,(h _ (List.mem_cons_self ..)).1,(h _ (List.mem_cons_self ..)).2.1,(h _ (List.mem_cons_self ..)).2.2⟩,qvk λ p hp=>h p (List.mem_cons_of_mem _ hp)⟩
theorem q3b (m:Int):QI ctRBeg (m,()) [.ptr 7 0] (begB m):=by
 refine ⟨begT,⟨_,_,rfl,⟨7,rfl,rfl⟩,rfl⟩,qvk λ p hp=>?_,by decide +kernel,λ p hp=>?_⟩
 ·rcases List.mem_cons.1 hp with rfl | hp
  ·refine ⟨rfl,rfl,_,rfl,_,_,rfl,rfl,?_⟩;exact qvj (π:=piOf begT) (g:=100) (r:=[SV.u 0]) ⟨_,_,rfl,rfl,rfl⟩ λ k hk=>qwr (List.mem_range.1 hk)
  ·obtain ⟨k,hk,rfl⟩:=List.mem_map.1 hp;have hk:=List.mem_range.1 hk;refine ⟨qwr hk,?_,_,rfl,qbt _ _ rfl⟩
   show lk (begB m) (100+k)=_
   unfold begB;simp only[lk];rw[if_neg (by omega)];exact qog (f:=λ _=>rtV c1L 256) (List.mem_range.2 hk)
 ·rcases List.mem_cons.1 hp with rfl | hp
  ·decide
  ·obtain ⟨k,hk,rfl⟩:=List.mem_map.1 hp;have hk:=List.mem_range.1 hk;have:BIG=1099511627776:=rfl
   show 100+k<BIG
   omega
abbrev qws (i:Nat):Nat->Option (List SV):=λ k=>if k<i then some (tbR (c1L,256)) else none
theorem qy0 {m:Int}:∀ (k i:Nat) (V:List Value),256-i=k->i<=256->Px.GoodT Try.prog G0 32 Try.f32.ntmps (endK ttO G0 Try.f32.results.toList (QI ctRBeg (m,()))) V (qws i) 256 (hd Try.f32 0) ⟨[(3,.ptr 7 0),(4,.int .i64 (i:Nat))],[(7,rkV m V 256 .nilp 0)]⟩:=by
 intro k
 induction k with
 | zero=>
  intro i V hk hi;have hi:i=256:=by omega
  subst hi;have g:Px.Good Try.prog ttO G0 32 Try.f32.ntmps Try.f32.results.toList (QI ctRBeg (m,())) (hd Try.f32 0) ⟨[(3,.ptr 7 0),(4,.int .i64 256)],begB m⟩:=qbf cxRb (q08 m _ _) (q3b m);refine GoodT.explode (S:=⟨[(3,.ptr 7 0),(4,.int .i64 256)],[(7,rkV m V 256 .nilp 0)]⟩) (q:=7) (m:=256) (g0:=100) (p:=[.int .i64 m]) (r:=[.int .u8 0]) (s:=λ _=>tbR (c1L,256)) (Sx:=⟨[(3,.ptr 7 0),(4,.int .i64 256)],begB m⟩) rfl rfl (.inl (by decide)) (by decide) (q2q (by rfl)) (q2r (by rfl)) (λ t x h=>h) (λ t x h=>?_) _ (λ k hk=>by show (if k<256 then _ else _)=_;rw[if_pos hk]) λ g'=>GoodE.any rfl qf6 g g'
  have h:lk (begB m) t=some x:=h;unfold begB at h;simp only[lk] at h;split at h
  next e=>cases h;exact .inl ⟨e.symm,rfl⟩
  ·obtain ⟨k,h1,h2,h3⟩:=qm5 (f:=λ _=>rtV c1L 256) h;exact .inr (.inl ⟨k,List.mem_range.1 h1,h2,h3⟩)
 | succ k ih=>
  intro i V hk hi;refine GoodT.open0P (q:=7) (p:=[.int .i64 m]) (r:=[.int .u8 0]) rfl (b:=i) (by omega) (by show (if i<i then _ else _)=_;rw[if_neg (Nat.lt_irrefl i)]) ?_;refine GoodT.go cxRb (q07 m V i i _ _) ?_;rw[decide_eq_true (show (i:Int)<256 by omega),bc_t,IntWalk.i64_in ((i:Int)+1) (by omega),Int.toNat_natCast];refine ⟨trivial,by omega,by omega,by omega,rfl,?_⟩;have nx:∀ V',Px.GoodT Try.prog G0 32 Try.f32.ntmps (endK ttO G0 Try.f32.results.toList (QI ctRBeg (m,()))) V' (λ k=>if k=i then some (tbR (c1L,256)) else qws i k) 256 (hd Try.f32 0) ⟨[(3,.ptr 7 0),(4,.int .i64 ((i+1:Nat):Int))],[(7,rkV m V' 256 .nilp 0)]⟩:=λ V'=>by
   have e:(λ k=>if k=i then some (tbR (c1L,256)) else qws i k)=qws (i+1):=by
    funext k
    show (if k=i then _ else if k<i then _ else _)=if k<i+1 then _ else _
    by_cases h1:k=i
    ·rw[if_pos h1,if_pos (by omega)]
    ·by_cases h2:k<i
     ·rw[if_neg h1,if_pos h2,if_pos (by omega)]
     ·rw[if_neg h1,if_neg h2,if_neg (by omega)]
   rw[e];exact ih (i+1) V' (by omega) (by omega)
  have cl:=GoodT.closeP (S:=⟨[(3,.ptr 7 0),(4,.int .i64 ((i+1:Nat):Int))],[(7,rkV m V i (.ptr 1057344 0) 0),(1057344,rtV c1L 256)]⟩) (q:=7) (id:=1057344) (m:=256) (p:=[.int .i64 m]) (r:=[.int .u8 0]) (s:=tbR (c1L,256)) rfl (show i<256 by omega) rfl (qot _) (by decide) nx;exact cl.only ⟨rfl,rfl,trivial⟩ ⟨rfl,rfl,trivial⟩
theorem qnj:HeldI Try.prog G0 32 ctRBeg:=HeldI.of cxRb (fn:=Try.f32) rfl rfl ⟨by decide,by decide⟩ λ ⟨m,_⟩ _=>by
 refine qbf cxRb (q38 m _ _) ?_;have g:=qy0 (m:=m) 256 0 noT rfl (by decide);have e:qws 0=λ _=>none:=by
  funext k
  show (if k<0 then _ else _)=_
  rw[if_neg (Nat.not_lt_zero k)]
 rw[e] at g;have g:Px.Good Try.prog ttO G0 32 Try.f32.ntmps Try.f32.results.toList (QI ctRBeg (m,())) _ _:=GoodT.start (m:=256) g (0,false);exact g.only ⟨rfl,rfl,trivial⟩ ⟨rfl,trivial⟩
def CE0:CV:=[(32,.inr ctRBeg),(34,.inr ctRNo),(33,.inr ctRAd0),(35,.inr ctRSw)]
def CE1:CV:=[(32,.inr ctRBeg),(34,.inr ctRNo),(33,.inr ctRAd1),(35,.inr ctRSw)]
set_option maxRecDepth 100000
theorem qth (b l c:List Int) (V:List Value) (j:Nat) (m z lo w t:Int) (i:Nat) (Q:List SV->List (Nat × LB)->Prop) (R:List Item->PS->Prop):sy ttO G0 CE0 Try.f16.ntmps Try.f16.results.toList Q (λ it S=>R it (qar [1,6,7,8,9] [22,66,74,77,88,1147456] S)) 1000 (hd Try.f16 0) ⟨[(1,.sl uB b),(6,.ptr 88 0),(7,.ptr 22 0),(8,.int .i64 (i:Nat))],[(22,rsV 66 l.length lo w),(66,.row 5 uB l),(77,rtV c t),(88,rkV m V j (.ptr 77 0) z)]⟩ =
  (bc (decide ((↑i:Int)<(↑b.length:Int))) (256=256/\256=256/\ctRNo.pre ((m,((V,j),c,t,()),z,()),())/\(0:Int)<=(↑i:Int)/\(↑i:Int)<(↑b.length:Int)/\l.length=l.length/\ctRAd0.pre ((lo,w,l,()),(c,t,()),gt uB b (↑i:Int).toNat,())/\(0:Int)<=(↑i:Int)/\(↑i:Int)<(↑b.length:Int)/\256=256/\256=256/\ctRSw.pre ((m,((V,j),c,t,()),z,()),gt uB b (↑i:Int).toNat,())/\R (hd Try.f16 (0:Nat)) { env:=[(1,SV.sl uB b),(6,SV.ptr (88:Nat) (0:Nat)),(7,SV.ptr (22:Nat) (0:Nat)),(8,SV.int .i64 (i64.wrap ((↑i:Int)+1)))],blk:=[(22,LB.var [SV.int .i64 (lowV c lo w t (gt uB b (↑i:Int).toNat)),SV.int .i64 (wid2 c w t (gt uB b (↑i:Int).toNat)),SV.win true uB (66:Nat) (0:Nat) (qa6 l c lo w t (gt uB b (↑i:Int).toNat)).length]),(66,LB.row (5:Nat) uB (qa6 l c lo w t (gt uB b (↑i:Int).toNat))),(77,LB.var [SV.arr 256 (Sh.int .i64) (nxT m c t (gt uB b (↑i:Int).toNat)).fst,SV.int .i64 (nxT m c t (gt uB b (↑i:Int).toNat)).snd]),(88,LB.var [SV.int .i64 m,SV.pta 256 V j [SV.ptr (77:Nat) (0:Nat)],SV.int .u8 (gt uB b (↑i:Int).toNat)])] }) ((16777216:Int)≠0/\(65536:Int)≠0/\(256:Int)≠0/\(256:Int)≠0/\(256:Int)≠0/\(256:Int)≠0/\0+4<=(((((List.replicate (4:Nat) uB.dflt).set (0:Nat) (u8.wrap (i64.wrap (lo.tdiv (16777216:Int))))).set (1:Nat) (u8.wrap ((i64.wrap (lo.tdiv (65536:Int))).tmod (256:Int)))).set (2:Nat) (u8.wrap ((i64.wrap (lo.tdiv (256:Int))).tmod (256:Int)))).set (3:Nat) (u8.wrap (lo.tmod (256:Int)))).length/\l.length=l.length/\(0:Nat)=(0:Nat)/\l.length+(winL uB 0 4 (((((List.replicate (4:Nat) uB.dflt).set (0:Nat) (u8.wrap (i64.wrap (lo.tdiv (16777216:Int))))).set (1:Nat) (u8.wrap ((i64.wrap (lo.tdiv (65536:Int))).tmod (256:Int)))).set (2:Nat) (u8.wrap ((i64.wrap (lo.tdiv (256:Int))).tmod (256:Int)))).set (3:Nat) (u8.wrap (lo.tmod (256:Int))))).length<2 ^ 30/\(1:Nat)<=2 ^ 10/\R (hd Try.f16 (1:Nat)) { env:=[(1,SV.sl uB b),(6,SV.ptr (88:Nat) (0:Nat)),(7,SV.ptr (22:Nat) (0:Nat)),(8,SV.int .i64 (↑i:Int)),(9,SV.win true uB (74:Nat) (0:Nat) (l.length+(winL uB 0 4 (((((List.replicate (4:Nat) uB.dflt).set (0:Nat) (u8.wrap (i64.wrap (lo.tdiv (16777216:Int))))).set (1:Nat) (u8.wrap ((i64.wrap (lo.tdiv (65536:Int))).tmod (256:Int)))).set (2:Nat) (u8.wrap ((i64.wrap (lo.tdiv (256:Int))).tmod (256:Int)))).set (3:Nat) (u8.wrap (lo.tmod (256:Int))))).length))],blk:=[(22,LB.var [SV.int .i64 lo,SV.int .i64 w,SV.dead]),(74,LB.row (5:Nat) uB (l++winL uB 0 4 (((((List.replicate (4:Nat) uB.dflt).set (0:Nat) (u8.wrap (i64.wrap (lo.tdiv (16777216:Int))))).set (1:Nat) (u8.wrap ((i64.wrap (lo.tdiv (65536:Int))).tmod (256:Int)))).set (2:Nat) (u8.wrap ((i64.wrap (lo.tdiv (256:Int))).tmod (256:Int)))).set (3:Nat) (u8.wrap (lo.tmod (256:Int)))))),(77,LB.var [SV.arr 256 (Sh.int .i64) c,SV.int .i64 t]),(88,LB.var [SV.int .i64 m,SV.pta 256 V j [SV.ptr (77:Nat) (0:Nat)],SV.int .u8 z])] })):=by kernel_rfl
theorem q0t (b l c:List Int) (V:List Value) (j:Nat) (m z lo w t:Int) (i:Nat) (Q:List SV->List (Nat × LB)->Prop) (R:List Item->PS->Prop):sy ttO G0 CE1 Try.f16.ntmps Try.f16.results.toList Q (λ it S=>R it (qar [1,6,7,8,9] [22,66,74,77,88,1147456] S)) 1000 (hd Try.f16 0) ⟨[(1,.sl uB b),(6,.ptr 88 0),(7,.ptr 22 0),(8,.int .i64 (i:Nat))],[(22,rsV 66 l.length lo w),(66,.row 5 uB l),(77,rtV c t),(88,rkV m V j (.ptr 77 0) z)]⟩ =
  (bc (decide ((↑i:Int)<(↑b.length:Int))) (256=256/\256=256/\ctRNo.pre ((m,((V,j),c,t,()),z,()),())/\(0:Int)<=(↑i:Int)/\(↑i:Int)<(↑b.length:Int)/\l.length=l.length/\ctRAd1.pre ((lo,w,l,()),(c,t,()),gt uB b (↑i:Int).toNat,())/\(0:Int)<=(↑i:Int)/\(↑i:Int)<(↑b.length:Int)/\256=256/\256=256/\ctRSw.pre ((m,((V,j),c,t,()),z,()),gt uB b (↑i:Int).toNat,())/\R (hd Try.f16 (0:Nat)) { env:=[(1,SV.sl uB b),(6,SV.ptr (88:Nat) (0:Nat)),(7,SV.ptr (22:Nat) (0:Nat)),(8,SV.int .i64 (i64.wrap ((↑i:Int)+1)))],blk:=[(22,LB.var [SV.int .i64 (putV l c lo w t (gt uB b (↑i:Int).toNat)).snd.fst,SV.int .i64 (putV l c lo w t (gt uB b (↑i:Int).toNat)).snd.snd,SV.win true uB (1147456:Nat) (0:Nat) (putV l c lo w t (gt uB b (↑i:Int).toNat)).fst.length]),(77,LB.var [SV.arr 256 (Sh.int .i64) (nxT m c t (gt uB b (↑i:Int).toNat)).fst,SV.int .i64 (nxT m c t (gt uB b (↑i:Int).toNat)).snd]),(88,LB.var [SV.int .i64 m,SV.pta 256 V j [SV.ptr (77:Nat) (0:Nat)],SV.int .u8 (gt uB b (↑i:Int).toNat)]),(1147456,LB.row (5:Nat) uB (putV l c lo w t (gt uB b (↑i:Int).toNat)).fst)] }) ((16777216:Int)≠0/\(65536:Int)≠0/\(256:Int)≠0/\(256:Int)≠0/\(256:Int)≠0/\(256:Int)≠0/\0+4<=(((((List.replicate (4:Nat) uB.dflt).set (0:Nat) (u8.wrap (i64.wrap (lo.tdiv (16777216:Int))))).set (1:Nat) (u8.wrap ((i64.wrap (lo.tdiv (65536:Int))).tmod (256:Int)))).set (2:Nat) (u8.wrap ((i64.wrap (lo.tdiv (256:Int))).tmod (256:Int)))).set (3:Nat) (u8.wrap (lo.tmod (256:Int)))).length/\l.length=l.length/\(0:Nat)=(0:Nat)/\l.length+(winL uB 0 4 (((((List.replicate (4:Nat) uB.dflt).set (0:Nat) (u8.wrap (i64.wrap (lo.tdiv (16777216:Int))))).set (1:Nat) (u8.wrap ((i64.wrap (lo.tdiv (65536:Int))).tmod (256:Int)))).set (2:Nat) (u8.wrap ((i64.wrap (lo.tdiv (256:Int))).tmod (256:Int)))).set (3:Nat) (u8.wrap (lo.tmod (256:Int))))).length<2 ^ 30/\(1:Nat)<=2 ^ 10/\R (hd Try.f16 (1:Nat)) { env:=[(1,SV.sl uB b),(6,SV.ptr (88:Nat) (0:Nat)),(7,SV.ptr (22:Nat) (0:Nat)),(8,SV.int .i64 (↑i:Int)),(9,SV.win true uB (74:Nat) (0:Nat) (l.length+(winL uB 0 4 (((((List.replicate (4:Nat) uB.dflt).set (0:Nat) (u8.wrap (i64.wrap (lo.tdiv (16777216:Int))))).set (1:Nat) (u8.wrap ((i64.wrap (lo.tdiv (65536:Int))).tmod (256:Int)))).set (2:Nat) (u8.wrap ((i64.wrap (lo.tdiv (256:Int))).tmod (256:Int)))).set (3:Nat) (u8.wrap (lo.tmod (256:Int))))).length))],blk:=[(22,LB.var [SV.int .i64 lo,SV.int .i64 w,SV.dead]),(74,LB.row (5:Nat) uB (l++winL uB 0 4 (((((List.replicate (4:Nat) uB.dflt).set (0:Nat) (u8.wrap (i64.wrap (lo.tdiv (16777216:Int))))).set (1:Nat) (u8.wrap ((i64.wrap (lo.tdiv (65536:Int))).tmod (256:Int)))).set (2:Nat) (u8.wrap ((i64.wrap (lo.tdiv (256:Int))).tmod (256:Int)))).set (3:Nat) (u8.wrap (lo.tmod (256:Int)))))),(77,LB.var [SV.arr 256 (Sh.int .i64) c,SV.int .i64 t]),(88,LB.var [SV.int .i64 m,SV.pta 256 V j [SV.ptr (77:Nat) (0:Nat)],SV.int .u8 z])] })):=by kernel_rfl
def renB (m:Int):List (Nat × LB):=(22,.var [.i 0,.i 4294967295,.nils])::(1081927,.var ([.i m]++(ptrL 1082020 256++[.u 0])))::(List.range 256).map λ k=>(1082020+k,rtV c1L 256)
def renV (m:Int) (b:List Int):List (Nat × SV):=[(0,SV.i m),(1,SV.sl uB b),(4,SV.nils),(5,SV.i (0:Int)),(6,SV.ptr 1081927 0),(7,SV.ptr 22 0),(8,SV.i (0:Int)),(10,SV.i m),(11,SV.bool (decide (m<(0:Int)))),(12,SV.bool false),(13,SV.i m),(14,SV.bool (decide ((2:Int)<m))),(15,SV.bool (bif false then true else decide ((2:Int)<m))),(16,SV.sl uB b),(17,SV.i (b.length:Int)),(18,SV.bool (decide ((65536:Int)<(b.length:Int)))),(19,SV.i m),(20,SV.ptr 1081927 0),(21,SV.agg [SV.i (0:Int),SV.i (4294967295:Int),SV.nils]),(22,SV.ptr 22 0)]
set_option maxRecDepth 100000
theorem q0s (L:List Int) (Q:List SV->List (Nat × LB)->Prop) (R:List Item->PS->Prop):sy ttO G0 CE0 Try.f16.ntmps Try.f16.results.toList Q R 1000 (hd Try.f16 1) ⟨[(9,.win true uB 74 0 L.length)],[(74,.row 5 uB L)]⟩ =
  (bc (decide ((0:Int)<(↑L.length:Int))) ((0:Int)<=i64.wrap ((↑L.length:Int)-1)/\i64.wrap ((↑L.length:Int)-1)<(↑L.length:Int)/\0+(i64.wrap ((↑L.length:Int)-1)).toNat<L.length/\bc (bif true then decide (gt uB L (0+(i64.wrap ((↑L.length:Int)-1)).toNat)=(0:Int)) else false) ((0:Int)<=i64.wrap ((↑L.length:Int)-1)/\i64.wrap ((↑L.length:Int)-1)<=(↑L.length:Int)/\0+L.length<=L.length/\R (hd Try.f16 (1:Nat)) { env:=[(9,SV.win false uB (74:Nat) (0:Nat) ((i64.wrap ((↑L.length:Int)-1)).toNat-0)),(75,SV.win true uB (74:Nat) (0:Nat) L.length),(76,SV.i (↑L.length:Int)),(77,SV.bool (decide ((0:Int)<(↑L.length:Int)))),(78,SV.bool true),(79,SV.win true uB (74:Nat) (0:Nat) L.length),(80,SV.win true uB (74:Nat) (0:Nat) L.length),(81,SV.i (↑L.length:Int)),(82,SV.i (i64.wrap ((↑L.length:Int)-1))),(83,SV.elp uB (74:Nat) (0+(i64.wrap ((↑L.length:Int)-1)).toNat) (0:Nat)),(84,SV.u (gt uB L (0+(i64.wrap ((↑L.length:Int)-1)).toNat))),(85,SV.bool (decide (gt uB L (0+(i64.wrap ((↑L.length:Int)-1)).toNat)=(0:Int)))),(86,SV.bool (bif true then decide (gt uB L (0+(i64.wrap ((↑L.length:Int)-1)).toNat)=(0:Int)) else false)),(87,SV.win true uB (74:Nat) (0:Nat) L.length),(88,SV.win true uB (74:Nat) (0:Nat) L.length),(89,SV.i (↑L.length:Int)),(90,SV.i (i64.wrap ((↑L.length:Int)-1))),(91,SV.win false uB (74:Nat) (0:Nat) ((i64.wrap ((↑L.length:Int)-1)).toNat-0))],blk:=[(74,LB.row (5:Nat) uB L)] }) (Q [SV.win true uB (74:Nat) (0:Nat) L.length,SV.i (0:Int)] [(74,LB.row (5:Nat) uB L)])) (false=false/\Q [SV.win true uB (74:Nat) (0:Nat) L.length,SV.i (0:Int)] [(74,LB.row (5:Nat) uB L)])):=by kernel_rfl
theorem qtg (L:List Int) (n:Nat) (Q:List SV->List (Nat × LB)->Prop) (R:List Item->PS->Prop):sy ttO G0 CE0 Try.f16.ntmps Try.f16.results.toList Q R 1000 (hd Try.f16 1) ⟨[(9,.win false uB 74 0 n)],[(74,.row 5 uB L)]⟩ =
  (bc (decide ((0:Int)<(↑n:Int))) ((0:Int)<=i64.wrap ((↑n:Int)-1)/\i64.wrap ((↑n:Int)-1)<(↑n:Int)/\0+(i64.wrap ((↑n:Int)-1)).toNat<L.length/\bc (bif true then decide (gt uB L (0+(i64.wrap ((↑n:Int)-1)).toNat)=(0:Int)) else false) ((0:Int)<=i64.wrap ((↑n:Int)-1)/\i64.wrap ((↑n:Int)-1)<=(↑n:Int)/\0+n<=L.length/\R (hd Try.f16 (1:Nat)) { env:=[(9,SV.win false uB (74:Nat) (0:Nat) ((i64.wrap ((↑n:Int)-1)).toNat-0)),(75,SV.win false uB (74:Nat) (0:Nat) n),(76,SV.i (↑n:Int)),(77,SV.bool (decide ((0:Int)<(↑n:Int)))),(78,SV.bool true),(79,SV.win false uB (74:Nat) (0:Nat) n),(80,SV.win false uB (74:Nat) (0:Nat) n),(81,SV.i (↑n:Int)),(82,SV.i (i64.wrap ((↑n:Int)-1))),(83,SV.elp uB (74:Nat) (0+(i64.wrap ((↑n:Int)-1)).toNat) (0:Nat)),(84,SV.u (gt uB L (0+(i64.wrap ((↑n:Int)-1)).toNat))),(85,SV.bool (decide (gt uB L (0+(i64.wrap ((↑n:Int)-1)).toNat)=(0:Int)))),(86,SV.bool (bif true then decide (gt uB L (0+(i64.wrap ((↑n:Int)-1)).toNat)=(0:Int)) else false)),(87,SV.win false uB (74:Nat) (0:Nat) n),(88,SV.win false uB (74:Nat) (0:Nat) n),(89,SV.i (↑n:Int)),(90,SV.i (i64.wrap ((↑n:Int)-1))),(91,SV.win false uB (74:Nat) (0:Nat) ((i64.wrap ((↑n:Int)-1)).toNat-0))],blk:=[(74,LB.row (5:Nat) uB L)] }) (Q [SV.win false uB (74:Nat) (0:Nat) n,SV.i (0:Int)] [(74,LB.row (5:Nat) uB L)])) (false=false/\Q [SV.win false uB (74:Nat) (0:Nat) n,SV.i (0:Int)] [(74,LB.row (5:Nat) uB L)])):=by kernel_rfl
theorem q3t (c:List Int) (t r v:Int) (Q:List SV->List (Nat × LB)->Prop) (R:List Item->PS->Prop):sy ttO G0 [] Try.f44.ntmps Try.f44.results.toList Q (λ it S=>R it (qar [0,1,2,7,8] [BIG] S)) 1000 [.code (qah Try.f44)] (qav [RTk,.dat iI,.dat iI] ((c,t,()),r,v,())) =
  (R (hd Try.f44 (0:Nat)) { env:=[(0,SV.ptr (1099511627776:Nat) (0:Nat)),(1,SV.i r),(2,SV.i v),(7,SV.i (0:Int)),(8,SV.i (0:Int))],blk:=[(1099511627776,LB.var [SV.arr 256 (Sh.int .i64) c,SV.i t])] }):=by kernel_rfl
theorem qtf (c:List Int) (t r v s i:Int) (Q:List SV->List (Nat × LB)->Prop) (R:List Item->PS->Prop):sy ttO G0 [] Try.f44.ntmps Try.f44.results.toList Q (λ it S=>R it (qar [0,1,2,7,8] [BIG] S)) 1000 (hd Try.f44 0) ⟨[(0,.ptr BIG 0),(1,.i r),(2,.i v),(7,.i s),(8,.i i)],[(BIG,rtV c t)]⟩ =
  (bc (decide (i<255)) ((0:Int)<=i/\i<(↑256:Int)/\i.toNat<256/\bc (decide (v<i64.wrap (r*i64.wrap (s+gt (Sh.int .i64) c i.toNat)))) (Q [SV.u (u8.wrap i)] [(1099511627776,LB.var [SV.arr 256 (Sh.int .i64) c,SV.i t])]) (R (hd Try.f44 (0:Nat)) { env:=[(0,SV.ptr (1099511627776:Nat) (0:Nat)),(1,SV.i r),(2,SV.i v),(7,SV.i (i64.wrap (s+gt (Sh.int .i64) c i.toNat))),(8,SV.i (i64.wrap (i+1)))],blk:=[(1099511627776,LB.var [SV.arr 256 (Sh.int .i64) c,SV.i t])] })) (Q [SV.u (255:Int)] [(1099511627776,LB.var [SV.arr 256 (Sh.int .i64) c,SV.i t])])):=by kernel_rfl
theorem q0u (m:Int) (b:List Int) (Q:List SV->List (Nat × LB)->Prop) (R:List Item->PS->Prop):sy ttO G0 CE0 Try.f16.ntmps Try.f16.results.toList Q R 1000 [.code (qah Try.f16)] (entry [iI,.sl uB] (m,b,())) =
 (bc (decide (m<0)) (true=true/\Q [SV.nils,SV.i (130:Int)] []) (bc (bif false then true else decide ((2:Int)<m)) (Q [SV.nils,SV.i (130:Int)] []) (bc (decide ((65536:Int)<(b.length:Int))) (Q [SV.nils,SV.i (2:Int)] []) (ctRBeg.pre (m,())/\R (hd Try.f16 0) ⟨renV m b,renB m⟩)))):=by kernel_rfl
abbrev rT (D:Nat->Tb):Nat->Option (List SV):=λ k=>if k<256 then some (tbR (D k)) else none
theorem q4v (m:Int) (D:Nat->Tb) (z:Nat) (x:Int) (h0:0<=m) (hj:atD m.toNat z<256):(λ k=>if k=atD m.toNat z then some (tbR (nxT m (D (atD m.toNat z)).1 (D (atD m.toNat z)).2 x)) else rT D k)=rT (nxD m.toNat D z x):=by
 funext k
 show (if k=atD m.toNat z then _ else if k<256 then some (tbR (D k)) else none)=if k<256 then some (tbR (nxD m.toNat D z x k)) else none
 by_cases hm:m.toNat=0
 ·have h1:¬ 0<m:=by omega
  have e:nxD m.toNat D z x=D:=by rw[hm];rfl
  have e2:nxT m (D (atD m.toNat z)).1 (D (atD m.toNat z)).2 x=D (atD m.toNat z):=by unfold nxT;rw[decide_eq_false h1]
  rw[e,e2];by_cases hk:k=atD m.toNat z
  ·rw[if_pos hk,if_pos (by omega),hk]
  ·rw[if_neg hk]
 ·have h1:0<m:=by omega
  have e2:nxT m (D (atD m.toNat z)).1 (D (atD m.toNat z)).2 x=groV (D (atD m.toNat z)).1 (D (atD m.toNat z)).2 x:=by unfold nxT;rw[decide_eq_true h1]
  rw[e2,q1z hm];by_cases hk:k=atD m.toNat z
  ·rw[if_pos hk,if_pos (by omega),if_pos hk,hk]
  ·rw[if_neg hk,if_neg hk]
theorem qh3 {g z:Nat} (hz:z<256):atD g z<256:=by
 unfold atD;split
 ·exact hz
 ·decide
theorem cxE0:CxOK Try.prog ttO G0 CE0:=CxOK.tab ((((cx0.consI qpa (fn:=Try.f35) rfl rfl rfl).consI qur (fn:=Try.f33) rfl rfl rfl).consI qm0 (fn:=Try.f34) rfl rfl rfl).consI qnj (fn:=Try.f32) rfl rfl rfl) qev
theorem cxE1:CxOK Try.prog ttO G0 CE1:=CxOK.tab ((((cx0.consI qpa (fn:=Try.f35) rfl rfl rfl).consI quq (fn:=Try.f33) rfl rfl rfl).consI qm0 (fn:=Try.f34) rfl rfl rfl).consI qnj (fn:=Try.f32) rfl rfl rfl) qev
abbrev GRE (Q:List SV->List (Nat × LB)->Prop) (V:List Value) (D:Nat->Tb) (j:Nat) (it:List Item) (S:PS):Prop:=Px.GoodT Try.prog G0 16 Try.f16.ntmps (endK ttO G0 Try.f16.results.toList Q) V (rT D) j it S
abbrev reE (b:List Int) (i:Nat):List (Nat × SV):=[(1,.sl uB b),(6,.ptr 88 0),(7,.ptr 22 0),(8,.i (i:Nat))]
abbrev reS (b l:List Int) (V:List Value) (m lo w:Int) (z i:Nat):PS:=⟨reE b i,[(22,rsV 66 l.length lo w),(66,.row 5 uB l),(88,rkV m V 256 .nilp (z:Nat))]⟩
abbrev reO (b l c:List Int) (V:List Value) (j:Nat) (m x lo w t:Int) (i:Nat):PS:=⟨reE b i,[(22,rsV 66 l.length lo w),(66,.row 5 uB l),(77,rtV c t),(88,rkV m V j (.ptr 77 0) x)]⟩
theorem q4s {Q:List SV->List (Nat × LB)->Prop} {V:List Value} {D:Nat->Tb} {b l:List Int} {m lo w:Int} {z n i:Nat} (h0:0<=m) (hz:z<256)
  (nx:∀ V',GRE Q V' (nxD m.toNat D z n) 256 (hd Try.f16 0) (reS b l V' m lo w n i)):GRE Q V D (atD m.toNat z) (hd Try.f16 0) (reO b l (nxT m (D (atD m.toNat z)).1 (D (atD m.toNat z)).2 n).1 V (atD m.toNat z) m n lo w (nxT m (D (atD m.toNat z)).1 (D (atD m.toNat z)).2 n).2 i):=
 GoodT.closeP (q:=88) (id:=77) (m:=256) (p:=[.int .i64 m]) (r:=[.int .u8 (n:Int)]) (s:=tbR (nxT m (D (atD m.toNat z)).1 (D (atD m.toNat z)).2 n)) rfl (qh3 hz) rfl (qot _) (by decide) λ V'=>by
  rw[q4v m D z n h0 (qh3 hz)];exact nx V'
theorem q1r {lo:Int} (h:0<=lo/\lo<4294967296) (l:List Int):l++[u8.wrap (i64.wrap (lo.tdiv 16777216)),u8.wrap ((i64.wrap (lo.tdiv 65536)).tmod 256),u8.wrap ((i64.wrap (lo.tdiv 256)).tmod 256),u8.wrap (lo.tmod 256)]=(outF 4 (l,lo)).1:=by
 have w:∀ {x:Int},0<=x->x<4294967296->u32.wrap (x*2 ^ 8)=x % 16777216*256/\(∀ L,wshL L x=L++[x / 16777216]):=fun {x} h0 h1=>by
  refine ⟨?_,λ L=>?_⟩
  ·rw[IntKind.wrap_u32]
   show x*256 % _=_
   omega
  ·show L++[u8.wrap (x.fdiv (2 ^ 24))]=_
   rw[Int.fdiv_eq_ediv_of_nonneg _ (by decide)]
   show L++[u8.wrap (x / 16777216)]=_
   rw[IntWalk.u8_in _ (by omega)]
 have t1:u8.wrap (i64.wrap (lo.tdiv 16777216))=lo / 16777216:=by
  rw[Int.tdiv_eq_ediv_of_nonneg h.1,IntWalk.i64_in _ (by omega),IntWalk.u8_in _ (by omega)]
 have t2:u8.wrap ((i64.wrap (lo.tdiv 65536)).tmod 256)=lo / 65536 % 256:=by
  rw[Int.tdiv_eq_ediv_of_nonneg h.1,IntWalk.i64_in _ (by omega),Int.tmod_eq_emod_of_nonneg (by omega),IntWalk.u8_in _ (by omega)]
 have t3:u8.wrap ((i64.wrap (lo.tdiv 256)).tmod 256)=lo / 256 % 256:=by
  rw[Int.tdiv_eq_ediv_of_nonneg h.1,IntWalk.i64_in _ (by omega),Int.tmod_eq_emod_of_nonneg (by omega),IntWalk.u8_in _ (by omega)]
 have t4:u8.wrap (lo.tmod 256)=lo % 256:=by
  rw[Int.tmod_eq_emod_of_nonneg h.1,IntWalk.u8_in _ (by omega)]
 obtain ⟨a1,a2⟩:=w h.1 h.2;obtain ⟨b1,b2⟩:=w (x:=lo % 16777216*256) (by omega) (by omega);obtain ⟨c1,c2⟩:=w (x:=lo % 16777216*256 % 16777216*256) (by omega) (by omega);obtain ⟨d1,d2⟩:=w (x:=lo % 16777216*256 % 16777216*256 % 16777216*256) (by omega) (by omega);rw[outF,outF,outF,outF,outF]
 show _=wshL (wshL (wshL (wshL l lo) (u32.wrap (lo*2 ^ 8))) (u32.wrap (u32.wrap (lo*2 ^ 8)*2 ^ 8))) (u32.wrap (u32.wrap (u32.wrap (lo*2 ^ 8)*2 ^ 8)*2 ^ 8))
 rw[a1,b1,c1,a2,b2,c2,d2,t1,t2,t3,t4];simp only[List.append_assoc,List.cons_append,List.nil_append,List.append_cancel_left_eq,List.cons.injEq,and_true,true_and];omega
theorem qv7 {m:Int} {b L:List Int} {n a:Nat} {blk:List (Nat × LB)} (h:encA m b=(L,n,0)) (hb:lk blk a=some (.row 5 uB L)):QC ctEncA (m,b,()) [SV.win true uB a 0 n,.i 0] blk:=by
 refine ⟨λ i=>if i=0 then some a else none,?_,?_,λ i j b h1 h2=>?_,rfl⟩
 ·show MtL _ [SV.win false uB 0 0 (encA m b).2.1,.i (encA m b).2.2] _
  rw[h];exact ⟨_,_,rfl,.inl ⟨true,a,rfl,rfl,λ h=>rfl⟩,_,_,rfl,rfl,rfl⟩
 ·show MtR _ _ 0 [LB.row 5 uB (encA m b).1]
  rw[h];exact ⟨.inl ⟨a,rfl,hb⟩,trivial⟩
 ·simp only at h1 h2;split at h1
  ·split at h2
   ·omega
   ·cases h2
  ·cases h1
theorem qxi {m:Int} {b L:List Int} (hL:L.length<100000000) (e:encA m b=(L,qao L L.length,0)):∀ (n:Nat),n<=L.length->qao L n=qao L L.length ->
  GDO 16 Try.f16 (QC ctEncA (m,b,())) (hd Try.f16 1) ⟨[(9,.win false uB 74 0 n)],[(74,.row 5 uB L)]⟩:=by
 intro n
 induction n with
 | zero=>
  intro hn hs;refine qbf cxE0 (qtg L 0 _ _) (qaj (no_t (by decide)) λ _=>?_);have hs:0=qao L L.length:=hs;rw[<- hs] at e;exact ⟨rfl,qju e rfl⟩
 | succ n ih=>
  intro hn hs;have ew:i64.wrap (((n+1:Nat):Int)-1)=(n:Int):=by rw[IntWalk.i64_in _ (by omega)];omega
  refine qbf cxE0 (qtg L (n+1) _ _) (qaj (λ _=>?_) (no_f (by omega)));rw[ew,Int.toNat_natCast,Nat.zero_add];have ez:ezV (winL uB 0 (n+1) L)=decide (gtB L n=0):=qne (L:=L) (n:=n) (by omega);rw[qao,ez] at hs;refine ⟨by omega,by omega,by omega,qaj (λ h=>?_) (λ h=>?_)⟩
  ·have h:decide (gtB L n=0)=true:=h;rw[h] at hs;exact ⟨by omega,by omega,by omega,(ih (by omega) hs).only ⟨rfl,trivial⟩ ⟨rfl,trivial⟩⟩
  ·have h:decide (gtB L n=0)=false:=h;rw[h] at hs;have hs:n+1=qao L L.length:=hs;rw[<- hs] at e;exact qju e rfl
theorem q1g {m:Int} {b L:List Int} (h0:0<L.length) (hL:L.length<100000000) (e:encA m b=(L,qao L L.length,0)):GDO 16 Try.f16 (QC ctEncA (m,b,())) (hd Try.f16 1) ⟨[(9,.win true uB 74 0 L.length)],[(74,.row 5 uB L)]⟩:=by
 obtain ⟨n,hn⟩:∃ n,L.length=n+1:=⟨L.length-1,by omega⟩;have ew:i64.wrap ((L.length:Int)-1)=(n:Int):=by rw[IntWalk.i64_in _ (by omega)];omega
 refine qbf cxE0 (q0s L _ _) (qaj (λ _=>?_) (no_f (by omega)));rw[ew,Int.toNat_natCast,Nat.zero_add];have ez:ezV (winL uB 0 (n+1) L)=decide (gtB L n=0):=qne (L:=L) (n:=n) (by omega);have hs:qao L (n+1)=qao L L.length:=by rw[hn]
 rw[qao,ez] at hs;refine ⟨by omega,by omega,by omega,qaj (λ h=>?_) (λ h=>?_)⟩
 ·have h:decide (gtB L n=0)=true:=h;rw[h] at hs;exact ⟨by omega,by omega,by omega,(qxi hL e n (by omega) hs).only ⟨rfl,trivial⟩ ⟨rfl,trivial⟩⟩
 ·have h:decide (gtB L n=0)=false:=h;rw[h] at hs;have hs:n+1=qao L L.length:=hs;rw[<- hs,<- hn] at e;exact qv7 e rfl
theorem q1j {b l c:List Int} {V:List Value} {m lo w t:Int} {z i j:Nat} {D:Nat->Tb} (hm:0<=m/\m<=2) (h6:b.length<=65536) (hW:WI l lo w) (hl:l.length<=4*b.length) (hi:¬ i<b.length) (hv:(l,lo,w)=eG m.toNat b D0 0 [] 0 4294967295) :
  GRE (QC ctEncA (m,b,())) V D j (hd Try.f16 0) (reO b l c V j m z lo w t i):=by
 have e4:=q1r hW.lo0 l;obtain ⟨_,o2,_⟩:=qu5 hW.by' hW.lo0
 have eo:(outF 4 (l,lo)).1=outG m.toNat b:=by unfold outG;rw[<- hv]
 have e:encA m b=((outF 4 (l,lo)).1,qao (outF 4 (l,lo)).1 (outF 4 (l,lo)).1.length,0):=by
  rw[eo];unfold encA encG;rw[qyf hm.1 hm.2,decide_eq_false (by omega)]
 have g:=q1g (by omega) (by omega) e;rw[o2] at g;have g:Px.GoodT Try.prog G0 16 Try.f16.ntmps (endK ttO G0 Try.f16.results.toList (QC ctEncA (m,b,()))) V (rT D) j (hd Try.f16 1) ⟨[(9,.win true uB 74 0 (l.length+4))],[(74,.row 5 uB (outF 4 (l,lo)).1)]⟩:=GoodT.any g;refine GoodT.goK cxE0 (qth b l c V j m z lo w t i _ _) (qaj (no_t (by omega)) λ _=>⟨by decide,by decide,by decide,by decide,by decide,by decide,Nat.le_refl 4,rfl,rfl,?_,by decide,?_⟩)
 ·show l.length+4<2 ^ 30;omega
 ·refine g.only ⟨rfl,trivial⟩ ⟨?_,trivial⟩
  show some (LB.row 5 uB (l++[u8.wrap (i64.wrap (lo.tdiv 16777216)),u8.wrap ((i64.wrap (lo.tdiv 65536)).tmod 256),u8.wrap ((i64.wrap (lo.tdiv 256)).tmod 256),u8.wrap (lo.tmod 256)]))=_
  rw[e4]
theorem qxl {m:Int} {b:List Int} (hm:0<=m/\m<=2) (hb:byL b) (h6:b.length<=65536):∀ (k i:Nat) (l:List Int) (V:List Value) (D:Nat->Tb) (lo w:Int) (z:Nat),b.length-i=k->i<=b.length->l.length<=4*i->DOK D->WI l lo w->z<256->eG m.toNat (b.drop i) D z l lo w=eG m.toNat b D0 0 [] 0 4294967295 ->
  GRE (QC ctEncA (m,b,())) V D 256 (hd Try.f16 0) (reS b l V m lo w z i):=by
 intro k
 induction k with
 | zero=>
  intro i l V D lo w z hk hi hl hD hW hz hv;rw[List.drop_eq_nil_of_le (by omega),eG] at hv;refine GoodT.open1P (q:=88) (id:=77) (b:=atD m.toNat z) (p:=[.int .i64 m]) (r:=[.int .u8 (z:Int)]) (s:=tbR (D (atD m.toNat z))) rfl (qh3 hz) (by show (if _<256 then _ else _)=_;rw[if_pos (qh3 hz)]) rfl (by decide) rfl ?_;exact q1j hm h6 hW (by omega) (by omega) hv
 | succ k ih=>
  intro i l V D lo w z hk hi hl hD hW hz hv;have hil:i<b.length:=by omega
  obtain ⟨x,hx⟩:=Int.eq_ofNat_of_zero_le (hb _ (List.getElem_mem hil)).1;have hx2:=(hb _ (List.getElem_mem hil)).2;rw[hx] at hx2;have e2:gt uB b (i:Int).toNat=(x:Int):=by rw[Int.toNat_natCast];exact (qi1 hil).trans hx
  have hx3:x<256:=by omega
  have hxr:0<=(x:Int)/\(x:Int)<256:=by omega
  have tz:=hD (atD m.toNat z);rw[List.drop_eq_getElem_cons hil,eG,hx] at hv;obtain ⟨s1,s,s2,s3,_⟩:=qgn (b:=[]) (λ _ h=>by cases h) hW tz (x:=x) hx3;rw[Int.toNat_natCast] at hv;have nx:=λ V'=>ih (i+1) _ V' (nxD m.toNat D z x) _ _ x (by omega) (by omega) (by rw[s3];omega) (qkx hD z hx3) s1 hx3 hv
  have nx:=q4s (V:=V) hm.1 hz nx;have hj:=qh3 (g:=m.toNat) hz;have pz:qsi m (atD m.toNat z) (z:Int):=⟨hm.1,⟨by omega,by omega⟩,by rw[Int.toNat_natCast]⟩;have pt:qpo (D (atD m.toNat z)).1 (D (atD m.toNat z)).2 (x:Int):=⟨tz,hxr⟩;have pa:qu1 l (D (atD m.toNat z)).1 lo w (D (atD m.toNat z)).2 (x:Int):=⟨hW,by omega,pt⟩;refine GoodT.open1P (q:=88) (id:=77) (b:=atD m.toNat z) (p:=[.int .i64 m]) (r:=[.int .u8 (z:Int)]) (s:=tbR (D (atD m.toNat z))) rfl hj (by show (if _<256 then _ else _)=_;rw[if_pos hj]) rfl (by decide) rfl ?_;by_cases hq:wid2 (D (atD m.toNat z)).1 w (D (atD m.toNat z)).2 x<16777216
  ·refine GoodT.goK cxE1 (q0t b l (D (atD m.toNat z)).1 V (atD m.toNat z) m z lo w (D (atD m.toNat z)).2 i _ _) (qaj (λ _=>?_) (no_f (by omega)));rw[IntWalk.i64_in ((i:Int)+1) (by omega),e2];refine ⟨rfl,rfl,pz,by omega,by omega,rfl,⟨pa,hq⟩,by omega,by omega,rfl,rfl,⟨pz,pt⟩,?_⟩;exact nx.onlyR [(66,1147456)] rfl ⟨rfl,rfl,rfl,rfl,trivial⟩ ⟨rfl,rfl,rfl,rfl,trivial⟩
  ·have e3:putV l (D (atD m.toNat z)).1 lo w (D (atD m.toNat z)).2 x=(qa6 l (D (atD m.toNat z)).1 lo w (D (atD m.toNat z)).2 x,lowV (D (atD m.toNat z)).1 lo w (D (atD m.toNat z)).2 x,wid2 (D (atD m.toNat z)).1 w (D (atD m.toNat z)).2 x):=by unfold putV;rw[putF,decide_eq_false hq]
   rw[e3] at nx;refine GoodT.goK cxE0 (qth b l (D (atD m.toNat z)).1 V (atD m.toNat z) m z lo w (D (atD m.toNat z)).2 i _ _) (qaj (λ _=>?_) (no_f (by omega)));rw[IntWalk.i64_in ((i:Int)+1) (by omega),e2];refine ⟨rfl,rfl,pz,by omega,by omega,rfl,⟨pa,hq⟩,by omega,by omega,rfl,rfl,⟨pz,pt⟩,?_⟩;exact nx.only ⟨rfl,rfl,rfl,rfl,trivial⟩ ⟨rfl,rfl,rfl,rfl,trivial⟩
def renC (m:Int):List (Nat × LB):=(22,rsV 66 0 0 4294967295)::(66,.row 5 uB [])::(1081927,.var ([.i m]++(ptrL 1082020 256++[.u 0])))::(List.range 256).map λ k=>(1082020+k,rtV c1L 256)
theorem q1i (m:Int):lk (renB m) 66=none:=by
 cases h:lk (renB m) 66 with
 | none=>rfl
 | some x=>
  unfold renB at h;simp only[lk] at h;rw[if_neg (by decide),if_neg (by decide)] at h;obtain ⟨k,_,h2,_⟩:=qm5 (f:=λ _=>rtV c1L 256) h;omega
theorem q1h (m:Int) (b:List Int):ownN 66 ⟨renV m b,renB m⟩=true:=by kernel_rfl
theorem q4r {m:Int} {b:List Int} (hm:0<=m/\m<=2) (hb:byL b) (h6:b.length<=65536):GoodE Try.prog G0 16 Try.f16.ntmps .fn Y0 (endK ttO G0 Try.f16.results.toList (QC ctEncA (m,b,()))) (hd Try.f16 0) (0,false) ⟨renV m b,renC m⟩:=by
 refine GoodT.implode (q:=1081927) (m:=256) (g0:=1082020) (p:=[.i m]) (r:=[.u 0]) (s:=λ _=>tbR (c1L,256)) (Sc:=λ V=>⟨[(1,.sl uB b),(6,.ptr 1081927 0),(7,.ptr 22 0),(8,.i 0)],[(22,rsV 66 0 0 4294967295),(66,.row 5 uB []),(1081927,rkV m V 256 .nilp 0)]⟩)
  rfl (λ k hk=>?_) (λ _=>qot _) rfl (λ V=>qet _ ⟨rfl,rfl,rfl,rfl,trivial⟩) (λ V t x h=>?_) (λ k hk=>by omega) λ V=>?_
 ·show lk (renC m) _=_
  unfold renC;simp only[lk];rw[if_neg (by omega),if_neg (by omega),if_neg (by omega)];exact qog (f:=λ _=>rtV c1L 256) (List.mem_range.2 hk)
 ·simp only[lk] at h;split at h
  next e=>subst e;cases h;exact .inr ⟨by decide,λ k hk=>by omega,rfl⟩
  ·split at h
   next e=>subst e;cases h;exact .inr ⟨by decide,λ k hk=>by omega,rfl⟩
   ·split at h
    next e=>subst e;cases h;exact .inl ⟨rfl,rfl⟩
    ·cases h
 ·have g:=qxl hm hb h6 b.length 0 [] V D0 0 4294967295 0 rfl (Nat.zero_le _) (Nat.zero_le _) qs0 wi_0 (by decide) rfl;exact g.onlyR [(88,1081927)] rfl ⟨rfl,rfl,rfl,rfl,trivial⟩ ⟨rfl,rfl,rfl,trivial⟩
theorem renc_held:Held Try.prog G0 16 ctEncA:=Held.of cxE0 (fn:=Try.f16) rfl rfl ⟨by decide,by decide⟩ λ ⟨m,b,_⟩ hp=>by
 have hp:byL b:=hp;refine qbf cxE0 (q0u m b _ _) (qaj (λ h=>⟨rfl,qhy ?_⟩) λ h0=>qaj (λ h=>qhy ?_) λ h2=>qaj (λ h=>qhy ?_) λ h6=>?_)
 ·have h:=of_decide_eq_true h;unfold encA;rw[qss (λ q=>by omega)]
 ·have h:=of_decide_eq_true (show decide ((2:Int)<m)=true from h);unfold encA;rw[qss (λ q=>by omega)]
 ·have h0:=of_decide_eq_false h0;have h2:=of_decide_eq_false (show decide ((2:Int)<m)=false from h2);unfold encA encG;rw[qyf (by omega) (by omega),h]
 ·have h0:=of_decide_eq_false h0;have h2:=of_decide_eq_false (show decide ((2:Int)<m)=false from h2);have h6:=of_decide_eq_false h6;refine ⟨trivial,?_⟩;exact GoodE.nilW (S:=⟨renV m b,renB m⟩) (q:=22) (id:=66) (p:=[.i 0,.i 4294967295]) (r:=[]) (et:=5) (e:=uB) rfl (q1i m) (by decide) (q1h m b) (by decide) rfl λ g=>GoodE.any rfl qf6 (q4r (by omega) hp (by omega)) g
def fnF (c:List Int) (r v:Int):Nat->Nat->Nat
 | 0,_=>255
 | k+1,i=>match decide (v<r*sm (c.take (i+1))) with
  | true=>i
  | false=>fnF c r v k (i+1)
def fnN (c:List Int) (r v:Int):Nat:=fnF c r v 255 0
def q1p (c:List Int) (t r v:Int):Prop:=qa7 c t/\(1<=r/\r<=16777216)/\(0<=v/\v<4294967296)
def ctRFi:CtrI:=⟨[RTk,.dat iI,.dat iI],λ x=>q1p x.1.1 x.1.2.1 x.2.1 x.2.2.1,λ x=>[.u (fnN x.1.1 x.2.1 x.2.2.1:Nat)],λ x=>bkKL 0 [RTk,.dat iI,.dat iI] x⟩
def CD9:CV:=[(32,.inr ctRBeg),(34,.inr ctRNo),(44,.inr ctRFi),(45,.inr ctRBef),(35,.inr ctRSw),(16,.inl ctEncF)]
def rdeB (m:Int):List (Nat × LB):=(67,.row 5 uB [])::(1180231,.var ([.i m]++(ptrL 1180324 256++[.u 0])))::(List.range 256).map λ k=>(1180324+k,rtV c1L 256)
def rdeK:List Nat:=67::1180231::(List.range 256).map λ k=>1180324+k
set_option maxRecDepth 100000
theorem q0x (m n:Int) (b:List Int) (Q:List SV->List (Nat × LB)->Prop) (R:List Item->PS->Prop):sy ttO G0 CD9 Try.f20.ntmps Try.f20.results.toList Q (λ it S=>R it (qar [0,1,2,8] [36] S)) 1000 [.code (qah Try.f20)] (entry [iI,.sl uB,iI] (m,b,n,())) =
  (bc (decide (m<0)) (true=true/\true=true/\true=true/\Q [SV.nils,SV.i (130:Int)] []) (bc (bif false then true else decide ((2:Int)<m)) (true=true/\true=true/\Q [SV.nils,SV.i (130:Int)] []) (bc (bif false then true else decide (n<0)) (true=true/\Q [SV.nils,SV.i (130:Int)] []) (bc (bif false then true else decide ((65536:Int)<n)) (Q [SV.nils,SV.i (130:Int)] []) ((0:Nat)=(List.replicate (0:Nat) uB.dflt).length/\(0:Nat)=(0:Nat)/\0+b.length<2 ^ 30/\(1:Nat)<=2 ^ 10/\R (hd Try.f20 (0:Nat)) { env:=[(0,SV.i m),(1,SV.sl uB b),(2,SV.i n),(8,SV.win true uB (36:Nat) (0:Nat) (0+b.length))],blk:=[(36,LB.row (5:Nat) uB (List.replicate (0:Nat) uB.dflt++b))] }))))):=by kernel_rfl
theorem q0w (m n:Int) (b P:List Int) (Q:List SV->List (Nat × LB)->Prop) (R:List Item->PS->Prop):sy ttO G0 [] Try.f20.ntmps Try.f20.results.toList Q (λ it S=>R it (qar [0,1,2,8] [42,61] S)) 1000 (hd Try.f20 0) ⟨[(0,.i m),(1,.sl uB b),(2,.i n),(8,.win true uB 61 0 P.length)],[(61,.row 5 uB P)]⟩ =
  (bc (decide ((↑P.length:Int)<4)) (0+1<=((List.replicate (1:Nat) uB.dflt).set (0:Nat) (0:Int)).length/\P.length=P.length/\(0:Nat)=(0:Nat)/\P.length+(winL uB 0 1 ((List.replicate (1:Nat) uB.dflt).set (0:Nat) (0:Int))).length<2 ^ 30/\(1:Nat)<=2 ^ 10/\R (hd Try.f20 (0:Nat)) { env:=[(0,SV.i m),(1,SV.sl uB b),(2,SV.i n),(8,SV.win true uB (42:Nat) (0:Nat) (P.length+(winL uB 0 1 ((List.replicate (1:Nat) uB.dflt).set (0:Nat) (0:Int))).length))],blk:=[(42,LB.row (5:Nat) uB (P++winL uB 0 1 ((List.replicate (1:Nat) uB.dflt).set (0:Nat) (0:Int))))] }) False):=by kernel_rfl
theorem qtj (m n:Int) (b P o c:List Int) (V:List Value) (j:Nat) (z v w t:Int) (a i:Int) (Q:List SV->List (Nat × LB)->Prop) (R:List Item->PS->Prop):sy ttO G0 CD9 Try.f20.ntmps Try.f20.results.toList Q (λ it S=>R it (qar [0,1,2,8,9,10,11,12,13,14,17] [62,77,88] S)) 1000 (hd Try.f20 1) ⟨[(0,.int .i64 m),(1,.sl uB b),(2,.int .i64 n),(8,.sl uB P),(9,.ptr 88 0),(10,.int .i64 v),(11,.int .i64 a),(12,.int .i64 w),(13,.win true uB 62 0 o.length),(14,.int .i64 i)],[(62,.row 5 uB o),(77,rtV c t),(88,rkV m V j (.ptr 77 0) z)]⟩ =
  (bc (decide (i<n)) (256=256/\256=256/\ctRNo.pre ((m,((V,j),c,t,()),z,()),())/\t≠0/\ctRFi.pre ((c,t,()),i64.wrap (w.tdiv t),v,())/\ctRBef.pre ((c,t,()),(↑(fnN c (i64.wrap (w.tdiv t)) v):Int),())/\(0:Int)<=(↑(fnN c (i64.wrap (w.tdiv t)) v):Int)/\(↑(fnN c (i64.wrap (w.tdiv t)) v):Int)<(↑256:Int)/\(↑(fnN c (i64.wrap (w.tdiv t)) v):Int).toNat<256/\bc (decide (i64.wrap (i64.wrap (w.tdiv t)*gt (Sh.int .i64) c (↑(fnN c (i64.wrap (w.tdiv t)) v):Int).toNat)<=i64.wrap (v-i64.wrap (i64.wrap (w.tdiv t)*sm (List.take (↑(fnN c (i64.wrap (w.tdiv t)) v):Int).toNat c))))) (Q [SV.nils,SV.int .i64 (130:Int)] [(62,LB.row (5:Nat) uB o),(77,LB.var [SV.arr 256 (Sh.int .i64) c,SV.int .i64 t]),(88,LB.var [SV.int .i64 m,SV.pta 256 V j [SV.ptr (77:Nat) (0:Nat)],SV.int .u8 z])]) (R (hd Try.f20 (2:Nat)) { env:=[(0,SV.int .i64 m),(1,SV.sl uB b),(2,SV.int .i64 n),(8,SV.sl uB P),(9,SV.ptr (88:Nat) (0:Nat)),(10,SV.int .i64 (i64.wrap (v-i64.wrap (i64.wrap (w.tdiv t)*sm (List.take (↑(fnN c (i64.wrap (w.tdiv t)) v):Int).toNat c))))),(11,SV.int .i64 a),(12,SV.int .i64 (i64.wrap (i64.wrap (w.tdiv t)*gt (Sh.int .i64) c (↑(fnN c (i64.wrap (w.tdiv t)) v):Int).toNat))),(13,SV.win true uB (62:Nat) (0:Nat) o.length),(14,SV.int .i64 i),(17,SV.int .u8 (↑(fnN c (i64.wrap (w.tdiv t)) v):Int))],blk:=[(62,LB.row (5:Nat) uB o),(77,LB.var [SV.arr 256 (Sh.int .i64) c,SV.int .i64 t]),(88,LB.var [SV.int .i64 m,SV.pta 256 V j [SV.ptr (77:Nat) (0:Nat)],SV.int .u8 z])] })) (0+o.length<=o.length/\0+o.length<=o.length/\ctEncF.pre (m,winL uB 0 o.length o,())/\bc (decide (List.map toB (cA m (winL uB 0 o.length o)).fst≠List.map toB b)) (Q [SV.nils,SV.int .i64 (130:Int)] [(77,LB.var [SV.arr 256 (Sh.int .i64) c,SV.int .i64 t]),(88,LB.var [SV.int .i64 m,SV.pta 256 V j [SV.ptr (77:Nat) (0:Nat)],SV.int .u8 z])]) (Q [SV.sl uB (winL uB 0 o.length o),SV.int .i64 (0:Int)] [(77,LB.var [SV.arr 256 (Sh.int .i64) c,SV.int .i64 t]),(88,LB.var [SV.int .i64 m,SV.pta 256 V j [SV.ptr (77:Nat) (0:Nat)],SV.int .u8 z])]))):=by kernel_rfl
theorem qti (m n:Int) (b P o c:List Int) (V:List Value) (j:Nat) (z v w t:Int) (a i x:Int) (Q:List SV->List (Nat × LB)->Prop) (R:List Item->PS->Prop):sy ttO G0 CD9 Try.f20.ntmps Try.f20.results.toList Q (λ it S=>R it (qar [0,1,2,8,9,10,11,12,13,14,17] [62,77,88,125] S)) 1000 (hd Try.f20 2) ⟨[(0,.int .i64 m),(1,.sl uB b),(2,.int .i64 n),(8,.sl uB P),(9,.ptr 88 0),(10,.int .i64 v),(11,.int .i64 a),(12,.int .i64 w),(13,.win true uB 62 0 o.length),(14,.int .i64 i),(17,.int .u8 x)],[(62,.row 5 uB o),(77,rtV c t),(88,rkV m V j (.ptr 77 0) z)]⟩ =
  (bc (decide (w<16777216)) (bc (decide (a<(↑P.length:Int))) ((0:Int)<=a/\a<(↑P.length:Int)/\R (hd Try.f20 (2:Nat)) { env:=[(0,SV.int .i64 m),(1,SV.sl uB b),(2,SV.int .i64 n),(8,SV.sl uB P),(9,SV.ptr (88:Nat) (0:Nat)),(10,SV.int .i64 (i64.wrap (i64.wrap (v*(256:Int))+i64.wrap (gt uB P a.toNat)))),(11,SV.int .i64 (i64.wrap (a+1))),(12,SV.int .i64 (i64.wrap (w*(256:Int)))),(13,SV.win true uB (62:Nat) (0:Nat) o.length),(14,SV.int .i64 i),(17,SV.int .u8 x)],blk:=[(62,LB.row (5:Nat) uB o),(77,LB.var [SV.arr 256 (Sh.int .i64) c,SV.int .i64 t]),(88,LB.var [SV.int .i64 m,SV.pta 256 V j [SV.ptr (77:Nat) (0:Nat)],SV.int .u8 z])] }) (R (hd Try.f20 (2:Nat)) { env:=[(0,SV.int .i64 m),(1,SV.sl uB b),(2,SV.int .i64 n),(8,SV.sl uB P),(9,SV.ptr (88:Nat) (0:Nat)),(10,SV.int .i64 (i64.wrap (v*(256:Int)))),(11,SV.int .i64 (i64.wrap (a+1))),(12,SV.int .i64 (i64.wrap (w*(256:Int)))),(13,SV.win true uB (62:Nat) (0:Nat) o.length),(14,SV.int .i64 i),(17,SV.int .u8 x)],blk:=[(62,LB.row (5:Nat) uB o),(77,LB.var [SV.arr 256 (Sh.int .i64) c,SV.int .i64 t]),(88,LB.var [SV.int .i64 m,SV.pta 256 V j [SV.ptr (77:Nat) (0:Nat)],SV.int .u8 z])] })) (0+1<=((List.replicate (1:Nat) uB.dflt).set (0:Nat) x).length/\o.length=o.length/\(0:Nat)=(0:Nat)/\o.length+(winL uB 0 1 ((List.replicate (1:Nat) uB.dflt).set (0:Nat) x)).length<2 ^ 30/\(1:Nat)<=2 ^ 10/\256=256/\256=256/\ctRSw.pre ((m,((V,j),c,t,()),z,()),x,())/\R (hd Try.f20 (1:Nat)) { env:=[(0,SV.int .i64 m),(1,SV.sl uB b),(2,SV.int .i64 n),(8,SV.sl uB P),(9,SV.ptr (88:Nat) (0:Nat)),(10,SV.int .i64 v),(11,SV.int .i64 a),(12,SV.int .i64 w),(13,SV.win true uB (125:Nat) (0:Nat) (o.length+(winL uB 0 1 ((List.replicate (1:Nat) uB.dflt).set (0:Nat) x)).length)),(14,SV.int .i64 (i64.wrap (i+1))),(17,SV.int .u8 x)],blk:=[(77,LB.var [SV.arr 256 (Sh.int .i64) (nxT m c t x).fst,SV.int .i64 (nxT m c t x).snd]),(88,LB.var [SV.int .i64 m,SV.pta 256 V j [SV.ptr (77:Nat) (0:Nat)],SV.int .u8 x]),(125,LB.row (5:Nat) uB (o++winL uB 0 1 ((List.replicate (1:Nat) uB.dflt).set (0:Nat) x)))] })):=by kernel_rfl
theorem qz8 {c:List Int} {r v:Int}:∀ (k i:Nat),i+k=255->r*sm (c.take i)<=v->fnF c r v k i<256/\r*sm (c.take (fnF c r v k i))<=v/\(v<r*sm (c.take (fnF c r v k i+1))\/fnF c r v k i=255)
 | 0,i,hi,h=>by
  have hi:i=255:=by omega
  subst hi;exact ⟨(by decide:(255:Nat)<256),h,.inr rfl⟩
 | k+1,i,hi,h=>by
  rw[fnF];by_cases hq:v<r*sm (c.take (i+1))
  ·rw[decide_eq_true hq];exact ⟨by show i<256;omega,h,.inl hq⟩
  ·rw[decide_eq_false hq];exact qz8 k (i+1) (by omega) (by omega)
theorem q5a {c:List Int} {r v:Int} (h:0<=v):fnN c r v<256/\r*sm (c.take (fnN c r v))<=v/\(v<r*sm (c.take (fnN c r v+1))\/fnN c r v=255):=qz8 255 0 rfl (by show r*0<=v;omega)
theorem qxj {c:List Int} {t r v:Int} (ht:qa7 c t) (hr:1<=r/\r<=16777216):∀ (k i:Nat),i+k=255->fnF c r v k i=fnN c r v ->
  GDO 44 Try.f44 (QI ctRFi ((c,t,()),r,v,())) (hd Try.f44 0) ⟨[(0,.ptr BIG 0),(1,.i r),(2,.i v),(7,.i (sm (c.take i))),(8,.i (i:Nat))],[(BIG,rtV c t)]⟩:=by
 intro k
 induction k with
 | zero=>
  intro i hi h;have hi:i=255:=by omega
  subst hi;refine qag (cx0.tab qev) (qtf c t r v _ _ _ _) (qaj (no_t (by decide)) λ _=>?_);refine QI.self ?_ rfl rfl (lk1 rfl)
  show [SV.u (fnN c r v:Nat)]=_
  rw[<- h];rfl
 | succ k ih=>
  intro i hi h;have hil:i<c.length:=by rw[ht.1];omega
  have h1:=qb5 ht i;have h2:=qb5 ht (i+1);have h3:=(qe0 ht).2;have es:=qb9 hil;have eg:gt (Sh.int .i64) c (i:Int).toNat=gtU c i:=by rw[Int.toNat_natCast];rfl
  have m1:0<=r*sm (c.take (i+1)):=Int.mul_nonneg (by omega) h2.1;have m2:r*sm (c.take (i+1))<=16777216*65536:=Int.mul_le_mul hr.2 (by omega) h2.1 (by decide);refine qag (cx0.tab qev) (qtf c t r v _ _ _ _) (qaj (λ _=>⟨by omega,by omega,by omega,?_⟩) (no_f (by omega)));rw[eg,<- es,IntWalk.i64_in (sm (c.take (i+1))) (by omega),IntWalk.i64_in (r*sm (c.take (i+1))) (by omega),IntWalk.i64_in ((i:Int)+1) (by omega)];rw[fnF] at h;refine qaj (λ hq=>?_) (λ hq=>?_)
  ·rw[hq] at h;refine QI.self ?_ rfl rfl (lk1 rfl)
   show [SV.u (fnN c r v:Nat)]=_
   rw[IntWalk.u8_in _ (by omega),<- h]
  ·rw[hq] at h;exact (ih (i+1) (by omega) h).only ⟨rfl,rfl,rfl,rfl,rfl,trivial⟩ ⟨rfl,trivial⟩
theorem qxk:HeldI Try.prog G0 44 ctRFi:=HeldI.of (cx0.tab qev) (fn:=Try.f44) rfl rfl ⟨by decide,by decide⟩ λ ⟨⟨c,t,_⟩,r,v,_⟩ hp=>by
 obtain ⟨ht,hr,hv⟩:q1p c t r v:=hp;refine qag (cx0.tab qev) (q3t c t r v _ _) ?_;exact (qxj ht hr 255 0 rfl rfl).only ⟨rfl,rfl,rfl,rfl,rfl,trivial⟩ ⟨rfl,trivial⟩
def rdv (P:List Int):Int:=i64.wrap (i64.wrap (i64.wrap (i64.wrap (i64.wrap (gt uB P (Int.toNat (0:Int)))*(2:Int) ^ min (Int.toNat (24:Int)) i64.bits)+i64.wrap (i64.wrap (gt uB P (Int.toNat (1:Int)))*(2:Int) ^ min (Int.toNat (16:Int)) i64.bits))+i64.wrap (i64.wrap (gt uB P (Int.toNat (2:Int)))*(2:Int) ^ min (Int.toNat (8:Int)) i64.bits))+i64.wrap (gt uB P (Int.toNat (3:Int))))
theorem q0v (m n:Int) (b P:List Int) (Q:List SV->List (Nat × LB)->Prop) (R:List Item->PS->Prop):sy ttO G0 CD9 Try.f20.ntmps Try.f20.results.toList Q (λ it S=>R it (qar [0,1,2,8,9,10,11,12,13,14] rdeK S)) 1000 (hd Try.f20 0) ⟨[(0,.i m),(1,.sl uB b),(2,.i n),(8,.sl uB P)],[]⟩ =
  (bc (decide ((P.length:Int)<4)) False (ctRBeg.pre (m,())/\(0:Int)<=0/\(0:Int)<(P.length:Int)/\(0:Int)<=24/\(0:Int)<=1/\(1:Int)<(P.length:Int)/\(0:Int)<=16/\(0:Int)<=2/\(2:Int)<(P.length:Int)/\(0:Int)<=8/\(0:Int)<=3/\(3:Int)<(P.length:Int)/\R (hd Try.f20 1) ⟨[(0,SV.i m),(1,SV.sl uB b),(2,SV.i n),(8,SV.sl uB P),(9,SV.ptr 1180231 0),(10,SV.i (rdv P)),(11,SV.i (4:Int)),(12,SV.i (4294967295:Int)),(13,SV.win true uB 67 0 0),(14,SV.i (0:Int))],rdeB m⟩)):=by kernel_rfl
end Go.Proofs.Ytdlnmlepljepjaa
