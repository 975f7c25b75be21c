/-
  A part of the proof: what pieces of the program give; conditions: those of each theorem.
-/
import Derived.Test.YtdeacfammdjajaaDoorQ3
import Derived.Test.YtdeacfammdjajaaDoorQ1
set_option linter.unusedVariables false
set_option linter.unusedSimpArgs false
namespace Go.Proofs.YtdeacfammdjajaaDoor
open Go.Px Go.Ax
set_option maxRecDepth 100000
def opK (k:Int) (l:List SyT):OpT:=(k,if k=1\/k=2 then (gtY l 0).2.1 else 0,(l.length:Int),if k=3 then (gtY l 0).2.2 else 0,if k=2\/k=4 then l.map λ s=>s.2.2 else [])
def ctO8:Ctr:=⟨[iI,.sl syS],λ x=>preMk x.1 x.2.1,λ x=>mdV (opK x.1 x.2.1),λ _=>[]⟩
set_option maxRecDepth 100000
theorem q98 (l:List SyT) (Q:QT) (R:RT):sA [] Tryd.f69 Q (λ it S=>R it (qaj [0,1,4,5,6] [4,5,51] S)) [.code (qad Tryd.f69)] (entry [iI,.sl syS] ((1:Int),l,())) =
  (true=true/\(0:Int)<=0/\(0:Int)<(l.length:Int)/\R (hd Tryd.f69 0) { env:=[(0,.i 1),(1,.sl syS l),(4,.ptr 4 0),(5,.ptr 5 0),(6,.i 0)],blk:=[(4,.var [.i 0,.i 0,.i 0,.u 0,.nils]),(5,.var [.i 1,.i (gtY l (0)).2.1,.i (l.length:Int),.u 0,.nils])] }):=by kernel_rfl
theorem q97 (l:List SyT) (Q:QT) (R:RT):sA [] Tryd.f69 Q (λ it S=>R it (qaj [0,1,4,5,6] [4,5,51] S)) [.code (qad Tryd.f69)] (entry [iI,.sl syS] ((2:Int),l,())) =
  ((0:Int)<=0/\(0:Int)<(l.length:Int)/\R (hd Tryd.f69 0) { env:=[(0,.i 2),(1,.sl syS l),(4,.ptr 4 0),(5,.ptr 5 0),(6,.i 0)],blk:=[(4,.var [.i 0,.i 0,.i 0,.u 0,.nils]),(5,.var [.i 2,.i (gtY l (0)).2.1,.i (l.length:Int),.u 0,.nils])] }):=by kernel_rfl
theorem q96 (l:List SyT) (Q:QT) (R:RT):sA [] Tryd.f69 Q (λ it S=>R it (qaj [0,1,4,5,6] [4,5,51] S)) [.code (qad Tryd.f69)] (entry [iI,.sl syS] ((3:Int),l,())) =
  ((0:Int)<=0/\(0:Int)<(l.length:Int)/\R (hd Tryd.f69 0) { env:=[(0,.i 3),(1,.sl syS l),(4,.ptr 4 0),(5,.ptr 5 0),(6,.i 0)],blk:=[(4,.var [.i 0,.i 0,.i 0,.u 0,.nils]),(5,.var [.i 3,.i 0,.i (l.length:Int),.u (gtY l (0)).2.2,.nils])] }):=by kernel_rfl
theorem q95 (l:List SyT) (Q:QT) (R:RT):sA [] Tryd.f69 Q (λ it S=>R it (qaj [0,1,4,5,6] [4,5,51] S)) [.code (qad Tryd.f69)] (entry [iI,.sl syS] ((4:Int),l,())) =
  (R (hd Tryd.f69 0) { env:=[(0,.i 4),(1,.sl syS l),(4,.ptr 4 0),(5,.ptr 5 0),(6,.i 0)],blk:=[(4,.var [.i 0,.i 0,.i 0,.u 0,.nils]),(5,.var [.i 4,.i 0,.i (l.length:Int),.u 0,.nils])] }):=by kernel_rfl
def qme (a b:Int) (l:List SyT):List (Nat × LB):=[(4,.var [.i 1,.i a,.i (l.length:Int),.u b,.nils]),(5,.var [.i 1,.i a,.i (l.length:Int),.u b,.nils])]
theorem zae (a b:Int) (l:List SyT) (i:Nat) (Q:QT) (R:RT):sA [] Tryd.f69 Q (λ it S=>R it (qaj [0,1,4,5,6] [4,5,51] S)) (hd Tryd.f69 0) ⟨[(0,.i 1),(1,.sl syS l),(4,.ptr 4 0),(5,.ptr 5 0),(6,.i (i:Nat))],[(4,.var [.i 0,.i 0,.i 0,.u 0,.nils]),(5,.var [.i 1,.i a,.i l.length,.u b,.nils])]⟩ =
  (bc (decide ((i:Int)<(l.length:Int))) (Q [.agg [.i 1,.i a,.i (l.length:Int),.u b,.nils]] (qme a b l)) (false=false/\Q [.agg [.i 1,.i a,.i (l.length:Int),.u b,.nils]] (qme a b l))):=by kernel_rfl
theorem zad (a b:Int) (l:List SyT) (i:Nat) (Q:QT) (R:RT):sA [] Tryd.f69 Q (λ it S=>R it (qaj [0,1,4,5,6] [4,5,51] S)) (hd Tryd.f69 0) ⟨[(0,.i 2),(1,.sl syS l),(4,.ptr 4 0),(5,.ptr 5 0),(6,.i (i:Nat))],[(4,.var [.i 0,.i 0,.i 0,.u 0,.nils]),(5,.var [.i 2,.i a,.i l.length,.u b,.nils])]⟩ =
  (bc (decide ((i:Int)<(l.length:Int))) (true=true/\(0:Int)<=(i:Int)/\(i:Int)<(l.length:Int)/\0+1<=((List.replicate (1:Nat) uB.dflt).set (0:Nat) (gtY l (i:Int).toNat).2.2).length/\(winL uB 0 1 ((List.replicate (1:Nat) uB.dflt).set (0:Nat) (gtY l (i:Int).toNat).2.2)).length<2 ^ 30/\(1:Nat)<=2 ^ 10/\R (hd Tryd.f69 0) { env:=[(0,.i 2),(1,.sl syS l),(4,.ptr 4 0),(5,.ptr 5 0),(6,.i (IntKind.i64.wrap ((i:Int)+1)))],blk:=[(4,.var [.i 0,.i 0,.i 0,.u 0,.nils]),(5,.var [.i 2,.i a,.i (l.length:Int),.u b,.win true uB 51 0 (1:Nat)]),(51,.row 5 uB (winL uB 0 1 ((List.replicate (1:Nat) uB.dflt).set (0:Nat) (gtY l (i:Int).toNat).2.2)))] }) (false=false/\Q [.agg [.i 2,.i a,.i (l.length:Int),.u b,.nils]] [(4,.var [.i 2,.i a,.i (l.length:Int),.u b,.nils]),(5,.var [.i 2,.i a,.i (l.length:Int),.u b,.nils])])):=by kernel_rfl
def qmd (a b:Int) (l:List SyT):List (Nat × LB):=[(4,.var [.i 3,.i a,.i (l.length:Int),.u b,.nils]),(5,.var [.i 3,.i a,.i (l.length:Int),.u b,.nils])]
theorem zac (a b:Int) (l:List SyT) (i:Nat) (Q:QT) (R:RT):sA [] Tryd.f69 Q (λ it S=>R it (qaj [0,1,4,5,6] [4,5,51] S)) (hd Tryd.f69 0) ⟨[(0,.i 3),(1,.sl syS l),(4,.ptr 4 0),(5,.ptr 5 0),(6,.i (i:Nat))],[(4,.var [.i 0,.i 0,.i 0,.u 0,.nils]),(5,.var [.i 3,.i a,.i l.length,.u b,.nils])]⟩ =
  (bc (decide ((i:Int)<(l.length:Int))) (Q [.agg [.i 3,.i a,.i (l.length:Int),.u b,.nils]] (qmd a b l)) (false=false/\Q [.agg [.i 3,.i a,.i (l.length:Int),.u b,.nils]] (qmd a b l))):=by kernel_rfl
theorem zab (a b:Int) (l:List SyT) (i:Nat) (Q:QT) (R:RT):sA [] Tryd.f69 Q (λ it S=>R it (qaj [0,1,4,5,6] [4,5,51] S)) (hd Tryd.f69 0) ⟨[(0,.i 4),(1,.sl syS l),(4,.ptr 4 0),(5,.ptr 5 0),(6,.i (i:Nat))],[(4,.var [.i 0,.i 0,.i 0,.u 0,.nils]),(5,.var [.i 4,.i a,.i l.length,.u b,.nils])]⟩ =
  (bc (decide ((i:Int)<(l.length:Int))) ((0:Int)<=(i:Int)/\(i:Int)<(l.length:Int)/\0+1<=((List.replicate (1:Nat) uB.dflt).set (0:Nat) (gtY l (i:Int).toNat).2.2).length/\(winL uB 0 1 ((List.replicate (1:Nat) uB.dflt).set (0:Nat) (gtY l (i:Int).toNat).2.2)).length<2 ^ 30/\(1:Nat)<=2 ^ 10/\R (hd Tryd.f69 0) { env:=[(0,.i 4),(1,.sl syS l),(4,.ptr 4 0),(5,.ptr 5 0),(6,.i (IntKind.i64.wrap ((i:Int)+1)))],blk:=[(4,.var [.i 0,.i 0,.i 0,.u 0,.nils]),(5,.var [.i 4,.i a,.i (l.length:Int),.u b,.win true uB 51 0 (1:Nat)]),(51,.row 5 uB (winL uB 0 1 ((List.replicate (1:Nat) uB.dflt).set (0:Nat) (gtY l (i:Int).toNat).2.2)))] }) (false=false/\Q [.agg [.i 4,.i a,.i (l.length:Int),.u b,.nils]] [(4,.var [.i 4,.i a,.i (l.length:Int),.u b,.nils]),(5,.var [.i 4,.i a,.i (l.length:Int),.u b,.nils])])):=by kernel_rfl
theorem zaa (a b:Int) (d:List Int) (l:List SyT) (i:Nat) (Q:QT) (R:RT):sA [] Tryd.f69 Q (λ it S=>R it (qaj [0,1,4,5,6] [4,5,51] S)) (hd Tryd.f69 0) ⟨[(0,.i 2),(1,.sl syS l),(4,.ptr 4 0),(5,.ptr 5 0),(6,.i (i:Nat))],[(4,.var [.i 0,.i 0,.i 0,.u 0,.nils]),(5,.var [.i 2,.i a,.i l.length,.u b,.win true uB 51 0 d.length]),(51,.row 5 uB d)]⟩ =
  (bc (decide ((i:Int)<(l.length:Int))) (true=true/\(0:Int)<=(i:Int)/\(i:Int)<(l.length:Int)/\0+1<=((List.replicate (1:Nat) uB.dflt).set (0:Nat) (gtY l (i:Int).toNat).2.2).length/\d.length=d.length/\(0:Nat)=(0:Nat)/\d.length+(winL uB 0 1 ((List.replicate (1:Nat) uB.dflt).set (0:Nat) (gtY l (i:Int).toNat).2.2)).length<2 ^ 30/\(1:Nat)<=2 ^ 10/\R (hd Tryd.f69 0) { env:=[(0,.i 2),(1,.sl syS l),(4,.ptr 4 0),(5,.ptr 5 0),(6,.i (IntKind.i64.wrap ((i:Int)+1)))],blk:=[(4,.var [.i 0,.i 0,.i 0,.u 0,.nils]),(5,.var [.i 2,.i a,.i (l.length:Int),.u b,.win true uB 51 0 (d.length+(winL uB 0 1 ((List.replicate (1:Nat) uB.dflt).set (0:Nat) (gtY l (i:Int).toNat).2.2)).length)]),(51,.row 5 uB (d++winL uB 0 1 ((List.replicate (1:Nat) uB.dflt).set (0:Nat) (gtY l (i:Int).toNat).2.2)))] }) (false=false/\Q [.agg [.i 2,.i a,.i (l.length:Int),.u b,.win true uB 51 0 d.length]] [(4,.var [.i 2,.i a,.i (l.length:Int),.u b,.win true uB 51 0 d.length]),(5,.var [.i 2,.i a,.i (l.length:Int),.u b,.win true uB 51 0 d.length]),(51,.row 5 uB d)])):=by kernel_rfl
theorem q94 (a b:Int) (d:List Int) (l:List SyT) (i:Nat) (Q:QT) (R:RT):sA [] Tryd.f69 Q (λ it S=>R it (qaj [0,1,4,5,6] [4,5,51] S)) (hd Tryd.f69 0) ⟨[(0,.i 2),(1,.sl syS l),(4,.ptr 4 0),(5,.ptr 5 0),(6,.i (i:Nat))],[(4,.var [.i 0,.i 0,.i 0,.u 0,.nils]),(5,.var [.i 2,.i a,.i l.length,.u b,.sl uB d])]⟩ =
  (bc (decide ((i:Int)<(l.length:Int))) (true=true/\(0:Int)<=(i:Int)/\(i:Int)<(l.length:Int)/\False) (false=false/\Q [.agg [.i 2,.i a,.i (l.length:Int),.u b,.sl uB d]] [(4,.var [.i 2,.i a,.i (l.length:Int),.u b,.sl uB d]),(5,.var [.i 2,.i a,.i (l.length:Int),.u b,.sl uB d])])):=by kernel_rfl
theorem q99 (a b:Int) (d:List Int) (l:List SyT) (i:Nat) (Q:QT) (R:RT):sA [] Tryd.f69 Q (λ it S=>R it (qaj [0,1,4,5,6] [4,5,51] S)) (hd Tryd.f69 0) ⟨[(0,.i 4),(1,.sl syS l),(4,.ptr 4 0),(5,.ptr 5 0),(6,.i (i:Nat))],[(4,.var [.i 0,.i 0,.i 0,.u 0,.nils]),(5,.var [.i 4,.i a,.i l.length,.u b,.win true uB 51 0 d.length]),(51,.row 5 uB d)]⟩ =
  (bc (decide ((i:Int)<(l.length:Int))) ((0:Int)<=(i:Int)/\(i:Int)<(l.length:Int)/\0+1<=((List.replicate (1:Nat) uB.dflt).set (0:Nat) (gtY l (i:Int).toNat).2.2).length/\d.length=d.length/\(0:Nat)=(0:Nat)/\d.length+(winL uB 0 1 ((List.replicate (1:Nat) uB.dflt).set (0:Nat) (gtY l (i:Int).toNat).2.2)).length<2 ^ 30/\(1:Nat)<=2 ^ 10/\R (hd Tryd.f69 0) { env:=[(0,.i 4),(1,.sl syS l),(4,.ptr 4 0),(5,.ptr 5 0),(6,.i (IntKind.i64.wrap ((i:Int)+1)))],blk:=[(4,.var [.i 0,.i 0,.i 0,.u 0,.nils]),(5,.var [.i 4,.i a,.i (l.length:Int),.u b,.win true uB 51 0 (d.length+(winL uB 0 1 ((List.replicate (1:Nat) uB.dflt).set (0:Nat) (gtY l (i:Int).toNat).2.2)).length)]),(51,.row 5 uB (d++winL uB 0 1 ((List.replicate (1:Nat) uB.dflt).set (0:Nat) (gtY l (i:Int).toNat).2.2)))] }) (false=false/\Q [.agg [.i 4,.i a,.i (l.length:Int),.u b,.win true uB 51 0 d.length]] [(4,.var [.i 4,.i a,.i (l.length:Int),.u b,.win true uB 51 0 d.length]),(5,.var [.i 4,.i a,.i (l.length:Int),.u b,.win true uB 51 0 d.length]),(51,.row 5 uB d)])):=by kernel_rfl
theorem q93 (a b:Int) (d:List Int) (l:List SyT) (i:Nat) (Q:QT) (R:RT):sA [] Tryd.f69 Q (λ it S=>R it (qaj [0,1,4,5,6] [4,5,51] S)) (hd Tryd.f69 0) ⟨[(0,.i 4),(1,.sl syS l),(4,.ptr 4 0),(5,.ptr 5 0),(6,.i (i:Nat))],[(4,.var [.i 0,.i 0,.i 0,.u 0,.nils]),(5,.var [.i 4,.i a,.i l.length,.u b,.sl uB d])]⟩ =
  (bc (decide ((i:Int)<(l.length:Int))) ((0:Int)<=(i:Int)/\(i:Int)<(l.length:Int)/\False) (false=false/\Q [.agg [.i 4,.i a,.i (l.length:Int),.u b,.sl uB d]] [(4,.var [.i 4,.i a,.i (l.length:Int),.u b,.sl uB d]),(5,.var [.i 4,.i a,.i (l.length:Int),.u b,.sl uB d])])):=by kernel_rfl
open Go.IntKind(i64 u32 u8)
attribute [local irreducible] Go.Px.sy Go.Px.syE
abbrev bL (l:List SyT):List Int:=l.map λ s=>s.2.2
theorem qps (l:List SyT):(bL l).length=l.length:=by simp
theorem q23 {l:List SyT} {i:Nat} (h:i<l.length):(bL l).take (i+1)=(bL l).take i++[(gtY l i).2.2]:=by
 rw[List.take_succ_eq_append_getElem (show i<(bL l).length by rw[qps];omega),qjd h];simp
abbrev O8Q (k a b:Int) (l:List SyT) (d:List Int):List SV->List (Nat × LB)->Prop:=λ rs _=>rs=[.agg [.i k,.i a,.i l.length,.u b,.sl uB d]]
section
variable (a b:Int) (l:List SyT) (hl:l.length<16777216)
include hl
theorem o8B2:∀ (c i:Nat),l.length-i=c->1<=i->i<=l.length ->
  GD 69 Tryd.f69 (O8Q 2 a b l (bL l)) (hd Tryd.f69 0) ⟨[(0,.i 2),(1,.sl syS l),(4,.ptr 4 0),(5,.ptr 5 0),(6,.i (i:Nat))],[(4,.var [.i 0,.i 0,.i 0,.u 0,.nils]),(5,.var [.i 2,.i a,.i l.length,.u b,.win true uB 51 0 ((bL l).take i).length]),(51,.row 5 uB ((bL l).take i))]⟩:=by
 intro c
 induction c with
 | zero=>
  intro i hc h1 hi;have hi:i=l.length:=by omega
  subst hi;have e:(bL l).take l.length=bL l:=List.take_of_length_le (by rw[qps];omega);rw[e];refine Good.frz (i:=51) (e:=uB) (et:=5) (xs:=bL l) rfl (λ c hc=>?_) ?_
  ·have hc:c∈[0+(bL l).length<=(bL l).length]:=hc;rw[List.mem_singleton] at hc;subst hc;omega
  ·have e:GD 69 Tryd.f69 (O8Q 2 a b l (bL l)) (hd Tryd.f69 0) ⟨[(0,.i 2),(1,.sl syS l),(4,.ptr 4 0),(5,.ptr 5 0),(6,.i (l.length:Nat))],[(4,.var [.i 0,.i 0,.i 0,.u 0,.nils]),(5,.var [.i 2,.i a,.i l.length,.u b,.sl uB (winL uB 0 (bL l).length (bL l))])]⟩:=by
    refine qah cx0 (q94 a b (winL uB 0 (bL l).length (bL l)) l l.length _ _) ?_;rw[decide_eq_false (by omega),bc_f];refine ⟨rfl,?_⟩;rw[winA]
   exact e.only ⟨rfl,rfl,rfl,rfl,rfl,trivial⟩ ⟨rfl,rfl,trivial⟩
 | succ c ih=>
  intro i hc h1 hi;have hil:i<l.length:=by omega
  have nx:=ih (i+1) (by omega) (by omega) (by omega);have tl:((bL l).take i).length=i:=by rw[List.length_take,qps];omega
  rw[q23 hil] at nx;have one:winL uB 0 1 ((List.replicate 1 uB.dflt).set 0 (gtY l i).2.2)=[(gtY l i).2.2]:=rfl;refine qah cx0 (zaa a b ((bL l).take i) l i _ _) ?_;rw[decide_eq_true (show (i:Int)<(l.length:Int) by omega),bc_t,Int.toNat_natCast,IntWalk.i64_in ((i:Int)+1) (by omega),one];refine ⟨rfl,by omega,by omega,Nat.le_refl 1,rfl,rfl,?_,by decide,?_⟩
  ·show ((bL l).take i).length+1<2 ^ 30
   rw[tl]
   show i+1<1073741824
   omega
  ·exact nx.only ⟨rfl,rfl,rfl,rfl,rfl,trivial⟩ ⟨rfl,by rw[List.length_append];rfl,rfl,trivial⟩
theorem o8A2 (h0:1<=l.length):GD 69 Tryd.f69 (O8Q 2 a b l (bL l)) (hd Tryd.f69 0) ⟨[(0,.i 2),(1,.sl syS l),(4,.ptr 4 0),(5,.ptr 5 0),(6,.i ((0:Nat):Int))],[(4,.var [.i 0,.i 0,.i 0,.u 0,.nils]),(5,.var [.i 2,.i a,.i l.length,.u b,.nils])]⟩:=by
 have nx:=o8B2 a b l hl _ 1 rfl (Nat.le_refl 1) h0;rw[q23 (show 0<l.length by omega)] at nx;have one:winL uB 0 1 ((List.replicate 1 uB.dflt).set 0 (gtY l 0).2.2)=[(gtY l 0).2.2]:=rfl;refine qah cx0 (zad a b l 0 _ _) ?_;rw[decide_eq_true (show ((0:Nat):Int)<(l.length:Int) by omega),bc_t,Int.toNat_natCast,IntWalk.i64_in (((0:Nat):Int)+1) (by omega),one];exact ⟨rfl,by omega,by omega,Nat.le_refl 1,(show 1<2 ^ 30 by decide),by decide,nx.only ⟨rfl,rfl,rfl,rfl,rfl,trivial⟩ ⟨rfl,rfl,rfl,trivial⟩⟩
theorem o8B4:∀ (c i:Nat),l.length-i=c->1<=i->i<=l.length ->
  GD 69 Tryd.f69 (O8Q 4 a b l (bL l)) (hd Tryd.f69 0) ⟨[(0,.i 4),(1,.sl syS l),(4,.ptr 4 0),(5,.ptr 5 0),(6,.i (i:Nat))],[(4,.var [.i 0,.i 0,.i 0,.u 0,.nils]),(5,.var [.i 4,.i a,.i l.length,.u b,.win true uB 51 0 ((bL l).take i).length]),(51,.row 5 uB ((bL l).take i))]⟩:=by
 intro c
 induction c with
 | zero=>
  intro i hc h1 hi;have hi:i=l.length:=by omega
  subst hi;have e:(bL l).take l.length=bL l:=List.take_of_length_le (by rw[qps];omega);rw[e];refine Good.frz (i:=51) (e:=uB) (et:=5) (xs:=bL l) rfl (λ c hc=>?_) ?_
  ·have hc:c∈[0+(bL l).length<=(bL l).length]:=hc;rw[List.mem_singleton] at hc;subst hc;omega
  ·have e:GD 69 Tryd.f69 (O8Q 4 a b l (bL l)) (hd Tryd.f69 0) ⟨[(0,.i 4),(1,.sl syS l),(4,.ptr 4 0),(5,.ptr 5 0),(6,.i (l.length:Nat))],[(4,.var [.i 0,.i 0,.i 0,.u 0,.nils]),(5,.var [.i 4,.i a,.i l.length,.u b,.sl uB (winL uB 0 (bL l).length (bL l))])]⟩:=by
    refine qah cx0 (q93 a b (winL uB 0 (bL l).length (bL l)) l l.length _ _) ?_;rw[decide_eq_false (by omega),bc_f];refine ⟨rfl,?_⟩;rw[winA]
   exact e.only ⟨rfl,rfl,rfl,rfl,rfl,trivial⟩ ⟨rfl,rfl,trivial⟩
 | succ c ih=>
  intro i hc h1 hi;have hil:i<l.length:=by omega
  have nx:=ih (i+1) (by omega) (by omega) (by omega);have tl:((bL l).take i).length=i:=by rw[List.length_take,qps];omega
  rw[q23 hil] at nx;have one:winL uB 0 1 ((List.replicate 1 uB.dflt).set 0 (gtY l i).2.2)=[(gtY l i).2.2]:=rfl;refine qah cx0 (q99 a b ((bL l).take i) l i _ _) ?_;rw[decide_eq_true (show (i:Int)<(l.length:Int) by omega),bc_t,Int.toNat_natCast,IntWalk.i64_in ((i:Int)+1) (by omega),one];refine ⟨by omega,by omega,Nat.le_refl 1,rfl,rfl,?_,by decide,?_⟩
  ·show ((bL l).take i).length+1<2 ^ 30
   rw[tl]
   show i+1<1073741824
   omega
  ·exact nx.only ⟨rfl,rfl,rfl,rfl,rfl,trivial⟩ ⟨rfl,by rw[List.length_append];rfl,rfl,trivial⟩
theorem o8A4 (h0:1<=l.length):GD 69 Tryd.f69 (O8Q 4 a b l (bL l)) (hd Tryd.f69 0) ⟨[(0,.i 4),(1,.sl syS l),(4,.ptr 4 0),(5,.ptr 5 0),(6,.i ((0:Nat):Int))],[(4,.var [.i 0,.i 0,.i 0,.u 0,.nils]),(5,.var [.i 4,.i a,.i l.length,.u b,.nils])]⟩:=by
 have nx:=o8B4 a b l hl _ 1 rfl (Nat.le_refl 1) h0;rw[q23 (show 0<l.length by omega)] at nx;have one:winL uB 0 1 ((List.replicate 1 uB.dflt).set 0 (gtY l 0).2.2)=[(gtY l 0).2.2]:=rfl;refine qah cx0 (zab a b l 0 _ _) ?_;rw[decide_eq_true (show ((0:Nat):Int)<(l.length:Int) by omega),bc_t,Int.toNat_natCast,IntWalk.i64_in (((0:Nat):Int)+1) (by omega),one];exact ⟨by omega,by omega,Nat.le_refl 1,(show 1<2 ^ 30 by decide),by decide,nx.only ⟨rfl,rfl,rfl,rfl,rfl,trivial⟩ ⟨rfl,rfl,rfl,trivial⟩⟩
end
theorem zbx (x:OpT) (h:x.2.2.2.2=[]):MtL (λ _=>none) (mdV x) [.agg [.i x.1,.i x.2.1,.i x.2.2.1,.u x.2.2.2.1,.nils]]:=
 ⟨_,_,rfl,⟨_,rfl,_,_,rfl,rfl,_,_,rfl,rfl,_,_,rfl,rfl,_,_,rfl,rfl,_,_,rfl,.inr ⟨rfl,h⟩,rfl⟩,rfl⟩
theorem zbw (k:Int) (l:List SyT) (hp:preMk k l):GD 69 Tryd.f69 (QC ctO8 (k,l,())) [.code (qad Tryd.f69)] (entry [iI,.sl syS] (k,l,())):=by
 obtain ⟨hk,h0,h1⟩:=hp;rcases (show k=1\/k=2\/k=3\/k=4 by unfold kOK at hk;omega) with e | e | e | e
 ·subst e;refine qah cx0 (q98 l _ _) ⟨rfl,by omega,by omega,?_⟩;have e:GD 69 Tryd.f69 (QC ctO8 (1,l,())) (hd Tryd.f69 0) ⟨[(0,.i 1),(1,.sl syS l),(4,.ptr 4 0),(5,.ptr 5 0),(6,.i ((0:Nat):Int))],[(4,.var [.i 0,.i 0,.i 0,.u 0,.nils]),(5,.var [.i 1,.i (gtY l 0).2.1,.i l.length,.u 0,.nils])]⟩:=by
   have fin:∀ bl,QC ctO8 (1,l,()) [SV.agg [SV.int i64 1,SV.int i64 (gtY l 0).2.1,SV.int i64 (l.length:Int),SV.int u8 0,SV.nils]] bl:=λ bl=>QC.mt (zbx (opK 1 l) rfl) rfl
   refine qah cx0 (zae (gtY l 0).2.1 0 l 0 _ _) (qaf (λ _=>fin _) (λ _=>⟨rfl,fin _⟩))
  exact e.only ⟨rfl,rfl,rfl,rfl,rfl,trivial⟩ ⟨rfl,rfl,trivial⟩
 ·subst e;refine qah cx0 (q97 l _ _) ⟨by omega,by omega,?_⟩;exact ((o8A2 (gtY l 0).2.1 0 l h1 h0).post λ rs blk hq=>QC.flat (by rw[hq];rfl) rfl (by rw[hq];rfl)).only ⟨rfl,rfl,rfl,rfl,rfl,trivial⟩ ⟨rfl,rfl,trivial⟩
 ·subst e;refine qah cx0 (q96 l _ _) ⟨by omega,by omega,?_⟩;have e:GD 69 Tryd.f69 (QC ctO8 (3,l,())) (hd Tryd.f69 0) ⟨[(0,.i 3),(1,.sl syS l),(4,.ptr 4 0),(5,.ptr 5 0),(6,.i ((0:Nat):Int))],[(4,.var [.i 0,.i 0,.i 0,.u 0,.nils]),(5,.var [.i 3,.i 0,.i l.length,.u (gtY l 0).2.2,.nils])]⟩:=by
   have fin:∀ bl,QC ctO8 (3,l,()) [SV.agg [SV.int i64 3,SV.int i64 0,SV.int i64 (l.length:Int),SV.int u8 (gtY l 0).2.2,SV.nils]] bl:=λ bl=>QC.mt (zbx (opK 3 l) rfl) rfl
   refine qah cx0 (zac 0 (gtY l 0).2.2 l 0 _ _) ?_
   repeat' first
    | exact fin _
    | refine ⟨rfl,?_⟩
    | refine qaf (λ h=>?_) (λ h=>?_)
  exact e.only ⟨rfl,rfl,rfl,rfl,rfl,trivial⟩ ⟨rfl,rfl,trivial⟩
 ·subst e;refine qah cx0 (q95 l _ _) ?_;exact ((o8A4 0 0 l h1 h0).post λ rs blk hq=>QC.flat (by rw[hq];rfl) rfl (by rw[hq];rfl)).only ⟨rfl,rfl,rfl,rfl,rfl,trivial⟩ ⟨rfl,rfl,trivial⟩
theorem q7n:Held Tryd.prog G0 69 ctO8:=Held.of cx0 (fn:=Tryd.f69) rfl rfl ⟨by decide,by decide⟩ λ ⟨k,l,_⟩ hp=>zbw k l hp
theorem zbu {k m:Int} {l:List SyT} (hr:∀ s∈l,sOK m s=true) (h0:1<=l.length) (hi:isK k l l.length):opK k l=mdK k l:=by
 unfold opK mdK;split
 ·rfl
 next h=>
  have h1:=(hi 0 (by omega)).1;unfold canB at h1;rw[if_neg (by omega),if_neg (by omega)] at h1;have o:(gtY l 0).1=false:=by simpa using h1
  rw[sOK_f (show sOK m (gtY l 0)=true by rw[qjd (show 0<l.length by omega)];exact hr _ (List.getElem_mem _)) o]
def CLi:CV:=[(67,.inl ctFt),(68,.inl ctPr),(69,.inl ctO8)]
theorem cxLi:CxOK Tryd.prog tt G0 CLi:=((cx0.k q7n (fn:=Tryd.f69)).k q67 (fn:=Tryd.f68)).k q8m (fn:=Tryd.f67)
set_option maxRecDepth 100000
theorem vc_li (l:List SyT) (Q:QT) (R:RT):sA CLi Tryd.f54 Q (λ it S=>R it (qaj [0,3,4,5,6,7,10,11] [15,90,120] S)) [.code (qad Tryd.f54)] (entry [.sl syS] (l,())) =
  ((0:Int)<=i64.wrap ((l.length:Int)+1)/\i64.wrap ((l.length:Int)+1)<=i64.wrap ((l.length:Int)+1)/\i64.wrap ((l.length:Int)+1)<2 ^ 24/\(↑(32:Nat):Int)*i64.wrap ((l.length:Int)+1)<=2 ^ 48/\R (hd Tryd.f54 0) { env:=[(0,.sl syS l),(3,.win true liS 15 0 (i64.wrap ((l.length:Int)+1)).toNat),(4,.i (i64.wrap ((l.length:Int)-1)))],blk:=[(15,.row 114 liS (List.replicate (i64.wrap ((l.length:Int)+1)).toNat liS.dflt))] }):=by kernel_rfl
theorem q3z (l:List SyT) (b:List LiT) (i:Int) (Q:QT) (R:RT):sA CLi Tryd.f54 Q (λ it S=>R it (qaj [0,3,4,5,6,7,10,11] [15,90,120] S)) (hd Tryd.f54 0) ⟨[(0,.sl syS l),(3,.win true liS 15 0 b.length),(4,.i i)],[(15,.row 114 liS b)]⟩ =
  (bc (decide ((0:Int)<=i)) (R (hd Tryd.f54 1) { env:=[(0,.sl syS l),(3,.win true liS 15 0 b.length),(4,.i i),(5,.bool false),(6,.i 1)],blk:=[(15,.row 114 liS b)] }) (R (hd Tryd.f54 3) { env:=[(0,.sl syS l),(3,.win true liS 15 0 b.length),(4,.i i),(10,.win true opS 90 0 (0:Nat)),(11,.i 0)],blk:=[(15,.row 114 liS b),(90,.row 55 opS (List.replicate (0:Nat) opS.dflt))] })):=by kernel_rfl
theorem q3y (l:List SyT) (b:List LiT) (f:Bool) (i k:Int) (Q:QT) (R:RT):sA CLi Tryd.f54 Q (λ it S=>R it (qaj [0,3,4,5,6,7,10,11] [15,90,120] S)) (hd Tryd.f54 1) ⟨[(0,.sl syS l),(3,.win true liS 15 0 b.length),(4,.i i),(5,.bool f),(6,.i k)],[(15,.row 114 liS b)]⟩ =
  (bc (decide (k<=4)) ((0:Int)<=i/\i<=(l.length:Int)/\ctFt.pre (k,List.drop i.toNat l,())/\R (hd Tryd.f54 2) { env:=[(0,.sl syS l),(3,.win true liS 15 0 b.length),(4,.i i),(5,.bool f),(6,.i k),(7,.i (↑(fitN k (List.drop i.toNat l)):Int))],blk:=[(15,.row 114 liS b)] }) (R (hd Tryd.f54 0) { env:=[(0,.sl syS l),(3,.win true liS 15 0 b.length),(4,.i (i64.wrap (i-1))),(5,.bool f),(6,.i k)],blk:=[(15,.row 114 liS b)] })):=by kernel_rfl
theorem q3x (l:List SyT) (b:List LiT) (f:Bool) (i k n:Int) (Q:QT) (R:RT):sA CLi Tryd.f54 Q (λ it S=>R it (qaj [0,3,4,5,6,7,10,11] [15,90,120] S)) (hd Tryd.f54 2) ⟨[(0,.sl syS l),(3,.win true liS 15 0 b.length),(4,.i i),(5,.bool f),(6,.i k),(7,.i n)],[(15,.row 114 liS b)]⟩ =
  (bc (decide ((0:Int)<n)) ((0:Int)<=i64.wrap (i+n)/\i64.wrap (i+n)<(b.length:Int)/\0+(i64.wrap (i+n)).toNat<b.length/\ctPr.pre (k,n,())/\bc (!f) (true=true/\true=true/\(0:Int)<=i/\i<(b.length:Int)/\0+i.toNat<b.length/\R (hd Tryd.f54 2) { env:=[(0,.sl syS l),(3,.win true liS 15 0 b.length),(4,.i i),(5,.bool true),(6,.i k),(7,.i (i64.wrap (n-1)))],blk:=[(15,.row 114 liS (b.set (0+i.toNat) (k,n,i64.wrap (hdC k+eaC k*n+(gtL b (0+(i64.wrap (i+n)).toNat)).2.2.1),i64.wrap ((1:Int)+(gtL b (0+(i64.wrap (i+n)).toNat)).2.2.2))))] }) ((0:Int)<=i/\i<(b.length:Int)/\0+i.toNat<b.length/\bc (bif false then true else decide (i64.wrap (hdC k+eaC k*n+(gtL b (0+(i64.wrap (i+n)).toNat)).2.2.1)<(gtL b (0+i.toNat)).2.2.1)) (true=true/\(0:Int)<=i/\i<(b.length:Int)/\0+i.toNat<b.length/\R (hd Tryd.f54 2) { env:=[(0,.sl syS l),(3,.win true liS 15 0 b.length),(4,.i i),(5,.bool true),(6,.i k),(7,.i (i64.wrap (n-1)))],blk:=[(15,.row 114 liS (b.set (0+i.toNat) (k,n,i64.wrap (hdC k+eaC k*n+(gtL b (0+(i64.wrap (i+n)).toNat)).2.2.1),i64.wrap ((1:Int)+(gtL b (0+(i64.wrap (i+n)).toNat)).2.2.2))))] }) ((0:Int)<=i/\i<(b.length:Int)/\0+i.toNat<b.length/\bc (decide (i64.wrap (hdC k+eaC k*n+(gtL b (0+(i64.wrap (i+n)).toNat)).2.2.1)=(gtL b (0+i.toNat)).2.2.1)) ((0:Int)<=i/\i<(b.length:Int)/\0+i.toNat<b.length/\bc (bif false then true else bif true then decide (i64.wrap ((1:Int)+(gtL b (0+(i64.wrap (i+n)).toNat)).2.2.2)<(gtL b (0+i.toNat)).2.2.2) else false) ((0:Int)<=i/\i<(b.length:Int)/\0+i.toNat<b.length/\R (hd Tryd.f54 2) { env:=[(0,.sl syS l),(3,.win true liS 15 0 b.length),(4,.i i),(5,.bool true),(6,.i k),(7,.i (i64.wrap (n-1)))],blk:=[(15,.row 114 liS (b.set (0+i.toNat) (k,n,i64.wrap (hdC k+eaC k*n+(gtL b (0+(i64.wrap (i+n)).toNat)).2.2.1),i64.wrap ((1:Int)+(gtL b (0+(i64.wrap (i+n)).toNat)).2.2.2))))] }) (R (hd Tryd.f54 2) { env:=[(0,.sl syS l),(3,.win true liS 15 0 b.length),(4,.i i),(5,.bool f),(6,.i k),(7,.i (i64.wrap (n-1)))],blk:=[(15,.row 114 liS b)] })) (false=false/\R (hd Tryd.f54 2) { env:=[(0,.sl syS l),(3,.win true liS 15 0 b.length),(4,.i i),(5,.bool f),(6,.i k),(7,.i (i64.wrap (n-1)))],blk:=[(15,.row 114 liS b)] })))) (R (hd Tryd.f54 1) { env:=[(0,.sl syS l),(3,.win true liS 15 0 b.length),(4,.i i),(5,.bool f),(6,.i (i64.wrap (k+1))),(7,.i n)],blk:=[(15,.row 114 liS b)] })):=by kernel_rfl
theorem zai (l:List SyT) (b:List LiT) (o:List OpT) (a:Nat) (Q:QT) (R:RT):sA CLi Tryd.f54 Q (λ it S=>R it (qaj [0,3,4,5,6,7,10,11] [15,90,120] S)) (hd Tryd.f54 3) ⟨[(0,.sl syS l),(3,.win true liS 15 0 b.length),(10,.win true opS 90 0 o.length),(11,.i (a:Nat))],[(15,.row 114 liS b),(90,.row 55 opS o)]⟩ =
  (bc (decide ((a:Int)<(l.length:Int))) ((0:Int)<=(a:Int)/\(a:Int)<(b.length:Int)/\0+(a:Int).toNat<b.length/\(0:Int)<=(a:Int)/\(a:Int)<(b.length:Int)/\0+(a:Int).toNat<b.length/\(0:Int)<=(a:Int)/\(a:Int)<=i64.wrap ((a:Int)+(gtL b (0+(a:Int).toNat)).2.1)/\i64.wrap ((a:Int)+(gtL b (0+(a:Int).toNat)).2.1)<=(l.length:Int)/\ctO8.pre ((gtL b (0+(a:Int).toNat)).1,Px.part l (some (a:Int)) (some (i64.wrap ((a:Int)+(gtL b (0+(a:Int).toNat)).2.1))),())/\0+1<=([(opK (gtL b (0+(a:Int).toNat)).1 (Px.part l (some (a:Int)) (some (i64.wrap ((a:Int)+(gtL b (0+(a:Int).toNat)).2.1)))))]:List opS.D).length/\o.length=o.length/\(0:Nat)=(0:Nat)/\o.length+(([(opK (gtL b (0+(a:Int).toNat)).1 (Px.part l (some (a:Int)) (some (i64.wrap ((a:Int)+(gtL b (0+(a:Int).toNat)).2.1)))))]:List opS.D)).length<2 ^ 30/\(56:Nat)<=2 ^ 10/\(0:Int)<=(a:Int)/\(a:Int)<(b.length:Int)/\0+(a:Int).toNat<b.length/\R (hd Tryd.f54 3) { env:=[(0,.sl syS l),(3,.win true liS 15 0 b.length),(10,.win true opS 120 0 (o.length+(([(opK (gtL b (0+(a:Int).toNat)).1 (Px.part l (some (a:Int)) (some (i64.wrap ((a:Int)+(gtL b (0+(a:Int).toNat)).2.1)))))]:List opS.D)).length)),(11,.i (i64.wrap ((a:Int)+(gtL b (0+(a:Int).toNat)).2.1)))],blk:=[(15,.row 114 liS b),(120,.row 55 opS (o++([(opK (gtL b (0+(a:Int).toNat)).1 (Px.part l (some (a:Int)) (some (i64.wrap ((a:Int)+(gtL b (0+(a:Int).toNat)).2.1)))))]:List opS.D)))] }) (Q [.win true opS 90 0 o.length] [(15,.row 114 liS b),(90,.row 55 opS o)])):=by kernel_rfl
theorem q5r (l:List SyT) (b:List LiT) (o:List OpT) (a:Nat) (Q:QT) (R:RT):sA CLi Tryd.f54 Q (λ it S=>R it (qaj [0,3,4,5,6,7,10,11] [15,90,120] S)) (hd Tryd.f54 3) ⟨[(0,.sl syS l),(10,.sl opS o),(11,.i (a:Nat))],[]⟩ =
  (bc (decide ((a:Int)<(l.length:Int))) False (Q [.sl opS o] [])):=by kernel_rfl
def zbk (l:List SyT):Prop:=l.length<=65536/\∃ m:Int,m<16777216/\∀ s∈l,sOK m s=true
def ctLi:Ctr:=⟨[.sl syS],λ x=>zbk x.1,λ x=>[.sl opS (chL x.1)],λ _=>[]⟩
section
variable (l:List SyT) (hp:zbk l)
abbrev li0S (b:List LiT) (i:Int):PS:=⟨[(0,.sl syS l),(3,.win true liS 15 0 b.length),(4,.i i)],[(15,.row 114 liS b)]⟩
abbrev li1S (b:List LiT) (f:Bool) (i k:Int):PS:=⟨[(0,.sl syS l),(3,.win true liS 15 0 b.length),(4,.i i),(5,.bool f),(6,.i k)],[(15,.row 114 liS b)]⟩
abbrev li2S (b:List LiT) (f:Bool) (i k n:Int):PS:=⟨[(0,.sl syS l),(3,.win true liS 15 0 b.length),(4,.i i),(5,.bool f),(6,.i k),(7,.i n)],[(15,.row 114 liS b)]⟩
abbrev GL (it:Nat) (S:PS):Prop:=GD 54 Tryd.f54 (OQ (chL l)) (hd Tryd.f54 it) S
include hp
theorem li_n (i:Nat) (hi:i<l.length) (k:Int) (hk:kOK k) (B:List LiT) (hB:B.length=l.length+1) (hget:∀ n,1<=n->i+n<=l.length->gtL B (i+n)=bst (l.drop (i+n))) :
  ∀ (n:Nat) (c:LiT × Bool),n<=fitN k (l.drop i)->GL l 1 (li1S l (B.set i (innR k (l.drop i) n c).1) (innR k (l.drop i) n c).2 i (k+1))->GL l 2 (li2S l (B.set i c.1) c.2 i k (n:Nat)):=by
 have hl:=hp.1;have dl:(l.drop i).length=l.length-i:=List.length_drop ..;have hf:=qcy k (l.drop i);have hBl:∀ c,(B.set i c).length=l.length+1:=λ c=>by rw[List.length_set];exact hB
 have g0:∀ c,gtL (B.set i c) i=c:=λ c=>by
  show ((B.set i c)[i]?).getD _=_
  rw[List.getElem?_set_self (by omega)];rfl
 have wk:i64.wrap (k+1)=k+1:=IntWalk.i64_in _ (by unfold kOK at hk;omega);intro n
 induction n with
 | zero=>
  intro c hn nx;refine qah cxLi (q3x l (B.set i c.1) c.2 i k ((0:Nat):Int) _ _) ?_;rw[decide_eq_false (by omega),bc_f,wk];exact nx.only ⟨rfl,rfl,rfl,rfl,rfl,trivial⟩ ⟨rfl,trivial⟩
 | succ n ih=>
  intro c hn nx;have nk:=ih (innS k (n+1) (l.drop i) c) (by omega) nx;have gn:∀ c,gtL (B.set i c) (i+(n+1))=bst ((l.drop i).drop (n+1)):=λ c=>by
   rw[List.drop_drop,<- hget (n+1) (by omega) (by omega)]
   show ((B.set i c)[i+(n+1)]?).getD _=(B[i+(n+1)]?).getD _
   rw[List.getElem?_set_ne (by omega)]
  have w1:i64.wrap ((i:Int)+((n+1:Nat):Int))=((i+(n+1):Nat):Int):=by rw[IntWalk.i64_in _ (by omega)];omega
  have w2:i64.wrap (((n+1:Nat):Int)-1)=(n:Int):=by rw[IntWalk.i64_in _ (by omega)];omega
  have bo:=qpq ((l.drop i).drop (n+1)) (by rw[List.length_drop];omega);rw[List.length_drop] at bo;unfold boL at bo;have en:=eaN k (n+1);have hh:=q8d k;have w3:i64.wrap (hdC k+eaC k*((n+1:Nat):Int)+(bst ((l.drop i).drop (n+1))).2.2.1)=hdC k+eaC k*((n+1:Nat):Int)+(bst ((l.drop i).drop (n+1))).2.2.1:=by
   generalize eaC k*((n+1:Nat):Int)=e at *;exact IntWalk.i64_in _ (by omega)
  have w4:i64.wrap (1+(bst ((l.drop i).drop (n+1))).2.2.2)=1+(bst ((l.drop i).drop (n+1))).2.2.2:=IntWalk.i64_in _ (by omega);refine qah cxLi (q3x l (B.set i c.1) c.2 i k ((n+1:Nat):Int) _ _) ?_;rw[w1,w2,decide_eq_true (show (0:Int)<((n+1:Nat):Int) by omega),bc_t];simp only[Int.toNat_natCast];simp only[gn,g0,w3,w4,Nat.zero_add,List.set_set,hBl];have hx:xR k (n+1) (l.drop i)=(k,((n+1:Nat):Int),hdC k+eaC k*((n+1:Nat):Int)+(bst ((l.drop i).drop (n+1))).2.2.1,1+(bst ((l.drop i).drop (n+1))).2.2.2):=rfl;rw[<- hx];have up:(!c.2 || rlt (xR k (n+1) (l.drop i)) c.1)=true->GL l 2 (li2S l (B.set i (xR k (n+1) (l.drop i))) true i k (n:Nat)):=λ h=>by
   have e:innS k (n+1) (l.drop i) c=(xR k (n+1) (l.drop i),true):=by unfold innS;rw[if_pos h]
   rw[e] at nk;exact nk
  have no:(!c.2 || rlt (xR k (n+1) (l.drop i)) c.1)=false->GL l 2 (li2S l (B.set i c.1) c.2 i k (n:Nat)):=λ h=>by
   have e:innS k (n+1) (l.drop i) c=c:=by unfold innS;rw[if_neg (by rw[h];decide)]
   rw[e] at nk;exact nk
  have hlen:∀ x,(B.set i x).length=(B.set i c.1).length:=λ x=>by rw[hBl,hBl]
  have pk:q06 k ((n+1:Nat):Int):=⟨hk,by omega,by omega⟩;have upS:(!c.2 || rlt (xR k (n+1) (l.drop i)) c.1)=true->GL l 2 ⟨[(0,.sl syS l),(3,.win true liS 15 0 (l.length+1)),(4,.i i),(5,.bool true),(6,.i k),(7,.i (n:Nat))],[(15,.row 114 liS (B.set i (xR k (n+1) (l.drop i))))]⟩:=λ h=>(up h).only ⟨rfl,by rw[hBl];rfl,rfl,rfl,rfl,rfl,trivial⟩ ⟨rfl,trivial⟩
  have noS:(!c.2 || rlt (xR k (n+1) (l.drop i)) c.1)=false->GL l 2 ⟨[(0,.sl syS l),(3,.win true liS 15 0 (l.length+1)),(4,.i i),(5,.bool c.2),(6,.i k),(7,.i (n:Nat))],[(15,.row 114 liS (B.set i c.1))]⟩:=λ h=>(no h).only ⟨rfl,by rw[hBl];rfl,rfl,rfl,rfl,rfl,trivial⟩ ⟨rfl,trivial⟩
  clear nk up no ih nx;refine ⟨by omega,by omega,by omega,pk,qaf (λ h=>⟨by trivial,by trivial,by omega,by omega,by omega,(upS (by rw[h];rfl)).only ⟨rfl,rfl,rfl,rfl,rfl,rfl,trivial⟩ ⟨rfl,trivial⟩⟩) (λ h=>⟨by omega,by omega,by omega,?_⟩)⟩;have r1:(xR k (n+1) (l.drop i)).2.2.1=hdC k+eaC k*((n+1:Nat):Int)+(bst ((l.drop i).drop (n+1))).2.2.1:=rfl;have r2:(xR k (n+1) (l.drop i)).2.2.2=1+(bst ((l.drop i).drop (n+1))).2.2.2:=rfl;rw[<- r1,<- r2];generalize xR k (n+1) (l.drop i)=x at *;have hc:∀ v,rlt x c.1=v->(!c.2 || rlt x c.1)=v:=λ v e=>by rw[h,e];rfl
  refine qaf (λ h2=>⟨by trivial,by omega,by omega,by omega,?_⟩) (λ h2=>⟨by omega,by omega,by omega,qaf (λ h3=>⟨by omega,by omega,by omega,qaf (λ h4=>⟨by omega,by omega,by omega,?_⟩) (λ h4=>?_)⟩) (λ h3=>⟨by trivial,?_⟩)⟩)
  ·have h2:x.2.2.1<c.1.2.2.1:=of_decide_eq_true h2;exact (upS (hc _ (by unfold rlt;rw[decide_eq_true h2];rfl))).only ⟨rfl,rfl,rfl,rfl,rfl,rfl,trivial⟩ ⟨rfl,trivial⟩
  ·have h2:¬ x.2.2.1<c.1.2.2.1:=of_decide_eq_false h2;have h3:x.2.2.1=c.1.2.2.1:=of_decide_eq_true h3;have h4:x.2.2.2<c.1.2.2.2:=of_decide_eq_true h4;exact (upS (hc _ (by unfold rlt;rw[decide_eq_true h3,decide_eq_true h4];simp))).only ⟨rfl,rfl,rfl,rfl,rfl,rfl,trivial⟩ ⟨rfl,trivial⟩
  ·have h2:¬ x.2.2.1<c.1.2.2.1:=of_decide_eq_false h2;have h4:¬ x.2.2.2<c.1.2.2.2:=of_decide_eq_false h4;exact (noS (hc _ (by unfold rlt;rw[decide_eq_false h2,decide_eq_false h4];simp))).only ⟨rfl,rfl,rfl,rfl,rfl,rfl,trivial⟩ ⟨rfl,trivial⟩
  ·have h2:¬ x.2.2.1<c.1.2.2.1:=of_decide_eq_false h2;have h3:¬ x.2.2.1=c.1.2.2.1:=of_decide_eq_false h3;exact (noS (hc _ (by unfold rlt;rw[decide_eq_false h2,decide_eq_false h3];rfl))).only ⟨rfl,rfl,rfl,rfl,rfl,rfl,trivial⟩ ⟨rfl,trivial⟩
theorem li_k (i:Nat) (hi:i<l.length) (k:Nat) (hk:1<=k/\k<=4) (B:List LiT) (hB:B.length=l.length+1) (hget:∀ n,1<=n->i+n<=l.length->gtL B (i+n)=bst (l.drop (i+n))) (c:LiT × Bool)
  (nx:GL l 1 (li1S l (B.set i (kinR k (l.drop i) c).1) (kinR k (l.drop i) c).2 i ((k:Int)+1))):GL l 1 (li1S l (B.set i c.1) c.2 i (k:Nat)):=by
 have kk:kOK (k:Int):=by unfold kOK;omega
 obtain ⟨hl,m,hm,hr⟩:=hp;have h:=li_n l ⟨hl,m,hm,hr⟩ i hi k kk B hB hget (fitN k (l.drop i)) c (Nat.le_refl _) nx;refine qah cxLi (q3y l (B.set i c.1) c.2 i k _ _) ?_;rw[decide_eq_true (show (k:Int)<=4 by omega),bc_t];simp only[Int.toNat_natCast];exact ⟨by omega,by omega,⟨kk,by rw[List.length_drop];omega,m,hm,λ s hs=>hr s (List.mem_of_mem_drop hs)⟩,h.only ⟨rfl,rfl,rfl,rfl,rfl,rfl,trivial⟩ ⟨rfl,trivial⟩⟩
abbrev li3S (o:List OpT) (a:Nat):PS:=⟨[(0,.sl syS l),(3,.win true liS 15 0 (qbo l).length),(10,.win true opS 90 0 o.length),(11,.i (a:Nat))],[(15,.row 114 liS (qbo l)),(90,.row 55 opS o)]⟩
theorem q4m (o:List OpT) (a:Nat) (ha:a=l.length) (ho:o=chL l):GL l 3 (li3S l o a):=by
 have _:=hp;subst ha;refine Good.frz (i:=90) (e:=opS) (et:=55) (xs:=o) rfl (λ c hc=>?_) ?_
 ·have hc:c∈[0+o.length<=o.length]:=hc;rw[List.mem_singleton] at hc;subst hc;omega
 ·have e:GL l 3 ⟨[(0,.sl syS l),(10,.sl opS (winL opS 0 o.length o)),(11,.i (l.length:Nat))],[]⟩:=by
   refine qah cxLi (q5r l [] (winL opS 0 o.length o) l.length _ _) ?_;rw[decide_eq_false (by omega),bc_f,winA,ho]
  exact e.only ⟨rfl,rfl,rfl,trivial⟩ trivial
theorem zb3:∀ (f a:Nat) (o:List OpT),l.length-a<=f->a<=l.length->o.length<=a->o++chF f (l.drop a)=chL l->GL l 3 (li3S l o a):=by
 have hl:=hp.1;intro f
 induction f with
 | zero=>
  intro a o hf ha ho he;rw[chF,List.append_nil] at he;exact q4m l hp o a (by omega) he
 | succ f ih=>
  intro a o hf ha ho hq;by_cases he:a=l.length
  ·rw[chF,if_pos (List.drop_eq_nil_of_le (by omega)),List.append_nil] at hq;exact q4m l hp o a he hq
  ·have dl:(l.drop a).length=l.length-a:=List.length_drop ..;have hne:l.drop a≠[]:=λ h=>by rw[h] at dl;simp at dl;omega
   obtain ⟨hb,n,n1,n2,n3,_⟩:=qtc (l:=l.drop a) (by omega) hne;have hfit:=qcy (bst (l.drop a)).1 (l.drop a);have bl:(qbo l).length=l.length+1:=qia l 0;have tl:((l.drop a).take n).length=n:=by rw[List.length_take];omega
   have eo:opK (bst (l.drop a)).1 ((l.drop a).take n)=mdK (bst (l.drop a)).1 ((l.drop a).take n):=by
    obtain ⟨_,m,hm,hr⟩:=hp;refine zbu (m:=m) (λ s hs=>hr s (List.mem_of_mem_drop (List.mem_of_mem_take hs))) (by omega) ?_;rw[tl];exact q17 n3 (qyt hm λ s hs=>hr s (List.mem_of_mem_drop hs))
   have ec:chF (f+1) (l.drop a)=mdK (bst (l.drop a)).1 ((l.drop a).take n)::chF f (l.drop (a+n)):=by rw[chF,if_neg hne,n1,Int.toNat_natCast,List.drop_drop]
   rw[ec] at hq;have nx:=ih (a+n) (o++[mdK (bst (l.drop a)).1 ((l.drop a).take n)]) (by omega) (by omega) (by rw[List.length_append,List.length_singleton];omega) (by rw[List.append_assoc];exact hq);refine qah cxLi (zai l (qbo l) o a _ _) ?_;have g1:gtL (qbo l) (0+a)=bst (l.drop a):=by rw[Nat.zero_add];exact qpr l 0 a ha (Nat.zero_le _)
   have w:i64.wrap ((a:Int)+(n:Int))=((a+n:Nat):Int):=by rw[IntWalk.i64_in _ (by omega)];omega
   rw[decide_eq_true (show (a:Int)<(l.length:Int) by omega),bc_t,Int.toNat_natCast,g1,n1,w,qxe l a n,eo];refine ⟨by omega,by omega,by omega,by omega,by omega,by omega,by omega,by omega,by omega,(show preMk (bst (l.drop a)).1 ((l.drop a).take n) from ⟨hb,by omega,by omega⟩),Nat.le_refl 1,rfl,rfl,?_,by decide,by omega,by omega,by omega,?_⟩
   ·show o.length+1<2 ^ 30
    show o.length+1<1073741824
    omega
   ·exact nx.onlyR [(90,120)] rfl ⟨rfl,rfl,by rw[List.length_append];rfl,rfl,trivial⟩ ⟨rfl,rfl,trivial⟩
theorem zb1:∀ (n:Nat),n<=l.length->GL l 0 (li0S l (bT l n) ((n:Int)-1)):=by
 have hl:=hp.1;intro n
 induction n with
 | zero=>
  intro hn;refine qah cxLi (q3z l (bT l 0) (((0:Nat):Int)-1) _ _) ?_;rw[decide_eq_false (by omega),bc_f];exact (zb3 l hp l.length 0 [] (by omega) (Nat.zero_le _) (Nat.zero_le _) (by rw[List.drop_zero,List.nil_append];rfl)).only ⟨rfl,rfl,rfl,rfl,trivial⟩ ⟨rfl,rfl,trivial⟩
 | succ n ih=>
  intro hn;have e:((n+1:Nat):Int)-1=(n:Int):=by omega
  rw[e];refine qah cxLi (q3z l (bT l (n+1)) n _ _) ?_;rw[decide_eq_true (show (0:Int)<=(n:Int) by omega),bc_t];have hB:=qia l (n+1);have hget:∀ q,1<=q->n+q<=l.length->gtL (bT l (n+1)) (n+q)=bst (l.drop (n+q)):=λ q h1 h2=>qpr l (n+1) (n+q) h2 (by omega)
  have fin:GL l 1 (li1S l (bT l n) (kinR 4 (l.drop n) (kinR 3 (l.drop n) (kinR 2 (l.drop n) (kinR 1 (l.drop n) (zLi,false))))).2 n 5):=by
   refine qah cxLi (q3y l (bT l n) _ n 5 _ _) ?_;rw[decide_eq_false (by omega),bc_f,IntWalk.i64_in ((n:Int)-1) (by omega)];exact (ih (by omega)).only ⟨rfl,rfl,rfl,trivial⟩ ⟨rfl,trivial⟩
  have er:bst (l.drop n)=(kinR 4 (l.drop n) (kinR 3 (l.drop n) (kinR 2 (l.drop n) (kinR 1 (l.drop n) (zLi,false))))).1:=(q6x (l:=l.drop n) (by rw[List.length_drop];omega)).symm;rw[q41 l n (by omega),er] at fin;have s4:=li_k l hp n hn 4 ⟨by omega,by omega⟩ (bT l (n+1)) hB hget _ fin;have s3:=li_k l hp n hn 3 ⟨by omega,by omega⟩ (bT l (n+1)) hB hget _ s4;have s2:=li_k l hp n hn 2 ⟨by omega,by omega⟩ (bT l (n+1)) hB hget _ s3;have s1:=li_k l hp n hn 1 ⟨by omega,by omega⟩ (bT l (n+1)) hB hget (zLi,false) s2;have ez:(bT l (n+1)).set n ((zLi,false):LiT × Bool).1=bT l (n+1):=bT_z l n (by omega);rw[ez] at s1;exact s1.only ⟨rfl,rfl,rfl,rfl,rfl,trivial⟩ ⟨rfl,trivial⟩
theorem zb2:GD 54 Tryd.f54 (OQ (chL l)) [.code (qad Tryd.f54)] (entry [.sl syS] (l,())):=by
 have hl:=hp.1;refine qah cxLi (vc_li l _ _) ?_;rw[IntWalk.i64_in ((l.length:Int)+1) (by omega),IntWalk.i64_in ((l.length:Int)-1) (by omega)];have e:((l.length:Int)+1).toNat=l.length+1:=by omega
 rw[e];refine ⟨by omega,by omega,?_,?_,?_⟩
 ·show (l.length:Int)+1<16777216
  omega
 ·show (32:Int)*((l.length:Int)+1)<=281474976710656
  omega
 ·have h:=zb1 l hp l.length (Nat.le_refl _);rw[q42 l];exact h.only ⟨rfl,by rw[qia];rfl,rfl,trivial⟩ ⟨rfl,trivial⟩
end
theorem q73:Held Tryd.prog G0 54 ctLi:=Held.of cxLi (fn:=Tryd.f54) rfl rfl ⟨by decide,by decide⟩ λ ⟨l,_⟩ hp=>(zb2 l hp).post λ rs blk hq=>QC.flat (by rw[hq];rfl) rfl (by rw[hq];rfl)
def q63 (x:OpT) (i:Int):Prop:=k14 x/\0<=i/\(x.1=2\/x.1=4->i<(x.2.2.2.2.length:Int))
def syV (s:SyT):SV:=.agg [.bool s.1,.i s.2.1,.u s.2.2]
def ctSb:Ctr:=⟨[opS,iI],λ x=>q63 x.1 x.2.1,λ x=>[syV (elO x.1.1.toNat x.1 (Int.toNat x.2.1))],λ _=>[]⟩
def CSm:CV:=[(26,.inl ctRi),(51,.inl ctSb)]
set_option maxRecDepth 100000
theorem vc_sb (x:OpT) (i:Int) (Q:QT) (R:RT):sA [] Tryd.f51 Q R [.code (qad Tryd.f51)] (entry [opS,iI] (x,i,())) =
  (bc (decide (x.1=(1:Int))) (Q [.agg [.bool true,.i (i64.wrap (x.2.1+i)),.u 0]] [(2,.var [.i x.1,.i x.2.1,.i x.2.2.1,.u x.2.2.2.1,.sl uB x.2.2.2.2]),(4,.var [.bool true,.i (i64.wrap (x.2.1+i)),.u 0])]) (bc (decide (x.1=(2:Int))) ((0:Int)<=i/\i<(↑(List.length x.2.2.2.2):Int)/\Q [.agg [.bool true,.i (i64.wrap (x.2.1+i)),.u (gtB x.2.2.2.2 i.toNat)]] [(2,.var [.i x.1,.i x.2.1,.i x.2.2.1,.u x.2.2.2.1,.sl uB x.2.2.2.2]),(4,.var [.bool true,.i (i64.wrap (x.2.1+i)),.u (gtB x.2.2.2.2 i.toNat)])]) (bc (decide (x.1=(3:Int))) (Q [.agg [.bool false,.i 0,.u x.2.2.2.1]] [(2,.var [.i x.1,.i x.2.1,.i x.2.2.1,.u x.2.2.2.1,.sl uB x.2.2.2.2]),(4,.var [.bool false,.i 0,.u x.2.2.2.1])]) ((0:Int)<=i/\i<(↑(List.length x.2.2.2.2):Int)/\Q [.agg [.bool false,.i 0,.u (gtB x.2.2.2.2 i.toNat)]] [(2,.var [.i x.1,.i x.2.1,.i x.2.2.1,.u x.2.2.2.1,.sl uB x.2.2.2.2]),(4,.var [.bool false,.i 0,.u (gtB x.2.2.2.2 i.toNat)])])))):=by kernel_rfl
theorem vc_rs (li:Bool) (m o:Int) (l:List OpT) (Q:QT) (R:RT):sA CSm Tryd.f33 Q (λ it S=>R it (qaj [1,4,5,6] [1,10,37] S)) [.code (qad Tryd.f33)] (entry [paS] ((li,m,o,l),())) =
  (ctRi.pre ((li,m,o,l),())/\bc (!decide ((chkV (li,m,o,l)).2=(0:Int))) (Q [.nils,.i 60] [(1,.var [.bool li,.i m,.i o,.sl opS l])]) (R (hd Tryd.f33 0) { env:=[(1,.ptr 1 0),(4,.win true syS 10 0 (0:Nat)),(5,.i 0)],blk:=[(1,.var [.bool li,.i m,.i o,.sl opS l]),(10,.row 82 syS (List.replicate (0:Nat) syS.dflt))] })):=by kernel_rfl
theorem q3r (li:Bool) (m o:Int) (l:List OpT) (s:List SyT) (i:Nat) (Q:QT) (R:RT):sA CSm Tryd.f33 Q (λ it S=>R it (qaj [1,4,5,6] [1,10,37] S)) (hd Tryd.f33 0) ⟨[(1,.ptr 1 0),(4,.win true syS 10 0 s.length),(5,.i (i:Nat))],[(1,.var [.bool li,.i m,.i o,.sl opS l]),(10,.row 82 syS s)]⟩ =
  (bc (decide ((i:Int)<(l.length:Int))) (R (hd Tryd.f33 1) { env:=[(1,.ptr 1 0),(4,.win true syS 10 0 s.length),(5,.i (i:Int)),(6,.i 0)],blk:=[(1,.var [.bool li,.i m,.i o,.sl opS l]),(10,.row 82 syS s)] }) (Q [.win true syS 10 0 s.length,.i 0] [(1,.var [.bool li,.i m,.i o,.sl opS l]),(10,.row 82 syS s)])):=by kernel_rfl
theorem q3s (li:Bool) (m o:Int) (l:List OpT) (s:List SyT) (i k:Nat) (Q:QT) (R:RT):sA CSm Tryd.f33 Q (λ it S=>R it (qaj [1,4,5,6] [1,10,37] S)) (hd Tryd.f33 1) ⟨[(1,.ptr 1 0),(4,.win true syS 10 0 s.length),(5,.i (i:Nat)),(6,.i (k:Nat))],[(1,.var [.bool li,.i m,.i o,.sl opS l]),(10,.row 82 syS s)]⟩ =
  ((0:Int)<=(i:Int)/\(i:Int)<(l.length:Int)/\bc (decide ((k:Int)<(gtO l (i:Int).toNat).2.2.1)) ((0:Int)<=(i:Int)/\(i:Int)<(l.length:Int)/\ctSb.pre ((gtO l (i:Int).toNat),(k:Int),())/\0+1<=([(elO (Int.toNat (gtO l (i:Int).toNat).1) (gtO l (i:Int).toNat) (k:Int).toNat)]:List syS.D).length/\s.length=s.length/\(0:Nat)=(0:Nat)/\s.length+(([(elO (Int.toNat (gtO l (i:Int).toNat).1) (gtO l (i:Int).toNat) (k:Int).toNat)]:List syS.D)).length<2 ^ 30/\(24:Nat)<=2 ^ 10/\R (hd Tryd.f33 1) { env:=[(1,.ptr 1 0),(4,.win true syS 37 0 (s.length+(([(elO (Int.toNat (gtO l (i:Int).toNat).1) (gtO l (i:Int).toNat) (k:Int).toNat)]:List syS.D)).length)),(5,.i (i:Int)),(6,.i (i64.wrap ((k:Int)+1)))],blk:=[(1,.var [.bool li,.i m,.i o,.sl opS l]),(37,.row 82 syS (s++([(elO (Int.toNat (gtO l (i:Int).toNat).1) (gtO l (i:Int).toNat) (k:Int).toNat)]:List syS.D)))] }) (R (hd Tryd.f33 0) { env:=[(1,.ptr 1 0),(4,.win true syS 10 0 s.length),(5,.i (i64.wrap ((i:Int)+1))),(6,.i (k:Int))],blk:=[(1,.var [.bool li,.i m,.i o,.sl opS l]),(10,.row 82 syS s)] })):=by kernel_rfl
theorem zbg (k f n b i:Int) (d:List Int) (hp:q63 (k,f,n,b,d) i) (R:List Item->PS->Prop):sA [] Tryd.f51 (QC ctSb ((k,f,n,b,d),i,())) R [.code (qad Tryd.f51)] (entry [opS,iI] ((k,f,n,b,d),i,())):=by
 obtain ⟨hk,h0,hd⟩:=hp;have out:∀ s,elO k.toNat ((k,f,n,b,d):OpT) i.toNat=s->ctSb.out ((k,f,n,b,d),i,())=[syV s]:=λ s e=>congrArg (λ s=>[syV s]) e
 have hi:((i.toNat:Nat):Int)=i:=by omega
 refine (vc_sb (k,f,n,b,d) i _ _).mpr ?_;rcases hk with e | e | e | e
 ·have e:k=1:=e;subst e;refine QC.flat (out (true,IntKind.i64.wrap (f+i),0) ?_) rfl rfl
  show ((true,IntKind.i64.wrap (f+(i.toNat:Int)),0):SyT)=_
  rw[hi]
 ·have e:k=2:=e;subst e;have hd2:i<(d.length:Int):=hd (.inl rfl);refine ⟨h0,hd2,QC.flat (out (true,IntKind.i64.wrap (f+i),gtB d i.toNat) ?_) rfl rfl⟩
  show ((true,IntKind.i64.wrap (f+(i.toNat:Int)),gtB d i.toNat):SyT)=_
  rw[hi]
 ·have e:k=3:=e;subst e;exact QC.flat (out _ rfl) rfl rfl
 ·have e:k=4:=e;subst e;have hd2:i<(d.length:Int):=hd (.inr rfl);exact ⟨h0,hd2,QC.flat (out _ rfl) rfl rfl⟩
theorem q6t:Held Tryd.prog G0 51 ctSb:=Held.run cx0 (fn:=Tryd.f51) rfl rfl ⟨by decide,by decide⟩ λ ⟨⟨k,f,n,b,d⟩,i,_⟩ hp=>zbg k f n b i d hp _
theorem quw:CxOK Tryd.prog tt G0 CSm:=(cx0.k q6t (fn:=Tryd.f51)).k qin (fn:=Tryd.f26)
section
variable (li:Bool) (m o:Int) (l:List OpT) (hc:(chkV (li,m,o,l)).2=0)
abbrev RsQ:List SV->List (Nat × LB)->Prop:=QC ctSym ((li,m,o,l),())
include hc
theorem q0r (i:Nat) (hi:i<l.length) (nx:GD 33 Tryd.f33 (RsQ li m o l) (hd Tryd.f33 0) ⟨[(1,.ptr 1 0),(4,.win true syS 10 0 (symF (l.take (i+1))).length),(5,.i ((i+1:Nat):Int))],[(1,.var [.bool li,.i m,.i o,.sl opS l]),(10,.row 82 syS (symF (l.take (i+1))))]⟩) :
  ∀ (c k:Nat),l[i].2.2.1.toNat-k=c->k<=l[i].2.2.1.toNat ->
  GD 33 Tryd.f33 (RsQ li m o l) (hd Tryd.f33 1) ⟨[(1,.ptr 1 0),(4,.win true syS 10 0 (symF (l.take i)++(qaz l[i].1.toNat l[i]).take k).length),(5,.i (i:Nat)),(6,.i (k:Nat))],[(1,.var [.bool li,.i m,.i o,.sl opS l]),(10,.row 82 syS (symF (l.take i)++(qaz l[i].1.toNat l[i]).take k))]⟩:=by
 obtain ⟨hr,hs,ho,hl⟩:=qe2 hc;have hl:l.length<=4096:=hl;have hx:=hr _ (List.getElem_mem hi);have hlx:=qdy hx;obtain ⟨k4,hcn⟩:=qfq hx;have sl:(qaz l[i].1.toNat l[i]).length=cntO l[i].1.toNat l[i]:=qns ..;have hsf:(symF (l.take i)).length<=65536:=by
  have h1:=qm0 (m:=m) (l:=l.take i) λ y hy=>hr y (List.mem_of_mem_take hy)
  have h2:lenS l=lenS (l.take i)+lenS (l.drop i):=by rw[<- qnq,List.take_append_drop]
  have h3:=qh0 (m:=m) (l:=l.drop i) λ y hy=>hr y (List.mem_of_mem_drop hy)
  have ho2:o<=65536:=ho.2;have hs2:lenS l=o:=hs;omega
 have ht:symF (l.take (i+1))=symF (l.take i)++qaz l[i].1.toNat l[i]:=by
  rw[List.take_succ_eq_append_getElem hi,qrr];simp[symF]
 intro c
 induction c with
 | zero=>
  intro k hk hk2;have hk:k=l[i].2.2.1.toNat:=by omega
  have e:(qaz l[i].1.toNat l[i]).take k=qaz l[i].1.toNat l[i]:=List.take_of_length_le (by omega);rw[e,<- ht];refine qah quw (q3s li m o l (symF (l.take (i+1))) i k _ _) ?_;rw[Int.toNat_natCast,qgs hi,decide_eq_false (by omega),bc_f,IntWalk.i64_in ((i:Int)+1) (by omega)];exact ⟨by omega,by omega,nx.only ⟨rfl,rfl,rfl,trivial⟩ ⟨rfl,rfl,trivial⟩⟩
 | succ c ih=>
  intro k hk hk2;have hk3:k<cntO l[i].1.toNat l[i]:=by omega
  have nk:=ih (k+1) (by omega) (by omega);have e:(qaz l[i].1.toNat l[i]).take (k+1)=(qaz l[i].1.toNat l[i]).take k++[elO l[i].1.toNat l[i] k]:=by
   rw[List.take_succ_eq_append_getElem (by omega)]
   congr 2
   have:=qyp (elO l[i].1.toNat l[i]) (cntO l[i].1.toNat l[i]) 0 k hk3;rw[Nat.zero_add] at this;have h2:(qaz l[i].1.toNat l[i])[k]?=some (elO l[i].1.toNat l[i] k):=this;rw[List.getElem?_eq_getElem (by omega)] at h2;exact Option.some.inj h2
  rw[e,<- List.append_assoc] at nk;have tl:((qaz l[i].1.toNat l[i]).take k).length<=65536:=by rw[List.length_take];omega
  have pre:q63 l[i] (k:Int):=⟨k4,by omega,λ h=>by
   have:cntO l[i].1.toNat l[i]=l[i].2.2.2.2.length:=by rcases h with h | h <;> (rw[h];rfl)
   omega⟩
  generalize hss:symF (l.take i)++(qaz l[i].1.toNat l[i]).take k=ss at *;have hsl:ss.length<=131072:=by rw[<- hss,List.length_append];omega
  refine qah quw (q3s li m o l ss i k _ _) ?_;rw[Int.toNat_natCast,qgs hi,decide_eq_true (show (k:Int)<l[i].2.2.1 by omega),bc_t,IntWalk.i64_in ((k:Int)+1) (by omega),Int.toNat_natCast];refine ⟨by omega,by omega,by omega,by omega,pre,Nat.le_refl 1,rfl,rfl,?_,by decide,?_⟩
  ·show ss.length+1<2 ^ 30
   show ss.length+1<1073741824
   omega
  ·exact nk.onlyR [(10,37)] rfl ⟨rfl,by rw[List.length_append];rfl,rfl,rfl,trivial⟩ ⟨rfl,rfl,trivial⟩
theorem q0q:∀ (c i:Nat),l.length-i=c->i<=l.length ->
  GD 33 Tryd.f33 (RsQ li m o l) (hd Tryd.f33 0) ⟨[(1,.ptr 1 0),(4,.win true syS 10 0 (symF (l.take i)).length),(5,.i (i:Nat))],[(1,.var [.bool li,.i m,.i o,.sl opS l]),(10,.row 82 syS (symF (l.take i)))]⟩:=by
 have hv:symV (li,m,o,l)=(symF l,0):=by unfold symV;rw[if_pos hc]
 intro c
 induction c with
 | zero=>
  intro i hc2 hi;refine qah quw (q3r li m o l (symF (l.take i)) i _ _) ?_;rw[decide_eq_false (by omega),bc_f,List.take_of_length_le (by omega)];refine qff (e:=syS) (et:=82) (a:=10) (z:=0) (xs:=symF l) ?_ ?_ rfl rfl rfl
  ·show [SV.win true syS 0 0 (symV (li,m,o,l)).1.length,.i (symV (li,m,o,l)).2]=_
   rw[hv]
  ·show [LB.row 82 syS (symV (li,m,o,l)).1]=_
   rw[hv]
 | succ c ih=>
  intro i hc2 hi;have hil:i<l.length:=by omega
  refine qah quw (q3r li m o l (symF (l.take i)) i _ _) ?_;rw[decide_eq_true (show (i:Int)<(l.length:Int) by omega),bc_t];have h:=q0r li m o l hc i hil (ih (i+1) (by omega) (by omega)) _ 0 rfl (Nat.zero_le _);rw[List.take_zero,List.append_nil] at h;exact h.only ⟨rfl,rfl,rfl,rfl,trivial⟩ ⟨rfl,rfl,trivial⟩
end
theorem rs_held:Held Tryd.prog G0 33 ctSym:=Held.of quw (fn:=Tryd.f33) rfl rfl ⟨by decide,by decide⟩ λ ⟨⟨li,m,o,l⟩,_⟩ _=>by
 refine qah quw (vc_rs li m o l _ _) ⟨trivial,qaf (λ h=>?_) (λ h=>?_)⟩
 ·have h:¬ (chkV (li,m,o,l)).2=0:=by
   have h:(!decide ((chkV (li,m,o,l)).2=0))=true:=h;simpa using h
  have h6:(chkV (li,m,o,l)).2=60:=by rcases qza (li,m,o,l) with q | q;exact absurd q h;exact q
  have hv:symV (li,m,o,l)=([],60):=by unfold symV;rw[if_neg h,h6]
  refine qc5 (e:=syS) (et:=82) (z:=60) ?_ ?_ rfl (by decide)
  ·show [SV.win true syS 0 0 (symV (li,m,o,l)).1.length,.i (symV (li,m,o,l)).2]=_
   rw[hv];rfl
  ·show [LB.row 82 syS (symV (li,m,o,l)).1]=_
   rw[hv]
 ·have h:(chkV (li,m,o,l)).2=0:=by
   have h:(!decide ((chkV (li,m,o,l)).2=0))=false:=h;simpa using h
  exact (q0q li m o l h _ 0 rfl (Nat.zero_le _)).only ⟨rfl,rfl,rfl,trivial⟩ ⟨rfl,rfl,trivial⟩
def ctIn2:Ctr:=⟨[iI,iI,iI],λ _=>True,λ x=>[.bool (decide (x.2.1<=x.1)&&decide (x.1<=x.2.2.1))],λ _=>[]⟩
def CRcp:CV:=[(52,.inl ctIn2),(53,.inl ctRsy),(54,.inl ctLi)]
set_option maxRecDepth 100000
theorem zan (a b c:Int) (Q:QT) (R:RT):sA [] Tryd.f52 Q R [.code (qad Tryd.f52)] (entry [iI,iI,iI] (a,b,c,())) =
  (bc (decide (b<=a)) (Q [.bool (decide (a<=c))] []) (false=false/\Q [.bool false] [])):=by kernel_rfl
theorem q9s (l:List SyT) (m:Int) (Q:QT) (R:RT):sA CRcp Tryd.f34 Q (λ it S=>R it (qaj [0,1,4,6] [4] S)) [.code (qad Tryd.f34)] (entry [.sl syS,iI] (l,m,())) =
  (ctIn2.pre (m,(0:Int),(65536:Int),())/\bc (!(decide ((0:Int)<=m)&&decide (m<=65536))) (true=true/\Q [.agg [.bool false,.i 0,.i 0,.nils],.i 60] [(4,.var [.bool false,.i 0,.i 0,.nils])]) (bc (bif false then true else decide ((65536:Int)<(l.length:Int))) (Q [.agg [.bool false,.i 0,.i 0,.nils],.i 60] [(4,.var [.bool false,.i 0,.i 0,.nils])]) (R (hd Tryd.f34 0) { env:=[(0,.sl syS l),(1,.i m),(4,.ptr 4 0),(6,.i 0)],blk:=[(4,.var [.bool false,.i 0,.i 0,.nils])] }))):=by kernel_rfl
theorem qvi (l:List SyT) (m:Int) (i:Nat) (Q:QT) (R:RT):sA CRcp Tryd.f34 Q (λ it S=>R it (qaj [0,1,4,6] [4] S)) (hd Tryd.f34 0) ⟨[(0,.sl syS l),(1,.i m),(4,.ptr 4 0),(6,.i (i:Nat))],[(4,.var [.bool false,.i 0,.i 0,.nils])]⟩ =
  (bc (decide ((i:Int)<(l.length:Int))) ((0:Int)<=(i:Int)/\(i:Int)<(l.length:Int)/\ctRsy.pre ((gtY l (i:Int).toNat),m,())/\bc (!sOK m (gtY l (i:Int).toNat)) (Q [.agg [.bool false,.i 0,.i 0,.nils],.i 60] [(4,.var [.bool false,.i 0,.i 0,.nils])]) (R (hd Tryd.f34 0) { env:=[(0,.sl syS l),(1,.i m),(4,.ptr 4 0),(6,.i (IntKind.i64.wrap ((i:Int)+1)))],blk:=[(4,.var [.bool false,.i 0,.i 0,.nils])] })) (ctLi.pre (l,())/\bc (decide ((4096:Int)<(↑(chL l).length:Int))) (Q [.agg [.bool false,.i 0,.i 0,.nils],.i 2] [(4,.var [.bool false,.i 0,.i 0,.nils]),(7,.var [.bool false,.i m,.i (l.length:Int),.sl opS (chL l)])]) (Q [.agg [.bool false,.i m,.i (l.length:Int),.sl opS (chL l)],.i 0] [(4,.var [.bool false,.i m,.i (l.length:Int),.sl opS (chL l)]),(7,.var [.bool false,.i m,.i (l.length:Int),.sl opS (chL l)])]))):=by kernel_rfl
theorem q8c (a b c:Int) (R:List Item->PS->Prop):sA [] Tryd.f52 (QC ctIn2 (a,b,c,())) R [.code (qad Tryd.f52)] (entry [iI,iI,iI] (a,b,c,())):=by
 have out:∀ v,(decide (b<=a)&&decide (a<=c))=v->ctIn2.out (a,b,c,())=[SV.bool v]:=λ v e=>congrArg (λ v=>[SV.bool v]) e
 refine (zan a b c _ _).mpr (qaf (λ h=>?_) (λ h=>⟨rfl,?_⟩))
 ·exact QC.flat (out _ (by rw[h];rfl)) rfl rfl
 ·exact QC.flat (out _ (by rw[h];rfl)) rfl rfl
theorem q2b:Held Tryd.prog G0 52 ctIn2:=Held.run cx0 (fn:=Tryd.f52) rfl rfl ⟨by decide,by decide⟩ λ ⟨a,b,c,_⟩ _=>q8c a b c _
theorem q2q:CxOK Tryd.prog tt G0 CRcp:=((cx0.k q73 (fn:=Tryd.f54)).k qwt (fn:=Tryd.f53)).k q2b (fn:=Tryd.f52)
abbrev RcQ (l:List SyT) (m:Int):List SV->List (Nat × LB)->Prop:=QC ctCp (l,m,())
theorem qr9 {l:List SyT} {m:Int} {rs:List SV} {bl:List (Nat × LB)} (p:PaT) (e:Int) (hv:cpV l m=(p,e)) (h:MtL (λ _=>none) [paV p,.i e] rs):RcQ l m rs bl:=
 QC.mt (by show MtL _ [paV (cpV l m).1,.i (cpV l m).2] _;rw[hv];exact h) rfl
theorem q6y (l:List SyT) (m:Int) (h0:0<=m) (h1:m<=65536) (hl:l.length<=65536):∀ (c i:Nat),l.length-i=c->i<=l.length->(∀ j,j<i->sOK m (gtY l j)=true) ->
  GD 34 Tryd.f34 (RcQ l m) (hd Tryd.f34 0) ⟨[(0,.sl syS l),(1,.i m),(4,.ptr 4 0),(6,.i (i:Nat))],[(4,.var [.bool false,.i 0,.i 0,.nils])]⟩:=by
 intro c
 induction c with
 | zero=>
  intro i hc hi hj;have hr:∀ s∈l,sOK m s=true:=λ s hs=>by
   obtain ⟨j,hj2,e⟩:=List.mem_iff_getElem.1 hs;rw[<- e,<- qjd hj2];exact hj j (by omega)
  have hg:szB m=true/\szB l.length=true/\l.all (sOK m)=true:=⟨by simp[szB];omega,by simp[szB];omega,by rw[List.all_eq_true];exact hr⟩;have hv:cpV l m=poV l m:=by unfold cpV;rw[if_neg (q7m hg)]
  refine qah q2q (qvi l m i _ _) ?_;rw[decide_eq_false (by omega),bc_f];refine ⟨⟨hl,m,by omega,hr⟩,qaf (λ h=>?_) (λ h=>?_)⟩
  ·have h:(4096:Int)<((chL l).length:Int):=of_decide_eq_true h;exact qr9 _ _ (by rw[hv];unfold poV;rw[if_pos (by omega)]) (qeh _)
  ·have h:¬ (4096:Int)<((chL l).length:Int):=of_decide_eq_false h;have hv2:cpV l m=(((false,m,(l.length:Int),chL l):PaT),(0:Int)):=by rw[hv];unfold poV;rw[if_neg (by omega)]
   exact QC.flat (by show [paV (cpV l m).1,.i (cpV l m).2]=_;rw[hv2];rfl) rfl rfl
 | succ c ih=>
  intro i hc hi hj;have hil:i<l.length:=by omega
  refine qah q2q (qvi l m i _ _) ?_;rw[decide_eq_true (show (i:Int)<(l.length:Int) by omega),bc_t,Int.toNat_natCast,IntWalk.i64_in ((i:Int)+1) (by omega)];refine ⟨by omega,by omega,(show preN m from ⟨h0,by omega⟩),qaf (λ h=>?_) (λ h=>?_)⟩
  ·have h:sOK m (gtY l i)=false:=by
    have h:(!sOK m (gtY l i))=true:=h;simpa using h
   refine qr9 _ _ (qq2 λ q=>?_) (qeh _);have:=List.all_eq_true.1 q.2.2 (gtY l i) (by rw[qjd hil];exact List.getElem_mem _);rw[h] at this;cases this
  ·have h:sOK m (gtY l i)=true:=by
    have h:(!sOK m (gtY l i))=false:=h;simpa using h
   refine (ih (i+1) (by omega) (by omega) λ j hj2=>?_).only ⟨rfl,rfl,rfl,rfl,trivial⟩ ⟨rfl,trivial⟩;rcases Nat.lt_or_ge j i with q | q
   ·exact hj j q
   ·have:j=i:=by omega
    subst this;exact h
theorem zbh (l:List SyT) (m:Int):GD 34 Tryd.f34 (RcQ l m) [.code (qad Tryd.f34)] (entry [.sl syS,iI] (l,m,())):=by
 refine qah q2q (q9s l m _ _) ⟨trivial,qaf (λ h=>⟨by trivial,?_⟩) (λ h=>qaf (λ h2=>?_) (λ h2=>?_))⟩
 ·refine qr9 _ _ (qq2 λ q=>?_) (qeh _);have:=qrq q.1;simp at h;omega
 ·have h2:decide ((65536:Int)<(l.length:Int))=true:=h2;have h2:(65536:Int)<(l.length:Int):=of_decide_eq_true h2;refine qr9 _ _ (qq2 λ q=>?_) (qeh _);have:=qrq q.2.1;omega
 ·have h:0<=m/\m<=65536:=by
   have h:(!(decide ((0:Int)<=m)&&decide (m<=(65536:Int))))=false:=h;simpa using h
  have h2:decide ((65536:Int)<(l.length:Int))=false:=h2;have h2:¬ (65536:Int)<(l.length:Int):=of_decide_eq_false h2;exact (q6y l m h.1 h.2 (by omega) _ 0 rfl (Nat.zero_le _) λ j hj=>absurd hj (Nat.not_lt_zero _)).only ⟨rfl,rfl,rfl,rfl,trivial⟩ ⟨rfl,trivial⟩
theorem qw6:Held Tryd.prog G0 34 ctCp:=Held.of q2q (fn:=Tryd.f34) rfl rfl ⟨by decide,by decide⟩ λ ⟨l,m,_⟩ _=>zbh l m
theorem q8p {x:OpT} {m:Int} (h:isRB x m=true) (h0:0<=m) (hm:m<16777216) {k:Nat} (hk:(k:Int)<x.2.2.1):sOK m (elO x.1.toNat x k)=true:=by
 have pp:=qye h ⟨h0,hm⟩;rcases (qfq h).1 with e | e | e | e
 ·rw[e];have pp:=pp (.inl e)
  show sOK m (true,IntKind.i64.wrap (x.2.1+(k:Int)),0)=true
  rw[IntWalk.i64_in _ (by omega)];simp[sOK];omega
 ·rw[e];have pp:=pp (.inr e)
  show sOK m (true,IntKind.i64.wrap (x.2.1+(k:Int)),gtB x.2.2.2.2 k)=true
  rw[IntWalk.i64_in _ (by omega)];simp[sOK];omega
 ·rw[e];rfl
 ·rw[e];rfl
theorem q58 {m:Int} (h0:0<=m) (hm:m<16777216) {l:List OpT} (hr:∀ x∈l,isRB x m=true):∀ s∈symF l,sOK m s=true:=λ s hs=>by
 obtain ⟨x,hx,k,hk,e⟩:=qv7 hr s hs;rw[e];exact q8p (hr x hx) h0 hm hk
theorem q83 {p:PaT} (h:(chkV p).2=0):0<=p.2.1/\p.2.1<=65536:=by
 unfold chkV at h;split at h
 next q=>exact qrq q.1
 ·cases h
theorem qv8 {p:PaT} (h:(symV p).2=0):(chkV p).2=0/\(symV p).1=symF p.2.2.2:=by
 unfold symV at h |-;split at h
 next q=>rw[if_pos q];exact ⟨q,rfl⟩
 next q=>exact absurd h q
theorem qd6 {p:PaT} (h:(symV p).2=0):(∀ s∈(symV p).1,sOK p.2.1 s=true)/\(0<=p.2.1/\p.2.1<=65536)/\((symV p).1.length:Int)=p.2.2.1:=by
 obtain ⟨h1,h2⟩:=qv8 h;obtain ⟨hr,hs,ho,hl⟩:=qe2 h1;have hi:=q83 h1;rw[h2];exact ⟨q58 hi.1 (by omega) hr,hi,by rw[qm0 hr,hs]⟩
theorem zbp {e n:Int} {x:Im.Sec} (h:Im.plcB e n x=true):e<=x.2.1/\x.2.1<x.2.2.1/\x.2.2.1<=n:=by
 have h:=of_decide_eq_true h;exact ⟨h.1,h.2.1,h.2.2.1⟩
theorem qvz {n:Int}:∀ (l d:List Im.Sec) (e:Int),0<=e->Im.valF n d e l=true->∀ x∈l,0<=x.2.1/\x.2.1<x.2.2.1/\x.2.2.1<=n
 | [],_,_,_,_,_,h=>by cases h
 | s::l,d,e,he,h,x,hx=>by
  rw[Im.valF,Bool.and_eq_true,Bool.and_eq_true] at h;have hp:=zbp h.1.2;rcases List.mem_cons.1 hx with rfl | hx
  ·exact ⟨by omega,hp.2⟩
  ·exact qvz l _ _ (by omega) h.2 x hx
theorem qmx {l:List Im.Sec} {n:Int} (h:Im.validB l n=true):l.length<=8/\∀ x∈l,0<=x.2.1/\x.2.1<x.2.2.1/\x.2.2.1<=n:=by
 unfold Im.validB at h;rw[Bool.and_eq_true] at h;exact ⟨of_decide_eq_true h.1,qvz l [] 0 (Int.le_refl _) h.2⟩
theorem qqe {p:PaT} (h:(psV p).2=0):(((psV p).1.length:Nat):Int)=p.2.2.1/\(psV p).1.length<=65536/\psV p=((symV p).1,0)/\(symV p).2=0/\p.1=false:=by
 by_cases h1:(symV p).2=0
 ·cases hl:p.1 with
  | true=>rw[q60 h1 hl] at h;cases h
  | false=>
   have e:=q61 h1 hl;obtain ⟨r1,r2,r3⟩:=qd6 h1;rw[e];have k1:(((symV p).1.length:Nat):Int)=p.2.2.1:=r3;refine ⟨k1,?_,rfl,h1,rfl⟩;have k3:=(qe2 (qv8 h1).1).2.2.1
   show (symV p).1.length<=65536
   omega
 ·rw[q62 h1] at h;exact absurd h h1
def splV (p:PaT) (l:List SecT):List PaT × Int:=match decide ((psV p).2≠0) with
 | true=>([],(psV p).2)
 | false=>match Im.validB l p.2.2.1 with
  | false=>([],120)
  | true=>colF ((secF (psV p).1 l).map (cpV · p.2.1)) []
def ctSpl:Ctr:=⟨[paS,.sl seS],λ x=>∀ s∈(show List SecT from x.2.1),s.1.length<2 ^ 62,λ x=>[.win true paS 0 0 (splV x.1 x.2.1).1.length,.i (splV x.1 x.2.1).2],λ x=>[.row 31 paS (splV x.1 x.2.1).1]⟩
theorem q6k (p:PaT) (l:List SecT) (hl:∀ s∈l,s.1.length<2 ^ 62) (R:List Item->PS->Prop):sA CSp Tryd.f9 (QC ctSpl (p,l,())) R [.code (qad Tryd.f9)] (entry [paS,.sl seS] (p,l,())):=by
 refine (q9j p l _ _).mpr ⟨trivial,qaf (λ h=>?_) (λ h=>⟨⟨trivial,hl⟩,qaf (λ h2=>?_) (λ h2=>?_)⟩)⟩
 ·have e:splV p l=([],(psV p).2):=by unfold splV;rw[show decide ((psV p).2≠0)=true from h]
  refine qc5 (e:=paS) (et:=31) (z:=(psV p).2) ?_ ?_ rfl (by decide)
  ·show [_,_]=_;rw[e];rfl
  ·show [_]=_;rw[e]
 ·have h2:Im.validB l p.2.2.1=false:=by simpa using h2
  have e:splV p l=([],120):=by unfold splV;rw[show decide ((psV p).2≠0)=false from h,h2]
  refine qc5 (e:=paS) (et:=31) (z:=120) ?_ ?_ rfl (by decide)
  ·show [_,_]=_;rw[e];rfl
  ·show [_]=_;rw[e]
 ·have h2:Im.validB l p.2.2.1=true:=by simpa using h2
  have h0:(psV p).2=0:=by have:=of_decide_eq_false h;simpa using this
  obtain ⟨k1,k2,_⟩:=qqe h0;obtain ⟨k3,k4⟩:=qmx h2;have hs:qi5 (psV p).1 l:=⟨by omega,by have:l.length<=8:=k3;omega,λ x hx=>by rw[k1];exact k4 x hx⟩;have e:splV p l=colF ((secF (psV p).1 l).map (cpV · p.2.1)) []:=by unfold splV;rw[show decide ((psV p).2≠0)=false from h,h2]
  refine ⟨trivial,trivial,hs,?_⟩;refine qff (e:=paS) (et:=31) (a:=1110592) (z:=(colF ((secF (psV p).1 l).map (cpV · p.2.1)) []).2) (xs:=(colF ((secF (psV p).1 l).map (cpV · p.2.1)) []).1) ?_ ?_ rfl rfl rfl
  ·show [_,_]=_;rw[e]
  ·show [_]=_;rw[e]
theorem spl_held:Held Tryd.prog G0 9 ctSpl:=Held.run cxSp (fn:=Tryd.f9) rfl rfl ⟨by decide,by decide⟩ λ ⟨p,l,_⟩ hp=>q6k p l hp _
def secV (p:PaT) (n:Int):List PaT × Int:=match decide ((psV p).2≠0) with
 | true=>([],(psV p).2)
 | false=>match decide (1<=n/\n<=4096) with
  | false=>([],1)
  | true=>colF ((qbp (psV p).1 n).map (cpV · p.2.1)) []
def ctSec:Ctr:=⟨[paS,iI],λ _=>True,λ x=>[.win true paS 0 0 (secV x.1 x.2.1).1.length,.i (secV x.1 x.2.1).2],λ x=>[.row 31 paS (secV x.1 x.2.1).1]⟩
theorem q6r (p:PaT) (n:Int) (R:List Item->PS->Prop):sA CSe Tryd.f11 (QC ctSec (p,n,())) R [.code (qad Tryd.f11)] (entry [paS,iI] (p,n,())):=by
 have bad:decide ((psV p).2≠0)=false->¬ (1<=n/\n<=4096)->secV p n=([],1):=λ h h2=>by unfold secV;rw[h,decide_eq_false h2]
 refine (q9n p n _ _).mpr ⟨trivial,qaf (λ h=>?_) (λ h=>qaf (λ h2=>⟨rfl,?_⟩) (λ h2=>qaf (λ h3=>?_) (λ h3=>?_)))⟩
 ·have e:secV p n=([],(psV p).2):=by unfold secV;rw[show decide ((psV p).2≠0)=true from h]
  refine qc5 (e:=paS) (et:=31) (z:=(psV p).2) ?_ ?_ rfl (by decide)
  ·show [_,_]=_;rw[e];rfl
  ·show [_]=_;rw[e]
 ·have h2:n<1:=of_decide_eq_true h2;have e:=bad h (by omega);refine qc5 (e:=paS) (et:=31) (z:=1) ?_ ?_ rfl (by decide)
  ·show [_,_]=_;rw[e];rfl
  ·show [_]=_;rw[e]
 ·have h3:4096<n:=of_decide_eq_true h3;have e:=bad h (by omega);refine qc5 (e:=paS) (et:=31) (z:=1) ?_ ?_ rfl (by decide)
  ·show [_,_]=_;rw[e];rfl
  ·show [_]=_;rw[e]
 ·have h2:¬ n<1:=of_decide_eq_false h2;have h3:¬ 4096<n:=of_decide_eq_false h3;have h0:(psV p).2=0:=by have:=of_decide_eq_false h;simpa using this
  obtain ⟨k1,k2,_⟩:=qqe h0;have e:secV p n=colF ((qbp (psV p).1 n).map (cpV · p.2.1)) []:=by unfold secV;rw[show decide ((psV p).2≠0)=false from h,decide_eq_true (show 1<=n/\n<=4096 by omega)]
  have hk:qot (psV p).1 n:=⟨by omega,by omega,by omega⟩;refine ⟨(show 1<=n by omega),trivial,hk,?_⟩;refine qff (e:=paS) (et:=31) (a:=1114688) (z:=(colF ((qbp (psV p).1 n).map (cpV · p.2.1)) []).2) (xs:=(colF ((qbp (psV p).1 n).map (cpV · p.2.1)) []).1) ?_ ?_ rfl rfl rfl
  ·show [_,_]=_;rw[e]
  ·show [_]=_;rw[e]
theorem sec_held:Held Tryd.prog G0 11 ctSec:=Held.run cxSe (fn:=Tryd.f11) rfl rfl ⟨by decide,by decide⟩ λ ⟨p,n,_⟩ _=>q6r p n _
theorem q1e:HeldI Tryd.prog G0 47 ctOth:=HeldI.run cx0 (fn:=Tryd.f47) rfl rfl ⟨by decide,by decide⟩ λ ⟨⟨li,m,o,x⟩,⟨l,⟨⟩⟩,⟨⟩⟩ hp=>by
 have hp:0<l.length:=hp;refine (q9x l li m o x _ _).mpr ⟨by omega,by omega,QI.self rfl rfl rfl (λ p hp=>?_)⟩;have hp:p∈[(BIG,LB.var [SV.sl paS l])]:=hp;rw[List.mem_singleton] at hp;subst hp;rfl
theorem cxOt:CxOK Tryd.prog tt G0 [(47,.inr ctOth)]:=cx0.consI q1e (fn:=Tryd.f47) rfl rfl rfl
abbrev QIx (b:List PaT) (v:SV):List SV->List (Nat × LB)->Prop:=λ rs blk=>rs=[v]/\lk blk BIG=some (LB.var [.sl paS b])
theorem qc3 {l:List PaT} {i:Nat} (h:i<l.length):gtP l i=l[i]:=gtE (e:=paS) h
theorem qyd (p:PaT->Bool):∀ (l:List PaT) (i:Nat),decide ((0:Int)<=ixF p l i)=l.any p
 | [],i=>rfl
 | x::r,i=>by
  rw[ixF,List.any_cons];cases h:p x with
  | true=>simp only[Bool.true_or,decide_eq_true_eq];omega
  | false=>simp only[Bool.false_or];exact qyd p r (i+1)
theorem q2c {l b:List PaT} {v:SV} (hb:0<b.length) (hl:l.length<1000000):∀ (k i:Nat),l.length-i=k->i<=l.length->v=.i (ixF (othB b) (l.drop i) i)->GD 63 Tryd.f63 (QIx b v) (hd Tryd.f63 0) ⟨[(0,.sl paS l),(1,.fn 47 [] [.ptr BIG 0]),(7,.i (l.length:Nat)),(8,.i (i:Nat))],[(BIG,.var [.sl paS b])]⟩:=by
 intro k
 induction k with
 | zero=>
  intro i hk hi hv;have hi:i=l.length:=by omega
  subst hi;refine qah cxOt (qvp l b l.length _ _) ?_;rw[decide_eq_false (show ¬ ((l.length:Nat):Int)<(l.length:Int) by omega),bc_f];rw[List.drop_length] at hv;exact ⟨by rw[hv];rfl,rfl⟩
 | succ k ih=>
  intro i hk hi hv;have hil:i<l.length:=by omega
  refine qah cxOt (qvp l b i _ _) ?_;rw[decide_eq_true (show (i:Int)<(l.length:Int) by omega),bc_t];simp only[Int.toNat_natCast];rw[qe0 hil,ixF,<- qc3 hil] at hv;refine ⟨by omega,by omega,hb,qaf (λ h=>?_) (λ h=>?_)⟩
  ·have h:othB b (gtP l i)=true:=h;rw[h] at hv;exact ⟨by rw[hv],rfl⟩
  ·have h:othB b (gtP l i)=false:=h;rw[h] at hv;have nx:=ih (i+1) (by omega) (by omega) hv;rw[IntWalk.i64_in ((i:Int)+1) (by omega)];exact nx.only ⟨rfl,rfl,rfl,rfl,trivial⟩ ⟨rfl,trivial⟩
theorem q2d:HeldI Tryd.prog G0 63 ctIfO:=HeldI.of cxOt (fn:=Tryd.f63) rfl rfl ⟨by decide,by decide⟩ λ ⟨l,⟨⟨⟩,⟨⟨b,⟨⟩⟩,⟨⟩⟩⟩,⟨⟩⟩ hp=>by
 obtain ⟨hb,hl⟩:q64 l b:=hp;refine qah cxOt (zao l b _ _) (((q2c (v:=.i (ixF (othB b) l 0)) hb hl _ 0 rfl (Nat.zero_le _) rfl).post λ rs blk hq=>?_).only ⟨rfl,rfl,rfl,rfl,trivial⟩ ⟨rfl,trivial⟩);refine QI.self hq.1.symm (by rw[hq.1];rfl) rfl (λ p hp=>?_);have hp:p∈[(BIG,LB.var [SV.sl paS b])]:=hp;rw[List.mem_singleton] at hp;subst hp;exact hq.2
def ctCfO:CtrI:=⟨KO,λ x=>q64 x.1 x.2.1.2.1.1,λ x=>[.bool (List.any x.1 (othB x.2.1.2.1.1))],λ x=>bkKL 0 KO x⟩
theorem q2z:HeldI Tryd.prog G0 48 ctCfO:=HeldI.run (cx0.consI q2d (fn:=Tryd.f63) rfl rfl rfl) (fn:=Tryd.f48) rfl rfl ⟨by decide,by decide⟩ λ ⟨l,⟨⟨⟩,⟨⟨b,⟨⟩⟩,⟨⟩⟩⟩,⟨⟩⟩ hp=>by
 refine (za0 l b _ _).mpr ⟨hp,QI.self ?_ rfl rfl (λ p hp=>?_)⟩
 ·show [SV.bool (List.any l (othB b))]=[SV.bool (decide ((0:Int)<=ixF (othB b) l 0))]
  rw[qyd]
 ·have hp:p∈[(BIG,LB.var [SV.sl paS b])]:=hp;rw[List.mem_singleton] at hp;subst hp;rfl
def ctSyF:Ctr:=⟨[paS],λ _=>True,λ x=>[.sl syS (symV x.1).1,.i (symV x.1).2],λ _=>[]⟩
theorem qz8:Held Tryd.prog G0 37 ctSyF:=by
 have h:=sym_held.frz (λ x _=>by
  show inL 0 (symV x.1).1.length [SV.win true syS 0 0 (symV x.1).1.length,SV.i (symV x.1).2]/\True
  exact ⟨⟨λ _=>by omega,⟨trivial,trivial⟩⟩,trivial⟩)
 refine h.iff rfl (λ x h=>h) (λ x _=>?_) (λ x _=>rfl)
 show [SV.sl syS (symV x.1).1,SV.i (symV x.1).2]=[SV.sl syS (winL syS 0 (symV x.1).1.length (symV x.1).1),SV.i (symV x.1).2]
 rw[winA (e:=syS)]
theorem cxAy:CxOK Tryd.prog tt G0 [(37,.inl ctSyF)]:=cx0.k qz8 (fn:=Tryd.f37)
abbrev CJ1:CV:=[(46,.inl ctChk),(48,.inr ctCfO)]
theorem cxJ1:CxOK Tryd.prog tt G0 CJ1:=(cx0.consI q2z (fn:=Tryd.f48) rfl rfl rfl).k qs9 (fn:=Tryd.f46)
set_option maxRecDepth 100000
theorem za2 (l:List PaT) (Q:QT) (R:RT):sA [(37,.inl ctSyF)] Tryd.f32 Q R [.code (qad Tryd.f32)] (entry [.sl paS] (l,())) =
  (R (hd Tryd.f32 0) { env:=[(0,.sl paS l),(2,.nils),(3,.nils),(8,.sl paS l),(9,.i (l.length:Int)),(10,.i 0)],blk:=[] }):=by kernel_rfl
theorem q51 (l:List PaT) (i:Int) (Q:QT) (R:RT):sA [(37,.inl ctSyF)] Tryd.f32 Q R (hd Tryd.f32 0) ⟨[(3,.nils),(8,.sl paS l),(9,.i (l.length:Nat)),(10,.i i)],[]⟩ =
  (bc (decide (i<(l.length:Int))) ((0:Int)<=i/\i<(l.length:Int)/\ctSyF.pre ((gtP l i.toNat),())/\(symV (gtP l i.toNat)).1.length<2 ^ 30/\(24:Nat)<=2 ^ 10/\R (hd Tryd.f32 0) { env:=[(3,.win true syS 21 0 (symV (gtP l i.toNat)).1.length),(5,.ptr 5 0),(6,.sl syS (symV (gtP l i.toNat)).1),(7,.i (symV (gtP l i.toNat)).2),(8,.sl paS l),(9,.i (l.length:Int)),(10,.i (i64.wrap (i+1))),(11,.bool (decide (i<(l.length:Int)))),(12,.elv paS (gtP l i.toNat)),(13,.agg [.bool (gtP l i.toNat).1,.i (gtP l i.toNat).2.1,.i (gtP l i.toNat).2.2.1,.sl opS (gtP l i.toNat).2.2.2]),(14,SV.tup [.sl syS (symV (gtP l i.toNat)).1,.i (symV (gtP l i.toNat)).2]),(15,.agg [.bool (gtP l i.toNat).1,.i (gtP l i.toNat).2.1,.i (gtP l i.toNat).2.2.1,.sl opS (gtP l i.toNat).2.2.2]),(16,SV.tup [.sl syS (symV (gtP l i.toNat)).1,.i (symV (gtP l i.toNat)).2]),(17,.sl syS (symV (gtP l i.toNat)).1),(18,.i (symV (gtP l i.toNat)).2),(19,.nils),(20,.sl syS (symV (gtP l i.toNat)).1),(21,.win true syS 21 0 (symV (gtP l i.toNat)).1.length),(22,.i (i64.wrap (i+1)))],blk:=[(5,.var [.bool (gtP l i.toNat).1,.i (gtP l i.toNat).2.1,.i (gtP l i.toNat).2.2.1,.sl opS (gtP l i.toNat).2.2.2]),(21,.row 82 syS (symV (gtP l i.toNat)).1)] }) False):=by kernel_rfl
theorem qvy (l:List PaT) (o:List SyT) (i:Int) (Q:QT) (R:RT):sA [(37,.inl ctSyF)] Tryd.f32 Q R (hd Tryd.f32 0) ⟨[(3,.win true syS 77 0 o.length),(8,.sl paS l),(9,.i (l.length:Nat)),(10,.i i)],[(77,.row 82 syS o)]⟩ =
  (bc (decide (i<(l.length:Int))) ((0:Int)<=i/\i<(l.length:Int)/\ctSyF.pre ((gtP l i.toNat),())/\o.length=o.length/\(0:Nat)=(0:Nat)/\o.length+(symV (gtP l i.toNat)).1.length<2 ^ 30/\(24:Nat)<=2 ^ 10/\R (hd Tryd.f32 0) { env:=[(3,.win true syS 21 0 (o.length+(symV (gtP l i.toNat)).1.length)),(5,.ptr 5 0),(6,.sl syS (symV (gtP l i.toNat)).1),(7,.i (symV (gtP l i.toNat)).2),(8,.sl paS l),(9,.i (l.length:Int)),(10,.i (i64.wrap (i+1))),(11,.bool (decide (i<(l.length:Int)))),(12,.elv paS (gtP l i.toNat)),(13,.agg [.bool (gtP l i.toNat).1,.i (gtP l i.toNat).2.1,.i (gtP l i.toNat).2.2.1,.sl opS (gtP l i.toNat).2.2.2]),(14,SV.tup [.sl syS (symV (gtP l i.toNat)).1,.i (symV (gtP l i.toNat)).2]),(15,.agg [.bool (gtP l i.toNat).1,.i (gtP l i.toNat).2.1,.i (gtP l i.toNat).2.2.1,.sl opS (gtP l i.toNat).2.2.2]),(16,SV.tup [.sl syS (symV (gtP l i.toNat)).1,.i (symV (gtP l i.toNat)).2]),(17,.sl syS (symV (gtP l i.toNat)).1),(18,.i (symV (gtP l i.toNat)).2),(19,.dead),(20,.sl syS (symV (gtP l i.toNat)).1),(21,.win true syS 21 0 (o.length+(symV (gtP l i.toNat)).1.length)),(22,.i (i64.wrap (i+1)))],blk:=[(5,.var [.bool (gtP l i.toNat).1,.i (gtP l i.toNat).2.1,.i (gtP l i.toNat).2.2.1,.sl opS (gtP l i.toNat).2.2.2]),(21,.row 82 syS (o++(symV (gtP l i.toNat)).1))] }) (o.length=o.length/\(o.length:Int)=(o.length:Int)/\(o.length:Int)=(o.length:Int)/\o.length<1099511627776/\0+o.length<=o.length/\0+o.length<=o.length/\0+o.length<=o.length/\0+o.length<=o.length/\Q [.sl syS o] [])):=by kernel_rfl
theorem vc_cj (l:List PaT) (Q:QT) (R:RT):sA CJ1 Tryd.f30 Q (λ it S=>R it (qaj [1,8,14,15,16,33,34,35] [1] S)) [.code (qad Tryd.f30)] (entry [.sl paS] (l,())) =
  (bc (decide ((l.length:Int)=(0:Int))) (Q [.i 1] [(1,.var [.sl paS l])]) (R (hd Tryd.f30 0) { env:=[(1,.ptr 1 0),(14,.sl paS l),(15,.i (l.length:Int)),(16,.i 0)],blk:=[(1,.var [.sl paS l])] })):=by kernel_rfl
theorem q33 (l:List PaT) (i:Int) (Q:QT) (R:RT):sA CJ1 Tryd.f30 Q (λ it S=>R it (qaj [1,8,14,15,16,33,34,35] [1] S)) (hd Tryd.f30 0) ⟨[(1,.ptr 1 0),(14,.sl paS l),(15,.i (l.length:Nat)),(16,.i i)],[(1,.var [.sl paS l])]⟩ =
  (bc (decide (i<(l.length:Int))) ((0:Int)<=i/\i<(l.length:Int)/\ctChk.pre ((gtP l i.toNat),())/\bc (decide ((chkV (gtP l i.toNat)).2≠0)) (Q [.i (chkV (gtP l i.toNat)).2] [(1,.var [.sl paS l]),(4,.var [.bool (gtP l i.toNat).1,.i (gtP l i.toNat).2.1,.i (gtP l i.toNat).2.2.1,.sl opS (gtP l i.toNat).2.2.2])]) (R (hd Tryd.f30 0) { env:=[(1,.ptr 1 0),(14,.sl paS l),(15,.i (l.length:Int)),(16,.i (i64.wrap (i+1)))],blk:=[(1,.var [.sl paS l])] })) (ctCfO.pre (l,((),(l,()),()),())/\bc (l.any (othB l)) (Q [.i 62] [(1,.var [.sl paS l])]) (R (hd Tryd.f30 1) { env:=[(1,.ptr 1 0),(8,.i 65536),(14,.sl paS l),(15,.i (l.length:Int)),(16,.i i),(33,.sl paS l),(34,.i (l.length:Int)),(35,.i 0)],blk:=[(1,.var [.sl paS l])] }))):=by kernel_rfl
def qmf (l:List PaT) (i:Int):List (Nat × LB):=[(1,.var [.sl paS l]),(10,.var [.bool (gtP l i.toNat).1,.i (gtP l i.toNat).2.1,.i (gtP l i.toNat).2.2.1,.sl opS (gtP l i.toNat).2.2.2])]
theorem q32 (l:List PaT) (n i:Int) (Q:QT) (R:RT):sA CJ1 Tryd.f30 Q (λ it S=>R it (qaj [1,8,14,15,16,33,34,35] [1] S)) (hd Tryd.f30 1) ⟨[(1,.ptr 1 0),(8,.i n),(33,.sl paS l),(34,.i (l.length:Nat)),(35,.i i)],[(1,.var [.sl paS l])]⟩ =
  (bc (decide (i<(l.length:Int))) ((0:Int)<=i/\i<(l.length:Int)/\(0:Int)<=0/\(0:Int)<(l.length:Int)/\bc (decide ((gtP l i.toNat).2.1≠(gtP l (0)).2.1)) (true=true/\Q [.i 61] (qmf l i)) (bc (bif false then true else decide (n<(gtP l i.toNat).2.2.1)) (Q [.i 61] (qmf l i)) (R (hd Tryd.f30 1) { env:=[(1,.ptr 1 0),(8,.i (i64.wrap (n-(gtP l i.toNat).2.2.1))),(33,.sl paS l),(34,.i (l.length:Int)),(35,.i (i64.wrap (i+1)))],blk:=[(1,.var [.sl paS l])] }))) (Q [.i 0] [(1,.var [.sl paS l])])):=by kernel_rfl
def ckaF:List PaT->Int
 | []=>0
 | p::r=>match decide ((chkV p).2≠0) with
  | true=>(chkV p).2
  | false=>ckaF r
def lenF (m:Int):List PaT->Int->Int
 | [],_=>0
 | p::r,n=>match decide (p.2.1≠m) with
  | true=>61
  | false=>match decide (n<p.2.2.1) with
   | true=>61
   | false=>lenF m r (n-p.2.2.1)
def cjV (l:List PaT):Int:=match decide (l.length=0) with
 | true=>1
 | false=>match decide (ckaF l≠0) with
  | true=>ckaF l
  | false=>match l.any (othB l) with
   | true=>62
   | false=>lenF (gtP l 0).2.1 l 65536
def ctCj:Ctr:=⟨[.sl paS],λ x=>List.length x.1<1000000,λ x=>[.i (cjV x.1)],λ _=>[]⟩
theorem qq4:∀ {l:List PaT},ckaF l=0->∀ p∈l,(chkV p).2=0
 | [],_,p,hp=>by cases hp
 | q::l,h,p,hp=>by
  rw[ckaF] at h;by_cases hq:(chkV q).2≠0
  ·rw[decide_eq_true hq] at h;exact absurd h hq
  ·rw[decide_eq_false hq] at h;rcases List.mem_cons.1 hp with rfl | hp
   ·exact Classical.not_not.1 hq
   ·exact qq4 h p hp
abbrev QJ (v:Int):List SV->List (Nat × LB)->Prop:=λ rs _=>rs=[.i v]
theorem q2w {l:List PaT} {v:Int} (h0:0<l.length) (hl:l.length<1000000) (hok:∀ p∈l,(chkV p).2=0):∀ (k i:Nat) (n:Int),l.length-i=k->i<=l.length->0<=n/\n<=65536->v=lenF (gtP l 0).2.1 (l.drop i) n->GD 30 Tryd.f30 (QJ v) (hd Tryd.f30 1) ⟨[(1,.ptr 1 0),(8,.i n),(33,.sl paS l),(34,.i (l.length:Nat)),(35,.i (i:Nat))],[(1,.var [.sl paS l])]⟩:=by
 intro k
 induction k with
 | zero=>
  intro i n hk hi hn hv;have hi:i=l.length:=by omega
  subst hi;refine qah cxJ1 (q32 l n l.length _ _) ?_;rw[decide_eq_false (show ¬ ((l.length:Nat):Int)<(l.length:Int) by omega),bc_f];rw[List.drop_length] at hv;rw[hv];rfl
 | succ k ih=>
  intro i n hk hi hn hv;have hil:i<l.length:=by omega
  refine qah cxJ1 (q32 l n i _ _) ?_;rw[decide_eq_true (show (i:Int)<(l.length:Int) by omega),bc_t];simp only[Int.toNat_natCast];rw[qe0 hil,lenF,<- qc3 hil] at hv;have hp:=(qe2 (hok (gtP l i) (by rw[qc3 hil];exact List.getElem_mem hil))).2.2.1;refine ⟨by omega,by omega,by omega,by omega,qaf (λ h=>⟨by trivial,?_⟩) (λ h=>?_)⟩
  ·rw[h] at hv;rw[hv]
  ·rw[h] at hv
   show bc (decide (n<(gtP l i).2.2.1)) _ _
   refine qaf (λ h2=>?_) (λ h2=>?_)
   ·rw[h2] at hv;rw[hv]
   ·rw[h2] at hv;have h2:=of_decide_eq_false h2;have nx:=ih (i+1) (n-(gtP l i).2.2.1) (by omega) (by omega) (by omega) hv;rw[IntWalk.i64_in ((i:Int)+1) (by omega),IntWalk.i64_in (n-(gtP l i).2.2.1) (by omega)];exact nx.only ⟨rfl,rfl,rfl,rfl,rfl,trivial⟩ ⟨rfl,trivial⟩
theorem q2x {l:List PaT} {v:Int} (h0:0<l.length) (hl:l.length<1000000) (hv0:v=cjV l):∀ (k i:Nat),l.length-i=k->i<=l.length->ckaF l=ckaF (l.drop i)->GD 30 Tryd.f30 (QJ v) (hd Tryd.f30 0) ⟨[(1,.ptr 1 0),(14,.sl paS l),(15,.i (l.length:Nat)),(16,.i (i:Nat))],[(1,.var [.sl paS l])]⟩:=by
 have e0:decide (l.length=0)=false:=decide_eq_false (by omega);intro k
 induction k with
 | zero=>
  intro i hk hi hv;have hi:i=l.length:=by omega
  subst hi;rw[List.drop_length] at hv;have hc:ckaF l=0:=hv;have e1:decide (ckaF l≠0)=false:=decide_eq_false (by omega);unfold cjV at hv0;rw[e0,e1] at hv0;refine qah cxJ1 (q33 l l.length _ _) ?_;rw[decide_eq_false (show ¬ ((l.length:Nat):Int)<(l.length:Int) by omega),bc_f];refine ⟨⟨h0,hl⟩,qaf (λ h=>?_) (λ h=>?_)⟩
  ·rw[h] at hv0;rw[hv0]
  ·rw[h] at hv0;exact (q2w h0 hl (qq4 hc) _ 0 65536 rfl (Nat.zero_le _) (by omega) hv0).only ⟨rfl,rfl,rfl,rfl,rfl,trivial⟩ ⟨rfl,trivial⟩
 | succ k ih=>
  intro i hk hi hv;have hil:i<l.length:=by omega
  refine qah cxJ1 (q33 l i _ _) ?_;rw[decide_eq_true (show (i:Int)<(l.length:Int) by omega),bc_t];simp only[Int.toNat_natCast];rw[qe0 hil,ckaF,<- qc3 hil] at hv;refine ⟨by omega,by omega,trivial,qaf (λ h=>?_) (λ h=>?_)⟩
  ·rw[h] at hv;have h:=of_decide_eq_true h;unfold cjV at hv0;rw[e0,decide_eq_true (show ckaF l≠0 by rw[hv];exact h),hv] at hv0;rw[hv0]
  ·rw[h] at hv;have nx:=ih (i+1) (by omega) (by omega) hv;rw[IntWalk.i64_in ((i:Int)+1) (by omega)];exact nx.only ⟨rfl,rfl,rfl,rfl,trivial⟩ ⟨rfl,trivial⟩
theorem q8y:Held Tryd.prog G0 30 ctCj:=Held.of cxJ1 (fn:=Tryd.f30) rfl rfl ⟨by decide,by decide⟩ λ ⟨l,_⟩ hp=>by
 have hl:l.length<1000000:=hp;refine qah cxJ1 (vc_cj l _ _) (qaf (λ h=>?_) (λ h=>?_))
 ·have h:=of_decide_eq_true h;have e:cjV l=1:=by unfold cjV;rw[decide_eq_true (show l.length=0 by omega)]
  refine QC.flat ?_ rfl rfl
  show [SV.i (cjV l)]=_
  rw[e]
 ·have h:=of_decide_eq_false h;refine ((q2x (v:=cjV l) (by omega) hl rfl _ 0 rfl (Nat.zero_le _) rfl).post λ rs blk hq=>QC.flat (Eq.symm hq) rfl (by rw[hq];rfl)).only ⟨rfl,rfl,rfl,rfl,trivial⟩ ⟨rfl,trivial⟩
def ayaF (l:List PaT):List SyT:=l.flatMap λ p=>(symV p).1
def qxc (l:List PaT):Prop:=0<l.length/\l.length<1000000/\(ayaF l).length<16777216
def ctAya:Ctr:=⟨[.sl paS],λ x=>qxc x.1,λ x=>[.sl syS (ayaF x.1)],λ _=>[]⟩
theorem qfz {l:List PaT} {i:Nat} (h:i<l.length):ayaF (l.take (i+1))=ayaF (l.take i)++(symV (gtP l i)).1:=by
 unfold ayaF;rw[List.take_succ_eq_append_getElem h,List.flatMap_append,qc3 h];simp
theorem qzg {l:List PaT} (i:Nat):(ayaF (l.take i)).length<=(ayaF l).length:=by
 have:ayaF l=ayaF (l.take i)++ayaF (l.drop i):=by
  unfold ayaF;rw[<- List.flatMap_append,List.take_append_drop]
 rw[this,List.length_append];omega
abbrev QAy (o:List SyT):List SV->List (Nat × LB)->Prop:=λ rs _=>rs=[.sl syS o]
theorem q24 {l:List PaT} (hl:l.length<1000000) (hb:(ayaF l).length<16777216):∀ (k i:Nat) (o:List SyT),l.length-i=k->i<=l.length->o=ayaF (l.take i)->GD 32 Tryd.f32 (QAy (ayaF l)) (hd Tryd.f32 0) ⟨[(3,.win true syS 77 0 o.length),(8,.sl paS l),(9,.i (l.length:Nat)),(10,.i (i:Nat))],[(77,.row 82 syS o)]⟩:=by
 intro k
 induction k with
 | zero=>
  intro i o hk hi ho;have hi:i=l.length:=by omega
  subst hi;rw[List.take_length] at ho;subst ho;refine qe6 cxAy (qvy l (ayaF l) l.length _ _) ?_;rw[decide_eq_false (show ¬ ((l.length:Nat):Int)<(l.length:Int) by omega),bc_f];refine ⟨rfl,rfl,rfl,by omega,by omega,by omega,by omega,by omega,rfl⟩
 | succ k ih=>
  intro i o hk hi ho;have hil:i<l.length:=by omega
  refine qe6 cxAy (qvy l o i _ _) ?_;have nx:=ih (i+1) (o++(symV (gtP l i)).1) (by omega) (by omega) (by rw[ho,qfz hil]);have hn:o.length+(symV (gtP l i)).1.length<=(ayaF l).length:=by
   have:=qzg (l:=l) (i+1);rw[qfz hil,<- ho,List.length_append] at this;exact this
  rw[decide_eq_true (show (i:Int)<(l.length:Int) by omega),bc_t,IntWalk.i64_in ((i:Int)+1) (by omega)];simp only[Int.toNat_natCast];refine ⟨by omega,by omega,trivial,by trivial,by trivial,by omega,by omega,?_⟩;refine nx.onlyR [(77,21)] rfl ⟨?_,rfl,rfl,rfl,trivial⟩ ⟨rfl,trivial⟩;rw[List.length_append];rfl
theorem q25:Held Tryd.prog G0 32 ctAya:=Held.of cxAy (fn:=Tryd.f32) rfl rfl ⟨by decide,by decide⟩ λ ⟨l,_⟩ hp=>by
 obtain ⟨h0,hl,hb⟩:qxc l:=hp;refine qe6 cxAy (za2 l _ _) ?_;have go:GD 32 Tryd.f32 (QAy (ayaF l)) (hd Tryd.f32 0) ⟨[(3,.nils),(8,.sl paS l),(9,.i (l.length:Nat)),(10,.i (0:Int))],[]⟩:=by
  refine qe6 cxAy (q51 l 0 _ _) ?_;have nx:=q24 hl hb _ 1 (symV (gtP l 0)).1 rfl (by omega) (by rw[qfz h0];rfl);have hn:(symV (gtP l 0)).1.length<=(ayaF l).length:=by
   have:=qzg (l:=l) 1;rw[qfz h0,List.length_append] at this;omega
  rw[decide_eq_true (show (0:Int)<(l.length:Int) by omega),bc_t];refine ⟨by omega,by omega,trivial,?_,by omega,?_⟩
  ·show (symV (gtP l 0)).1.length<2 ^ 30
   omega
  ·exact nx.onlyR [(77,21)] rfl ⟨rfl,rfl,rfl,rfl,trivial⟩ ⟨rfl,trivial⟩
 exact (go.post λ rs blk hq=>QC.flat (Eq.symm hq) rfl (by rw[hq];rfl)).only ⟨rfl,rfl,rfl,rfl,trivial⟩ trivial
abbrev CJn:CV:=[(30,.inl ctCj),(32,.inl ctAya),(31,.inl ctCp)]
theorem cxJn:CxOK Tryd.prog tt G0 CJn:=((cx0.k qy5 (fn:=Tryd.f31)).k q25 (fn:=Tryd.f32)).k q8y (fn:=Tryd.f30)
set_option maxRecDepth 100000
theorem q5s (l:List PaT) (Q:QT) (R:RT):sA CJn Tryd.f13 Q R [.code (qad Tryd.f13)] (entry [.sl paS] (l,())) =
  (ctCj.pre (l,())/\bc (decide (cjV l≠0)) (Q [.agg [.bool false,.i 0,.i 0,.nils],.i (cjV l)] [(2,.var [.bool false,.i 0,.i 0,.nils])]) (ctAya.pre (l,())/\(0:Int)<=0/\(0:Int)<(l.length:Int)/\ctCp.pre (ayaF l,(gtP l (0)).2.1,())/\bc (decide ((cpV (ayaF l) (gtP l (0)).2.1).2≠0)) (Q [.agg [.bool false,.i 0,.i 0,.nils],.i (cpV (ayaF l) (gtP l (0)).2.1).2] [(2,.var [.bool false,.i 0,.i 0,.nils]),(5,.var [.bool (cpV (ayaF l) (gtP l (0)).2.1).1.1,.i (cpV (ayaF l) (gtP l (0)).2.1).1.2.1,.i (cpV (ayaF l) (gtP l (0)).2.1).1.2.2.1,.sl opS (cpV (ayaF l) (gtP l (0)).2.1).1.2.2.2])]) ((0:Int)<=0/\(0:Int)<(l.length:Int)/\Q [.agg [.bool (gtP l (0)).1,.i (cpV (ayaF l) (gtP l (0)).2.1).1.2.1,.i (cpV (ayaF l) (gtP l (0)).2.1).1.2.2.1,.sl opS (cpV (ayaF l) (gtP l (0)).2.1).1.2.2.2],.i 0] [(2,.var [.bool (gtP l (0)).1,.i (cpV (ayaF l) (gtP l (0)).2.1).1.2.1,.i (cpV (ayaF l) (gtP l (0)).2.1).1.2.2.1,.sl opS (cpV (ayaF l) (gtP l (0)).2.1).1.2.2.2]),(5,.var [.bool (gtP l (0)).1,.i (cpV (ayaF l) (gtP l (0)).2.1).1.2.1,.i (cpV (ayaF l) (gtP l (0)).2.1).1.2.2.1,.sl opS (cpV (ayaF l) (gtP l (0)).2.1).1.2.2.2])]))):=by kernel_rfl
def jnV (l:List PaT):PaT × Int:=match decide (cjV l≠0) with
 | true=>((false,0,0,[]),cjV l)
 | false=>match decide ((cpV (ayaF l) (gtP l 0).2.1).2≠0) with
  | true=>((false,0,0,[]),(cpV (ayaF l) (gtP l 0).2.1).2)
  | false=>(((gtP l 0).1,(cpV (ayaF l) (gtP l 0).2.1).1.2),0)
def ctJn:Ctr:=⟨[.sl paS],λ x=>List.length x.1<1000000,λ x=>[paV (jnV x.1).1,.i (jnV x.1).2],λ _=>[]⟩
theorem qsr {m:Int}:∀ {l:List PaT} {n:Int},0<=n->(∀ p∈l,(chkV p).2=0)->lenF m l n=0->((ayaF l).length:Int)<=n/\∀ p∈l,p.2.1=m
 | [],n,hn,_,_=>⟨hn,λ p hp=>by cases hp⟩
 | p::l,n,hn,hc,h=>by
  rw[lenF] at h;by_cases h1:p.2.1≠m
  ·rw[decide_eq_true h1] at h;cases h
  ·rw[decide_eq_false h1] at h;by_cases h2:n<p.2.2.1
   ·rw[decide_eq_true h2] at h;cases h
   ·rw[decide_eq_false h2] at h;have hp:=hc p (List.mem_cons_self ..);have hs:(symV p).2=0:=by unfold symV;rw[if_pos hp]
    have hl:=(qd6 hs).2.2;obtain ⟨a1,a2⟩:=qsr (m:=m) (l:=l) (by omega) (λ q hq=>hc q (List.mem_cons_of_mem _ hq)) h;refine ⟨?_,λ q hq=>?_⟩
    ·show (((symV p).1++ayaF l).length:Int)<=n
     rw[List.length_append];omega
    ·rcases List.mem_cons.1 hq with rfl | hq
     ·exact Classical.not_not.1 h1
     ·exact a2 q hq
theorem zcl {l:List PaT} (h:cjV l=0):0<l.length/\(∀ p∈l,(chkV p).2=0)/\l.any (othB l)=false/\(ayaF l).length<=65536/\∀ p∈l,p.2.1=(gtP l 0).2.1:=by
 unfold cjV at h;by_cases h1:l.length=0
 ·rw[decide_eq_true h1] at h;cases h
 ·rw[decide_eq_false h1] at h;by_cases h2:ckaF l≠0
  ·rw[decide_eq_true h2] at h;exact absurd h h2
  ·rw[decide_eq_false h2] at h;have hc:=qq4 (Classical.not_not.1 h2)
   cases h3:l.any (othB l) with
   | true=>rw[h3] at h;cases h
   | false=>
    rw[h3] at h;obtain ⟨a1,a2⟩:=qsr (by omega) hc h;exact ⟨by omega,hc,rfl,by omega,a2⟩
theorem zb4 (l:List PaT) (hl:l.length<1000000) (R:List Item->PS->Prop):sA CJn Tryd.f13 (QC ctJn (l,())) R [.code (qad Tryd.f13)] (entry [.sl paS] (l,())):=by
 refine (q5s l _ _).mpr ⟨hl,qaf (λ h=>?_) (λ h=>?_)⟩
 ·have hv:jnV l=((false,0,0,[]),cjV l):=by unfold jnV;rw[show decide (cjV l≠0)=true from h]
  exact QC.mt (by show MtL _ [paV (jnV l).1,.i (jnV l).2] _;rw[hv];exact qeh _) rfl
 ·have h0:cjV l=0:=by
   have:=of_decide_eq_false h;simpa using this
  obtain ⟨a1,_,_,a2,_⟩:=zcl h0;have pA:qxc l:=⟨a1,hl,by omega⟩;have pC:(ayaF l).length<16777216:=by omega
  refine ⟨pA,by omega,by omega,pC,qaf (λ h2=>?_) (λ h2=>⟨by omega,by omega,?_⟩)⟩
  ·have hv:jnV l=((false,0,0,[]),(cpV (ayaF l) (gtP l 0).2.1).2):=by unfold jnV;rw[show decide (cjV l≠0)=false from h,show decide ((cpV (ayaF l) (gtP l 0).2.1).2≠0)=true from h2]
   exact QC.mt (by show MtL _ [paV (jnV l).1,.i (jnV l).2] _;rw[hv];exact qeh _) rfl
  ·have hv:jnV l=(((gtP l 0).1,(cpV (ayaF l) (gtP l 0).2.1).1.2),0):=by unfold jnV;rw[show decide (cjV l≠0)=false from h,show decide ((cpV (ayaF l) (gtP l 0).2.1).2≠0)=false from h2]
   exact QC.flat (by show [paV (jnV l).1,.i (jnV l).2]=_;rw[hv];rfl) rfl rfl
theorem qyc:Held Tryd.prog G0 13 ctJn:=Held.run cxJn (fn:=Tryd.f13) rfl rfl ⟨by decide,by decide⟩ λ ⟨l,_⟩ hp=>zb4 l hp _
theorem zaq  (Q:QT) (R:RT):sA [] Tryd.f19 Q R [.code (qad Tryd.f19)] (entry [] ()) =
  (0+2<=(((List.replicate (2:Nat) uB.dflt).set (0:Nat) (7:Int)).set (1:Nat) (8:Int)).length/\0+2<=(((List.replicate (2:Nat) uB.dflt).set (0:Nat) (7:Int)).set (1:Nat) (8:Int)).length/\Q [.agg [.bool false,.i 3,.i 5,.win true opS 4 0 (2:Nat)]] [(0,.var [.bool false,.i 3,.i 5,.win true opS 4 0 (2:Nat)]),(4,.row 55 opS (((List.replicate (2:Nat) opS.dflt).set (0:Nat) ((1:Int),(0:Int),(3:Int),(0:Int),[])).set (1:Nat) ((4:Int),(0:Int),(2:Int),(0:Int),winL uB 0 2 (((List.replicate (2:Nat) uB.dflt).set (0:Nat) (7:Int)).set (1:Nat) (8:Int)))))]):=by kernel_rfl
theorem q9l (a b:List PaT) (Q:QT) (R:RT):sA [(16,.inl ctSm)] Tryd.f15 Q R [.code (qad Tryd.f15)] (entry [.sl paS,.sl paS] (a,b,())) =
  (bc (decide ((a.length:Int)≠(b.length:Int))) (Q [.bool false] []) (R (hd Tryd.f15 0) { env:=[(0,.sl paS a),(1,.sl paS b),(4,.bool false),(5,.i 0),(6,.sl paS a),(7,.i (a.length:Int)),(8,.sl paS b),(9,.i (b.length:Int)),(10,.bool (decide ((a.length:Int)≠(b.length:Int))))],blk:=[] })):=by kernel_rfl
theorem qvb (a b:List PaT) (i:Nat) (Q:QT) (R:RT):sA [(16,.inl ctSm)] Tryd.f15 Q R (hd Tryd.f15 0) ⟨[(0,.sl paS a),(1,.sl paS b),(5,.i (i:Nat))],[]⟩ =
  (bc (decide ((i:Int)<(a.length:Int))) ((0:Int)<=(i:Int)/\(i:Int)<(a.length:Int)/\(0:Int)<=(i:Int)/\(i:Int)<(b.length:Int)/\ctSm.pre ((gtP a (i:Int).toNat),(gtP b (i:Int).toNat),())/\bc (!smB (gtP a (i:Int).toNat) (gtP b (i:Int).toNat)) (Q [.bool false] []) (R (hd Tryd.f15 0) { env:=[(0,.sl paS a),(1,.sl paS b),(5,.i (IntKind.i64.wrap ((i:Int)+1))),(11,.i (i:Int)),(12,.sl paS a),(13,.i (a.length:Int)),(14,.bool (decide ((i:Int)<(a.length:Int)))),(15,.i (i:Int)),(16,.i (IntKind.i64.wrap ((i:Int)+1))),(17,.sl paS a),(18,.i (i:Int)),(19,.elv paS (gtP a (i:Int).toNat)),(20,.agg [.bool (gtP a (i:Int).toNat).1,.i (gtP a (i:Int).toNat).2.1,.i (gtP a (i:Int).toNat).2.2.1,.sl opS (gtP a (i:Int).toNat).2.2.2]),(21,.sl paS b),(22,.i (i:Int)),(23,.elv paS (gtP b (i:Int).toNat)),(24,.agg [.bool (gtP b (i:Int).toNat).1,.i (gtP b (i:Int).toNat).2.1,.i (gtP b (i:Int).toNat).2.2.1,.sl opS (gtP b (i:Int).toNat).2.2.2]),(25,.bool (smB (gtP a (i:Int).toNat) (gtP b (i:Int).toNat))),(26,.bool !smB (gtP a (i:Int).toNat) (gtP b (i:Int).toNat))],blk:=[] })) (Q [.bool true] [])):=by kernel_rfl
def smlR:List PaT->List PaT->Bool
 | x::a,y::b=>match !smB x y with
  | true=>false
  | false=>smlR a b
 | _,_=>true
def smlB (a b:List PaT):Bool:=match decide ((a.length:Int)≠(b.length:Int)) with
 | true=>false
 | false=>smlR a b
def qgp (a:List PaT):Prop:=a.length<1000000/\∀ p∈a,p.2.2.2.length<1099511627776
def ctSml:Ctr:=⟨[.sl paS,.sl paS],λ x=>qgp x.1,λ x=>[.bool (smlB x.1 x.2.1)],λ _=>[]⟩
theorem cxSl:CxOK Tryd.prog tt G0 [(16,.inl ctSm)]:=cx0.k qp5 (fn:=Tryd.f16)
theorem q0g {a b:List PaT} {v:Bool} (ha:qgp a) (hl:a.length=b.length):∀ (k i:Nat),a.length-i=k->i<=a.length->v=smlR (a.drop i) (b.drop i)->GD 15 Tryd.f15 (λ rs _=>rs=[.bool v]) (hd Tryd.f15 0) ⟨[(0,.sl paS a),(1,.sl paS b),(5,.i (i:Nat))],[]⟩:=by
 intro k
 induction k with
 | zero=>
  intro i hk hi hv;have hi:i=a.length:=by omega
  subst hi;refine qe6 cxSl (qvb a b a.length _ _) ?_;rw[decide_eq_false (show ¬ ((a.length:Nat):Int)<(a.length:Int) by omega),bc_f];rw[List.drop_length] at hv;rw[hv];rfl
 | succ k ih=>
  intro i hk hi hv;have hil:i<a.length:=by omega
  have hib:i<b.length:=by omega
  have ha1:=ha.1;refine qe6 cxSl (qvb a b i _ _) ?_;rw[decide_eq_true (show (i:Int)<(a.length:Int) by omega),bc_t,IntWalk.i64_in ((i:Int)+1) (by omega)];simp only[Int.toNat_natCast];rw[qe0 hil,qe0 hib,smlR,<- qc3 hil,<- qc3 hib] at hv;have hp:(gtP a i).2.2.2.length<1099511627776:=ha.2 _ (by rw[qc3 hil];exact List.getElem_mem hil);refine ⟨by omega,by omega,by omega,by omega,hp,qaf (λ h=>?_) (λ h=>?_)⟩
  ·rw[h] at hv;rw[hv]
  ·rw[h] at hv;exact (ih (i+1) (by omega) (by omega) hv).only ⟨rfl,rfl,rfl,trivial⟩ trivial
theorem qrw:Held Tryd.prog G0 15 ctSml:=Held.of cxSl (fn:=Tryd.f15) rfl rfl ⟨by decide,by decide⟩ λ ⟨a,b,_⟩ hp=>by
 have hp:qgp a:=hp;refine qe6 cxSl (q9l a b _ _) (qaf (λ h=>?_) (λ h=>?_))
 ·refine QC.flat ?_ rfl rfl
  show [SV.bool (smlB a b)]=_
  unfold smlB;rw[h]
 ·have hl:=of_decide_eq_false h;have hl:a.length=b.length:=by omega
  refine ((q0g (v:=smlB a b) hp hl _ 0 rfl (Nat.zero_le _) ?_).post λ rs blk hq=>QC.flat (Eq.symm hq) rfl (by rw[hq];rfl)).only ⟨rfl,rfl,rfl,trivial⟩ trivial;unfold smlB;rw[h];rfl
def givP:PaT:=(false,3,5,[(1,0,3,0,[]),(4,0,2,0,[7,8])])
def q4w:Ctr:=⟨[],λ _=>True,λ _=>[.agg [.bool false,.i 3,.i 5,.win true opS 0 0 2]],λ _=>[.row 55 opS givP.2.2.2]⟩
def ctGiv:Ctr:=⟨[],λ _=>True,λ _=>[paV givP],λ _=>[]⟩
theorem givW_held:Held Tryd.prog G0 19 q4w:=by
 refine Held.run cx0 (fn:=Tryd.f19) rfl rfl ⟨by decide,by decide⟩ ?_;rintro ⟨⟩ _;refine (zaq _ _).mpr ⟨by decide,by decide,?_⟩;refine ⟨λ i=>if i=0 then some 4 else none,?_,?_,λ i j b h1 h2=>?_,rfl⟩
 ·exact ⟨_,_,rfl,⟨_,rfl,_,_,rfl,rfl,_,_,rfl,rfl,_,_,rfl,rfl,_,_,rfl,.inl ⟨true,4,rfl,rfl,λ h=>h⟩,rfl⟩,rfl⟩
 ·exact ⟨.inl ⟨4,rfl,rfl⟩,trivial⟩
 ·simp only at h1 h2;split at h1
  ·split at h2
   ·omega
   ·cases h2
  ·cases h1
theorem q2j:Held Tryd.prog G0 19 ctGiv:=by
 have h:=givW_held.frz (λ x _=>⟨by simp[q4w,inL,inS,givP],trivial⟩);exact h.iff rfl (λ x h=>h) (λ x _=>rfl) (λ x _=>rfl)
end Go.Proofs.YtdeacfammdjajaaDoor
