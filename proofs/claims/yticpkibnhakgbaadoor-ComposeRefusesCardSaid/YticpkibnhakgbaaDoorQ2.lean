/-
  A part of the proof: what pieces of the program give; conditions: those of each theorem.
-/
import Derived.Test.YticpkibnhakgbaaDoorQ1
import Derived.Test.YticpkibnhakgbaaDoorHD
import Derived.Test.YticpkibnhakgbaaDoorQ0
set_option linter.unusedVariables false
set_option linter.unusedSimpArgs false
namespace Go.Proofs.YticpkibnhakgbaaDoor
open Go.Px Go.Ax
set_option maxRecDepth 100000
def cmF (a b:Int):Int:=if a<b then -1 else if b<a then 1 else 0
def ctCmp:Ctr:=⟨[iI,iI],fun _=>True,fun x=>[.int .i64 (cmF x.1 x.2.1)],fun _=>[]⟩
set_option maxRecDepth 100000
theorem vc_cmp (a b:Int) (Q:QT) (R:RT):sy tt G0 CNan Tryd.f70.ntmps Tryd.f70.results.toList Q R 1000 [.code (bodyOf Tryd.f70)] (entry [iI,iI] (a,b,())) =
  (ctNan.pre (a,()) ∧
 ctNan.pre (b,()) ∧
 bc (decide (a<b)) (Q [.int .i64 (-1:Int)] []) (bc (decide (b<a)) (Q [.int .i64 1] []) (Q [.int .i64 0] []))):=by kernel_rfl
def mem_isB_m0 (a b:LiT):List (Nat × LB):=[(2,.var [.int .i64 a.1,.int .i64 a.2.1,.int .i64 a.2.2.1,.int .i64 a.2.2.2]),(3,.var [.int .i64 b.1,.int .i64 b.2.1,.int .i64 b.2.2.1,.int .i64 b.2.2.2])]
theorem vc_isB (a b:LiT) (Q:QT) (R:RT):sy tt G0 [(70,.inl ctCmp),(69,.inl ctOr)] Tryd.f65.ntmps Tryd.f65.results.toList Q R 1000 [.code (bodyOf Tryd.f65)] (entry [liS,liS] (a,b,())) =
  (bc (decide (a.2.1=(0:Int))) (true=true ∧
 bc (decide ((0:Int)<a.2.1)) (Q [.bool (decide (b.2.1=(0:Int)))] (mem_isB_m0 a b)) (false=false ∧
 Q [.bool false] (mem_isB_m0 a b))) (bc (bif false then true else decide (b.2.1=(0:Int))) (bc (decide ((0:Int)<a.2.1)) (Q [.bool (decide (b.2.1=(0:Int)))] (mem_isB_m0 a b)) (false=false ∧
 Q [.bool false] (mem_isB_m0 a b))) (bc (!decide ([a.2.2.1,a.2.2.2]=[b.2.2.1,b.2.2.2])) (ctCmp.pre (a.2.2.1,b.2.2.1,()) ∧
 ctCmp.pre (a.2.2.2,b.2.2.2,()) ∧
 0+(2:Nat)≤(((List.replicate (2:Nat) iI.dflt).set (0:Nat) (cmF a.2.2.1 b.2.2.1)).set (1:Nat) (cmF a.2.2.2 b.2.2.2)).length ∧
 ctOr.pre (winL iI (0:Nat) (2:Nat) (((List.replicate (2:Nat) iI.dflt).set (0:Nat) (cmF a.2.2.1 b.2.2.1)).set (1:Nat) (cmF a.2.2.2 b.2.2.2)),()) ∧
 Q [.bool (decide (orF (winL iI (0:Nat) (2:Nat) (((List.replicate (2:Nat) iI.dflt).set (0:Nat) (cmF a.2.2.1 b.2.2.1)).set (1:Nat) (cmF a.2.2.2 b.2.2.2)))<(0:Int)))] [(2,.var [.int .i64 a.1,.int .i64 a.2.1,.int .i64 a.2.2.1,.int .i64 a.2.2.2]),(3,.var [.int .i64 b.1,.int .i64 b.2.1,.int .i64 b.2.2.1,.int .i64 b.2.2.2]),(42,.row 3 iI (((List.replicate (2:Nat) iI.dflt).set (0:Nat) (cmF a.2.2.1 b.2.2.1)).set (1:Nat) (cmF a.2.2.2 b.2.2.2)))]) (bc (decide (a.1≠b.1)) (Q [.bool (decide (a.1<b.1))] (mem_isB_m0 a b)) (Q [.bool (decide (b.2.1<a.2.1))] (mem_isB_m0 a b)))))):=by kernel_rfl
end Go.Proofs.YticpkibnhakgbaaDoor
namespace Go.Proofs.YticpkibnhakgbaaDoor
open Go.Px Go.Ax
set_option maxRecDepth 100000
attribute [local irreducible] Go.Px.sy Go.Px.syE
theorem cmp_run (a b:Int) (R:List Item→PS→Prop):sy tt G0 CNan Tryd.f70.ntmps Tryd.f70.results.toList (QC ctCmp (a,b,())) R 1000 [.code (bodyOf Tryd.f70)] (entry [iI,iI] (a,b,())):=by
 refine (vc_cmp a b _ _).mpr ⟨trivial,trivial,?_⟩
 have out:∀ n,cmF a b=n→ctCmp.out (a,b,())=[SV.int .i64 n]:=fun b e=>congrArg (fun b=>[SV.int .i64 b]) e
 refine bc_of (fun h=>?_) (fun h=>bc_of (fun h2=>?_) (fun h2=>?_))
 ·exact QC.flat (out _ (by unfold cmF;rw[if_pos (of_decide_eq_true h)])) rfl rfl
 ·exact QC.flat (out _ (by unfold cmF;rw[if_neg (of_decide_eq_false h),if_pos (of_decide_eq_true h2)])) rfl rfl
 ·exact QC.flat (out _ (by unfold cmF;rw[if_neg (of_decide_eq_false h),if_neg (of_decide_eq_false h2)])) rfl rfl
theorem cmp_held:Held Tryd.prog G0 70 ctCmp:=Held.run cxNan (fn:=Tryd.f70) rfl rfl ⟨by decide,by decide⟩ fun ⟨a,b,_⟩ _=>cmp_run a b _
def ctBet:Ctr:=⟨[liS,liS],fun _=>True,fun x=>[.bool (betB x.1 x.2.1)],fun _=>[]⟩
theorem cx_isB:CxOK Tryd.prog tt G0 [(70,.inl ctCmp),(69,.inl ctOr)]:=(cx0.cons or_held (fn:=Tryd.f69) rfl rfl rfl).cons cmp_held (fn:=Tryd.f70) rfl rfl rfl
theorem isB_run (k n c o k' n' c' o':Int) (R:List Item→PS→Prop):sy tt G0 [(70,.inl ctCmp),(69,.inl ctOr)] Tryd.f65.ntmps Tryd.f65.results.toList (QC ctBet ((k,n,c,o),(k',n',c',o'),())) R 1000 [.code (bodyOf Tryd.f65)] (entry [liS,liS] ((k,n,c,o),(k',n',c',o'),())):=by
 refine (vc_isB (k,n,c,o) (k',n',c',o') _ _).mpr ?_
 have out:∀ b,betB (k,n,c,o) (k',n',c',o')=b→ctBet.out ((k,n,c,o),(k',n',c',o'),())=[SV.bool b]:=fun b e=>congrArg (fun b=>[SV.bool b]) e
 refine bc_of (fun h=>⟨rfl,?_⟩) (fun h=>bc_of (fun h2=>?_) (fun h2=>?_))
 ·have h:n=0:=of_decide_eq_true h
  refine bc_of (fun h2=>?_) (fun h2=>⟨rfl,?_⟩)
  ·have h2:0<n:=of_decide_eq_true h2
   exact QC.flat (out _ (by unfold betB;rw[if_pos (.inl h)];simp[h2])) rfl rfl
  ·have h2:¬ 0<n:=of_decide_eq_false h2
   exact QC.flat (out _ (by unfold betB;rw[if_pos (.inl h)];simp[h2])) rfl rfl
 ·have h2:decide (n'=0)=true:=h2
  have h2:n'=0:=of_decide_eq_true h2
  refine bc_of (fun h3=>?_) (fun h3=>⟨rfl,?_⟩)
  ·have h3:0<n:=of_decide_eq_true h3
   exact QC.flat (out _ (by unfold betB;rw[if_pos (.inr h2)];simp[h3])) rfl rfl
  ·have h3:¬ 0<n:=of_decide_eq_false h3
   exact QC.flat (out _ (by unfold betB;rw[if_pos (.inr h2)];simp[h3])) rfl rfl
 ·have h:¬ n=0:=of_decide_eq_false h
  have h2:decide (n'=0)=false:=h2
  have h2:¬ n'=0:=of_decide_eq_false h2
  have hz:¬ (n=0∨n'=0):=by omega
  refine bc_of (fun h3=>⟨trivial,trivial,Nat.le_refl 2,(show (2:Nat)<1000000 by decide),?_⟩) (fun h3=>bc_of (fun h4=>?_) (fun h4=>?_))
  ·have h3:¬ (c=c'∧o=o'):=by
    intro e
    rw[e.1,e.2] at h3
    simp at h3
   have ev:orF (winL iI 0 2 (((List.replicate 2 iI.dflt).set 0 (cmF c c')).set 1 (cmF o o')))=orF [cmF c c',cmF o o']:=rfl
   refine QC.flat (out _ ?_) rfl rfl
   show betB (k,n,c,o) (k',n',c',o')=decide (orF (winL iI 0 2 (((List.replicate 2 iI.dflt).set 0 (cmF c c')).set 1 (cmF o o')))<0)
   rw[ev]
   unfold betB
   simp only[if_neg hz]
   by_cases hc:c=c'
   ·have ho:o≠o':=fun e=>h3 ⟨hc,e⟩
    rw[if_neg (by simpa using hc),if_pos ho]
    refine decide_eq_decide.2 ?_
    have e1:cmF c c'=0:=by unfold cmF;rw[if_neg (by omega),if_neg (by omega)]
    rw[orF,if_neg (by simpa using e1)]
    unfold cmF
    simp only[orF]
    split
    ·simp;omega
    ·split
     ·simp;omega
     ·omega
   ·rw[if_pos hc]
    refine decide_eq_decide.2 ?_
    unfold cmF
    simp only[orF]
    split
    ·simp;omega
    ·split
     ·simp;omega
     ·omega
  ·have h3:c=c'∧o=o':=by simpa using h3
   have h4:k≠k':=of_decide_eq_true h4
   exact QC.flat (out _ (by unfold betB;simp only[if_neg hz];rw[if_neg (by simpa using h3.1),if_neg (by simpa using h3.2),if_pos h4])) rfl rfl
  ·have h3:c=c'∧o=o':=by simpa using h3
   have h4:¬ k≠k':=of_decide_eq_false h4
   exact QC.flat (out _ (by unfold betB;simp only[if_neg hz];rw[if_neg (by simpa using h3.1),if_neg (by simpa using h3.2),if_neg h4])) rfl rfl
theorem isB_held:Held Tryd.prog G0 65 ctBet:=Held.run cx_isB (fn:=Tryd.f65) rfl rfl ⟨by decide,by decide⟩ fun ⟨⟨k,n,c,o⟩,⟨k',n',c',o'⟩,_⟩ _=>isB_run k n c o k' n' c' o' _
end Go.Proofs.YticpkibnhakgbaaDoor
namespace Go.Proofs.YticpkibnhakgbaaDoor
open Go.Px Go.Ax
def mdK (k:Int) (l:List SyT):OpT:=(k,(gtY l 0).2.1,(l.length:Int),if k=3 then (gtY l 0).2.2 else 0,if k=2∨k=4 then l.map fun s=>s.2.2 else [])
def isK (k:Int) (l:List SyT) (n:Nat):Prop:=∀ j,j<n→canB k (gtY l j)=true∧(k=1∨k=2→(gtY l j).2.1=(gtY l 0).2.1+j)∧(k=3→(gtY l j).2.2=(gtY l 0).2.2)
theorem canB_old {k:Int} {s:SyT} (hk:k=1∨k=2) (h:canB k s=true):s.1=true:=by
 unfold canB at h
 rcases hk with e | e
 ·subst e
  rw[if_pos rfl] at h
  simp at h;exact h.1
 ·subst e
  rw[if_neg (by decide),if_pos rfl] at h
  exact h
theorem gtY_s (s:SyT) (r:List SyT) (j:Nat):gtY (s::r) (j+1)=gtY r j:=by
 simp[gt]
theorem gtY_z (s:SyT) (r:List SyT):gtY (s::r) 0=s:=by
 simp[gt]
section
variable {m:Int} (hm:m<16777216)
include hm
theorem fit_is {k:Int}:∀ {l:List SyT},(∀ s∈l,sOK m s=true)→isK k l (fitN k l)
 | [],_=>fun j h=>by rw[fitN] at h;omega
 | s::r,hr=>by
  have ih:=fit_is (k:=k) (l:=r) fun x hx=>hr x (by simp[hx])
  have hs:=hr s (by simp)
  intro j hj
  rw[fitN] at hj
  by_cases hc:canB k s=true
  ·rw[if_pos hc] at hj
   rcases j with _ | j
   ·rw[gtY_z]
    exact ⟨hc,fun _=>by simp,fun _=>rfl⟩
   ·rw[gtY_s,gtY_z]
    by_cases hg:goK k s (gtY r 0)=true
    ·rw[if_pos hg] at hj
     obtain ⟨h1,h2,h3⟩:=ih j (by omega)
     refine ⟨h1,fun hk=>?_,fun hk=>?_⟩
     ·have b:=sOK_t hs (canB_old hk hc)
      unfold goK at hg
      rw[if_pos hk,decide_eq_true_eq,IntWalk.i64_in _ (by omega)] at hg
      rw[h2 hk,hg]
      omega
     ·unfold goK at hg
      rw[if_neg (by omega),if_pos hk,decide_eq_true_eq] at hg
      rw[h3 hk,hg]
    ·rw[if_neg hg] at hj;omega
  ·rw[if_neg hc] at hj;omega
theorem mdK_sym {k:Int} {l:List SyT} (hk:kOK k) (hr:∀ s∈l,sOK m s=true) (hi:isK k l l.length):symsO k.toNat (mdK k l)=l:=by
 have key:∀ (el:Nat→SyT),(∀ j,j<l.length→el j=gtY l j)→gen el l.length 0=l:=fun el h=>by
  refine List.ext_getElem? fun j=>?_
  by_cases hj:j<l.length
  ·rw[gen_get _ _ _ _ (by omega),Nat.zero_add,h j hj,List.getElem?_eq_getElem (by omega),← gtY_at (by omega)]
  ·rw[List.getElem?_eq_none (by rw[gen_len];omega),List.getElem?_eq_none (by omega)]
 have dat:∀ j,j<l.length→gtB (l.map fun s=>s.2.2) j=(gtY l j).2.2:=fun j hj=>by
  rw[gtB_at (by rw[List.length_map];omega),List.getElem_map,← gtY_at (by omega)]
 have ext3:∀ (s:SyT) (x:Bool) (y z:Int),s.1=x→s.2.1=y→s.2.2=z→(x,y,z)=s:=fun s x y z h1 h2 h3=>by subst h1;subst h2;subst h3;rfl
 have ok:∀ j,j<l.length→sOK m (gtY l j)=true:=fun j hj=>by rw[gtY_at hj];exact hr _ (List.getElem_mem hj)
 have at':k=1∨k=2→∀ j,j<l.length→(gtY l j).1=true∧IntKind.i64.wrap ((gtY l 0).2.1+(j:Int))=(gtY l j).2.1:=fun hk j hj=>by
  have h:=hi j hj
  have o:=canB_old hk h.1
  have b:=sOK_t (ok j hj) o
  have e:=h.2.1 hk
  have h0:=hi 0 (by omega)
  have b0:=sOK_t (ok 0 (by omega)) (canB_old hk h0.1)
  exact ⟨o,by rw[IntWalk.i64_in _ (by omega),e]⟩
 have lit:¬ (k=1∨k=2)→∀ j,j<l.length→(gtY l j).1=false∧(gtY l j).2.1=0:=fun hk j hj=>by
  have h:=(hi j hj).1
  unfold canB at h
  rw[if_neg (by omega),if_neg (by omega)] at h
  have o:(gtY l j).1=false:=by simpa using h
  exact ⟨o,sOK_f (ok j hj) o⟩
 rcases (show k=1∨k=2∨k=3∨k=4 by unfold kOK at hk;omega) with e | e | e | e
 ·subst e
  have c:cntO 1 (mdK 1 l)=l.length:=by show ((l.length:Int)).toNat=_;omega
  show gen _ (cntO 1 _) 0=_
  rw[c]
  refine key _ fun j hj=>?_
  obtain ⟨o,w⟩:=at' (.inl rfl) j hj
  have h:=(hi j hj).1
  unfold canB at h
  rw[if_pos rfl] at h
  simp at h
  exact ext3 _ _ _ _ o w.symm h.2
 ·subst e
  have c:cntO 2 (mdK 2 l)=l.length:=by show (l.map fun s=>s.2.2).length=_;rw[List.length_map]
  show gen _ (cntO 2 _) 0=_
  rw[c]
  refine key _ fun j hj=>?_
  obtain ⟨o,w⟩:=at' (.inr rfl) j hj
  exact ext3 _ _ _ _ o w.symm (dat j hj).symm
 ·subst e
  have c:cntO 3 (mdK 3 l)=l.length:=by show ((l.length:Int)).toNat=_;omega
  show gen _ (cntO 3 _) 0=_
  rw[c]
  refine key _ fun j hj=>?_
  obtain ⟨o,w⟩:=lit (by decide) j hj
  exact ext3 _ _ _ _ o w ((hi j hj).2.2 rfl)
 ·subst e
  have c:cntO 4 (mdK 4 l)=l.length:=by show (l.map fun s=>s.2.2).length=_;rw[List.length_map]
  show gen _ (cntO 4 _) 0=_
  rw[c]
  refine key _ fun j hj=>?_
  obtain ⟨o,w⟩:=lit (by decide) j hj
  exact ext3 _ _ _ _ o w (dat j hj).symm
theorem mdK_right {k:Int} {l:List SyT} (hk:kOK k) (hr:∀ s∈l,sOK m s=true) (hi:isK k l l.length) (h1:1≤l.length) (hl:l.length≤65536):isRB (mdK k l) m=true:=by
 have ok:∀ j,j<l.length→sOK m (gtY l j)=true:=fun j hj=>by rw[gtY_at hj];exact hr _ (List.getElem_mem hj)
 have part:k=1∨k=2→isPartB (gtY l 0).2.1 l.length m=true:=fun hk=>by
  have h0:=hi 0 (by omega)
  have b0:=sOK_t (ok 0 (by omega)) (canB_old hk h0.1)
  have h9:=hi (l.length-1) (by omega)
  have b9:=sOK_t (ok (l.length-1) (by omega)) (canB_old hk h9.1)
  have e:=h9.2.1 hk
  have w:IntKind.i64.wrap (m-(l.length:Int))=m-l.length:=IntWalk.i64_in _ (by omega)
  unfold isPartB
  rw[w]
  simp only[Bool.and_eq_true,decide_eq_true_eq]
  omega
 have lens:decide (1≤(mdK k l).2.2.1)=true∧decide ((mdK k l).2.2.1≤65536)=true:=by
  show decide (1≤(l.length:Int))=true∧decide ((l.length:Int)≤65536)=true
  simp only[decide_eq_true_eq]
  omega
 have lit:¬ (k=1∨k=2)→(gtY l 0).2.1=0:=fun hk=>by
  have h:=(hi 0 (by omega)).1
  unfold canB at h
  rw[if_neg (by omega),if_neg (by omega)] at h
  have o:(gtY l 0).1=false:=by simpa using h
  exact sOK_f (ok 0 (by omega)) o
 unfold isRB
 rw[lens.1,lens.2]
 unfold mdK kR
 rcases (show k=1∨k=2∨k=3∨k=4 by unfold kOK at hk;omega) with e | e | e | e
 ·subst e
  simp[rB,part (.inl rfl)]
 ·subst e
  simp[rB,part (.inr rfl)]
 ·subst e
  simp[rB,lit (by decide)]
 ·subst e
  simp[rB,lit (by decide)]
end
theorem mdK_cost {k:Int} {l:List SyT} (hk:kOK k) (hl:l.length≤65536):cN k.toNat (mdK k l)=hdC k+eaC k*(l.length:Int):=by
 rcases (show k=1∨k=2∨k=3∨k=4 by unfold kOK at hk;omega) with e | e | e | e
 ·subst e;show (4:Int)=hdC 1+eaC 1*_;simp[hdC,eaC]
 ·subst e
  show IntKind.i64.wrap (4+(l.length:Int))=_
  rw[IntWalk.i64_in _ (by omega)]
  simp[hdC,eaC]
 ·subst e;show (4:Int)=hdC 3+eaC 3*_;simp[hdC,eaC]
 ·subst e
  show IntKind.i64.wrap (2+(l.length:Int))=_
  rw[IntWalk.i64_in _ (by omega)]
  simp[hdC,eaC]
def cst (l:List SyT):Int:=(bst l).2.2.1
def oct (l:List SyT):Int:=(bst l).2.2.2
theorem eaN (k:Int) (n:Nat):0≤eaC k*(n:Int)∧eaC k*(n:Int)≤n:=by
 unfold eaC
 split
 ·omega
 ·omega
theorem bst_ne {l:List SyT} (hl:l.length≤65536) (h0:l≠[]):kOK (bst l).1∧∃ n:Nat,(bst l).2.1=(n:Int)∧1≤n∧n≤fitN (bst l).1 l∧(∀ k,kOK k→∀ m:Nat,1≤m→m≤fitN k l→keyL (bst l).1 n l≤keyL k m l) ∧
  cst l=hdC (bst l).1+eaC (bst l).1*(n:Int)+cst (l.drop n)∧oct l=1+oct (l.drop n):=by
 rcases (ok_all l hl).2 with ⟨h,_⟩ | ⟨_,hk,n,h1,h2,h3,h4,h5,h6⟩
 ·exact absurd h h0
 refine ⟨hk,n,h1,h2,h3,h5,?_⟩
 have hd:(l.drop n).length≤65536:=by rw[List.length_drop];omega
 have hb:=bst_bo (l.drop n) hd
 have hf:=fitN_le (bst l).1 l
 unfold keyT keyL wB at h4
 unfold boL at hb h6
 unfold cst oct
 have e1:=eaN (bst l).1 n
 generalize eaC (bst l).1*(n:Int)=e at *
 generalize (bst (l.drop n))=b at *
 rw[List.length_drop] at hb
 omega
def chF:Nat→List SyT→List OpT
 | 0,_=>[]
 | f+1,l=>if l=[] then [] else mdK (bst l).1 (l.take (bst l).2.1.toNat)::chF f (l.drop (bst l).2.1.toNat)
def chL (l:List SyT):List OpT:=chF l.length l
theorem isK_take {k:Int} {l:List SyT} {n q:Nat} (hq:n≤q) (h:isK k l q):isK k (l.take n) n:=fun j hj=>by
 have e:∀ j,j<n→gtY (l.take n) j=gtY l j:=fun j hj=>by simp[gt,hj]
 rw[e j hj,e 0 (by omega)]
 exact h j (by omega)
theorem ch_ok {m:Int} (hm:m<16777216):∀ (f:Nat) (l:List SyT),l.length≤f→l.length≤65536→(∀ s∈l,sOK m s=true) →
  symF (chF f l)=l∧(∀ x∈chF f l,isRB x m=true)∧costS (chF f l)=cst l∧((chF f l).length:Int)=oct l:=by
 intro f
 induction f with
 | zero=>
  intro l hf hl hr
  have e:l=[]:=List.eq_nil_of_length_eq_zero (by omega)
  subst e
  exact ⟨rfl,(fun x hx=>by cases hx),rfl,rfl⟩
 | succ f ih=>
  intro l hf hl hr
  by_cases h0:l=[]
  ·subst h0
   exact ⟨rfl,(fun x hx=>by cases hx),rfl,rfl⟩
  ·obtain ⟨hb,q,q1,q2,q3,q4,q5,q6⟩:=bst_ne hl h0
   have hq:=fitN_le (bst l).1 l
   have e:chF (f+1) l=mdK (bst l).1 (l.take q)::chF f (l.drop q):=by rw[chF,if_neg h0,q1,Int.toNat_natCast]
   rw[e]
   have tl:(l.take q).length=q:=by rw[List.length_take];omega
   have dl:(l.drop q).length=l.length-q:=List.length_drop ..
   obtain ⟨i1,i2,i3,i4⟩:=ih (l.drop q) (by omega) (by omega) fun s hs=>hr s (List.mem_of_mem_drop hs)
   have tr:∀ s∈l.take q,sOK m s=true:=fun s hs=>hr s (List.mem_of_mem_take hs)
   have ti:isK (bst l).1 (l.take q) (l.take q).length:=by rw[tl];exact isK_take q3 (fit_is hm hr)
   refine ⟨?_,fun x hx=>?_,?_,?_⟩
   ·rw[symF,i1]
    show symsO (bst l).1.toNat _++_=_
    rw[mdK_sym hm hb tr ti,List.take_append_drop]
   ·rcases List.mem_cons.1 hx with h | h
    ·subst h;exact mdK_right hm hb tr ti (by omega) (by omega)
    ·exact i2 x h
   ·rw[costS,i3]
    show cN (bst l).1.toNat _+_=_
    rw[mdK_cost hb (by omega),q5,tl]
   ·rw[List.length_cons,q6]
    omega
end Go.Proofs.YticpkibnhakgbaaDoor
namespace Go.Proofs.YticpkibnhakgbaaDoor
open Go.Px Go.Ax
set_option maxRecDepth 100000
def CBe:CV:=[(67,.inl ctCan),(68,.inl ctGoe),(65,.inl ctBet)]
theorem cxBe:CxOK Tryd.prog tt G0 CBe:=((cx0.cons isB_held (fn:=Tryd.f65) rfl rfl rfl).cons goe_held (fn:=Tryd.f68) rfl rfl rfl).cons can_held (fn:=Tryd.f67) rfl rfl rfl
def preBg (k:Int) (l:List SyT) (g:LiT):Prop:=kOK k∧1≤l.length∧(g.2.1=0∨2≤l.length)
def begL (k:Int) (l:List SyT) (w:Int × Int) (g:LiT):LiT:=begF k (gtY l 0) (gtY l 1) w g
def boB (w:Int × Int) (g:LiT):Prop:=(0≤w.1∧w.1<16777216∧0≤w.2∧w.2<16777216)∧0≤g.2.1∧g.2.1<16777216∧0≤g.2.2.1∧g.2.2.1<16777216
def ctBg:Ctr:=⟨[iI,.sl syS,suS,liS],fun x=>preBg x.1 x.2.1 x.2.2.2.1∧boB x.2.2.1 x.2.2.2.1,fun x=>[.agg [.int .i64 (begL x.1 x.2.1 x.2.2.1 x.2.2.2.1).1,.int .i64 (begL x.1 x.2.1 x.2.2.1 x.2.2.2.1).2.1,.int .i64 (begL x.1 x.2.1 x.2.2.1 x.2.2.2.1).2.2.1,.int .i64 (begL x.1 x.2.1 x.2.2.1 x.2.2.2.1).2.2.2]],fun _=>[]⟩
def preMk (k:Int) (l:List SyT):Prop:=kOK k∧1≤l.length∧l.length<16777216
def ctMk:Ctr:=⟨[iI,.sl syS],fun x=>preMk x.1 x.2.1,fun x=>mdV (mdK x.1 x.2.1),fun _=>[]⟩
set_option maxRecDepth 100000
def mem_beg_m0 (k:Int) (w:Int × Int) (g:LiT):List (Nat × LB):=[(6,.var [.int .i64 w.1,.int .i64 w.2]),(7,.var [.int .i64 g.1,.int .i64 g.2.1,.int .i64 g.2.2.1,.int .i64 g.2.2.2]),(8,.var [.int .i64 k,.int .i64 1,.int .i64 (IntKind.i64.wrap (IntKind.i64.wrap (w.1+(gt (iI.pair iI) costsL k.toNat).1)+(gt (iI.pair iI) costsL k.toNat).2)),.int .i64 (IntKind.i64.wrap (w.2+(1:Int)))]),(9,.var [.int .i64 (gt (iI.pair iI) costsL k.toNat).1,.int .i64 (gt (iI.pair iI) costsL k.toNat).2]),(10,.var [.int .i64 k,.int .i64 1,.int .i64 (IntKind.i64.wrap (IntKind.i64.wrap (w.1+(gt (iI.pair iI) costsL k.toNat).1)+(gt (iI.pair iI) costsL k.toNat).2)),.int .i64 (IntKind.i64.wrap (w.2+(1:Int)))])]
theorem vc_beg (k:Int) (l:List SyT) (w:Int × Int) (g:LiT) (Q:QT) (R:RT):sy tt G0 CBe Tryd.f64.ntmps Tryd.f64.results.toList Q R 1000 [.code (bodyOf Tryd.f64)] (entry [iI,.sl syS,suS,liS] (k,l,w,g,())) =
  ((0:Int)≤(0:Int) ∧
 (0:Int)<(l.length:Int) ∧
 ctCan.pre (k,(gtY l (0)),()) ∧
 bc (!canB k (gtY l (0))) (Q [.agg [.int .i64 0,.int .i64 0,.int .i64 0,.int .i64 0]] [(6,.var [.int .i64 w.1,.int .i64 w.2]),(7,.var [.int .i64 g.1,.int .i64 g.2.1,.int .i64 g.2.2.1,.int .i64 g.2.2.2]),(8,.var [.int .i64 0,.int .i64 0,.int .i64 0,.int .i64 0])]) ((0:Int)≤k ∧
 k<(↑(5:Nat):Int) ∧
 bc (decide (g.2.1=(0:Int))) (true=true ∧
 Q [.agg [.int .i64 k,.int .i64 1,.int .i64 (IntKind.i64.wrap (IntKind.i64.wrap (w.1+(gt (iI.pair iI) costsL k.toNat).1)+(gt (iI.pair iI) costsL k.toNat).2)),.int .i64 (IntKind.i64.wrap (w.2+(1:Int)))]] (mem_beg_m0 k w g)) ((0:Int)≤(0:Int) ∧
 (0:Int)<(l.length:Int) ∧
 (0:Int)≤(1:Int) ∧
 (1:Int)<(l.length:Int) ∧
 ctGoe.pre (k,(gtY l (0)),(gtY l (1)),()) ∧
 bc (bif false then true else !goK k (gtY l (0)) (gtY l (1))) (Q [.agg [.int .i64 k,.int .i64 1,.int .i64 (IntKind.i64.wrap (IntKind.i64.wrap (w.1+(gt (iI.pair iI) costsL k.toNat).1)+(gt (iI.pair iI) costsL k.toNat).2)),.int .i64 (IntKind.i64.wrap (w.2+(1:Int)))]] (mem_beg_m0 k w g)) (ctBet.pre ((k,(1:Int),IntKind.i64.wrap (IntKind.i64.wrap (w.1+(gt (iI.pair iI) costsL k.toNat).1)+(gt (iI.pair iI) costsL k.toNat).2),IntKind.i64.wrap (w.2+(1:Int))),(k,IntKind.i64.wrap (g.2.1+(1:Int)),IntKind.i64.wrap (g.2.2.1+(gt (iI.pair iI) costsL k.toNat).2),g.2.2.2),()) ∧
 bc (betB (k,(1:Int),IntKind.i64.wrap (IntKind.i64.wrap (w.1+(gt (iI.pair iI) costsL k.toNat).1)+(gt (iI.pair iI) costsL k.toNat).2),IntKind.i64.wrap (w.2+(1:Int))) (k,IntKind.i64.wrap (g.2.1+(1:Int)),IntKind.i64.wrap (g.2.2.1+(gt (iI.pair iI) costsL k.toNat).2),g.2.2.2)) (Q [.agg [.int .i64 k,.int .i64 1,.int .i64 (IntKind.i64.wrap (IntKind.i64.wrap (w.1+(gt (iI.pair iI) costsL k.toNat).1)+(gt (iI.pair iI) costsL k.toNat).2)),.int .i64 (IntKind.i64.wrap (w.2+(1:Int)))]] [(6,.var [.int .i64 w.1,.int .i64 w.2]),(7,.var [.int .i64 g.1,.int .i64 g.2.1,.int .i64 g.2.2.1,.int .i64 g.2.2.2]),(8,.var [.int .i64 k,.int .i64 1,.int .i64 (IntKind.i64.wrap (IntKind.i64.wrap (w.1+(gt (iI.pair iI) costsL k.toNat).1)+(gt (iI.pair iI) costsL k.toNat).2)),.int .i64 (IntKind.i64.wrap (w.2+(1:Int)))]),(9,.var [.int .i64 (gt (iI.pair iI) costsL k.toNat).1,.int .i64 (gt (iI.pair iI) costsL k.toNat).2]),(10,.var [.int .i64 k,.int .i64 1,.int .i64 (IntKind.i64.wrap (IntKind.i64.wrap (w.1+(gt (iI.pair iI) costsL k.toNat).1)+(gt (iI.pair iI) costsL k.toNat).2)),.int .i64 (IntKind.i64.wrap (w.2+(1:Int)))]),(11,.var [.int .i64 k,.int .i64 (IntKind.i64.wrap (g.2.1+(1:Int))),.int .i64 (IntKind.i64.wrap (g.2.2.1+(gt (iI.pair iI) costsL k.toNat).2)),.int .i64 g.2.2.2])]) (Q [.agg [.int .i64 k,.int .i64 (IntKind.i64.wrap (g.2.1+(1:Int))),.int .i64 (IntKind.i64.wrap (g.2.2.1+(gt (iI.pair iI) costsL k.toNat).2)),.int .i64 g.2.2.2]] [(6,.var [.int .i64 w.1,.int .i64 w.2]),(7,.var [.int .i64 g.1,.int .i64 g.2.1,.int .i64 g.2.2.1,.int .i64 g.2.2.2]),(8,.var [.int .i64 k,.int .i64 (IntKind.i64.wrap (g.2.1+(1:Int))),.int .i64 (IntKind.i64.wrap (g.2.2.1+(gt (iI.pair iI) costsL k.toNat).2)),.int .i64 g.2.2.2]),(9,.var [.int .i64 (gt (iI.pair iI) costsL k.toNat).1,.int .i64 (gt (iI.pair iI) costsL k.toNat).2]),(10,.var [.int .i64 k,.int .i64 1,.int .i64 (IntKind.i64.wrap (IntKind.i64.wrap (w.1+(gt (iI.pair iI) costsL k.toNat).1)+(gt (iI.pair iI) costsL k.toNat).2)),.int .i64 (IntKind.i64.wrap (w.2+(1:Int)))]),(11,.var [.int .i64 k,.int .i64 (IntKind.i64.wrap (g.2.1+(1:Int))),.int .i64 (IntKind.i64.wrap (g.2.2.1+(gt (iI.pair iI) costsL k.toNat).2)),.int .i64 g.2.2.2])]))))):=by kernel_rfl
def mem_mk_m0 (k:Int) (l:List SyT):List (Nat × LB):=[(4,.var [.int .i64 k,.int .i64 (gtY l (0)).2.1,.int .i64 (l.length:Int),.int .u8 0,.nils]),(5,.var [.int .i64 k,.int .i64 (gtY l (0)).2.1,.int .i64 (l.length:Int),.int .u8 0,.nils])]
theorem vc_mk (k:Int) (l:List SyT) (Q:QT) (R:RT):sy tt G0 [] Tryd.f60.ntmps Tryd.f60.results.toList Q (fun it S=>R it (keepS [4,5,31,32,33] [4,5,29] S)) 1000 [.code (bodyOf Tryd.f60)] (entry [iI,.sl syS] (k,l,())) =
  ((0:Int)≤(0:Int) ∧
 (0:Int)<(l.length:Int) ∧
 bc (decide (k=(3:Int))) ((0:Int)≤(0:Int) ∧
 (0:Int)<(l.length:Int) ∧
 Q [.agg [.int .i64 k,.int .i64 (gtY l (0)).2.1,.int .i64 (l.length:Int),.int .u8 (gtY l (0)).2.2,.nils]] [(4,.var [.int .i64 k,.int .i64 (gtY l (0)).2.1,.int .i64 (l.length:Int),.int .u8 (gtY l (0)).2.2,.nils]),(5,.var [.int .i64 k,.int .i64 (gtY l (0)).2.1,.int .i64 (l.length:Int),.int .u8 (gtY l (0)).2.2,.nils])]) (bc (decide (k=(2:Int))) (bc (decide (k=(2:Int))) ((0:Int)≤(l.length:Int) ∧
 (l.length:Int)≤(l.length:Int) ∧
 (l.length:Int)<(2:Int) ^ (24:Nat) ∧
 (↑(1:Nat):Int)*(l.length:Int)≤(2:Int) ^ (48:Nat) ∧
 R (hd Tryd.f60 0) { env:=[(4,.ptr 4 0),(5,.ptr 5 0),(31,.sl syS l),(32,.int .i64 (l.length:Int)),(33,.int .i64 0)],blk:=[(4,.var [.int .i64 0,.int .i64 0,.int .i64 0,.int .u8 0,.nils]),(5,.var [.int .i64 k,.int .i64 (gtY l (0)).2.1,.int .i64 (l.length:Int),.int .u8 0,.win true uB 29 0 (l.length:Int).toNat]),(29,.row 5 uB (List.replicate (l.length:Int).toNat uB.dflt))] }) (Q [.agg [.int .i64 k,.int .i64 (gtY l (0)).2.1,.int .i64 (l.length:Int),.int .u8 0,.nils]] (mem_mk_m0 k l))) (bc (decide (k=(4:Int))) ((0:Int)≤(l.length:Int) ∧
 (l.length:Int)≤(l.length:Int) ∧
 (l.length:Int)<(2:Int) ^ (24:Nat) ∧
 (↑(1:Nat):Int)*(l.length:Int)≤(2:Int) ^ (48:Nat) ∧
 R (hd Tryd.f60 0) { env:=[(4,.ptr 4 0),(5,.ptr 5 0),(31,.sl syS l),(32,.int .i64 (l.length:Int)),(33,.int .i64 0)],blk:=[(4,.var [.int .i64 0,.int .i64 0,.int .i64 0,.int .u8 0,.nils]),(5,.var [.int .i64 k,.int .i64 (gtY l (0)).2.1,.int .i64 (l.length:Int),.int .u8 0,.win true uB 29 0 (l.length:Int).toNat]),(29,.row 5 uB (List.replicate (l.length:Int).toNat uB.dflt))] }) (Q [.agg [.int .i64 k,.int .i64 (gtY l (0)).2.1,.int .i64 (l.length:Int),.int .u8 0,.nils]] (mem_mk_m0 k l))))):=by kernel_rfl
end Go.Proofs.YticpkibnhakgbaaDoor
namespace Go.Proofs.YticpkibnhakgbaaDoor
open Go.Px Go.Ax
set_option maxRecDepth 100000
set_option maxRecDepth 100000
theorem vc_mkL (k a:Int) (b:List Int) (l:List SyT) (i:Nat) (Q:QT) (R:RT):sy tt G0 [] Tryd.f60.ntmps Tryd.f60.results.toList Q (fun it S=>R it (keepS [4,5,31,32,33] [4,5,29] S)) 1000 (hd Tryd.f60 0) ⟨[(4,.ptr 4 0),(5,.ptr 5 0),(31,.sl syS l),(32,.int .i64 l.length),(33,.int .i64 (i:Nat))],[(4,.var [.int .i64 0,.int .i64 0,.int .i64 0,.int .u8 0,.nils]),(5,.var [.int .i64 k,.int .i64 a,.int .i64 l.length,.int .u8 0,.win true uB 29 0 b.length]),(29,.row 5 uB b)]⟩ =
  (bc (decide ((i:Int)<(l.length:Int))) ((0:Int)≤(i:Int) ∧
 (i:Int)<(l.length:Int) ∧
 (0:Int)≤(i:Int) ∧
 (i:Int)<(b.length:Int) ∧
 0+(i:Int).toNat<b.length ∧
 R (hd Tryd.f60 0) { env:=[(4,.ptr 4 0),(5,.ptr 5 0),(31,.sl syS l),(32,.int .i64 (l.length:Int)),(33,.int .i64 (IntKind.i64.wrap ((i:Int)+(1:Int))))],blk:=[(4,.var [.int .i64 0,.int .i64 0,.int .i64 0,.int .u8 0,.nils]),(5,.var [.int .i64 k,.int .i64 a,.int .i64 (l.length:Int),.int .u8 0,.win true uB 29 0 b.length]),(29,.row 5 uB (b.set (0+(i:Int).toNat) (gtY l (i:Int).toNat).2.2))] }) (Q [.agg [.int .i64 k,.int .i64 a,.int .i64 (l.length:Int),.int .u8 0,.win true uB 29 0 b.length]] [(4,.var [.int .i64 k,.int .i64 a,.int .i64 (l.length:Int),.int .u8 0,.win true uB 29 0 b.length]),(5,.var [.int .i64 k,.int .i64 a,.int .i64 (l.length:Int),.int .u8 0,.win true uB 29 0 b.length]),(29,.row 5 uB b)])):=by kernel_rfl
theorem vc_mkE (k a:Int) (d:List Int) (l:List SyT) (i:Nat) (Q:QT) (R:RT):sy tt G0 [] Tryd.f60.ntmps Tryd.f60.results.toList Q (fun it S=>R it (keepS [4,5,31,32,33] [4,5,29] S)) 1000 (hd Tryd.f60 0) ⟨[(4,.ptr 4 0),(5,.ptr 5 0),(31,.sl syS l),(32,.int .i64 l.length),(33,.int .i64 (i:Nat))],[(4,.var [.int .i64 0,.int .i64 0,.int .i64 0,.int .u8 0,.nils]),(5,.var [.int .i64 k,.int .i64 a,.int .i64 l.length,.int .u8 0,.sl uB d])]⟩ =
  (bc (decide ((i:Int)<(l.length:Int))) ((0:Int)≤(i:Int) ∧
 (i:Int)<(l.length:Int) ∧
 (0:Int)≤(i:Int) ∧
 (i:Int)<(d.length:Int) ∧
 False) (Q [.agg [.int .i64 k,.int .i64 a,.int .i64 (l.length:Int),.int .u8 0,.sl uB d]] [(4,.var [.int .i64 k,.int .i64 a,.int .i64 (l.length:Int),.int .u8 0,.sl uB d]),(5,.var [.int .i64 k,.int .i64 a,.int .i64 (l.length:Int),.int .u8 0,.sl uB d])])):=by kernel_rfl
end Go.Proofs.YticpkibnhakgbaaDoor
namespace Go.Proofs.YticpkibnhakgbaaDoor
open Go.Px Go.Ax
set_option maxRecDepth 100000
attribute [local irreducible] Go.Px.sy Go.Px.syE
theorem cost_at {k:Int} (hk:kOK k):gt (iI.pair iI) costsL k.toNat=(hdC k,eaC k):=by
 rcases (show k=1∨k=2∨k=3∨k=4 by unfold kOK at hk;omega) with e | e | e | e <;> subst e <;> rfl
theorem beg_run (k:Int) (l:List SyT) (c o gk gn gc go:Int) (hp:preBg k l (gk,gn,gc,go)) (hb:boB (c,o) (gk,gn,gc,go)) (R:List Item→PS→Prop):sy tt G0 CBe Tryd.f64.ntmps Tryd.f64.results.toList (QC ctBg (k,l,(c,o),(gk,gn,gc,go),())) R 1000 [.code (bodyOf Tryd.f64)] (entry [iI,.sl syS,suS,liS] (k,l,(c,o),(gk,gn,gc,go),())):=by
 refine (vc_beg k l (c,o) (gk,gn,gc,go) _ _).mpr ?_
 have out:∀ a b d e,begL k l (c,o) (gk,gn,gc,go)=(a,b,d,e)→ctBg.out (k,l,(c,o),(gk,gn,gc,go),())=[SV.agg [.int .i64 a,.int .i64 b,.int .i64 d,.int .i64 e]]:=fun a b d e q=>congrArg (fun x:LiT=>[SV.agg [.int .i64 x.1,.int .i64 x.2.1,.int .i64 x.2.2.1,.int .i64 x.2.2.2]]) q
 obtain ⟨hk,h1,h2⟩:=hp
 obtain ⟨⟨b1,b2,b3,b4⟩,b5,b6,b7,b8⟩:=hb
 simp only at b1 b2 b3 b4 b5 b6 b7 b8 h2
 have hh:=hdC_b k
 have he:=eaC_b k
 have hk':0≤k∧k<5:=by unfold kOK at hk;omega
 rw[cost_at hk]
 simp only
 have w1:IntKind.i64.wrap (c+hdC k)=c+hdC k:=IntWalk.i64_in _ (by omega)
 have w2:IntKind.i64.wrap (c+hdC k+eaC k)=c+hdC k+eaC k:=IntWalk.i64_in _ (by omega)
 have w3:IntKind.i64.wrap (o+1)=o+1:=IntWalk.i64_in _ (by omega)
 have w4:IntKind.i64.wrap (gn+1)=gn+1:=IntWalk.i64_in _ (by omega)
 have w5:IntKind.i64.wrap (gc+eaC k)=gc+eaC k:=IntWalk.i64_in _ (by omega)
 rw[w1,w2,w3,w4,w5]
 refine ⟨by omega,by omega,trivial,bc_of (fun h=>?_) (fun h=>⟨hk'.1,hk'.2,bc_of (fun h3=>⟨by trivial,?_⟩) (fun h3=>⟨by omega,by omega,by omega,?_,trivial,bc_of (fun h4=>?_) (fun h4=>⟨trivial,bc_of (fun h5=>?_) (fun h5=>?_)⟩)⟩)⟩)⟩
 ·have h:canB k (gtY l 0)=false:=by simpa using h
  exact QC.flat (out _ _ _ _ (by unfold begL begF;rw[if_pos h];rfl)) rfl rfl
 ·have h:¬ canB k (gtY l 0)=false:=by
   have:(!canB k (gtY l 0))=false:=h
   simpa using this
  have h3:gn=0:=of_decide_eq_true h3
  exact QC.flat (out _ _ _ _ (by unfold begL begF;rw[if_neg h,if_pos (.inl h3)];rfl)) rfl rfl
 ·have h3:¬ gn=0:=of_decide_eq_false h3
  omega
 ·have h:¬ canB k (gtY l 0)=false:=by
   have:(!canB k (gtY l 0))=false:=h
   simpa using this
  have h4:(!goK k (gtY l 0) (gtY l 1))=true:=h4
  have h4:goK k (gtY l 0) (gtY l 1)=false:=by simpa using h4
  exact QC.flat (out _ _ _ _ (by unfold begL begF;rw[if_neg h,if_pos (.inr h4)];rfl)) rfl rfl
 ·have h:¬ canB k (gtY l 0)=false:=by
   have:(!canB k (gtY l 0))=false:=h
   simpa using this
  have h3:¬ gn=0:=of_decide_eq_false h3
  have h4:(!goK k (gtY l 0) (gtY l 1))=false:=h4
  have h4:goK k (gtY l 0) (gtY l 1)=true:=by simpa using h4
  have hz:¬ ((gk,gn,gc,go).2.1=0∨goK k (gtY l 0) (gtY l 1)=false):=by
   rw[h4];intro q;rcases q with q | q
   ·exact h3 q
   ·cases q
  have h5:betB (oneF k (c,o)) (moreF k (gk,gn,gc,go))=true:=h5
  exact QC.flat (out _ _ _ _ (by unfold begL begF;rw[if_neg h,if_neg hz,if_pos h5];rfl)) rfl rfl
 ·have h:¬ canB k (gtY l 0)=false:=by
   have:(!canB k (gtY l 0))=false:=h
   simpa using this
  have h3:¬ gn=0:=of_decide_eq_false h3
  have h4:(!goK k (gtY l 0) (gtY l 1))=false:=h4
  have h4:goK k (gtY l 0) (gtY l 1)=true:=by simpa using h4
  have hz:¬ ((gk,gn,gc,go).2.1=0∨goK k (gtY l 0) (gtY l 1)=false):=by
   rw[h4];intro q;rcases q with q | q
   ·exact h3 q
   ·cases q
  have h5:betB (oneF k (c,o)) (moreF k (gk,gn,gc,go))=false:=h5
  exact QC.flat (out _ _ _ _ (by unfold begL begF;rw[if_neg h,if_neg hz,if_neg (by rw[h5];decide)];rfl)) rfl rfl
theorem beg_held:Held Tryd.prog G0 64 ctBg:=Held.run cxBe (fn:=Tryd.f64) rfl rfl ⟨by decide,by decide⟩ fun ⟨k,l,⟨c,o⟩,⟨gk,gn,gc,go⟩,_⟩ hp=>beg_run k l c o gk gn gc go hp.1 hp.2 _
theorem mk_loop (k a:Int) (l:List SyT) (hl:l.length<16777216):∀ (n i:Nat) (b:List Int),l.length-i=n→i≤l.length→b.length=l.length→(∀ j,j<i→b[j]?=(l.map fun s=>s.2.2)[j]?) →
  GD 60 Tryd.f60 (fun rs _=>rs=[.agg [.int .i64 k,.int .i64 a,.int .i64 l.length,.int .u8 0,.sl uB (l.map fun s=>s.2.2)]]) (hd Tryd.f60 0) ⟨[(4,.ptr 4 0),(5,.ptr 5 0),(31,.sl syS l),(32,.int .i64 l.length),(33,.int .i64 (i:Nat))],[(4,.var [.int .i64 0,.int .i64 0,.int .i64 0,.int .u8 0,.nils]),(5,.var [.int .i64 k,.int .i64 a,.int .i64 l.length,.int .u8 0,.win true uB 29 0 b.length]),(29,.row 5 uB b)]⟩:=by
 intro n
 induction n with
 | zero=>
  intro i b hk hi hb hj
  have hi:i=l.length:=by omega
  subst hi
  have hbl:b=l.map fun s=>s.2.2:=by
   refine List.ext_getElem? fun j=>?_
   by_cases h:j<l.length
   ·exact hj j h
   ·rw[List.getElem?_eq_none (by omega),List.getElem?_eq_none (by rw[List.length_map];omega)]
  refine Good.frz (i:=29) (e:=uB) (et:=5) (xs:=b) rfl (fun c hc=>?_) ?_
  ·have hc:c∈[0+b.length≤b.length]:=hc
   rw[List.mem_singleton] at hc;subst hc;omega
  ·have e:GD 60 Tryd.f60 (fun rs _=>rs=[.agg [.int .i64 k,.int .i64 a,.int .i64 l.length,.int .u8 0,.sl uB (l.map fun s=>s.2.2)]]) (hd Tryd.f60 0) ⟨[(4,.ptr 4 0),(5,.ptr 5 0),(31,.sl syS l),(32,.int .i64 l.length),(33,.int .i64 (l.length:Nat))],[(4,.var [.int .i64 0,.int .i64 0,.int .i64 0,.int .u8 0,.nils]),(5,.var [.int .i64 k,.int .i64 a,.int .i64 l.length,.int .u8 0,.sl uB (winL uB 0 b.length b)])]⟩:=by
    refine sy_goK cx0 (vc_mkE k a (winL uB 0 b.length b) l l.length _ _) ?_
    rw[decide_eq_false (by omega),bc_f,winA,hbl]
   exact e.only ⟨rfl,rfl,rfl,rfl,rfl,trivial⟩ ⟨rfl,rfl,trivial⟩
 | succ n ih=>
  intro i b hk hi hb hj
  have hil:i<l.length:=by omega
  refine sy_goK cx0 (vc_mkL k a b l i _ _) ?_
  rw[decide_eq_true (show (i:Int)<(l.length:Int) by omega),bc_t,Int.toNat_natCast,gtY_at hil,IntWalk.i64_in ((i:Int)+1) (by omega),Nat.zero_add]
  refine ⟨by omega,by omega,by omega,by omega,by omega,?_⟩
  refine (ih (i+1) (b.set i l[i].2.2) (by omega) (by omega) (by rw[List.length_set];exact hb) (fun j h=>?_)).only ⟨rfl,rfl,rfl,rfl,rfl,trivial⟩ ⟨rfl,?_,rfl,trivial⟩
  ·rw[List.getElem?_set]
   by_cases hji:i=j
   ·subst hji
    rw[if_pos rfl,if_pos (by omega),List.getElem?_map,List.getElem?_eq_getElem hil];rfl
   ·rw[if_neg hji];exact hj j (by omega)
  ·rw[List.length_set];rfl
theorem mk_run (k:Int) (l:List SyT) (hp:preMk k l):GD 60 Tryd.f60 (QC ctMk (k,l,())) [.code (bodyOf Tryd.f60)] (entry [iI,.sl syS] (k,l,())):=by
 obtain ⟨hk,h0,h1⟩:=hp
 have dat:k=2∨k=4→GD 60 Tryd.f60 (QC ctMk (k,l,())) (hd Tryd.f60 0) ⟨[(4,.ptr 4 0),(5,.ptr 5 0),(31,.sl syS l),(32,.int .i64 l.length),(33,.int .i64 ((0:Nat):Int))],[(4,.var [.int .i64 0,.int .i64 0,.int .i64 0,.int .u8 0,.nils]),(5,.var [.int .i64 k,.int .i64 (gtY l 0).2.1,.int .i64 l.length,.int .u8 0,.win true uB 29 0 (List.replicate (l.length:Int).toNat (0:Int)).length]),(29,.row 5 uB (List.replicate (l.length:Int).toNat (0:Int)))]⟩:=fun hk2=>by
  refine (mk_loop k (gtY l 0).2.1 l h1 _ 0 (List.replicate (l.length:Int).toNat 0) rfl (by omega) (by rw[List.length_replicate,Int.toNat_natCast]) (fun j h=>by omega)).post fun rs blk hq=>QC.flat ?_ rfl (by rw[hq];rfl)
  rw[hq]
  show mdV (mdK k l)=_
  unfold mdK
  rw[if_neg (show ¬ k=3 by omega),if_pos hk2];rfl
 have room:(0:Int)≤(l.length:Int)∧(l.length:Int)≤(l.length:Int)∧(l.length:Int)<(2:Int) ^ (24:Nat)∧((1:Nat):Int)*(l.length:Int)≤(2:Int) ^ (48:Nat):=by
  refine ⟨by omega,by omega,?_,?_⟩
  ·show (l.length:Int)<16777216
   omega
  ·show (1:Int)*(l.length:Int)≤281474976710656
   omega
 refine sy_goK cx0 (vc_mk k l _ _) ⟨by omega,by omega,bc_of (fun h=>⟨by omega,by omega,?_⟩) (fun h=>bc_of (fun h2=>?_) (fun h2=>bc_of (fun h3=>?_) (fun h3=>?_)))⟩
 ·have h:=of_decide_eq_true h
  subst h
  refine QC.mt ?_ rfl
  show MtL _ (mdV (mdK 3 l)) _
  exact ⟨_,_,rfl,⟨_,rfl,_,_,rfl,rfl,_,_,rfl,rfl,_,_,rfl,rfl,_,_,rfl,rfl,_,_,rfl,.inr ⟨rfl,rfl⟩,rfl⟩,rfl⟩
 ·have h2':=of_decide_eq_true h2
  rw[h2,bc_t]
  refine ⟨room.1,room.2.1,room.2.2.1,room.2.2.2,(dat (.inl h2')).only ⟨rfl,rfl,rfl,rfl,rfl,trivial⟩ ⟨rfl,?_,rfl,trivial⟩⟩
  rw[List.length_replicate];rfl
 ·have h3':=of_decide_eq_true h3
  refine ⟨room.1,room.2.1,room.2.2.1,room.2.2.2,(dat (.inr h3')).only ⟨rfl,rfl,rfl,rfl,rfl,trivial⟩ ⟨rfl,?_,rfl,trivial⟩⟩
  rw[List.length_replicate];rfl
 ·have h:=of_decide_eq_false h
  have h2:=of_decide_eq_false h2
  have h3:=of_decide_eq_false h3
  unfold kOK at hk
  have hk1:k=1:=by omega
  subst hk1
  refine QC.mt ?_ rfl
  show MtL _ (mdV (mdK 1 l)) _
  exact ⟨_,_,rfl,⟨_,rfl,_,_,rfl,rfl,_,_,rfl,rfl,_,_,rfl,rfl,_,_,rfl,rfl,_,_,rfl,.inr ⟨rfl,rfl⟩,rfl⟩,rfl⟩
theorem mk_held:Held Tryd.prog G0 60 ctMk:=Held.of cx0 (fn:=Tryd.f60) rfl rfl ⟨by decide,by decide⟩ fun ⟨k,l,_⟩ hp=>mk_run k l hp
end Go.Proofs.YticpkibnhakgbaaDoor
namespace Go.Proofs.YticpkibnhakgbaaDoor
open Go.Px Go.Ax
set_option maxRecDepth 100000
def CBs:CV:=[(64,.inl ctBg),(65,.inl ctBet)]
theorem cxBs:CxOK Tryd.prog tt G0 CBs:=(cx0.cons isB_held (fn:=Tryd.f65) rfl rfl rfl).cons beg_held (fn:=Tryd.f64) rfl rfl rfl
abbrev gtL (l:List LiT) (i:Nat):LiT:=gt liS l i
set_option maxRecDepth 100000
theorem vc_bs (l:List SyT) (Q:QT) (R:RT):sy tt G0 CBs Tryd.f59.ntmps Tryd.f59.results.toList Q (fun it S=>R it (keepS [0,3,4,5,6] [4,10] S)) 1000 [.code (bodyOf Tryd.f59)] (entry [.sl syS] (l,())) =
  ((0:Int)≤IntKind.i64.wrap ((l.length:Int)+(1:Int)) ∧
 IntKind.i64.wrap ((l.length:Int)+(1:Int))≤IntKind.i64.wrap ((l.length:Int)+(1:Int)) ∧
 IntKind.i64.wrap ((l.length:Int)+(1:Int))<(2:Int) ^ (24:Nat) ∧
 (↑(32:Nat):Int)*IntKind.i64.wrap ((l.length:Int)+(1:Int))≤(2:Int) ^ (48:Nat) ∧
 R (hd Tryd.f59 0) { env:=[(0,.sl syS l),(3,.win true liS 10 0 (IntKind.i64.wrap ((l.length:Int)+(1:Int))).toNat),(4,.ptr 4 0),(5,.int .i64 (IntKind.i64.wrap ((l.length:Int)-(1:Int))))],blk:=[(4,.var [.arr (5:Nat) liS (Sh.arr (5:Nat) liS).dflt]),(10,.row 109 liS (List.replicate (IntKind.i64.wrap ((l.length:Int)+(1:Int))).toNat liS.dflt))] }):=by kernel_rfl
theorem vc_bsO (l:List SyT) (b bg:List LiT) (i:Int) (Q:QT) (R:RT):sy tt G0 CBs Tryd.f59.ntmps Tryd.f59.results.toList Q (fun it S=>R it (keepS [0,3,4,5,6] [4,10] S)) 1000 (hd Tryd.f59 0) ⟨[(0,.sl syS l),(3,.win true liS 10 0 b.length),(4,.ptr 4 0),(5,.int .i64 i)],[(4,.var [.arr 5 liS bg]),(10,.row 109 liS b)]⟩ =
  (bc (decide ((0:Int)≤i)) (R (hd Tryd.f59 1) { env:=[(0,.sl syS l),(3,.win true liS 10 0 b.length),(4,.ptr 4 0),(5,.int .i64 i),(6,.int .i64 1)],blk:=[(4,.var [.arr (5:Nat) liS bg]),(10,.row 109 liS b)] }) (Q [.win true liS 10 0 b.length] [(4,.var [.arr (5:Nat) liS bg]),(10,.row 109 liS b)])):=by kernel_rfl
theorem vc_bsI (l:List SyT) (b bg:List LiT) (i k:Int) (Q:QT) (R:RT):sy tt G0 CBs Tryd.f59.ntmps Tryd.f59.results.toList Q (fun it S=>R it (keepS [0,3,4,5,6] [4,10] S)) 1000 (hd Tryd.f59 1) ⟨[(0,.sl syS l),(3,.win true liS 10 0 b.length),(4,.ptr 4 0),(5,.int .i64 i),(6,.int .i64 k)],[(4,.var [.arr 5 liS bg]),(10,.row 109 liS b)]⟩ =
  (bc (decide (k≤(4:Int))) ((0:Int)≤i ∧
 i≤(l.length:Int) ∧
 (0:Int)≤IntKind.i64.wrap (i+(1:Int)) ∧
 IntKind.i64.wrap (i+(1:Int))<(b.length:Int) ∧
 0+(IntKind.i64.wrap (i+(1:Int))).toNat<b.length ∧
 (0:Int)≤k ∧
 k<(↑(5:Nat):Int) ∧
 k.toNat<(5:Nat) ∧
 ctBg.pre (k,List.drop i.toNat l,((gtL b (0+(IntKind.i64.wrap (i+(1:Int))).toNat)).2.2),(gtL bg k.toNat),()) ∧
 (0:Int)≤k ∧
 k<(↑(5:Nat):Int) ∧
 k.toNat<(5:Nat) ∧
 (0:Int)≤k ∧
 k<(↑(5:Nat):Int) ∧
 k.toNat<(5:Nat) ∧
 (0:Int)≤i ∧
 i<(b.length:Int) ∧
 0+i.toNat<b.length ∧
 ctBet.pre ((gtL (bg.set k.toNat (begL k (List.drop i.toNat l) ((gtL b (0+(IntKind.i64.wrap (i+(1:Int))).toNat)).2.2) (gtL bg k.toNat))) k.toNat),(gtL b (0+i.toNat)),()) ∧
 bc (betB (gtL (bg.set k.toNat (begL k (List.drop i.toNat l) ((gtL b (0+(IntKind.i64.wrap (i+(1:Int))).toNat)).2.2) (gtL bg k.toNat))) k.toNat) (gtL b (0+i.toNat))) ((0:Int)≤k ∧
 k<(↑(5:Nat):Int) ∧
 k.toNat<(5:Nat) ∧
 (0:Int)≤i ∧
 i<(b.length:Int) ∧
 0+i.toNat<b.length ∧
 R (hd Tryd.f59 1) { env:=[(0,.sl syS l),(3,.win true liS 10 0 b.length),(4,.ptr 4 0),(5,.int .i64 i),(6,.int .i64 (IntKind.i64.wrap (k+(1:Int))))],blk:=[(4,.var [.arr (5:Nat) liS (bg.set k.toNat (begL k (List.drop i.toNat l) ((gtL b (0+(IntKind.i64.wrap (i+(1:Int))).toNat)).2.2) (gtL bg k.toNat)))]),(10,.row 109 liS (b.set (0+i.toNat) (gtL (bg.set k.toNat (begL k (List.drop i.toNat l) ((gtL b (0+(IntKind.i64.wrap (i+(1:Int))).toNat)).2.2) (gtL bg k.toNat))) k.toNat)))] }) (R (hd Tryd.f59 1) { env:=[(0,.sl syS l),(3,.win true liS 10 0 b.length),(4,.ptr 4 0),(5,.int .i64 i),(6,.int .i64 (IntKind.i64.wrap (k+(1:Int))))],blk:=[(4,.var [.arr (5:Nat) liS (bg.set k.toNat (begL k (List.drop i.toNat l) ((gtL b (0+(IntKind.i64.wrap (i+(1:Int))).toNat)).2.2) (gtL bg k.toNat)))]),(10,.row 109 liS b)] })) (R (hd Tryd.f59 0) { env:=[(0,.sl syS l),(3,.win true liS 10 0 b.length),(4,.ptr 4 0),(5,.int .i64 (IntKind.i64.wrap (i-(1:Int)))),(6,.int .i64 k)],blk:=[(4,.var [.arr (5:Nat) liS bg]),(10,.row 109 liS b)] })):=by kernel_rfl
end Go.Proofs.YticpkibnhakgbaaDoor
namespace Go.Proofs.YticpkibnhakgbaaDoor
open Go.Px Go.Ax
set_option maxRecDepth 100000
attribute [local irreducible] Go.Px.sy Go.Px.syE
def bT (l:List SyT) (m:Nat):List LiT:=(List.range (l.length+1)).map fun j=>if m≤j then bst (l.drop j) else zLi
theorem bT_len (l:List SyT) (m:Nat):(bT l m).length=l.length+1:=by simp[bT]
theorem bT_set (l:List SyT) (i:Nat) (hi:i≤l.length):bT l i=(bT l (i+1)).set i (bst (l.drop i)):=by
 refine List.ext_getElem? fun j=>?_
 rw[List.getElem?_set]
 by_cases h:i=j
 ·subst h
  rw[if_pos rfl,if_pos (by rw[bT_len];omega)]
  simp[bT,show i<l.length+1 by omega]
 ·rw[if_neg h]
  unfold bT
  by_cases hj:j<l.length+1
  ·simp only[List.getElem?_map,List.getElem?_range hj,Option.map_some]
   by_cases h2:i≤j
   ·rw[if_pos h2,if_pos (by omega)]
   ·rw[if_neg h2,if_neg (by omega)]
  ·simp[show l.length+1≤j by omega]
theorem bT_z (l:List SyT) (i:Nat) (hi:i≤l.length):(bT l (i+1)).set i zLi=bT l (i+1):=by
 refine List.ext_getElem? fun j=>?_
 rw[List.getElem?_set]
 by_cases h:i=j
 ·subst h
  rw[if_pos rfl,if_pos (by rw[bT_len];omega)]
  simp[bT,show i<l.length+1 by omega,show ¬ (i+1≤i) by omega]
 ·rw[if_neg h]
theorem bT_get (l:List SyT) (m j:Nat) (hj:j≤l.length) (hm:m≤j):gtL (bT l m) j=bst (l.drop j):=by
 show ((bT l m)[j]?).getD _=_
 simp[bT,show j<l.length+1 by omega,hm]
theorem bT_rep (l:List SyT):List.replicate (l.length+1) (liS.dflt:LiT)=bT l l.length:=by
 refine List.ext_getElem? fun j=>?_
 by_cases hj:j<l.length+1
 ·simp only[bT,List.getElem?_replicate,List.getElem?_map,List.getElem?_range hj,Option.map_some,if_pos hj]
  by_cases h:l.length≤j
  ·rw[if_pos h,List.drop_eq_nil_of_le h];rfl
  ·rw[if_neg h];rfl
 ·simp[bT,show l.length+1≤j by omega]
def bgL (r:List SyT):List LiT:=[zLi,beg r 1,beg r 2,beg r 3,beg r 4]
def bestsL (l:List SyT):List LiT:=bT l 0
def preBs (l:List SyT):Prop:=l.length≤65536
def ctBs:Ctr:=⟨[.sl syS],fun x=>preBs x.1,fun x=>[.win true liS 0 0 (bestsL x.1).length],fun x=>[.row 109 liS (bestsL x.1)]⟩
section
variable (l:List SyT) (hl:l.length≤65536)
abbrev BQ:List SV→List (Nat × LB)→Prop:=QC ctBs (l,())
abbrev bsO (b bg:List LiT) (i:Int):PS:=⟨[(0,.sl syS l),(3,.win true liS 10 0 b.length),(4,.ptr 4 0),(5,.int .i64 i)],[(4,.var [.arr 5 liS bg]),(10,.row 109 liS b)]⟩
abbrev bsI (b bg:List LiT) (i k:Int):PS:=⟨[(0,.sl syS l),(3,.win true liS 10 0 b.length),(4,.ptr 4 0),(5,.int .i64 i),(6,.int .i64 k)],[(4,.var [.arr 5 liS bg]),(10,.row 109 liS b)]⟩
include hl
theorem bs_step (i:Nat) (hi:i<l.length) (k:Nat) (hk:1≤k∧k≤4) (b bg:List LiT) (hb:b.length=l.length+1) (hbg:bg.length=5) (c:LiT) (h1:gtL b (i+1)=bst (l.drop (i+1))) (hg:gtL bg k=beg (l.drop (i+1)) k)
  (nx:GD 59 Tryd.f59 (BQ l) (hd Tryd.f59 1) (bsI l (b.set i (upd c (beg (l.drop i) k))) (bg.set k (beg (l.drop i) k)) i ((k+1:Nat):Int))) :
  GD 59 Tryd.f59 (BQ l) (hd Tryd.f59 1) (bsI l (b.set i c) bg i (k:Nat)):=by
 have kk:kOK (k:Int):=by unfold kOK;omega
 have hd:l.drop i=l[i]::l.drop (i+1):=List.drop_eq_getElem_cons hi
 have rl:(l.drop (i+1)).length=l.length-(i+1):=List.length_drop ..
 have ra:=ok_all (l.drop (i+1)) (by omega)
 have rb:=bst_bo (l.drop (i+1)) (by omega)
 have eb:begL k (l.drop i) (bst (l.drop (i+1))).2.2 (beg (l.drop (i+1)) k)=beg (l.drop i) k:=by
  rw[hd,beg_cons]
  unfold begL
  rw[gtY_z,gtY_s l[i] (l.drop (i+1)) 0]
 refine sy_goK cxBs (vc_bsI l (b.set i c) bg i k _ _) ?_
 have w1:IntKind.i64.wrap ((i:Int)+1)=((i+1:Nat):Int):=by rw[IntWalk.i64_in _ (by omega)];omega
 have w2:IntKind.i64.wrap ((k:Int)+1)=((k+1:Nat):Int):=by rw[IntWalk.i64_in _ (by omega)];omega
 have g1:gtL (b.set i c) (0+(i+1))=bst (l.drop (i+1)):=by
  rw[← h1,Nat.zero_add]
  show ((b.set i c)[i+1]?).getD _=(b[i+1]?).getD _
  rw[List.getElem?_set_ne (by omega)]
 have g2:∀ x,gtL (bg.set k x) k=x:=fun x=>by
  show ((bg.set k x)[k]?).getD _=_
  rw[List.getElem?_set_self (by omega)];rfl
 have g3:gtL (b.set i c) (0+i)=c:=by
  rw[Nat.zero_add]
  show ((b.set i c)[i]?).getD _=_
  rw[List.getElem?_set_self (by omega)];rfl
 rw[w1,w2,decide_eq_true (show (k:Int)≤4 by omega),bc_t]
 simp only[Int.toNat_natCast]
 rw[g1,hg,eb,g2,g3]
 have pl:(l.drop i).length=l.length-i:=List.length_drop ..
 have pre1:preBg k (l.drop i) (beg (l.drop (i+1)) k):=by
  refine ⟨kk,by omega,?_⟩
  rcases ra.1 k kk with h | ⟨_,n,n1,n2,n3,_⟩
  ·left;rw[h.2];rfl
  ·right
   have:=fitN_le k (l.drop (i+1))
   omega
 have pre2:boB (bst (l.drop (i+1))).2.2 (beg (l.drop (i+1)) k):=by
  unfold boL at rb
  refine ⟨by omega,?_⟩
  rcases ra.1 k kk with h | ⟨_,n,n1,n2,n3,_,_,h⟩
  ·rw[h.2];exact (show 0≤(0:Int)∧(0:Int)<16777216∧0≤(0:Int)∧(0:Int)<16777216 by decide)
  ·have:=fitN_le k (l.drop (i+1))
   unfold boL at h
   omega
 have bl:(b.set i c).length=l.length+1:=by rw[List.length_set];exact hb
 refine ⟨by omega,by omega,by omega,by omega,by omega,by omega,by omega,by omega,⟨pre1,pre2⟩,by omega,by omega,by omega,by omega,by omega,by omega,by omega,by omega,by omega,trivial,bc_of (fun h=>?_) (fun h=>?_)⟩
 ·have eu:upd c (beg (l.drop i) k)=beg (l.drop i) k:=by unfold upd;rw[if_pos h]
  rw[eu] at nx
  refine ⟨by omega,by omega,by omega,by omega,by omega,by omega,?_⟩
  rw[Nat.zero_add,List.set_set]
  exact nx.only ⟨rfl,by simp only[List.length_set];rfl,rfl,rfl,rfl,trivial⟩ ⟨rfl,rfl,trivial⟩
 ·have eu:upd c (beg (l.drop i) k)=c:=by unfold upd;rw[if_neg (by rw[h];decide)]
  rw[eu] at nx
  exact nx.only ⟨rfl,rfl,rfl,rfl,rfl,trivial⟩ ⟨rfl,rfl,trivial⟩
theorem bs_loop:∀ (n:Nat),n≤l.length→GD 59 Tryd.f59 (BQ l) (hd Tryd.f59 0) (bsO l (bT l n) (bgL (l.drop n)) ((n:Int)-1)):=by
 intro n
 induction n with
 | zero=>
  intro hn
  refine sy_goK cxBs (vc_bsO l (bT l 0) (bgL (l.drop 0)) (((0:Nat):Int)-1) _ _) ?_
  rw[decide_eq_false (by omega),bc_f]
  exact qc_row (e:=liS) (et:=109) (a:=10) (xs:=bestsL l) rfl rfl rfl rfl rfl
 | succ n ih=>
  intro hn
  have e:((n+1:Nat):Int)-1=(n:Int):=by omega
  rw[e]
  refine sy_goK cxBs (vc_bsO l (bT l (n+1)) (bgL (l.drop (n+1))) n _ _) ?_
  rw[decide_eq_true (show (0:Int)≤(n:Int) by omega),bc_t]
  have fin:GD 59 Tryd.f59 (BQ l) (hd Tryd.f59 1) (bsI l (bT l n) (bgL (l.drop n)) n 5):=by
   refine sy_goK cxBs (vc_bsI l (bT l n) (bgL (l.drop n)) n 5 _ _) ?_
   rw[decide_eq_false (by omega),bc_f,IntWalk.i64_in ((n:Int)-1) (by omega)]
   exact (ih (by omega)).only ⟨rfl,rfl,rfl,rfl,trivial⟩ ⟨rfl,rfl,trivial⟩
  have hb:=bT_len l (n+1)
  have h1:=bT_get l (n+1) (n+1) (by omega) (Nat.le_refl _)
  rw[bT_set l n (by omega)] at fin
  have hd:l.drop n=l[n]::l.drop (n+1):=List.drop_eq_getElem_cons hn
  have up:bst (l.drop n)=upd (upd (upd (upd zLi (beg (l.drop n) 1)) (beg (l.drop n) 2)) (beg (l.drop n) 3)) (beg (l.drop n) 4):=by rw[hd];rfl
  rw[up] at fin
  have s4:=bs_step l hl n hn 4 ⟨by omega,by omega⟩ (bT l (n+1)) [zLi,beg (l.drop n) 1,beg (l.drop n) 2,beg (l.drop n) 3,beg (l.drop (n+1)) 4] hb rfl _ h1 rfl (fin.only ⟨rfl,by simp only[List.length_set];rfl,rfl,rfl,rfl,trivial⟩ ⟨rfl,rfl,trivial⟩)
  have s3:=bs_step l hl n hn 3 ⟨by omega,by omega⟩ (bT l (n+1)) [zLi,beg (l.drop n) 1,beg (l.drop n) 2,beg (l.drop (n+1)) 3,beg (l.drop (n+1)) 4] hb rfl _ h1 rfl (s4.only ⟨rfl,by simp only[List.length_set];rfl,rfl,rfl,rfl,trivial⟩ ⟨rfl,rfl,trivial⟩)
  have s2:=bs_step l hl n hn 2 ⟨by omega,by omega⟩ (bT l (n+1)) [zLi,beg (l.drop n) 1,beg (l.drop (n+1)) 2,beg (l.drop (n+1)) 3,beg (l.drop (n+1)) 4] hb rfl _ h1 rfl (s3.only ⟨rfl,by simp only[List.length_set];rfl,rfl,rfl,rfl,trivial⟩ ⟨rfl,rfl,trivial⟩)
  have s1:=bs_step l hl n hn 1 ⟨by omega,by omega⟩ (bT l (n+1)) [zLi,beg (l.drop (n+1)) 1,beg (l.drop (n+1)) 2,beg (l.drop (n+1)) 3,beg (l.drop (n+1)) 4] hb rfl zLi h1 rfl (s2.only ⟨rfl,by simp only[List.length_set];rfl,rfl,rfl,rfl,trivial⟩ ⟨rfl,rfl,trivial⟩)
  rw[bT_z l n (by omega)] at s1
  exact s1.only ⟨rfl,rfl,rfl,rfl,rfl,trivial⟩ ⟨rfl,rfl,trivial⟩
theorem bs_run:GD 59 Tryd.f59 (BQ l) [.code (bodyOf Tryd.f59)] (entry [.sl syS] (l,())):=by
 refine sy_goK cxBs (vc_bs l _ _) ?_
 rw[IntWalk.i64_in ((l.length:Int)+1) (by omega),IntWalk.i64_in ((l.length:Int)-1) (by omega)]
 have e:((l.length:Int)+1).toNat=l.length+1:=by omega
 rw[e]
 refine ⟨by omega,by omega,?_,?_,?_⟩
 ·show (l.length:Int)+1<16777216
  omega
 ·show (32:Int)*((l.length:Int)+1)≤281474976710656
  omega
 ·have h:=bs_loop l hl l.length (Nat.le_refl _)
  rw[List.drop_length] at h
  rw[bT_rep l]
  exact h.only ⟨rfl,by rw[bT_len];rfl,rfl,rfl,trivial⟩ ⟨rfl,rfl,trivial⟩
end
theorem bs_held:Held Tryd.prog G0 59 ctBs:=Held.of cxBs (fn:=Tryd.f59) rfl rfl ⟨by decide,by decide⟩ fun ⟨l,_⟩ hp=>bs_run l hp
end Go.Proofs.YticpkibnhakgbaaDoor
namespace Go.Proofs.YticpkibnhakgbaaDoor
open Go.Px Go.Ax
set_option maxRecDepth 100000
def CCh:CV:=[(59,.inl ctBs),(60,.inl ctMk)]
theorem cxCh:CxOK Tryd.prog tt G0 CCh:=(cx0.cons mk_held (fn:=Tryd.f60) rfl rfl rfl).cons bs_held (fn:=Tryd.f59) rfl rfl rfl
set_option maxRecDepth 100000
theorem vc_ch (l:List SyT) (Q:QT) (R:RT):sy tt G0 CCh Tryd.f50.ntmps Tryd.f50.results.toList Q (fun it S=>R it (keepS [0,3,4,5] [3,8,14,1032768] S)) 1000 [.code (bodyOf Tryd.f50)] (entry [.sl syS] (l,())) =
  (ctBs.pre (l,()) ∧
 (0:Int)≤(0:Int) ∧
 (0:Int)<(↑(bestsL l).length:Int) ∧
 0+0<(bestsL l).length ∧
 (0:Int)≤(0:Int) ∧
 (0:Int)≤(gtL (bestsL l) (0+0)).2.2.2 ∧
 (gtL (bestsL l) (0+0)).2.2.2<(2:Int) ^ (24:Nat) ∧
 (↑(56:Nat):Int)*(gtL (bestsL l) (0+0)).2.2.2≤(2:Int) ^ (48:Nat) ∧
 R (hd Tryd.f50 0) { env:=[(0,.sl syS l),(3,.win true liS 1032768 0 (bestsL l).length),(4,.win true opS 14 0 (0:Nat)),(5,.int .i64 0)],blk:=[(14,.row 69 opS (List.replicate (0) opS.dflt)),(1032768,.row 109 liS (bestsL l))] }):=by kernel_rfl
theorem vc_chL (l:List SyT) (b:List LiT) (o:List OpT) (a:Nat) (Q:QT) (R:RT):sy tt G0 CCh Tryd.f50.ntmps Tryd.f50.results.toList Q (fun it S=>R it (keepS [0,3,4,5] [14,46,1032768] S)) 1000 (hd Tryd.f50 0) ⟨[(0,.sl syS l),(3,.win true liS 1032768 0 b.length),(4,.win true opS 14 0 o.length),(5,.int .i64 (a:Nat))],[(14,.row 69 opS o),(1032768,.row 109 liS b)]⟩ =
  (bc (decide ((a:Int)<(l.length:Int))) ((0:Int)≤(a:Int) ∧
 (a:Int)<(b.length:Int) ∧
 0+(a:Int).toNat<b.length ∧
 (0:Int)≤(a:Int) ∧
 (a:Int)<(b.length:Int) ∧
 0+(a:Int).toNat<b.length ∧
 (0:Int)≤(a:Int) ∧
 (a:Int)<IntKind.i64.wrap ((a:Int)+(gtL b (0+(a:Int).toNat)).2.1) ∧
 IntKind.i64.wrap ((a:Int)+(gtL b (0+(a:Int).toNat)).2.1)≤IntKind.i64.wrap ((a:Int)+(gtL b (0+(a:Int).toNat)).2.1) ∧
 IntKind.i64.wrap ((a:Int)+(gtL b (0+(a:Int).toNat)).2.1)≤(l.length:Int) ∧
 IntKind.i64.wrap ((a:Int)+(gtL b (0+(a:Int).toNat)).2.1)<(1099511627776:Int) ∧
 ctMk.pre ((gtL b (0+(a:Int).toNat)).1,Px.part l (some (a:Int)) (some (IntKind.i64.wrap ((a:Int)+(gtL b (0+(a:Int).toNat)).2.1))),()) ∧
 0+(1:Nat)≤([(mdK (gtL b (0+(a:Int).toNat)).1 (Px.part l (some (a:Int)) (some (IntKind.i64.wrap ((a:Int)+(gtL b (0+(a:Int).toNat)).2.1)))))]:List opS.D).length ∧
 o.length=o.length ∧
 (0:Nat)=(0:Nat) ∧
 o.length+(([(mdK (gtL b (0+(a:Int).toNat)).1 (Px.part l (some (a:Int)) (some (IntKind.i64.wrap ((a:Int)+(gtL b (0+(a:Int).toNat)).2.1)))))]:List opS.D)).length<(2:Nat) ^ (30:Nat) ∧
 (56:Nat)≤(2:Nat) ^ (10:Nat) ∧
 (0:Int)≤(a:Int) ∧
 (a:Int)<(b.length:Int) ∧
 0+(a:Int).toNat<b.length ∧
 R (hd Tryd.f50 0) { env:=[(0,.sl syS l),(3,.win true liS 1032768 0 b.length),(4,.win true opS 46 0 (o.length+(([(mdK (gtL b (0+(a:Int).toNat)).1 (Px.part l (some (a:Int)) (some (IntKind.i64.wrap ((a:Int)+(gtL b (0+(a:Int).toNat)).2.1)))))]:List opS.D)).length)),(5,.int .i64 (IntKind.i64.wrap ((a:Int)+(gtL b (0+(a:Int).toNat)).2.1)))],blk:=[(46,.row 69 opS (o++([(mdK (gtL b (0+(a:Int).toNat)).1 (Px.part l (some (a:Int)) (some (IntKind.i64.wrap ((a:Int)+(gtL b (0+(a:Int).toNat)).2.1)))))]:List opS.D))),(1032768,.row 109 liS b)] }) (Q [.win true opS 14 0 o.length] [(14,.row 69 opS o),(1032768,.row 109 liS b)])):=by kernel_rfl
theorem vc_chE (l:List SyT) (b:List LiT) (o:List OpT) (a:Nat) (Q:QT) (R:RT):sy tt G0 CCh Tryd.f50.ntmps Tryd.f50.results.toList Q (fun it S=>R it (keepS [0,3,4,5] [14,1032768] S)) 1000 (hd Tryd.f50 0) ⟨[(0,.sl syS l),(4,.sl opS o),(5,.int .i64 (a:Nat))],[]⟩ =
  (bc (decide ((a:Int)<(l.length:Int))) False (Q [.sl opS o] [])):=by kernel_rfl
end Go.Proofs.YticpkibnhakgbaaDoor
namespace Go.Proofs.YticpkibnhakgbaaDoor
open Go.Px Go.Ax
set_option maxRecDepth 100000
attribute [local irreducible] Go.Px.sy Go.Px.syE
def ctCh:Ctr:=⟨[.sl syS],fun x=>preBs x.1,fun x=>[.sl opS (chL x.1)],fun _=>[]⟩
theorem part_at (l:List SyT) (a n:Nat):Px.part l (some (a:Int)) (some ((a+n:Nat):Int))=(l.drop a).take n:=by
 simp only[Px.part,Int.toNat_natCast]
 first
  | (rw[List.drop_take];congr 1;omega)
  | (rw[List.take_drop];done)
  | simp[List.drop_take]
section
variable (l:List SyT) (hl:l.length≤65536)
include hl
theorem ch_end (o:List OpT) (a:Nat) (ha:a=l.length):GD 50 Tryd.f50 (OQ o) (hd Tryd.f50 0) ⟨[(0,.sl syS l),(3,.win true liS 1032768 0 (bestsL l).length),(4,.win true opS 14 0 o.length),(5,.int .i64 (a:Nat))],[(14,.row 69 opS o),(1032768,.row 109 liS (bestsL l))]⟩:=by
 have _:=hl
 subst ha
 refine Good.frz (i:=14) (e:=opS) (et:=69) (xs:=o) rfl (fun c hc=>?_) ?_
 ·have hc:c∈[0+o.length≤o.length]:=hc
  rw[List.mem_singleton] at hc;subst hc;omega
 ·have e:GD 50 Tryd.f50 (OQ o) (hd Tryd.f50 0) ⟨[(0,.sl syS l),(4,.sl opS (winL opS 0 o.length o)),(5,.int .i64 (l.length:Nat))],[]⟩:=by
   refine sy_goK cxCh (vc_chE l [] (winL opS 0 o.length o) l.length _ _) ?_
   rw[decide_eq_false (by omega),bc_f,winA]
  exact e.only ⟨rfl,rfl,rfl,trivial⟩ trivial
theorem ch_loop:∀ (f a:Nat) (o:List OpT),l.length-a≤f→a≤l.length→o.length≤a →
  GD 50 Tryd.f50 (OQ (o++chF f (l.drop a))) (hd Tryd.f50 0) ⟨[(0,.sl syS l),(3,.win true liS 1032768 0 (bestsL l).length),(4,.win true opS 14 0 o.length),(5,.int .i64 (a:Nat))],[(14,.row 69 opS o),(1032768,.row 109 liS (bestsL l))]⟩:=by
 intro f
 induction f with
 | zero=>
  intro a o hf ha ho
  rw[chF,List.append_nil]
  exact ch_end l hl o a (by omega)
 | succ f ih=>
  intro a o hf ha ho
  by_cases he:a=l.length
  ·rw[chF,if_pos (List.drop_eq_nil_of_le (by omega)),List.append_nil]
   exact ch_end l hl o a he
  ·have dl:(l.drop a).length=l.length-a:=List.length_drop ..
   have hne:l.drop a≠[]:=fun h=>by rw[h] at dl;simp at dl;omega
   obtain ⟨hb,n,n1,n2,n3,_⟩:=bst_ne (l:=l.drop a) (by omega) hne
   have hfit:=fitN_le (bst (l.drop a)).1 (l.drop a)
   have bl:(bestsL l).length=l.length+1:=bT_len l 0
   have nx:=ih (a+n) (o++[mdK (bst (l.drop a)).1 ((l.drop a).take n)]) (by omega) (by omega) (by rw[List.length_append,List.length_singleton];omega)
   have ec:chF (f+1) (l.drop a)=mdK (bst (l.drop a)).1 ((l.drop a).take n)::chF f (l.drop (a+n)):=by rw[chF,if_neg hne,n1,Int.toNat_natCast,List.drop_drop]
   rw[ec]
   rw[List.append_assoc,List.singleton_append] at nx
   refine sy_goK cxCh (vc_chL l (bestsL l) o a _ _) ?_
   have g1:gtL (bestsL l) (0+a)=bst (l.drop a):=by rw[Nat.zero_add];exact bT_get l 0 a ha (Nat.zero_le _)
   have w:IntKind.i64.wrap ((a:Int)+(n:Int))=((a+n:Nat):Int):=by rw[IntWalk.i64_in _ (by omega)];omega
   rw[decide_eq_true (show (a:Int)<(l.length:Int) by omega),bc_t,Int.toNat_natCast,g1,n1,w,part_at l a n]
   have tl:((l.drop a).take n).length=n:=by rw[List.length_take];omega
   refine ⟨by omega,by omega,by omega,by omega,by omega,by omega,by omega,by omega,by omega,by omega,by omega,(show preMk (bst (l.drop a)).1 ((l.drop a).take n) from ⟨hb,by omega,by omega⟩),Nat.le_refl 1,rfl,rfl,?_,by decide,by omega,by omega,by omega,?_⟩
   ·show o.length+1<2 ^ 30
    omega
   ·exact nx.onlyR [(14,46)] rfl ⟨rfl,rfl,by rw[List.length_append];rfl,rfl,trivial⟩ ⟨rfl,rfl,trivial⟩
theorem ch_run:GD 50 Tryd.f50 (QC ctCh (l,())) [.code (bodyOf Tryd.f50)] (entry [.sl syS] (l,())):=by
 refine sy_goK cxCh (vc_ch l _ _) ?_
 have bl:(bestsL l).length=l.length+1:=bT_len l 0
 have g0:gtL (bestsL l) (0+0)=bst l:=by
  have:=bT_get l 0 0 (Nat.zero_le _) (Nat.le_refl _)
  rw[List.drop_zero] at this
  exact this
 have hb:=bst_bo l hl
 unfold boL at hb
 rw[g0]
 refine ⟨hl,by omega,by omega,by omega,by omega,hb.2.2.1,?_,?_,?_⟩
 ·show (bst l).2.2.2<16777216
  omega
 ·show (56:Int)*(bst l).2.2.2≤281474976710656
  omega
 ·have h:=ch_loop l hl l.length 0 [] (by omega) (Nat.zero_le _) (Nat.zero_le _)
  rw[List.drop_zero,List.nil_append] at h
  exact (h.post fun rs blk hq=>QC.flat (by rw[hq];rfl) rfl (by rw[hq];rfl)).only ⟨rfl,rfl,rfl,rfl,trivial⟩ ⟨rfl,rfl,trivial⟩
end
theorem ch_held:Held Tryd.prog G0 50 ctCh:=Held.of cxCh (fn:=Tryd.f50) rfl rfl ⟨by decide,by decide⟩ fun ⟨l,_⟩ hp=>ch_run l hp
end Go.Proofs.YticpkibnhakgbaaDoor
namespace Go.Proofs.YticpkibnhakgbaaDoor
open Go.Px Go.Ax
set_option maxRecDepth 100000
def poV (l:List SyT) (m:Int):PaT × Int:=if 4096<(chL l).length then ((false,0,0,[]),2) else ((false,m,l.length,chL l),0)
def ctPo:Ctr:=⟨[.sl syS,iI],fun x=>preBs x.1,fun x=>[paV (poV x.1 x.2.1).1,.int .i64 (poV x.1 x.2.1).2],fun _=>[]⟩
def cpV (l:List SyT) (m:Int):PaT × Int:=if (ofV l m).2=60 then ((false,0,0,[]),60) else poV l m
def ctCp:Ctr:=⟨[.sl syS,iI],fun x=>List.length x.1<16777216,fun x=>[paV (cpV x.1 x.2.1).1,.int .i64 (cpV x.1 x.2.1).2],fun _=>[]⟩
def foV (p:PaT):PaT × Int:=if (symV p).2=0 then (if (poV (symV p).1 p.2.1).2=0 then ((p.1,(poV (symV p).1 p.2.1).1.2),0) else ((false,0,0,[]),(poV (symV p).1 p.2.1).2)) else ((false,0,0,[]),(symV p).2)
def ctFo:Ctr:=⟨[paS],fun _=>True,fun x=>[paV (foV x.1).1,.int .i64 (foV x.1).2],fun _=>[]⟩
def CPo:CV:=[(50,.inl ctCh)]
theorem cxPo:CxOK Tryd.prog tt G0 CPo:=cx0.cons ch_held (fn:=Tryd.f50) rfl rfl rfl
set_option maxRecDepth 100000
theorem vc_po (l:List SyT) (m:Int) (Q:QT) (R:RT):sy tt G0 CPo Tryd.f38.ntmps Tryd.f38.results.toList Q R 1000 [.code (bodyOf Tryd.f38)] (entry [.sl syS,iI] (l,m,())) =
  (ctCh.pre (l,()) ∧
 bc (decide ((4096:Int)<(↑(chL l).length:Int))) (Q [.agg [.bool false,.int .i64 0,.int .i64 0,.nils],.int .i64 2] [(4,.var [.bool false,.int .i64 0,.int .i64 0,.nils])]) (Q [.agg [.bool false,.int .i64 m,.int .i64 (l.length:Int),.sl opS (chL l)],.int .i64 0] [(4,.var [.bool false,.int .i64 m,.int .i64 (l.length:Int),.sl opS (chL l)])])):=by kernel_rfl
theorem vc_cp (l:List SyT) (m:Int) (Q:QT) (R:RT):sy tt G0 [(46,.inl ctOfA),(38,.inl ctPo)] Tryd.f36.ntmps Tryd.f36.results.toList Q R 1000 [.code (bodyOf Tryd.f36)] (entry [.sl syS,iI] (l,m,())) =
  (ctOfA.pre (l,m,()) ∧
 bc (decide ((ofV l m).2=(60:Int))) (Q [.agg [.bool false,.int .i64 0,.int .i64 0,.nils],.int .i64 (ofV l m).2] [(4,.var [.bool false,.int .i64 0,.int .i64 0,.nils]),(6,.var [.bool (ofV l m).1.1,.int .i64 (ofV l m).1.2.1,.int .i64 (ofV l m).1.2.2.1,.sl opS (ofV l m).1.2.2.2])]) (ctPo.pre (l,m,()) ∧
 Q [.agg [.bool (poV l m).1.1,.int .i64 (poV l m).1.2.1,.int .i64 (poV l m).1.2.2.1,.sl opS (poV l m).1.2.2.2],.int .i64 (poV l m).2] [(4,.var [.bool (poV l m).1.1,.int .i64 (poV l m).1.2.1,.int .i64 (poV l m).1.2.2.1,.sl opS (poV l m).1.2.2.2]),(6,.var [.bool (ofV l m).1.1,.int .i64 (ofV l m).1.2.1,.int .i64 (ofV l m).1.2.2.1,.sl opS (ofV l m).1.2.2.2])])):=by kernel_rfl
theorem vc_fo (li:Bool) (m o:Int) (l:List OpT) (Q:QT) (R:RT):sy tt G0 [(24,.inl ctSym),(38,.inl ctPo)] Tryd.f20.ntmps Tryd.f20.results.toList Q R 1000 [.code (bodyOf Tryd.f20)] (entry [paS] ((li,m,o,l),())) =
  (ctSym.pre ((li,m,o,l),()) ∧
 bc (decide ((symV (li,m,o,l)).2≠(0:Int))) (Q [.agg [.bool false,.int .i64 0,.int .i64 0,.nils],.int .i64 (symV (li,m,o,l)).2] [(1,.var [.bool li,.int .i64 m,.int .i64 o,.sl opS l]),(2,.var [.bool false,.int .i64 0,.int .i64 0,.nils]),(1036864,.row 66 syS (symV (li,m,o,l)).1)]) (0+(symV (li,m,o,l)).1.length≤(symV (li,m,o,l)).1.length ∧
 0+(symV (li,m,o,l)).1.length≤(symV (li,m,o,l)).1.length ∧
 0+(symV (li,m,o,l)).1.length≤(symV (li,m,o,l)).1.length ∧
 0+(symV (li,m,o,l)).1.length≤(symV (li,m,o,l)).1.length ∧
 0+(symV (li,m,o,l)).1.length≤(symV (li,m,o,l)).1.length ∧
 ctPo.pre (winL syS 0 (symV (li,m,o,l)).1.length (symV (li,m,o,l)).1,m,()) ∧
 bc (decide ((poV (winL syS 0 (symV (li,m,o,l)).1.length (symV (li,m,o,l)).1) m).2≠(0:Int))) (Q [.agg [.bool false,.int .i64 0,.int .i64 0,.nils],.int .i64 (poV (winL syS 0 (symV (li,m,o,l)).1.length (symV (li,m,o,l)).1) m).2] [(1,.var [.bool li,.int .i64 m,.int .i64 o,.sl opS l]),(2,.var [.bool false,.int .i64 0,.int .i64 0,.nils]),(6,.var [.bool (poV (winL syS 0 (symV (li,m,o,l)).1.length (symV (li,m,o,l)).1) m).1.1,.int .i64 (poV (winL syS 0 (symV (li,m,o,l)).1.length (symV (li,m,o,l)).1) m).1.2.1,.int .i64 (poV (winL syS 0 (symV (li,m,o,l)).1.length (symV (li,m,o,l)).1) m).1.2.2.1,.sl opS (poV (winL syS 0 (symV (li,m,o,l)).1.length (symV (li,m,o,l)).1) m).1.2.2.2])]) (Q [.agg [.bool li,.int .i64 (poV (winL syS 0 (symV (li,m,o,l)).1.length (symV (li,m,o,l)).1) m).1.2.1,.int .i64 (poV (winL syS 0 (symV (li,m,o,l)).1.length (symV (li,m,o,l)).1) m).1.2.2.1,.sl opS (poV (winL syS 0 (symV (li,m,o,l)).1.length (symV (li,m,o,l)).1) m).1.2.2.2],.int .i64 0] [(1,.var [.bool li,.int .i64 m,.int .i64 o,.sl opS l]),(2,.var [.bool li,.int .i64 (poV (winL syS 0 (symV (li,m,o,l)).1.length (symV (li,m,o,l)).1) m).1.2.1,.int .i64 (poV (winL syS 0 (symV (li,m,o,l)).1.length (symV (li,m,o,l)).1) m).1.2.2.1,.sl opS (poV (winL syS 0 (symV (li,m,o,l)).1.length (symV (li,m,o,l)).1) m).1.2.2.2]),(6,.var [.bool li,.int .i64 (poV (winL syS 0 (symV (li,m,o,l)).1.length (symV (li,m,o,l)).1) m).1.2.1,.int .i64 (poV (winL syS 0 (symV (li,m,o,l)).1.length (symV (li,m,o,l)).1) m).1.2.2.1,.sl opS (poV (winL syS 0 (symV (li,m,o,l)).1.length (symV (li,m,o,l)).1) m).1.2.2.2])]))):=by kernel_rfl
end Go.Proofs.YticpkibnhakgbaaDoor
namespace Go.Proofs.YticpkibnhakgbaaDoor
open Go.Px Go.Ax
set_option maxRecDepth 100000
attribute [local irreducible] Go.Px.sy Go.Px.syE
theorem zero_mt (z:Int):MtL (fun _=>none) [paV (false,0,0,[]),.int .i64 z] [.agg [.bool false,.int .i64 0,.int .i64 0,.nils],.int .i64 z]:=
 ⟨_,_,rfl,⟨_,rfl,_,_,rfl,rfl,_,_,rfl,rfl,_,_,rfl,rfl,_,_,rfl,.inr ⟨rfl,rfl⟩,rfl⟩,_,_,rfl,rfl,rfl⟩
theorem po_run (l:List SyT) (m:Int) (hp:l.length≤65536) (R:List Item→PS→Prop):sy tt G0 CPo Tryd.f38.ntmps Tryd.f38.results.toList (QC ctPo (l,m,())) R 1000 [.code (bodyOf Tryd.f38)] (entry [.sl syS,iI] (l,m,())):=by
 refine (vc_po l m _ _).mpr ⟨hp,bc_of (fun h=>?_) (fun h=>?_)⟩
 ·have h:(4096:Int)<((chL l).length:Int):=of_decide_eq_true h
  have hv:poV l m=((false,0,0,[]),2):=by unfold poV;rw[if_pos (by omega)]
  exact QC.mt (by show MtL _ [paV (poV l m).1,.int .i64 (poV l m).2] _;rw[hv];exact zero_mt _) rfl
 ·have h:¬ (4096:Int)<((chL l).length:Int):=of_decide_eq_false h
  have hv:poV l m=(((false,m,(l.length:Int),chL l):PaT),(0:Int)):=by unfold poV;rw[if_neg (by omega)]
  exact QC.flat (by show [paV (poV l m).1,.int .i64 (poV l m).2]=_;rw[hv];rfl) rfl rfl
theorem po_held:Held Tryd.prog G0 38 ctPo:=Held.run cxPo (fn:=Tryd.f38) rfl rfl ⟨by decide,by decide⟩ fun ⟨l,m,_⟩ hp=>po_run l m hp _
theorem ofV_60 {l:List SyT} {m:Int} (h:(ofV l m).2≠60):szB m=true∧szB l.length=true∧l.all (sOK m)=true:=by
 unfold ofV at h
 split at h
 ·assumption
 ·exact absurd rfl h
theorem ofV_60' {l:List SyT} {m:Int} (h:szB m=true∧szB l.length=true∧l.all (sOK m)=true):(ofV l m).2≠60:=by
 unfold ofV
 rw[if_pos h]
 split
 ·exact (show (2:Int)≠60 by decide)
 ·exact (show (0:Int)≠60 by decide)
theorem szB_le {n:Int} (h:szB n=true):0≤n∧n≤65536:=by simpa [szB] using h
theorem cxCp:CxOK Tryd.prog tt G0 [(46,.inl ctOfA),(38,.inl ctPo)]:=(cx0.cons po_held (fn:=Tryd.f38) rfl rfl rfl).cons ofA_held (fn:=Tryd.f46) rfl rfl rfl
theorem cp_run (l:List SyT) (m:Int) (hp:l.length<16777216) (R:List Item→PS→Prop):sy tt G0 [(46,.inl ctOfA),(38,.inl ctPo)] Tryd.f36.ntmps Tryd.f36.results.toList (QC ctCp (l,m,())) R 1000 [.code (bodyOf Tryd.f36)] (entry [.sl syS,iI] (l,m,())):=by
 refine (vc_cp l m _ _).mpr ⟨hp,bc_of (fun h=>?_) (fun h=>?_)⟩
 ·have h:(ofV l m).2=60:=of_decide_eq_true h
  have hv:cpV l m=((false,0,0,[]),60):=by unfold cpV;rw[if_pos h]
  rw[h]
  exact QC.mt (by show MtL _ [paV (cpV l m).1,.int .i64 (cpV l m).2] _;rw[hv];exact zero_mt _) rfl
 ·have h:¬ (ofV l m).2=60:=of_decide_eq_false h
  have hz:=szB_le (ofV_60 h).2.1
  have hv:cpV l m=poV l m:=by unfold cpV;rw[if_neg h]
  exact ⟨(show l.length≤65536 by omega),QC.flat (by show [paV (cpV l m).1,.int .i64 (cpV l m).2]=_;rw[hv];rfl) rfl rfl⟩
theorem cp_held:Held Tryd.prog G0 36 ctCp:=Held.run cxCp (fn:=Tryd.f36) rfl rfl ⟨by decide,by decide⟩ fun ⟨l,m,_⟩ hp=>cp_run l m hp _
theorem symV_le (p:PaT):(symV p).1.length≤65536:=by
 unfold symV
 split
 ·rename_i h
  obtain ⟨h1,h2,h3,_⟩:=chkV_ok h
  have:=symF_len h1
  show (symF p.2.2.2).length≤65536
  omega
 ·exact Nat.zero_le _
theorem cxFo:CxOK Tryd.prog tt G0 [(24,.inl ctSym),(38,.inl ctPo)]:=(cx0.cons po_held (fn:=Tryd.f38) rfl rfl rfl).cons sym_held (fn:=Tryd.f24) rfl rfl rfl
theorem fo_run (li:Bool) (m o:Int) (l:List OpT) (R:List Item→PS→Prop):sy tt G0 [(24,.inl ctSym),(38,.inl ctPo)] Tryd.f20.ntmps Tryd.f20.results.toList (QC ctFo ((li,m,o,l),())) R 1000 [.code (bodyOf Tryd.f20)] (entry [paS] ((li,m,o,l),())):=by
 refine (vc_fo li m o l _ _).mpr ⟨trivial,bc_of (fun h=>?_) (fun h=>?_)⟩
 ·have h:(symV (li,m,o,l)).2≠0:=of_decide_eq_true h
  have hv:foV (li,m,o,l)=((false,0,0,[]),(symV (li,m,o,l)).2):=by unfold foV;rw[if_neg h]
  exact QC.mt (by show MtL _ [paV (foV (li,m,o,l)).1,.int .i64 (foV (li,m,o,l)).2] _;rw[hv];exact zero_mt _) rfl
 ·have h:¬ (symV (li,m,o,l)).2≠0:=of_decide_eq_false h
  have h:(symV (li,m,o,l)).2=0:=by omega
  rw[winA]
  refine ⟨by omega,by omega,by omega,by omega,by omega,symV_le _,bc_of (fun h2=>?_) (fun h2=>?_)⟩
  ·have h2:(poV (symV (li,m,o,l)).1 m).2≠0:=of_decide_eq_true h2
   have hv:foV (li,m,o,l)=((false,0,0,[]),(poV (symV (li,m,o,l)).1 m).2):=by unfold foV;rw[if_pos h,if_neg h2]
   exact QC.mt (by show MtL _ [paV (foV (li,m,o,l)).1,.int .i64 (foV (li,m,o,l)).2] _;rw[hv];exact zero_mt _) rfl
  ·have h2:¬ (poV (symV (li,m,o,l)).1 m).2≠0:=of_decide_eq_false h2
   have h2:(poV (symV (li,m,o,l)).1 m).2=0:=by omega
   have hv:foV (li,m,o,l)=((li,(poV (symV (li,m,o,l)).1 m).1.2),0):=by unfold foV;rw[if_pos h,if_pos h2]
   exact QC.flat (by show [paV (foV (li,m,o,l)).1,.int .i64 (foV (li,m,o,l)).2]=_;rw[hv];rfl) rfl rfl
theorem fo_held:Held Tryd.prog G0 20 ctFo:=Held.run cxFo (fn:=Tryd.f20) rfl rfl ⟨by decide,by decide⟩ fun ⟨⟨li,m,o,l⟩,_⟩ _=>fo_run li m o l _
end Go.Proofs.YticpkibnhakgbaaDoor
namespace Go.Proofs.YticpkibnhakgbaaDoor
open Go.Px Go.Ax
set_option maxRecDepth 100000
set_option maxRecDepth 100000
end Go.Proofs.YticpkibnhakgbaaDoor
namespace Go.Proofs.YticpkibnhakgbaaDoor
open Go.Px Go.Ax
set_option maxRecDepth 100000
attribute [local irreducible] Go.Px.sy Go.Px.syE
end Go.Proofs.YticpkibnhakgbaaDoor
namespace Go.Proofs.YticpkibnhakgbaaDoor
open Go.Px Go.Ax
set_option maxRecDepth 100000
set_option maxRecDepth 100000
end Go.Proofs.YticpkibnhakgbaaDoor
namespace Go.Proofs.YticpkibnhakgbaaDoor
end Go.Proofs.YticpkibnhakgbaaDoor
namespace Go.Proofs.YticpkibnhakgbaaDoor
open Go.Px Go.Ax
set_option maxRecDepth 100000
set_option maxRecDepth 100000
end Go.Proofs.YticpkibnhakgbaaDoor
namespace Go.Proofs.YticpkibnhakgbaaDoor
open Go.Px Go.Ax
set_option maxRecDepth 100000
attribute [local irreducible] Go.Px.sy Go.Px.syE
abbrev gI3 (w:List Int) (i:Nat):Int:=gt (Sh.int .i32) w i
def preW (w:List Int):Prop:=∀ j,-2147483648≤gI3 w j∧gI3 w j<2147483648
theorem chk60 {m N:Int}:∀ {l:List OpT} {left i:Int},(chkF m N l left i).2=0∨(chkF m N l left i).2=60
 | [],left,i=>by
  simp only[chkF]
  split
  ·exact .inr rfl
  ·exact .inl rfl
 | x::l,left,i=>by
  simp only[chkF]
  split
  ·exact .inr rfl
  ·split
   ·exact .inr rfl
   ·exact chk60
theorem chkV60 (p:PaT):(chkV p).2=0∨(chkV p).2=60:=by
 unfold chkV
 split
 ·exact chk60
 ·exact .inr rfl
theorem bad_fo {p:PaT} (h:lenS p.2.2.2≠p.2.2.1):symV p=([],60)∧foV p=((false,0,0,[]),60):=by
 have hc:(chkV p).2≠0:=fun q=>h (chkV_ok q).2.1
 have h6:(chkV p).2=60:=by rcases chkV60 p with q | q;exact absurd q hc;exact q
 have hs:symV p=([],60):=by unfold symV;rw[if_neg hc,h6]
 refine ⟨hs,?_⟩
 unfold foV
 rw[hs];rfl
section
variable (z:Int) (l4:List (List Int)) (w:List Int) (h6:preM6 z l4) (hw:preW w)
include h6 hw
end
end Go.Proofs.YticpkibnhakgbaaDoor
namespace Go.Proofs.YticpkibnhakgbaaDoor
open Go.Px Go.Ax
set_option maxRecDepth 100000
set_option maxRecDepth 100000
end Go.Proofs.YticpkibnhakgbaaDoor
namespace Go.Proofs.YticpkibnhakgbaaDoor
open Go.Px Go.Ax
set_option maxRecDepth 100000
attribute [local irreducible] Go.Px.sy Go.Px.syE
theorem poV_ok {s:List SyT} {m:Int} (hr:∀ x∈s,sOK m x=true) (h0:0≤m) (h1:m≤65536) (hl:s.length≤4096):poV s m=((false,m,(s.length:Int),chL s),0)∧symF (chL s)=s∧(∀ x∈chL s,isRB x m=true)∧costS (chL s)=cst s∧(chL s).length≤4096 ∧
  (chkV (false,m,(s.length:Int),chL s)).2=0:=by
 obtain ⟨c1,c2,c3,c4⟩:=ch_ok (m:=m) (by omega) s.length s (Nat.le_refl _) (by omega) hr
 have hb:=bst_bo s (by omega)
 unfold boL at hb
 have hlen:(chL s).length≤4096:=by
  show (chF s.length s).length≤4096
  have:oct s=(bst s).2.2.2:=rfl
  omega
 have hs:=symF_len c2
 rw[c1] at hs
 refine ⟨?_,c1,c2,c3,hlen,?_⟩
 ·unfold poV
  rw[if_neg (by omega)]
 ·have:=chkV_of (li:=false) (o:=(s.length:Int)) h0 h1 (by omega) hlen c2 hs.symm
  rw[this]
theorem cpV_ok {s:List SyT} {m:Int} (hr:∀ x∈s,sOK m x=true) (h0:0≤m) (h1:m≤65536) (hl:s.length≤4096):cpV s m=((false,m,(s.length:Int),chL s),0):=by
 unfold cpV
 rw[if_neg (ofV_60' ⟨by simp[szB];omega,by simp[szB];omega,by rw[List.all_eq_true];exact hr⟩)]
 exact (poV_ok hr h0 h1 hl).1
end Go.Proofs.YticpkibnhakgbaaDoor
namespace Go.Proofs.YticpkibnhakgbaaDoor
open Go.Px Go.Ax
end Go.Proofs.YticpkibnhakgbaaDoor
namespace Go.Proofs.YticpkibnhakgbaaDoor
open Go.Px Go.Ax
set_option maxRecDepth 100000
set_option maxRecDepth 100000
end Go.Proofs.YticpkibnhakgbaaDoor
namespace Go.Proofs.YticpkibnhakgbaaDoor
open Go.Px Go.Ax
set_option maxRecDepth 100000
attribute [local irreducible] Go.Px.sy Go.Px.syE
def preFt (k:Int) (l:List SyT):Prop:=kOK k∧l.length≤65536∧∃ m:Int,m<16777216∧∀ s∈l,sOK m s=true
def ctFt:Ctr:=⟨[iI,.sl syS],fun x=>preFt x.1 x.2.1,fun x=>[.int .i64 (fitN x.1 x.2.1:Nat)],fun _=>[]⟩
def preKN (k n:Int):Prop:=kOK k∧0≤n∧n≤65536
def ctPr:Ctr:=⟨[iI,iI],fun x=>preKN x.1 x.2.1,fun x=>[.int .i64 (hdC x.1+eaC x.1*x.2.1)],fun _=>[]⟩
end Go.Proofs.YticpkibnhakgbaaDoor
namespace Go.Proofs.YticpkibnhakgbaaDoor
open Go.Px Go.Ax
set_option maxRecDepth 100000
set_option maxRecDepth 100000
end Go.Proofs.YticpkibnhakgbaaDoor
namespace Go.Proofs.YticpkibnhakgbaaDoor
open Go.Px Go.Ax
set_option maxRecDepth 100000
attribute [local irreducible] Go.Px.sy Go.Px.syE
section
variable (a b:Int) (l:List SyT) (hl:l.length<16777216)
include hl
end
end Go.Proofs.YticpkibnhakgbaaDoor
namespace Go.Proofs.YticpkibnhakgbaaDoor
open Go.Px Go.Ax
set_option maxRecDepth 100000
set_option maxRecDepth 100000
end Go.Proofs.YticpkibnhakgbaaDoor
namespace Go.Proofs.YticpkibnhakgbaaDoor
open Go.Px Go.Ax
set_option maxRecDepth 100000
attribute [local irreducible] Go.Px.sy Go.Px.syE
def preLi (l:List SyT):Prop:=l.length≤65536∧∃ m:Int,m<16777216∧∀ s∈l,sOK m s=true
section
variable (l:List SyT) (hp:preLi l)
include hp
end
end Go.Proofs.YticpkibnhakgbaaDoor
namespace Go.Proofs.YticpkibnhakgbaaDoor
open Go.Px Go.Ax
set_option maxRecDepth 100000
set_option maxRecDepth 100000
end Go.Proofs.YticpkibnhakgbaaDoor
namespace Go.Proofs.YticpkibnhakgbaaDoor
open Go.Px Go.Ax
set_option maxRecDepth 100000
attribute [local irreducible] Go.Px.sy Go.Px.syE
section
variable (li:Bool) (m o:Int) (l:List OpT) (hc:(chkV (li,m,o,l)).2=0)
include hc
end
end Go.Proofs.YticpkibnhakgbaaDoor
namespace Go.Proofs.YticpkibnhakgbaaDoor
open Go.Px Go.Ax
set_option maxRecDepth 100000
set_option maxRecDepth 100000
end Go.Proofs.YticpkibnhakgbaaDoor
namespace Go.Proofs.YticpkibnhakgbaaDoor
open Go.Px Go.Ax
set_option maxRecDepth 100000
attribute [local irreducible] Go.Px.sy Go.Px.syE
theorem elO_sOK {x:OpT} {m:Int} (h:isRB x m=true) (h0:0≤m) (hm:m<16777216) {k:Nat} (hk:(k:Int)<x.2.2.1):sOK m (elO x.1.toNat x k)=true:=by
 have pp:=isRB_part h ⟨h0,hm⟩
 rcases (isRB_kind h).1 with e | e | e | e
 ·rw[e]
  have pp:=pp (.inl e)
  show sOK m (true,IntKind.i64.wrap (x.2.1+(k:Int)),0)=true
  rw[IntWalk.i64_in _ (by omega)]
  simp[sOK];omega
 ·rw[e]
  have pp:=pp (.inr e)
  show sOK m (true,IntKind.i64.wrap (x.2.1+(k:Int)),gtB x.2.2.2.2 k)=true
  rw[IntWalk.i64_in _ (by omega)]
  simp[sOK];omega
 ·rw[e];rfl
 ·rw[e];rfl
theorem sym_sOK {m:Int} (h0:0≤m) (hm:m<16777216) {l:List OpT} (hr:∀ x∈l,isRB x m=true):∀ s∈symF l,sOK m s=true:=fun s hs=>by
 obtain ⟨x,hx,k,hk,e⟩:=sym_mem hr s hs
 rw[e]
 exact elO_sOK (hr x hx) h0 hm hk
theorem chkV_in {p:PaT} (h:(chkV p).2=0):0≤p.2.1∧p.2.1≤65536:=by
 unfold chkV at h
 split at h
 ·rename_i q;exact szB_le q.1
 ·cases h
theorem symV_ok {p:PaT} (h:(symV p).2=0):(chkV p).2=0∧(symV p).1=symF p.2.2.2:=by
 unfold symV at h ⊢
 split at h
 ·rename_i q;rw[if_pos q];exact ⟨q,rfl⟩
 ·rename_i q;exact absurd h q
theorem symV_right {p:PaT} (h:(symV p).2=0):(∀ s∈(symV p).1,sOK p.2.1 s=true)∧(0≤p.2.1∧p.2.1≤65536)∧((symV p).1.length:Int)=p.2.2.1:=by
 obtain ⟨h1,h2⟩:=symV_ok h
 obtain ⟨hr,hs,ho,hl⟩:=chkV_ok h1
 have hi:=chkV_in h1
 rw[h2]
 exact ⟨sym_sOK hi.1 (by omega) hr,hi,by rw[symF_len hr,hs]⟩
end Go.Proofs.YticpkibnhakgbaaDoor
namespace Go.Proofs.YticpkibnhakgbaaDoor
open Go.Px Go.Ax
set_option maxRecDepth 100000
def thE (a:List SyT) (s:SyT):SyT:=if s.1=true then ((gtY a s.2.1.toNat).1,(gtY a s.2.1.toNat).2.1,IntKind.u8.wrap ((gtY a s.2.1.toNat).2.2+s.2.2)) else (false,0,s.2.2)
def thOK (n:Nat) (s:SyT):Bool := !s.1 || (decide (0≤s.2.1)&&decide (s.2.1<n))
def thL (a b:List SyT):List SyT:=b.map (thE a)
def thV (a b:List SyT):List SyT × Int:=if b.all (thOK a.length)=true then (thL a b,0) else ([],61)
abbrev zP:PaT:=(false,0,0,[])
def coV (p q:PaT):PaT × Int:=
 if (symV p).2≠0 then (zP,(symV p).2) else if (symV q).2≠0 then (zP,(symV q).2) else
 if p.1≠q.1 then (zP,62) else if p.2.2.1≠q.2.1 then (zP,61) else
 if (cpV (thL (symV p).1 (symV q).1) p.2.1).2≠0 then (zP,(cpV (thL (symV p).1 (symV q).1) p.2.1).2) else ((p.1,(cpV (thL (symV p).1 (symV q).1) p.2.1).1.2),0)
def alF:PaT × Int→List PaT→PaT × Int
 | r,[]=>r
 | r,q::l=>if (coV r.1 q).2≠0 then coV r.1 q else alF (coV r.1 q) l
def allV:List PaT→PaT × Int
 | []=>(zP,1)
 | p::l=>if (foV p).2≠0 then (zP,(foV p).2) else alF (foV p) l
def byL (s:List SyT):Prop:=∀ x∈s,0≤x.2.2∧x.2.2<256
theorem thL_len (a b:List SyT):(thL a b).length=b.length:=by simp[thL]
theorem gtY_mem {a:List SyT} {i:Nat} (h:i<a.length):gtY a i∈a:=by
 rw[gtY_at h];exact List.getElem_mem h
theorem sOK_th {n:Nat} {s:SyT} (h:sOK n s=true):thOK n s=true:=by
 unfold sOK at h;unfold thOK
 split at h
 ·rw[h];simp
 ·rename_i q;simp[q]
theorem thOK_lt {n:Nat} {s:SyT} (h:thOK n s=true) (hs:s.1=true):0≤s.2.1∧s.2.1.toNat<n:=by
 unfold thOK at h
 rw[hs] at h
 simp only[Bool.not_true,Bool.false_or,Bool.and_eq_true,decide_eq_true_eq] at h
 omega
theorem thE_sOK {a:List SyT} {m:Int} {s:SyT} (ha:∀ x∈a,sOK m x=true) (hs:sOK a.length s=true):sOK m (thE a s)=true:=by
 unfold thE
 split
 ·rename_i h
  have h1:=thOK_lt (sOK_th hs) h
  have h2:=ha _ (gtY_mem h1.2)
  unfold sOK at h2 ⊢
  exact h2
 ·simp[sOK]
theorem thL_sOK {a b:List SyT} {m:Int} (ha:∀ x∈a,sOK m x=true) (hb:∀ x∈b,sOK a.length x=true):∀ x∈thL a b,sOK m x=true:=fun x hx=>by
 obtain ⟨s,hs,e⟩:=List.mem_map.1 hx
 rw[← e];exact thE_sOK ha (hb s hs)
theorem thV_ok {a b:List SyT} (hb:∀ x∈b,sOK a.length x=true):thV a b=(thL a b,0):=by
 unfold thV
 rw[if_pos (List.all_eq_true.2 fun x hx=>sOK_th (hb x hx))]
abbrev nfP (li:Bool) (m:Int) (s:List SyT):PaT:=(li,m,(s.length:Int),chL s)
theorem nf_ok {s:List SyT} {m:Int} (li:Bool) (hr:∀ x∈s,sOK m x=true) (h0:0≤m) (h1:m≤65536) (hl:s.length≤4096):(chkV (nfP li m s)).2=0∧symF (chL s)=s∧symV (nfP li m s)=(s,0):=by
 obtain ⟨q1,q2,q3,q4,q5,q6⟩:=poV_ok hr h0 h1 hl
 have q6:(chkV (nfP li m s)).2=0:=q6
 refine ⟨q6,q2,?_⟩
 unfold symV
 rw[if_pos q6]
 exact Prod.ext q2 rfl
theorem sy_ok {p:PaT} (h:(chkV p).2=0):symV p=(symF p.2.2.2,0):=by unfold symV;rw[if_pos h]
theorem fo_nf {p:PaT} (h:(chkV p).2=0) (hs:p.2.2.1≤4096):foV p=(nfP p.1 p.2.1 (symF p.2.2.2),0):=by
 obtain ⟨h1,h2,h3⟩:=symV_right (p:=p) (by rw[sy_ok h])
 rw[sy_ok h] at h1 h3
 have h1:∀ s∈symF p.2.2.2,sOK p.2.1 s=true:=h1
 have h3:((symF p.2.2.2).length:Int)=p.2.2.1:=h3
 obtain ⟨q1,_⟩:=poV_ok h1 h2.1 h2.2 (by omega)
 unfold foV
 rw[sy_ok h]
 simp only[q1]
 rfl
theorem co_nf {p q:PaT} (hp:(chkV p).2=0) (hq:(chkV q).2=0) (hl:p.1=q.1) (ho:p.2.2.1=q.2.1) (hs:q.2.2.1≤4096) :
  coV p q=(nfP p.1 p.2.1 (thL (symF p.2.2.2) (symF q.2.2.2)),0):=by
 obtain ⟨a1,a2,a3⟩:=symV_right (p:=p) (by rw[sy_ok hp])
 obtain ⟨b1,b2,b3⟩:=symV_right (p:=q) (by rw[sy_ok hq])
 rw[sy_ok hp] at a1 a3
 rw[sy_ok hq] at b1 b3
 have a3:((symF p.2.2.2).length:Int)=p.2.2.1:=a3
 have b3:((symF q.2.2.2).length:Int)=q.2.2.1:=b3
 have c1:=cpV_ok (m:=p.2.1) (thL_sOK a1 (b:=symF q.2.2.2) (fun x hx=>by rw[a3,ho];exact b1 x hx)) a2.1 a2.2 (by rw[thL_len];omega)
 unfold coV
 rw[sy_ok hp,sy_ok hq]
 rw[if_neg (by simp),if_neg (by simp),if_neg (by simpa using hl),if_neg (by simpa using ho)]
 simp only[c1]
 rfl
def syC:List SyT→List PaT→List SyT
 | s,[]=>s
 | s,q::l=>syC (thL s (symF q.2.2.2)) l
def chn (li:Bool):Int→List PaT→Prop
 | _,[]=>True
 | o,q::l=>(chkV q).2=0∧q.1=li∧o=q.2.1∧q.2.2.1≤4096∧chn li q.2.2.1 l
theorem sy_right {q:PaT} (h:(chkV q).2=0):(∀ s∈symF q.2.2.2,sOK q.2.1 s=true)∧(0≤q.2.1∧q.2.1≤65536)∧((symF q.2.2.2).length:Int)=q.2.2.1:=by
 have:=symV_right (p:=q) (by rw[sy_ok h])
 rw[sy_ok h] at this
 exact this
theorem syC_ok {m:Int} {li:Bool}:∀ {l:List PaT} {s:List SyT},(∀ x∈s,sOK m x=true)→s.length≤4096→chn li s.length l→(∀ x∈syC s l,sOK m x=true)∧(syC s l).length≤4096
 | [],s,h,h2,_=>⟨h,h2⟩
 | q::l,s,h,h2,hc=>by
  obtain ⟨c1,c2,c3,c4,c5⟩:=hc
  obtain ⟨r1,r2,r3⟩:=sy_right c1
  refine syC_ok (li:=li) (l:=l) (s:=thL s (symF q.2.2.2)) (thL_sOK h fun x hx=>by rw[c3];exact r1 x hx) (by rw[thL_len];omega) ?_
  rw[thL_len,r3];exact c5
theorem al_nf {m:Int} {li:Bool} (h0:0≤m) (h1:m≤65536):∀ {l:List PaT} {s:List SyT},(∀ x∈s,sOK m x=true)→s.length≤4096→chn li s.length l→alF (nfP li m s,0) l=(nfP li m (syC s l),0)
 | [],s,h,h2,_=>rfl
 | q::l,s,h,h2,hc=>by
  obtain ⟨c1,c2,c3,c4,c5⟩:=hc
  obtain ⟨r1,r2,r3⟩:=sy_right c1
  obtain ⟨n1,n2,n3⟩:=nf_ok li h h0 h1 h2
  have e:=co_nf n1 c1 (show li=q.1 from c2.symm) c3 c4
  rw[show symF (nfP li m s).2.2.2=s from n2] at e
  rw[alF,show (nfP li m s,(0:Int)).1=nfP li m s from rfl,e,if_neg (by simp)]
  refine al_nf h0 h1 (l:=l) (s:=thL s (symF q.2.2.2)) (thL_sOK h fun x hx=>by rw[c3];exact r1 x hx) (by rw[thL_len];omega) ?_
  rw[thL_len,r3];exact c5
theorem all_nf {p:PaT} {l:List PaT} (h:(chkV p).2=0) (hs:p.2.2.1≤4096) (hc:chn p.1 p.2.2.1 l):allV (p::l)=(nfP p.1 p.2.1 (syC (symF p.2.2.2) l),0):=by
 obtain ⟨r1,r2,r3⟩:=sy_right h
 rw[allV,fo_nf h hs,if_neg (by simp)]
 exact al_nf r2.1 r2.2 r1 (by omega) (by rw[r3];exact hc)
end Go.Proofs.YticpkibnhakgbaaDoor
namespace Go.Proofs.YticpkibnhakgbaaDoor
open Go.Px Go.Ax
set_option maxRecDepth 100000
theorem gtB_rg {d:List Int} (h:∀ v∈d,0≤v∧v<256) (k:Nat):0≤gtB d k∧gtB d k<256:=by
 by_cases hk:k<d.length
 ·rw[gtB_at hk];exact h _ (List.getElem_mem hk)
 ·have:gtB d k=0:=by
   show gt uB _ _=_
   unfold gt
   rw[List.getElem?_eq_none (by omega)];rfl
  rw[this];decide
theorem datO_rg (x:List Int) (k n:Int):∀ v∈datO x k n,0≤v∧v<256:=fun v hv=>by
 unfold datO at hv
 split at hv
 ·unfold datA at hv
  obtain ⟨j,_,e⟩:=List.mem_map.1 hv
  rw[← e]
  unfold elA
  generalize gtB x 3*_=t
  simp[IntKind.wrap,IntKind.bits,IntKind.signed];omega
 ·cases hv
theorem opV_rg {x:List Int} (hx:preB4 x) (m:Int):(0≤(opV x m).2.2.2.1∧(opV x m).2.2.2.1<256)∧∀ v∈(opV x m).2.2.2.2,0≤v∧v<256:=by
 unfold opV
 split
 ·split
  ·exact ⟨⟨Int.le_refl 0,(show (0:Int)<256 by decide)⟩,fun v hv=>datO_rg x 4 (1+(gtB x 2).tmod 5) v hv⟩
  ·exact ⟨⟨Int.le_refl 0,(show (0:Int)<256 by decide)⟩,fun v hv=>datO_rg x (1+(gtB x 0).tmod 4) (1+((gtB x 2).tmod (m-(gtB x 1).tmod m)).tmod 5) v hv⟩
 ·refine ⟨?_,fun v hv=>datO_rg x (1+(gtB x 0).tmod 4) (1+(gtB x 2).tmod 5) v hv⟩
  show 0≤(if 1+(gtB x 0).tmod 4=3 then gtB x 3 else 0)∧(if 1+(gtB x 0).tmod 4=3 then gtB x 3 else 0)<256
  split
  ·exact hx 3
  ·decide
theorem szO_by {l:List (List Int)} {m:Int} (hl:preL4 l) (h0:0≤m) (h1:m≤65536):byL (symF (szO l m)):=fun s hs=>by
 obtain ⟨x,hx,k,hk,e⟩:=sym_mem (szO_right hl h0 h1) s hs
 have hk4:=(isRB_kind (szO_right hl h0 h1 x hx)).1
 unfold szO szL at hx
 obtain ⟨j,_,ex⟩:=List.mem_map.1 hx
 have r:=opV_rg (hl j) m
 rw[ex] at r
 rw[e]
 have z:(0:Int)≤0∧(0:Int)<256:=by decide
 rcases hk4 with q | q | q | q <;> rw[q]
 ·exact z
 ·exact gtB_rg r.2 k
 ·exact r.1
 ·exact gtB_rg r.2 k
theorem szV_ok {l:List (List Int)} {m:Int} (hl:preL4 l) (h0:0≤m) (h1:m≤65536):(chkV (szV l m)).2=0∧(szV l m).2.2.1≤30∧(szV l m).2.2.2.length≤6∧byL (symF (szV l m).2.2.2):=by
 rw[szV_chk hl h0 h1]
 exact ⟨rfl,(szO_sum hl h0).2,szO_len l m,szO_by hl h0 h1⟩
end Go.Proofs.YticpkibnhakgbaaDoor
namespace Go.Proofs.YticpkibnhakgbaaDoor
open Go.Px Go.Ax
set_option maxRecDepth 100000
attribute [local irreducible] Go.Px.sy Go.Px.syE
def ctTh:Ctr:=⟨[.sl syS,.sl syS],fun x=>List.length x.2.1<16777216,fun x=>[.win true syS 0 0 (thV x.1 x.2.1).1.length,.int .i64 (thV x.1 x.2.1).2],fun x=>[.row 66 syS (thV x.1 x.2.1).1]⟩
abbrev ThQ (a b:List SyT):List SV→List (Nat × LB)→Prop:=QC ctTh (a,b,())
theorem th_bad {a b:List SyT} {i:Nat} (h:i<b.length) (hb:thOK a.length b[i]=false):thV a b=([],61):=by
 unfold thV
 rw[if_neg fun q=>by
  have:=List.all_eq_true.1 q b[i] (List.getElem_mem h)
  rw[hb] at this;cases this]
def thS (a b:List SyT) (i:Nat):List SyT:=thL a (b.take i)++List.replicate (b.length-i) (false,0,0)
theorem thS_len {a b:List SyT} {i:Nat} (h:i≤b.length):(thS a b i).length=b.length:=by
 unfold thS;rw[List.length_append,thL_len,List.length_take,List.length_replicate];omega
theorem thS_at {a b:List SyT} {i:Nat} (h:i<b.length):gtY (thS a b i) i=(false,0,0):=by
 rw[gtY_at (by rw[thS_len (by omega)];exact h)]
 unfold thS
 rw[List.getElem_append_right (by rw[thL_len,List.length_take];omega),List.getElem_replicate]
theorem thS_set {a b:List SyT} {i:Nat} (h:i<b.length):(thS a b i).set i (thE a (gtY b i))=thS a b (i+1):=by
 have e:(thL a (b.take i)).length=i:=by rw[thL_len,List.length_take];omega
 unfold thS
 rw[List.set_append_right _ _ (by omega),e,Nat.sub_self,show b.length-i=(b.length-(i+1))+1 by omega,List.replicate_succ,List.set_cons_zero,List.take_succ_eq_append_getElem h,gtY_at h]
 show _=(List.map _ (_++_))++_
 rw[List.map_append,List.append_assoc];rfl
theorem gtY_set {l:List SyT} {i:Nat} {v:SyT} (h:i<l.length):gtY (l.set i v) i=v:=by
 rw[gtY_at (by simpa using h),List.getElem_set_self]
theorem th_loop (a b:List SyT) (hb:b.length<16777216):∀ (k i:Nat),b.length-i=k→i≤b.length→(∀ s∈b.take i,thOK a.length s=true) →
  GD 17 Tryd.f17 (ThQ a b) (hd Tryd.f17 0) ⟨[(0,.sl syS a),(6,.win true syS 11 0 b.length),(12,.sl syS b),(13,.int .i64 b.length),(14,.int .i64 (i:Nat))],[(11,.row 66 syS (thS a b i))]⟩:=by
 intro k
 induction k with
 | zero=>
  intro i hk hi ht
  have hi:i=b.length:=by omega
  refine sy_goK cx0 (vc_thL a b (thS a b i) i b.length _ _) ?_
  rw[decide_eq_false (by omega),bc_f]
  have hs:thS a b i=thL a b:=by
   unfold thS;rw[hi,List.take_length,Nat.sub_self];exact List.append_nil _
  have hv:thV a b=(thL a b,0):=by
   unfold thV;rw[if_pos (List.all_eq_true.2 fun x hx=>ht x (by rw[hi,List.take_length];exact hx))]
  rw[hs]
  exact qc_rowI (e:=syS) (et:=66) (a:=11) (xs:=thL a b) (z:=0) (by show [SV.win true syS 0 0 (thV a b).1.length,.int .i64 (thV a b).2]=_;rw[hv]) (by show [LB.row 66 syS (thV a b).1]=_;rw[hv]) rfl (by rw[thL_len,Int.toNat_natCast]) rfl
 | succ k ih=>
  intro i hk hi ht
  have hlt:i<b.length:=by omega
  have hl:=thS_len (a:=a) (b:=b) (i:=i) hi
  refine sy_goK cx0 (vc_thL a b (thS a b i) i b.length _ _) ?_
  rw[decide_eq_true (show (i:Int)<(b.length:Int) by omega),bc_t,Int.toNat_natCast,Int.toNat_natCast,Nat.zero_add,IntWalk.i64_in ((i:Int)+1) (by omega)]
  have nx:thOK a.length (gtY b i)=true→∀ xs,xs=thS a b (i+1)→GD 17 Tryd.f17 (ThQ a b) (hd Tryd.f17 0) ⟨[(0,.sl syS a),(6,.win true syS 11 0 b.length),(12,.sl syS b),(13,.int .i64 b.length),(14,.int .i64 ((i:Int)+1))],[(11,.row 66 syS xs)]⟩:=fun ho xs he=>by
   subst he
   refine ih (i+1) (by omega) (by omega) fun s hs=>?_
   rw[List.take_succ_eq_append_getElem hlt] at hs
   rcases List.mem_append.1 hs with q | q
   ·exact ht s q
   ·rw[gtY_at hlt] at ho
    rw[List.mem_singleton.1 q];exact ho
  have bad:thOK a.length (gtY b i)=false→∀ bl,ThQ a b [SV.nils,.int .i64 61] bl:=fun ho bl=>by
   rw[gtY_at hlt] at ho
   have hv:=th_bad hlt ho
   exact qc_nilI (e:=syS) (et:=66) (z:=61) (by show [SV.win true syS 0 0 (thV a b).1.length,.int .i64 (thV a b).2]=_;rw[hv];rfl) (by show [LB.row 66 syS (thV a b).1]=_;rw[hv]) rfl (by decide)
  refine ⟨by omega,by omega,bc_of (fun h=>?_) (fun h=>?_)⟩
  ·have h:(gtY b i).1=false:=by simpa using h
   refine ⟨by omega,by omega,by omega,nx (by unfold thOK;rw[h];rfl) _ ?_⟩
   rw[thS_at hlt,← thS_set hlt]
   have:thE a (gtY b i)=(false,0,(gtY b i).2.2):=by unfold thE;rw[h];rfl
   rw[this]
  ·have h:(gtY b i).1=true:=by simpa using h
   refine bc_of (fun h2=>⟨rfl,bad ?_ _⟩) (fun h2=>bc_of (fun h3=>bad ?_ _) (fun h3=>?_))
   ·have h2:(gtY b i).2.1<0:=of_decide_eq_true h2
    unfold thOK
    rw[h,decide_eq_false (by omega)];rfl
   ·have h3:(a.length:Int)≤(gtY b i).2.1:=of_decide_eq_true h3
    unfold thOK
    rw[h,decide_eq_false (show ¬ (gtY b i).2.1<(a.length:Int) by omega)];simp
   ·have h2:¬ (gtY b i).2.1<0:=of_decide_eq_false h2
    have h3:¬ (a.length:Int)≤(gtY b i).2.1:=of_decide_eq_false h3
    refine ⟨by omega,by omega,by omega,by omega,by omega,by omega,by omega,by rw[List.length_set];omega,by omega,by omega,by rw[List.length_set];omega,nx ?_ _ ?_⟩
    ·unfold thOK
     rw[h,decide_eq_true (by omega),decide_eq_true (by omega)];rfl
    ·rw[gtY_set (by omega),List.set_set,← thS_set hlt]
     have:thE a (gtY b i)=((gtY a (gtY b i).2.1.toNat).1,(gtY a (gtY b i).2.1.toNat).2.1,IntKind.u8.wrap ((gtY a (gtY b i).2.1.toNat).2.2+(gtY b i).2.2)):=by unfold thE;rw[if_pos h]
     rw[this]
theorem th_run (a b:List SyT) (hb:b.length<16777216):GD 17 Tryd.f17 (ThQ a b) [.code (bodyOf Tryd.f17)] (entry [.sl syS,.sl syS] (a,b,())):=by
 refine sy_goK cx0 (vc_th a b _ _) ⟨by omega,by omega,by omega,by omega,?_⟩
 have h:=th_loop a b hb _ 0 rfl (Nat.zero_le _) (fun s hs=>by cases hs)
 rw[show thS a b 0=List.replicate (b.length:Int).toNat syS.dflt by unfold thS;rw[Int.toNat_natCast];rfl] at h
 rw[Int.toNat_natCast] at h ⊢
 exact h
theorem th_held:Held Tryd.prog G0 17 ctTh:=Held.of cx0 (fn:=Tryd.f17) rfl rfl ⟨by decide,by decide⟩ fun ⟨a,b,_⟩ hp=>th_run a b hp
end Go.Proofs.YticpkibnhakgbaaDoor
namespace Go.Proofs.YticpkibnhakgbaaDoor
open Go.Px Go.Ax
set_option maxRecDepth 100000
abbrev gtP (l:List PaT) (i:Nat):PaT:=gt paS l i
def CCo:CV:=[(24,.inl ctSym),(17,.inl ctTh),(36,.inl ctCp)]
theorem cxCo:CxOK Tryd.prog tt G0 CCo:=((cx0.cons cp_held (fn:=Tryd.f36) rfl rfl rfl).cons th_held (fn:=Tryd.f17) rfl rfl rfl).cons sym_held (fn:=Tryd.f24) rfl rfl rfl
set_option maxRecDepth 100000
def mem_co_m0 (li li2:Bool) (m o m2 o2:Int) (l l2:List OpT):List (Nat × LB):=[(2,.var [.bool li,.int .i64 m,.int .i64 o,.sl opS l]),(3,.var [.bool li2,.int .i64 m2,.int .i64 o2,.sl opS l2]),(4,.var [.bool false,.int .i64 0,.int .i64 0,.nils]),(1057344,.row 66 syS (symV (li,m,o,l)).1),(1094208,.row 66 syS (symV (li2,m2,o2,l2)).1)]
theorem vc_co (li li2:Bool) (m o m2 o2:Int) (l l2:List OpT) (Q:QT) (R:RT):sy tt G0 CCo Tryd.f14.ntmps Tryd.f14.results.toList Q R 1000 [.code (bodyOf Tryd.f14)] (entry [paS,paS] ((li,m,o,l),(li2,m2,o2,l2),())) =
  (ctSym.pre ((li,m,o,l),()) ∧
 bc (decide ((symV (li,m,o,l)).2≠(0:Int))) (Q [.agg [.bool false,.int .i64 0,.int .i64 0,.nils],.int .i64 (symV (li,m,o,l)).2] [(2,.var [.bool li,.int .i64 m,.int .i64 o,.sl opS l]),(3,.var [.bool li2,.int .i64 m2,.int .i64 o2,.sl opS l2]),(4,.var [.bool false,.int .i64 0,.int .i64 0,.nils]),(1057344,.row 66 syS (symV (li,m,o,l)).1)]) (ctSym.pre ((li2,m2,o2,l2),()) ∧
 bc (decide ((symV (li2,m2,o2,l2)).2≠(0:Int))) (Q [.agg [.bool false,.int .i64 0,.int .i64 0,.nils],.int .i64 (symV (li2,m2,o2,l2)).2] (mem_co_m0 li li2 m o m2 o2 l l2)) (bc (!li == li2) (Q [.agg [.bool false,.int .i64 0,.int .i64 0,.nils],.int .i64 62] (mem_co_m0 li li2 m o m2 o2 l l2)) (bc (decide (o≠m2)) (Q [.agg [.bool false,.int .i64 0,.int .i64 0,.nils],.int .i64 61] (mem_co_m0 li li2 m o m2 o2 l l2)) (0+(symV (li,m,o,l)).1.length≤(symV (li,m,o,l)).1.length ∧
 0+(symV (li2,m2,o2,l2)).1.length≤(symV (li2,m2,o2,l2)).1.length ∧
 ctTh.pre (winL syS 0 (symV (li,m,o,l)).1.length (symV (li,m,o,l)).1,winL syS 0 (symV (li2,m2,o2,l2)).1.length (symV (li2,m2,o2,l2)).1,()) ∧
 0+(thV (winL syS 0 (symV (li,m,o,l)).1.length (symV (li,m,o,l)).1) (winL syS 0 (symV (li2,m2,o2,l2)).1.length (symV (li2,m2,o2,l2)).1)).1.length≤(thV (winL syS 0 (symV (li,m,o,l)).1.length (symV (li,m,o,l)).1) (winL syS 0 (symV (li2,m2,o2,l2)).1.length (symV (li2,m2,o2,l2)).1)).1.length ∧
 0+(thV (winL syS 0 (symV (li,m,o,l)).1.length (symV (li,m,o,l)).1) (winL syS 0 (symV (li2,m2,o2,l2)).1.length (symV (li2,m2,o2,l2)).1)).1.length≤(thV (winL syS 0 (symV (li,m,o,l)).1.length (symV (li,m,o,l)).1) (winL syS 0 (symV (li2,m2,o2,l2)).1.length (symV (li2,m2,o2,l2)).1)).1.length ∧
 0+(thV (winL syS 0 (symV (li,m,o,l)).1.length (symV (li,m,o,l)).1) (winL syS 0 (symV (li2,m2,o2,l2)).1.length (symV (li2,m2,o2,l2)).1)).1.length≤(thV (winL syS 0 (symV (li,m,o,l)).1.length (symV (li,m,o,l)).1) (winL syS 0 (symV (li2,m2,o2,l2)).1.length (symV (li2,m2,o2,l2)).1)).1.length ∧
 0+(thV (winL syS 0 (symV (li,m,o,l)).1.length (symV (li,m,o,l)).1) (winL syS 0 (symV (li2,m2,o2,l2)).1.length (symV (li2,m2,o2,l2)).1)).1.length≤(thV (winL syS 0 (symV (li,m,o,l)).1.length (symV (li,m,o,l)).1) (winL syS 0 (symV (li2,m2,o2,l2)).1.length (symV (li2,m2,o2,l2)).1)).1.length ∧
 0+(thV (winL syS 0 (symV (li,m,o,l)).1.length (symV (li,m,o,l)).1) (winL syS 0 (symV (li2,m2,o2,l2)).1.length (symV (li2,m2,o2,l2)).1)).1.length≤(thV (winL syS 0 (symV (li,m,o,l)).1.length (symV (li,m,o,l)).1) (winL syS 0 (symV (li2,m2,o2,l2)).1.length (symV (li2,m2,o2,l2)).1)).1.length ∧
 ctCp.pre (winL syS 0 (thV (winL syS 0 (symV (li,m,o,l)).1.length (symV (li,m,o,l)).1) (winL syS 0 (symV (li2,m2,o2,l2)).1.length (symV (li2,m2,o2,l2)).1)).1.length (thV (winL syS 0 (symV (li,m,o,l)).1.length (symV (li,m,o,l)).1) (winL syS 0 (symV (li2,m2,o2,l2)).1.length (symV (li2,m2,o2,l2)).1)).1,m,()) ∧
 bc (decide ((cpV (winL syS 0 (thV (winL syS 0 (symV (li,m,o,l)).1.length (symV (li,m,o,l)).1) (winL syS 0 (symV (li2,m2,o2,l2)).1.length (symV (li2,m2,o2,l2)).1)).1.length (thV (winL syS 0 (symV (li,m,o,l)).1.length (symV (li,m,o,l)).1) (winL syS 0 (symV (li2,m2,o2,l2)).1.length (symV (li2,m2,o2,l2)).1)).1) m).2≠(0:Int))) (Q [.agg [.bool false,.int .i64 0,.int .i64 0,.nils],.int .i64 (cpV (winL syS 0 (thV (winL syS 0 (symV (li,m,o,l)).1.length (symV (li,m,o,l)).1) (winL syS 0 (symV (li2,m2,o2,l2)).1.length (symV (li2,m2,o2,l2)).1)).1.length (thV (winL syS 0 (symV (li,m,o,l)).1.length (symV (li,m,o,l)).1) (winL syS 0 (symV (li2,m2,o2,l2)).1.length (symV (li2,m2,o2,l2)).1)).1) m).2] [(2,.var [.bool li,.int .i64 m,.int .i64 o,.sl opS l]),(3,.var [.bool li2,.int .i64 m2,.int .i64 o2,.sl opS l2]),(4,.var [.bool false,.int .i64 0,.int .i64 0,.nils]),(11,.var [.bool (cpV (winL syS 0 (thV (winL syS 0 (symV (li,m,o,l)).1.length (symV (li,m,o,l)).1) (winL syS 0 (symV (li2,m2,o2,l2)).1.length (symV (li2,m2,o2,l2)).1)).1.length (thV (winL syS 0 (symV (li,m,o,l)).1.length (symV (li,m,o,l)).1) (winL syS 0 (symV (li2,m2,o2,l2)).1.length (symV (li2,m2,o2,l2)).1)).1) m).1.1,.int .i64 (cpV (winL syS 0 (thV (winL syS 0 (symV (li,m,o,l)).1.length (symV (li,m,o,l)).1) (winL syS 0 (symV (li2,m2,o2,l2)).1.length (symV (li2,m2,o2,l2)).1)).1.length (thV (winL syS 0 (symV (li,m,o,l)).1.length (symV (li,m,o,l)).1) (winL syS 0 (symV (li2,m2,o2,l2)).1.length (symV (li2,m2,o2,l2)).1)).1) m).1.2.1,.int .i64 (cpV (winL syS 0 (thV (winL syS 0 (symV (li,m,o,l)).1.length (symV (li,m,o,l)).1) (winL syS 0 (symV (li2,m2,o2,l2)).1.length (symV (li2,m2,o2,l2)).1)).1.length (thV (winL syS 0 (symV (li,m,o,l)).1.length (symV (li,m,o,l)).1) (winL syS 0 (symV (li2,m2,o2,l2)).1.length (symV (li2,m2,o2,l2)).1)).1) m).1.2.2.1,.sl opS (cpV (winL syS 0 (thV (winL syS 0 (symV (li,m,o,l)).1.length (symV (li,m,o,l)).1) (winL syS 0 (symV (li2,m2,o2,l2)).1.length (symV (li2,m2,o2,l2)).1)).1.length (thV (winL syS 0 (symV (li,m,o,l)).1.length (symV (li,m,o,l)).1) (winL syS 0 (symV (li2,m2,o2,l2)).1.length (symV (li2,m2,o2,l2)).1)).1) m).1.2.2.2]),(1057344,.row 66 syS (symV (li,m,o,l)).1),(1094208,.row 66 syS (symV (li2,m2,o2,l2)).1)]) (Q [.agg [.bool li,.int .i64 (cpV (winL syS 0 (thV (winL syS 0 (symV (li,m,o,l)).1.length (symV (li,m,o,l)).1) (winL syS 0 (symV (li2,m2,o2,l2)).1.length (symV (li2,m2,o2,l2)).1)).1.length (thV (winL syS 0 (symV (li,m,o,l)).1.length (symV (li,m,o,l)).1) (winL syS 0 (symV (li2,m2,o2,l2)).1.length (symV (li2,m2,o2,l2)).1)).1) m).1.2.1,.int .i64 (cpV (winL syS 0 (thV (winL syS 0 (symV (li,m,o,l)).1.length (symV (li,m,o,l)).1) (winL syS 0 (symV (li2,m2,o2,l2)).1.length (symV (li2,m2,o2,l2)).1)).1.length (thV (winL syS 0 (symV (li,m,o,l)).1.length (symV (li,m,o,l)).1) (winL syS 0 (symV (li2,m2,o2,l2)).1.length (symV (li2,m2,o2,l2)).1)).1) m).1.2.2.1,.sl opS (cpV (winL syS 0 (thV (winL syS 0 (symV (li,m,o,l)).1.length (symV (li,m,o,l)).1) (winL syS 0 (symV (li2,m2,o2,l2)).1.length (symV (li2,m2,o2,l2)).1)).1.length (thV (winL syS 0 (symV (li,m,o,l)).1.length (symV (li,m,o,l)).1) (winL syS 0 (symV (li2,m2,o2,l2)).1.length (symV (li2,m2,o2,l2)).1)).1) m).1.2.2.2],.int .i64 0] [(2,.var [.bool li,.int .i64 m,.int .i64 o,.sl opS l]),(3,.var [.bool li2,.int .i64 m2,.int .i64 o2,.sl opS l2]),(4,.var [.bool li,.int .i64 (cpV (winL syS 0 (thV (winL syS 0 (symV (li,m,o,l)).1.length (symV (li,m,o,l)).1) (winL syS 0 (symV (li2,m2,o2,l2)).1.length (symV (li2,m2,o2,l2)).1)).1.length (thV (winL syS 0 (symV (li,m,o,l)).1.length (symV (li,m,o,l)).1) (winL syS 0 (symV (li2,m2,o2,l2)).1.length (symV (li2,m2,o2,l2)).1)).1) m).1.2.1,.int .i64 (cpV (winL syS 0 (thV (winL syS 0 (symV (li,m,o,l)).1.length (symV (li,m,o,l)).1) (winL syS 0 (symV (li2,m2,o2,l2)).1.length (symV (li2,m2,o2,l2)).1)).1.length (thV (winL syS 0 (symV (li,m,o,l)).1.length (symV (li,m,o,l)).1) (winL syS 0 (symV (li2,m2,o2,l2)).1.length (symV (li2,m2,o2,l2)).1)).1) m).1.2.2.1,.sl opS (cpV (winL syS 0 (thV (winL syS 0 (symV (li,m,o,l)).1.length (symV (li,m,o,l)).1) (winL syS 0 (symV (li2,m2,o2,l2)).1.length (symV (li2,m2,o2,l2)).1)).1.length (thV (winL syS 0 (symV (li,m,o,l)).1.length (symV (li,m,o,l)).1) (winL syS 0 (symV (li2,m2,o2,l2)).1.length (symV (li2,m2,o2,l2)).1)).1) m).1.2.2.2]),(11,.var [.bool li,.int .i64 (cpV (winL syS 0 (thV (winL syS 0 (symV (li,m,o,l)).1.length (symV (li,m,o,l)).1) (winL syS 0 (symV (li2,m2,o2,l2)).1.length (symV (li2,m2,o2,l2)).1)).1.length (thV (winL syS 0 (symV (li,m,o,l)).1.length (symV (li,m,o,l)).1) (winL syS 0 (symV (li2,m2,o2,l2)).1.length (symV (li2,m2,o2,l2)).1)).1) m).1.2.1,.int .i64 (cpV (winL syS 0 (thV (winL syS 0 (symV (li,m,o,l)).1.length (symV (li,m,o,l)).1) (winL syS 0 (symV (li2,m2,o2,l2)).1.length (symV (li2,m2,o2,l2)).1)).1.length (thV (winL syS 0 (symV (li,m,o,l)).1.length (symV (li,m,o,l)).1) (winL syS 0 (symV (li2,m2,o2,l2)).1.length (symV (li2,m2,o2,l2)).1)).1) m).1.2.2.1,.sl opS (cpV (winL syS 0 (thV (winL syS 0 (symV (li,m,o,l)).1.length (symV (li,m,o,l)).1) (winL syS 0 (symV (li2,m2,o2,l2)).1.length (symV (li2,m2,o2,l2)).1)).1.length (thV (winL syS 0 (symV (li,m,o,l)).1.length (symV (li,m,o,l)).1) (winL syS 0 (symV (li2,m2,o2,l2)).1.length (symV (li2,m2,o2,l2)).1)).1) m).1.2.2.2]),(1057344,.row 66 syS (symV (li,m,o,l)).1),(1094208,.row 66 syS (symV (li2,m2,o2,l2)).1)])))))):=by kernel_rfl
end Go.Proofs.YticpkibnhakgbaaDoor
namespace Go.Proofs.YticpkibnhakgbaaDoor
open Go.Px Go.Ax
set_option maxRecDepth 100000
attribute [local irreducible] Go.Px.sy Go.Px.syE
def ctCo:Ctr:=⟨[paS,paS],fun _=>True,fun x=>[paV (coV x.1 x.2.1).1,.int .i64 (coV x.1 x.2.1).2],fun _=>[]⟩
theorem co_fit {p q:PaT} (hp:(symV p).2=0) (hq:(symV q).2=0) (ho:p.2.2.1=q.2.1):thV (symV p).1 (symV q).1=(thL (symV p).1 (symV q).1,0):=by
 obtain ⟨a1,a2,a3⟩:=symV_right hp
 obtain ⟨b1,b2,b3⟩:=symV_right hq
 exact thV_ok fun x hx=>by rw[a3,ho];exact b1 x hx
theorem co_err {p q:PaT} {z:Int} {bl:List (Nat × LB)} (h:coV p q=(zP,z)):QC ctCo (p,q,()) [.agg [.bool false,.int .i64 0,.int .i64 0,.nils],.int .i64 z] bl:=
 QC.mt (by show MtL _ [paV (coV p q).1,.int .i64 (coV p q).2] _;rw[h];exact zero_mt _) rfl
theorem co_fin {p q:PaT} {r:PaT} {z:Int} {bl:List (Nat × LB)} (h:coV p q=(r,z)):QC ctCo (p,q,()) [paV r,.int .i64 z] bl:=
 QC.flat (by show [paV (coV p q).1,.int .i64 (coV p q).2]=_;rw[h]) rfl rfl
theorem co_run (li li2:Bool) (m o m2 o2:Int) (l l2:List OpT) (R:List Item→PS→Prop):sy tt G0 CCo Tryd.f14.ntmps Tryd.f14.results.toList (QC ctCo ((li,m,o,l),(li2,m2,o2,l2),())) R 1000 [.code (bodyOf Tryd.f14)] (entry [paS,paS] ((li,m,o,l),(li2,m2,o2,l2),())):=by
 refine (vc_co li li2 m o m2 o2 l l2 _ _).mpr ⟨trivial,bc_of (fun h=>?_) (fun h=>⟨trivial,bc_of (fun h2=>?_) (fun h2=>bc_of (fun h3=>?_) (fun h3=>bc_of (fun h4=>?_) (fun h4=>?_)))⟩)⟩
 ·have h:(symV (li,m,o,l)).2≠0:=of_decide_eq_true h
  exact co_err (by unfold coV;rw[if_pos h])
 all_goals
  have h:¬ (symV (li,m,o,l)).2≠0:=of_decide_eq_false h
 ·have h2:(symV (li2,m2,o2,l2)).2≠0:=of_decide_eq_true h2
  exact co_err (by unfold coV;rw[if_neg h,if_pos h2])
 all_goals
  have h2:¬ (symV (li2,m2,o2,l2)).2≠0:=of_decide_eq_false h2
 ·have h3:li≠li2:=by simpa using h3
  exact co_err (by unfold coV;rw[if_neg h,if_neg h2,if_pos h3])
 all_goals
  have h3:¬ li≠li2:=by simpa using h3
 ·have h4:o≠m2:=of_decide_eq_true h4
  exact co_err (by unfold coV;rw[if_neg h,if_neg h2,if_neg h3,if_pos h4])
 ·have h4:¬ o≠m2:=of_decide_eq_false h4
  have hp:(symV (li,m,o,l)).2=0:=by omega
  have hq:(symV (li2,m2,o2,l2)).2=0:=by omega
  have ht:=co_fit hp hq (show o=m2 by omega)
  have hl:=symV_le (li2,m2,o2,l2)
  have ho:coV (li,m,o,l) (li2,m2,o2,l2)=if (cpV (thL (symV (li,m,o,l)).1 (symV (li2,m2,o2,l2)).1) m).2≠0 then (zP,(cpV (thL (symV (li,m,o,l)).1 (symV (li2,m2,o2,l2)).1) m).2) else ((li,(cpV (thL (symV (li,m,o,l)).1 (symV (li2,m2,o2,l2)).1) m).1.2),0):=by
   unfold coV;rw[if_neg h,if_neg h2,if_neg h3,if_neg h4]
  generalize (symV (li,m,o,l)).1=a at *
  generalize (symV (li2,m2,o2,l2)).1=b at *
  rw[winA,winA,ht,winA]
  refine ⟨by omega,by omega,(show b.length<16777216 by omega),by omega,by omega,by omega,by omega,by omega,(show (thL a b).length<16777216 by rw[thL_len];omega),bc_of (fun h5=>?_) (fun h5=>?_)⟩
  ·have h5:(cpV (thL a b) m).2≠0:=of_decide_eq_true h5
   rw[if_pos h5] at ho
   exact co_err ho
  ·have h5:¬ (cpV (thL a b) m).2≠0:=of_decide_eq_false h5
   rw[if_neg h5] at ho
   exact co_fin ho
theorem co_held:Held Tryd.prog G0 14 ctCo:=Held.run cxCo (fn:=Tryd.f14) rfl rfl ⟨by decide,by decide⟩ fun ⟨⟨li,m,o,l⟩,⟨li2,m2,o2,l2⟩,_⟩ _=>co_run li li2 m o m2 o2 l l2 _
end Go.Proofs.YticpkibnhakgbaaDoor
namespace Go.Proofs.YticpkibnhakgbaaDoor
open Go.Px Go.Ax
set_option maxRecDepth 100000
abbrev capA:List AK:=[.ptr [.dat .bool,.dat iI,.dat iI,.dat (.sl opS)]]
abbrev KA1:List AK:=.dat paS::capA
abbrev KIn:List AK:=[.fn 33 [] capA,.dat (.sl paS)]
def CA1:CV:=[(14,.inl ctCo)]
theorem cxA1:CxOK Tryd.prog tt G0 CA1:=cx0.cons co_held (fn:=Tryd.f14) rfl rfl rfl
def ptD (p:PaT):DI [.dat .bool,.dat iI,.dat iI,.dat (.sl opS)]:=(p.1,p.2.1,p.2.2.1,p.2.2.2,())
def ctA1:CtrI:=⟨KA1,fun _=>True,fun x=>[.int .i64 (coV (x.2.1.1,x.2.1.2.1,x.2.1.2.2.1,x.2.1.2.2.2.1) x.1).2],fun x=>bkKL 0 KA1 (x.1,ptD (coV (x.2.1.1,x.2.1.2.1,x.2.1.2.2.1,x.2.1.2.2.2.1) x.1).1,())⟩
set_option maxRecDepth 100000
theorem vc_a1 (li li2:Bool) (m o m2 o2:Int) (k l2:List OpT) (Q:QT) (R:RT):sy tt G0 CA1 Tryd.f33.ntmps Tryd.f33.results.toList Q R 1000 [.code (bodyOf Tryd.f33)] (entryI KA1 ((li2,m2,o2,l2),(li,m,o,k,()),())) =
  (ctCo.pre ((li,m,o,k),(li2,m2,o2,l2),()) ∧
 Q [.int .i64 (coV (li,m,o,k) (li2,m2,o2,l2)).2] [(2,.var [.bool li2,.int .i64 m2,.int .i64 o2,.sl opS l2]),(1099511627776,.var [.bool (coV (li,m,o,k) (li2,m2,o2,l2)).1.1,.int .i64 (coV (li,m,o,k) (li2,m2,o2,l2)).1.2.1,.int .i64 (coV (li,m,o,k) (li2,m2,o2,l2)).1.2.2.1,.sl opS (coV (li,m,o,k) (li2,m2,o2,l2)).1.2.2.2])]):=by kernel_rfl
end Go.Proofs.YticpkibnhakgbaaDoor
namespace Go.Proofs.YticpkibnhakgbaaDoor
open Go.Px Go.Ax
set_option maxRecDepth 100000
attribute [local irreducible] Go.Px.sy Go.Px.syE
theorem a1_run (li li2:Bool) (m o m2 o2:Int) (k l2:List OpT) (R:List Item→PS→Prop):sy tt G0 CA1 Tryd.f33.ntmps Tryd.f33.results.toList (QI ctA1 ((li2,m2,o2,l2),(li,m,o,k,()),())) R 1000 [.code (bodyOf Tryd.f33)] (entryI KA1 ((li2,m2,o2,l2),(li,m,o,k,()),())):=by
 refine (vc_a1 li li2 m o m2 o2 k l2 _ _).mpr ⟨trivial,?_⟩
 refine QI.self rfl rfl rfl ?_
 intro b hb
 simp only[ctA1,bkKL,bkK,cnt,cntL,List.append_nil,List.nil_append,List.mem_append,List.mem_cons,List.mem_singleton,List.not_mem_nil,or_false] at hb
 rcases hb with rfl <;> rfl
theorem a1_held:HeldI Tryd.prog G0 33 ctA1:=HeldI.run cxA1 (fn:=Tryd.f33) rfl rfl ⟨by decide,by decide⟩ fun x _=>a1_run x.2.1.1 x.1.1 x.2.1.2.1 x.2.1.2.2.1 x.1.2.1 x.1.2.2.1 x.2.1.2.2.2.1 x.1.2.2.2 _
end Go.Proofs.YticpkibnhakgbaaDoor
namespace Go.Proofs.YticpkibnhakgbaaDoor
open Go.Px Go.Ax
set_option maxRecDepth 100000
def CIn:CV:=[(33,.inr ctA1)]
theorem cxIn:CxOK Tryd.prog tt G0 CIn:=cx0.consI a1_held (fn:=Tryd.f33) rfl rfl rfl
set_option maxRecDepth 100000
theorem vc_ino (l:List PaT) (li:Bool) (m o:Int) (k:List OpT) (Q:QT) (R:RT):sy tt G0 CIn Tryd.f32.ntmps Tryd.f32.results.toList Q R 1000 [.code (bodyOf Tryd.f32)] (entryI KIn (((),((li,m,o,k,()),())),l,())) =
  (R (hd Tryd.f32 0) { env:=[(0,.fn (33:Nat) [] [.ptr 1099511627776 0]),(1,.sl paS l),(4,.int .i64 0),(8,.sl paS l),(9,.int .i64 (l.length:Int)),(10,.int .i64 0)],blk:=[(1099511627776,.var [.bool li,.int .i64 m,.int .i64 o,.sl opS k])] }):=by kernel_rfl
theorem vc_inoL (l:List PaT) (li:Bool) (m o i:Int) (k:List OpT) (Q:QT) (R:RT):sy tt G0 CIn Tryd.f32.ntmps Tryd.f32.results.toList Q (fun it S=>R it (keepS [0,8,9,10] [1099511627776] S)) 1000 (hd Tryd.f32 0) ⟨[(0,.fn 33 [] [.ptr 1099511627776 0]),(8,.sl paS l),(9,.int .i64 l.length),(10,.int .i64 i)],[(1099511627776,.var [.bool li,.int .i64 m,.int .i64 o,.sl opS k])]⟩ =
  (bc (decide (i<(l.length:Int))) ((0:Int)≤i ∧
 i<(l.length:Int) ∧
 ctA1.pre ((gtP l i.toNat),(li,m,o,k,()),()) ∧
 bc (decide ((coV (li,m,o,k) (gtP l i.toNat)).2≠(0:Int))) (Q [.int .i64 (coV (li,m,o,k) (gtP l i.toNat)).2] [(6,.var [.bool (gtP l i.toNat).1,.int .i64 (gtP l i.toNat).2.1,.int .i64 (gtP l i.toNat).2.2.1,.sl opS (gtP l i.toNat).2.2.2]),(1099511627776,.var [.bool (ptD (coV (li,m,o,k) (gtP l i.toNat)).1).1,.int .i64 (ptD (coV (li,m,o,k) (gtP l i.toNat)).1).2.1,.int .i64 (ptD (coV (li,m,o,k) (gtP l i.toNat)).1).2.2.1,.sl opS (ptD (coV (li,m,o,k) (gtP l i.toNat)).1).2.2.2.1])]) (R (hd Tryd.f32 0) { env:=[(0,.fn (33:Nat) [] [.ptr 1099511627776 0]),(8,.sl paS l),(9,.int .i64 (l.length:Int)),(10,.int .i64 (IntKind.i64.wrap (i+(1:Int))))],blk:=[(1099511627776,.var [.bool (ptD (coV (li,m,o,k) (gtP l i.toNat)).1).1,.int .i64 (ptD (coV (li,m,o,k) (gtP l i.toNat)).1).2.1,.int .i64 (ptD (coV (li,m,o,k) (gtP l i.toNat)).1).2.2.1,.sl opS (ptD (coV (li,m,o,k) (gtP l i.toNat)).1).2.2.2.1])] })) (Q [.int .i64 0] [(1099511627776,.var [.bool li,.int .i64 m,.int .i64 o,.sl opS k])])):=by kernel_rfl
end Go.Proofs.YticpkibnhakgbaaDoor
namespace Go.Proofs.YticpkibnhakgbaaDoor
open Go.Px Go.Ax
set_option maxRecDepth 100000
attribute [local irreducible] Go.Px.sy Go.Px.syE
theorem gtP_at {l:List PaT} {i:Nat} (h:i<l.length):gtP l i=l[i]:=by
 show gt paS l i=_
 unfold gt
 rw[List.getElem?_eq_getElem h];rfl
abbrev vrP (p:PaT):LB:=.var [.bool p.1,.int .i64 p.2.1,.int .i64 p.2.2.1,.sl opS p.2.2.2]
abbrev InQ (p:PaT) (l:List PaT):List SV→List (Nat × LB)→Prop:=fun rs blk=>rs=[.int .i64 (alF (p,0) l).2]∧lk blk 1099511627776=some (vrP (alF (p,0) l).1)
theorem ino_loop (l:List PaT) (hl:l.length<1099511627776):∀ (k i:Nat) (p:PaT),l.length-i=k→i≤l.length →
  GD 32 Tryd.f32 (InQ p (l.drop i)) (hd Tryd.f32 0) ⟨[(0,.fn 33 [] [.ptr 1099511627776 0]),(8,.sl paS l),(9,.int .i64 l.length),(10,.int .i64 (i:Nat))],[(1099511627776,vrP p)]⟩:=by
 intro k
 induction k with
 | zero=>
  intro i p hk hi
  obtain ⟨li,m,o,k⟩:=p
  refine sy_goK cxIn (vc_inoL l li m o i k _ _) ?_
  rw[decide_eq_false (by omega),bc_f,List.drop_of_length_le (by omega)]
  exact ⟨rfl,rfl⟩
 | succ c ih=>
  intro i p hk hi
  obtain ⟨li,m,o,k⟩:=p
  have hlt:i<l.length:=by omega
  refine sy_goK cxIn (vc_inoL l li m o i k _ _) ?_
  rw[decide_eq_true (show (i:Int)<(l.length:Int) by omega),bc_t,Int.toNat_natCast,IntWalk.i64_in ((i:Int)+1) (by omega),List.drop_eq_getElem_cons hlt,← gtP_at hlt]
  refine ⟨by omega,by omega,trivial,bc_of (fun h=>?_) (fun h=>?_)⟩
  ·have h:(coV (li,m,o,k) (gtP l i)).2≠0:=of_decide_eq_true h
   have e:alF ((li,m,o,k),0) (gtP l i::l.drop (i+1))=coV (li,m,o,k) (gtP l i):=by rw[alF];exact if_pos h
   show InQ _ _ _ _
   unfold InQ
   rw[e]
   exact ⟨rfl,rfl⟩
  ·have h:¬ (coV (li,m,o,k) (gtP l i)).2≠0:=of_decide_eq_false h
   have h0:coV (li,m,o,k) (gtP l i)=((coV (li,m,o,k) (gtP l i)).1,0):=Prod.ext rfl (by omega)
   have e:alF ((li,m,o,k),0) (gtP l i::l.drop (i+1))=alF ((coV (li,m,o,k) (gtP l i)).1,0) (l.drop (i+1)):=by
    rw[← h0,alF];exact if_neg h
   have g:=ih (i+1) (coV (li,m,o,k) (gtP l i)).1 (by omega) (by omega)
   unfold InQ at g ⊢
   rw[e]
   exact g
def ctIno:CtrI:=⟨KIn,fun x=>List.length x.2.1<1099511627776,fun x=>[.int .i64 (alF ((x.1.2.1.1,x.1.2.1.2.1,x.1.2.1.2.2.1,x.1.2.1.2.2.2.1),0) x.2.1).2],
 fun x=>bkKL 0 KIn (((),(ptD (alF ((x.1.2.1.1,x.1.2.1.2.1,x.1.2.1.2.2.1,x.1.2.1.2.2.2.1),0) x.2.1).1,())),x.2.1,())⟩
theorem ino_run (l:List PaT) (li:Bool) (m o:Int) (k:List OpT) (hl:l.length<1099511627776):sy tt G0 CIn Tryd.f32.ntmps Tryd.f32.results.toList (QI ctIno (((),((li,m,o,k,()),())),l,())) (Px.Good Tryd.prog tt G0 32 Tryd.f32.ntmps Tryd.f32.results.toList (QI ctIno (((),((li,m,o,k,()),())),l,()))) 1000 [.code (bodyOf Tryd.f32)] (entryI KIn (((),((li,m,o,k,()),())),l,())):=by
 rw[vc_ino]
 refine ((ino_loop l hl _ 0 (li,m,o,k) rfl (Nat.zero_le _)).post fun rs blk hq=>?_).only ⟨rfl,rfl,rfl,rfl,trivial⟩ ⟨rfl,trivial⟩
 obtain ⟨h1,h2⟩:=hq
 rw[List.drop_zero] at h1 h2
 subst h1
 refine QI.self rfl rfl rfl ?_
 intro b hb
 simp only[ctIno,bkKL,bkK,cnt,cntL,List.append_nil,List.nil_append,List.mem_append,List.mem_cons,List.mem_singleton,List.not_mem_nil,or_false] at hb
 rcases hb with rfl <;> exact h2
theorem ino_held:HeldI Tryd.prog G0 32 ctIno:=HeldI.run cxIn (fn:=Tryd.f32) rfl rfl ⟨by decide,by decide⟩ fun x hp=>ino_run x.2.1 x.1.2.1.1 x.1.2.1.2.1 x.1.2.1.2.2.1 x.1.2.1.2.2.2.1 hp
end Go.Proofs.YticpkibnhakgbaaDoor
namespace Go.Proofs.YticpkibnhakgbaaDoor
open Go.Px Go.Ax
set_option maxRecDepth 100000
def CAl:CV:=[(32,.inr ctIno),(20,.inl ctFo)]
theorem cxAl:CxOK Tryd.prog tt G0 CAl:=(cx0.cons fo_held (fn:=Tryd.f20) rfl rfl rfl).consI ino_held (fn:=Tryd.f32) rfl rfl rfl
set_option maxRecDepth 100000
theorem vc_all (l:List PaT) (Q:QT) (R:RT):sy tt G0 CAl Tryd.f11.ntmps Tryd.f11.results.toList Q R 1000 [.code (bodyOf Tryd.f11)] (entry [.sl paS] (l,())) =
  (bc (decide ((l.length:Int)=(0:Int))) (Q [.agg [.bool false,.int .i64 0,.int .i64 0,.nils],.int .i64 1] [(2,.var [.bool false,.int .i64 0,.int .i64 0,.nils])]) ((0:Int)≤(0:Int) ∧
 (0:Int)<(l.length:Int) ∧
 ctFo.pre ((gtP l (0)),()) ∧
 bc (decide ((foV (gtP l (0))).2≠(0:Int))) (Q [.agg [.bool false,.int .i64 0,.int .i64 0,.nils],.int .i64 (foV (gtP l (0))).2] [(2,.var [.bool false,.int .i64 0,.int .i64 0,.nils]),(4,.var [.bool (foV (gtP l (0))).1.1,.int .i64 (foV (gtP l (0))).1.2.1,.int .i64 (foV (gtP l (0))).1.2.2.1,.sl opS (foV (gtP l (0))).1.2.2.2])]) ((0:Int)≤(1:Int) ∧
 (1:Int)≤(l.length:Int) ∧
 ctIno.pre (((),((foV (gtP l (0))).1.1,(foV (gtP l (0))).1.2.1,(foV (gtP l (0))).1.2.2.1,(foV (gtP l (0))).1.2.2.2,()),()),List.drop (1) l,()) ∧
 Q [.agg [.bool (ptD (alF (((foV (gtP l (0))).1),(0:Int)) (List.drop (1) l)).1).1,.int .i64 (ptD (alF (((foV (gtP l (0))).1),(0:Int)) (List.drop (1) l)).1).2.1,.int .i64 (ptD (alF (((foV (gtP l (0))).1),(0:Int)) (List.drop (1) l)).1).2.2.1,.sl opS (ptD (alF (((foV (gtP l (0))).1),(0:Int)) (List.drop (1) l)).1).2.2.2.1],.int .i64 (alF (((foV (gtP l (0))).1),(0:Int)) (List.drop (1) l)).2] [(2,.var [.bool (ptD (alF (((foV (gtP l (0))).1),(0:Int)) (List.drop (1) l)).1).1,.int .i64 (ptD (alF (((foV (gtP l (0))).1),(0:Int)) (List.drop (1) l)).1).2.1,.int .i64 (ptD (alF (((foV (gtP l (0))).1),(0:Int)) (List.drop (1) l)).1).2.2.1,.sl opS (ptD (alF (((foV (gtP l (0))).1),(0:Int)) (List.drop (1) l)).1).2.2.2.1]),(4,.var [.bool (ptD (alF (((foV (gtP l (0))).1),(0:Int)) (List.drop (1) l)).1).1,.int .i64 (ptD (alF (((foV (gtP l (0))).1),(0:Int)) (List.drop (1) l)).1).2.1,.int .i64 (ptD (alF (((foV (gtP l (0))).1),(0:Int)) (List.drop (1) l)).1).2.2.1,.sl opS (ptD (alF (((foV (gtP l (0))).1),(0:Int)) (List.drop (1) l)).1).2.2.2.1])]))):=by kernel_rfl
end Go.Proofs.YticpkibnhakgbaaDoor
