/-
  A part of the proof: what pieces of the program give; conditions: those of each theorem.
-/
import Derived.Test.YtkiicobbnllpkaaDoorQ2
import Derived.Test.YtkiicobbnllpkaaDoorHD
import Derived.KernelRfl
set_option linter.unusedVariables false
set_option linter.unusedSimpArgs false
namespace Go.Proofs.YtkiicobbnllpkaaDoor
open Go.Px Go.Ax
set_option maxRecDepth 100000
attribute [local irreducible] Go.Px.sy Go.Px.syE
theorem zero_mt (z:Int):MtL (fun _=>none) [paV (false,0,0,[]),.int .i64 z] [.agg [.bool false,.int .i64 0,.int .i64 0,.nils],.int .i64 z]:=
 ⟨_,_,rfl,⟨_,rfl,_,_,rfl,rfl,_,_,rfl,rfl,_,_,rfl,rfl,_,_,rfl,.inr ⟨rfl,rfl⟩,rfl⟩,_,_,rfl,rfl,rfl⟩
theorem po_run (l:List SyT) (m:Int) (hp:l.length≤65536) (R:List Item→PS→Prop):sy tt G0 CPo Tryd.f32.ntmps Tryd.f32.results.toList (QC ctPo (l,m,())) R 1000 [.code (bodyOf Tryd.f32)] (entry [.sl syS,iI] (l,m,())):=by
 refine (vc_po l m _ _).mpr ⟨hp,bc_of (fun h=>?_) (fun h=>?_)⟩
 ·have h:(4096:Int)<((chL l).length:Int):=of_decide_eq_true h
  have hv:poV l m=((false,0,0,[]),2):=by unfold poV;rw [if_pos (by omega)]
  exact QC.mt (by show MtL _ [paV (poV l m).1,.int .i64 (poV l m).2] _;rw [hv];exact zero_mt _) rfl
 ·have h:¬ (4096:Int)<((chL l).length:Int):=of_decide_eq_false h
  have hv:poV l m=(((false,m,(l.length:Int),chL l):PaT),(0:Int)):=by unfold poV;rw [if_neg (by omega)]
  exact QC.flat (by show [paV (poV l m).1,.int .i64 (poV l m).2]=_;rw [hv];rfl) rfl rfl
theorem po_held:Held Tryd.prog G0 32 ctPo:=Held.run cxPo (fn:=Tryd.f32) rfl rfl ⟨by decide,by decide⟩ fun ⟨l,m,_⟩ hp=>po_run l m hp _
theorem ofV_60 {l:List SyT} {m:Int} (h:(ofV l m).2≠60):szB m=true∧szB l.length=true∧l.all (sOK m)=true:=by
 unfold ofV at h
 split at h
 ·assumption
 ·exact absurd rfl h
theorem ofV_60' {l:List SyT} {m:Int} (h:szB m=true∧szB l.length=true∧l.all (sOK m)=true):(ofV l m).2≠60:=by
 unfold ofV
 rw [if_pos h]
 split
 ·exact (show (2:Int)≠60 by decide)
 ·exact (show (0:Int)≠60 by decide)
theorem szB_le {n:Int} (h:szB n=true):0≤n∧n≤65536:=by simpa [szB] using h
theorem cxCp:CxOK Tryd.prog tt G0 [(20,.inl ctOfA),(32,.inl ctPo)]:=(cx0.cons po_held (fn:=Tryd.f32) rfl rfl rfl).cons ofA_held (fn:=Tryd.f20) rfl rfl rfl
theorem cp_run (l:List SyT) (m:Int) (hp:l.length<16777216) (R:List Item→PS→Prop):sy tt G0 [(20,.inl ctOfA),(32,.inl ctPo)] Tryd.f15.ntmps Tryd.f15.results.toList (QC ctCp (l,m,())) R 1000 [.code (bodyOf Tryd.f15)] (entry [.sl syS,iI] (l,m,())):=by
 refine (vc_cp l m _ _).mpr ⟨hp,bc_of (fun h=>?_) (fun h=>?_)⟩
 ·have h:(ofV l m).2=60:=of_decide_eq_true h
  have hv:cpV l m=((false,0,0,[]),60):=by unfold cpV;rw [if_pos h]
  rw [h]
  exact QC.mt (by show MtL _ [paV (cpV l m).1,.int .i64 (cpV l m).2] _;rw [hv];exact zero_mt _) rfl
 ·have h:¬ (ofV l m).2=60:=of_decide_eq_false h
  have hz:=szB_le (ofV_60 h).2.1
  have hv:cpV l m=poV l m:=by unfold cpV;rw [if_neg h]
  exact ⟨(show l.length≤65536 by omega),QC.flat (by show [paV (cpV l m).1,.int .i64 (cpV l m).2]=_;rw [hv];rfl) rfl rfl⟩
theorem cp_held:Held Tryd.prog G0 15 ctCp:=Held.run cxCp (fn:=Tryd.f15) rfl rfl ⟨by decide,by decide⟩ fun ⟨l,m,_⟩ hp=>cp_run l m hp _
theorem symV_le (p:PaT):(symV p).1.length≤65536:=by
 unfold symV
 split
 ·rename_i h
  obtain ⟨h1,h2,h3,_⟩:=chkV_ok h
  have:=symF_len h1
  show (symF p.2.2.2).length≤65536
  omega
 ·exact Nat.zero_le _
theorem cxFo:CxOK Tryd.prog tt G0 [(31,.inl ctSym),(32,.inl ctPo)]:=(cx0.cons po_held (fn:=Tryd.f32) rfl rfl rfl).cons sym_held (fn:=Tryd.f31) rfl rfl rfl
theorem fo_run (li:Bool) (m o:Int) (l:List OpT) (R:List Item→PS→Prop):sy tt G0 [(31,.inl ctSym),(32,.inl ctPo)] Tryd.f13.ntmps Tryd.f13.results.toList (QC ctFo ((li,m,o,l),())) R 1000 [.code (bodyOf Tryd.f13)] (entry [paS] ((li,m,o,l),())):=by
 refine (vc_fo li m o l _ _).mpr ⟨trivial,bc_of (fun h=>?_) (fun h=>?_)⟩
 ·have h:(symV (li,m,o,l)).2≠0:=of_decide_eq_true h
  have hv:foV (li,m,o,l)=((false,0,0,[]),(symV (li,m,o,l)).2):=by unfold foV;rw [if_neg h]
  exact QC.mt (by show MtL _ [paV (foV (li,m,o,l)).1,.int .i64 (foV (li,m,o,l)).2] _;rw [hv];exact zero_mt _) rfl
 ·have h:¬ (symV (li,m,o,l)).2≠0:=of_decide_eq_false h
  have h:(symV (li,m,o,l)).2=0:=by omega
  rw [winA]
  refine ⟨by omega,by omega,by omega,by omega,by omega,symV_le _,bc_of (fun h2=>?_) (fun h2=>?_)⟩
  ·have h2:(poV (symV (li,m,o,l)).1 m).2≠0:=of_decide_eq_true h2
   have hv:foV (li,m,o,l)=((false,0,0,[]),(poV (symV (li,m,o,l)).1 m).2):=by unfold foV;rw [if_pos h,if_neg h2]
   exact QC.mt (by show MtL _ [paV (foV (li,m,o,l)).1,.int .i64 (foV (li,m,o,l)).2] _;rw [hv];exact zero_mt _) rfl
  ·have h2:¬ (poV (symV (li,m,o,l)).1 m).2≠0:=of_decide_eq_false h2
   have h2:(poV (symV (li,m,o,l)).1 m).2=0:=by omega
   have hv:foV (li,m,o,l)=((li,(poV (symV (li,m,o,l)).1 m).1.2),0):=by unfold foV;rw [if_pos h,if_pos h2]
   exact QC.flat (by show [paV (foV (li,m,o,l)).1,.int .i64 (foV (li,m,o,l)).2]=_;rw [hv];rfl) rfl rfl
theorem fo_held:Held Tryd.prog G0 13 ctFo:=Held.run cxFo (fn:=Tryd.f13) rfl rfl ⟨by decide,by decide⟩ fun ⟨⟨li,m,o,l⟩,_⟩ _=>fo_run li m o l _
theorem eq_loop (x y:List SyT) (hl:x.length<16777216) (he:x.length=y.length):∀ (k i:Nat),x.length - i=k→i≤x.length→x.take i=y.take i →
  GD 37 Tryd.f37 (fun rs _=>rs=[.bool (decide (x=y))]) (hd Tryd.f37 0) ⟨[(0,.sl syS x),(1,.sl syS y),(11,.sl syS x),(12,.int .i64 x.length),(13,.int .i64 (i:Nat))],[]⟩:=by
 intro k
 induction k with
 | zero=>
  intro i hk hi ht
  refine sy_goK cx0 (vc_eqL x y i _ _) ?_
  rw [decide_eq_false (show ¬ (i:Int)<(x.length:Int) by omega),bc_f]
  rw [List.take_of_length_le (by omega),List.take_of_length_le (by omega)] at ht
  show [SV.bool true]=_
  rw [decide_eq_true ht]
 | succ k ih=>
  intro i hk hi ht
  have hx:i<x.length:=by omega
  have hy:i<y.length:=by omega
  refine sy_goK cx0 (vc_eqL x y i _ _) ?_
  rw [decide_eq_true (show (i:Int)<(x.length:Int) by omega),bc_t,Int.toNat_natCast,gtY_at hx,gtY_at hy,IntWalk.i64_in ((i:Int)+1) (by omega)]
  refine ⟨by omega,by omega,by omega,by omega,bc_of (fun h=>?_) (fun h=>?_)⟩
  ·have h:¬ x[i]=y[i]:=fun q=>by
    rw [decide_eq_true (sy_eq.2 q)] at h;cases h
   show [SV.bool false]=_
   rw [decide_eq_false (fun q=>h (by simp only [q]))]
  ·have h:x[i]=y[i]:=by
    rw [Bool.not_eq_false'] at h
    exact sy_eq.1 (of_decide_eq_true h)
   exact (ih (i+1) (by omega) (by omega) (by rw [List.take_succ_eq_append_getElem hx,List.take_succ_eq_append_getElem hy,ht,h])).only ⟨rfl,rfl,rfl,rfl,rfl,trivial⟩ trivial
theorem eq_run (x y:List SyT) (hl:x.length<16777216):GD 37 Tryd.f37 (QC ctEq (x,y,())) [.code (bodyOf Tryd.f37)] (entry [.sl syS,.sl syS] (x,y,())):=by
 refine sy_goK cx0 (vc_eq x y _ _) (bc_of (fun h=>?_) (fun h=>?_))
 ·have h:(x.length:Int)≠(y.length:Int):=of_decide_eq_true h
  refine QC.flat ?_ rfl rfl
  show [SV.bool (decide (x=y))]=_
  rw [decide_eq_false (fun q=>h (by rw [q]))]
 ·have h:¬ (x.length:Int)≠(y.length:Int):=of_decide_eq_false h
  exact ((eq_loop x y hl (by omega) _ 0 rfl (Nat.zero_le _) rfl).post fun rs blk hq=>QC.flat (by rw [hq];rfl) rfl (by rw [hq];rfl)).only ⟨rfl,rfl,rfl,rfl,rfl,trivial⟩ trivial
theorem eq_held:Held Tryd.prog G0 37 ctEq:=Held.of cx0 (fn:=Tryd.f37) rfl rfl ⟨by decide,by decide⟩ fun ⟨x,y,_⟩ hp=>eq_run x y hp
theorem cxSa:CxOK Tryd.prog tt G0 [(31,.inl ctSym),(37,.inl ctEq)]:=(cx0.cons eq_held (fn:=Tryd.f37) rfl rfl rfl).cons sym_held (fn:=Tryd.f31) rfl rfl rfl
theorem sa_run (li li2:Bool) (m o m2 o2:Int) (l l2:List OpT) (R:List Item→PS→Prop):sy tt G0 [(31,.inl ctSym),(37,.inl ctEq)] Tryd.f18.ntmps Tryd.f18.results.toList (QC ctSa ((li,m,o,l),(li2,m2,o2,l2),())) R 1000 [.code (bodyOf Tryd.f18)] (entry [paS,paS] ((li,m,o,l),(li2,m2,o2,l2),())):=by
 have out:∀ b,saV (li,m,o,l) (li2,m2,o2,l2)=b→ctSa.out ((li,m,o,l),(li2,m2,o2,l2),())=[SV.bool b]:=fun b e=>congrArg (fun b=>[SV.bool b]) e
 refine (vc_sa li li2 m o m2 o2 l l2 _ _).mpr (bc_of (fun h=>⟨rfl,?_⟩) (fun h=>bc_of (fun h2=>?_) (fun h2=>⟨trivial,bc_of (fun h3=>?_) (fun h3=>⟨trivial,bc_of (fun h4=>?_) (fun h4=>?_)⟩)⟩)))
 ·have h:¬ li=li2:=by simpa using h
  exact QC.flat (out _ (by unfold saV;rw [decide_eq_false h];rfl)) rfl rfl
 all_goals have h:li=li2:=by simpa using h
 ·have h2:decide (m≠m2)=true:=h2
  have h2:¬ m=m2:=of_decide_eq_true h2
  exact QC.flat (out _ (by unfold saV;rw [decide_eq_true (show (li,m,o,l).1=(li2,m2,o2,l2).1 from h),decide_eq_false (show ¬ (li,m,o,l).2.1=(li2,m2,o2,l2).2.1 from h2)];rfl)) rfl rfl
 all_goals
  have h2:decide (m≠m2)=false:=h2
  have h2:¬ m≠m2:=of_decide_eq_false h2
  have h2:m=m2:=by omega
  have e1:decide ((li,m,o,l).1=(li2,m2,o2,l2).1)=true:=decide_eq_true h
  have e2:decide ((li,m,o,l).2.1=(li2,m2,o2,l2).2.1)=true:=decide_eq_true h2
 ·have h3:(symV (li,m,o,l)).2≠0:=of_decide_eq_true h3
  exact QC.flat (out _ (by unfold saV;rw [e1,e2,decide_eq_false h3];rfl)) rfl rfl
 all_goals
  have h3:¬ (symV (li,m,o,l)).2≠0:=of_decide_eq_false h3
  have h3:(symV (li,m,o,l)).2=0:=by omega
 ·have h4:(symV (li2,m2,o2,l2)).2=0:=of_decide_eq_true h4
  rw [winA,winA]
  refine ⟨by omega,by omega,symV_len _,?_⟩
  exact QC.flat (out _ (by unfold saV;rw [e1,e2,decide_eq_true h3,decide_eq_true h4];rfl)) rfl rfl
 ·have h4:¬ (symV (li2,m2,o2,l2)).2=0:=of_decide_eq_false h4
  refine ⟨rfl,?_⟩
  exact QC.flat (out _ (by unfold saV;rw [e1,e2,decide_eq_true h3,decide_eq_false h4];rfl)) rfl rfl
theorem sa_held:Held Tryd.prog G0 18 ctSa:=Held.run cxSa (fn:=Tryd.f18) rfl rfl ⟨by decide,by decide⟩ fun ⟨⟨li,m,o,l⟩,⟨li2,m2,o2,l2⟩,_⟩ _=>sa_run li li2 m o m2 o2 l l2 _
end Go.Proofs.YtkiicobbnllpkaaDoor
namespace Go.Proofs.YtkiicobbnllpkaaDoor
open Go.Px Go.Ax
set_option maxRecDepth 100000
def ctOld:Ctr:=⟨[iI,uB],fun _=>True,fun x=>[.agg [.bool true,.int .i64 x.1,.int .u8 x.2.1]],fun _=>[]⟩
def litL (x:List Int):List SyT:=x.map fun b=>(false,0,b)
def ctLit:Ctr:=⟨[.sl uB],fun x=>List.length x.1<1000000,fun x=>[.win true syS 0 0 (litL x.1).length],fun x=>[.row 52 syS (litL x.1)]⟩
def fmB (l:List SyT) (o:List OpT):Bool:=decide ((cpV l 4).2=0) && smB (cpV l 4).1 (false,4,l.length,o)
def ctFm:Ctr:=⟨[.sl syS,.sl opS],fun x=>List.length x.1<1000000,fun x=>[.bool (fmB x.1 x.2.1)],fun _=>[]⟩
def CFm:CV:=[(15,.inl ctCp),(17,.inl ctSm)]
theorem cxFm:CxOK Tryd.prog tt G0 CFm:=(cx0.cons sm_held (fn:=Tryd.f17) rfl rfl rfl).cons cp_held (fn:=Tryd.f15) rfl rfl rfl
set_option maxRecDepth 100000
theorem vc_old (a b:Int) (Q:QT) (R:RT):sy tt G0 [] Tryd.f25.ntmps Tryd.f25.results.toList Q R 1000 [.code (bodyOf Tryd.f25)] (entry [iI,uB] (a,b,())) =
  (Q [.agg [.bool true,.int .i64 a,.int .u8 b]] [(4,.var [.bool true,.int .i64 a,.int .u8 b])]):=by kernel_rfl
theorem vc_lit (x:List Int) (Q:QT) (R:RT):sy tt G0 [] Tryd.f29.ntmps Tryd.f29.results.toList Q (fun it S=>R it (keepS [0,3,4] [5,3] S)) 1000 [.code (bodyOf Tryd.f29)] (entry [.sl uB] (x,())) =
  (R (hd Tryd.f29 0) { env:=[(0,.sl uB x),(3,.win true syS 5 0 (0:Nat)),(4,.int .i64 0)],blk:=[(5,.row 52 syS (List.replicate (0:Nat) syS.dflt))] }):=by kernel_rfl
theorem vc_litL (x:List Int) (o:List SyT) (i:Nat) (Q:QT) (R:RT):sy tt G0 [] Tryd.f29.ntmps Tryd.f29.results.toList Q (fun it S=>R it (keepS [0,3,4] [5,19] S)) 1000 (hd Tryd.f29 0) ⟨[(0,.sl uB x),(3,.win true syS 5 0 o.length),(4,.int .i64 (i:Nat))],[(5,.row 52 syS o)]⟩ =
  (bc (decide ((i:Int)<(x.length:Int))) ((0:Int)≤(i:Int) ∧
 (i:Int)<(x.length:Int) ∧
 0+(1:Nat)≤([(false,(0:Int),gtB x (i:Int).toNat)]:List syS.D).length ∧
 o.length=o.length ∧
 (0:Nat)=(0:Nat) ∧
 o.length+(([(false,(0:Int),gtB x (i:Int).toNat)]:List syS.D)).length<(2:Nat) ^ (30:Nat) ∧
 (24:Nat)≤(2:Nat) ^ (10:Nat) ∧
 R (hd Tryd.f29 0) { env:=[(0,.sl uB x),(3,.win true syS 19 0 (o.length+(([(false,(0:Int),gtB x (i:Int).toNat)]:List syS.D)).length)),(4,.int .i64 (IntKind.i64.wrap ((i:Int)+(1:Int))))],blk:=[(19,.row 52 syS (o++([(false,(0:Int),gtB x (i:Int).toNat)]:List syS.D)))] }) (Q [.win true syS 5 0 o.length] [(5,.row 52 syS o)])):=by kernel_rfl
def mem_fm_m0 (l:List SyT):List (Nat × LB):=[(5,.var [.bool (cpV l (4:Int)).1.1,.int .i64 (cpV l (4:Int)).1.2.1,.int .i64 (cpV l (4:Int)).1.2.2.1,.sl opS (cpV l (4:Int)).1.2.2.2])]
theorem vc_fm (l:List SyT) (o:List OpT) (Q:QT) (R:RT):sy tt G0 CFm Tryd.f28.ntmps Tryd.f28.results.toList Q R 1000 [.code (bodyOf Tryd.f28)] (entry [.sl syS,.sl opS] (l,o,())) =
  (ctCp.pre (l,(4:Int),()) ∧
 bc (decide ((cpV l (4:Int)).2=(0:Int))) (ctSm.pre (((cpV l (4:Int)).1.1,(cpV l (4:Int)).1.2.1,(cpV l (4:Int)).1.2.2.1,(cpV l (4:Int)).1.2.2.2),(false,(4:Int),(l.length:Int),o),()) ∧
 Q [.bool (bif true then smB ((cpV l (4:Int)).1.1,(cpV l (4:Int)).1.2.1,(cpV l (4:Int)).1.2.2.1,(cpV l (4:Int)).1.2.2.2) (false,(4:Int),(l.length:Int),o) else false)] (mem_fm_m0 l)) (false=false ∧
 Q [.bool false] (mem_fm_m0 l))):=by kernel_rfl
end Go.Proofs.YtkiicobbnllpkaaDoor
namespace Go.Proofs.YtkiicobbnllpkaaDoor
open Go.Px Go.Ax
set_option maxRecDepth 100000
attribute [local irreducible] Go.Px.sy Go.Px.syE
theorem old_held:Held Tryd.prog G0 25 ctOld:=Held.run cx0 (fn:=Tryd.f25) rfl rfl ⟨by decide,by decide⟩ fun ⟨a,b,_⟩ _=>(vc_old a b _ _).mpr (QC.flat rfl rfl rfl)
theorem lit_loop (x:List Int) (hx:x.length<1000000):∀ (c i:Nat),x.length - i=c→i≤x.length →
  GD 29 Tryd.f29 (QC ctLit (x,())) (hd Tryd.f29 0) ⟨[(0,.sl uB x),(3,.win true syS 5 0 (litL (x.take i)).length),(4,.int .i64 (i:Nat))],[(5,.row 52 syS (litL (x.take i)))]⟩:=by
 intro c
 induction c with
 | zero=>
  intro i hc hi
  refine sy_goK cx0 (vc_litL x (litL (x.take i)) i _ _) ?_
  rw [decide_eq_false (by omega),bc_f,List.take_of_length_le (by omega)]
  exact qc_row (e:=syS) (et:=52) (a:=5) (xs:=litL x) rfl rfl rfl rfl rfl
 | succ c ih=>
  intro i hc hi
  have hil:i<x.length:=by omega
  have nx:=ih (i+1) (by omega) (by omega)
  have e:litL (x.take (i+1))=litL (x.take i)++[(false,0,x[i])]:=by unfold litL;rw [List.take_succ_eq_append_getElem hil,List.map_append];rfl
  have ll:(litL (x.take i)).length=i:=by simp [litL];omega
  rw [e] at nx
  refine sy_goK cx0 (vc_litL x (litL (x.take i)) i _ _) ?_
  rw [decide_eq_true (show (i:Int)<(x.length:Int) by omega),bc_t,Int.toNat_natCast,gtB_at hil,IntWalk.i64_in ((i:Int)+1) (by omega)]
  refine ⟨by omega,by omega,Nat.le_refl 1,rfl,rfl,?_,by decide,?_⟩
  ·show (litL (x.take i)).length+1<2 ^ 30
   omega
  ·exact nx.onlyR [(5,19)] rfl ⟨rfl,by rw [List.length_append];rfl,rfl,trivial⟩ ⟨rfl,trivial⟩
theorem lit_held:Held Tryd.prog G0 29 ctLit:=Held.of cx0 (fn:=Tryd.f29) rfl rfl ⟨by decide,by decide⟩ fun ⟨x,_⟩ hp=>
 sy_goK cx0 (vc_lit x _ _) ((lit_loop x hp _ 0 rfl (Nat.zero_le _)).only ⟨rfl,rfl,rfl,trivial⟩ ⟨rfl,trivial⟩)
theorem poV_ops (l:List SyT) (m:Int):(poV l m).1.2.2.2.length≤4096:=by
 unfold poV
 split
 ·exact Nat.zero_le _
 ·show (chL l).length≤4096
  omega
theorem cpV_ops (l:List SyT) (m:Int):(cpV l m).1.2.2.2.length≤4096:=by
 unfold cpV
 split
 ·exact Nat.zero_le _
 ·exact poV_ops l m
theorem fm_run (l:List SyT) (o:List OpT) (hl:l.length<1000000) (R:List Item→PS→Prop):sy tt G0 CFm Tryd.f28.ntmps Tryd.f28.results.toList (QC ctFm (l,o,())) R 1000 [.code (bodyOf Tryd.f28)] (entry [.sl syS,.sl opS] (l,o,())):=by
 have out:∀ b,fmB l o=b→ctFm.out (l,o,())=[SV.bool b]:=fun b e=>congrArg (fun b=>[SV.bool b]) e
 refine (vc_fm l o _ _).mpr ⟨(show l.length<16777216 by omega),bc_of (fun h=>⟨?_,?_⟩) (fun h=>⟨rfl,?_⟩)⟩
 ·show (cpV l 4).1.2.2.2.length<1099511627776
  have:=cpV_ops l 4
  omega
 ·exact QC.flat (out _ (by unfold fmB;rw [h];rfl)) rfl rfl
 ·exact QC.flat (out _ (by unfold fmB;rw [h];rfl)) rfl rfl
theorem fm_held:Held Tryd.prog G0 28 ctFm:=Held.run cxFm (fn:=Tryd.f28) rfl rfl ⟨by decide,by decide⟩ fun ⟨l,o,_⟩ hp=>fm_run l o hp _
end Go.Proofs.YtkiicobbnllpkaaDoor
namespace Go.Proofs.YtkiicobbnllpkaaDoor
open Go.Px Go.Ax
set_option maxRecDepth 100000
def CSn:CV:=[(25,.inl ctOld),(29,.inl ctLit),(28,.inl ctFm),(15,.inl ctCp),(13,.inl ctFo),(17,.inl ctSm),(18,.inl ctSa)]
theorem cxSn:CxOK Tryd.prog tt G0 CSn:=((((((cx0.cons sa_held (fn:=Tryd.f18) rfl rfl rfl).cons sm_held (fn:=Tryd.f17) rfl rfl rfl).cons fo_held (fn:=Tryd.f13) rfl rfl rfl).cons cp_held (fn:=Tryd.f15) rfl rfl rfl).cons fm_held (fn:=Tryd.f28) rfl rfl rfl).cons lit_held (fn:=Tryd.f29) rfl rfl rfl).cons old_held (fn:=Tryd.f25) rfl rfl rfl
set_option maxRecDepth 100000
theorem vc_san  (Q:QT) (R:RT):sy tt G0 CSn Tryd.f10.ntmps Tryd.f10.results.toList Q R 1000 [.code (bodyOf Tryd.f10)] (entry [] ()) =
  (ctOld.pre ((0:Int),(0:Int),()) ∧
 ctOld.pre ((1:Int),(0:Int),()) ∧
 ctOld.pre ((2:Int),(0:Int),()) ∧
 0+(3:Nat)≤((((List.replicate (3:Nat) syS.dflt).set (0:Nat) (true,(0:Int),(0:Int))).set (1:Nat) (true,(1:Int),(0:Int))).set (2:Nat) (true,(2:Int),(0:Int))).length ∧
 0+(1:Nat)≤([((1:Int),(0:Int),(3:Int),(0:Int),[])]:List opS.D).length ∧
 ctFm.pre (winL syS (0:Nat) (3:Nat) ((((List.replicate (3:Nat) syS.dflt).set (0:Nat) (true,(0:Int),(0:Int))).set (1:Nat) (true,(1:Int),(0:Int))).set (2:Nat) (true,(2:Int),(0:Int))),([((1:Int),(0:Int),(3:Int),(0:Int),[])]:List opS.D),()) ∧
 ctOld.pre ((0:Int),(0:Int),()) ∧
 ctOld.pre ((1:Int),(1:Int),()) ∧
 ctOld.pre ((2:Int),(0:Int),()) ∧
 0+(3:Nat)≤((((List.replicate (3:Nat) uB.dflt).set (0:Nat) (0:Int)).set (1:Nat) (1:Int)).set (2:Nat) (0:Int)).length ∧
 0+(3:Nat)≤((((List.replicate (3:Nat) uB.dflt).set (0:Nat) (0:Int)).set (1:Nat) (1:Int)).set (2:Nat) (0:Int)).length ∧
 0+(3:Nat)≤((((List.replicate (3:Nat) syS.dflt).set (0:Nat) (true,(0:Int),(0:Int))).set (1:Nat) (true,(1:Int),(1:Int))).set (2:Nat) (true,(2:Int),(0:Int))).length ∧
 0+(1:Nat)≤([((2:Int),(0:Int),(3:Int),(0:Int),winL uB (0:Nat) (3:Nat) ((((List.replicate (3:Nat) uB.dflt).set (0:Nat) (0:Int)).set (1:Nat) (1:Int)).set (2:Nat) (0:Int)))]:List opS.D).length ∧
 ctFm.pre (winL syS (0:Nat) (3:Nat) ((((List.replicate (3:Nat) syS.dflt).set (0:Nat) (true,(0:Int),(0:Int))).set (1:Nat) (true,(1:Int),(1:Int))).set (2:Nat) (true,(2:Int),(0:Int))),([((2:Int),(0:Int),(3:Int),(0:Int),winL uB (0:Nat) (3:Nat) ((((List.replicate (3:Nat) uB.dflt).set (0:Nat) (0:Int)).set (1:Nat) (1:Int)).set (2:Nat) (0:Int)))]:List opS.D),()) ∧
 0+(1:Nat)≤([(5:Int)]:List uB.D).length ∧
 ctLit.pre (([(5:Int)]:List uB.D),()) ∧
 0+(1:Nat)≤([(5:Int)]:List uB.D).length ∧
 0+(1:Nat)≤([(5:Int)]:List uB.D).length ∧
 0+(litL (([(5:Int)]:List uB.D))).length≤(litL (([(5:Int)]:List uB.D))).length ∧
 0+(1:Nat)≤([((4:Int),(0:Int),(1:Int),(0:Int),([(5:Int)]:List uB.D))]:List opS.D).length ∧
 ctFm.pre (winL syS 0 (litL (([(5:Int)]:List uB.D))).length (litL (([(5:Int)]:List uB.D))),([((4:Int),(0:Int),(1:Int),(0:Int),winL uB (0:Nat) (1:Nat) ([(5:Int)]:List uB.D))]:List opS.D),()) ∧
 0+(2:Nat)≤(((List.replicate (2:Nat) uB.dflt).set (0:Nat) (5:Int)).set (1:Nat) (5:Int)).length ∧
 ctLit.pre (winL uB (0:Nat) (2:Nat) (((List.replicate (2:Nat) uB.dflt).set (0:Nat) (5:Int)).set (1:Nat) (5:Int)),()) ∧
 0+(litL (winL uB (0:Nat) (2:Nat) (((List.replicate (2:Nat) uB.dflt).set (0:Nat) (5:Int)).set (1:Nat) (5:Int)))).length≤(litL (winL uB (0:Nat) (2:Nat) (((List.replicate (2:Nat) uB.dflt).set (0:Nat) (5:Int)).set (1:Nat) (5:Int)))).length ∧
 0+(1:Nat)≤([((3:Int),(0:Int),(2:Int),(5:Int),[])]:List opS.D).length ∧
 ctFm.pre (winL syS 0 (litL (winL uB (0:Nat) (2:Nat) (((List.replicate (2:Nat) uB.dflt).set (0:Nat) (5:Int)).set (1:Nat) (5:Int)))).length (litL (winL uB (0:Nat) (2:Nat) (((List.replicate (2:Nat) uB.dflt).set (0:Nat) (5:Int)).set (1:Nat) (5:Int)))),([((3:Int),(0:Int),(2:Int),(5:Int),[])]:List opS.D),()) ∧
 0+(6:Nat)≤(((((((List.replicate (6:Nat) uB.dflt).set (0:Nat) (1:Int)).set (1:Nat) (7:Int)).set (2:Nat) (7:Int)).set (3:Nat) (7:Int)).set (4:Nat) (7:Int)).set (5:Nat) (2:Int)).length ∧
 ctLit.pre (winL uB (0:Nat) (6:Nat) (((((((List.replicate (6:Nat) uB.dflt).set (0:Nat) (1:Int)).set (1:Nat) (7:Int)).set (2:Nat) (7:Int)).set (3:Nat) (7:Int)).set (4:Nat) (7:Int)).set (5:Nat) (2:Int)),()) ∧
 0+(6:Nat)≤(((((((List.replicate (6:Nat) uB.dflt).set (0:Nat) (1:Int)).set (1:Nat) (7:Int)).set (2:Nat) (7:Int)).set (3:Nat) (7:Int)).set (4:Nat) (7:Int)).set (5:Nat) (2:Int)).length ∧
 0+(6:Nat)≤(((((((List.replicate (6:Nat) uB.dflt).set (0:Nat) (1:Int)).set (1:Nat) (7:Int)).set (2:Nat) (7:Int)).set (3:Nat) (7:Int)).set (4:Nat) (7:Int)).set (5:Nat) (2:Int)).length ∧
 0+(litL (winL uB (0:Nat) (6:Nat) (((((((List.replicate (6:Nat) uB.dflt).set (0:Nat) (1:Int)).set (1:Nat) (7:Int)).set (2:Nat) (7:Int)).set (3:Nat) (7:Int)).set (4:Nat) (7:Int)).set (5:Nat) (2:Int)))).length≤(litL (winL uB (0:Nat) (6:Nat) (((((((List.replicate (6:Nat) uB.dflt).set (0:Nat) (1:Int)).set (1:Nat) (7:Int)).set (2:Nat) (7:Int)).set (3:Nat) (7:Int)).set (4:Nat) (7:Int)).set (5:Nat) (2:Int)))).length ∧
 0+(1:Nat)≤([((4:Int),(0:Int),(6:Int),(0:Int),winL uB (0:Nat) (6:Nat) (((((((List.replicate (6:Nat) uB.dflt).set (0:Nat) (1:Int)).set (1:Nat) (7:Int)).set (2:Nat) (7:Int)).set (3:Nat) (7:Int)).set (4:Nat) (7:Int)).set (5:Nat) (2:Int)))]:List opS.D).length ∧
 ctFm.pre (winL syS 0 (litL (winL uB (0:Nat) (6:Nat) (((((((List.replicate (6:Nat) uB.dflt).set (0:Nat) (1:Int)).set (1:Nat) (7:Int)).set (2:Nat) (7:Int)).set (3:Nat) (7:Int)).set (4:Nat) (7:Int)).set (5:Nat) (2:Int)))).length (litL (winL uB (0:Nat) (6:Nat) (((((((List.replicate (6:Nat) uB.dflt).set (0:Nat) (1:Int)).set (1:Nat) (7:Int)).set (2:Nat) (7:Int)).set (3:Nat) (7:Int)).set (4:Nat) (7:Int)).set (5:Nat) (2:Int)))),([((4:Int),(0:Int),(6:Int),(0:Int),winL uB (0:Nat) (6:Nat) (((((((List.replicate (6:Nat) uB.dflt).set (0:Nat) (1:Int)).set (1:Nat) (7:Int)).set (2:Nat) (7:Int)).set (3:Nat) (7:Int)).set (4:Nat) (7:Int)).set (5:Nat) (2:Int)))]:List opS.D),()) ∧
 0+(12:Nat)≤(((((((((((((List.replicate (12:Nat) uB.dflt).set (0:Nat) (1:Int)).set (1:Nat) (7:Int)).set (2:Nat) (7:Int)).set (3:Nat) (7:Int)).set (4:Nat) (7:Int)).set (5:Nat) (7:Int)).set (6:Nat) (7:Int)).set (7:Nat) (7:Int)).set (8:Nat) (7:Int)).set (9:Nat) (7:Int)).set (10:Nat) (7:Int)).set (11:Nat) (7:Int)).length ∧
 ctLit.pre (winL uB (0:Nat) (12:Nat) (((((((((((((List.replicate (12:Nat) uB.dflt).set (0:Nat) (1:Int)).set (1:Nat) (7:Int)).set (2:Nat) (7:Int)).set (3:Nat) (7:Int)).set (4:Nat) (7:Int)).set (5:Nat) (7:Int)).set (6:Nat) (7:Int)).set (7:Nat) (7:Int)).set (8:Nat) (7:Int)).set (9:Nat) (7:Int)).set (10:Nat) (7:Int)).set (11:Nat) (7:Int)),()) ∧
 0+(1:Nat)≤([(1:Int)]:List uB.D).length ∧
 0+(1:Nat)≤([(1:Int)]:List uB.D).length ∧
 0+(litL (winL uB (0:Nat) (12:Nat) (((((((((((((List.replicate (12:Nat) uB.dflt).set (0:Nat) (1:Int)).set (1:Nat) (7:Int)).set (2:Nat) (7:Int)).set (3:Nat) (7:Int)).set (4:Nat) (7:Int)).set (5:Nat) (7:Int)).set (6:Nat) (7:Int)).set (7:Nat) (7:Int)).set (8:Nat) (7:Int)).set (9:Nat) (7:Int)).set (10:Nat) (7:Int)).set (11:Nat) (7:Int)))).length≤(litL (winL uB (0:Nat) (12:Nat) (((((((((((((List.replicate (12:Nat) uB.dflt).set (0:Nat) (1:Int)).set (1:Nat) (7:Int)).set (2:Nat) (7:Int)).set (3:Nat) (7:Int)).set (4:Nat) (7:Int)).set (5:Nat) (7:Int)).set (6:Nat) (7:Int)).set (7:Nat) (7:Int)).set (8:Nat) (7:Int)).set (9:Nat) (7:Int)).set (10:Nat) (7:Int)).set (11:Nat) (7:Int)))).length ∧
 0+(2:Nat)≤(((List.replicate (2:Nat) opS.dflt).set (0:Nat) ((4:Int),(0:Int),(1:Int),(0:Int),([(1:Int)]:List uB.D))).set (1:Nat) ((3:Int),(0:Int),(11:Int),(7:Int),[])).length ∧
 ctFm.pre (winL syS 0 (litL (winL uB (0:Nat) (12:Nat) (((((((((((((List.replicate (12:Nat) uB.dflt).set (0:Nat) (1:Int)).set (1:Nat) (7:Int)).set (2:Nat) (7:Int)).set (3:Nat) (7:Int)).set (4:Nat) (7:Int)).set (5:Nat) (7:Int)).set (6:Nat) (7:Int)).set (7:Nat) (7:Int)).set (8:Nat) (7:Int)).set (9:Nat) (7:Int)).set (10:Nat) (7:Int)).set (11:Nat) (7:Int)))).length (litL (winL uB (0:Nat) (12:Nat) (((((((((((((List.replicate (12:Nat) uB.dflt).set (0:Nat) (1:Int)).set (1:Nat) (7:Int)).set (2:Nat) (7:Int)).set (3:Nat) (7:Int)).set (4:Nat) (7:Int)).set (5:Nat) (7:Int)).set (6:Nat) (7:Int)).set (7:Nat) (7:Int)).set (8:Nat) (7:Int)).set (9:Nat) (7:Int)).set (10:Nat) (7:Int)).set (11:Nat) (7:Int)))),winL opS (0:Nat) (2:Nat) (((List.replicate (2:Nat) opS.dflt).set (0:Nat) ((4:Int),(0:Int),(1:Int),(0:Int),([(1:Int)]:List uB.D))).set (1:Nat) ((3:Int),(0:Int),(11:Int),(7:Int),[])),()) ∧
 ctOld.pre ((4:Int),(0:Int),()) ∧
 0+(1:Nat)≤([(true,(4:Int),(0:Int))]:List syS.D).length ∧
 ctCp.pre (([(true,(4:Int),(0:Int))]:List syS.D),(4:Int),()) ∧
 ctCp.pre ([],(-1:Int),()) ∧
 ctFo.pre ((false,(0:Int),(1:Int),[]),()) ∧
 ctFo.pre ((true,(2:Int),(0:Int),[]),()) ∧
 ctSm.pre (((foV (true,(2:Int),(0:Int),[])).1.1,(foV (true,(2:Int),(0:Int),[])).1.2.1,(foV (true,(2:Int),(0:Int),[])).1.2.2.1,(foV (true,(2:Int),(0:Int),[])).1.2.2.2),(true,(2:Int),(0:Int),[]),()) ∧
 ctSa.pre (((foV (true,(2:Int),(0:Int),[])).1.1,(foV (true,(2:Int),(0:Int),[])).1.2.1,(foV (true,(2:Int),(0:Int),[])).1.2.2.1,(foV (true,(2:Int),(0:Int),[])).1.2.2.2),((foV (true,(2:Int),(0:Int),[])).1.1,(foV (true,(2:Int),(0:Int),[])).1.2.1,(foV (true,(2:Int),(0:Int),[])).1.2.2.1,(foV (true,(2:Int),(0:Int),[])).1.2.2.2),()) ∧
 ctSa.pre (((foV (true,(2:Int),(0:Int),[])).1.1,(foV (true,(2:Int),(0:Int),[])).1.2.1,(foV (true,(2:Int),(0:Int),[])).1.2.2.1,(foV (true,(2:Int),(0:Int),[])).1.2.2.2),(false,(2:Int),(0:Int),[]),()) ∧
 ctSa.pre ((false,(0:Int),(1:Int),[]),(false,(0:Int),(1:Int),[]),()) ∧
 Q [.bool (bif true then !saV (false,(0:Int),(1:Int),[]) (false,(0:Int),(1:Int),[]) else false)] [(4,.var [.bool (cpV (([(true,(4:Int),(0:Int))]:List syS.D)) (4:Int)).1.1,.int .i64 (cpV (([(true,(4:Int),(0:Int))]:List syS.D)) (4:Int)).1.2.1,.int .i64 (cpV (([(true,(4:Int),(0:Int))]:List syS.D)) (4:Int)).1.2.2.1,.sl opS (cpV (([(true,(4:Int),(0:Int))]:List syS.D)) (4:Int)).1.2.2.2]),(6,.var [.bool (cpV [] (-1:Int)).1.1,.int .i64 (cpV [] (-1:Int)).1.2.1,.int .i64 (cpV [] (-1:Int)).1.2.2.1,.sl opS (cpV [] (-1:Int)).1.2.2.2]),(8,.var [.bool (foV (false,(0:Int),(1:Int),[])).1.1,.int .i64 (foV (false,(0:Int),(1:Int),[])).1.2.1,.int .i64 (foV (false,(0:Int),(1:Int),[])).1.2.2.1,.sl opS (foV (false,(0:Int),(1:Int),[])).1.2.2.2]),(10,.var [.bool (foV (true,(2:Int),(0:Int),[])).1.1,.int .i64 (foV (true,(2:Int),(0:Int),[])).1.2.1,.int .i64 (foV (true,(2:Int),(0:Int),[])).1.2.2.1,.sl opS (foV (true,(2:Int),(0:Int),[])).1.2.2.2]),(16,.row 52 syS ((((List.replicate (3:Nat) syS.dflt).set (0:Nat) (true,(0:Int),(0:Int))).set (1:Nat) (true,(1:Int),(0:Int))).set (2:Nat) (true,(2:Int),(0:Int)))),(18,.row 55 opS ([((1:Int),(0:Int),(3:Int),(0:Int),[])]:List opS.D)),(24,.row 52 syS ((((List.replicate (3:Nat) syS.dflt).set (0:Nat) (true,(0:Int),(0:Int))).set (1:Nat) (true,(1:Int),(1:Int))).set (2:Nat) (true,(2:Int),(0:Int)))),(27,.row 55 opS ([((2:Int),(0:Int),(3:Int),(0:Int),winL uB (0:Nat) (3:Nat) ((((List.replicate (3:Nat) uB.dflt).set (0:Nat) (0:Int)).set (1:Nat) (1:Int)).set (2:Nat) (0:Int)))]:List opS.D)),(30,.row 5 uB ([(5:Int)]:List uB.D)),(34,.row 55 opS ([((4:Int),(0:Int),(1:Int),(0:Int),([(5:Int)]:List uB.D))]:List opS.D)),(37,.row 5 uB (((List.replicate (2:Nat) uB.dflt).set (0:Nat) (5:Int)).set (1:Nat) (5:Int))),(40,.row 55 opS ([((3:Int),(0:Int),(2:Int),(5:Int),[])]:List opS.D)),(43,.row 5 uB (((((((List.replicate (6:Nat) uB.dflt).set (0:Nat) (1:Int)).set (1:Nat) (7:Int)).set (2:Nat) (7:Int)).set (3:Nat) (7:Int)).set (4:Nat) (7:Int)).set (5:Nat) (2:Int))),(47,.row 55 opS ([((4:Int),(0:Int),(6:Int),(0:Int),winL uB (0:Nat) (6:Nat) (((((((List.replicate (6:Nat) uB.dflt).set (0:Nat) (1:Int)).set (1:Nat) (7:Int)).set (2:Nat) (7:Int)).set (3:Nat) (7:Int)).set (4:Nat) (7:Int)).set (5:Nat) (2:Int)))]:List opS.D)),(50,.row 5 uB (((((((((((((List.replicate (12:Nat) uB.dflt).set (0:Nat) (1:Int)).set (1:Nat) (7:Int)).set (2:Nat) (7:Int)).set (3:Nat) (7:Int)).set (4:Nat) (7:Int)).set (5:Nat) (7:Int)).set (6:Nat) (7:Int)).set (7:Nat) (7:Int)).set (8:Nat) (7:Int)).set (9:Nat) (7:Int)).set (10:Nat) (7:Int)).set (11:Nat) (7:Int))),(55,.row 55 opS (((List.replicate (2:Nat) opS.dflt).set (0:Nat) ((4:Int),(0:Int),(1:Int),(0:Int),([(1:Int)]:List uB.D))).set (1:Nat) ((3:Int),(0:Int),(11:Int),(7:Int),[]))),(1126976,.row 52 syS (litL (([(5:Int)]:List uB.D)))),(1155648,.row 52 syS (litL (winL uB (0:Nat) (2:Nat) (((List.replicate (2:Nat) uB.dflt).set (0:Nat) (5:Int)).set (1:Nat) (5:Int))))),(1180224,.row 52 syS (litL (winL uB (0:Nat) (6:Nat) (((((((List.replicate (6:Nat) uB.dflt).set (0:Nat) (1:Int)).set (1:Nat) (7:Int)).set (2:Nat) (7:Int)).set (3:Nat) (7:Int)).set (4:Nat) (7:Int)).set (5:Nat) (2:Int))))),(1208896,.row 52 syS (litL (winL uB (0:Nat) (12:Nat) (((((((((((((List.replicate (12:Nat) uB.dflt).set (0:Nat) (1:Int)).set (1:Nat) (7:Int)).set (2:Nat) (7:Int)).set (3:Nat) (7:Int)).set (4:Nat) (7:Int)).set (5:Nat) (7:Int)).set (6:Nat) (7:Int)).set (7:Nat) (7:Int)).set (8:Nat) (7:Int)).set (9:Nat) (7:Int)).set (10:Nat) (7:Int)).set (11:Nat) (7:Int)))))]):=by kernel_rfl
end Go.Proofs.YtkiicobbnllpkaaDoor
namespace Go.Proofs.YtkiicobbnllpkaaDoor
open Go.Px Go.Ax
set_option maxRecDepth 100000
attribute [local irreducible] Go.Px.sy Go.Px.syE
def ctSan:Ctr:=⟨[],fun _=>True,fun _=>[.bool true],fun _=>[]⟩
theorem san_run (R:List Item→PS→Prop):sy tt G0 CSn Tryd.f10.ntmps Tryd.f10.results.toList (QC ctSan ()) R 1000 [.code (bodyOf Tryd.f10)] (entry [] ()):=by
 refine (vc_san _ _).mpr ?_
 repeat' first
  | exact trivial
  | (show List.length _<1000000;decide +kernel)
  | (show List.length _<16777216;decide +kernel)
  | (show List.length _<1099511627776;decide +kernel)
  | decide +kernel
  | refine And.intro ?_ ?_
  | (refine QC.flat ?_ rfl rfl)
  | (refine congrArg (fun b=>[SV.bool b]) ?_;decide +kernel)
theorem san_held:Held Tryd.prog G0 10 ctSan:=Held.run cxSn (fn:=Tryd.f10) rfl rfl ⟨by decide,by decide⟩ fun x _=>san_run _
end Go.Proofs.YtkiicobbnllpkaaDoor
namespace Go.Proofs.YtkiicobbnllpkaaDoor
open Go.Px Go.Ax
set_option maxRecDepth 100000
set_option maxRecDepth 100000
end Go.Proofs.YtkiicobbnllpkaaDoor
namespace Go.Proofs.YtkiicobbnllpkaaDoor
open Go.Px Go.Ax
set_option maxRecDepth 100000
attribute [local irreducible] Go.Px.sy Go.Px.syE
abbrev TQ:List SV→List (Nat × LB)→Prop:=fun rs _=>rs=[.bool true]
theorem frzG {f:Nat} {fn:Func} {Q:List SV→List (Nat × LB)→Prop} {it:List Item} {S:PS} {i:Nat} {e:Sh} {et:TypeId} {xs:List e.D} (hl:lk S.blk i=some (.row et e xs)) (hc:cdP i xs.length S=[0+xs.length≤xs.length]) (h:GD f fn Q it (S.frzR i e xs)):GD f fn Q it S:=
 Good.frz hl (fun c hcc=>by rw [hc] at hcc;rw [List.mem_singleton] at hcc;subst hcc;omega) h
abbrev gI3 (w:List Int) (i:Nat):Int:=gt (Sh.int .i32) w i
def preW (w:List Int):Prop:=∀ j,-2147483648≤gI3 w j∧gI3 w j<2147483648
theorem cpV_bad {l:List SyT} {m:Int} (h:¬ (szB m=true∧szB l.length=true∧l.all (sOK m)=true)):cpV l m=((false,0,0,[]),60):=by
 unfold cpV
 rw [if_pos ?_]
 by_cases h2:(ofV l m).2=60
 ·exact h2
 ·exact absurd (ofV_60 h2) h
theorem chk60 {m N:Int}:∀ {l:List OpT} {left i:Int},(chkF m N l left i).2=0∨(chkF m N l left i).2=60
 | [],left,i=>by
  simp only [chkF]
  split
  ·exact .inr rfl
  ·exact .inl rfl
 | x::l,left,i=>by
  simp only [chkF]
  split
  ·exact .inr rfl
  ·split
   ·exact .inr rfl
   ·exact chk60
theorem chkV60 (p:PaT):(chkV p).2=0∨(chkV p).2=60:=by
 unfold chkV
 split
 ·exact chk60
 ·exact .inr rfl
section
variable (z:Int) (l4:List (List Int)) (w:List Int) (h6:preM6 z l4) (hw:preW w)
include h6 hw
end
end Go.Proofs.YtkiicobbnllpkaaDoor
namespace Go.Proofs.YtkiicobbnllpkaaDoor
open Go.Px Go.Ax
set_option maxRecDepth 100000
def ctOpc:Ctr:=⟨[opS],fun _=>True,fun x=>[.int .i64 (cN x.1.1.toNat x.1)],fun _=>[]⟩
set_option maxRecDepth 100000
def mem_opc_m0 (x:OpT):List (Nat × LB):=[(1,.var [.int .i64 x.1,.int .i64 x.2.1,.int .i64 x.2.2.1,.int .u8 x.2.2.2.1,.sl uB x.2.2.2.2])]
theorem vc_opc (x:OpT) (Q:QT) (R:RT):sy tt G0 [] Tryd.f43.ntmps Tryd.f43.results.toList Q R 1000 [.code (bodyOf Tryd.f43)] (entry [opS] (x,())) =
  (bc (decide (x.1=(2:Int))) (Q [.int .i64 (IntKind.i64.wrap ((4:Int)+x.2.2.1))] (mem_opc_m0 x)) (bc (decide (x.1=(4:Int))) (Q [.int .i64 (IntKind.i64.wrap ((2:Int)+x.2.2.1))] (mem_opc_m0 x)) (Q [.int .i64 4] (mem_opc_m0 x)))):=by kernel_rfl
end Go.Proofs.YtkiicobbnllpkaaDoor
namespace Go.Proofs.YtkiicobbnllpkaaDoor
open Go.Px Go.Ax
set_option maxRecDepth 100000
attribute [local irreducible] Go.Px.sy Go.Px.syE
theorem opc_run (k f n b:Int) (d:List Int) (R:List Item→PS→Prop):sy tt G0 [] Tryd.f43.ntmps Tryd.f43.results.toList (QC ctOpc ((k,f,n,b,d),())) R 1000 [.code (bodyOf Tryd.f43)] (entry [opS] ((k,f,n,b,d),())):=by
 have out:∀ c,cN k.toNat ((k,f,n,b,d):OpT)=c→ctOpc.out ((k,f,n,b,d),())=[SV.int .i64 c]:=fun c e=>congrArg (fun c=>[SV.int .i64 c]) e
 refine (vc_opc (k,f,n,b,d) _ _).mpr (bc_of (fun h=>?_) (fun h=>bc_of (fun h2=>?_) (fun h2=>?_)))
 ·have h:k=2:=of_decide_eq_true h
  subst h
  exact QC.flat (out _ rfl) rfl rfl
 ·have h2:k=4:=of_decide_eq_true h2
  subst h2
  exact QC.flat (out _ rfl) rfl rfl
 ·have h:¬ k=2:=of_decide_eq_false h
  have h2:¬ k=4:=of_decide_eq_false h2
  refine QC.flat (out _ ?_) rfl rfl
  unfold cN
  split
  ·omega
  ·omega
  ·rfl
theorem opc_held:Held Tryd.prog G0 43 ctOpc:=Held.run cx0 (fn:=Tryd.f43) rfl rfl ⟨by decide,by decide⟩ fun ⟨⟨k,f,n,b,d⟩,_⟩ _=>opc_run k f n b d _
theorem cxOpc:CxOK Tryd.prog tt G0 [(43,.inl ctOpc)]:=cx0.cons opc_held (fn:=Tryd.f43) rfl rfl rfl
end Go.Proofs.YtkiicobbnllpkaaDoor
namespace Go.Proofs.YtkiicobbnllpkaaDoor
open Go.Px Go.Ax
def fokB (k:Int) (s t:SyT) (n:Nat):Bool:=
 if k=1 then (s.1 && (t.1 && decide (t.2.1=IntKind.i64.wrap (s.2.1+(n:Int))))) && decide (t.2.2=0)
 else if k=2 then s.1 && (t.1 && decide (t.2.1=IntKind.i64.wrap (s.2.1+(n:Int))))
 else if k=3 then !s.1 && (!t.1 && decide (t.2.2=s.2.2))
 else if k=4 then !t.1 else true
def fitR (k:Int) (l:List SyT):Nat→Nat→Nat
 | 0,n=>n
 | f+1,n=>if n<l.length∧fokB k (gtY l 0) (gtY l n) n=true then fitR k l f (n+1) else n
theorem fok_iff {m:Int} (hm:m<16777216) {k:Int} (hk:kOK k) {l:List SyT} (hr:∀ s∈l,sOK m s=true) {n:Nat} (hn:n<l.length) (hl:l.length≤65536) (h0:0<n→canB k (gtY l 0)=true) :
  (fokB k (gtY l 0) (gtY l n) n=true↔canB k (gtY l n)=true∧(k=1∨k=2→(gtY l n).2.1=(gtY l 0).2.1+n)∧(k=3→(gtY l n).2.2=(gtY l 0).2.2)):=by
 have ok:∀ j,j<l.length→sOK m (gtY l j)=true:=fun j hj=>by rw [gtY_at hj];exact hr _ (List.getElem_mem hj)
 have k0:=ok 0 (by omega)
 have kn:=ok n hn
 have hz:n=0→gtY l n=gtY l 0:=fun h=>by rw [h]
 generalize gtY l n=t at *
 generalize gtY l 0=s at *
 have wrapN:s.1=true→IntKind.i64.wrap (s.2.1+(n:Int))=s.2.1+n:=fun o=>by
  have b:=sOK_t k0 o
  exact IntWalk.i64_in _ (by omega)
 have hs:canB k t=true→canB k s=true:=fun h=>by
  rcases Nat.eq_zero_or_pos n with e | e
  ·rw [← hz e];exact h
  ·exact h0 e
 rcases (show k=1∨k=2∨k=3∨k=4 by unfold kOK at hk;omega) with e | e | e | e
 ·subst e
  constructor
  ·intro h
   simp [fokB] at h
   rw [wrapN h.1.1] at h
   exact ⟨by simp [canB,h],fun _=>h.1.2.2,fun q=>by omega⟩
  ·rintro ⟨h1,h2,_⟩
   have o:=canB_old (.inl rfl) (hs h1)
   have:=h2 (.inl rfl)
   simp [canB] at h1
   simp [fokB,wrapN o,o,h1,this]
 ·subst e
  constructor
  ·intro h
   simp [fokB] at h
   rw [wrapN h.1] at h
   exact ⟨by simp [canB,h],fun _=>h.2.2,fun q=>by omega⟩
  ·rintro ⟨h1,h2,_⟩
   have o:=canB_old (.inr rfl) (hs h1)
   have:=h2 (.inr rfl)
   simp [canB] at h1
   simp [fokB,wrapN o,o,h1,this]
 ·subst e
  constructor
  ·intro h
   simp [fokB] at h
   exact ⟨by simp [canB,h],fun q=>by omega,fun _=>h.2.2⟩
  ·rintro ⟨h1,_,h3⟩
   have o:=hs h1
   have:=h3 rfl
   simp [canB] at h1 o
   simp [fokB,o,h1,this]
 ·subst e
  constructor
  ·intro h
   simp [fokB] at h
   exact ⟨by simp [canB,h],fun q=>by omega,fun q=>by omega⟩
  ·rintro ⟨h1,_,_⟩
   simp [canB] at h1
   simp [fokB,h1]
theorem fitR_eq {m:Int} (hm:m<16777216) {k:Int} (hk:kOK k) {l:List SyT} (hr:∀ s∈l,sOK m s=true) (hl:l.length≤65536):∀ (f n:Nat),l.length - n≤f→n≤fitN k l→fitR k l f n=fitN k l:=by
 have hi:=fit_is hm (k:=k) hr
 have hle:=fitN_le k l
 intro f
 induction f with
 | zero=>
  intro n hf hn
  rw [fitR];omega
 | succ f ih=>
  intro n hf hn
  rw [fitR]
  by_cases hlt:n<fitN k l
  ·have h:=hi n hlt
   rw [if_pos ⟨by omega,(fok_iff hm hk hr (by omega) hl fun _=>(hi 0 (by omega)).1).2 h⟩]
   exact ih (n+1) (by omega) (by omega)
  ·have e:n=fitN k l:=by omega
   rw [if_neg ?_]
   ·exact e
   ·rintro ⟨h1,h2⟩
    have h:=(fok_iff hm hk hr h1 hl fun hp=>(hi 0 (by omega)).1).1 h2
    have:=is_fit hm (k:=k) (n:=n+1) hr (by omega) fun j hj=>by
     rcases Nat.lt_or_ge j n with q | q
     ·exact hi j (by omega)
     ·have:j=n:=by omega
      subst this;exact h
    omega
def xR (k:Int) (n:Nat) (l:List SyT):LiT:=(k,(n:Int),hdC k+eaC k * (n:Int)+cst (l.drop n),1+oct (l.drop n))
def rlt (x c:LiT):Bool:=decide (x.2.2.1<c.2.2.1) || (decide (x.2.2.1=c.2.2.1) && decide (x.2.2.2<c.2.2.2))
def innS (k:Int) (n:Nat) (l:List SyT) (c:LiT × Bool):LiT × Bool:=if (!c.2 || rlt (xR k n l) c.1)=true then (xR k n l,true) else c
def innR (k:Int) (l:List SyT):Nat→LiT × Bool→LiT × Bool
 | 0,c=>c
 | n+1,c=>innR k l n (innS k (n+1) l c)
def kinR (k:Int) (l:List SyT) (c:LiT × Bool):LiT × Bool:=innR k l (fitN k l) c
def refB (l:List SyT):LiT:=(kinR 4 l (kinR 3 l (kinR 2 l (kinR 1 l (zLi,false))))).1
def prcd (l:List SyT) (k:Int) (n:Nat) (k':Int) (q:Nat):Prop:=kOK k'∧1≤q∧q≤fitN k' l∧(k'<k∨(k'=k∧n<q))
def invR (l:List SyT) (k:Int) (n:Nat) (c:LiT × Bool):Prop:=
 (c=(zLi,false)∧∀ k' q,¬ prcd l k n k' q)∨(c.2=true∧∃ q,prcd l k n c.1.1 q∧c.1=xR c.1.1 q l∧∀ k' r,prcd l k n k' r→keyL c.1.1 q l≤keyL k' r l)
theorem xR_key (k:Int) (n:Nat) (l:List SyT):keyL k n l=(wB (xR k n l) * 8+k) * 1048576 - (n:Int):=by
 have e:wB (xR k n l)=(hdC k+eaC k * (n:Int)) * 4294967296+1+wB (bst (l.drop n)):=by
  show (hdC k+eaC k * (n:Int)+(bst (l.drop n)).2.2.1) * 4294967296+(1+(bst (l.drop n)).2.2.2)=_+((bst (l.drop n)).2.2.1 * 4294967296+(bst (l.drop n)).2.2.2)
  generalize eaC k * (n:Int)=e
  omega
 rw [e];rfl
theorem xR_ops {l:List SyT} (hl:l.length≤65536) (k:Int) (n:Nat):0≤(xR k n l).2.2.2∧(xR k n l).2.2.2<4294967296:=by
 have h:=bst_bo (l.drop n) (by rw [List.length_drop];omega)
 rw [List.length_drop] at h
 unfold boL at h
 show 0≤1+(bst (l.drop n)).2.2.2∧1+(bst (l.drop n)).2.2.2<4294967296
 omega
theorem rlt_w {x c:LiT} (hx:0≤x.2.2.2∧x.2.2.2<4294967296) (hc:0≤c.2.2.2∧c.2.2.2<4294967296):(rlt x c=true↔wB x<wB c):=by
 unfold rlt wB
 simp only [Bool.or_eq_true,Bool.and_eq_true,decide_eq_true_eq]
 omega
theorem innS_inv {l:List SyT} (hl:l.length≤65536) {k:Int} (hk:kOK k) {n:Nat} (hn:n+1≤fitN k l) {c:LiT × Bool} (hc:invR l k (n+1) c):invR l k n (innS k (n+1) l c):=by
 have fl:=fun k=>fitN_le k l
 have me:prcd l k n k (n+1):=⟨hk,by omega,hn,.inr ⟨rfl,by omega⟩⟩
 have more:∀ k' q,prcd l k n k' q→prcd l k (n+1) k' q∨(k'=k∧q=n+1):=fun k' q ⟨h1,h2,h3,h4⟩=>by
  rcases h4 with h | h
  ·exact .inl ⟨h1,h2,h3,.inl h⟩
  ·by_cases e:q=n+1
   ·exact .inr ⟨h.1,e⟩
   ·exact .inl ⟨h1,h2,h3,.inr ⟨h.1,by omega⟩⟩
 have less:∀ k' q,prcd l k (n+1) k' q→prcd l k n k' q:=fun k' q ⟨h1,h2,h3,h4⟩=>⟨h1,h2,h3,by omega⟩
 unfold innS
 rcases hc with ⟨h1,h2⟩ | ⟨h1,q,h2,h3,h4⟩
 ·subst h1
  rw [if_pos (show (!(zLi,false).2 || rlt (xR k (n+1) l) (zLi,false).1)=true from rfl)]
  refine .inr ⟨rfl,n+1,me,rfl,fun k' r h=>?_⟩
  rcases more k' r h with h | ⟨h,h'⟩
  ·exact absurd h (h2 k' r)
  ·subst h;subst h';exact Int.le_refl _
 ·have ek:=xR_key c.1.1 q l
  have en:=xR_key k (n+1) l
  rw [← h3] at ek
  have f1:=fl k
  have f2:=fl c.1.1
  have hlt:=rlt_w (x:=xR k (n+1) l) (c:=c.1) (xR_ops hl k (n+1)) (by rw [h3];exact xR_ops hl _ _)
  obtain ⟨p1,p2,p3,p4⟩:=h2
  rw [h1]
  simp only [Bool.not_true,Bool.false_or]
  by_cases hb:rlt (xR k (n+1) l) c.1=true
  ·rw [if_pos hb]
   have hw:=hlt.1 hb
   refine .inr ⟨rfl,n+1,me,rfl,fun k' r h=>?_⟩
   show keyL k (n+1) l≤_
   rcases more k' r h with h | ⟨h,h'⟩
   ·have:=h4 k' r h
    unfold kOK at hk p1
    omega
   ·subst h;subst h';exact Int.le_refl _
  ·rw [if_neg hb]
   have hw:¬ wB (xR k (n+1) l)<wB c.1:=fun h=>hb (hlt.2 h)
   refine .inr ⟨h1,q,less _ _ ⟨p1,p2,p3,p4⟩,h3,fun k' r h=>?_⟩
   rcases more k' r h with h | ⟨h,h'⟩
   ·exact h4 k' r h
   ·subst h;subst h'
    unfold kOK at hk p1
    omega
theorem innR_inv {l:List SyT} (hl:l.length≤65536) {k:Int} (hk:kOK k):∀ (n:Nat) (c:LiT × Bool),n≤fitN k l→invR l k n c→invR l k 0 (innR k l n c)
 | 0,c,_,h=>h
 | n+1,c,hn,h=>innR_inv hl hk n _ (by omega) (innS_inv hl hk hn h)
theorem kinR_inv {l:List SyT} (hl:l.length≤65536) {k:Int} (hk:kOK k) {c:LiT × Bool} (h:invR l (k - 1) 0 c):invR l k 0 (kinR k l c):=by
 refine innR_inv hl hk _ _ (Nat.le_refl _) ?_
 have e:∀ k' q,prcd l k (fitN k l) k' q↔prcd l (k - 1) 0 k' q:=fun k' q=>by
  unfold prcd
  constructor
  ·rintro ⟨h1,h2,h3,h4⟩
   refine ⟨h1,h2,h3,?_⟩
   rcases h4 with h | ⟨h,h'⟩
   ·omega
   ·subst h;omega
  ·rintro ⟨h1,h2,h3,h4⟩
   exact ⟨h1,h2,h3,by omega⟩
 rcases h with ⟨h1,h2⟩ | ⟨h1,q,h2,h3,h4⟩
 ·exact .inl ⟨h1,fun k' q h=>h2 k' q ((e k' q).1 h)⟩
 ·exact .inr ⟨h1,q,(e _ _).2 h2,h3,fun k' r h=>h4 k' r ((e k' r).1 h)⟩
theorem refB_eq {l:List SyT} (hl:l.length≤65536):refB l=bst l:=by
 have h0:invR l 0 0 (zLi,false):=.inl ⟨rfl,fun k' q h=>by obtain ⟨h1,h2,h3,h4⟩:=h;unfold kOK at h1;omega⟩
 have h1:=kinR_inv hl (k:=1) (by unfold kOK;omega) h0
 have h2:=kinR_inv hl (k:=2) (by unfold kOK;omega) h1
 have h3:=kinR_inv hl (k:=3) (by unfold kOK;omega) h2
 have h4:=kinR_inv hl (k:=4) (by unfold kOK;omega) h3
 have all:∀ k' q,kOK k'→1≤q→q≤fitN k' l→prcd l 4 0 k' q:=fun k' q a b c=>⟨a,b,c,by unfold kOK at a;omega⟩
 show (kinR 4 l (kinR 3 l (kinR 2 l (kinR 1 l (zLi,false))))).1=_
 generalize kinR 4 l (kinR 3 l (kinR 2 l (kinR 1 l (zLi,false))))=c at *
 rcases h4 with ⟨q1,q2⟩ | ⟨q1,q,q2,q3,q4⟩
 ·rw [q1]
  cases l with
  | nil=>rfl
  | cons s r=>
   exfalso
   rcases fit_some s r with h | h
   ·exact q2 2 1 (all 2 1 (by unfold kOK;omega) (by omega) h)
   ·exact q2 4 1 (all 4 1 (by unfold kOK;omega) (by omega) h)
 ·have hq:l≠[]:=fun h=>by subst h;have:=q2.2.2.1;rw [fitN] at this;have:=q2.2.1;omega
  obtain ⟨u1,u2⟩:=bst_is hl q2.1 q2.2.1 q2.2.2.1 fun k' hk' m m1 m2=>q4 k' m (all k' m hk' m1 m2)
  obtain ⟨hb,n,n1,n2,n3,n4,n5,n6⟩:=bst_ne hl hq
  have en:n=q:=by omega
  subst en
  rw [u1] at n5
  rw [q3]
  unfold xR
  rw [← n5,← n6,← u1]
  show ((bst l).1,(n:Int),(bst l).2.2.1,(bst l).2.2.2)=bst l
  rw [← u2]
end Go.Proofs.YtkiicobbnllpkaaDoor
namespace Go.Proofs.YtkiicobbnllpkaaDoor
open Go.Px Go.Ax
set_option maxRecDepth 100000
set_option maxRecDepth 100000
theorem vc_ft (k:Int) (l:List SyT) (Q:QT) (R:RT):sy tt G0 [] Tryd.f44.ntmps Tryd.f44.results.toList Q (fun it S=>R it (keepS [0,1,5] [] S)) 1000 [.code (bodyOf Tryd.f44)] (entry [iI,.sl syS] (k,l,())) =
  (R (hd Tryd.f44 0) { env:=[(0,.int .i64 k),(1,.sl syS l),(5,.int .i64 0)],blk:=[] }):=by kernel_rfl
def mem_ftL1_m0 (l:List SyT) (n:Nat):List (Nat × LB):=[(6,.var [.bool (gtY l (0)).1,.int .i64 (gtY l (0)).2.1,.int .u8 (gtY l (0)).2.2]),(7,.var [.bool (gtY l (n:Int).toNat).1,.int .i64 (gtY l (n:Int).toNat).2.1,.int .u8 (gtY l (n:Int).toNat).2.2])]
theorem vc_ftL1 (l:List SyT) (n:Nat) (Q:QT) (R:RT):sy tt G0 [] Tryd.f44.ntmps Tryd.f44.results.toList Q (fun it S=>R it (keepS [0,1,5] [] S)) 1000 (hd Tryd.f44 0) ⟨[(0,.int .i64 1),(1,.sl syS l),(5,.int .i64 (n:Nat))],[]⟩ =
  (bc (decide ((n:Int)<(l.length:Int))) ((0:Int)≤(0:Int) ∧
 (0:Int)<(l.length:Int) ∧
 (0:Int)≤(n:Int) ∧
 (n:Int)<(l.length:Int) ∧
 bc (gtY l (0)).1 (bc (bif true then (gtY l (n:Int).toNat).1 else false) (bc (!bif true then decide ((gtY l (n:Int).toNat).2.1=IntKind.i64.wrap ((gtY l (0)).2.1+(n:Int))) else false) (true=true ∧
 Q [.int .i64 (n:Int)] (mem_ftL1_m0 l n)) (bc (decide ((gtY l (n:Int).toNat).2.2≠(0:Int))) (Q [.int .i64 (n:Int)] (mem_ftL1_m0 l n)) (false=false ∧
 false=false ∧
 false=false ∧
 R (hd Tryd.f44 0) { env:=[(0,.int .i64 1),(1,.sl syS l),(5,.int .i64 (IntKind.i64.wrap ((n:Int)+(1:Int))))],blk:=[] }))) (false=false ∧
 true=true ∧
 Q [.int .i64 (n:Int)] (mem_ftL1_m0 l n))) (false=false ∧
 false=false ∧
 true=true ∧
 Q [.int .i64 (n:Int)] (mem_ftL1_m0 l n))) (Q [.int .i64 (n:Int)] [])):=by kernel_rfl
def mem_ftL2_m0 (l:List SyT) (n:Nat):List (Nat × LB):=[(6,.var [.bool (gtY l (0)).1,.int .i64 (gtY l (0)).2.1,.int .u8 (gtY l (0)).2.2]),(7,.var [.bool (gtY l (n:Int).toNat).1,.int .i64 (gtY l (n:Int).toNat).2.1,.int .u8 (gtY l (n:Int).toNat).2.2])]
theorem vc_ftL2 (l:List SyT) (n:Nat) (Q:QT) (R:RT):sy tt G0 [] Tryd.f44.ntmps Tryd.f44.results.toList Q (fun it S=>R it (keepS [0,1,5] [] S)) 1000 (hd Tryd.f44 0) ⟨[(0,.int .i64 2),(1,.sl syS l),(5,.int .i64 (n:Nat))],[]⟩ =
  (bc (decide ((n:Int)<(l.length:Int))) ((0:Int)≤(0:Int) ∧
 (0:Int)<(l.length:Int) ∧
 (0:Int)≤(n:Int) ∧
 (n:Int)<(l.length:Int) ∧
 bc (gtY l (0)).1 (bc (bif true then (gtY l (n:Int).toNat).1 else false) (false=false ∧
 bc (bif true then !bif true then decide ((gtY l (n:Int).toNat).2.1=IntKind.i64.wrap ((gtY l (0)).2.1+(n:Int))) else false else false) (Q [.int .i64 (n:Int)] (mem_ftL2_m0 l n)) (false=false ∧
 false=false ∧
 R (hd Tryd.f44 0) { env:=[(0,.int .i64 2),(1,.sl syS l),(5,.int .i64 (IntKind.i64.wrap ((n:Int)+(1:Int))))],blk:=[] })) (false=false ∧
 false=false ∧
 Q [.int .i64 (n:Int)] (mem_ftL2_m0 l n))) (false=false ∧
 false=false ∧
 false=false ∧
 Q [.int .i64 (n:Int)] (mem_ftL2_m0 l n))) (Q [.int .i64 (n:Int)] [])):=by kernel_rfl
def mem_ftL3_m0 (l:List SyT) (n:Nat):List (Nat × LB):=[(6,.var [.bool (gtY l (0)).1,.int .i64 (gtY l (0)).2.1,.int .u8 (gtY l (0)).2.2]),(7,.var [.bool (gtY l (n:Int).toNat).1,.int .i64 (gtY l (n:Int).toNat).2.1,.int .u8 (gtY l (n:Int).toNat).2.2])]
theorem vc_ftL3 (l:List SyT) (n:Nat) (Q:QT) (R:RT):sy tt G0 [] Tryd.f44.ntmps Tryd.f44.results.toList Q (fun it S=>R it (keepS [0,1,5] [] S)) 1000 (hd Tryd.f44 0) ⟨[(0,.int .i64 3),(1,.sl syS l),(5,.int .i64 (n:Nat))],[]⟩ =
  (bc (decide ((n:Int)<(l.length:Int))) ((0:Int)≤(0:Int) ∧
 (0:Int)<(l.length:Int) ∧
 (0:Int)≤(n:Int) ∧
 (n:Int)<(l.length:Int) ∧
 bc (gtY l (0)).1 (bc (bif true then (gtY l (n:Int).toNat).1 else false) (false=false ∧
 false=false ∧
 bc (gtY l (0)).1 (true=true ∧
 true=true ∧
 Q [.int .i64 (n:Int)] (mem_ftL3_m0 l n)) (bc (bif false then true else (gtY l (n:Int).toNat).1) (true=true ∧
 Q [.int .i64 (n:Int)] (mem_ftL3_m0 l n)) (bc (decide ((gtY l (n:Int).toNat).2.2≠(gtY l (0)).2.2)) (Q [.int .i64 (n:Int)] (mem_ftL3_m0 l n)) (false=false ∧
 R (hd Tryd.f44 0) { env:=[(0,.int .i64 3),(1,.sl syS l),(5,.int .i64 (IntKind.i64.wrap ((n:Int)+(1:Int))))],blk:=[] })))) (false=false ∧
 false=false ∧
 false=false ∧
 bc (gtY l (0)).1 (true=true ∧
 true=true ∧
 Q [.int .i64 (n:Int)] (mem_ftL3_m0 l n)) (bc (bif false then true else (gtY l (n:Int).toNat).1) (true=true ∧
 Q [.int .i64 (n:Int)] (mem_ftL3_m0 l n)) (bc (decide ((gtY l (n:Int).toNat).2.2≠(gtY l (0)).2.2)) (Q [.int .i64 (n:Int)] (mem_ftL3_m0 l n)) (false=false ∧
 R (hd Tryd.f44 0) { env:=[(0,.int .i64 3),(1,.sl syS l),(5,.int .i64 (IntKind.i64.wrap ((n:Int)+(1:Int))))],blk:=[] }))))) (false=false ∧
 false=false ∧
 false=false ∧
 false=false ∧
 bc (gtY l (0)).1 (true=true ∧
 true=true ∧
 Q [.int .i64 (n:Int)] (mem_ftL3_m0 l n)) (bc (bif false then true else (gtY l (n:Int).toNat).1) (true=true ∧
 Q [.int .i64 (n:Int)] (mem_ftL3_m0 l n)) (bc (decide ((gtY l (n:Int).toNat).2.2≠(gtY l (0)).2.2)) (Q [.int .i64 (n:Int)] (mem_ftL3_m0 l n)) (false=false ∧
 R (hd Tryd.f44 0) { env:=[(0,.int .i64 3),(1,.sl syS l),(5,.int .i64 (IntKind.i64.wrap ((n:Int)+(1:Int))))],blk:=[] }))))) (Q [.int .i64 (n:Int)] [])):=by kernel_rfl
def mem_ftL4_m0 (l:List SyT) (n:Nat):List (Nat × LB):=[(6,.var [.bool (gtY l (0)).1,.int .i64 (gtY l (0)).2.1,.int .u8 (gtY l (0)).2.2]),(7,.var [.bool (gtY l (n:Int).toNat).1,.int .i64 (gtY l (n:Int).toNat).2.1,.int .u8 (gtY l (n:Int).toNat).2.2])]
theorem vc_ftL4 (l:List SyT) (n:Nat) (Q:QT) (R:RT):sy tt G0 [] Tryd.f44.ntmps Tryd.f44.results.toList Q (fun it S=>R it (keepS [0,1,5] [] S)) 1000 (hd Tryd.f44 0) ⟨[(0,.int .i64 4),(1,.sl syS l),(5,.int .i64 (n:Nat))],[]⟩ =
  (bc (decide ((n:Int)<(l.length:Int))) ((0:Int)≤(0:Int) ∧
 (0:Int)<(l.length:Int) ∧
 (0:Int)≤(n:Int) ∧
 (n:Int)<(l.length:Int) ∧
 bc (gtY l (0)).1 (bc (bif true then (gtY l (n:Int).toNat).1 else false) (false=false ∧
 false=false ∧
 false=false ∧
 bc (bif true then (gtY l (n:Int).toNat).1 else false) (Q [.int .i64 (n:Int)] (mem_ftL4_m0 l n)) (R (hd Tryd.f44 0) { env:=[(0,.int .i64 4),(1,.sl syS l),(5,.int .i64 (IntKind.i64.wrap ((n:Int)+(1:Int))))],blk:=[] })) (false=false ∧
 false=false ∧
 false=false ∧
 false=false ∧
 bc (bif true then (gtY l (n:Int).toNat).1 else false) (Q [.int .i64 (n:Int)] (mem_ftL4_m0 l n)) (R (hd Tryd.f44 0) { env:=[(0,.int .i64 4),(1,.sl syS l),(5,.int .i64 (IntKind.i64.wrap ((n:Int)+(1:Int))))],blk:=[] }))) (false=false ∧
 false=false ∧
 false=false ∧
 false=false ∧
 false=false ∧
 bc (bif true then (gtY l (n:Int).toNat).1 else false) (Q [.int .i64 (n:Int)] (mem_ftL4_m0 l n)) (R (hd Tryd.f44 0) { env:=[(0,.int .i64 4),(1,.sl syS l),(5,.int .i64 (IntKind.i64.wrap ((n:Int)+(1:Int))))],blk:=[] }))) (Q [.int .i64 (n:Int)] [])):=by kernel_rfl
theorem vc_pr (k n:Int) (Q:QT) (R:RT):sy tt G0 [(43,.inl ctOpc)] Tryd.f45.ntmps Tryd.f45.results.toList Q R 1000 [.code (bodyOf Tryd.f45)] (entry [iI,iI] (k,n,())) =
  (ctOpc.pre ((k,(0:Int),n,(0:Int),[]),()) ∧
 Q [.int .i64 (cN k.toNat (k,(0:Int),n,(0:Int),[]))] []):=by kernel_rfl
end Go.Proofs.YtkiicobbnllpkaaDoor
namespace Go.Proofs.YtkiicobbnllpkaaDoor
open Go.Px Go.Ax
set_option maxRecDepth 100000
attribute [local irreducible] Go.Px.sy Go.Px.syE
def preFt (k:Int) (l:List SyT):Prop:=kOK k∧l.length≤65536∧∃ m:Int,m<16777216∧∀ s∈l,sOK m s=true
def ctFt:Ctr:=⟨[iI,.sl syS],fun x=>preFt x.1 x.2.1,fun x=>[.int .i64 (fitN x.1 x.2.1:Nat)],fun _=>[]⟩
abbrev FtQ (n:Nat):List SV→List (Nat × LB)→Prop:=fun rs _=>rs=[.int .i64 (n:Nat)]
theorem ft_loop (k:Int) (hk:kOK k) (l:List SyT) (hl:l.length≤65536):∀ (f n:Nat),l.length - n=f→n≤l.length →
  GD 44 Tryd.f44 (FtQ (fitR k l f n)) (hd Tryd.f44 0) ⟨[(0,.int .i64 k),(1,.sl syS l),(5,.int .i64 (n:Nat))],[]⟩:=by
 intro f
 induction f with
 | zero=>
  intro n hf hn
  rw [fitR]
  have e:¬ (n:Int)<(l.length:Int):=by omega
  rcases (show k=1∨k=2∨k=3∨k=4 by unfold kOK at hk;omega) with h | h | h | h
  ·subst h;refine sy_goK cx0 (vc_ftL1 l n _ _) ?_;rw [decide_eq_false e,bc_f]
  ·subst h;refine sy_goK cx0 (vc_ftL2 l n _ _) ?_;rw [decide_eq_false e,bc_f]
  ·subst h;refine sy_goK cx0 (vc_ftL3 l n _ _) ?_;rw [decide_eq_false e,bc_f]
  ·subst h;refine sy_goK cx0 (vc_ftL4 l n _ _) ?_;rw [decide_eq_false e,bc_f]
 | succ f ih=>
  intro n hf hn
  have nx:=ih (n+1) (by omega) (by omega)
  have hlt:n<l.length:=by omega
  have w:IntKind.i64.wrap ((n:Int)+1)=((n+1:Nat):Int):=by rw [IntWalk.i64_in _ (by omega)];omega
  have stop:fokB k (gtY l 0) (gtY l n) n=false→[SV.int .i64 (n:Nat)]=[SV.int .i64 ((fitR k l (f+1) n:Nat):Int)]:=fun h=>by rw [fitR,if_neg (by rw [h];simp)]
  have go:fokB k (gtY l 0) (gtY l n) n=true→fitR k l (f+1) n=fitR k l f (n+1):=fun h=>by rw [fitR,if_pos ⟨hlt,h⟩]
  have e:decide ((n:Int)<(l.length:Int))=true:=decide_eq_true (by omega)
  have nk:fokB k (gtY l 0) (gtY l n) n=true→GD 44 Tryd.f44 (FtQ (fitR k l (f+1) n)) (hd Tryd.f44 0) ⟨[(0,.int .i64 k),(1,.sl syS l),(5,.int .i64 ((n+1:Nat):Int))],[]⟩:=fun h=>by rw [go h];exact nx
  generalize fitR k l (f+1) n=q at *
  clear nx ih go
  rcases (show k=1∨k=2∨k=3∨k=4 by unfold kOK at hk;omega) with h | h | h | h
  ·subst h
   refine sy_goK cx0 (vc_ftL1 l n _ _) ?_
   rw [e,bc_t,Int.toNat_natCast,w]
   generalize gtY l n=t at *
   generalize gtY l 0=s at *
   refine ⟨by omega,by omega,by omega,by omega,?_⟩
   repeat' first
    | exact stop (by simp_all [fokB])
    | exact (nk (by simp_all [fokB])).only ⟨rfl,rfl,rfl,trivial⟩ trivial
    | refine ⟨rfl,?_⟩
    | refine bc_of (fun h=>?_) (fun h=>?_)
  ·subst h
   refine sy_goK cx0 (vc_ftL2 l n _ _) ?_
   rw [e,bc_t,Int.toNat_natCast,w]
   generalize gtY l n=t at *
   generalize gtY l 0=s at *
   refine ⟨by omega,by omega,by omega,by omega,?_⟩
   repeat' first
    | exact stop (by simp_all [fokB])
    | exact (nk (by simp_all [fokB])).only ⟨rfl,rfl,rfl,trivial⟩ trivial
    | refine ⟨rfl,?_⟩
    | refine bc_of (fun h=>?_) (fun h=>?_)
  ·subst h
   refine sy_goK cx0 (vc_ftL3 l n _ _) ?_
   rw [e,bc_t,Int.toNat_natCast,w]
   generalize gtY l n=t at *
   generalize gtY l 0=s at *
   refine ⟨by omega,by omega,by omega,by omega,?_⟩
   repeat' first
    | exact stop (by simp_all [fokB])
    | exact (nk (by simp_all [fokB])).only ⟨rfl,rfl,rfl,trivial⟩ trivial
    | refine ⟨rfl,?_⟩
    | refine bc_of (fun h=>?_) (fun h=>?_)
  ·subst h
   refine sy_goK cx0 (vc_ftL4 l n _ _) ?_
   rw [e,bc_t,Int.toNat_natCast,w]
   generalize gtY l n=t at *
   generalize gtY l 0=s at *
   refine ⟨by omega,by omega,by omega,by omega,?_⟩
   repeat' first
    | exact stop (by simp_all [fokB])
    | exact (nk (by simp_all [fokB])).only ⟨rfl,rfl,rfl,trivial⟩ trivial
    | refine ⟨rfl,?_⟩
    | refine bc_of (fun h=>?_) (fun h=>?_)
theorem ft_run (k:Int) (l:List SyT) (hp:preFt k l):GD 44 Tryd.f44 (QC ctFt (k,l,())) [.code (bodyOf Tryd.f44)] (entry [iI,.sl syS] (k,l,())):=by
 obtain ⟨hk,hl,m,hm,hr⟩:=hp
 have h:=ft_loop k hk l hl l.length 0 (by omega) (Nat.zero_le _)
 rw [fitR_eq hm hk hr hl l.length 0 (by omega) (Nat.zero_le _)] at h
 exact sy_goK cx0 (vc_ft k l _ _) ((h.post fun rs blk hq=>QC.flat (by rw [hq];rfl) rfl (by rw [hq];rfl)).only ⟨rfl,rfl,rfl,trivial⟩ trivial)
theorem ft_held:Held Tryd.prog G0 44 ctFt:=Held.of cx0 (fn:=Tryd.f44) rfl rfl ⟨by decide,by decide⟩ fun ⟨k,l,_⟩ hp=>ft_run k l hp
def preKN (k n:Int):Prop:=kOK k∧0≤n∧n≤65536
def ctPr:Ctr:=⟨[iI,iI],fun x=>preKN x.1 x.2.1,fun x=>[.int .i64 (hdC x.1+eaC x.1 * x.2.1)],fun _=>[]⟩
theorem pr_val {k n:Int} (h:preKN k n):cN k.toNat ((k,0,n,0,[]):OpT)=hdC k+eaC k * n:=by
 obtain ⟨hk,h0,h1⟩:=h
 rcases (show k=1∨k=2∨k=3∨k=4 by unfold kOK at hk;omega) with e | e | e | e
 ·subst e;show (4:Int)=hdC 1+eaC 1 * _;simp [hdC,eaC]
 ·subst e
  show IntKind.i64.wrap (4+n)=_
  rw [IntWalk.i64_in _ (by omega)]
  simp [hdC,eaC]
 ·subst e;show (4:Int)=hdC 3+eaC 3 * _;simp [hdC,eaC]
 ·subst e
  show IntKind.i64.wrap (2+n)=_
  rw [IntWalk.i64_in _ (by omega)]
  simp [hdC,eaC]
theorem pr_run (k n:Int) (h:preKN k n) (R:List Item→PS→Prop):sy tt G0 [(43,.inl ctOpc)] Tryd.f45.ntmps Tryd.f45.results.toList (QC ctPr (k,n,())) R 1000 [.code (bodyOf Tryd.f45)] (entry [iI,iI] (k,n,())):=by
 refine (vc_pr k n _ _).mpr ⟨trivial,?_⟩
 rw [pr_val h]
 exact QC.flat rfl rfl rfl
theorem pr_held:Held Tryd.prog G0 45 ctPr:=Held.run cxOpc (fn:=Tryd.f45) rfl rfl ⟨by decide,by decide⟩ fun ⟨k,n,_⟩ hp=>pr_run k n hp _
end Go.Proofs.YtkiicobbnllpkaaDoor
namespace Go.Proofs.YtkiicobbnllpkaaDoor
open Go.Px Go.Ax
set_option maxRecDepth 100000
def opK (k:Int) (l:List SyT):OpT:=(k,if k=1∨k=2 then (gtY l 0).2.1 else 0,(l.length:Int),if k=3 then (gtY l 0).2.2 else 0,if k=2∨k=4 then l.map fun s=>s.2.2 else [])
def ctO8:Ctr:=⟨[iI,.sl syS],fun x=>preMk x.1 x.2.1,fun x=>mdV (opK x.1 x.2.1),fun _=>[]⟩
set_option maxRecDepth 100000
theorem vc_oE1 (l:List SyT) (Q:QT) (R:RT):sy tt G0 [] Tryd.f46.ntmps Tryd.f46.results.toList Q (fun it S=>R it (keepS [0,1,4,5,6] [4,5,51] S)) 1000 [.code (bodyOf Tryd.f46)] (entry [iI,.sl syS] ((1:Int),l,())) =
  (true=true ∧
 (0:Int)≤(0:Int) ∧
 (0:Int)<(l.length:Int) ∧
 R (hd Tryd.f46 0) { env:=[(0,.int .i64 1),(1,.sl syS l),(4,.ptr 4 0),(5,.ptr 5 0),(6,.int .i64 0)],blk:=[(4,.var [.int .i64 0,.int .i64 0,.int .i64 0,.int .u8 0,.nils]),(5,.var [.int .i64 1,.int .i64 (gtY l (0)).2.1,.int .i64 (l.length:Int),.int .u8 0,.nils])] }):=by kernel_rfl
theorem vc_oE2 (l:List SyT) (Q:QT) (R:RT):sy tt G0 [] Tryd.f46.ntmps Tryd.f46.results.toList Q (fun it S=>R it (keepS [0,1,4,5,6] [4,5,51] S)) 1000 [.code (bodyOf Tryd.f46)] (entry [iI,.sl syS] ((2:Int),l,())) =
  ((0:Int)≤(0:Int) ∧
 (0:Int)<(l.length:Int) ∧
 R (hd Tryd.f46 0) { env:=[(0,.int .i64 2),(1,.sl syS l),(4,.ptr 4 0),(5,.ptr 5 0),(6,.int .i64 0)],blk:=[(4,.var [.int .i64 0,.int .i64 0,.int .i64 0,.int .u8 0,.nils]),(5,.var [.int .i64 2,.int .i64 (gtY l (0)).2.1,.int .i64 (l.length:Int),.int .u8 0,.nils])] }):=by kernel_rfl
theorem vc_oE3 (l:List SyT) (Q:QT) (R:RT):sy tt G0 [] Tryd.f46.ntmps Tryd.f46.results.toList Q (fun it S=>R it (keepS [0,1,4,5,6] [4,5,51] S)) 1000 [.code (bodyOf Tryd.f46)] (entry [iI,.sl syS] ((3:Int),l,())) =
  ((0:Int)≤(0:Int) ∧
 (0:Int)<(l.length:Int) ∧
 R (hd Tryd.f46 0) { env:=[(0,.int .i64 3),(1,.sl syS l),(4,.ptr 4 0),(5,.ptr 5 0),(6,.int .i64 0)],blk:=[(4,.var [.int .i64 0,.int .i64 0,.int .i64 0,.int .u8 0,.nils]),(5,.var [.int .i64 3,.int .i64 0,.int .i64 (l.length:Int),.int .u8 (gtY l (0)).2.2,.nils])] }):=by kernel_rfl
theorem vc_oE4 (l:List SyT) (Q:QT) (R:RT):sy tt G0 [] Tryd.f46.ntmps Tryd.f46.results.toList Q (fun it S=>R it (keepS [0,1,4,5,6] [4,5,51] S)) 1000 [.code (bodyOf Tryd.f46)] (entry [iI,.sl syS] ((4:Int),l,())) =
  (R (hd Tryd.f46 0) { env:=[(0,.int .i64 4),(1,.sl syS l),(4,.ptr 4 0),(5,.ptr 5 0),(6,.int .i64 0)],blk:=[(4,.var [.int .i64 0,.int .i64 0,.int .i64 0,.int .u8 0,.nils]),(5,.var [.int .i64 4,.int .i64 0,.int .i64 (l.length:Int),.int .u8 0,.nils])] }):=by kernel_rfl
def mem_oA1_m0 (a b:Int) (l:List SyT):List (Nat × LB):=[(4,.var [.int .i64 1,.int .i64 a,.int .i64 (l.length:Int),.int .u8 b,.nils]),(5,.var [.int .i64 1,.int .i64 a,.int .i64 (l.length:Int),.int .u8 b,.nils])]
theorem vc_oA1 (a b:Int) (l:List SyT) (i:Nat) (Q:QT) (R:RT):sy tt G0 [] Tryd.f46.ntmps Tryd.f46.results.toList Q (fun it S=>R it (keepS [0,1,4,5,6] [4,5,51] S)) 1000 (hd Tryd.f46 0) ⟨[(0,.int .i64 1),(1,.sl syS l),(4,.ptr 4 0),(5,.ptr 5 0),(6,.int .i64 (i:Nat))],[(4,.var [.int .i64 0,.int .i64 0,.int .i64 0,.int .u8 0,.nils]),(5,.var [.int .i64 1,.int .i64 a,.int .i64 l.length,.int .u8 b,.nils])]⟩ =
  (bc (decide ((i:Int)<(l.length:Int))) (Q [.agg [.int .i64 1,.int .i64 a,.int .i64 (l.length:Int),.int .u8 b,.nils]] (mem_oA1_m0 a b l)) (false=false ∧
 Q [.agg [.int .i64 1,.int .i64 a,.int .i64 (l.length:Int),.int .u8 b,.nils]] (mem_oA1_m0 a b l))):=by kernel_rfl
theorem vc_oA2 (a b:Int) (l:List SyT) (i:Nat) (Q:QT) (R:RT):sy tt G0 [] Tryd.f46.ntmps Tryd.f46.results.toList Q (fun it S=>R it (keepS [0,1,4,5,6] [4,5,51] S)) 1000 (hd Tryd.f46 0) ⟨[(0,.int .i64 2),(1,.sl syS l),(4,.ptr 4 0),(5,.ptr 5 0),(6,.int .i64 (i:Nat))],[(4,.var [.int .i64 0,.int .i64 0,.int .i64 0,.int .u8 0,.nils]),(5,.var [.int .i64 2,.int .i64 a,.int .i64 l.length,.int .u8 b,.nils])]⟩ =
  (bc (decide ((i:Int)<(l.length:Int))) (true=true ∧
 (0:Int)≤(i:Int) ∧
 (i:Int)<(l.length:Int) ∧
 0+(1:Nat)≤((List.replicate (1:Nat) uB.dflt).set (0:Nat) (gtY l (i:Int).toNat).2.2).length ∧
 (winL uB (0:Nat) (1:Nat) ((List.replicate (1:Nat) uB.dflt).set (0:Nat) (gtY l (i:Int).toNat).2.2)).length<(2:Nat) ^ (30:Nat) ∧
 (1:Nat)≤(2:Nat) ^ (10:Nat) ∧
 R (hd Tryd.f46 0) { env:=[(0,.int .i64 2),(1,.sl syS l),(4,.ptr 4 0),(5,.ptr 5 0),(6,.int .i64 (IntKind.i64.wrap ((i:Int)+(1:Int))))],blk:=[(4,.var [.int .i64 0,.int .i64 0,.int .i64 0,.int .u8 0,.nils]),(5,.var [.int .i64 2,.int .i64 a,.int .i64 (l.length:Int),.int .u8 b,.win true uB 51 0 (1:Nat)]),(51,.row 5 uB (winL uB (0:Nat) (1:Nat) ((List.replicate (1:Nat) uB.dflt).set (0:Nat) (gtY l (i:Int).toNat).2.2)))] }) (false=false ∧
 Q [.agg [.int .i64 2,.int .i64 a,.int .i64 (l.length:Int),.int .u8 b,.nils]] [(4,.var [.int .i64 2,.int .i64 a,.int .i64 (l.length:Int),.int .u8 b,.nils]),(5,.var [.int .i64 2,.int .i64 a,.int .i64 (l.length:Int),.int .u8 b,.nils])])):=by kernel_rfl
def mem_oA3_m0 (a b:Int) (l:List SyT):List (Nat × LB):=[(4,.var [.int .i64 3,.int .i64 a,.int .i64 (l.length:Int),.int .u8 b,.nils]),(5,.var [.int .i64 3,.int .i64 a,.int .i64 (l.length:Int),.int .u8 b,.nils])]
theorem vc_oA3 (a b:Int) (l:List SyT) (i:Nat) (Q:QT) (R:RT):sy tt G0 [] Tryd.f46.ntmps Tryd.f46.results.toList Q (fun it S=>R it (keepS [0,1,4,5,6] [4,5,51] S)) 1000 (hd Tryd.f46 0) ⟨[(0,.int .i64 3),(1,.sl syS l),(4,.ptr 4 0),(5,.ptr 5 0),(6,.int .i64 (i:Nat))],[(4,.var [.int .i64 0,.int .i64 0,.int .i64 0,.int .u8 0,.nils]),(5,.var [.int .i64 3,.int .i64 a,.int .i64 l.length,.int .u8 b,.nils])]⟩ =
  (bc (decide ((i:Int)<(l.length:Int))) (Q [.agg [.int .i64 3,.int .i64 a,.int .i64 (l.length:Int),.int .u8 b,.nils]] (mem_oA3_m0 a b l)) (false=false ∧
 Q [.agg [.int .i64 3,.int .i64 a,.int .i64 (l.length:Int),.int .u8 b,.nils]] (mem_oA3_m0 a b l))):=by kernel_rfl
theorem vc_oA4 (a b:Int) (l:List SyT) (i:Nat) (Q:QT) (R:RT):sy tt G0 [] Tryd.f46.ntmps Tryd.f46.results.toList Q (fun it S=>R it (keepS [0,1,4,5,6] [4,5,51] S)) 1000 (hd Tryd.f46 0) ⟨[(0,.int .i64 4),(1,.sl syS l),(4,.ptr 4 0),(5,.ptr 5 0),(6,.int .i64 (i:Nat))],[(4,.var [.int .i64 0,.int .i64 0,.int .i64 0,.int .u8 0,.nils]),(5,.var [.int .i64 4,.int .i64 a,.int .i64 l.length,.int .u8 b,.nils])]⟩ =
  (bc (decide ((i:Int)<(l.length:Int))) ((0:Int)≤(i:Int) ∧
 (i:Int)<(l.length:Int) ∧
 0+(1:Nat)≤((List.replicate (1:Nat) uB.dflt).set (0:Nat) (gtY l (i:Int).toNat).2.2).length ∧
 (winL uB (0:Nat) (1:Nat) ((List.replicate (1:Nat) uB.dflt).set (0:Nat) (gtY l (i:Int).toNat).2.2)).length<(2:Nat) ^ (30:Nat) ∧
 (1:Nat)≤(2:Nat) ^ (10:Nat) ∧
 R (hd Tryd.f46 0) { env:=[(0,.int .i64 4),(1,.sl syS l),(4,.ptr 4 0),(5,.ptr 5 0),(6,.int .i64 (IntKind.i64.wrap ((i:Int)+(1:Int))))],blk:=[(4,.var [.int .i64 0,.int .i64 0,.int .i64 0,.int .u8 0,.nils]),(5,.var [.int .i64 4,.int .i64 a,.int .i64 (l.length:Int),.int .u8 b,.win true uB 51 0 (1:Nat)]),(51,.row 5 uB (winL uB (0:Nat) (1:Nat) ((List.replicate (1:Nat) uB.dflt).set (0:Nat) (gtY l (i:Int).toNat).2.2)))] }) (false=false ∧
 Q [.agg [.int .i64 4,.int .i64 a,.int .i64 (l.length:Int),.int .u8 b,.nils]] [(4,.var [.int .i64 4,.int .i64 a,.int .i64 (l.length:Int),.int .u8 b,.nils]),(5,.var [.int .i64 4,.int .i64 a,.int .i64 (l.length:Int),.int .u8 b,.nils])])):=by kernel_rfl
theorem vc_oB2 (a b:Int) (d:List Int) (l:List SyT) (i:Nat) (Q:QT) (R:RT):sy tt G0 [] Tryd.f46.ntmps Tryd.f46.results.toList Q (fun it S=>R it (keepS [0,1,4,5,6] [4,5,51] S)) 1000 (hd Tryd.f46 0) ⟨[(0,.int .i64 2),(1,.sl syS l),(4,.ptr 4 0),(5,.ptr 5 0),(6,.int .i64 (i:Nat))],[(4,.var [.int .i64 0,.int .i64 0,.int .i64 0,.int .u8 0,.nils]),(5,.var [.int .i64 2,.int .i64 a,.int .i64 l.length,.int .u8 b,.win true uB 51 0 d.length]),(51,.row 5 uB d)]⟩ =
  (bc (decide ((i:Int)<(l.length:Int))) (true=true ∧
 (0:Int)≤(i:Int) ∧
 (i:Int)<(l.length:Int) ∧
 0+(1:Nat)≤((List.replicate (1:Nat) uB.dflt).set (0:Nat) (gtY l (i:Int).toNat).2.2).length ∧
 d.length=d.length ∧
 (0:Nat)=(0:Nat) ∧
 d.length+(winL uB (0:Nat) (1:Nat) ((List.replicate (1:Nat) uB.dflt).set (0:Nat) (gtY l (i:Int).toNat).2.2)).length<(2:Nat) ^ (30:Nat) ∧
 (1:Nat)≤(2:Nat) ^ (10:Nat) ∧
 R (hd Tryd.f46 0) { env:=[(0,.int .i64 2),(1,.sl syS l),(4,.ptr 4 0),(5,.ptr 5 0),(6,.int .i64 (IntKind.i64.wrap ((i:Int)+(1:Int))))],blk:=[(4,.var [.int .i64 0,.int .i64 0,.int .i64 0,.int .u8 0,.nils]),(5,.var [.int .i64 2,.int .i64 a,.int .i64 (l.length:Int),.int .u8 b,.win true uB 51 0 (d.length+(winL uB (0:Nat) (1:Nat) ((List.replicate (1:Nat) uB.dflt).set (0:Nat) (gtY l (i:Int).toNat).2.2)).length)]),(51,.row 5 uB (d++winL uB (0:Nat) (1:Nat) ((List.replicate (1:Nat) uB.dflt).set (0:Nat) (gtY l (i:Int).toNat).2.2)))] }) (false=false ∧
 Q [.agg [.int .i64 2,.int .i64 a,.int .i64 (l.length:Int),.int .u8 b,.win true uB 51 0 d.length]] [(4,.var [.int .i64 2,.int .i64 a,.int .i64 (l.length:Int),.int .u8 b,.win true uB 51 0 d.length]),(5,.var [.int .i64 2,.int .i64 a,.int .i64 (l.length:Int),.int .u8 b,.win true uB 51 0 d.length]),(51,.row 5 uB d)])):=by kernel_rfl
theorem vc_oF2 (a b:Int) (d:List Int) (l:List SyT) (i:Nat) (Q:QT) (R:RT):sy tt G0 [] Tryd.f46.ntmps Tryd.f46.results.toList Q (fun it S=>R it (keepS [0,1,4,5,6] [4,5,51] S)) 1000 (hd Tryd.f46 0) ⟨[(0,.int .i64 2),(1,.sl syS l),(4,.ptr 4 0),(5,.ptr 5 0),(6,.int .i64 (i:Nat))],[(4,.var [.int .i64 0,.int .i64 0,.int .i64 0,.int .u8 0,.nils]),(5,.var [.int .i64 2,.int .i64 a,.int .i64 l.length,.int .u8 b,.sl uB d])]⟩ =
  (bc (decide ((i:Int)<(l.length:Int))) (true=true ∧
 (0:Int)≤(i:Int) ∧
 (i:Int)<(l.length:Int) ∧
 False) (false=false ∧
 Q [.agg [.int .i64 2,.int .i64 a,.int .i64 (l.length:Int),.int .u8 b,.sl uB d]] [(4,.var [.int .i64 2,.int .i64 a,.int .i64 (l.length:Int),.int .u8 b,.sl uB d]),(5,.var [.int .i64 2,.int .i64 a,.int .i64 (l.length:Int),.int .u8 b,.sl uB d])])):=by kernel_rfl
theorem vc_oB4 (a b:Int) (d:List Int) (l:List SyT) (i:Nat) (Q:QT) (R:RT):sy tt G0 [] Tryd.f46.ntmps Tryd.f46.results.toList Q (fun it S=>R it (keepS [0,1,4,5,6] [4,5,51] S)) 1000 (hd Tryd.f46 0) ⟨[(0,.int .i64 4),(1,.sl syS l),(4,.ptr 4 0),(5,.ptr 5 0),(6,.int .i64 (i:Nat))],[(4,.var [.int .i64 0,.int .i64 0,.int .i64 0,.int .u8 0,.nils]),(5,.var [.int .i64 4,.int .i64 a,.int .i64 l.length,.int .u8 b,.win true uB 51 0 d.length]),(51,.row 5 uB d)]⟩ =
  (bc (decide ((i:Int)<(l.length:Int))) ((0:Int)≤(i:Int) ∧
 (i:Int)<(l.length:Int) ∧
 0+(1:Nat)≤((List.replicate (1:Nat) uB.dflt).set (0:Nat) (gtY l (i:Int).toNat).2.2).length ∧
 d.length=d.length ∧
 (0:Nat)=(0:Nat) ∧
 d.length+(winL uB (0:Nat) (1:Nat) ((List.replicate (1:Nat) uB.dflt).set (0:Nat) (gtY l (i:Int).toNat).2.2)).length<(2:Nat) ^ (30:Nat) ∧
 (1:Nat)≤(2:Nat) ^ (10:Nat) ∧
 R (hd Tryd.f46 0) { env:=[(0,.int .i64 4),(1,.sl syS l),(4,.ptr 4 0),(5,.ptr 5 0),(6,.int .i64 (IntKind.i64.wrap ((i:Int)+(1:Int))))],blk:=[(4,.var [.int .i64 0,.int .i64 0,.int .i64 0,.int .u8 0,.nils]),(5,.var [.int .i64 4,.int .i64 a,.int .i64 (l.length:Int),.int .u8 b,.win true uB 51 0 (d.length+(winL uB (0:Nat) (1:Nat) ((List.replicate (1:Nat) uB.dflt).set (0:Nat) (gtY l (i:Int).toNat).2.2)).length)]),(51,.row 5 uB (d++winL uB (0:Nat) (1:Nat) ((List.replicate (1:Nat) uB.dflt).set (0:Nat) (gtY l (i:Int).toNat).2.2)))] }) (false=false ∧
 Q [.agg [.int .i64 4,.int .i64 a,.int .i64 (l.length:Int),.int .u8 b,.win true uB 51 0 d.length]] [(4,.var [.int .i64 4,.int .i64 a,.int .i64 (l.length:Int),.int .u8 b,.win true uB 51 0 d.length]),(5,.var [.int .i64 4,.int .i64 a,.int .i64 (l.length:Int),.int .u8 b,.win true uB 51 0 d.length]),(51,.row 5 uB d)])):=by kernel_rfl
theorem vc_oF4 (a b:Int) (d:List Int) (l:List SyT) (i:Nat) (Q:QT) (R:RT):sy tt G0 [] Tryd.f46.ntmps Tryd.f46.results.toList Q (fun it S=>R it (keepS [0,1,4,5,6] [4,5,51] S)) 1000 (hd Tryd.f46 0) ⟨[(0,.int .i64 4),(1,.sl syS l),(4,.ptr 4 0),(5,.ptr 5 0),(6,.int .i64 (i:Nat))],[(4,.var [.int .i64 0,.int .i64 0,.int .i64 0,.int .u8 0,.nils]),(5,.var [.int .i64 4,.int .i64 a,.int .i64 l.length,.int .u8 b,.sl uB d])]⟩ =
  (bc (decide ((i:Int)<(l.length:Int))) ((0:Int)≤(i:Int) ∧
 (i:Int)<(l.length:Int) ∧
 False) (false=false ∧
 Q [.agg [.int .i64 4,.int .i64 a,.int .i64 (l.length:Int),.int .u8 b,.sl uB d]] [(4,.var [.int .i64 4,.int .i64 a,.int .i64 (l.length:Int),.int .u8 b,.sl uB d]),(5,.var [.int .i64 4,.int .i64 a,.int .i64 (l.length:Int),.int .u8 b,.sl uB d])])):=by kernel_rfl
end Go.Proofs.YtkiicobbnllpkaaDoor
namespace Go.Proofs.YtkiicobbnllpkaaDoor
open Go.Px Go.Ax
set_option maxRecDepth 100000
attribute [local irreducible] Go.Px.sy Go.Px.syE
abbrev bL (l:List SyT):List Int:=l.map fun s=>s.2.2
theorem bL_len (l:List SyT):(bL l).length=l.length:=by simp
theorem bL_at {l:List SyT} {i:Nat} (h:i<l.length):(bL l).take (i+1)=(bL l).take i++[(gtY l i).2.2]:=by
 rw [List.take_succ_eq_append_getElem (show i<(bL l).length by rw [bL_len];omega),gtY_at h]
 simp
abbrev O8Q (k a b:Int) (l:List SyT) (d:List Int):List SV→List (Nat × LB)→Prop:=fun rs _=>rs=[.agg [.int .i64 k,.int .i64 a,.int .i64 l.length,.int .u8 b,.sl uB d]]
section
variable (a b:Int) (l:List SyT) (hl:l.length<16777216)
include hl
theorem o8B2:∀ (c i:Nat),l.length - i=c→1≤i→i≤l.length →
  GD 46 Tryd.f46 (O8Q 2 a b l (bL l)) (hd Tryd.f46 0) ⟨[(0,.int .i64 2),(1,.sl syS l),(4,.ptr 4 0),(5,.ptr 5 0),(6,.int .i64 (i:Nat))],[(4,.var [.int .i64 0,.int .i64 0,.int .i64 0,.int .u8 0,.nils]),(5,.var [.int .i64 2,.int .i64 a,.int .i64 l.length,.int .u8 b,.win true uB 51 0 ((bL l).take i).length]),(51,.row 5 uB ((bL l).take i))]⟩:=by
 intro c
 induction c with
 | zero=>
  intro i hc h1 hi
  have hi:i=l.length:=by omega
  subst hi
  have e:(bL l).take l.length=bL l:=List.take_of_length_le (by rw [bL_len];omega)
  rw [e]
  refine Good.frz (i:=51) (e:=uB) (et:=5) (xs:=bL l) rfl (fun c hc=>?_) ?_
  ·have hc:c∈[0+(bL l).length≤(bL l).length]:=hc
   rw [List.mem_singleton] at hc;subst hc;omega
  ·have e:GD 46 Tryd.f46 (O8Q 2 a b l (bL l)) (hd Tryd.f46 0) ⟨[(0,.int .i64 2),(1,.sl syS l),(4,.ptr 4 0),(5,.ptr 5 0),(6,.int .i64 (l.length:Nat))],[(4,.var [.int .i64 0,.int .i64 0,.int .i64 0,.int .u8 0,.nils]),(5,.var [.int .i64 2,.int .i64 a,.int .i64 l.length,.int .u8 b,.sl uB (winL uB 0 (bL l).length (bL l))])]⟩:=by
    refine sy_goK cx0 (vc_oF2 a b (winL uB 0 (bL l).length (bL l)) l l.length _ _) ?_
    rw [decide_eq_false (by omega),bc_f]
    refine ⟨rfl,?_⟩
    rw [winA]
   exact e.only ⟨rfl,rfl,rfl,rfl,rfl,trivial⟩ ⟨rfl,rfl,trivial⟩
 | succ c ih=>
  intro i hc h1 hi
  have hil:i<l.length:=by omega
  have nx:=ih (i+1) (by omega) (by omega) (by omega)
  have tl:((bL l).take i).length=i:=by rw [List.length_take,bL_len];omega
  rw [bL_at hil] at nx
  have one:winL uB 0 1 ((List.replicate 1 uB.dflt).set 0 (gtY l i).2.2)=[(gtY l i).2.2]:=rfl
  refine sy_goK cx0 (vc_oB2 a b ((bL l).take i) l i _ _) ?_
  rw [decide_eq_true (show (i:Int)<(l.length:Int) by omega),bc_t,Int.toNat_natCast,IntWalk.i64_in ((i:Int)+1) (by omega),one]
  refine ⟨rfl,by omega,by omega,Nat.le_refl 1,rfl,rfl,?_,by decide,?_⟩
  ·show ((bL l).take i).length+1<2 ^ 30
   rw [tl]
   show i+1<1073741824
   omega
  ·exact nx.only ⟨rfl,rfl,rfl,rfl,rfl,trivial⟩ ⟨rfl,by rw [List.length_append];rfl,rfl,trivial⟩
theorem o8A2 (h0:1≤l.length):GD 46 Tryd.f46 (O8Q 2 a b l (bL l)) (hd Tryd.f46 0) ⟨[(0,.int .i64 2),(1,.sl syS l),(4,.ptr 4 0),(5,.ptr 5 0),(6,.int .i64 ((0:Nat):Int))],[(4,.var [.int .i64 0,.int .i64 0,.int .i64 0,.int .u8 0,.nils]),(5,.var [.int .i64 2,.int .i64 a,.int .i64 l.length,.int .u8 b,.nils])]⟩:=by
 have nx:=o8B2 a b l hl _ 1 rfl (Nat.le_refl 1) h0
 rw [bL_at (show 0<l.length by omega)] at nx
 have one:winL uB 0 1 ((List.replicate 1 uB.dflt).set 0 (gtY l 0).2.2)=[(gtY l 0).2.2]:=rfl
 refine sy_goK cx0 (vc_oA2 a b l 0 _ _) ?_
 rw [decide_eq_true (show ((0:Nat):Int)<(l.length:Int) by omega),bc_t,Int.toNat_natCast,IntWalk.i64_in (((0:Nat):Int)+1) (by omega),one]
 exact ⟨rfl,by omega,by omega,Nat.le_refl 1,(show 1<2 ^ 30 by decide),by decide,nx.only ⟨rfl,rfl,rfl,rfl,rfl,trivial⟩ ⟨rfl,rfl,rfl,trivial⟩⟩
theorem o8B4:∀ (c i:Nat),l.length - i=c→1≤i→i≤l.length →
  GD 46 Tryd.f46 (O8Q 4 a b l (bL l)) (hd Tryd.f46 0) ⟨[(0,.int .i64 4),(1,.sl syS l),(4,.ptr 4 0),(5,.ptr 5 0),(6,.int .i64 (i:Nat))],[(4,.var [.int .i64 0,.int .i64 0,.int .i64 0,.int .u8 0,.nils]),(5,.var [.int .i64 4,.int .i64 a,.int .i64 l.length,.int .u8 b,.win true uB 51 0 ((bL l).take i).length]),(51,.row 5 uB ((bL l).take i))]⟩:=by
 intro c
 induction c with
 | zero=>
  intro i hc h1 hi
  have hi:i=l.length:=by omega
  subst hi
  have e:(bL l).take l.length=bL l:=List.take_of_length_le (by rw [bL_len];omega)
  rw [e]
  refine Good.frz (i:=51) (e:=uB) (et:=5) (xs:=bL l) rfl (fun c hc=>?_) ?_
  ·have hc:c∈[0+(bL l).length≤(bL l).length]:=hc
   rw [List.mem_singleton] at hc;subst hc;omega
  ·have e:GD 46 Tryd.f46 (O8Q 4 a b l (bL l)) (hd Tryd.f46 0) ⟨[(0,.int .i64 4),(1,.sl syS l),(4,.ptr 4 0),(5,.ptr 5 0),(6,.int .i64 (l.length:Nat))],[(4,.var [.int .i64 0,.int .i64 0,.int .i64 0,.int .u8 0,.nils]),(5,.var [.int .i64 4,.int .i64 a,.int .i64 l.length,.int .u8 b,.sl uB (winL uB 0 (bL l).length (bL l))])]⟩:=by
    refine sy_goK cx0 (vc_oF4 a b (winL uB 0 (bL l).length (bL l)) l l.length _ _) ?_
    rw [decide_eq_false (by omega),bc_f]
    refine ⟨rfl,?_⟩
    rw [winA]
   exact e.only ⟨rfl,rfl,rfl,rfl,rfl,trivial⟩ ⟨rfl,rfl,trivial⟩
 | succ c ih=>
  intro i hc h1 hi
  have hil:i<l.length:=by omega
  have nx:=ih (i+1) (by omega) (by omega) (by omega)
  have tl:((bL l).take i).length=i:=by rw [List.length_take,bL_len];omega
  rw [bL_at hil] at nx
  have one:winL uB 0 1 ((List.replicate 1 uB.dflt).set 0 (gtY l i).2.2)=[(gtY l i).2.2]:=rfl
  refine sy_goK cx0 (vc_oB4 a b ((bL l).take i) l i _ _) ?_
  rw [decide_eq_true (show (i:Int)<(l.length:Int) by omega),bc_t,Int.toNat_natCast,IntWalk.i64_in ((i:Int)+1) (by omega),one]
  refine ⟨by omega,by omega,Nat.le_refl 1,rfl,rfl,?_,by decide,?_⟩
  ·show ((bL l).take i).length+1<2 ^ 30
   rw [tl]
   show i+1<1073741824
   omega
  ·exact nx.only ⟨rfl,rfl,rfl,rfl,rfl,trivial⟩ ⟨rfl,by rw [List.length_append];rfl,rfl,trivial⟩
theorem o8A4 (h0:1≤l.length):GD 46 Tryd.f46 (O8Q 4 a b l (bL l)) (hd Tryd.f46 0) ⟨[(0,.int .i64 4),(1,.sl syS l),(4,.ptr 4 0),(5,.ptr 5 0),(6,.int .i64 ((0:Nat):Int))],[(4,.var [.int .i64 0,.int .i64 0,.int .i64 0,.int .u8 0,.nils]),(5,.var [.int .i64 4,.int .i64 a,.int .i64 l.length,.int .u8 b,.nils])]⟩:=by
 have nx:=o8B4 a b l hl _ 1 rfl (Nat.le_refl 1) h0
 rw [bL_at (show 0<l.length by omega)] at nx
 have one:winL uB 0 1 ((List.replicate 1 uB.dflt).set 0 (gtY l 0).2.2)=[(gtY l 0).2.2]:=rfl
 refine sy_goK cx0 (vc_oA4 a b l 0 _ _) ?_
 rw [decide_eq_true (show ((0:Nat):Int)<(l.length:Int) by omega),bc_t,Int.toNat_natCast,IntWalk.i64_in (((0:Nat):Int)+1) (by omega),one]
 exact ⟨by omega,by omega,Nat.le_refl 1,(show 1<2 ^ 30 by decide),by decide,nx.only ⟨rfl,rfl,rfl,rfl,rfl,trivial⟩ ⟨rfl,rfl,rfl,trivial⟩⟩
end
theorem o8_mt (x:OpT) (h:x.2.2.2.2=[]):MtL (fun _=>none) (mdV x) [.agg [.int .i64 x.1,.int .i64 x.2.1,.int .i64 x.2.2.1,.int .u8 x.2.2.2.1,.nils]]:=
 ⟨_,_,rfl,⟨_,rfl,_,_,rfl,rfl,_,_,rfl,rfl,_,_,rfl,rfl,_,_,rfl,rfl,_,_,rfl,.inr ⟨rfl,h⟩,rfl⟩,rfl⟩
theorem o8_run (k:Int) (l:List SyT) (hp:preMk k l):GD 46 Tryd.f46 (QC ctO8 (k,l,())) [.code (bodyOf Tryd.f46)] (entry [iI,.sl syS] (k,l,())):=by
 obtain ⟨hk,h0,h1⟩:=hp
 rcases (show k=1∨k=2∨k=3∨k=4 by unfold kOK at hk;omega) with e | e | e | e
 ·subst e
  refine sy_goK cx0 (vc_oE1 l _ _) ⟨rfl,by omega,by omega,?_⟩
  have e:GD 46 Tryd.f46 (QC ctO8 (1,l,())) (hd Tryd.f46 0) ⟨[(0,.int .i64 1),(1,.sl syS l),(4,.ptr 4 0),(5,.ptr 5 0),(6,.int .i64 ((0:Nat):Int))],[(4,.var [.int .i64 0,.int .i64 0,.int .i64 0,.int .u8 0,.nils]),(5,.var [.int .i64 1,.int .i64 (gtY l 0).2.1,.int .i64 l.length,.int .u8 0,.nils])]⟩:=by
   have fin:∀ bl,QC ctO8 (1,l,()) [SV.agg [SV.int IntKind.i64 1,SV.int IntKind.i64 (gtY l 0).2.1,SV.int IntKind.i64 (l.length:Int),SV.int IntKind.u8 0,SV.nils]] bl:=fun bl=>QC.mt (o8_mt (opK 1 l) rfl) rfl
   refine sy_goK cx0 (vc_oA1 (gtY l 0).2.1 0 l 0 _ _) (bc_of (fun _=>fin _) (fun _=>⟨rfl,fin _⟩))
  exact e.only ⟨rfl,rfl,rfl,rfl,rfl,trivial⟩ ⟨rfl,rfl,trivial⟩
 ·subst e
  refine sy_goK cx0 (vc_oE2 l _ _) ⟨by omega,by omega,?_⟩
  exact ((o8A2 (gtY l 0).2.1 0 l h1 h0).post fun rs blk hq=>QC.flat (by rw [hq];rfl) rfl (by rw [hq];rfl)).only ⟨rfl,rfl,rfl,rfl,rfl,trivial⟩ ⟨rfl,rfl,trivial⟩
 ·subst e
  refine sy_goK cx0 (vc_oE3 l _ _) ⟨by omega,by omega,?_⟩
  have e:GD 46 Tryd.f46 (QC ctO8 (3,l,())) (hd Tryd.f46 0) ⟨[(0,.int .i64 3),(1,.sl syS l),(4,.ptr 4 0),(5,.ptr 5 0),(6,.int .i64 ((0:Nat):Int))],[(4,.var [.int .i64 0,.int .i64 0,.int .i64 0,.int .u8 0,.nils]),(5,.var [.int .i64 3,.int .i64 0,.int .i64 l.length,.int .u8 (gtY l 0).2.2,.nils])]⟩:=by
   have fin:∀ bl,QC ctO8 (3,l,()) [SV.agg [SV.int IntKind.i64 3,SV.int IntKind.i64 0,SV.int IntKind.i64 (l.length:Int),SV.int IntKind.u8 (gtY l 0).2.2,SV.nils]] bl:=fun bl=>QC.mt (o8_mt (opK 3 l) rfl) rfl
   refine sy_goK cx0 (vc_oA3 0 (gtY l 0).2.2 l 0 _ _) ?_
   repeat' first
    | exact fin _
    | refine ⟨rfl,?_⟩
    | refine bc_of (fun h=>?_) (fun h=>?_)
  exact e.only ⟨rfl,rfl,rfl,rfl,rfl,trivial⟩ ⟨rfl,rfl,trivial⟩
 ·subst e
  refine sy_goK cx0 (vc_oE4 l _ _) ?_
  exact ((o8A4 0 0 l h1 h0).post fun rs blk hq=>QC.flat (by rw [hq];rfl) rfl (by rw [hq];rfl)).only ⟨rfl,rfl,rfl,rfl,rfl,trivial⟩ ⟨rfl,rfl,trivial⟩
theorem o8_held:Held Tryd.prog G0 46 ctO8:=Held.of cx0 (fn:=Tryd.f46) rfl rfl ⟨by decide,by decide⟩ fun ⟨k,l,_⟩ hp=>o8_run k l hp
theorem opK_eq {k m:Int} {l:List SyT} (hr:∀ s∈l,sOK m s=true) (h0:1≤l.length) (hi:isK k l l.length):opK k l=mdK k l:=by
 unfold opK mdK
 split
 ·rfl
 ·rename_i h
  have h1:=(hi 0 (by omega)).1
  unfold canB at h1
  rw [if_neg (by omega),if_neg (by omega)] at h1
  have o:(gtY l 0).1=false:=by simpa using h1
  rw [sOK_f (show sOK m (gtY l 0)=true by rw [gtY_at (show 0<l.length by omega)];exact hr _ (List.getElem_mem _)) o]
end Go.Proofs.YtkiicobbnllpkaaDoor
namespace Go.Proofs.YtkiicobbnllpkaaDoor
open Go.Px Go.Ax
set_option maxRecDepth 100000
def CLi:CV:=[(44,.inl ctFt),(45,.inl ctPr),(46,.inl ctO8)]
theorem cxLi:CxOK Tryd.prog tt G0 CLi:=((cx0.cons o8_held (fn:=Tryd.f46) rfl rfl rfl).cons pr_held (fn:=Tryd.f45) rfl rfl rfl).cons ft_held (fn:=Tryd.f44) rfl rfl rfl
set_option maxRecDepth 100000
theorem vc_li (l:List SyT) (Q:QT) (R:RT):sy tt G0 CLi Tryd.f36.ntmps Tryd.f36.results.toList Q (fun it S=>R it (keepS [0,3,4,5,6,7,10,11] [15,90,120] S)) 1000 [.code (bodyOf Tryd.f36)] (entry [.sl syS] (l,())) =
  ((0:Int)≤IntKind.i64.wrap ((l.length:Int)+(1:Int)) ∧
 IntKind.i64.wrap ((l.length:Int)+(1:Int))≤IntKind.i64.wrap ((l.length:Int)+(1:Int)) ∧
 IntKind.i64.wrap ((l.length:Int)+(1:Int))<(2:Int) ^ (24:Nat) ∧
 (↑(32:Nat):Int) * IntKind.i64.wrap ((l.length:Int)+(1:Int))≤(2:Int) ^ (48:Nat) ∧
 R (hd Tryd.f36 0) { env:=[(0,.sl syS l),(3,.win true liS 15 0 (IntKind.i64.wrap ((l.length:Int)+(1:Int))).toNat),(4,.int .i64 (IntKind.i64.wrap ((l.length:Int) - (1:Int))))],blk:=[(15,.row 89 liS (List.replicate (IntKind.i64.wrap ((l.length:Int)+(1:Int))).toNat liS.dflt))] }):=by kernel_rfl
theorem vc_li0 (l:List SyT) (b:List LiT) (i:Int) (Q:QT) (R:RT):sy tt G0 CLi Tryd.f36.ntmps Tryd.f36.results.toList Q (fun it S=>R it (keepS [0,3,4,5,6,7,10,11] [15,90,120] S)) 1000 (hd Tryd.f36 0) ⟨[(0,.sl syS l),(3,.win true liS 15 0 b.length),(4,.int .i64 i)],[(15,.row 89 liS b)]⟩ =
  (bc (decide ((0:Int)≤i)) (R (hd Tryd.f36 1) { env:=[(0,.sl syS l),(3,.win true liS 15 0 b.length),(4,.int .i64 i),(5,.bool false),(6,.int .i64 1)],blk:=[(15,.row 89 liS b)] }) (R (hd Tryd.f36 3) { env:=[(0,.sl syS l),(3,.win true liS 15 0 b.length),(4,.int .i64 i),(10,.win true opS 90 0 (0:Nat)),(11,.int .i64 0)],blk:=[(15,.row 89 liS b),(90,.row 55 opS (List.replicate (0:Nat) opS.dflt))] })):=by kernel_rfl
theorem vc_li1 (l:List SyT) (b:List LiT) (f:Bool) (i k:Int) (Q:QT) (R:RT):sy tt G0 CLi Tryd.f36.ntmps Tryd.f36.results.toList Q (fun it S=>R it (keepS [0,3,4,5,6,7,10,11] [15,90,120] S)) 1000 (hd Tryd.f36 1) ⟨[(0,.sl syS l),(3,.win true liS 15 0 b.length),(4,.int .i64 i),(5,.bool f),(6,.int .i64 k)],[(15,.row 89 liS b)]⟩ =
  (bc (decide (k≤(4:Int))) ((0:Int)≤i ∧
 i≤(l.length:Int) ∧
 ctFt.pre (k,List.drop i.toNat l,()) ∧
 R (hd Tryd.f36 2) { env:=[(0,.sl syS l),(3,.win true liS 15 0 b.length),(4,.int .i64 i),(5,.bool f),(6,.int .i64 k),(7,.int .i64 (↑(fitN k (List.drop i.toNat l)):Int))],blk:=[(15,.row 89 liS b)] }) (R (hd Tryd.f36 0) { env:=[(0,.sl syS l),(3,.win true liS 15 0 b.length),(4,.int .i64 (IntKind.i64.wrap (i - (1:Int)))),(5,.bool f),(6,.int .i64 k)],blk:=[(15,.row 89 liS b)] })):=by kernel_rfl
theorem vc_li2 (l:List SyT) (b:List LiT) (f:Bool) (i k n:Int) (Q:QT) (R:RT):sy tt G0 CLi Tryd.f36.ntmps Tryd.f36.results.toList Q (fun it S=>R it (keepS [0,3,4,5,6,7,10,11] [15,90,120] S)) 1000 (hd Tryd.f36 2) ⟨[(0,.sl syS l),(3,.win true liS 15 0 b.length),(4,.int .i64 i),(5,.bool f),(6,.int .i64 k),(7,.int .i64 n)],[(15,.row 89 liS b)]⟩ =
  (bc (decide ((0:Int)<n)) ((0:Int)≤IntKind.i64.wrap (i+n) ∧
 IntKind.i64.wrap (i+n)<(b.length:Int) ∧
 0+(IntKind.i64.wrap (i+n)).toNat<b.length ∧
 ctPr.pre (k,n,()) ∧
 bc (!f) (true=true ∧
 true=true ∧
 (0:Int)≤i ∧
 i<(b.length:Int) ∧
 0+i.toNat<b.length ∧
 R (hd Tryd.f36 2) { env:=[(0,.sl syS l),(3,.win true liS 15 0 b.length),(4,.int .i64 i),(5,.bool true),(6,.int .i64 k),(7,.int .i64 (IntKind.i64.wrap (n - (1:Int))))],blk:=[(15,.row 89 liS (b.set (0+i.toNat) (k,n,IntKind.i64.wrap (hdC k+eaC k * n+(gtL b (0+(IntKind.i64.wrap (i+n)).toNat)).2.2.1),IntKind.i64.wrap ((1:Int)+(gtL b (0+(IntKind.i64.wrap (i+n)).toNat)).2.2.2))))] }) ((0:Int)≤i ∧
 i<(b.length:Int) ∧
 0+i.toNat<b.length ∧
 bc (bif false then true else decide (IntKind.i64.wrap (hdC k+eaC k * n+(gtL b (0+(IntKind.i64.wrap (i+n)).toNat)).2.2.1)<(gtL b (0+i.toNat)).2.2.1)) (true=true ∧
 (0:Int)≤i ∧
 i<(b.length:Int) ∧
 0+i.toNat<b.length ∧
 R (hd Tryd.f36 2) { env:=[(0,.sl syS l),(3,.win true liS 15 0 b.length),(4,.int .i64 i),(5,.bool true),(6,.int .i64 k),(7,.int .i64 (IntKind.i64.wrap (n - (1:Int))))],blk:=[(15,.row 89 liS (b.set (0+i.toNat) (k,n,IntKind.i64.wrap (hdC k+eaC k * n+(gtL b (0+(IntKind.i64.wrap (i+n)).toNat)).2.2.1),IntKind.i64.wrap ((1:Int)+(gtL b (0+(IntKind.i64.wrap (i+n)).toNat)).2.2.2))))] }) ((0:Int)≤i ∧
 i<(b.length:Int) ∧
 0+i.toNat<b.length ∧
 bc (decide (IntKind.i64.wrap (hdC k+eaC k * n+(gtL b (0+(IntKind.i64.wrap (i+n)).toNat)).2.2.1)=(gtL b (0+i.toNat)).2.2.1)) ((0:Int)≤i ∧
 i<(b.length:Int) ∧
 0+i.toNat<b.length ∧
 bc (bif false then true else bif true then decide (IntKind.i64.wrap ((1:Int)+(gtL b (0+(IntKind.i64.wrap (i+n)).toNat)).2.2.2)<(gtL b (0+i.toNat)).2.2.2) else false) ((0:Int)≤i ∧
 i<(b.length:Int) ∧
 0+i.toNat<b.length ∧
 R (hd Tryd.f36 2) { env:=[(0,.sl syS l),(3,.win true liS 15 0 b.length),(4,.int .i64 i),(5,.bool true),(6,.int .i64 k),(7,.int .i64 (IntKind.i64.wrap (n - (1:Int))))],blk:=[(15,.row 89 liS (b.set (0+i.toNat) (k,n,IntKind.i64.wrap (hdC k+eaC k * n+(gtL b (0+(IntKind.i64.wrap (i+n)).toNat)).2.2.1),IntKind.i64.wrap ((1:Int)+(gtL b (0+(IntKind.i64.wrap (i+n)).toNat)).2.2.2))))] }) (R (hd Tryd.f36 2) { env:=[(0,.sl syS l),(3,.win true liS 15 0 b.length),(4,.int .i64 i),(5,.bool f),(6,.int .i64 k),(7,.int .i64 (IntKind.i64.wrap (n - (1:Int))))],blk:=[(15,.row 89 liS b)] })) (false=false ∧
 R (hd Tryd.f36 2) { env:=[(0,.sl syS l),(3,.win true liS 15 0 b.length),(4,.int .i64 i),(5,.bool f),(6,.int .i64 k),(7,.int .i64 (IntKind.i64.wrap (n - (1:Int))))],blk:=[(15,.row 89 liS b)] })))) (R (hd Tryd.f36 1) { env:=[(0,.sl syS l),(3,.win true liS 15 0 b.length),(4,.int .i64 i),(5,.bool f),(6,.int .i64 (IntKind.i64.wrap (k+(1:Int)))),(7,.int .i64 n)],blk:=[(15,.row 89 liS b)] })):=by kernel_rfl
theorem vc_li3 (l:List SyT) (b:List LiT) (o:List OpT) (a:Nat) (Q:QT) (R:RT):sy tt G0 CLi Tryd.f36.ntmps Tryd.f36.results.toList Q (fun it S=>R it (keepS [0,3,4,5,6,7,10,11] [15,90,120] S)) 1000 (hd Tryd.f36 3) ⟨[(0,.sl syS l),(3,.win true liS 15 0 b.length),(10,.win true opS 90 0 o.length),(11,.int .i64 (a:Nat))],[(15,.row 89 liS b),(90,.row 55 opS o)]⟩ =
  (bc (decide ((a:Int)<(l.length:Int))) ((0:Int)≤(a:Int) ∧
 (a:Int)<(b.length:Int) ∧
 0+(a:Int).toNat<b.length ∧
 (0:Int)≤(a:Int) ∧
 (a:Int)<(b.length:Int) ∧
 0+(a:Int).toNat<b.length ∧
 (0:Int)≤(a:Int) ∧
 (a:Int)≤IntKind.i64.wrap ((a:Int)+(gtL b (0+(a:Int).toNat)).2.1) ∧
 IntKind.i64.wrap ((a:Int)+(gtL b (0+(a:Int).toNat)).2.1)≤(l.length:Int) ∧
 ctO8.pre ((gtL b (0+(a:Int).toNat)).1,Px.part l (some (a:Int)) (some (IntKind.i64.wrap ((a:Int)+(gtL b (0+(a:Int).toNat)).2.1))),()) ∧
 0+(1:Nat)≤([(opK (gtL b (0+(a:Int).toNat)).1 (Px.part l (some (a:Int)) (some (IntKind.i64.wrap ((a:Int)+(gtL b (0+(a:Int).toNat)).2.1)))))]:List opS.D).length ∧
 o.length=o.length ∧
 (0:Nat)=(0:Nat) ∧
 o.length+(([(opK (gtL b (0+(a:Int).toNat)).1 (Px.part l (some (a:Int)) (some (IntKind.i64.wrap ((a:Int)+(gtL b (0+(a:Int).toNat)).2.1)))))]:List opS.D)).length<(2:Nat) ^ (30:Nat) ∧
 (56:Nat)≤(2:Nat) ^ (10:Nat) ∧
 (0:Int)≤(a:Int) ∧
 (a:Int)<(b.length:Int) ∧
 0+(a:Int).toNat<b.length ∧
 R (hd Tryd.f36 3) { env:=[(0,.sl syS l),(3,.win true liS 15 0 b.length),(10,.win true opS 120 0 (o.length+(([(opK (gtL b (0+(a:Int).toNat)).1 (Px.part l (some (a:Int)) (some (IntKind.i64.wrap ((a:Int)+(gtL b (0+(a:Int).toNat)).2.1)))))]:List opS.D)).length)),(11,.int .i64 (IntKind.i64.wrap ((a:Int)+(gtL b (0+(a:Int).toNat)).2.1)))],blk:=[(15,.row 89 liS b),(120,.row 55 opS (o++([(opK (gtL b (0+(a:Int).toNat)).1 (Px.part l (some (a:Int)) (some (IntKind.i64.wrap ((a:Int)+(gtL b (0+(a:Int).toNat)).2.1)))))]:List opS.D)))] }) (Q [.win true opS 90 0 o.length] [(15,.row 89 liS b),(90,.row 55 opS o)])):=by kernel_rfl
theorem vc_li3E (l:List SyT) (b:List LiT) (o:List OpT) (a:Nat) (Q:QT) (R:RT):sy tt G0 CLi Tryd.f36.ntmps Tryd.f36.results.toList Q (fun it S=>R it (keepS [0,3,4,5,6,7,10,11] [15,90,120] S)) 1000 (hd Tryd.f36 3) ⟨[(0,.sl syS l),(10,.sl opS o),(11,.int .i64 (a:Nat))],[]⟩ =
  (bc (decide ((a:Int)<(l.length:Int))) False (Q [.sl opS o] [])):=by kernel_rfl
end Go.Proofs.YtkiicobbnllpkaaDoor
namespace Go.Proofs.YtkiicobbnllpkaaDoor
open Go.Px Go.Ax
set_option maxRecDepth 100000
attribute [local irreducible] Go.Px.sy Go.Px.syE
def preLi (l:List SyT):Prop:=l.length≤65536∧∃ m:Int,m<16777216∧∀ s∈l,sOK m s=true
def ctLi:Ctr:=⟨[.sl syS],fun x=>preLi x.1,fun x=>[.sl opS (chL x.1)],fun _=>[]⟩
section
variable (l:List SyT) (hp:preLi l)
abbrev li0S (b:List LiT) (i:Int):PS:=⟨[(0,.sl syS l),(3,.win true liS 15 0 b.length),(4,.int .i64 i)],[(15,.row 89 liS b)]⟩
abbrev li1S (b:List LiT) (f:Bool) (i k:Int):PS:=⟨[(0,.sl syS l),(3,.win true liS 15 0 b.length),(4,.int .i64 i),(5,.bool f),(6,.int .i64 k)],[(15,.row 89 liS b)]⟩
abbrev li2S (b:List LiT) (f:Bool) (i k n:Int):PS:=⟨[(0,.sl syS l),(3,.win true liS 15 0 b.length),(4,.int .i64 i),(5,.bool f),(6,.int .i64 k),(7,.int .i64 n)],[(15,.row 89 liS b)]⟩
abbrev GL (it:Nat) (S:PS):Prop:=GD 36 Tryd.f36 (OQ (chL l)) (hd Tryd.f36 it) S
include hp
theorem li_n (i:Nat) (hi:i<l.length) (k:Int) (hk:kOK k) (B:List LiT) (hB:B.length=l.length+1) (hget:∀ n,1≤n→i+n≤l.length→gtL B (i+n)=bst (l.drop (i+n))) :
  ∀ (n:Nat) (c:LiT × Bool),n≤fitN k (l.drop i)→GL l 1 (li1S l (B.set i (innR k (l.drop i) n c).1) (innR k (l.drop i) n c).2 i (k+1))→GL l 2 (li2S l (B.set i c.1) c.2 i k (n:Nat)):=by
 have hl:=hp.1
 have dl:(l.drop i).length=l.length - i:=List.length_drop ..
 have hf:=fitN_le k (l.drop i)
 have hBl:∀ c,(B.set i c).length=l.length+1:=fun c=>by rw [List.length_set];exact hB
 have g0:∀ c,gtL (B.set i c) i=c:=fun c=>by
  show ((B.set i c)[i]?).getD _=_
  rw [List.getElem?_set_self (by omega)];rfl
 have wk:IntKind.i64.wrap (k+1)=k+1:=IntWalk.i64_in _ (by unfold kOK at hk;omega)
 intro n
 induction n with
 | zero=>
  intro c hn nx
  refine sy_goK cxLi (vc_li2 l (B.set i c.1) c.2 i k ((0:Nat):Int) _ _) ?_
  rw [decide_eq_false (by omega),bc_f,wk]
  exact nx.only ⟨rfl,rfl,rfl,rfl,rfl,trivial⟩ ⟨rfl,trivial⟩
 | succ n ih=>
  intro c hn nx
  have nk:=ih (innS k (n+1) (l.drop i) c) (by omega) nx
  have gn:∀ c,gtL (B.set i c) (i+(n+1))=bst ((l.drop i).drop (n+1)):=fun c=>by
   rw [List.drop_drop,← hget (n+1) (by omega) (by omega)]
   show ((B.set i c)[i+(n+1)]?).getD _=(B[i+(n+1)]?).getD _
   rw [List.getElem?_set_ne (by omega)]
  have w1:IntKind.i64.wrap ((i:Int)+((n+1:Nat):Int))=((i+(n+1):Nat):Int):=by rw [IntWalk.i64_in _ (by omega)];omega
  have w2:IntKind.i64.wrap (((n+1:Nat):Int) - 1)=(n:Int):=by rw [IntWalk.i64_in _ (by omega)];omega
  have bo:=bst_bo ((l.drop i).drop (n+1)) (by rw [List.length_drop];omega)
  rw [List.length_drop] at bo
  unfold boL at bo
  have en:=eaN k (n+1)
  have hh:=hdC_b k
  have w3:IntKind.i64.wrap (hdC k+eaC k * ((n+1:Nat):Int)+(bst ((l.drop i).drop (n+1))).2.2.1)=hdC k+eaC k * ((n+1:Nat):Int)+(bst ((l.drop i).drop (n+1))).2.2.1:=by
   generalize eaC k * ((n+1:Nat):Int)=e at *
   exact IntWalk.i64_in _ (by omega)
  have w4:IntKind.i64.wrap (1+(bst ((l.drop i).drop (n+1))).2.2.2)=1+(bst ((l.drop i).drop (n+1))).2.2.2:=IntWalk.i64_in _ (by omega)
  refine sy_goK cxLi (vc_li2 l (B.set i c.1) c.2 i k ((n+1:Nat):Int) _ _) ?_
  rw [w1,w2,decide_eq_true (show (0:Int)<((n+1:Nat):Int) by omega),bc_t]
  simp only [Int.toNat_natCast]
  simp only [gn,g0,w3,w4,Nat.zero_add,List.set_set,hBl]
  have hx:xR k (n+1) (l.drop i)=(k,((n+1:Nat):Int),hdC k+eaC k * ((n+1:Nat):Int)+(bst ((l.drop i).drop (n+1))).2.2.1,1+(bst ((l.drop i).drop (n+1))).2.2.2):=rfl
  rw [← hx]
  have up:(!c.2 || rlt (xR k (n+1) (l.drop i)) c.1)=true→GL l 2 (li2S l (B.set i (xR k (n+1) (l.drop i))) true i k (n:Nat)):=fun h=>by
   have e:innS k (n+1) (l.drop i) c=(xR k (n+1) (l.drop i),true):=by unfold innS;rw [if_pos h]
   rw [e] at nk;exact nk
  have no:(!c.2 || rlt (xR k (n+1) (l.drop i)) c.1)=false→GL l 2 (li2S l (B.set i c.1) c.2 i k (n:Nat)):=fun h=>by
   have e:innS k (n+1) (l.drop i) c=c:=by unfold innS;rw [if_neg (by rw [h];decide)]
   rw [e] at nk;exact nk
  have hlen:∀ x,(B.set i x).length=(B.set i c.1).length:=fun x=>by rw [hBl,hBl]
  have pk:preKN k ((n+1:Nat):Int):=⟨hk,by omega,by omega⟩
  have upS:(!c.2 || rlt (xR k (n+1) (l.drop i)) c.1)=true→GL l 2 ⟨[(0,.sl syS l),(3,.win true liS 15 0 (l.length+1)),(4,.int .i64 i),(5,.bool true),(6,.int .i64 k),(7,.int .i64 (n:Nat))],[(15,.row 89 liS (B.set i (xR k (n+1) (l.drop i))))]⟩:=fun h=>(up h).only ⟨rfl,by rw [hBl];rfl,rfl,rfl,rfl,rfl,trivial⟩ ⟨rfl,trivial⟩
  have noS:(!c.2 || rlt (xR k (n+1) (l.drop i)) c.1)=false→GL l 2 ⟨[(0,.sl syS l),(3,.win true liS 15 0 (l.length+1)),(4,.int .i64 i),(5,.bool c.2),(6,.int .i64 k),(7,.int .i64 (n:Nat))],[(15,.row 89 liS (B.set i c.1))]⟩:=fun h=>(no h).only ⟨rfl,by rw [hBl];rfl,rfl,rfl,rfl,rfl,trivial⟩ ⟨rfl,trivial⟩
  clear nk up no ih nx
  refine ⟨by omega,by omega,by omega,pk,bc_of (fun h=>⟨by trivial,by trivial,by omega,by omega,by omega,(upS (by rw [h];rfl)).only ⟨rfl,rfl,rfl,rfl,rfl,rfl,trivial⟩ ⟨rfl,trivial⟩⟩) (fun h=>⟨by omega,by omega,by omega,?_⟩)⟩
  have r1:(xR k (n+1) (l.drop i)).2.2.1=hdC k+eaC k * ((n+1:Nat):Int)+(bst ((l.drop i).drop (n+1))).2.2.1:=rfl
  have r2:(xR k (n+1) (l.drop i)).2.2.2=1+(bst ((l.drop i).drop (n+1))).2.2.2:=rfl
  rw [← r1,← r2]
  generalize xR k (n+1) (l.drop i)=x at *
  have hc:∀ v,rlt x c.1=v→(!c.2 || rlt x c.1)=v:=fun v e=>by rw [h,e];rfl
  refine bc_of (fun h2=>⟨by trivial,by omega,by omega,by omega,?_⟩) (fun h2=>⟨by omega,by omega,by omega,bc_of (fun h3=>⟨by omega,by omega,by omega,bc_of (fun h4=>⟨by omega,by omega,by omega,?_⟩) (fun h4=>?_)⟩) (fun h3=>⟨by trivial,?_⟩)⟩)
  ·have h2:x.2.2.1<c.1.2.2.1:=of_decide_eq_true h2
   exact (upS (hc _ (by unfold rlt;rw [decide_eq_true h2];rfl))).only ⟨rfl,rfl,rfl,rfl,rfl,rfl,trivial⟩ ⟨rfl,trivial⟩
  ·have h2:¬ x.2.2.1<c.1.2.2.1:=of_decide_eq_false h2
   have h3:x.2.2.1=c.1.2.2.1:=of_decide_eq_true h3
   have h4:x.2.2.2<c.1.2.2.2:=of_decide_eq_true h4
   exact (upS (hc _ (by unfold rlt;rw [decide_eq_true h3,decide_eq_true h4];simp))).only ⟨rfl,rfl,rfl,rfl,rfl,rfl,trivial⟩ ⟨rfl,trivial⟩
  ·have h2:¬ x.2.2.1<c.1.2.2.1:=of_decide_eq_false h2
   have h4:¬ x.2.2.2<c.1.2.2.2:=of_decide_eq_false h4
   exact (noS (hc _ (by unfold rlt;rw [decide_eq_false h2,decide_eq_false h4];simp))).only ⟨rfl,rfl,rfl,rfl,rfl,rfl,trivial⟩ ⟨rfl,trivial⟩
  ·have h2:¬ x.2.2.1<c.1.2.2.1:=of_decide_eq_false h2
   have h3:¬ x.2.2.1=c.1.2.2.1:=of_decide_eq_false h3
   exact (noS (hc _ (by unfold rlt;rw [decide_eq_false h2,decide_eq_false h3];rfl))).only ⟨rfl,rfl,rfl,rfl,rfl,rfl,trivial⟩ ⟨rfl,trivial⟩
theorem li_k (i:Nat) (hi:i<l.length) (k:Nat) (hk:1≤k∧k≤4) (B:List LiT) (hB:B.length=l.length+1) (hget:∀ n,1≤n→i+n≤l.length→gtL B (i+n)=bst (l.drop (i+n))) (c:LiT × Bool)
  (nx:GL l 1 (li1S l (B.set i (kinR k (l.drop i) c).1) (kinR k (l.drop i) c).2 i ((k:Int)+1))):GL l 1 (li1S l (B.set i c.1) c.2 i (k:Nat)):=by
 have kk:kOK (k:Int):=by unfold kOK;omega
 obtain ⟨hl,m,hm,hr⟩:=hp
 have h:=li_n l ⟨hl,m,hm,hr⟩ i hi k kk B hB hget (fitN k (l.drop i)) c (Nat.le_refl _) nx
 refine sy_goK cxLi (vc_li1 l (B.set i c.1) c.2 i k _ _) ?_
 rw [decide_eq_true (show (k:Int)≤4 by omega),bc_t]
 simp only [Int.toNat_natCast]
 exact ⟨by omega,by omega,⟨kk,by rw [List.length_drop];omega,m,hm,fun s hs=>hr s (List.mem_of_mem_drop hs)⟩,h.only ⟨rfl,rfl,rfl,rfl,rfl,rfl,trivial⟩ ⟨rfl,trivial⟩⟩
abbrev li3S (o:List OpT) (a:Nat):PS:=⟨[(0,.sl syS l),(3,.win true liS 15 0 (bestsL l).length),(10,.win true opS 90 0 o.length),(11,.int .i64 (a:Nat))],[(15,.row 89 liS (bestsL l)),(90,.row 55 opS o)]⟩
theorem li_end (o:List OpT) (a:Nat) (ha:a=l.length) (ho:o=chL l):GL l 3 (li3S l o a):=by
 have _:=hp
 subst ha
 refine Good.frz (i:=90) (e:=opS) (et:=55) (xs:=o) rfl (fun c hc=>?_) ?_
 ·have hc:c∈[0+o.length≤o.length]:=hc
  rw [List.mem_singleton] at hc;subst hc;omega
 ·have e:GL l 3 ⟨[(0,.sl syS l),(10,.sl opS (winL opS 0 o.length o)),(11,.int .i64 (l.length:Nat))],[]⟩:=by
   refine sy_goK cxLi (vc_li3E l [] (winL opS 0 o.length o) l.length _ _) ?_
   rw [decide_eq_false (by omega),bc_f,winA,ho]
  exact e.only ⟨rfl,rfl,rfl,trivial⟩ trivial
theorem li_out:∀ (f a:Nat) (o:List OpT),l.length - a≤f→a≤l.length→o.length≤a→o++chF f (l.drop a)=chL l→GL l 3 (li3S l o a):=by
 have hl:=hp.1
 intro f
 induction f with
 | zero=>
  intro a o hf ha ho he
  rw [chF,List.append_nil] at he
  exact li_end l hp o a (by omega) he
 | succ f ih=>
  intro a o hf ha ho hq
  by_cases he:a=l.length
  ·rw [chF,if_pos (List.drop_eq_nil_of_le (by omega)),List.append_nil] at hq
   exact li_end l hp o a he hq
  ·have dl:(l.drop a).length=l.length - a:=List.length_drop ..
   have hne:l.drop a≠[]:=fun h=>by rw [h] at dl;simp at dl;omega
   obtain ⟨hb,n,n1,n2,n3,_⟩:=bst_ne (l:=l.drop a) (by omega) hne
   have hfit:=fitN_le (bst (l.drop a)).1 (l.drop a)
   have bl:(bestsL l).length=l.length+1:=bT_len l 0
   have tl:((l.drop a).take n).length=n:=by rw [List.length_take];omega
   have eo:opK (bst (l.drop a)).1 ((l.drop a).take n)=mdK (bst (l.drop a)).1 ((l.drop a).take n):=by
    obtain ⟨_,m,hm,hr⟩:=hp
    refine opK_eq (m:=m) (fun s hs=>hr s (List.mem_of_mem_drop (List.mem_of_mem_take hs))) (by omega) ?_
    rw [tl]
    exact isK_take n3 (fit_is hm fun s hs=>hr s (List.mem_of_mem_drop hs))
   have ec:chF (f+1) (l.drop a)=mdK (bst (l.drop a)).1 ((l.drop a).take n)::chF f (l.drop (a+n)):=by rw [chF,if_neg hne,n1,Int.toNat_natCast,List.drop_drop]
   rw [ec] at hq
   have nx:=ih (a+n) (o++[mdK (bst (l.drop a)).1 ((l.drop a).take n)]) (by omega) (by omega) (by rw [List.length_append,List.length_singleton];omega) (by rw [List.append_assoc];exact hq)
   refine sy_goK cxLi (vc_li3 l (bestsL l) o a _ _) ?_
   have g1:gtL (bestsL l) (0+a)=bst (l.drop a):=by rw [Nat.zero_add];exact bT_get l 0 a ha (Nat.zero_le _)
   have w:IntKind.i64.wrap ((a:Int)+(n:Int))=((a+n:Nat):Int):=by rw [IntWalk.i64_in _ (by omega)];omega
   rw [decide_eq_true (show (a:Int)<(l.length:Int) by omega),bc_t,Int.toNat_natCast,g1,n1,w,part_at l a n,eo]
   refine ⟨by omega,by omega,by omega,by omega,by omega,by omega,by omega,by omega,by omega,(show preMk (bst (l.drop a)).1 ((l.drop a).take n) from ⟨hb,by omega,by omega⟩),Nat.le_refl 1,rfl,rfl,?_,by decide,by omega,by omega,by omega,?_⟩
   ·show o.length+1<2 ^ 30
    show o.length+1<1073741824
    omega
   ·exact nx.onlyR [(90,120)] rfl ⟨rfl,rfl,by rw [List.length_append];rfl,rfl,trivial⟩ ⟨rfl,rfl,trivial⟩
theorem li_tab:∀ (n:Nat),n≤l.length→GL l 0 (li0S l (bT l n) ((n:Int) - 1)):=by
 have hl:=hp.1
 intro n
 induction n with
 | zero=>
  intro hn
  refine sy_goK cxLi (vc_li0 l (bT l 0) (((0:Nat):Int) - 1) _ _) ?_
  rw [decide_eq_false (by omega),bc_f]
  exact (li_out l hp l.length 0 [] (by omega) (Nat.zero_le _) (Nat.zero_le _) (by rw [List.drop_zero,List.nil_append];rfl)).only ⟨rfl,rfl,rfl,rfl,trivial⟩ ⟨rfl,rfl,trivial⟩
 | succ n ih=>
  intro hn
  have e:((n+1:Nat):Int) - 1=(n:Int):=by omega
  rw [e]
  refine sy_goK cxLi (vc_li0 l (bT l (n+1)) n _ _) ?_
  rw [decide_eq_true (show (0:Int)≤(n:Int) by omega),bc_t]
  have hB:=bT_len l (n+1)
  have hget:∀ q,1≤q→n+q≤l.length→gtL (bT l (n+1)) (n+q)=bst (l.drop (n+q)):=fun q h1 h2=>bT_get l (n+1) (n+q) h2 (by omega)
  have fin:GL l 1 (li1S l (bT l n) (kinR 4 (l.drop n) (kinR 3 (l.drop n) (kinR 2 (l.drop n) (kinR 1 (l.drop n) (zLi,false))))).2 n 5):=by
   refine sy_goK cxLi (vc_li1 l (bT l n) _ n 5 _ _) ?_
   rw [decide_eq_false (by omega),bc_f,IntWalk.i64_in ((n:Int) - 1) (by omega)]
   exact (ih (by omega)).only ⟨rfl,rfl,rfl,trivial⟩ ⟨rfl,trivial⟩
  have er:bst (l.drop n)=(kinR 4 (l.drop n) (kinR 3 (l.drop n) (kinR 2 (l.drop n) (kinR 1 (l.drop n) (zLi,false))))).1:=(refB_eq (l:=l.drop n) (by rw [List.length_drop];omega)).symm
  rw [bT_set l n (by omega),er] at fin
  have s4:=li_k l hp n hn 4 ⟨by omega,by omega⟩ (bT l (n+1)) hB hget _ fin
  have s3:=li_k l hp n hn 3 ⟨by omega,by omega⟩ (bT l (n+1)) hB hget _ s4
  have s2:=li_k l hp n hn 2 ⟨by omega,by omega⟩ (bT l (n+1)) hB hget _ s3
  have s1:=li_k l hp n hn 1 ⟨by omega,by omega⟩ (bT l (n+1)) hB hget (zLi,false) s2
  have ez:(bT l (n+1)).set n ((zLi,false):LiT × Bool).1=bT l (n+1):=bT_z l n (by omega)
  rw [ez] at s1
  exact s1.only ⟨rfl,rfl,rfl,rfl,rfl,trivial⟩ ⟨rfl,trivial⟩
theorem li_run:GD 36 Tryd.f36 (OQ (chL l)) [.code (bodyOf Tryd.f36)] (entry [.sl syS] (l,())):=by
 have hl:=hp.1
 refine sy_goK cxLi (vc_li l _ _) ?_
 rw [IntWalk.i64_in ((l.length:Int)+1) (by omega),IntWalk.i64_in ((l.length:Int) - 1) (by omega)]
 have e:((l.length:Int)+1).toNat=l.length+1:=by omega
 rw [e]
 refine ⟨by omega,by omega,?_,?_,?_⟩
 ·show (l.length:Int)+1<16777216
  omega
 ·show (32:Int) * ((l.length:Int)+1)≤281474976710656
  omega
 ·have h:=li_tab l hp l.length (Nat.le_refl _)
  rw [bT_rep l]
  exact h.only ⟨rfl,by rw [bT_len];rfl,rfl,trivial⟩ ⟨rfl,trivial⟩
end
theorem li_held:Held Tryd.prog G0 36 ctLi:=Held.of cxLi (fn:=Tryd.f36) rfl rfl ⟨by decide,by decide⟩ fun ⟨l,_⟩ hp=>(li_run l hp).post fun rs blk hq=>QC.flat (by rw [hq];rfl) rfl (by rw [hq];rfl)
end Go.Proofs.YtkiicobbnllpkaaDoor
namespace Go.Proofs.YtkiicobbnllpkaaDoor
open Go.Px Go.Ax
set_option maxRecDepth 100000
def preSb (x:OpT) (i:Int):Prop:=k14 x∧0≤i∧(x.1=2∨x.1=4→i<(x.2.2.2.2.length:Int))
def syV (s:SyT):SV:=.agg [.bool s.1,.int .i64 s.2.1,.int .u8 s.2.2]
def ctSb:Ctr:=⟨[opS,iI],fun x=>preSb x.1 x.2.1,fun x=>[syV (elO x.1.1.toNat x.1 (Int.toNat x.2.1))],fun _=>[]⟩
def CSm:CV:=[(21,.inl ctRi),(51,.inl ctSb)]
set_option maxRecDepth 100000
theorem vc_sb (x:OpT) (i:Int) (Q:QT) (R:RT):sy tt G0 [] Tryd.f51.ntmps Tryd.f51.results.toList Q R 1000 [.code (bodyOf Tryd.f51)] (entry [opS,iI] (x,i,())) =
  (bc (decide (x.1=(1:Int))) (Q [.agg [.bool true,.int .i64 (IntKind.i64.wrap (x.2.1+i)),.int .u8 0]] [(2,.var [.int .i64 x.1,.int .i64 x.2.1,.int .i64 x.2.2.1,.int .u8 x.2.2.2.1,.sl uB x.2.2.2.2]),(4,.var [.bool true,.int .i64 (IntKind.i64.wrap (x.2.1+i)),.int .u8 0])]) (bc (decide (x.1=(2:Int))) ((0:Int)≤i ∧
 i<(↑(List.length x.2.2.2.2):Int) ∧
 Q [.agg [.bool true,.int .i64 (IntKind.i64.wrap (x.2.1+i)),.int .u8 (gtB x.2.2.2.2 i.toNat)]] [(2,.var [.int .i64 x.1,.int .i64 x.2.1,.int .i64 x.2.2.1,.int .u8 x.2.2.2.1,.sl uB x.2.2.2.2]),(4,.var [.bool true,.int .i64 (IntKind.i64.wrap (x.2.1+i)),.int .u8 (gtB x.2.2.2.2 i.toNat)])]) (bc (decide (x.1=(3:Int))) (Q [.agg [.bool false,.int .i64 0,.int .u8 x.2.2.2.1]] [(2,.var [.int .i64 x.1,.int .i64 x.2.1,.int .i64 x.2.2.1,.int .u8 x.2.2.2.1,.sl uB x.2.2.2.2]),(4,.var [.bool false,.int .i64 0,.int .u8 x.2.2.2.1])]) ((0:Int)≤i ∧
 i<(↑(List.length x.2.2.2.2):Int) ∧
 Q [.agg [.bool false,.int .i64 0,.int .u8 (gtB x.2.2.2.2 i.toNat)]] [(2,.var [.int .i64 x.1,.int .i64 x.2.1,.int .i64 x.2.2.1,.int .u8 x.2.2.2.1,.sl uB x.2.2.2.2]),(4,.var [.bool false,.int .i64 0,.int .u8 (gtB x.2.2.2.2 i.toNat)])])))):=by kernel_rfl
theorem vc_rs (li:Bool) (m o:Int) (l:List OpT) (Q:QT) (R:RT):sy tt G0 CSm Tryd.f33.ntmps Tryd.f33.results.toList Q (fun it S=>R it (keepS [1,4,5,6] [1,10,37] S)) 1000 [.code (bodyOf Tryd.f33)] (entry [paS] ((li,m,o,l),())) =
  (ctRi.pre ((li,m,o,l),()) ∧
 bc (!decide ((chkV (li,m,o,l)).2=(0:Int))) (Q [.nils,.int .i64 60] [(1,.var [.bool li,.int .i64 m,.int .i64 o,.sl opS l])]) (R (hd Tryd.f33 0) { env:=[(1,.ptr 1 0),(4,.win true syS 10 0 (0:Nat)),(5,.int .i64 0)],blk:=[(1,.var [.bool li,.int .i64 m,.int .i64 o,.sl opS l]),(10,.row 52 syS (List.replicate (0:Nat) syS.dflt))] })):=by kernel_rfl
theorem vc_rsO (li:Bool) (m o:Int) (l:List OpT) (s:List SyT) (i:Nat) (Q:QT) (R:RT):sy tt G0 CSm Tryd.f33.ntmps Tryd.f33.results.toList Q (fun it S=>R it (keepS [1,4,5,6] [1,10,37] S)) 1000 (hd Tryd.f33 0) ⟨[(1,.ptr 1 0),(4,.win true syS 10 0 s.length),(5,.int .i64 (i:Nat))],[(1,.var [.bool li,.int .i64 m,.int .i64 o,.sl opS l]),(10,.row 52 syS s)]⟩ =
  (bc (decide ((i:Int)<(l.length:Int))) (R (hd Tryd.f33 1) { env:=[(1,.ptr 1 0),(4,.win true syS 10 0 s.length),(5,.int .i64 (i:Int)),(6,.int .i64 0)],blk:=[(1,.var [.bool li,.int .i64 m,.int .i64 o,.sl opS l]),(10,.row 52 syS s)] }) (Q [.win true syS 10 0 s.length,.int .i64 0] [(1,.var [.bool li,.int .i64 m,.int .i64 o,.sl opS l]),(10,.row 52 syS s)])):=by kernel_rfl
theorem vc_rsI (li:Bool) (m o:Int) (l:List OpT) (s:List SyT) (i k:Nat) (Q:QT) (R:RT):sy tt G0 CSm Tryd.f33.ntmps Tryd.f33.results.toList Q (fun it S=>R it (keepS [1,4,5,6] [1,10,37] S)) 1000 (hd Tryd.f33 1) ⟨[(1,.ptr 1 0),(4,.win true syS 10 0 s.length),(5,.int .i64 (i:Nat)),(6,.int .i64 (k:Nat))],[(1,.var [.bool li,.int .i64 m,.int .i64 o,.sl opS l]),(10,.row 52 syS s)]⟩ =
  ((0:Int)≤(i:Int) ∧
 (i:Int)<(l.length:Int) ∧
 bc (decide ((k:Int)<(gtO l (i:Int).toNat).2.2.1)) ((0:Int)≤(i:Int) ∧
 (i:Int)<(l.length:Int) ∧
 ctSb.pre ((gtO l (i:Int).toNat),(k:Int),()) ∧
 0+(1:Nat)≤([(elO (Int.toNat (gtO l (i:Int).toNat).1) (gtO l (i:Int).toNat) (k:Int).toNat)]:List syS.D).length ∧
 s.length=s.length ∧
 (0:Nat)=(0:Nat) ∧
 s.length+(([(elO (Int.toNat (gtO l (i:Int).toNat).1) (gtO l (i:Int).toNat) (k:Int).toNat)]:List syS.D)).length<(2:Nat) ^ (30:Nat) ∧
 (24:Nat)≤(2:Nat) ^ (10:Nat) ∧
 R (hd Tryd.f33 1) { env:=[(1,.ptr 1 0),(4,.win true syS 37 0 (s.length+(([(elO (Int.toNat (gtO l (i:Int).toNat).1) (gtO l (i:Int).toNat) (k:Int).toNat)]:List syS.D)).length)),(5,.int .i64 (i:Int)),(6,.int .i64 (IntKind.i64.wrap ((k:Int)+(1:Int))))],blk:=[(1,.var [.bool li,.int .i64 m,.int .i64 o,.sl opS l]),(37,.row 52 syS (s++([(elO (Int.toNat (gtO l (i:Int).toNat).1) (gtO l (i:Int).toNat) (k:Int).toNat)]:List syS.D)))] }) (R (hd Tryd.f33 0) { env:=[(1,.ptr 1 0),(4,.win true syS 10 0 s.length),(5,.int .i64 (IntKind.i64.wrap ((i:Int)+(1:Int)))),(6,.int .i64 (k:Int))],blk:=[(1,.var [.bool li,.int .i64 m,.int .i64 o,.sl opS l]),(10,.row 52 syS s)] })):=by kernel_rfl
end Go.Proofs.YtkiicobbnllpkaaDoor
namespace Go.Proofs.YtkiicobbnllpkaaDoor
open Go.Px Go.Ax
set_option maxRecDepth 100000
attribute [local irreducible] Go.Px.sy Go.Px.syE
theorem sb_run (k f n b i:Int) (d:List Int) (hp:preSb (k,f,n,b,d) i) (R:List Item→PS→Prop):sy tt G0 [] Tryd.f51.ntmps Tryd.f51.results.toList (QC ctSb ((k,f,n,b,d),i,())) R 1000 [.code (bodyOf Tryd.f51)] (entry [opS,iI] ((k,f,n,b,d),i,())):=by
 obtain ⟨hk,h0,hd⟩:=hp
 have out:∀ s,elO k.toNat ((k,f,n,b,d):OpT) i.toNat=s→ctSb.out ((k,f,n,b,d),i,())=[syV s]:=fun s e=>congrArg (fun s=>[syV s]) e
 have hi:((i.toNat:Nat):Int)=i:=by omega
 refine (vc_sb (k,f,n,b,d) i _ _).mpr ?_
 rcases hk with e | e | e | e
 ·have e:k=1:=e
  subst e
  refine QC.flat (out (true,IntKind.i64.wrap (f+i),0) ?_) rfl rfl
  show ((true,IntKind.i64.wrap (f+(i.toNat:Int)),0):SyT)=_
  rw [hi]
 ·have e:k=2:=e
  subst e
  have hd2:i<(d.length:Int):=hd (.inl rfl)
  refine ⟨h0,hd2,QC.flat (out (true,IntKind.i64.wrap (f+i),gtB d i.toNat) ?_) rfl rfl⟩
  show ((true,IntKind.i64.wrap (f+(i.toNat:Int)),gtB d i.toNat):SyT)=_
  rw [hi]
 ·have e:k=3:=e
  subst e
  exact QC.flat (out _ rfl) rfl rfl
 ·have e:k=4:=e
  subst e
  have hd2:i<(d.length:Int):=hd (.inr rfl)
  exact ⟨h0,hd2,QC.flat (out _ rfl) rfl rfl⟩
theorem sb_held:Held Tryd.prog G0 51 ctSb:=Held.run cx0 (fn:=Tryd.f51) rfl rfl ⟨by decide,by decide⟩ fun ⟨⟨k,f,n,b,d⟩,i,_⟩ hp=>sb_run k f n b i d hp _
theorem cxSm2:CxOK Tryd.prog tt G0 CSm:=(cx0.cons sb_held (fn:=Tryd.f51) rfl rfl rfl).cons right_held (fn:=Tryd.f21) rfl rfl rfl
section
variable (li:Bool) (m o:Int) (l:List OpT) (hc:(chkV (li,m,o,l)).2=0)
abbrev RsQ:List SV→List (Nat × LB)→Prop:=QC ctSym ((li,m,o,l),())
include hc
theorem rs_inner (i:Nat) (hi:i<l.length) (nx:GD 33 Tryd.f33 (RsQ li m o l) (hd Tryd.f33 0) ⟨[(1,.ptr 1 0),(4,.win true syS 10 0 (symF (l.take (i+1))).length),(5,.int .i64 ((i+1:Nat):Int))],[(1,.var [.bool li,.int .i64 m,.int .i64 o,.sl opS l]),(10,.row 52 syS (symF (l.take (i+1))))]⟩) :
  ∀ (c k:Nat),l[i].2.2.1.toNat - k=c→k≤l[i].2.2.1.toNat →
  GD 33 Tryd.f33 (RsQ li m o l) (hd Tryd.f33 1) ⟨[(1,.ptr 1 0),(4,.win true syS 10 0 (symF (l.take i)++(symsO l[i].1.toNat l[i]).take k).length),(5,.int .i64 (i:Nat)),(6,.int .i64 (k:Nat))],[(1,.var [.bool li,.int .i64 m,.int .i64 o,.sl opS l]),(10,.row 52 syS (symF (l.take i)++(symsO l[i].1.toNat l[i]).take k))]⟩:=by
 obtain ⟨hr,hs,ho,hl⟩:=chkV_ok hc
 have hl:l.length≤4096:=hl
 have hx:=hr _ (List.getElem_mem hi)
 have hlx:=isRB_len hx
 obtain ⟨k4,hcn⟩:=isRB_kind hx
 have sl:(symsO l[i].1.toNat l[i]).length=cntO l[i].1.toNat l[i]:=gen_len ..
 have hsf:(symF (l.take i)).length≤65536:=by
  have h1:=symF_len (m:=m) (l:=l.take i) fun y hy=>hr y (List.mem_of_mem_take hy)
  have h2:lenS l=lenS (l.take i)+lenS (l.drop i):=by rw [← lenS_app,List.take_append_drop]
  have h3:=lenS_pos (m:=m) (l:=l.drop i) fun y hy=>hr y (List.mem_of_mem_drop hy)
  have ho2:o≤65536:=ho.2
  have hs2:lenS l=o:=hs
  omega
 have ht:symF (l.take (i+1))=symF (l.take i)++symsO l[i].1.toNat l[i]:=by
  rw [List.take_succ_eq_append_getElem hi,symF_app]
  simp [symF]
 intro c
 induction c with
 | zero=>
  intro k hk hk2
  have hk:k=l[i].2.2.1.toNat:=by omega
  have e:(symsO l[i].1.toNat l[i]).take k=symsO l[i].1.toNat l[i]:=List.take_of_length_le (by omega)
  rw [e,← ht]
  refine sy_goK cxSm2 (vc_rsI li m o l (symF (l.take (i+1))) i k _ _) ?_
  rw [Int.toNat_natCast,gtO_at hi,decide_eq_false (by omega),bc_f,IntWalk.i64_in ((i:Int)+1) (by omega)]
  exact ⟨by omega,by omega,nx.only ⟨rfl,rfl,rfl,trivial⟩ ⟨rfl,rfl,trivial⟩⟩
 | succ c ih=>
  intro k hk hk2
  have hk3:k<cntO l[i].1.toNat l[i]:=by omega
  have nk:=ih (k+1) (by omega) (by omega)
  have e:(symsO l[i].1.toNat l[i]).take (k+1)=(symsO l[i].1.toNat l[i]).take k++[elO l[i].1.toNat l[i] k]:=by
   rw [List.take_succ_eq_append_getElem (by omega)]
   congr 2
   have:=gen_get (elO l[i].1.toNat l[i]) (cntO l[i].1.toNat l[i]) 0 k hk3
   rw [Nat.zero_add] at this
   have h2:(symsO l[i].1.toNat l[i])[k]?=some (elO l[i].1.toNat l[i] k):=this
   rw [List.getElem?_eq_getElem (by omega)] at h2
   exact Option.some.inj h2
  rw [e,← List.append_assoc] at nk
  have tl:((symsO l[i].1.toNat l[i]).take k).length≤65536:=by rw [List.length_take];omega
  have pre:preSb l[i] (k:Int):=⟨k4,by omega,fun h=>by
   have:cntO l[i].1.toNat l[i]=l[i].2.2.2.2.length:=by rcases h with h | h <;> (rw [h];rfl)
   omega⟩
  generalize hss:symF (l.take i)++(symsO l[i].1.toNat l[i]).take k=ss at *
  have hsl:ss.length≤131072:=by rw [← hss,List.length_append];omega
  refine sy_goK cxSm2 (vc_rsI li m o l ss i k _ _) ?_
  rw [Int.toNat_natCast,gtO_at hi,decide_eq_true (show (k:Int)<l[i].2.2.1 by omega),bc_t,IntWalk.i64_in ((k:Int)+1) (by omega),Int.toNat_natCast]
  refine ⟨by omega,by omega,by omega,by omega,pre,Nat.le_refl 1,rfl,rfl,?_,by decide,?_⟩
  ·show ss.length+1<2 ^ 30
   show ss.length+1<1073741824
   omega
  ·exact nk.onlyR [(10,37)] rfl ⟨rfl,by rw [List.length_append];rfl,rfl,rfl,trivial⟩ ⟨rfl,rfl,trivial⟩
theorem rs_outer:∀ (c i:Nat),l.length - i=c→i≤l.length →
  GD 33 Tryd.f33 (RsQ li m o l) (hd Tryd.f33 0) ⟨[(1,.ptr 1 0),(4,.win true syS 10 0 (symF (l.take i)).length),(5,.int .i64 (i:Nat))],[(1,.var [.bool li,.int .i64 m,.int .i64 o,.sl opS l]),(10,.row 52 syS (symF (l.take i)))]⟩:=by
 have hv:symV (li,m,o,l)=(symF l,0):=by unfold symV;rw [if_pos hc]
 intro c
 induction c with
 | zero=>
  intro i hc2 hi
  refine sy_goK cxSm2 (vc_rsO li m o l (symF (l.take i)) i _ _) ?_
  rw [decide_eq_false (by omega),bc_f,List.take_of_length_le (by omega)]
  refine qc_rowI (e:=syS) (et:=52) (a:=10) (z:=0) (xs:=symF l) ?_ ?_ rfl rfl rfl
  ·show [SV.win true syS 0 0 (symV (li,m,o,l)).1.length,.int .i64 (symV (li,m,o,l)).2]=_
   rw [hv]
  ·show [LB.row 52 syS (symV (li,m,o,l)).1]=_
   rw [hv]
 | succ c ih=>
  intro i hc2 hi
  have hil:i<l.length:=by omega
  refine sy_goK cxSm2 (vc_rsO li m o l (symF (l.take i)) i _ _) ?_
  rw [decide_eq_true (show (i:Int)<(l.length:Int) by omega),bc_t]
  have h:=rs_inner li m o l hc i hil (ih (i+1) (by omega) (by omega)) _ 0 rfl (Nat.zero_le _)
  rw [List.take_zero,List.append_nil] at h
  exact h.only ⟨rfl,rfl,rfl,rfl,trivial⟩ ⟨rfl,rfl,trivial⟩
end
theorem rs_held:Held Tryd.prog G0 33 ctSym:=Held.of cxSm2 (fn:=Tryd.f33) rfl rfl ⟨by decide,by decide⟩ fun ⟨⟨li,m,o,l⟩,_⟩ _=>by
 refine sy_goK cxSm2 (vc_rs li m o l _ _) ⟨trivial,bc_of (fun h=>?_) (fun h=>?_)⟩
 ·have h:¬ (chkV (li,m,o,l)).2=0:=by
   have h:(!decide ((chkV (li,m,o,l)).2=0))=true:=h
   simpa using h
  have h6:(chkV (li,m,o,l)).2=60:=by rcases chkV60 (li,m,o,l) with q | q;exact absurd q h;exact q
  have hv:symV (li,m,o,l)=([],60):=by unfold symV;rw [if_neg h,h6]
  refine qc_nilI (e:=syS) (et:=52) (z:=60) ?_ ?_ rfl (by decide)
  ·show [SV.win true syS 0 0 (symV (li,m,o,l)).1.length,.int .i64 (symV (li,m,o,l)).2]=_
   rw [hv];rfl
  ·show [LB.row 52 syS (symV (li,m,o,l)).1]=_
   rw [hv]
 ·have h:(chkV (li,m,o,l)).2=0:=by
   have h:(!decide ((chkV (li,m,o,l)).2=0))=false:=h
   simpa using h
  exact (rs_outer li m o l h _ 0 rfl (Nat.zero_le _)).only ⟨rfl,rfl,rfl,trivial⟩ ⟨rfl,rfl,trivial⟩
end Go.Proofs.YtkiicobbnllpkaaDoor
