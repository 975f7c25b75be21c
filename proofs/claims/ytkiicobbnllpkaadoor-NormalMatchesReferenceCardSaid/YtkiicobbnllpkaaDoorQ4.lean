/-
  A part of the proof: what pieces of the program give; conditions: those of each theorem.
-/
import Derived.Test.YtkiicobbnllpkaaDoorQ3
import Derived.Test.YtkiicobbnllpkaaDoorHD
set_option linter.unusedVariables false
set_option linter.unusedSimpArgs false
namespace Go.Proofs.YtkiicobbnllpkaaDoor
open Go.Px Go.Ax
set_option maxRecDepth 100000
def ctIn2:Ctr:=⟨[iI,iI,iI],fun _=>True,fun x=>[.bool (decide (x.2.1≤x.1) && decide (x.1≤x.2.2.1))],fun _=>[]⟩
def CRcp:CV:=[(34,.inl ctIn2),(35,.inl ctRsy),(36,.inl ctLi)]
def CRfo:CV:=[(33,.inl ctSym),(16,.inl ctCp)]
def CRsa:CV:=[(33,.inl ctSym),(38,.inl ctSS)]
set_option maxRecDepth 100000
theorem vc_in2 (a b c:Int) (Q:QT) (R:RT):sy tt G0 [] Tryd.f34.ntmps Tryd.f34.results.toList Q R 1000 [.code (bodyOf Tryd.f34)] (entry [iI,iI,iI] (a,b,c,())) =
  (bc (decide (b≤a)) (Q [.bool (decide (a≤c))] []) (false=false ∧
 Q [.bool false] [])):=by kernel_rfl
theorem vc_rcp (l:List SyT) (m:Int) (Q:QT) (R:RT):sy tt G0 CRcp Tryd.f16.ntmps Tryd.f16.results.toList Q (fun it S=>R it (keepS [0,1,4,6] [4] S)) 1000 [.code (bodyOf Tryd.f16)] (entry [.sl syS,iI] (l,m,())) =
  (ctIn2.pre (m,(0:Int),(65536:Int),()) ∧
 bc (!(decide ((0:Int)≤m) && decide (m≤(65536:Int)))) (true=true ∧
 Q [.agg [.bool false,.int .i64 0,.int .i64 0,.nils],.int .i64 60] [(4,.var [.bool false,.int .i64 0,.int .i64 0,.nils])]) (bc (bif false then true else decide ((65536:Int)<(l.length:Int))) (Q [.agg [.bool false,.int .i64 0,.int .i64 0,.nils],.int .i64 60] [(4,.var [.bool false,.int .i64 0,.int .i64 0,.nils])]) (R (hd Tryd.f16 0) { env:=[(0,.sl syS l),(1,.int .i64 m),(4,.ptr 4 0),(6,.int .i64 0)],blk:=[(4,.var [.bool false,.int .i64 0,.int .i64 0,.nils])] }))):=by kernel_rfl
theorem vc_rcpL (l:List SyT) (m:Int) (i:Nat) (Q:QT) (R:RT):sy tt G0 CRcp Tryd.f16.ntmps Tryd.f16.results.toList Q (fun it S=>R it (keepS [0,1,4,6] [4] S)) 1000 (hd Tryd.f16 0) ⟨[(0,.sl syS l),(1,.int .i64 m),(4,.ptr 4 0),(6,.int .i64 (i:Nat))],[(4,.var [.bool false,.int .i64 0,.int .i64 0,.nils])]⟩ =
  (bc (decide ((i:Int)<(l.length:Int))) ((0:Int)≤(i:Int) ∧
 (i:Int)<(l.length:Int) ∧
 ctRsy.pre ((gtY l (i:Int).toNat),m,()) ∧
 bc (!sOK m (gtY l (i:Int).toNat)) (Q [.agg [.bool false,.int .i64 0,.int .i64 0,.nils],.int .i64 60] [(4,.var [.bool false,.int .i64 0,.int .i64 0,.nils])]) (R (hd Tryd.f16 0) { env:=[(0,.sl syS l),(1,.int .i64 m),(4,.ptr 4 0),(6,.int .i64 (IntKind.i64.wrap ((i:Int)+(1:Int))))],blk:=[(4,.var [.bool false,.int .i64 0,.int .i64 0,.nils])] })) (ctLi.pre (l,()) ∧
 bc (decide ((4096:Int)<(↑(chL l).length:Int))) (Q [.agg [.bool false,.int .i64 0,.int .i64 0,.nils],.int .i64 2] [(4,.var [.bool false,.int .i64 0,.int .i64 0,.nils]),(7,.var [.bool false,.int .i64 m,.int .i64 (l.length:Int),.sl opS (chL l)])]) (Q [.agg [.bool false,.int .i64 m,.int .i64 (l.length:Int),.sl opS (chL l)],.int .i64 0] [(4,.var [.bool false,.int .i64 m,.int .i64 (l.length:Int),.sl opS (chL l)]),(7,.var [.bool false,.int .i64 m,.int .i64 (l.length:Int),.sl opS (chL l)])]))):=by kernel_rfl
theorem vc_rfo (li:Bool) (m o:Int) (l:List OpT) (Q:QT) (R:RT):sy tt G0 CRfo Tryd.f14.ntmps Tryd.f14.results.toList Q R 1000 [.code (bodyOf Tryd.f14)] (entry [paS] ((li,m,o,l),())) =
  (ctSym.pre ((li,m,o,l),()) ∧
 bc (decide ((symV (li,m,o,l)).2≠(0:Int))) (Q [.agg [.bool false,.int .i64 0,.int .i64 0,.nils],.int .i64 (symV (li,m,o,l)).2] [(1,.var [.bool li,.int .i64 m,.int .i64 o,.sl opS l]),(2,.var [.bool false,.int .i64 0,.int .i64 0,.nils]),(1040960,.row 52 syS (symV (li,m,o,l)).1)]) (0+(symV (li,m,o,l)).1.length≤(symV (li,m,o,l)).1.length ∧
 0+(symV (li,m,o,l)).1.length≤(symV (li,m,o,l)).1.length ∧
 0+(symV (li,m,o,l)).1.length≤(symV (li,m,o,l)).1.length ∧
 0+(symV (li,m,o,l)).1.length≤(symV (li,m,o,l)).1.length ∧
 0+(symV (li,m,o,l)).1.length≤(symV (li,m,o,l)).1.length ∧
 ctCp.pre (winL syS 0 (symV (li,m,o,l)).1.length (symV (li,m,o,l)).1,m,()) ∧
 bc (decide ((cpV (winL syS 0 (symV (li,m,o,l)).1.length (symV (li,m,o,l)).1) m).2=(0:Int))) (Q [.agg [.bool li,.int .i64 (cpV (winL syS 0 (symV (li,m,o,l)).1.length (symV (li,m,o,l)).1) m).1.2.1,.int .i64 (cpV (winL syS 0 (symV (li,m,o,l)).1.length (symV (li,m,o,l)).1) m).1.2.2.1,.sl opS (cpV (winL syS 0 (symV (li,m,o,l)).1.length (symV (li,m,o,l)).1) m).1.2.2.2],.int .i64 (cpV (winL syS 0 (symV (li,m,o,l)).1.length (symV (li,m,o,l)).1) m).2] [(1,.var [.bool li,.int .i64 m,.int .i64 o,.sl opS l]),(2,.var [.bool li,.int .i64 (cpV (winL syS 0 (symV (li,m,o,l)).1.length (symV (li,m,o,l)).1) m).1.2.1,.int .i64 (cpV (winL syS 0 (symV (li,m,o,l)).1.length (symV (li,m,o,l)).1) m).1.2.2.1,.sl opS (cpV (winL syS 0 (symV (li,m,o,l)).1.length (symV (li,m,o,l)).1) m).1.2.2.2]),(6,.var [.bool li,.int .i64 (cpV (winL syS 0 (symV (li,m,o,l)).1.length (symV (li,m,o,l)).1) m).1.2.1,.int .i64 (cpV (winL syS 0 (symV (li,m,o,l)).1.length (symV (li,m,o,l)).1) m).1.2.2.1,.sl opS (cpV (winL syS 0 (symV (li,m,o,l)).1.length (symV (li,m,o,l)).1) m).1.2.2.2])]) (Q [.agg [.bool (cpV (winL syS 0 (symV (li,m,o,l)).1.length (symV (li,m,o,l)).1) m).1.1,.int .i64 (cpV (winL syS 0 (symV (li,m,o,l)).1.length (symV (li,m,o,l)).1) m).1.2.1,.int .i64 (cpV (winL syS 0 (symV (li,m,o,l)).1.length (symV (li,m,o,l)).1) m).1.2.2.1,.sl opS (cpV (winL syS 0 (symV (li,m,o,l)).1.length (symV (li,m,o,l)).1) m).1.2.2.2],.int .i64 (cpV (winL syS 0 (symV (li,m,o,l)).1.length (symV (li,m,o,l)).1) m).2] [(1,.var [.bool li,.int .i64 m,.int .i64 o,.sl opS l]),(2,.var [.bool (cpV (winL syS 0 (symV (li,m,o,l)).1.length (symV (li,m,o,l)).1) m).1.1,.int .i64 (cpV (winL syS 0 (symV (li,m,o,l)).1.length (symV (li,m,o,l)).1) m).1.2.1,.int .i64 (cpV (winL syS 0 (symV (li,m,o,l)).1.length (symV (li,m,o,l)).1) m).1.2.2.1,.sl opS (cpV (winL syS 0 (symV (li,m,o,l)).1.length (symV (li,m,o,l)).1) m).1.2.2.2]),(6,.var [.bool (cpV (winL syS 0 (symV (li,m,o,l)).1.length (symV (li,m,o,l)).1) m).1.1,.int .i64 (cpV (winL syS 0 (symV (li,m,o,l)).1.length (symV (li,m,o,l)).1) m).1.2.1,.int .i64 (cpV (winL syS 0 (symV (li,m,o,l)).1.length (symV (li,m,o,l)).1) m).1.2.2.1,.sl opS (cpV (winL syS 0 (symV (li,m,o,l)).1.length (symV (li,m,o,l)).1) m).1.2.2.2])]))):=by kernel_rfl
def mem_rsa_m0 (li li2:Bool) (m o m2 o2:Int) (l l2:List OpT):List (Nat × LB):=[(2,.var [.bool li,.int .i64 m,.int .i64 o,.sl opS l]),(3,.var [.bool li2,.int .i64 m2,.int .i64 o2,.sl opS l2]),(1045056,.row 52 syS (symV (li,m,o,l)).1),(1065536,.row 52 syS (symV (li2,m2,o2,l2)).1)]
theorem vc_rsa (li li2:Bool) (m o m2 o2:Int) (l l2:List OpT) (Q:QT) (R:RT):sy tt G0 CRsa Tryd.f19.ntmps Tryd.f19.results.toList Q R 1000 [.code (bodyOf Tryd.f19)] (entry [paS,paS] ((li,m,o,l),(li2,m2,o2,l2),())) =
  (ctSym.pre ((li,m,o,l),()) ∧
 ctSym.pre ((li2,m2,o2,l2),()) ∧
 bc (decide ((symV (li,m,o,l)).2=(0:Int))) (bc (decide ((symV (li2,m2,o2,l2)).2=(0:Int))) (bc (bif true then li == li2 else false) (bc (decide (m=m2)) (0+(symV (li,m,o,l)).1.length≤(symV (li,m,o,l)).1.length ∧
 0+(symV (li2,m2,o2,l2)).1.length≤(symV (li2,m2,o2,l2)).1.length ∧
 ctSS.pre (winL syS 0 (symV (li,m,o,l)).1.length (symV (li,m,o,l)).1,winL syS 0 (symV (li2,m2,o2,l2)).1.length (symV (li2,m2,o2,l2)).1,()) ∧
 Q [.bool (decide ((have this:=winL syS 0 (symV (li,m,o,l)).1.length (symV (li,m,o,l)).1;this)=winL syS 0 (symV (li2,m2,o2,l2)).1.length (symV (li2,m2,o2,l2)).1))] (mem_rsa_m0 li li2 m o m2 o2 l l2)) (false=false ∧
 Q [.bool false] (mem_rsa_m0 li li2 m o m2 o2 l l2))) (false=false ∧
 false=false ∧
 Q [.bool false] (mem_rsa_m0 li li2 m o m2 o2 l l2))) (false=false ∧
 false=false ∧
 false=false ∧
 Q [.bool false] (mem_rsa_m0 li li2 m o m2 o2 l l2))) (false=false ∧
 false=false ∧
 false=false ∧
 false=false ∧
 Q [.bool false] (mem_rsa_m0 li li2 m o m2 o2 l l2))):=by kernel_rfl
end Go.Proofs.YtkiicobbnllpkaaDoor
namespace Go.Proofs.YtkiicobbnllpkaaDoor
open Go.Px Go.Ax
set_option maxRecDepth 100000
attribute [local irreducible] Go.Px.sy Go.Px.syE
theorem in2_run (a b c:Int) (R:List Item→PS→Prop):sy tt G0 [] Tryd.f34.ntmps Tryd.f34.results.toList (QC ctIn2 (a,b,c,())) R 1000 [.code (bodyOf Tryd.f34)] (entry [iI,iI,iI] (a,b,c,())):=by
 have out:∀ v,(decide (b≤a) && decide (a≤c))=v→ctIn2.out (a,b,c,())=[SV.bool v]:=fun v e=>congrArg (fun v=>[SV.bool v]) e
 refine (vc_in2 a b c _ _).mpr (bc_of (fun h=>?_) (fun h=>⟨rfl,?_⟩))
 ·exact QC.flat (out _ (by rw [h];rfl)) rfl rfl
 ·exact QC.flat (out _ (by rw [h];rfl)) rfl rfl
theorem in2_held:Held Tryd.prog G0 34 ctIn2:=Held.run cx0 (fn:=Tryd.f34) rfl rfl ⟨by decide,by decide⟩ fun ⟨a,b,c,_⟩ _=>in2_run a b c _
theorem cxRcp:CxOK Tryd.prog tt G0 CRcp:=((cx0.cons li_held (fn:=Tryd.f36) rfl rfl rfl).cons rsym_held (fn:=Tryd.f35) rfl rfl rfl).cons in2_held (fn:=Tryd.f34) rfl rfl rfl
abbrev RcQ (l:List SyT) (m:Int):List SV→List (Nat × LB)→Prop:=QC ctCp (l,m,())
theorem rc_out {l:List SyT} {m:Int} {rs:List SV} {bl:List (Nat × LB)} (p:PaT) (e:Int) (hv:cpV l m=(p,e)) (h:MtL (fun _=>none) [paV p,.int .i64 e] rs):RcQ l m rs bl:=
 QC.mt (by show MtL _ [paV (cpV l m).1,.int .i64 (cpV l m).2] _;rw [hv];exact h) rfl
theorem rc_loop (l:List SyT) (m:Int) (h0:0≤m) (h1:m≤65536) (hl:l.length≤65536):∀ (c i:Nat),l.length - i=c→i≤l.length→(∀ j,j<i→sOK m (gtY l j)=true) →
  GD 16 Tryd.f16 (RcQ l m) (hd Tryd.f16 0) ⟨[(0,.sl syS l),(1,.int .i64 m),(4,.ptr 4 0),(6,.int .i64 (i:Nat))],[(4,.var [.bool false,.int .i64 0,.int .i64 0,.nils])]⟩:=by
 intro c
 induction c with
 | zero=>
  intro i hc hi hj
  have hr:∀ s∈l,sOK m s=true:=fun s hs=>by
   obtain ⟨j,hj2,e⟩:=List.mem_iff_getElem.1 hs
   rw [← e,← gtY_at hj2];exact hj j (by omega)
  have hg:szB m=true∧szB l.length=true∧l.all (sOK m)=true:=⟨by simp [szB];omega,by simp [szB];omega,by rw [List.all_eq_true];exact hr⟩
  have hv:cpV l m=poV l m:=by unfold cpV;rw [if_neg (ofV_60' hg)]
  refine sy_goK cxRcp (vc_rcpL l m i _ _) ?_
  rw [decide_eq_false (by omega),bc_f]
  refine ⟨⟨hl,m,by omega,hr⟩,bc_of (fun h=>?_) (fun h=>?_)⟩
  ·have h:(4096:Int)<((chL l).length:Int):=of_decide_eq_true h
   exact rc_out _ _ (by rw [hv];unfold poV;rw [if_pos (by omega)]) (zero_mt _)
  ·have h:¬ (4096:Int)<((chL l).length:Int):=of_decide_eq_false h
   have hv2:cpV l m=(((false,m,(l.length:Int),chL l):PaT),(0:Int)):=by rw [hv];unfold poV;rw [if_neg (by omega)]
   exact QC.flat (by show [paV (cpV l m).1,.int .i64 (cpV l m).2]=_;rw [hv2];rfl) rfl rfl
 | succ c ih=>
  intro i hc hi hj
  have hil:i<l.length:=by omega
  refine sy_goK cxRcp (vc_rcpL l m i _ _) ?_
  rw [decide_eq_true (show (i:Int)<(l.length:Int) by omega),bc_t,Int.toNat_natCast,IntWalk.i64_in ((i:Int)+1) (by omega)]
  refine ⟨by omega,by omega,(show preN m from ⟨h0,by omega⟩),bc_of (fun h=>?_) (fun h=>?_)⟩
  ·have h:sOK m (gtY l i)=false:=by
    have h:(!sOK m (gtY l i))=true:=h
    simpa using h
   refine rc_out _ _ (cpV_bad fun q=>?_) (zero_mt _)
   have:=List.all_eq_true.1 q.2.2 (gtY l i) (by rw [gtY_at hil];exact List.getElem_mem _)
   rw [h] at this;cases this
  ·have h:sOK m (gtY l i)=true:=by
    have h:(!sOK m (gtY l i))=false:=h
    simpa using h
   refine (ih (i+1) (by omega) (by omega) fun j hj2=>?_).only ⟨rfl,rfl,rfl,rfl,trivial⟩ ⟨rfl,trivial⟩
   rcases Nat.lt_or_ge j i with q | q
   ·exact hj j q
   ·have:j=i:=by omega
    subst this;exact h
theorem rc_run (l:List SyT) (m:Int):GD 16 Tryd.f16 (RcQ l m) [.code (bodyOf Tryd.f16)] (entry [.sl syS,iI] (l,m,())):=by
 refine sy_goK cxRcp (vc_rcp l m _ _) ⟨trivial,bc_of (fun h=>⟨by trivial,?_⟩) (fun h=>bc_of (fun h2=>?_) (fun h2=>?_))⟩
 ·refine rc_out _ _ (cpV_bad fun q=>?_) (zero_mt _)
  have:=szB_le q.1
  simp at h
  omega
 ·have h2:decide ((65536:Int)<(l.length:Int))=true:=h2
  have h2:(65536:Int)<(l.length:Int):=of_decide_eq_true h2
  refine rc_out _ _ (cpV_bad fun q=>?_) (zero_mt _)
  have:=szB_le q.2.1
  omega
 ·have h:0≤m∧m≤65536:=by
   have h:(!(decide ((0:Int)≤m) && decide (m≤(65536:Int))))=false:=h
   simpa using h
  have h2:decide ((65536:Int)<(l.length:Int))=false:=h2
  have h2:¬ (65536:Int)<(l.length:Int):=of_decide_eq_false h2
  exact (rc_loop l m h.1 h.2 (by omega) _ 0 rfl (Nat.zero_le _) fun j hj=>absurd hj (Nat.not_lt_zero _)).only ⟨rfl,rfl,rfl,rfl,trivial⟩ ⟨rfl,trivial⟩
theorem rc_held:Held Tryd.prog G0 16 ctCp:=Held.of cxRcp (fn:=Tryd.f16) rfl rfl ⟨by decide,by decide⟩ fun ⟨l,m,_⟩ _=>rc_run l m
theorem elO_sOK {x:OpT} {m:Int} (h:isRB x m=true) (h0:0≤m) (hm:m<16777216) {k:Nat} (hk:(k:Int)<x.2.2.1):sOK m (elO x.1.toNat x k)=true:=by
 have pp:=isRB_part h ⟨h0,hm⟩
 rcases (isRB_kind h).1 with e | e | e | e
 ·rw [e]
  have pp:=pp (.inl e)
  show sOK m (true,IntKind.i64.wrap (x.2.1+(k:Int)),0)=true
  rw [IntWalk.i64_in _ (by omega)]
  simp [sOK];omega
 ·rw [e]
  have pp:=pp (.inr e)
  show sOK m (true,IntKind.i64.wrap (x.2.1+(k:Int)),gtB x.2.2.2.2 k)=true
  rw [IntWalk.i64_in _ (by omega)]
  simp [sOK];omega
 ·rw [e];rfl
 ·rw [e];rfl
theorem sym_sOK {m:Int} (h0:0≤m) (hm:m<16777216) {l:List OpT} (hr:∀ x∈l,isRB x m=true):∀ s∈symF l,sOK m s=true:=fun s hs=>by
 obtain ⟨x,hx,k,hk,e⟩:=sym_mem hr s hs
 rw [e]
 exact elO_sOK (hr x hx) h0 hm hk
theorem chkV_in {p:PaT} (h:(chkV p).2=0):0≤p.2.1∧p.2.1≤65536:=by
 unfold chkV at h
 split at h
 ·rename_i q;exact szB_le q.1
 ·cases h
theorem symV_ok {p:PaT} (h:(symV p).2=0):(chkV p).2=0∧(symV p).1=symF p.2.2.2:=by
 unfold symV at h ⊢
 split at h
 ·rename_i q;rw [if_pos q];exact ⟨q,rfl⟩
 ·rename_i q;exact absurd h q
theorem symV_right {p:PaT} (h:(symV p).2=0):(∀ s∈(symV p).1,sOK p.2.1 s=true)∧(0≤p.2.1∧p.2.1≤65536)∧((symV p).1.length:Int)=p.2.2.1:=by
 obtain ⟨h1,h2⟩:=symV_ok h
 obtain ⟨hr,hs,ho,hl⟩:=chkV_ok h1
 have hi:=chkV_in h1
 rw [h2]
 exact ⟨sym_sOK hi.1 (by omega) hr,hi,by rw [symF_len hr,hs]⟩
theorem cp_po {p:PaT} (h:(symV p).2=0):cpV (symV p).1 p.2.1=poV (symV p).1 p.2.1:=by
 obtain ⟨h1,h2,h3⟩:=symV_right h
 have hl:=symV_le p
 unfold cpV
 rw [if_neg (ofV_60' ⟨by simp [szB];omega,by simp [szB];omega,by rw [List.all_eq_true];exact h1⟩)]
theorem poV_zero {l:List SyT} {m:Int} (h:(poV l m).2≠0):(poV l m).1=(false,0,0,[]):=by
 unfold poV at h ⊢
 split at h
 ·rename_i q;rw [if_pos q]
 ·exact absurd rfl h
theorem cxRfo:CxOK Tryd.prog tt G0 CRfo:=(cx0.cons rc_held (fn:=Tryd.f16) rfl rfl rfl).cons rs_held (fn:=Tryd.f33) rfl rfl rfl
theorem rfo_run (li:Bool) (m o:Int) (l:List OpT) (R:List Item→PS→Prop):sy tt G0 CRfo Tryd.f14.ntmps Tryd.f14.results.toList (QC ctFo ((li,m,o,l),())) R 1000 [.code (bodyOf Tryd.f14)] (entry [paS] ((li,m,o,l),())):=by
 refine (vc_rfo li m o l _ _).mpr ⟨trivial,bc_of (fun h=>?_) (fun h=>?_)⟩
 ·have h:(symV (li,m,o,l)).2≠0:=of_decide_eq_true h
  have hv:foV (li,m,o,l)=((false,0,0,[]),(symV (li,m,o,l)).2):=by unfold foV;rw [if_neg h]
  exact QC.mt (by show MtL _ [paV (foV (li,m,o,l)).1,.int .i64 (foV (li,m,o,l)).2] _;rw [hv];exact zero_mt _) rfl
 ·have h:¬ (symV (li,m,o,l)).2≠0:=of_decide_eq_false h
  have h:(symV (li,m,o,l)).2=0:=by omega
  have hcp:cpV (symV (li,m,o,l)).1 m=poV (symV (li,m,o,l)).1 m:=cp_po h
  rw [winA,hcp]
  refine ⟨by omega,by omega,by omega,by omega,by omega,symV_len _,bc_of (fun h2=>?_) (fun h2=>?_)⟩
  ·have h2:(poV (symV (li,m,o,l)).1 m).2=0:=of_decide_eq_true h2
   have hv:foV (li,m,o,l)=((li,(poV (symV (li,m,o,l)).1 m).1.2),0):=by unfold foV;rw [if_pos h,if_pos h2]
   exact QC.flat (by show [paV (foV (li,m,o,l)).1,.int .i64 (foV (li,m,o,l)).2]=_;rw [hv,h2];rfl) rfl rfl
  ·have h2:¬ (poV (symV (li,m,o,l)).1 m).2=0:=of_decide_eq_false h2
   have hv:foV (li,m,o,l)=((false,0,0,[]),(poV (symV (li,m,o,l)).1 m).2):=by unfold foV;rw [if_pos h,if_neg h2]
   exact QC.flat (by show [paV (foV (li,m,o,l)).1,.int .i64 (foV (li,m,o,l)).2]=_;rw [hv,poV_zero h2];rfl) rfl rfl
theorem rfo_held:Held Tryd.prog G0 14 ctFo:=Held.run cxRfo (fn:=Tryd.f14) rfl rfl ⟨by decide,by decide⟩ fun ⟨⟨li,m,o,l⟩,_⟩ _=>rfo_run li m o l _
theorem cxRsa:CxOK Tryd.prog tt G0 CRsa:=(cx0.cons ss_held (fn:=Tryd.f38) rfl rfl rfl).cons rs_held (fn:=Tryd.f33) rfl rfl rfl
theorem rsa_run (li li2:Bool) (m o m2 o2:Int) (l l2:List OpT) (R:List Item→PS→Prop):sy tt G0 CRsa Tryd.f19.ntmps Tryd.f19.results.toList (QC ctSa ((li,m,o,l),(li2,m2,o2,l2),())) R 1000 [.code (bodyOf Tryd.f19)] (entry [paS,paS] ((li,m,o,l),(li2,m2,o2,l2),())):=by
 have out:∀ b,saV (li,m,o,l) (li2,m2,o2,l2)=b→ctSa.out ((li,m,o,l),(li2,m2,o2,l2),())=[SV.bool b]:=fun b e=>congrArg (fun b=>[SV.bool b]) e
 have no:¬ ((symV (li,m,o,l)).2=0∧(symV (li2,m2,o2,l2)).2=0∧li=li2∧m=m2)→saV (li,m,o,l) (li2,m2,o2,l2)=false:=fun q=>by
  unfold saV
  by_cases q1:(symV (li,m,o,l)).2=0
  ·by_cases q2:(symV (li2,m2,o2,l2)).2=0
   ·by_cases q3:li=li2
    ·have q4:¬ m=m2:=fun e=>q ⟨q1,q2,q3,e⟩
     simp [q4]
    ·simp [q3]
   ·simp [q2]
  ·simp [q1]
 refine (vc_rsa li li2 m o m2 o2 l l2 _ _).mpr ⟨trivial,trivial,bc_of (fun h1=>bc_of (fun h2=>bc_of (fun h3=>bc_of (fun h4=>?_) (fun h4=>⟨rfl,?_⟩)) (fun h3=>⟨rfl,rfl,?_⟩)) (fun h2=>⟨rfl,rfl,rfl,?_⟩)) (fun h1=>⟨rfl,rfl,rfl,rfl,?_⟩)⟩
 ·have h1:(symV (li,m,o,l)).2=0:=of_decide_eq_true h1
  have h2:(symV (li2,m2,o2,l2)).2=0:=of_decide_eq_true h2
  have h3:li=li2:=by simpa using h3
  have h4:m=m2:=of_decide_eq_true h4
  rw [winA,winA]
  have:=symV_len (li,m,o,l)
  refine ⟨by omega,by omega,(show (symV (li,m,o,l)).1.length<1099511627776 by omega),?_⟩
  exact QC.flat (out _ (by unfold saV;rw [decide_eq_true h1,decide_eq_true h2,decide_eq_true (show (li,m,o,l).1=(li2,m2,o2,l2).1 from h3),decide_eq_true (show (li,m,o,l).2.1=(li2,m2,o2,l2).2.1 from h4)];rfl)) rfl rfl
 ·have h4:¬ m=m2:=of_decide_eq_false h4
  exact QC.flat (out _ (no fun q=>h4 q.2.2.2)) rfl rfl
 ·have h3:¬ li=li2:=by simpa using h3
  exact QC.flat (out _ (no fun q=>h3 q.2.2.1)) rfl rfl
 ·have h2:¬ (symV (li2,m2,o2,l2)).2=0:=of_decide_eq_false h2
  exact QC.flat (out _ (no fun q=>h2 q.2.1)) rfl rfl
 ·have h1:¬ (symV (li,m,o,l)).2=0:=of_decide_eq_false h1
  exact QC.flat (out _ (no fun q=>h1 q.1)) rfl rfl
theorem rsa_held:Held Tryd.prog G0 19 ctSa:=Held.run cxRsa (fn:=Tryd.f19) rfl rfl ⟨by decide,by decide⟩ fun ⟨⟨li,m,o,l⟩,⟨li2,m2,o2,l2⟩,_⟩ _=>rsa_run li li2 m o m2 o2 l l2 _
end Go.Proofs.YtkiicobbnllpkaaDoor
namespace Go.Proofs.YtkiicobbnllpkaaDoor
open Go.Px Go.Ax
set_option maxRecDepth 100000
abbrev w2S:Sh:=.arr 2 (.int .i16)
def CMr:CV:=[(10,.inl ctSan),(12,.inl ctRaw),(11,.inl ctM6),(13,.inl ctFo),(14,.inl ctFo),(15,.inl ctCp),(16,.inl ctCp),(17,.inl ctSm),(18,.inl ctSa),(19,.inl ctSa)]
theorem cxMr:CxOK Tryd.prog tt G0 CMr:=(((((((((cx0.cons rsa_held (fn:=Tryd.f19) rfl rfl rfl).cons sa_held (fn:=Tryd.f18) rfl rfl rfl).cons sm_held (fn:=Tryd.f17) rfl rfl rfl).cons rc_held (fn:=Tryd.f16) rfl rfl rfl).cons cp_held (fn:=Tryd.f15) rfl rfl rfl).cons rfo_held (fn:=Tryd.f14) rfl rfl rfl).cons fo_held (fn:=Tryd.f13) rfl rfl rfl).cons made6_held (fn:=Tryd.f11) rfl rfl rfl).cons raw_held (fn:=Tryd.f12) rfl rfl rfl).cons san_held (fn:=Tryd.f10) rfl rfl rfl
set_option maxRecDepth 100000
theorem vc_m3a (z:Int) (l4 l:List (List Int)) (w:List Int) (Q:QT) (R:RT):sy tt G0 CMr Tryd.f3.ntmps Tryd.f3.results.toList Q (fun it S=>R it (keepS [5,6,7,8,9,10] [5,8,9,1200704] S)) 14 [.code (bodyOf Tryd.f3)] (entry [raS,.sl a2S,w2S] ((z,l4),l,w,())) =
  (ctSan.pre () ∧
 ctM6.pre ((z,l4),()) ∧
 (0:Int)≤(0:Int) ∧
 (0:Int)<(↑(2:Nat):Int) ∧
 0<(2:Nat) ∧
 (2:Int)≠(0:Int) ∧
 (0:Int)≤(1:Int) ∧
 (1:Int)<(↑(2:Nat):Int) ∧
 1<(2:Nat) ∧
 (3:Int)≠(0:Int) ∧
 (0:Int)≤(0:Int) ∧
 (0:Int)<(↑(2:Nat):Int) ∧
 0<(2:Nat) ∧
 ctRaw.pre (l,IntKind.i64.wrap (IntKind.u8.wrap (gt (Sh.int IntKind.i16) w (0))),()) ∧
 R (midI 14 [] [Item.code (bodyOf Tryd.f3)]) { env:=[(5,.ptr 5 0),(6,.bool false),(7,.bool true),(8,.ptr 8 0),(9,.ptr 9 0),(10,.win true syS 1200704 0 (rawL l (IntKind.i64.wrap (IntKind.u8.wrap (gt (Sh.int IntKind.i16) w (0)))) (rawK l)).length)],blk:=[(5,.var [.arr (2:Nat) (Sh.int IntKind.i16) w]),(8,.var [.bool (decide (Int.tmod (gt (Sh.int IntKind.i16) w (0)) (2:Int)=(0:Int))),.int .i64 (szV l4 (z % (13:Int))).2.1,.int .i64 (szV l4 (z % (13:Int))).2.2.1,.sl opS (szV l4 (z % (13:Int))).2.2.2]),(9,.var [.bool (decide (Int.tmod (gt (Sh.int IntKind.i16) w (0)) (2:Int)=(0:Int))),.int .i64 (szV l4 (z % (13:Int))).2.1,.int .i64 (IntKind.i64.wrap ((szV l4 (z % (13:Int))).2.2.1+(IntKind.i64.wrap (gt (Sh.int IntKind.i16) w (1))).tmod (3:Int))),.sl opS (szV l4 (z % (13:Int))).2.2.2]),(1200704,.row 52 syS (rawL l (IntKind.i64.wrap (IntKind.u8.wrap (gt (Sh.int IntKind.i16) w (0)))) (rawK l)))] }):=by kernel_rfl
theorem vc_m3b (p q:PaT) (s:List SyT) (w:List Int) (Q:QT) (R:RT):sy tt G0 CMr Tryd.f3.ntmps Tryd.f3.results.toList Q (fun it S=>R it (keepS [5,6,7,8,9,10,11,12,13,14,15,16,17,18] [5,8,9,11,13,15,17] S)) 8 (midI 14 [] [.code (bodyOf Tryd.f3)]) ⟨[(6,.bool false),(7,.bool true),(10,.sl syS s),(5,.ptr 5 0),(8,.ptr 8 0),(9,.ptr 9 0)],[(5,.var [.arr 2 (.int .i16) w]),(8,.var [.bool p.1,.int .i64 p.2.1,.int .i64 p.2.2.1,.sl opS p.2.2.2]),(9,.var [.bool q.1,.int .i64 q.2.1,.int .i64 q.2.2.1,.sl opS q.2.2.2])]⟩ =
  (ctFo.pre (p,()) ∧
 ctFo.pre (p,()) ∧
 ctFo.pre (q,()) ∧
 ctFo.pre (q,()) ∧
 R (midI 22 [] [Item.code (bodyOf Tryd.f3)]) { env:=[(6,.bool false),(7,.bool true),(10,.sl syS s),(5,.ptr 5 0),(8,.ptr 8 0),(9,.ptr 9 0),(11,.ptr 11 0),(12,.int .i64 (foV p).2),(13,.ptr 13 0),(14,.int .i64 (foV p).2),(15,.ptr 15 0),(16,.int .i64 (foV q).2),(17,.ptr 17 0),(18,.int .i64 (foV q).2)],blk:=[(5,.var [.arr (2:Nat) (Sh.int IntKind.i16) w]),(8,.var [.bool p.1,.int .i64 p.2.1,.int .i64 p.2.2.1,.sl opS p.2.2.2]),(9,.var [.bool q.1,.int .i64 q.2.1,.int .i64 q.2.2.1,.sl opS q.2.2.2]),(11,.var [.bool (foV p).1.1,.int .i64 (foV p).1.2.1,.int .i64 (foV p).1.2.2.1,.sl opS (foV p).1.2.2.2]),(13,.var [.bool (foV p).1.1,.int .i64 (foV p).1.2.1,.int .i64 (foV p).1.2.2.1,.sl opS (foV p).1.2.2.2]),(15,.var [.bool (foV q).1.1,.int .i64 (foV q).1.2.1,.int .i64 (foV q).1.2.2.1,.sl opS (foV q).1.2.2.2]),(17,.var [.bool (foV q).1.1,.int .i64 (foV q).1.2.1,.int .i64 (foV q).1.2.2.1,.sl opS (foV q).1.2.2.2])] }):=by kernel_rfl
theorem vc_m3c (p q a c:PaT) (e1 e2:Int) (s:List SyT) (w:List Int) (Q:QT) (R:RT):sy tt G0 CMr Tryd.f3.ntmps Tryd.f3.results.toList Q (fun it S=>R it (keepS [6,7,8,9,11,12,13,14,15,16,17,18,19,20,21,22,23,24,25,26] [8,9,11,13,15,17,19,21,23,25] S)) 8 (midI 22 [] [.code (bodyOf Tryd.f3)]) ⟨[(6,.bool false),(7,.bool true),(10,.sl syS s),(5,.ptr 5 0),(8,.ptr 8 0),(9,.ptr 9 0),(11,.ptr 11 0),(13,.ptr 13 0),(15,.ptr 15 0),(17,.ptr 17 0),(12,.int .i64 e1),(14,.int .i64 e1),(16,.int .i64 e2),(18,.int .i64 e2)],[(5,.var [.arr 2 (.int .i16) w]),(8,.var [.bool p.1,.int .i64 p.2.1,.int .i64 p.2.2.1,.sl opS p.2.2.2]),(9,.var [.bool q.1,.int .i64 q.2.1,.int .i64 q.2.2.1,.sl opS q.2.2.2]),(11,.var [.bool a.1,.int .i64 a.2.1,.int .i64 a.2.2.1,.sl opS a.2.2.2]),(13,.var [.bool a.1,.int .i64 a.2.1,.int .i64 a.2.2.1,.sl opS a.2.2.2]),(15,.var [.bool c.1,.int .i64 c.2.1,.int .i64 c.2.2.1,.sl opS c.2.2.2]),(17,.var [.bool c.1,.int .i64 c.2.1,.int .i64 c.2.2.1,.sl opS c.2.2.2])]⟩ =
  ((0:Int)≤(1:Int) ∧
 (1:Int)<(↑(2:Nat):Int) ∧
 1<(2:Nat) ∧
 ctCp.pre (s,IntKind.i64.wrap (gt (Sh.int IntKind.i16) w (1)),()) ∧
 (0:Int)≤(1:Int) ∧
 (1:Int)<(↑(2:Nat):Int) ∧
 1<(2:Nat) ∧
 ctCp.pre (s,IntKind.i64.wrap (gt (Sh.int IntKind.i16) w (1)),()) ∧
 (0:Int)≤(0:Int) ∧
 (0:Int)<(↑(2:Nat):Int) ∧
 0<(2:Nat) ∧
 ctCp.pre (s,IntKind.i64.wrap (IntKind.u8.wrap (gt (Sh.int IntKind.i16) w (0))),()) ∧
 (0:Int)≤(0:Int) ∧
 (0:Int)<(↑(2:Nat):Int) ∧
 0<(2:Nat) ∧
 ctCp.pre (s,IntKind.i64.wrap (IntKind.u8.wrap (gt (Sh.int IntKind.i16) w (0))),()) ∧
 R (midI 30 [] [Item.code (bodyOf Tryd.f3)]) { env:=[(6,.bool false),(7,.bool true),(8,.ptr 8 0),(9,.ptr 9 0),(11,.ptr 11 0),(13,.ptr 13 0),(15,.ptr 15 0),(17,.ptr 17 0),(12,.int .i64 e1),(14,.int .i64 e1),(16,.int .i64 e2),(18,.int .i64 e2),(19,.ptr 19 0),(20,.int .i64 (cpV s (IntKind.i64.wrap (gt (Sh.int IntKind.i16) w (1)))).2),(21,.ptr 21 0),(22,.int .i64 (cpV s (IntKind.i64.wrap (gt (Sh.int IntKind.i16) w (1)))).2),(23,.ptr 23 0),(24,.int .i64 (cpV s (IntKind.i64.wrap (IntKind.u8.wrap (gt (Sh.int IntKind.i16) w (0))))).2),(25,.ptr 25 0),(26,.int .i64 (cpV s (IntKind.i64.wrap (IntKind.u8.wrap (gt (Sh.int IntKind.i16) w (0))))).2)],blk:=[(8,.var [.bool p.1,.int .i64 p.2.1,.int .i64 p.2.2.1,.sl opS p.2.2.2]),(9,.var [.bool q.1,.int .i64 q.2.1,.int .i64 q.2.2.1,.sl opS q.2.2.2]),(11,.var [.bool a.1,.int .i64 a.2.1,.int .i64 a.2.2.1,.sl opS a.2.2.2]),(13,.var [.bool a.1,.int .i64 a.2.1,.int .i64 a.2.2.1,.sl opS a.2.2.2]),(15,.var [.bool c.1,.int .i64 c.2.1,.int .i64 c.2.2.1,.sl opS c.2.2.2]),(17,.var [.bool c.1,.int .i64 c.2.1,.int .i64 c.2.2.1,.sl opS c.2.2.2]),(19,.var [.bool (cpV s (IntKind.i64.wrap (gt (Sh.int IntKind.i16) w (1)))).1.1,.int .i64 (cpV s (IntKind.i64.wrap (gt (Sh.int IntKind.i16) w (1)))).1.2.1,.int .i64 (cpV s (IntKind.i64.wrap (gt (Sh.int IntKind.i16) w (1)))).1.2.2.1,.sl opS (cpV s (IntKind.i64.wrap (gt (Sh.int IntKind.i16) w (1)))).1.2.2.2]),(21,.var [.bool (cpV s (IntKind.i64.wrap (gt (Sh.int IntKind.i16) w (1)))).1.1,.int .i64 (cpV s (IntKind.i64.wrap (gt (Sh.int IntKind.i16) w (1)))).1.2.1,.int .i64 (cpV s (IntKind.i64.wrap (gt (Sh.int IntKind.i16) w (1)))).1.2.2.1,.sl opS (cpV s (IntKind.i64.wrap (gt (Sh.int IntKind.i16) w (1)))).1.2.2.2]),(23,.var [.bool (cpV s (IntKind.i64.wrap (IntKind.u8.wrap (gt (Sh.int IntKind.i16) w (0))))).1.1,.int .i64 (cpV s (IntKind.i64.wrap (IntKind.u8.wrap (gt (Sh.int IntKind.i16) w (0))))).1.2.1,.int .i64 (cpV s (IntKind.i64.wrap (IntKind.u8.wrap (gt (Sh.int IntKind.i16) w (0))))).1.2.2.1,.sl opS (cpV s (IntKind.i64.wrap (IntKind.u8.wrap (gt (Sh.int IntKind.i16) w (0))))).1.2.2.2]),(25,.var [.bool (cpV s (IntKind.i64.wrap (IntKind.u8.wrap (gt (Sh.int IntKind.i16) w (0))))).1.1,.int .i64 (cpV s (IntKind.i64.wrap (IntKind.u8.wrap (gt (Sh.int IntKind.i16) w (0))))).1.2.1,.int .i64 (cpV s (IntKind.i64.wrap (IntKind.u8.wrap (gt (Sh.int IntKind.i16) w (0))))).1.2.2.1,.sl opS (cpV s (IntKind.i64.wrap (IntKind.u8.wrap (gt (Sh.int IntKind.i16) w (0))))).1.2.2.2])] }):=by kernel_rfl
def mem_m3d_m0 (p q a c r t:PaT):List (Nat × LB):=[(8,.var [.bool p.1,.int .i64 p.2.1,.int .i64 p.2.2.1,.sl opS p.2.2.2]),(9,.var [.bool q.1,.int .i64 q.2.1,.int .i64 q.2.2.1,.sl opS q.2.2.2]),(11,.var [.bool a.1,.int .i64 a.2.1,.int .i64 a.2.2.1,.sl opS a.2.2.2]),(13,.var [.bool a.1,.int .i64 a.2.1,.int .i64 a.2.2.1,.sl opS a.2.2.2]),(15,.var [.bool c.1,.int .i64 c.2.1,.int .i64 c.2.2.1,.sl opS c.2.2.2]),(17,.var [.bool c.1,.int .i64 c.2.1,.int .i64 c.2.2.1,.sl opS c.2.2.2]),(19,.var [.bool r.1,.int .i64 r.2.1,.int .i64 r.2.2.1,.sl opS r.2.2.2]),(21,.var [.bool r.1,.int .i64 r.2.1,.int .i64 r.2.2.1,.sl opS r.2.2.2]),(23,.var [.bool t.1,.int .i64 t.2.1,.int .i64 t.2.2.1,.sl opS t.2.2.2]),(25,.var [.bool t.1,.int .i64 t.2.1,.int .i64 t.2.2.1,.sl opS t.2.2.2])]
theorem vc_m3d (p q a c r t:PaT) (e1 e2 e3 e4:Int) (Q:QT) (R:RT):sy tt G0 CMr Tryd.f3.ntmps Tryd.f3.results.toList Q R 1000 (midI 30 [] [.code (bodyOf Tryd.f3)]) ⟨[(6,.bool false),(7,.bool true),(8,.ptr 8 0),(9,.ptr 9 0),(11,.ptr 11 0),(13,.ptr 13 0),(15,.ptr 15 0),(17,.ptr 17 0),(19,.ptr 19 0),(21,.ptr 21 0),(23,.ptr 23 0),(25,.ptr 25 0),(12,.int .i64 e1),(14,.int .i64 e1),(16,.int .i64 e2),(18,.int .i64 e2),(20,.int .i64 e3),(22,.int .i64 e3),(24,.int .i64 e4),(26,.int .i64 e4)],[(8,.var [.bool p.1,.int .i64 p.2.1,.int .i64 p.2.2.1,.sl opS p.2.2.2]),(9,.var [.bool q.1,.int .i64 q.2.1,.int .i64 q.2.2.1,.sl opS q.2.2.2]),(11,.var [.bool a.1,.int .i64 a.2.1,.int .i64 a.2.2.1,.sl opS a.2.2.2]),(13,.var [.bool a.1,.int .i64 a.2.1,.int .i64 a.2.2.1,.sl opS a.2.2.2]),(15,.var [.bool c.1,.int .i64 c.2.1,.int .i64 c.2.2.1,.sl opS c.2.2.2]),(17,.var [.bool c.1,.int .i64 c.2.1,.int .i64 c.2.2.1,.sl opS c.2.2.2]),(19,.var [.bool r.1,.int .i64 r.2.1,.int .i64 r.2.2.1,.sl opS r.2.2.2]),(21,.var [.bool r.1,.int .i64 r.2.1,.int .i64 r.2.2.1,.sl opS r.2.2.2]),(23,.var [.bool t.1,.int .i64 t.2.1,.int .i64 t.2.2.1,.sl opS t.2.2.2]),(25,.var [.bool t.1,.int .i64 t.2.1,.int .i64 t.2.2.1,.sl opS t.2.2.2])]⟩ =
  (ctSm.pre (a,a,()) ∧
 bc (smB a a) (bc (decide (e1=e1)) (ctSm.pre (c,c,()) ∧
 bc (bif true then smB c c else false) (bc (decide (e2=e2)) (ctSm.pre (r,r,()) ∧
 bc (bif true then smB r r else false) (bc (decide (e3=e3)) (ctSm.pre (t,t,()) ∧
 bc (bif true then smB t t else false) (bc (decide (e4=e4)) (ctSa.pre (p,q,()) ∧
 ctSa.pre (p,q,()) ∧
 bc (bif true then saV p q == saV p q else false) (ctSa.pre (p,a,()) ∧
 ctSa.pre (p,a,()) ∧
 bc (bif true then saV p a == saV p a else false) (Q [.bool true] (mem_m3d_m0 p q a c r t)) (false=false ∧
 Q [.bool false] (mem_m3d_m0 p q a c r t))) (false=false ∧
 false=false ∧
 Q [.bool false] (mem_m3d_m0 p q a c r t))) (false=false ∧
 false=false ∧
 false=false ∧
 Q [.bool false] (mem_m3d_m0 p q a c r t))) (false=false ∧
 false=false ∧
 false=false ∧
 false=false ∧
 Q [.bool false] (mem_m3d_m0 p q a c r t))) (false=false ∧
 false=false ∧
 false=false ∧
 false=false ∧
 false=false ∧
 Q [.bool false] (mem_m3d_m0 p q a c r t))) (false=false ∧
 false=false ∧
 false=false ∧
 false=false ∧
 false=false ∧
 false=false ∧
 Q [.bool false] (mem_m3d_m0 p q a c r t))) (false=false ∧
 false=false ∧
 false=false ∧
 false=false ∧
 false=false ∧
 false=false ∧
 false=false ∧
 Q [.bool false] (mem_m3d_m0 p q a c r t))) (false=false ∧
 false=false ∧
 false=false ∧
 false=false ∧
 false=false ∧
 false=false ∧
 false=false ∧
 false=false ∧
 Q [.bool false] (mem_m3d_m0 p q a c r t))) (false=false ∧
 false=false ∧
 false=false ∧
 false=false ∧
 false=false ∧
 false=false ∧
 false=false ∧
 false=false ∧
 false=false ∧
 Q [.bool false] (mem_m3d_m0 p q a c r t))) (false=false ∧
 false=false ∧
 false=false ∧
 false=false ∧
 false=false ∧
 false=false ∧
 false=false ∧
 false=false ∧
 false=false ∧
 false=false ∧
 Q [.bool false] (mem_m3d_m0 p q a c r t))):=by kernel_rfl
end Go.Proofs.YtkiicobbnllpkaaDoor
namespace Go.Proofs.YtkiicobbnllpkaaDoor
open Go.Px Go.Ax
set_option maxRecDepth 100000
attribute [local irreducible] Go.Px.sy Go.Px.syE
theorem soB_refl (x:OpT):soB x x=true:=by simp [soB]
theorem smL_refl:∀ l:List OpT,smL l l=true
 | []=>rfl
 | x::l=>by
  have:=smL_refl l
  simp [smL,soB_refl,this]
theorem smB_refl (p:PaT):smB p p=true:=by simp [smB,smL_refl]
theorem foV_ops (p:PaT):(foV p).1.2.2.2.length≤4096:=by
 unfold foV
 split
 ·split
  ·exact poV_ops _ _
  ·exact Nat.zero_le _
 ·exact Nat.zero_le _
abbrev gI2 (w:List Int) (i:Nat):Int:=gt (Sh.int .i16) w i
def preW2 (w:List Int):Prop:=∀ j,-32768≤gI2 w j∧gI2 w j<32768
theorem u8_bd (n:Int):0≤IntKind.u8.wrap n∧IntKind.u8.wrap n<256:=by
 simp [IntKind.wrap,IntKind.bits,IntKind.signed];omega
abbrev blP (n:Nat) (p:PaT):Nat × LB:=(n,.var [.bool p.1,.int .i64 p.2.1,.int .i64 p.2.2.1,.sl opS p.2.2.2])
theorem m3d_run (p q a c r t:PaT) (e1 e2 e3 e4:Int) (ha:a.2.2.2.length≤4096) (hc:c.2.2.2.length≤4096) (hr:r.2.2.2.length≤4096) (ht:t.2.2.2.length≤4096) :
  GD 3 Tryd.f3 TQ (midI 30 [] [.code (bodyOf Tryd.f3)]) ⟨[(6,.bool false),(7,.bool true),(8,.ptr 8 0),(9,.ptr 9 0),(11,.ptr 11 0),(13,.ptr 13 0),(15,.ptr 15 0),(17,.ptr 17 0),(19,.ptr 19 0),(21,.ptr 21 0),(23,.ptr 23 0),(25,.ptr 25 0),(12,.int .i64 e1),(14,.int .i64 e1),(16,.int .i64 e2),(18,.int .i64 e2),(20,.int .i64 e3),(22,.int .i64 e3),(24,.int .i64 e4),(26,.int .i64 e4)],[blP 8 p,blP 9 q,blP 11 a,blP 13 a,blP 15 c,blP 17 c,blP 19 r,blP 21 r,blP 23 t,blP 25 t]⟩:=by
 refine sy_go cxMr (vc_m3d p q a c r t e1 e2 e3 e4 _ _) ?_
 have la:a.2.2.2.length<1099511627776:=by omega
 have lc:c.2.2.2.length<1099511627776:=by omega
 have lr:r.2.2.2.length<1099511627776:=by omega
 have lt:t.2.2.2.length<1099511627776:=by omega
 have b1:(saV p q == saV p q)=true:=by simp
 have b2:(saV p a == saV p a)=true:=by simp
 rw [smB_refl,smB_refl,smB_refl,smB_refl,decide_eq_true (show e1=e1 from rfl),decide_eq_true (show e2=e2 from rfl),decide_eq_true (show e3=e3 from rfl),decide_eq_true (show e4=e4 from rfl),b1,b2]
 exact ⟨la,lc,lr,lt,trivial,trivial,trivial,trivial,rfl⟩
theorem m3c_run (p q a c:PaT) (e1 e2:Int) (s:List SyT) (w:List Int) (ha:a.2.2.2.length≤4096) (hc:c.2.2.2.length≤4096) (hs:s.length≤20) :
  GD 3 Tryd.f3 TQ (midI 22 [] [.code (bodyOf Tryd.f3)]) ⟨[(6,.bool false),(7,.bool true),(10,.sl syS s),(5,.ptr 5 0),(8,.ptr 8 0),(9,.ptr 9 0),(11,.ptr 11 0),(13,.ptr 13 0),(15,.ptr 15 0),(17,.ptr 17 0),(12,.int .i64 e1),(14,.int .i64 e1),(16,.int .i64 e2),(18,.int .i64 e2)],[(5,.var [.arr 2 (.int .i16) w]),blP 8 p,blP 9 q,blP 11 a,blP 13 a,blP 15 c,blP 17 c]⟩:=by
 have hl:s.length<16777216:=by omega
 refine sy_goKm cxMr (vc_m3c p q a c e1 e2 s w _ _) ⟨by omega,by omega,by omega,hl,by omega,by omega,by omega,hl,by omega,by omega,by omega,hl,by omega,by omega,by omega,hl,?_⟩
 exact (m3d_run p q a c _ _ e1 e2 _ _ ha hc (cpV_ops s _) (cpV_ops s _)).only ⟨rfl,rfl,rfl,rfl,rfl,rfl,rfl,rfl,rfl,rfl,rfl,rfl,rfl,rfl,rfl,rfl,rfl,rfl,rfl,rfl,trivial⟩ ⟨rfl,rfl,rfl,rfl,rfl,rfl,rfl,rfl,rfl,rfl,trivial⟩
theorem m3b_run (p q:PaT) (s:List SyT) (w:List Int) (hs:s.length≤20) :
  GD 3 Tryd.f3 TQ (midI 14 [] [.code (bodyOf Tryd.f3)]) ⟨[(6,.bool false),(7,.bool true),(10,.sl syS s),(5,.ptr 5 0),(8,.ptr 8 0),(9,.ptr 9 0)],[(5,.var [.arr 2 (.int .i16) w]),blP 8 p,blP 9 q]⟩:=by
 refine sy_goKm cxMr (vc_m3b p q s w _ _) ⟨trivial,trivial,trivial,trivial,?_⟩
 exact (m3c_run p q _ _ _ _ s w (foV_ops p) (foV_ops q) hs).only ⟨rfl,rfl,rfl,rfl,rfl,rfl,rfl,rfl,rfl,rfl,rfl,rfl,rfl,rfl,trivial⟩ ⟨rfl,rfl,rfl,rfl,rfl,rfl,rfl,trivial⟩
theorem m3_run (z:Int) (l4 l:List (List Int)) (w:List Int) (h6:preM6 z l4) (hl:preL2 l) (hw:preW2 w):GD 3 Tryd.f3 TQ [.code (bodyOf Tryd.f3)] (entry [raS,.sl a2S,w2S] ((z,l4),l,w,())):=by
 refine sy_goKm cxMr (vc_m3a z l4 l w _ _) ?_
 have hu:=u8_bd (gI2 w 0)
 have e2:IntKind.i64.wrap (IntKind.u8.wrap (gt (Sh.int IntKind.i16) w 0))=IntKind.u8.wrap (gI2 w 0):=IntWalk.i64_in (IntKind.u8.wrap (gI2 w 0)) (by omega)
 rw [e2]
 generalize IntKind.u8.wrap (gI2 w 0)=n at *
 have hk:=rawL_len l n (rawK l)
 have hk2:rawK l≤20:=by unfold rawK;omega
 have pr:preRw l n:=⟨hl,(show preN n from ⟨hu.1,by omega⟩)⟩
 generalize rawL l n (rawK l)=s at *
 refine ⟨trivial,h6,by omega,by omega,by omega,by decide,by omega,by omega,by omega,by decide,by omega,by omega,by omega,pr,?_⟩
 have w1:winL syS 0 s.length s=s:=winA (e:=syS) _
 refine frzG (i:=1200704) (e:=syS) (et:=52) (xs:=s) rfl rfl ?_
 refine (m3b_run (decide (Int.tmod (gt (Sh.int IntKind.i16) w 0) 2=0),(szV l4 (z % 13)).2.1,(szV l4 (z % 13)).2.2.1,(szV l4 (z % 13)).2.2.2) (decide (Int.tmod (gt (Sh.int IntKind.i16) w 0) 2=0),(szV l4 (z % 13)).2.1,IntKind.i64.wrap ((szV l4 (z % 13)).2.2.1+(IntKind.i64.wrap (gt (Sh.int IntKind.i16) w 1)).tmod 3),(szV l4 (z % 13)).2.2.2) s w (by omega)).only ⟨rfl,rfl,?_,rfl,rfl,rfl,trivial⟩ ⟨rfl,rfl,rfl,trivial⟩
 show some (SV.sl syS (winL syS 0 s.length s))=_
 rw [w1]
def ctLm:Ctr:=⟨[raS,.sl a2S,w2S],fun x=>preM6 x.1.1 x.1.2∧preL2 x.2.1∧preW2 x.2.2.1,fun _=>[.bool true],fun _=>[]⟩
theorem m3_held:Held Tryd.prog G0 3 ctLm:=
 Held.of cxMr (fn:=Tryd.f3) rfl rfl ⟨by decide,by decide⟩ fun ⟨⟨z,l4⟩,l,w,_⟩ hp=>
  (m3_run z l4 l w hp.1 hp.2.1 hp.2.2).post fun rs blk hq=>QC.flat (by rw [hq];rfl) rfl (by rw [hq];rfl)
end Go.Proofs.YtkiicobbnllpkaaDoor
namespace Go.Proofs.YtkiicobbnllpkaaDoor
open Go.Px Go.Ax
def u8L (b:List Int):Prop:=∀ j,0≤gtB b j∧gtB b j<256
theorem u8_wf {n:Int} (h:wfD uB n):0≤n∧n<256:=by
 have h:(Lit.int IntKind.u8 n).wf=true:=h
 simp [Lit.wf,IntKind.min,IntKind.max,IntKind.signed,IntKind.bits] at h
 omega
theorem i16_wf {n:Int} (h:wfD (.int .i16) n) : -32768≤n∧n<32768:=by
 have h:(Lit.int IntKind.i16 n).wf=true:=h
 simp [Lit.wf,IntKind.min,IntKind.max,IntKind.signed,IntKind.bits] at h
 omega
theorem u8_of {l:List Int} (h:∀ x∈l,wfD uB x):u8L l:=fun j=>by
 by_cases hj:j<l.length
 ·rw [gtB_at hj];exact u8_wf (h _ (List.getElem_mem hj))
 ·have:gtB l j=0:=by
   show gt uB _ _=_
   unfold gt
   rw [List.getElem?_eq_none (by omega)];rfl
  rw [this];decide
theorem l4_of {l:List (List Int)} (h:∀ x∈l,wfD a4S x):preL4 l:=fun j=>by
 by_cases hj:j<l.length
 ·have e:gt a4S l j=l[j]:=gtE (e:=a4S) hj
  rw [e]
  exact u8_of (h _ (List.getElem_mem hj)).2
 ·have:gt a4S l j=List.replicate 4 (0:Int):=by
   unfold gt
   rw [List.getElem?_eq_none (by omega)];rfl
  rw [this]
  exact u8_of fun x hx=>by
   rw [List.eq_of_mem_replicate hx];rfl
theorem m6_of {x:Int × List (List Int)} (h:wfD raS x):preM6 x.1 x.2:=⟨u8_wf h.1,l4_of h.2.2,h.2.1⟩
theorem l2_of {l:List (List Int)} (h:∀ x∈l,wfD a2S x):preL2 l:=fun j k=>by
 by_cases hj:j<l.length
 ·have e:gt a2S l j=l[j]:=gtE (e:=a2S) hj
  rw [e]
  exact u8_of (h _ (List.getElem_mem hj)).2 k
 ·have:gt a2S l j=List.replicate 2 (0:Int):=by
   unfold gt
   rw [List.getElem?_eq_none (by omega)];rfl
  rw [this]
  exact u8_of (fun x hx=>by rw [List.eq_of_mem_replicate hx];rfl) k
theorem G_get {g:Nat} {x:ABlk} (h:rawG.get g=some x):g=0∧x=.cells costCells 111 2:=by
 unfold rawG T.get at h
 split at h
 ·rename_i e;cases h;exact ⟨e,rfl⟩
 ·split at h <;> (simp [T.get] at h)
theorem hG:Glob G0.raw:=⟨fun g x h=>by rw [(G_get h).1];decide,fun g x h=>by rw [(G_get h).2];decide⟩
abbrev H0:AHeap:=⟨nglob,G0.raw⟩
def Z0:Nat→Option ABlk:=fun g=>rawG.get g
theorem gz0:GZ Z0 G0:=by
 refine ⟨fun g x e=>?_,fun g x e=>e⟩
 simp only [G0,lk] at e
 split at e
 ·rename_i h;subst h;cases e
  refine ⟨by decide,fun ν=>⟨0,0,costCells,111,2,rfl,rfl,by decide,?_⟩⟩
  exact rv_of (.arr 5 coS) costsL ⟨rfl,fun x _=>⟨trivial,trivial⟩⟩
 ·cases e
theorem fro0:Px.Fro G0 H0:=⟨fun i x h=>by rw [(G_get h).2];rfl,fun i x h=>by rw [(G_get h).2];trivial,fun i x h=>by rw [(G_get h).1];decide,gz0⟩
end Go.Proofs.YtkiicobbnllpkaaDoor
namespace Go.Proofs.YtkiicobbnllpkaaDoor
open Go.Px Go.Ax
theorem w2_of {w:List Int} (h:∀ x∈w,wfD (.int .i16) x):preW2 w:=fun j=>by
 by_cases hj:j<w.length
 ·have e:gI2 w j=w[j]:=gtE (e:=.int .i16) hj
  rw [e];exact i16_wf (h _ (List.getElem_mem hj))
 ·have:gI2 w j=0:=by
   show gt (Sh.int .i16) _ _=_
   unfold gt
   rw [List.getElem?_eq_none (by omega)];rfl
  rw [this];decide
end Go.Proofs.YtkiicobbnllpkaaDoor
