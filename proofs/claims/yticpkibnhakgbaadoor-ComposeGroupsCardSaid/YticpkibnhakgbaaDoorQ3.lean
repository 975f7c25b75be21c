/-
  A part of the proof: what pieces of the program give; conditions: those of each theorem.
-/
import Derived.Test.YticpkibnhakgbaaDoorQ2
import Derived.Test.YticpkibnhakgbaaDoorHD
import Derived.Test.YticpkibnhakgbaaDoorQ1
import Derived.KernelRfl
set_option linter.unusedVariables false
set_option linter.unusedSimpArgs false
namespace Go.Proofs.YticpkibnhakgbaaDoor
open Go.Px Go.Ax
set_option maxRecDepth 100000
def CAl:CV:=[(32,.inr ctIno),(20,.inl ctFo)]
theorem cxAl:CxOK Tryd.prog tt G0 CAl:=(cx0.cons fo_held (fn:=Tryd.f20) rfl rfl rfl).consI ino_held (fn:=Tryd.f32) rfl rfl rfl
set_option maxRecDepth 100000
theorem vc_all (l:List PaT) (Q:QT) (R:RT):sy tt G0 CAl Tryd.f11.ntmps Tryd.f11.results.toList Q R 1000 [.code (bodyOf Tryd.f11)] (entry [.sl paS] (l,())) =
  (bc (decide ((l.length:Int)=(0:Int))) (Q [.agg [.bool false,.int .i64 0,.int .i64 0,.nils],.int .i64 1] [(2,.var [.bool false,.int .i64 0,.int .i64 0,.nils])]) ((0:Int)≤(0:Int) ∧
 (0:Int)<(l.length:Int) ∧
 ctFo.pre ((gtP l (0)),()) ∧
 bc (decide ((foV (gtP l (0))).2≠(0:Int))) (Q [.agg [.bool false,.int .i64 0,.int .i64 0,.nils],.int .i64 (foV (gtP l (0))).2] [(2,.var [.bool false,.int .i64 0,.int .i64 0,.nils]),(4,.var [.bool (foV (gtP l (0))).1.1,.int .i64 (foV (gtP l (0))).1.2.1,.int .i64 (foV (gtP l (0))).1.2.2.1,.sl opS (foV (gtP l (0))).1.2.2.2])]) ((0:Int)≤(1:Int) ∧
 (1:Int)≤(l.length:Int) ∧
 ctIno.pre (((),((foV (gtP l (0))).1.1,(foV (gtP l (0))).1.2.1,(foV (gtP l (0))).1.2.2.1,(foV (gtP l (0))).1.2.2.2,()),()),List.drop (1) l,()) ∧
 Q [.agg [.bool (ptD (alF (((foV (gtP l (0))).1),(0:Int)) (List.drop (1) l)).1).1,.int .i64 (ptD (alF (((foV (gtP l (0))).1),(0:Int)) (List.drop (1) l)).1).2.1,.int .i64 (ptD (alF (((foV (gtP l (0))).1),(0:Int)) (List.drop (1) l)).1).2.2.1,.sl opS (ptD (alF (((foV (gtP l (0))).1),(0:Int)) (List.drop (1) l)).1).2.2.2.1],.int .i64 (alF (((foV (gtP l (0))).1),(0:Int)) (List.drop (1) l)).2] [(2,.var [.bool (ptD (alF (((foV (gtP l (0))).1),(0:Int)) (List.drop (1) l)).1).1,.int .i64 (ptD (alF (((foV (gtP l (0))).1),(0:Int)) (List.drop (1) l)).1).2.1,.int .i64 (ptD (alF (((foV (gtP l (0))).1),(0:Int)) (List.drop (1) l)).1).2.2.1,.sl opS (ptD (alF (((foV (gtP l (0))).1),(0:Int)) (List.drop (1) l)).1).2.2.2.1]),(4,.var [.bool (ptD (alF (((foV (gtP l (0))).1),(0:Int)) (List.drop (1) l)).1).1,.int .i64 (ptD (alF (((foV (gtP l (0))).1),(0:Int)) (List.drop (1) l)).1).2.1,.int .i64 (ptD (alF (((foV (gtP l (0))).1),(0:Int)) (List.drop (1) l)).1).2.2.1,.sl opS (ptD (alF (((foV (gtP l (0))).1),(0:Int)) (List.drop (1) l)).1).2.2.2.1])]))):=by kernel_rfl
end Go.Proofs.YticpkibnhakgbaaDoor
namespace Go.Proofs.YticpkibnhakgbaaDoor
open Go.Px Go.Ax
set_option maxRecDepth 100000
attribute [local irreducible] Go.Px.sy Go.Px.syE
def ctAl:Ctr:=⟨[.sl paS],fun x=>List.length x.1<1099511627776,fun x=>[paV (allV x.1).1,.int .i64 (allV x.1).2],fun _=>[]⟩
theorem al_err {l:List PaT} {z:Int} {bl:List (Nat × LB)} (h:allV l=(zP,z)):QC ctAl (l,()) [.agg [.bool false,.int .i64 0,.int .i64 0,.nils],.int .i64 z] bl:=
 QC.mt (by show MtL _ [paV (allV l).1,.int .i64 (allV l).2] _;rw[h];exact zero_mt _) rfl
theorem al_fin {l:List PaT} {r:PaT × Int} {bl:List (Nat × LB)} (h:allV l=r):QC ctAl (l,()) [paV r.1,.int .i64 r.2] bl:=
 QC.flat (by show [paV (allV l).1,.int .i64 (allV l).2]=_;rw[h]) rfl rfl
theorem all_run (l:List PaT) (hl:l.length<1099511627776) (R:List Item→PS→Prop):sy tt G0 CAl Tryd.f11.ntmps Tryd.f11.results.toList (QC ctAl (l,())) R 1000 [.code (bodyOf Tryd.f11)] (entry [.sl paS] (l,())):=by
 refine (vc_all l _ _).mpr (bc_of (fun h=>?_) (fun h=>?_))
 ·have h:(l.length:Int)=0:=of_decide_eq_true h
  have e:l=[]:=List.eq_nil_of_length_eq_zero (by omega)
  exact al_err (by rw[e];rfl)
 ·have h:¬ (l.length:Int)=0:=of_decide_eq_false h
  have e:l=gtP l 0::l.drop 1:=by
   have:=List.drop_eq_getElem_cons (l:=l) (i:=0) (by omega)
   rw[List.drop_zero] at this
   rw[gtP_at (by omega)];exact this
  have ha:allV l=if (foV (gtP l 0)).2≠0 then (zP,(foV (gtP l 0)).2) else alF (foV (gtP l 0)) (l.drop 1):=by
   rw[e];rfl
  refine ⟨by omega,by omega,trivial,bc_of (fun h2=>?_) (fun h2=>?_)⟩
  ·have h2:(foV (gtP l 0)).2≠0:=of_decide_eq_true h2
   rw[if_pos h2] at ha
   exact al_err ha
  ·have h2:¬ (foV (gtP l 0)).2≠0:=of_decide_eq_false h2
   rw[if_neg h2,show foV (gtP l 0)=((foV (gtP l 0)).1,0) from Prod.ext rfl (by omega)] at ha
   exact ⟨by omega,by omega,(show (l.drop 1).length<1099511627776 by rw[List.length_drop];omega),al_fin ha⟩
theorem all_held:Held Tryd.prog G0 11 ctAl:=Held.run cxAl (fn:=Tryd.f11) rfl rfl ⟨by decide,by decide⟩ fun ⟨l,_⟩ hp=>all_run l hp _
end Go.Proofs.YticpkibnhakgbaaDoor
namespace Go.Proofs.YticpkibnhakgbaaDoor
open Go.Px Go.Ax
set_option maxRecDepth 100000
abbrev RaT:Type:=Int × List (List Int)
abbrev gtR (l:List RaT) (i:Nat):RaT:=gt raS l i
def CChn:CV:=[(21,.inl ctM6),(23,.inl ctSz),(31,.inl ctRw)]
theorem cxChn:CxOK Tryd.prog tt G0 CChn:=((cx0.cons rw_held (fn:=Tryd.f31) rfl rfl rfl).cons sz_held (fn:=Tryd.f23) rfl rfl rfl).cons made6_held (fn:=Tryd.f21) rfl rfl rfl
set_option maxRecDepth 100000
theorem vc_chn (l:List RaT) (n:Int) (Q:QT) (R:RT):sy tt G0 CChn Tryd.f10.ntmps Tryd.f10.results.toList Q (fun it S=>R it (keepS [0,1,5,6] [7] S)) 1000 [.code (bodyOf Tryd.f10)] (entry [.sl raS,iI] (l,n,())) =
  (R (hd Tryd.f10 0) { env:=[(0,.sl raS l),(1,.int .i64 n),(5,.win true paS 7 0 (0:Nat)),(6,.int .i64 0)],blk:=[(7,.row 31 paS (List.replicate (0:Nat) paS.dflt))] }):=by kernel_rfl
theorem vc_chnL (l:List RaT) (xs:List PaT) (n i:Int) (Q:QT) (R:RT):sy tt G0 CChn Tryd.f10.ntmps Tryd.f10.results.toList Q (fun it S=>R it (keepS [0,1,5,6] [7,28,42] S)) 1000 (hd Tryd.f10 0) ⟨[(0,.sl raS l),(1,.int .i64 n),(5,.win true paS 7 0 xs.length),(6,.int .i64 i)],[(7,.row 31 paS xs)]⟩ =
  (bc (decide (i<(l.length:Int))) (bc (decide (i<n)) (bc (decide (i=(0:Int))) ((0:Int)≤i ∧
 i<(l.length:Int) ∧
 ctM6.pre ((gtR l i.toNat),()) ∧
 0+(1:Nat)≤((List.replicate (1:Nat) paS.dflt).set (0:Nat) (szV (gtR l i.toNat).2 ((gtR l i.toNat).1 % (13:Int)))).length ∧
 xs.length=xs.length ∧
 (0:Nat)=(0:Nat) ∧
 xs.length+(winL paS (0:Nat) (1:Nat) ((List.replicate (1:Nat) paS.dflt).set (0:Nat) (szV (gtR l i.toNat).2 ((gtR l i.toNat).1 % (13:Int))))).length<(2:Nat) ^ (30:Nat) ∧
 (48:Nat)≤(2:Nat) ^ (10:Nat) ∧
 R (hd Tryd.f10 0) { env:=[(0,.sl raS l),(1,.int .i64 n),(5,.win true paS 28 0 (xs.length+(winL paS (0:Nat) (1:Nat) ((List.replicate (1:Nat) paS.dflt).set (0:Nat) (szV (gtR l i.toNat).2 ((gtR l i.toNat).1 % (13:Int))))).length)),(6,.int .i64 (IntKind.i64.wrap (i+(1:Int))))],blk:=[(28,.row 31 paS (xs++winL paS (0:Nat) (1:Nat) ((List.replicate (1:Nat) paS.dflt).set (0:Nat) (szV (gtR l i.toNat).2 ((gtR l i.toNat).1 % (13:Int))))))] }) ((0:Int)≤i ∧
 i<(l.length:Int) ∧
 (0:Int)≤IntKind.i64.wrap (i-(1:Int)) ∧
 IntKind.i64.wrap (i-(1:Int))<(xs.length:Int) ∧
 0+(IntKind.i64.wrap (i-(1:Int))).toNat<xs.length ∧
 ctSz.pre ((gtR l i.toNat),(gtP xs (0+(IntKind.i64.wrap (i-(1:Int))).toNat)).2.2.1,()) ∧
 0+(1:Nat)≤((List.replicate (1:Nat) paS.dflt).set (0:Nat) (szV (gtR l i.toNat).2 (gtP xs (0+(IntKind.i64.wrap (i-(1:Int))).toNat)).2.2.1)).length ∧
 xs.length=xs.length ∧
 (0:Nat)=(0:Nat) ∧
 xs.length+(winL paS (0:Nat) (1:Nat) ((List.replicate (1:Nat) paS.dflt).set (0:Nat) (szV (gtR l i.toNat).2 (gtP xs (0+(IntKind.i64.wrap (i-(1:Int))).toNat)).2.2.1))).length<(2:Nat) ^ (30:Nat) ∧
 (48:Nat)≤(2:Nat) ^ (10:Nat) ∧
 R (hd Tryd.f10 0) { env:=[(0,.sl raS l),(1,.int .i64 n),(5,.win true paS 42 0 (xs.length+(winL paS (0:Nat) (1:Nat) ((List.replicate (1:Nat) paS.dflt).set (0:Nat) (szV (gtR l i.toNat).2 (gtP xs (0+(IntKind.i64.wrap (i-(1:Int))).toNat)).2.2.1))).length)),(6,.int .i64 (IntKind.i64.wrap (i+(1:Int))))],blk:=[(42,.row 31 paS (xs++winL paS (0:Nat) (1:Nat) ((List.replicate (1:Nat) paS.dflt).set (0:Nat) (szV (gtR l i.toNat).2 (gtP xs (0+(IntKind.i64.wrap (i-(1:Int))).toNat)).2.2.1))))] })) (bc (decide ((xs.length:Int)=(0:Int))) (ctRw.pre ((3:Int),()) ∧
 Q [.win true paS 47 0 (1:Nat)] [(7,.row 31 paS xs),(47,.row 31 paS ((List.replicate (1:Nat) paS.dflt).set (0:Nat) (rwV (3:Int))))]) (Q [.win true paS 7 0 xs.length] [(7,.row 31 paS xs)]))) (false=false ∧
 bc (decide ((xs.length:Int)=(0:Int))) (ctRw.pre ((3:Int),()) ∧
 Q [.win true paS 47 0 (1:Nat)] [(7,.row 31 paS xs),(47,.row 31 paS ((List.replicate (1:Nat) paS.dflt).set (0:Nat) (rwV (3:Int))))]) (Q [.win true paS 7 0 xs.length] [(7,.row 31 paS xs)]))):=by kernel_rfl
end Go.Proofs.YticpkibnhakgbaaDoor
namespace Go.Proofs.YticpkibnhakgbaaDoor
open Go.Px Go.Ax
set_option maxRecDepth 100000
attribute [local irreducible] Go.Px.sy Go.Px.syE
def chR:Int→List RaT→List PaT
 | _,[]=>[]
 | o,x::r=>szV x.2 o::chR (szV x.2 o).2.2.1 r
def chU:List RaT→List PaT
 | []=>[]
 | x::r=>szV x.2 (x.1 % 13)::chR (szV x.2 (x.1 % 13)).2.2.1 r
def chV (l:List RaT):List PaT:=if l=[] then [rwV 3] else chU (l.take 4)
def loR:Int→List RaT→Int
 | o,[]=>o
 | o,x::r=>loR (szV x.2 o).2.2.1 r
theorem chR_snoc (y:RaT):∀ (l:List RaT) (o:Int),chR o (l++[y])=chR o l++[szV y.2 (loR o l)]
 | [],o=>rfl
 | x::l,o=>by rw[List.cons_append,chR,chR_snoc y l];rfl
theorem chR_len:∀ (l:List RaT) (o:Int),(chR o l).length=l.length
 | [],o=>rfl
 | x::l,o=>by rw[chR,List.length_cons,chR_len l,List.length_cons]
theorem gtP_cons (p:PaT) (l:List PaT) (i:Nat):gtP (p::l) (i+1)=gtP l i:=by
 show gt paS _ _=gt paS _ _
 unfold gt;rfl
theorem gtP_last:∀ (r:List RaT) (p:PaT),(gtP (p::chR p.2.2.1 r) r.length).2.2.1=loR p.2.2.1 r
 | [],p=>rfl
 | x::r,p=>by
  rw[chR,List.length_cons,gtP_cons,gtP_last r];rfl
theorem chU_len (l:List RaT):(chU l).length=l.length:=by
 cases l with
 | nil=>rfl
 | cons x r=>rw[chU,List.length_cons,chR_len,List.length_cons]
theorem chU_snoc {l:List RaT} (h:0<l.length) (y:RaT):chU (l++[y])=chU l++[szV y.2 (gtP (chU l) (l.length-1)).2.2.1]:=by
 cases l with
 | nil=>exact absurd h (by simp)
 | cons x r=>
  rw[List.cons_append,chU,chR_snoc,chU,List.length_cons,Nat.add_sub_cancel,gtP_last];rfl
def preRa (l:List RaT):Prop:=∀ x∈l,preM6 x.1 x.2
theorem szV_out {l:List (List Int)} {m:Int} (hl:preL4 l) (h0:0≤m):0≤(szV l m).2.2.1∧(szV l m).2.2.1≤30:=szO_sum hl h0
theorem loR_b:∀ {l:List RaT} {o:Int},preRa l→0≤o∧o≤30→0≤loR o l∧loR o l≤30
 | [],o,_,h=>h
 | x::l,o,hp,h=>loR_b (l:=l) (fun y hy=>hp y (by simp[hy])) (szV_out (hp x (by simp)).2.1 h.1)
theorem chU_out {l:List RaT} (h:0<l.length) (hp:preRa l):0≤(gtP (chU l) (l.length-1)).2.2.1∧(gtP (chU l) (l.length-1)).2.2.1≤30:=by
 cases l with
 | nil=>exact absurd h (by simp)
 | cons x r=>
  rw[chU,List.length_cons,Nat.add_sub_cancel,gtP_last]
  have hx:=hp x (by simp)
  exact loR_b (fun y hy=>hp y (by simp[hy])) (szV_out hx.2.1 (by omega))
theorem gtR_at {l:List RaT} {i:Nat} (h:i<l.length):gtR l i=l[i]:=by
 show gt raS l i=_
 unfold gt
 rw[List.getElem?_eq_getElem h];rfl
theorem chU_step {l:List RaT} {i:Nat} (h:i<l.length):chU (l.take (i+1))=chU (l.take i)++[if i=0 then szV (gtR l i).2 ((gtR l i).1 % 13) else szV (gtR l i).2 (gtP (chU (l.take i)) (i-1)).2.2.1]:=by
 rw[List.take_succ_eq_append_getElem h,gtR_at h]
 have e:(l.take i).length=i:=by rw[List.length_take];omega
 by_cases h0:i=0
 ·subst h0;rfl
 ·rw[if_neg h0,chU_snoc (by omega),e]
def ctChn:Ctr:=⟨[.sl raS,iI],fun x=>preRa x.1∧x.2.1=4,fun x=>[.win true paS 0 0 (chV x.1).length],fun x=>[.row 31 paS (chV x.1)]⟩
theorem chn_loop (l:List RaT) (hl:preRa l):∀ (k i:Nat),min l.length 4-i=k→i≤min l.length 4 →
  GD 10 Tryd.f10 (QC ctChn (l,4,())) (hd Tryd.f10 0) ⟨[(0,.sl raS l),(1,.int .i64 4),(5,.win true paS 7 0 (chU (l.take i)).length),(6,.int .i64 (i:Nat))],[(7,.row 31 paS (chU (l.take i)))]⟩:=by
 intro k
 induction k with
 | zero=>
  intro i hk hi
  have hi:i=min l.length 4:=by omega
  have hlen:(chU (l.take i)).length=i:=by rw[chU_len,List.length_take];omega
  refine sy_goK cxChn (vc_chnL l (chU (l.take i)) 4 i _ _) ?_
  have fin:bc (decide (((chU (l.take i)).length:Int)=0)) (ctRw.pre ((3:Int),())∧QC ctChn (l,4,()) [SV.win true paS 47 0 1] [(7,.row 31 paS (chU (l.take i))),(47,.row 31 paS ((List.replicate 1 paS.dflt).set 0 (rwV 3)))])
    (QC ctChn (l,4,()) [SV.win true paS 7 0 (chU (l.take i)).length] [(7,.row 31 paS (chU (l.take i)))]):=by
   by_cases hz:l=[]
   ·have e:chV l=[rwV 3]:=by unfold chV;rw[if_pos hz]
    have e0:i=0:=by rw[hi,hz];rfl
    rw[decide_eq_true (by omega),bc_t]
    exact ⟨trivial,qc_row (e:=paS) (et:=31) (a:=47) (xs:=[rwV 3]) (by show [SV.win true paS 0 0 (chV l).length]=_;rw[e]) (by show [LB.row 31 paS (chV l)]=_;rw[e]) rfl rfl rfl⟩
   ·have e:chV l=chU (l.take i):=by
     unfold chV;rw[if_neg hz,hi]
     by_cases h4:l.length≤4
     ·rw[Nat.min_eq_left h4,List.take_of_length_le h4,List.take_of_length_le (Nat.le_refl _)]
     ·rw[Nat.min_eq_right (by omega)]
    have hp:0<l.length:=List.length_pos_iff.2 hz
    rw[decide_eq_false (by omega),bc_f]
    exact qc_row (e:=paS) (et:=31) (a:=7) (xs:=chU (l.take i)) (by show [SV.win true paS 0 0 (chV l).length]=_;rw[e]) (by show [LB.row 31 paS (chV l)]=_;rw[e]) rfl rfl rfl
  refine bc_of (fun h=>bc_of (fun h2=>?_) (fun h2=>fin)) (fun h=>⟨rfl,fin⟩)
  have h:=of_decide_eq_true h
  have h2:=of_decide_eq_true h2
  omega
 | succ k ih=>
  intro i hk hi
  have h4:i<l.length∧i<4:=by omega
  have hlen:(chU (l.take i)).length=i:=by rw[chU_len,List.length_take];omega
  have nx:∀ nm,(nm=28∨nm=42)→∀ p,p=(if i=0 then szV (gtR l i).2 ((gtR l i).1 % 13) else szV (gtR l i).2 (gtP (chU (l.take i)) (i-1)).2.2.1) →
    GD 10 Tryd.f10 (QC ctChn (l,4,())) (hd Tryd.f10 0) ⟨[(0,.sl raS l),(1,.int .i64 4),(5,.win true paS nm 0 ((chU (l.take i)).length+1)),(6,.int .i64 ((i:Int)+1))],[(nm,.row 31 paS (chU (l.take i)++[p]))]⟩:=fun nm hn p hp=>by
   have h:=ih (i+1) (by omega) (by omega)
   rw[chU_step h4.1,← hp] at h
   rcases hn with rfl | rfl
   ·exact h.onlyR [(7,28)] rfl ⟨rfl,rfl,by rw[List.length_append];rfl,rfl,trivial⟩ ⟨rfl,trivial⟩
   ·exact h.onlyR [(7,42)] rfl ⟨rfl,rfl,by rw[List.length_append];rfl,rfl,trivial⟩ ⟨rfl,trivial⟩
  have ho:i≠0→0≤(gtP (chU (l.take i)) (i-1)).2.2.1∧(gtP (chU (l.take i)) (i-1)).2.2.1≤30:=fun h0=>by
   have e:(l.take i).length=i:=by rw[List.length_take];omega
   have:=chU_out (l:=l.take i) (by omega) (fun x hx=>hl x (List.mem_of_mem_take hx))
   rw[e] at this;exact this
  generalize chU (l.take i)=o at *
  have hx:preM6 (gtR l i).1 (gtR l i).2:=by rw[gtR_at h4.1];exact hl _ (List.getElem_mem h4.1)
  refine sy_goK cxChn (vc_chnL l o 4 i _ _) ?_
  rw[decide_eq_true (show (i:Int)<(l.length:Int) by omega),bc_t,decide_eq_true (show (i:Int)<(4:Int) by omega),bc_t,Int.toNat_natCast,IntWalk.i64_in ((i:Int)+1) (by omega)]
  refine bc_of (fun h=>?_) (fun h=>?_)
  ·have h:i=0:=by have:=of_decide_eq_true h;omega
   refine ⟨by omega,by omega,hx,Nat.le_refl _,rfl,rfl,by show o.length+1<2 ^ 30;omega,by decide,?_⟩
   exact nx 28 (.inl rfl) _ (by rw[if_pos h])
  ·have h:i≠0:=fun q=>by rw[q] at h;cases h
   have wj:IntKind.i64.wrap ((i:Int)-1)=((i-1:Nat):Int):=by rw[IntWalk.i64_in _ (by omega)];omega
   rw[wj,Int.toNat_natCast,Nat.zero_add]
   have ho:=ho h
   refine ⟨by omega,by omega,by omega,by omega,by omega,(show preSz (gtR l i).2 (gtP o (i-1)).2.2.1 from ⟨hx.2.1,⟨ho.1,by omega⟩,hx.2.2⟩),Nat.le_refl _,rfl,rfl,by show o.length+1<2 ^ 30;omega,by decide,?_⟩
   exact nx 42 (.inr rfl) _ (by rw[if_neg h])
theorem chn_run (l:List RaT) (hl:preRa l):GD 10 Tryd.f10 (QC ctChn (l,4,())) [.code (bodyOf Tryd.f10)] (entry [.sl raS,iI] (l,4,())):=by
 refine sy_goK cxChn (vc_chn l 4 _ _) ?_
 exact chn_loop l hl _ 0 rfl (Nat.zero_le _)
theorem chn_held:Held Tryd.prog G0 10 ctChn:=Held.of cxChn (fn:=Tryd.f10) rfl rfl ⟨by decide,by decide⟩ fun ⟨l,n,_⟩ hp=>by
 obtain ⟨h1,h2⟩:=hp
 have h2:n=4:=h2
 subst h2
 exact chn_run l h1
end Go.Proofs.YticpkibnhakgbaaDoor
namespace Go.Proofs.YticpkibnhakgbaaDoor
open Go.Px Go.Ax
set_option maxRecDepth 100000
def CSc:CV:=[(14,.inl ctCo),(11,.inl ctAl),(17,.inl ctTh),(13,.inl ctSm),(31,.inl ctRw)]
theorem cxSc:CxOK Tryd.prog tt G0 CSc:=((((cx0.cons rw_held (fn:=Tryd.f31) rfl rfl rfl).cons sm_held (fn:=Tryd.f13) rfl rfl rfl).cons th_held (fn:=Tryd.f17) rfl rfl rfl).cons all_held (fn:=Tryd.f11) rfl rfl rfl).cons co_held (fn:=Tryd.f14) rfl rfl rfl
set_option maxRecDepth 100000
theorem vc_csan  (Q:QT) (R:RT):sy tt G0 CSc Tryd.f9.ntmps Tryd.f9.results.toList Q R 1000 [.code (bodyOf Tryd.f9)] (entry [] ()) =
  (0+(2:Nat)≤(((List.replicate (2:Nat) uB.dflt).set (0:Nat) (1:Int)).set (1:Nat) (2:Int)).length ∧
 0+(2:Nat)≤(((List.replicate (2:Nat) uB.dflt).set (0:Nat) (1:Int)).set (1:Nat) (2:Int)).length ∧
 0+(2:Nat)≤(((List.replicate (2:Nat) uB.dflt).set (0:Nat) (255:Int)).set (1:Nat) (254:Int)).length ∧
 0+(2:Nat)≤(((List.replicate (2:Nat) uB.dflt).set (0:Nat) (255:Int)).set (1:Nat) (254:Int)).length ∧
 0+(1:Nat)≤([((1:Int),(1:Int),(2:Int),(0:Int),[])]:List opS.D).length ∧
 0+(1:Nat)≤([((1:Int),(1:Int),(2:Int),(0:Int),[])]:List opS.D).length ∧
 0+(1:Nat)≤([((1:Int),(1:Int),(2:Int),(0:Int),[])]:List opS.D).length ∧
 0+(1:Nat)≤([((1:Int),(1:Int),(2:Int),(0:Int),[])]:List opS.D).length ∧
 0+(2:Nat)≤(((List.replicate (2:Nat) opS.dflt).set (0:Nat) ((1:Int),(1:Int),(1:Int),(0:Int),[])).set (1:Nat) ((3:Int),(0:Int),(1:Int),(9:Int),[])).length ∧
 0+(2:Nat)≤(((List.replicate (2:Nat) opS.dflt).set (0:Nat) ((1:Int),(1:Int),(1:Int),(0:Int),[])).set (1:Nat) ((3:Int),(0:Int),(1:Int),(9:Int),[])).length ∧
 0+(2:Nat)≤(((List.replicate (2:Nat) opS.dflt).set (0:Nat) ((1:Int),(1:Int),(1:Int),(0:Int),[])).set (1:Nat) ((3:Int),(0:Int),(1:Int),(9:Int),[])).length ∧
 0+(2:Nat)≤(((List.replicate (2:Nat) opS.dflt).set (0:Nat) ((1:Int),(1:Int),(1:Int),(0:Int),[])).set (1:Nat) ((3:Int),(0:Int),(1:Int),(9:Int),[])).length ∧
 ctCo.pre ((false,(3:Int),(2:Int),([((1:Int),(1:Int),(2:Int),(0:Int),[])]:List opS.D)),(false,(2:Int),(2:Int),winL opS (0:Nat) (2:Nat) (((List.replicate (2:Nat) opS.dflt).set (0:Nat) ((1:Int),(1:Int),(1:Int),(0:Int),[])).set (1:Nat) ((3:Int),(0:Int),(1:Int),(9:Int),[]))),()) ∧
 0+(1:Nat)≤([((2:Int),(0:Int),(2:Int),(0:Int),winL uB (0:Nat) (2:Nat) (((List.replicate (2:Nat) uB.dflt).set (0:Nat) (1:Int)).set (1:Nat) (2:Int)))]:List opS.D).length ∧
 0+(1:Nat)≤([((2:Int),(0:Int),(2:Int),(0:Int),winL uB (0:Nat) (2:Nat) (((List.replicate (2:Nat) uB.dflt).set (0:Nat) (1:Int)).set (1:Nat) (2:Int)))]:List opS.D).length ∧
 0+(1:Nat)≤([((2:Int),(0:Int),(2:Int),(0:Int),winL uB (0:Nat) (2:Nat) (((List.replicate (2:Nat) uB.dflt).set (0:Nat) (1:Int)).set (1:Nat) (2:Int)))]:List opS.D).length ∧
 0+(1:Nat)≤([((2:Int),(0:Int),(2:Int),(0:Int),winL uB (0:Nat) (2:Nat) (((List.replicate (2:Nat) uB.dflt).set (0:Nat) (1:Int)).set (1:Nat) (2:Int)))]:List opS.D).length ∧
 0+(1:Nat)≤([((2:Int),(0:Int),(2:Int),(0:Int),winL uB (0:Nat) (2:Nat) (((List.replicate (2:Nat) uB.dflt).set (0:Nat) (255:Int)).set (1:Nat) (254:Int)))]:List opS.D).length ∧
 0+(1:Nat)≤([((2:Int),(0:Int),(2:Int),(0:Int),winL uB (0:Nat) (2:Nat) (((List.replicate (2:Nat) uB.dflt).set (0:Nat) (255:Int)).set (1:Nat) (254:Int)))]:List opS.D).length ∧
 0+(1:Nat)≤([((2:Int),(0:Int),(2:Int),(0:Int),winL uB (0:Nat) (2:Nat) (((List.replicate (2:Nat) uB.dflt).set (0:Nat) (255:Int)).set (1:Nat) (254:Int)))]:List opS.D).length ∧
 0+(1:Nat)≤([((2:Int),(0:Int),(2:Int),(0:Int),winL uB (0:Nat) (2:Nat) (((List.replicate (2:Nat) uB.dflt).set (0:Nat) (255:Int)).set (1:Nat) (254:Int)))]:List opS.D).length ∧
 ctCo.pre ((false,(2:Int),(2:Int),([((2:Int),(0:Int),(2:Int),(0:Int),winL uB (0:Nat) (2:Nat) (((List.replicate (2:Nat) uB.dflt).set (0:Nat) (1:Int)).set (1:Nat) (2:Int)))]:List opS.D)),(false,(2:Int),(2:Int),([((2:Int),(0:Int),(2:Int),(0:Int),winL uB (0:Nat) (2:Nat) (((List.replicate (2:Nat) uB.dflt).set (0:Nat) (255:Int)).set (1:Nat) (254:Int)))]:List opS.D)),()) ∧
 0+(1:Nat)≤([((3:Int),(0:Int),(4:Int),(5:Int),[])]:List opS.D).length ∧
 0+(1:Nat)≤([((3:Int),(0:Int),(4:Int),(5:Int),[])]:List opS.D).length ∧
 0+(1:Nat)≤([((3:Int),(0:Int),(4:Int),(5:Int),[])]:List opS.D).length ∧
 0+(1:Nat)≤([((3:Int),(0:Int),(4:Int),(5:Int),[])]:List opS.D).length ∧
 0+(1:Nat)≤([((1:Int),(0:Int),(2:Int),(0:Int),[])]:List opS.D).length ∧
 0+(1:Nat)≤([((1:Int),(0:Int),(2:Int),(0:Int),[])]:List opS.D).length ∧
 0+(1:Nat)≤([((1:Int),(0:Int),(2:Int),(0:Int),[])]:List opS.D).length ∧
 0+(1:Nat)≤([((1:Int),(0:Int),(2:Int),(0:Int),[])]:List opS.D).length ∧
 ctCo.pre ((false,(0:Int),(4:Int),([((3:Int),(0:Int),(4:Int),(5:Int),[])]:List opS.D)),(false,(4:Int),(2:Int),([((1:Int),(0:Int),(2:Int),(0:Int),[])]:List opS.D)),()) ∧
 ctCo.pre ((false,(3:Int),(2:Int),([((1:Int),(1:Int),(2:Int),(0:Int),[])]:List opS.D)),(false,(4:Int),(2:Int),([((1:Int),(0:Int),(2:Int),(0:Int),[])]:List opS.D)),()) ∧
 ctAl.pre ([],()) ∧
 ctCo.pre ((false,(3:Int),(2:Int),([((1:Int),(1:Int),(2:Int),(0:Int),[])]:List opS.D)),(true,(2:Int),(2:Int),winL opS (0:Nat) (2:Nat) (((List.replicate (2:Nat) opS.dflt).set (0:Nat) ((1:Int),(1:Int),(1:Int),(0:Int),[])).set (1:Nat) ((3:Int),(0:Int),(1:Int),(9:Int),[]))),()) ∧
 0+(1:Nat)≤([(true,(0:Int),(0:Int))]:List syS.D).length ∧
 ctTh.pre ([],([(true,(0:Int),(0:Int))]:List syS.D),()) ∧
 0+(1:Nat)≤([(9:Int)]:List uB.D).length ∧
 0+(2:Nat)≤(((List.replicate (2:Nat) opS.dflt).set (0:Nat) ((1:Int),(2:Int),(1:Int),(0:Int),[])).set (1:Nat) ((4:Int),(0:Int),(1:Int),(0:Int),([(9:Int)]:List uB.D))).length ∧
 ctSm.pre (((coV (false,(3:Int),(2:Int),([((1:Int),(1:Int),(2:Int),(0:Int),[])]:List opS.D)) (false,(2:Int),(2:Int),winL opS (0:Nat) (2:Nat) (((List.replicate (2:Nat) opS.dflt).set (0:Nat) ((1:Int),(1:Int),(1:Int),(0:Int),[])).set (1:Nat) ((3:Int),(0:Int),(1:Int),(9:Int),[])))).1),(false,(3:Int),(2:Int),winL opS (0:Nat) (2:Nat) (((List.replicate (2:Nat) opS.dflt).set (0:Nat) ((1:Int),(2:Int),(1:Int),(0:Int),[])).set (1:Nat) ((4:Int),(0:Int),(1:Int),(0:Int),([(9:Int)]:List uB.D)))),()) ∧
 ctRw.pre ((2:Int),()) ∧
 ctSm.pre (((coV (false,(2:Int),(2:Int),([((2:Int),(0:Int),(2:Int),(0:Int),winL uB (0:Nat) (2:Nat) (((List.replicate (2:Nat) uB.dflt).set (0:Nat) (1:Int)).set (1:Nat) (2:Int)))]:List opS.D)) (false,(2:Int),(2:Int),([((2:Int),(0:Int),(2:Int),(0:Int),winL uB (0:Nat) (2:Nat) (((List.replicate (2:Nat) uB.dflt).set (0:Nat) (255:Int)).set (1:Nat) (254:Int)))]:List opS.D))).1),(rwV (2:Int)),()) ∧
 0+(1:Nat)≤([((3:Int),(0:Int),(2:Int),(5:Int),[])]:List opS.D).length ∧
 ctSm.pre (((coV (false,(0:Int),(4:Int),([((3:Int),(0:Int),(4:Int),(5:Int),[])]:List opS.D)) (false,(4:Int),(2:Int),([((1:Int),(0:Int),(2:Int),(0:Int),[])]:List opS.D))).1),(false,(0:Int),(2:Int),([((3:Int),(0:Int),(2:Int),(5:Int),[])]:List opS.D)),()) ∧
 Q [.bool (decide ((thV [] (([(true,(0:Int),(0:Int))]:List syS.D))).2=(61:Int)))] [(1,.var [.bool false,.int .i64 3,.int .i64 2,.sl opS (([((1:Int),(1:Int),(2:Int),(0:Int),[])]:List opS.D))]),(2,.var [.bool false,.int .i64 2,.int .i64 2,.sl opS (winL opS (0:Nat) (2:Nat) (((List.replicate (2:Nat) opS.dflt).set (0:Nat) ((1:Int),(1:Int),(1:Int),(0:Int),[])).set (1:Nat) ((3:Int),(0:Int),(1:Int),(9:Int),[])))]),(3,.var [.bool false,.int .i64 2,.int .i64 2,.sl opS (([((2:Int),(0:Int),(2:Int),(0:Int),winL uB (0:Nat) (2:Nat) (((List.replicate (2:Nat) uB.dflt).set (0:Nat) (1:Int)).set (1:Nat) (2:Int)))]:List opS.D))]),(4,.var [.bool false,.int .i64 2,.int .i64 2,.sl opS (([((2:Int),(0:Int),(2:Int),(0:Int),winL uB (0:Nat) (2:Nat) (((List.replicate (2:Nat) uB.dflt).set (0:Nat) (255:Int)).set (1:Nat) (254:Int)))]:List opS.D))]),(5,.var [.bool false,.int .i64 0,.int .i64 4,.sl opS (([((3:Int),(0:Int),(4:Int),(5:Int),[])]:List opS.D))]),(6,.var [.bool false,.int .i64 4,.int .i64 2,.sl opS (([((1:Int),(0:Int),(2:Int),(0:Int),[])]:List opS.D))]),(7,.var [.bool (coV (false,(3:Int),(2:Int),([((1:Int),(1:Int),(2:Int),(0:Int),[])]:List opS.D)) (false,(2:Int),(2:Int),winL opS (0:Nat) (2:Nat) (((List.replicate (2:Nat) opS.dflt).set (0:Nat) ((1:Int),(1:Int),(1:Int),(0:Int),[])).set (1:Nat) ((3:Int),(0:Int),(1:Int),(9:Int),[])))).1.1,.int .i64 (coV (false,(3:Int),(2:Int),([((1:Int),(1:Int),(2:Int),(0:Int),[])]:List opS.D)) (false,(2:Int),(2:Int),winL opS (0:Nat) (2:Nat) (((List.replicate (2:Nat) opS.dflt).set (0:Nat) ((1:Int),(1:Int),(1:Int),(0:Int),[])).set (1:Nat) ((3:Int),(0:Int),(1:Int),(9:Int),[])))).1.2.1,.int .i64 (coV (false,(3:Int),(2:Int),([((1:Int),(1:Int),(2:Int),(0:Int),[])]:List opS.D)) (false,(2:Int),(2:Int),winL opS (0:Nat) (2:Nat) (((List.replicate (2:Nat) opS.dflt).set (0:Nat) ((1:Int),(1:Int),(1:Int),(0:Int),[])).set (1:Nat) ((3:Int),(0:Int),(1:Int),(9:Int),[])))).1.2.2.1,.sl opS (coV (false,(3:Int),(2:Int),([((1:Int),(1:Int),(2:Int),(0:Int),[])]:List opS.D)) (false,(2:Int),(2:Int),winL opS (0:Nat) (2:Nat) (((List.replicate (2:Nat) opS.dflt).set (0:Nat) ((1:Int),(1:Int),(1:Int),(0:Int),[])).set (1:Nat) ((3:Int),(0:Int),(1:Int),(9:Int),[])))).1.2.2.2]),(9,.var [.bool (coV (false,(2:Int),(2:Int),([((2:Int),(0:Int),(2:Int),(0:Int),winL uB (0:Nat) (2:Nat) (((List.replicate (2:Nat) uB.dflt).set (0:Nat) (1:Int)).set (1:Nat) (2:Int)))]:List opS.D)) (false,(2:Int),(2:Int),([((2:Int),(0:Int),(2:Int),(0:Int),winL uB (0:Nat) (2:Nat) (((List.replicate (2:Nat) uB.dflt).set (0:Nat) (255:Int)).set (1:Nat) (254:Int)))]:List opS.D))).1.1,.int .i64 (coV (false,(2:Int),(2:Int),([((2:Int),(0:Int),(2:Int),(0:Int),winL uB (0:Nat) (2:Nat) (((List.replicate (2:Nat) uB.dflt).set (0:Nat) (1:Int)).set (1:Nat) (2:Int)))]:List opS.D)) (false,(2:Int),(2:Int),([((2:Int),(0:Int),(2:Int),(0:Int),winL uB (0:Nat) (2:Nat) (((List.replicate (2:Nat) uB.dflt).set (0:Nat) (255:Int)).set (1:Nat) (254:Int)))]:List opS.D))).1.2.1,.int .i64 (coV (false,(2:Int),(2:Int),([((2:Int),(0:Int),(2:Int),(0:Int),winL uB (0:Nat) (2:Nat) (((List.replicate (2:Nat) uB.dflt).set (0:Nat) (1:Int)).set (1:Nat) (2:Int)))]:List opS.D)) (false,(2:Int),(2:Int),([((2:Int),(0:Int),(2:Int),(0:Int),winL uB (0:Nat) (2:Nat) (((List.replicate (2:Nat) uB.dflt).set (0:Nat) (255:Int)).set (1:Nat) (254:Int)))]:List opS.D))).1.2.2.1,.sl opS (coV (false,(2:Int),(2:Int),([((2:Int),(0:Int),(2:Int),(0:Int),winL uB (0:Nat) (2:Nat) (((List.replicate (2:Nat) uB.dflt).set (0:Nat) (1:Int)).set (1:Nat) (2:Int)))]:List opS.D)) (false,(2:Int),(2:Int),([((2:Int),(0:Int),(2:Int),(0:Int),winL uB (0:Nat) (2:Nat) (((List.replicate (2:Nat) uB.dflt).set (0:Nat) (255:Int)).set (1:Nat) (254:Int)))]:List opS.D))).1.2.2.2]),(11,.var [.bool (coV (false,(0:Int),(4:Int),([((3:Int),(0:Int),(4:Int),(5:Int),[])]:List opS.D)) (false,(4:Int),(2:Int),([((1:Int),(0:Int),(2:Int),(0:Int),[])]:List opS.D))).1.1,.int .i64 (coV (false,(0:Int),(4:Int),([((3:Int),(0:Int),(4:Int),(5:Int),[])]:List opS.D)) (false,(4:Int),(2:Int),([((1:Int),(0:Int),(2:Int),(0:Int),[])]:List opS.D))).1.2.1,.int .i64 (coV (false,(0:Int),(4:Int),([((3:Int),(0:Int),(4:Int),(5:Int),[])]:List opS.D)) (false,(4:Int),(2:Int),([((1:Int),(0:Int),(2:Int),(0:Int),[])]:List opS.D))).1.2.2.1,.sl opS (coV (false,(0:Int),(4:Int),([((3:Int),(0:Int),(4:Int),(5:Int),[])]:List opS.D)) (false,(4:Int),(2:Int),([((1:Int),(0:Int),(2:Int),(0:Int),[])]:List opS.D))).1.2.2.2]),(13,.var [.bool (coV (false,(3:Int),(2:Int),([((1:Int),(1:Int),(2:Int),(0:Int),[])]:List opS.D)) (false,(4:Int),(2:Int),([((1:Int),(0:Int),(2:Int),(0:Int),[])]:List opS.D))).1.1,.int .i64 (coV (false,(3:Int),(2:Int),([((1:Int),(1:Int),(2:Int),(0:Int),[])]:List opS.D)) (false,(4:Int),(2:Int),([((1:Int),(0:Int),(2:Int),(0:Int),[])]:List opS.D))).1.2.1,.int .i64 (coV (false,(3:Int),(2:Int),([((1:Int),(1:Int),(2:Int),(0:Int),[])]:List opS.D)) (false,(4:Int),(2:Int),([((1:Int),(0:Int),(2:Int),(0:Int),[])]:List opS.D))).1.2.2.1,.sl opS (coV (false,(3:Int),(2:Int),([((1:Int),(1:Int),(2:Int),(0:Int),[])]:List opS.D)) (false,(4:Int),(2:Int),([((1:Int),(0:Int),(2:Int),(0:Int),[])]:List opS.D))).1.2.2.2]),(15,.var [.bool (allV []).1.1,.int .i64 (allV []).1.2.1,.int .i64 (allV []).1.2.2.1,.sl opS (allV []).1.2.2.2]),(17,.var [.bool true,.int .i64 2,.int .i64 2,.sl opS (winL opS (0:Nat) (2:Nat) (((List.replicate (2:Nat) opS.dflt).set (0:Nat) ((1:Int),(1:Int),(1:Int),(0:Int),[])).set (1:Nat) ((3:Int),(0:Int),(1:Int),(9:Int),[])))]),(18,.var [.bool (coV (false,(3:Int),(2:Int),([((1:Int),(1:Int),(2:Int),(0:Int),[])]:List opS.D)) (true,(2:Int),(2:Int),winL opS (0:Nat) (2:Nat) (((List.replicate (2:Nat) opS.dflt).set (0:Nat) ((1:Int),(1:Int),(1:Int),(0:Int),[])).set (1:Nat) ((3:Int),(0:Int),(1:Int),(9:Int),[])))).1.1,.int .i64 (coV (false,(3:Int),(2:Int),([((1:Int),(1:Int),(2:Int),(0:Int),[])]:List opS.D)) (true,(2:Int),(2:Int),winL opS (0:Nat) (2:Nat) (((List.replicate (2:Nat) opS.dflt).set (0:Nat) ((1:Int),(1:Int),(1:Int),(0:Int),[])).set (1:Nat) ((3:Int),(0:Int),(1:Int),(9:Int),[])))).1.2.1,.int .i64 (coV (false,(3:Int),(2:Int),([((1:Int),(1:Int),(2:Int),(0:Int),[])]:List opS.D)) (true,(2:Int),(2:Int),winL opS (0:Nat) (2:Nat) (((List.replicate (2:Nat) opS.dflt).set (0:Nat) ((1:Int),(1:Int),(1:Int),(0:Int),[])).set (1:Nat) ((3:Int),(0:Int),(1:Int),(9:Int),[])))).1.2.2.1,.sl opS (coV (false,(3:Int),(2:Int),([((1:Int),(1:Int),(2:Int),(0:Int),[])]:List opS.D)) (true,(2:Int),(2:Int),winL opS (0:Nat) (2:Nat) (((List.replicate (2:Nat) opS.dflt).set (0:Nat) ((1:Int),(1:Int),(1:Int),(0:Int),[])).set (1:Nat) ((3:Int),(0:Int),(1:Int),(9:Int),[])))).1.2.2.2]),(82,.row 66 syS ([(true,(0:Int),(0:Int))]:List syS.D)),(114,.row 69 opS ([((3:Int),(0:Int),(2:Int),(5:Int),[])]:List opS.D)),(1339968,.row 66 syS (thV [] (([(true,(0:Int),(0:Int))]:List syS.D))).1)]):=by kernel_rfl
end Go.Proofs.YticpkibnhakgbaaDoor
namespace Go.Proofs.YticpkibnhakgbaaDoor
open Go.Px Go.Ax
set_option maxRecDepth 100000
attribute [local irreducible] Go.Px.sy Go.Px.syE
def ctSn9:Ctr:=⟨[],fun _=>True,fun _=>[.bool true],fun _=>[]⟩
theorem csan_run (R:List Item→PS→Prop):sy tt G0 CSc Tryd.f9.ntmps Tryd.f9.results.toList (QC ctSn9 ()) R 1000 [.code (bodyOf Tryd.f9)] (entry [] ()):=by
 refine (vc_csan _ _).mpr ?_
 repeat' first
  | exact trivial
  | (show List.length _<1000000;decide +kernel)
  | (show List.length _<16777216;decide +kernel)
  | (show List.length _<1099511627776;decide +kernel)
  | decide +kernel
  | refine And.intro ?_ ?_
  | (refine QC.flat ?_ rfl rfl)
  | (refine congrArg (fun b=>[SV.bool b]) ?_;decide +kernel)
theorem csan_held:Held Tryd.prog G0 9 ctSn9:=Held.run cxSc (fn:=Tryd.f9) rfl rfl ⟨by decide,by decide⟩ fun x _=>csan_run _
end Go.Proofs.YticpkibnhakgbaaDoor
namespace Go.Proofs.YticpkibnhakgbaaDoor
open Go.Px Go.Ax
set_option maxRecDepth 100000
def CL4:CV:=[(9,.inl ctSn9),(10,.inl ctChn),(11,.inl ctAl),(20,.inl ctFo),(14,.inl ctCo),(13,.inl ctSm)]
theorem cxL4:CxOK Tryd.prog tt G0 CL4:=(((((cx0.cons sm_held (fn:=Tryd.f13) rfl rfl rfl).cons co_held (fn:=Tryd.f14) rfl rfl rfl).cons fo_held (fn:=Tryd.f20) rfl rfl rfl).cons all_held (fn:=Tryd.f11) rfl rfl rfl).cons chn_held (fn:=Tryd.f10) rfl rfl rfl).cons csan_held (fn:=Tryd.f9) rfl rfl rfl
abbrev w2S:Sh:=.arr 2 uB
set_option maxRecDepth 100000
def mem_l4_m0 (l:List RaT) (w:List Int):List (Nat × LB):=[(3,.var [.arr (2:Nat) uB w]),(7,.var [.bool (allV (winL paS 0 (chV l).length (chV l))).1.1,.int .i64 (allV (winL paS 0 (chV l).length (chV l))).1.2.1,.int .i64 (allV (winL paS 0 (chV l).length (chV l))).1.2.2.1,.sl opS (allV (winL paS 0 (chV l).length (chV l))).1.2.2.2]),(12,.var [.bool (allV (List.take (IntKind.i64.wrap ((1:Int)+(IntKind.i64.wrap (gtB w (0))).tmod (IntKind.i64.wrap ((↑(winL paS 0 (chV l).length (chV l)).length:Int)-(1:Int))))).toNat (winL paS 0 (chV l).length (chV l)))).1.1,.int .i64 (allV (List.take (IntKind.i64.wrap ((1:Int)+(IntKind.i64.wrap (gtB w (0))).tmod (IntKind.i64.wrap ((↑(winL paS 0 (chV l).length (chV l)).length:Int)-(1:Int))))).toNat (winL paS 0 (chV l).length (chV l)))).1.2.1,.int .i64 (allV (List.take (IntKind.i64.wrap ((1:Int)+(IntKind.i64.wrap (gtB w (0))).tmod (IntKind.i64.wrap ((↑(winL paS 0 (chV l).length (chV l)).length:Int)-(1:Int))))).toNat (winL paS 0 (chV l).length (chV l)))).1.2.2.1,.sl opS (allV (List.take (IntKind.i64.wrap ((1:Int)+(IntKind.i64.wrap (gtB w (0))).tmod (IntKind.i64.wrap ((↑(winL paS 0 (chV l).length (chV l)).length:Int)-(1:Int))))).toNat (winL paS 0 (chV l).length (chV l)))).1.2.2.2]),(14,.var [.bool (allV (List.drop (IntKind.i64.wrap ((1:Int)+(IntKind.i64.wrap (gtB w (0))).tmod (IntKind.i64.wrap ((↑(winL paS 0 (chV l).length (chV l)).length:Int)-(1:Int))))).toNat (winL paS 0 (chV l).length (chV l)))).1.1,.int .i64 (allV (List.drop (IntKind.i64.wrap ((1:Int)+(IntKind.i64.wrap (gtB w (0))).tmod (IntKind.i64.wrap ((↑(winL paS 0 (chV l).length (chV l)).length:Int)-(1:Int))))).toNat (winL paS 0 (chV l).length (chV l)))).1.2.1,.int .i64 (allV (List.drop (IntKind.i64.wrap ((1:Int)+(IntKind.i64.wrap (gtB w (0))).tmod (IntKind.i64.wrap ((↑(winL paS 0 (chV l).length (chV l)).length:Int)-(1:Int))))).toNat (winL paS 0 (chV l).length (chV l)))).1.2.2.1,.sl opS (allV (List.drop (IntKind.i64.wrap ((1:Int)+(IntKind.i64.wrap (gtB w (0))).tmod (IntKind.i64.wrap ((↑(winL paS 0 (chV l).length (chV l)).length:Int)-(1:Int))))).toNat (winL paS 0 (chV l).length (chV l)))).1.2.2.2]),(16,.var [.bool (coV ((allV (List.take (IntKind.i64.wrap ((1:Int)+(IntKind.i64.wrap (gtB w (0))).tmod (IntKind.i64.wrap ((↑(winL paS 0 (chV l).length (chV l)).length:Int)-(1:Int))))).toNat (winL paS 0 (chV l).length (chV l)))).1) ((allV (List.drop (IntKind.i64.wrap ((1:Int)+(IntKind.i64.wrap (gtB w (0))).tmod (IntKind.i64.wrap ((↑(winL paS 0 (chV l).length (chV l)).length:Int)-(1:Int))))).toNat (winL paS 0 (chV l).length (chV l)))).1)).1.1,.int .i64 (coV ((allV (List.take (IntKind.i64.wrap ((1:Int)+(IntKind.i64.wrap (gtB w (0))).tmod (IntKind.i64.wrap ((↑(winL paS 0 (chV l).length (chV l)).length:Int)-(1:Int))))).toNat (winL paS 0 (chV l).length (chV l)))).1) ((allV (List.drop (IntKind.i64.wrap ((1:Int)+(IntKind.i64.wrap (gtB w (0))).tmod (IntKind.i64.wrap ((↑(winL paS 0 (chV l).length (chV l)).length:Int)-(1:Int))))).toNat (winL paS 0 (chV l).length (chV l)))).1)).1.2.1,.int .i64 (coV ((allV (List.take (IntKind.i64.wrap ((1:Int)+(IntKind.i64.wrap (gtB w (0))).tmod (IntKind.i64.wrap ((↑(winL paS 0 (chV l).length (chV l)).length:Int)-(1:Int))))).toNat (winL paS 0 (chV l).length (chV l)))).1) ((allV (List.drop (IntKind.i64.wrap ((1:Int)+(IntKind.i64.wrap (gtB w (0))).tmod (IntKind.i64.wrap ((↑(winL paS 0 (chV l).length (chV l)).length:Int)-(1:Int))))).toNat (winL paS 0 (chV l).length (chV l)))).1)).1.2.2.1,.sl opS (coV ((allV (List.take (IntKind.i64.wrap ((1:Int)+(IntKind.i64.wrap (gtB w (0))).tmod (IntKind.i64.wrap ((↑(winL paS 0 (chV l).length (chV l)).length:Int)-(1:Int))))).toNat (winL paS 0 (chV l).length (chV l)))).1) ((allV (List.drop (IntKind.i64.wrap ((1:Int)+(IntKind.i64.wrap (gtB w (0))).tmod (IntKind.i64.wrap ((↑(winL paS 0 (chV l).length (chV l)).length:Int)-(1:Int))))).toNat (winL paS 0 (chV l).length (chV l)))).1)).1.2.2.2])]
def mem_l4_m1 (l:List RaT) (w:List Int):List (Nat × LB):=[(3,.var [.arr (2:Nat) uB w]),(7,.var [.bool (allV (winL paS 0 (chV l).length (chV l))).1.1,.int .i64 (allV (winL paS 0 (chV l).length (chV l))).1.2.1,.int .i64 (allV (winL paS 0 (chV l).length (chV l))).1.2.2.1,.sl opS (allV (winL paS 0 (chV l).length (chV l))).1.2.2.2]),(9,.var [.bool (foV (gtP (winL paS 0 (chV l).length (chV l)) (0))).1.1,.int .i64 (foV (gtP (winL paS 0 (chV l).length (chV l)) (0))).1.2.1,.int .i64 (foV (gtP (winL paS 0 (chV l).length (chV l)) (0))).1.2.2.1,.sl opS (foV (gtP (winL paS 0 (chV l).length (chV l)) (0))).1.2.2.2])]
theorem vc_l4 (l:List RaT) (w:List Int) (Q:QT) (R:RT):sy tt G0 CL4 Tryd.f4.ntmps Tryd.f4.results.toList Q R 1000 [.code (bodyOf Tryd.f4)] (entry [.sl raS,w2S] (l,w,())) =
  (ctSn9.pre () ∧
 ctChn.pre (l,(4:Int),()) ∧
 0+(chV l).length≤(chV l).length ∧
 0+(chV l).length≤(chV l).length ∧
 0+(chV l).length≤(chV l).length ∧
 ctAl.pre (winL paS 0 (chV l).length (chV l),()) ∧
 bc (decide ((allV (winL paS 0 (chV l).length (chV l))).2≠(0:Int))) (Q [.bool false] [(3,.var [.arr (2:Nat) uB w]),(7,.var [.bool (allV (winL paS 0 (chV l).length (chV l))).1.1,.int .i64 (allV (winL paS 0 (chV l).length (chV l))).1.2.1,.int .i64 (allV (winL paS 0 (chV l).length (chV l))).1.2.2.1,.sl opS (allV (winL paS 0 (chV l).length (chV l))).1.2.2.2])]) (bc (decide ((↑(winL paS 0 (chV l).length (chV l)).length:Int)<(2:Int))) ((0:Int)≤(0:Int) ∧
 (0:Int)<(↑(winL paS 0 (chV l).length (chV l)).length:Int) ∧
 ctFo.pre ((gtP (winL paS 0 (chV l).length (chV l)) (0)),()) ∧
 bc (decide ((foV (gtP (winL paS 0 (chV l).length (chV l)) (0))).2=(0:Int))) (ctSm.pre (((foV (gtP (winL paS 0 (chV l).length (chV l)) (0))).1),((allV (winL paS 0 (chV l).length (chV l))).1),()) ∧
 bc (bif true then smB ((foV (gtP (winL paS 0 (chV l).length (chV l)) (0))).1) ((allV (winL paS 0 (chV l).length (chV l))).1) else false) (Q [.bool true] (mem_l4_m1 l w)) (false=false ∧
 Q [.bool false] (mem_l4_m1 l w))) (false=false ∧
 false=false ∧
 Q [.bool false] (mem_l4_m1 l w))) ((0:Int)≤(0:Int) ∧
 (0:Int)<(↑(2:Nat):Int) ∧
 0<(2:Nat) ∧
 IntKind.i64.wrap ((↑(winL paS 0 (chV l).length (chV l)).length:Int)-(1:Int))≠(0:Int) ∧
 (0:Int)≤IntKind.i64.wrap ((1:Int)+(IntKind.i64.wrap (gtB w (0))).tmod (IntKind.i64.wrap ((↑(winL paS 0 (chV l).length (chV l)).length:Int)-(1:Int)))) ∧
 IntKind.i64.wrap ((1:Int)+(IntKind.i64.wrap (gtB w (0))).tmod (IntKind.i64.wrap ((↑(winL paS 0 (chV l).length (chV l)).length:Int)-(1:Int))))≤(↑(winL paS 0 (chV l).length (chV l)).length:Int) ∧
 ctAl.pre (List.take (IntKind.i64.wrap ((1:Int)+(IntKind.i64.wrap (gtB w (0))).tmod (IntKind.i64.wrap ((↑(winL paS 0 (chV l).length (chV l)).length:Int)-(1:Int))))).toNat (winL paS 0 (chV l).length (chV l)),()) ∧
 (0:Int)≤IntKind.i64.wrap ((1:Int)+(IntKind.i64.wrap (gtB w (0))).tmod (IntKind.i64.wrap ((↑(winL paS 0 (chV l).length (chV l)).length:Int)-(1:Int)))) ∧
 IntKind.i64.wrap ((1:Int)+(IntKind.i64.wrap (gtB w (0))).tmod (IntKind.i64.wrap ((↑(winL paS 0 (chV l).length (chV l)).length:Int)-(1:Int))))≤(↑(winL paS 0 (chV l).length (chV l)).length:Int) ∧
 ctAl.pre (List.drop (IntKind.i64.wrap ((1:Int)+(IntKind.i64.wrap (gtB w (0))).tmod (IntKind.i64.wrap ((↑(winL paS 0 (chV l).length (chV l)).length:Int)-(1:Int))))).toNat (winL paS 0 (chV l).length (chV l)),()) ∧
 ctCo.pre (((allV (List.take (IntKind.i64.wrap ((1:Int)+(IntKind.i64.wrap (gtB w (0))).tmod (IntKind.i64.wrap ((↑(winL paS 0 (chV l).length (chV l)).length:Int)-(1:Int))))).toNat (winL paS 0 (chV l).length (chV l)))).1),((allV (List.drop (IntKind.i64.wrap ((1:Int)+(IntKind.i64.wrap (gtB w (0))).tmod (IntKind.i64.wrap ((↑(winL paS 0 (chV l).length (chV l)).length:Int)-(1:Int))))).toNat (winL paS 0 (chV l).length (chV l)))).1),()) ∧
 bc (decide ((allV (List.take (IntKind.i64.wrap ((1:Int)+(IntKind.i64.wrap (gtB w (0))).tmod (IntKind.i64.wrap ((↑(winL paS 0 (chV l).length (chV l)).length:Int)-(1:Int))))).toNat (winL paS 0 (chV l).length (chV l)))).2=(0:Int))) (bc (decide ((allV (List.drop (IntKind.i64.wrap ((1:Int)+(IntKind.i64.wrap (gtB w (0))).tmod (IntKind.i64.wrap ((↑(winL paS 0 (chV l).length (chV l)).length:Int)-(1:Int))))).toNat (winL paS 0 (chV l).length (chV l)))).2=(0:Int))) (bc (decide ((coV ((allV (List.take (IntKind.i64.wrap ((1:Int)+(IntKind.i64.wrap (gtB w (0))).tmod (IntKind.i64.wrap ((↑(winL paS 0 (chV l).length (chV l)).length:Int)-(1:Int))))).toNat (winL paS 0 (chV l).length (chV l)))).1) ((allV (List.drop (IntKind.i64.wrap ((1:Int)+(IntKind.i64.wrap (gtB w (0))).tmod (IntKind.i64.wrap ((↑(winL paS 0 (chV l).length (chV l)).length:Int)-(1:Int))))).toNat (winL paS 0 (chV l).length (chV l)))).1)).2=(0:Int))) (ctSm.pre (((coV ((allV (List.take (IntKind.i64.wrap ((1:Int)+(IntKind.i64.wrap (gtB w (0))).tmod (IntKind.i64.wrap ((↑(winL paS 0 (chV l).length (chV l)).length:Int)-(1:Int))))).toNat (winL paS 0 (chV l).length (chV l)))).1) ((allV (List.drop (IntKind.i64.wrap ((1:Int)+(IntKind.i64.wrap (gtB w (0))).tmod (IntKind.i64.wrap ((↑(winL paS 0 (chV l).length (chV l)).length:Int)-(1:Int))))).toNat (winL paS 0 (chV l).length (chV l)))).1)).1),((allV (winL paS 0 (chV l).length (chV l))).1),()) ∧
 bc (bif true then smB ((coV ((allV (List.take (IntKind.i64.wrap ((1:Int)+(IntKind.i64.wrap (gtB w (0))).tmod (IntKind.i64.wrap ((↑(winL paS 0 (chV l).length (chV l)).length:Int)-(1:Int))))).toNat (winL paS 0 (chV l).length (chV l)))).1) ((allV (List.drop (IntKind.i64.wrap ((1:Int)+(IntKind.i64.wrap (gtB w (0))).tmod (IntKind.i64.wrap ((↑(winL paS 0 (chV l).length (chV l)).length:Int)-(1:Int))))).toNat (winL paS 0 (chV l).length (chV l)))).1)).1) ((allV (winL paS 0 (chV l).length (chV l))).1) else false) (Q [.bool true] (mem_l4_m0 l w)) (false=false ∧
 Q [.bool false] (mem_l4_m0 l w))) (false=false ∧
 false=false ∧
 Q [.bool false] (mem_l4_m0 l w))) (false=false ∧
 false=false ∧
 false=false ∧
 Q [.bool false] (mem_l4_m0 l w))) (false=false ∧
 false=false ∧
 false=false ∧
 false=false ∧
 Q [.bool false] (mem_l4_m0 l w))))):=by kernel_rfl
end Go.Proofs.YticpkibnhakgbaaDoor
namespace Go.Proofs.YticpkibnhakgbaaDoor
open Go.Px Go.Ax
set_option maxRecDepth 100000
theorem chR_chn:∀ (l:List RaT) (o:Int),preRa l→0≤o→o≤30→chn false o (chR o l)∧∀ q∈chR o l,byL (symF q.2.2.2)
 | [],o,_,_,_=>⟨trivial,fun q hq=>by cases hq⟩
 | x::l,o,hp,h0,h1=>by
  have hx:=hp x (by simp)
  obtain ⟨s1,s2,s3,s4⟩:=szV_ok (m:=o) hx.2.1 h0 (by omega)
  have so:=szV_out (m:=o) hx.2.1 h0
  obtain ⟨r1,r2⟩:=chR_chn l (szV x.2 o).2.2.1 (fun y hy=>hp y (by simp[hy])) so.1 so.2
  refine ⟨⟨s1,rfl,rfl,by omega,r1⟩,fun q hq=>?_⟩
  rcases List.mem_cons.1 hq with e | hq
  ·rw[e];exact s4
  ·exact r2 q hq
theorem rw3:(chkV (rwV 3)).2=0∧(rwV 3).1=false∧(rwV 3).2.2.1=3∧(rwV 3).2.1=3:=⟨by decide +kernel,rfl,rfl,rfl⟩
theorem rw3_sym:symF (rwV 3).2.2.2=[(true,0,0),(true,1,0),(true,2,0)]:=by decide +kernel
theorem rw3_by:byL (symF (rwV 3).2.2.2):=by
 rw[rw3_sym]
 intro x hx
 simp only[List.mem_cons,List.not_mem_nil,or_false] at hx
 rcases hx with rfl | rfl | rfl <;> exact ⟨by decide,by decide⟩
structure Fit (p:PaT) (t:List PaT):Prop where
 ok:(chkV p).2=0
 li:p.1=false
 out:p.2.2.1≤4096
 ch:chn false p.2.2.1 t
 by0:byL (symF p.2.2.2)
 by1:∀ q∈t,byL (symF q.2.2.2)
 len:t.length≤3
 in_:0≤p.2.1∧p.2.1≤12
theorem chV_fit {l:List RaT} (hp:preRa l):∃ p t,chV l=p::t∧Fit p t:=by
 unfold chV
 split
 ·exact ⟨rwV 3,[],rfl,rw3.1,rfl,by decide,trivial,rw3_by,(fun q hq=>by cases hq),by decide,by decide⟩
 ·rename_i hne
  cases l with
  | nil=>exact absurd rfl hne
  | cons x r=>
   have hx:=hp x (by simp)
   have hm:0≤x.1 % 13∧x.1 % 13≤12:=by omega
   obtain ⟨s1,s2,s3,s4⟩:=szV_ok (m:=x.1 % 13) hx.2.1 hm.1 (by omega)
   have so:=szV_out (m:=x.1 % 13) hx.2.1 hm.1
   obtain ⟨r1,r2⟩:=chR_chn (r.take 3) (szV x.2 (x.1 % 13)).2.2.1 (fun y hy=>hp y (by simp[List.mem_of_mem_take hy])) so.1 so.2
   exact ⟨_,_,rfl,s1,rfl,by omega,r1,s4,r2,(show (chR (szV x.2 (x.1 % 13)).2.2.1 (r.take 3)).length≤3 by rw[chR_len,List.length_take];omega),hm⟩
theorem chn_mid {li:Bool} {q:PaT} {t2:List PaT}:∀ {t1:List PaT} {s:List SyT},chn li s.length (t1++q::t2)→chn li s.length t1∧((syC s t1).length:Int)=q.2.1∧(chkV q).2=0∧q.1=li∧q.2.2.1≤4096∧chn li q.2.2.1 t2
 | [],s,h=>⟨trivial,h.2.2.1,h.1,h.2.1,h.2.2.2.1,h.2.2.2.2⟩
 | p::t1,s,h=>by
  obtain ⟨c1,c2,c3,c4,c5⟩:=h
  have hl:((thL s (symF p.2.2.2)).length:Int)=p.2.2.1:=by rw[thL_len];exact (sy_right c1).2.2
  obtain ⟨d1,d2⟩:=chn_mid (t1:=t1) (s:=thL s (symF p.2.2.2)) (by rw[hl];exact c5)
  rw[hl] at d1
  exact ⟨⟨c1,c2,c3,c4,d1⟩,d2⟩
theorem grp {p q:PaT} {t1 t2:List PaT} (hp:(chkV p).2=0) (hs:p.2.2.1≤4096) (hc:chn p.1 p.2.2.1 (t1++q::t2)) :
  coV (allV (p::t1)).1 (allV (q::t2)).1=allV (p::(t1++q::t2))∧(allV (p::t1)).2=0∧(allV (q::t2)).2=0:=by
 obtain ⟨r1,r2,r3⟩:=sy_right hp
 have hc':=hc
 rw[← r3] at hc'
 obtain ⟨c1,c2,c3,c4,c5,c6⟩:=chn_mid hc'
 have c1':=c1
 rw[r3] at c1'
 have a1:=all_nf hp hs c1'
 have a2:=all_nf c3 c5 (by rw[c4];exact c6)
 have a3:=all_nf hp hs hc
 obtain ⟨k1,k2⟩:=syC_ok (m:=p.2.1) r1 (by omega) c1
 obtain ⟨q1,q2,q3⟩:=sy_right c3
 have c6':=c6
 rw[← q3] at c6'
 obtain ⟨k3,k4⟩:=syC_ok (m:=q.2.1) q1 (by omega) c6'
 obtain ⟨n1,n2,_⟩:=nf_ok p.1 k1 r2.1 r2.2 k2
 obtain ⟨m1,m2,_⟩:=nf_ok q.1 k3 q2.1 q2.2 k4
 rw[a1,a2,a3]
 refine ⟨?_,rfl,rfl⟩
 have e:=co_nf n1 m1 (show p.1=q.1 from c4.symm) (show ((syC (symF p.2.2.2) t1).length:Int)=q.2.1 from c2) (show ((syC (symF q.2.2.2) t2).length:Int)≤4096 by omega)
 rw[show symF (nfP p.1 p.2.1 (syC (symF p.2.2.2) t1)).2.2.2=_ from n2,show symF (nfP q.1 q.2.1 (syC (symF q.2.2.2) t2)).2.2.2=_ from m2] at e
 rw[show (nfP p.1 p.2.1 (syC (symF p.2.2.2) t1),(0:Int)).1=nfP p.1 p.2.1 (syC (symF p.2.2.2) t1) from rfl,show (nfP q.1 q.2.1 (syC (symF q.2.2.2) t2),(0:Int)).1=nfP q.1 q.2.1 (syC (symF q.2.2.2) t2) from rfl,e]
 rw[← syC_th (li:=p.1) (t:=symF q.2.2.2) (s:=syC (symF p.2.2.2) t1) (fun x hx=>sOK_th (by rw[c2];exact q1 x hx)) c6',syC_app]
 rfl
theorem soB_refl (x:OpT):soB x x=true:=by simp[soB]
theorem smL_refl:∀ l:List OpT,smL l l=true
 | []=>rfl
 | x::l=>by
  have:=smL_refl l
  simp[smL,soB_refl,this]
theorem smB_refl (p:PaT):smB p p=true:=by simp[smB,smL_refl]
theorem ch_ops {m:Int} {s:List SyT} (hr:∀ x∈s,sOK m x=true) (h0:0≤m) (h1:m≤65536) (hl:s.length≤4096):(chL s).length≤4096:=(poV_ok hr h0 h1 hl).2.2.2.2.1
theorem Fit.all {p:PaT} {t:List PaT} (h:Fit p t):allV (p::t)=(nfP false p.2.1 (syC (symF p.2.2.2) t),0)∧(∀ x∈syC (symF p.2.2.2) t,sOK p.2.1 x=true)∧(syC (symF p.2.2.2) t).length≤4096∧(chL (syC (symF p.2.2.2) t)).length≤4096:=by
 have ha:=all_nf h.ok h.out (by rw[h.li];exact h.ch)
 obtain ⟨r1,r2,r3⟩:=sy_right h.ok
 have ho:=h.out
 obtain ⟨k1,k2⟩:=syC_ok (m:=p.2.1) (li:=false) (l:=t) r1 (by omega) (by rw[r3];exact h.ch)
 rw[h.li] at ha
 exact ⟨ha,k1,k2,ch_ops k1 r2.1 r2.2 k2⟩
end Go.Proofs.YticpkibnhakgbaaDoor
namespace Go.Proofs.YticpkibnhakgbaaDoor
open Go.Px Go.Ax
def u8L (b:List Int):Prop:=∀ j,0≤gtB b j∧gtB b j<256
theorem u8_wf {n:Int} (h:wfD uB n):0≤n∧n<256:=by
 have h:(Lit.int IntKind.u8 n).wf=true:=h
 simp[Lit.wf,IntKind.min,IntKind.max,IntKind.signed,IntKind.bits] at h
 omega
theorem u8_of {l:List Int} (h:∀ x∈l,wfD uB x):u8L l:=fun j=>by
 by_cases hj:j<l.length
 ·rw[gtB_at hj];exact u8_wf (h _ (List.getElem_mem hj))
 ·have:gtB l j=0:=by
   show gt uB _ _=_
   unfold gt
   rw[List.getElem?_eq_none (by omega)];rfl
  rw[this];decide
theorem l4_of {l:List (List Int)} (h:∀ x∈l,wfD a4S x):preL4 l:=fun j=>by
 by_cases hj:j<l.length
 ·have e:gt a4S l j=l[j]:=gtE (e:=a4S) hj
  rw[e]
  exact u8_of (h _ (List.getElem_mem hj)).2
 ·have:gt a4S l j=List.replicate 4 (0:Int):=by
   unfold gt
   rw[List.getElem?_eq_none (by omega)];rfl
  rw[this]
  exact u8_of fun x hx=>by
   rw[List.eq_of_mem_replicate hx];rfl
theorem m6_of {x:Int × List (List Int)} (h:wfD raS x):preM6 x.1 x.2:=⟨u8_wf h.1,l4_of h.2.2,h.2.1⟩
theorem G_get {g:Nat} {x:ABlk} (h:rawG.get g=some x):g=0∧x=.cells costCells 118 2:=by
 unfold rawG T.get at h
 split at h
 ·rename_i e;cases h;exact ⟨e,rfl⟩
 ·split at h <;> (simp[T.get] at h)
theorem hG:Glob G0.raw:=⟨fun g x h=>by rw[(G_get h).1];decide,fun g x h=>by rw[(G_get h).2];decide⟩
abbrev H0:AHeap:=⟨nglob,G0.raw⟩
def Z0:Nat→Option ABlk:=fun g=>rawG.get g
theorem gz0:GZ Z0 G0:=by
 refine ⟨fun g x e=>?_,fun g x e=>e⟩
 simp only[G0,lk] at e
 split at e
 ·rename_i h;subst h;cases e
  refine ⟨by decide,fun ν=>⟨0,0,costCells,118,2,rfl,rfl,by decide,?_⟩⟩
  exact rv_of (.arr 5 coS) costsL ⟨rfl,fun x _=>⟨trivial,trivial⟩⟩
 ·cases e
theorem fro0:Px.Fro G0 H0:=⟨fun i x h=>by rw[(G_get h).2];rfl,fun i x h=>by rw[(G_get h).2];trivial,fun i x h=>by rw[(G_get h).1];decide,gz0⟩
end Go.Proofs.YticpkibnhakgbaaDoor
namespace Go.Proofs.YticpkibnhakgbaaDoor
open Go.Px Go.Ax
theorem ra_of {l:List RaT} (h:wfD (.sl raS) l):preRa l:=fun x hx=>m6_of (h.2 x hx)
end Go.Proofs.YticpkibnhakgbaaDoor
namespace Go.Proofs.YticpkibnhakgbaaDoor
open Go.Px Go.Ax
set_option maxRecDepth 100000
attribute [local irreducible] Go.Px.sy Go.Px.syE
def ctL4c:Ctr:=⟨[.sl raS,w2S],fun x=>preRa x.1∧u8L x.2.1,fun _=>[.bool true],fun _=>[]⟩
theorem l4_true {l:List RaT} {w:List Int} {bl:List (Nat × LB)}:QC ctL4c (l,w,()) [.bool true] bl:=QC.flat rfl rfl rfl
theorem l4_run (l:List RaT) (w:List Int) (hl:preRa l) (hw:u8L w) (R:List Item→PS→Prop):sy tt G0 CL4 Tryd.f4.ntmps Tryd.f4.results.toList (QC ctL4c (l,w,())) R 1000 [.code (bodyOf Tryd.f4)] (entry [.sl raS,w2S] (l,w,())):=by
 obtain ⟨p,t,hv,hf⟩:=chV_fit hl
 obtain ⟨ha,k1,k2,k3⟩:=hf.all
 have hw0:=hw 0
 have htl:=hf.len
 refine (vc_l4 l w _ _).mpr ?_
 rw[winA,hv]
 have hl1:(p::t).length<1099511627776:=by simp only[List.length_cons];omega
 refine ⟨trivial,⟨hl,rfl⟩,by omega,by omega,by omega,hl1,?_⟩
 rw[ha]
 refine bc_of (fun h=>absurd (of_decide_eq_true h) (by simp)) (fun _=>bc_of (fun h=>?_) (fun h=>?_))
 ·have h:((p::t).length:Int)<2:=of_decide_eq_true h
  have ht:t=[]:=List.eq_nil_of_length_eq_zero (by simp only[List.length_cons] at h;omega)
  subst ht
  rw[show gtP [p] 0=p from rfl,fo_nf hf.ok hf.out,hf.li]
  refine ⟨by omega,by simp,trivial,bc_of (fun _=>⟨?_,?_⟩) (fun h=>absurd rfl (of_decide_eq_false h))⟩
  ·show (chL (syC (symF p.2.2.2) [])).length<1099511627776
   omega
  ·have e:smB (nfP false p.2.1 (symF p.2.2.2)) (nfP false p.2.1 (syC (symF p.2.2.2) []))=true:=smB_refl _
   rw[show (bif true then smB (nfP false p.2.1 (symF p.2.2.2),(0:Int)).1 (nfP false p.2.1 (syC (symF p.2.2.2) []),(0:Int)).1 else false)=true from e,bc_t]
   exact l4_true
 ·have h:¬ ((p::t).length:Int)<2:=of_decide_eq_false h
  have hlen:(p::t).length=t.length+1:=rfl
  have w1:IntKind.i64.wrap (((p::t).length:Int)-1)=(t.length:Int):=by rw[IntWalk.i64_in _ (by omega)];omega
  have w2:IntKind.i64.wrap (gtB w 0)=gtB w 0:=IntWalk.i64_in _ (by omega)
  have hm:(gtB w 0).tmod (t.length:Int)=gtB w 0 % (t.length:Int):=Int.tmod_eq_emod_of_nonneg hw0.1
  have m0:=Int.emod_nonneg (gtB w 0) (show (t.length:Int)≠0 by omega)
  have m1:=Int.emod_lt_of_pos (gtB w 0) (show 0<(t.length:Int) by omega)
  obtain ⟨j,hj⟩:=Int.eq_ofNat_of_zero_le m0
  have hjt:j<t.length:=by omega
  have w3:IntKind.i64.wrap (1+(j:Int))=((j+1:Nat):Int):=by rw[IntWalk.i64_in _ (by omega)];omega
  rw[w1,w2,hm,hj,w3,Int.toNat_natCast]
  have ht:t=t.take j++t[j]::t.drop (j+1):=by
   rw[← List.drop_eq_getElem_cons hjt,List.take_append_drop]
  have e1:List.take (j+1) (p::t)=p::t.take j:=rfl
  have e2:List.drop (j+1) (p::t)=t[j]::t.drop (j+1):=by
   rw[List.drop_succ_cons,List.drop_eq_getElem_cons hjt]
  obtain ⟨g1,g2,g3⟩:=grp (p:=p) (q:=t[j]) (t1:=t.take j) (t2:=t.drop (j+1)) hf.ok hf.out (by rw[← ht,hf.li];exact hf.ch)
  rw[← ht,ha] at g1
  rw[e1,e2,g1,g2,g3]
  have l1:(p::t.take j).length<1099511627776:=by simp only[List.length_cons,List.length_take];omega
  have l2:(t[j]::t.drop (j+1)).length<1099511627776:=by simp only[List.length_cons,List.length_drop];omega
  refine ⟨by omega,by omega,by omega,by omega,by omega,by omega,l1,by omega,by omega,l2,trivial,bc_of (fun _=>bc_of (fun _=>bc_of (fun _=>⟨?_,?_⟩) (fun h=>absurd rfl (of_decide_eq_false h))) (fun h=>absurd rfl (of_decide_eq_false h))) (fun h=>absurd rfl (of_decide_eq_false h))⟩
  ·show (chL (syC (symF p.2.2.2) t)).length<1099511627776
   omega
  ·have e:smB (nfP false p.2.1 (syC (symF p.2.2.2) t)) (nfP false p.2.1 (syC (symF p.2.2.2) t))=true:=smB_refl _
   rw[show (bif true then smB (nfP false p.2.1 (syC (symF p.2.2.2) t),(0:Int)).1 (nfP false p.2.1 (syC (symF p.2.2.2) t),(0:Int)).1 else false)=true from e,bc_t]
   exact l4_true
theorem l4_held:Held Tryd.prog G0 4 ctL4c:=Held.run cxL4 (fn:=Tryd.f4) rfl rfl ⟨by decide,by decide⟩ fun ⟨l,w,_⟩ hp=>l4_run l w hp.1 hp.2 _
end Go.Proofs.YticpkibnhakgbaaDoor
