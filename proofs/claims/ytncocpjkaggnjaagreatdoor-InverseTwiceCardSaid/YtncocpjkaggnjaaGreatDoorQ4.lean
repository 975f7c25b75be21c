/-
  A part of the proof: what pieces of the program give; conditions: those of each theorem.
-/
import Derived.Test.YtncocpjkaggnjaaGreatDoorQ3
import Derived.KernelRfl
import Derived.Test.YtncocpjkaggnjaaGreatDoorQ2
import Derived.Test.YtncocpjkaggnjaaGreatDoorHD
set_option linter.unusedVariables false
set_option linter.unusedSimpArgs false
namespace Go.Proofs.YtncocpjkaggnjaaGreatDoor
open Go.Px Go.Ax
set_option maxRecDepth 100000
theorem gMs_uMs:∀ (o:MpS) (k k':Int) (v:SyT),gMs (uMs o k v) k'=if k'=k then some v else gMs o k'
 | [],k,k',v=>by
  show (match decide (k'=k) with | true=>some v | false=>none)=_
  by_cases h:k'=k
  ·rw[decide_eq_true h,if_pos h]
  ·rw[decide_eq_false h,if_neg h];rfl
 | p::o,k,k',v=>by
  have ih:=gMs_uMs o k k' v
  show gMs (match decide (k=p.1) with | true=>(k,v)::o | false=>p::uMs o k v) k'=_
  by_cases h:k=p.1
  ·rw[decide_eq_true h]
   show (match decide (k'=k) with | true=>some v | false=>gMs o k')=_
   by_cases h2:k'=k
   ·rw[decide_eq_true h2,if_pos h2]
   ·rw[decide_eq_false h2,if_neg h2]
    show gMs o k'=(match decide (k'=p.1) with | true=>some p.2 | false=>gMs o k')
    rw[decide_eq_false (by rw[← h];exact h2)]
  ·rw[decide_eq_false h]
   show (match decide (k'=p.1) with | true=>some p.2 | false=>gMs (uMs o k v) k')=(if k'=k then some v else (match decide (k'=p.1) with | true=>some p.2 | false=>gMs o k'))
   rw[ih]
   by_cases h2:k'=p.1
   ·have hkk:¬ k'=k:=fun e=>h (e.symm.trans h2)
    rw[decide_eq_true h2]
    show some p.2=if k'=k then some v else some p.2
    rw[if_neg hkk]
   ·rw[decide_eq_false h2]
def fsJ (i:Int):Nat→List SyT→Option SyT
 | _,[]=>none
 | j,s::l=>if s.1=true∧s.2.1=i then some (true,(j:Int),ng s.2.2) else fsJ i (j+1) l
theorem gMs_kpF (i:Int):∀ (l:List SyT) (j:Nat) (o:MpS),gMs (kpF j l o) i=match gMs o i with
  | some v=>some v
  | none=>fsJ i j l
 | [],j,o=>by rw[kpF,fsJ];cases gMs o i <;> rfl
 | s::l,j,o=>by
  rw[kpF,gMs_kpF i l (j+1),fsJ]
  by_cases h:s.1=true∧(gMs o s.2.1).isSome=false
  ·rw[show kpS j s o=uMs o s.2.1 (true,(j:Int),ng s.2.2) from if_pos h,gMs_uMs]
   by_cases e:i=s.2.1
   ·have hn:gMs o i=none:=by rw[e];simpa using h.2
    rw[if_pos e,hn,if_pos ⟨h.1,e.symm⟩]
   ·rw[if_neg e]
    cases gMs o i with
    | some v=>rfl
    | none=>simp only;rw[if_neg fun q=>e q.2.symm]
  ·rw[show kpS j s o=o from if_neg h]
   cases hg:gMs o i with
   | some v=>rfl
   | none=>
    simp only
    rw[if_neg]
    rintro ⟨h1,h2⟩
    exact h ⟨h1,by rw[h2,hg];rfl⟩
theorem kp_is (l:List SyT) (i:Int):gMs (kpF 0 l []) i=fsJ i 0 l:=by rw[gMs_kpF];rfl
theorem fsJ_some {i:Int}:∀ {l:List SyT} {j0:Nat} {v:SyT},fsJ i j0 l=some v→∃ (j:Nat) (h:j<l.length),v=(true,((j0+j:Nat):Int),ng l[j].2.2)∧l[j].1=true∧l[j].2.1=i∧∀ (k:Nat) (hk:k<l.length),k<j→¬ (l[k].1=true∧l[k].2.1=i)
 | [],_,_,h=>by cases h
 | s::l,j0,v,h=>by
  rw[fsJ] at h
  split at h
  ·rename_i hs
   cases h
   exact ⟨0,by simp,rfl,hs.1,hs.2,fun k _ hk=>by omega⟩
  ·rename_i hs
   obtain ⟨j,hj,e1,e2,e3,e4⟩:=fsJ_some h
   refine ⟨j+1,by simpa using hj,by rw[e1];simp;omega,by simpa using e2,by simpa using e3,fun k hk hkj=>?_⟩
   cases k with
   | zero=>exact hs
   | succ k=>exact e4 k (by simpa using hk) (by omega)
theorem isF_at (M:MpS):∀ (b:List Int) (i k:Nat) (h:k<b.length),(isF M i b)[k]?=some ((gMs M ((i+k:Nat):Int)).getD (false,0,b[k]))
 | [],_,_,h=>by simp at h
 | x::b,i,k,h=>by
  rw[isF]
  cases k with
  | zero=>rfl
  | succ k=>
   rw[List.getElem?_cons_succ,isF_at M b (i+1) k (by simpa using h)]
   rw[show i+1+k=i+(k+1) by omega]
   rfl
def inS (old:List Int) (l:List SyT):List SyT:=isF (kpF 0 l []) 0 old
theorem inS_len (old:List Int) (l:List SyT):(inS old l).length=old.length:=isF_len _ _ _
theorem inS_at {old:List Int} {l:List SyT} {i:Nat} (h:i<old.length) (h2:i<(inS old l).length):(inS old l)[i]=(fsJ (i:Int) 0 l).getD (false,0,old[i]):=by
 have:=isF_at (kpF 0 l []) old 0 i h
 rw[Nat.zero_add,kp_is] at this
 have e:(inS old l)[i]?=some ((inS old l)[i]):=List.getElem?_eq_getElem h2
 exact Option.some.inj (e.symm.trans this)
theorem inS_right (old:List Int) (l:List SyT):∀ x∈inS old l,sOK l.length x=true:=fun x hx=>by
 obtain ⟨i,hi,rfl⟩:=List.mem_iff_getElem.1 hx
 have ho:i<old.length:=by rw[inS_len] at hi;exact hi
 rw[inS_at ho hi]
 cases h:fsJ (i:Int) 0 l with
 | none=>rfl
 | some v=>
  obtain ⟨j,hj,rfl,_⟩:=fsJ_some h
  simp only[Option.getD_some,sOK,if_true,Bool.and_eq_true,decide_eq_true_eq]
  omega
theorem ng_back {b o:Int} (h0:0≤o) (h1:o<256):IntKind.u8.wrap (ng b+IntKind.u8.wrap (b+o))=o:=by
 show ((0-b) % 256+(b+o) % 256) % 256=o
 omega
theorem gtB_mapS {f:SyT→Int} {l:List SyT} {j:Nat} (h:j<l.length):gtB (l.map f) j=f l[j]:=by
 rw[gtB_at (by simpa using h),List.getElem_map]
theorem inS_back {old:List Int} (hu:∀ (i:Nat) (h:i<old.length),0≤old[i]∧old[i]<256) (l:List SyT):(inS old l).map (ruB (l.map (ruB old)))=old:=by
 refine List.ext_getElem (by rw[List.length_map,inS_len]) fun i h1 h2=>?_
 rw[List.getElem_map,inS_at h2 (by rw[inS_len];exact h2)]
 cases h:fsJ (i:Int) 0 l with
 | none=>rfl
 | some v=>
  obtain ⟨j,hj,rfl,e2,e3,_⟩:=fsJ_some h
  have hu:=hu i h2
  simp only[Option.getD_some,ruB,if_true,Nat.zero_add,Int.toNat_natCast]
  rw[gtB_mapS hj]
  have:ruB old l[j]=IntKind.u8.wrap (l[j].2.2+gtB old i):=by
   rw[ruB,if_pos e2,e3,Int.toNat_natCast]
  show IntKind.u8.wrap (ng l[j].2.2+ruB old l[j])=old[i]
  rw[this,gtB_at h2]
  exact ng_back hu.1 hu.2
theorem apW_val {old:List Int} {q:PaT} (hq:(chkV q).2=0) (hli:q.1=false) (hl:(old.length:Int)=q.2.1):apW old q=((symF q.2.2.2).map (ruB old),0):=by
 obtain ⟨r1,r2,r3⟩:=sy_right hq
 rw[apW,if_neg (by rw[hli];decide)]
 unfold apV plV
 rw[sy_ok hq]
 rw[if_pos rfl,if_pos hl]
 exact runV_ok (by rw[hl];exact r1)
theorem ivV_val {old:List Int} {q:PaT} (hq:(chkV q).2=0) (hli:q.1=false) (hl:(old.length:Int)=q.2.1) (hs:old.length≤4096):ivV old q=(nfP false q.2.2.1 (inS old (symF q.2.2.2)),0):=by
 obtain ⟨r1,r2,r3⟩:=sy_right hq
 have ho:=(chkV_ok hq).2.2.1
 have hS:ivS old q=inS old (symF q.2.2.2):=by rw[ivS,sy_ok hq];rfl
 have hc:=cpV_ok (s:=inS old (symF q.2.2.2)) (m:=q.2.2.1) (fun x hx=>by rw[← r3];exact inS_right _ _ x hx) ho.1 ho.2 (by rw[inS_len];exact hs)
 unfold ivV
 rw[apW_val hq hli hl,hS,hc,if_neg (by simp),if_neg (by simp),hli]
theorem iv_nf {old:List Int} {q:PaT} (hq:(chkV q).2=0) (hs:old.length≤4096) :
  (chkV (nfP false q.2.2.1 (inS old (symF q.2.2.2)))).2=0∧symF (nfP false q.2.2.1 (inS old (symF q.2.2.2))).2.2.2=inS old (symF q.2.2.2):=by
 obtain ⟨r1,r2,r3⟩:=sy_right hq
 have ho:=(chkV_ok hq).2.2.1
 obtain ⟨n1,n2,_⟩:=nf_ok (s:=inS old (symF q.2.2.2)) (m:=q.2.2.1) false (fun x hx=>by rw[← r3];exact inS_right _ _ x hx) ho.1 ho.2 (by rw[inS_len];exact hs)
 exact ⟨n1,n2⟩
end Go.Proofs.YtncocpjkaggnjaaGreatDoor
namespace Go.Proofs.YtncocpjkaggnjaaGreatDoor
open Go.Px Go.Ax
set_option maxRecDepth 100000
attribute [local irreducible] Go.Px.sy Go.Px.syE
theorem snI_run (R:List Item→PS→Prop):sy tt G0 CSn Tryz.f21.ntmps Tryz.f21.results.toList (QC ctSnI ()) R 1000 [.code (bodyOf Tryz.f21)] (entry [] ()):=by
 refine (vc_snI _ _).mpr ?_
 repeat' first
  | exact trivial
  | exact Or.inl rfl
  | exact Or.inr ⟨by decide +kernel,by decide +kernel⟩
  | (show List.length _<1099511627776;decide +kernel)
  | decide +kernel
  | refine And.intro ?_ ?_
  | (refine QC.flat ?_ rfl rfl)
  | (refine congrArg (fun b=>[SV.bool b]) ?_;decide +kernel)
theorem snI_held:Held Tryz.prog G0 21 ctSnI:=Held.run cxSn (fn:=Tryz.f21) rfl rfl ⟨by decide,by decide⟩ fun x _=>snI_run _
end Go.Proofs.YtncocpjkaggnjaaGreatDoor
namespace Go.Proofs.YtncocpjkaggnjaaGreatDoor
open Go.Px Go.Ax
def u8L (b:List Int):Prop:=∀ j,0≤gtB b j∧gtB b j<256
theorem u8_wf {n:Int} (h:wfD uB n):0≤n∧n<256:=by
 have h:(Lit.int IntKind.u8 n).wf=true:=h
 simp[Lit.wf,IntKind.min,IntKind.max,IntKind.signed,IntKind.bits] at h
 omega
theorem u8_of {l:List Int} (h:∀ x∈l,wfD uB x):u8L l:=fun j=>by
 by_cases hj:j<l.length
 ·rw[gtB_at hj];exact u8_wf (h _ (List.getElem_mem hj))
 ·have:gtB l j=0:=by
   show gt uB _ _=_
   unfold gt
   rw[List.getElem?_eq_none (by omega)];rfl
  rw[this];decide
theorem l4_of {l:List (List Int)} (h:∀ x∈l,wfD a4S x):preL4 l:=fun j=>by
 by_cases hj:j<l.length
 ·have e:gt a4S l j=l[j]:=gtE (e:=a4S) hj
  rw[e]
  exact u8_of (h _ (List.getElem_mem hj)).2
 ·have:gt a4S l j=List.replicate 4 (0:Int):=by
   unfold gt
   rw[List.getElem?_eq_none (by omega)];rfl
  rw[this]
  exact u8_of fun x hx=>by
   rw[List.eq_of_mem_replicate hx];rfl
theorem m6_of {x:Int × List (List Int)} (h:wfD raS x):preM6 x.1 x.2:=⟨u8_wf h.1,l4_of h.2.2,h.2.1⟩
theorem G_get {g:Nat} {x:ABlk} (h:rawG.get g=some x):(g=0∧x=.cells kindCells 181 2)∨(g=1∧x=.cells costCells 214 2):=by
 unfold rawG T.get at h
 split at h
 ·rename_i e;cases h;exact .inl ⟨e,rfl⟩
 ·rename_i h0
  split at h
  ·rename_i h1
   unfold T.get at h
   split at h
   ·rename_i h2;cases h;exact .inr ⟨by omega,rfl⟩
   ·split at h <;> simp[T.get] at h
  ·simp[T.get] at h
theorem hG:Glob G0.raw:=⟨fun g x h=>by rcases G_get h with ⟨rfl,_⟩ | ⟨rfl,_⟩ <;> decide,fun g x h=>by rcases G_get h with ⟨_,rfl⟩ | ⟨_,rfl⟩ <;> decide⟩
abbrev H0:AHeap:=⟨nglob,G0.raw⟩
def Z0:Nat→Option ABlk:=fun g=>rawG.get g
theorem gz0:GZ Z0 G0:=by
 refine ⟨fun g x e=>?_,fun g x e=>e⟩
 simp only[G0,lk] at e
 split at e
 ·rename_i h;subst h;cases e
  refine ⟨by decide,fun ν=>⟨0,0,kindCells,181,2,rfl,rfl,by decide,?_⟩⟩
  exact rv_of (.arr 9 kindSh) kindsL ⟨rfl,fun x _=>⟨trivial,trivial,trivial,trivial,trivial⟩⟩
 ·split at e
  ·rename_i h;subst h;cases e
   refine ⟨by decide,fun ν=>⟨1,0,costCells,214,2,rfl,rfl,by decide,?_⟩⟩
   exact rv_of (.arr 5 coS) costsL ⟨rfl,fun x _=>⟨trivial,trivial⟩⟩
  ·cases e
theorem fro0:Px.Fro G0 H0:=⟨fun i x h=>by rcases G_get h with ⟨rfl,rfl⟩ | ⟨rfl,rfl⟩ <;> rfl,fun i x h=>by rcases G_get h with ⟨rfl,rfl⟩ | ⟨rfl,rfl⟩ <;> trivial,fun i x h=>by rcases G_get h with ⟨rfl,rfl⟩ | ⟨rfl,rfl⟩ <;> decide,gz0⟩
end Go.Proofs.YtncocpjkaggnjaaGreatDoor
namespace Go.Proofs.YtncocpjkaggnjaaGreatDoor
open Go.Px Go.Ax
set_option maxRecDepth 100000
attribute [local irreducible] Go.Px.sy Go.Px.syE
theorem cxBk:CxOK Tryz.prog tt G0 CBk:=(((((((cx0.cons rs_held (fn:=Tryz.f33) rfl rfl rfl).cons rr_held (fn:=Tryz.f32) rfl rfl rfl).cons lo_held (fn:=Tryz.f27) rfl rfl rfl).cons right_held (fn:=Tryz.f31) rfl rfl rfl).cons iv_held (fn:=Tryz.f25) rfl rfl rfl).cons apW_held (fn:=Tryz.f14) rfl rfl rfl).cons two_held (fn:=Tryz.f22) rfl rfl rfl).cons snI_held (fn:=Tryz.f21) rfl rfl rfl
theorem inp_u8 {b:List Int} (hb:u8L b) (n:Nat):∀ (i:Nat) (h:i<(inpL b n).length),0≤(inpL b n)[i]∧(inpL b n)[i]<256:=fun i h=>by
 have e:(inpL b n)[i]=inB b i:=by simp[inpL]
 rw[e]
 unfold inB
 split
 ·exact hb _
 ·show 0≤_ % 256∧_ % 256<(256:Int)
  omega
theorem szM_ok {n:Int} {l:List (List Int)} (hp:preM6 n l) (b:List Int):(chkV (szM n l)).2=0∧(szM n l).1=false∧((inpL b (szM n l).2.1.toNat).length:Int)=(szM n l).2.1∧(inpL b (szM n l).2.1.toNat).length≤4096:=by
 have hi:=szM_in hp
 have hc:=szV_chk (m:=n % 13) hp.2.1 hi.1 (by have:=hi.2;show n % 13≤65536;have h2:n % 13<13:=hi.2;omega)
 refine ⟨by show (chkV (szV l (n % 13))).2=0;rw[hc],rfl,?_,?_⟩
 ·rw[inpL_len];omega
 ·rw[inpL_len];omega
def preBk (n:Int) (l:List (List Int)) (b:List Int):Prop:=preM6 n l∧u8L b
end Go.Proofs.YtncocpjkaggnjaaGreatDoor
namespace Go.Proofs.YtncocpjkaggnjaaGreatDoor
open Go.Px Go.Ax
set_option maxRecDepth 100000
def ctRunR:Ctr:=⟨[.sl uB,.sl syS],fun x=>List.length x.1<1099511627776∧List.length x.2.1<16777216,ctRun.out,ctRun.rows⟩
set_option maxRecDepth 100000
theorem vc_rru (b:List Int) (l:List SyT) (Q:QT) (R:RT):sy tt G0 [(42,.inl ctIn)] Tryz.f69.ntmps Tryz.f69.results.toList Q R 1000 [.code (bodyOf Tryz.f69)] (entry [.sl uB,.sl syS] (b,l,())) =
  (R (hd Tryz.f69 0) { env:=[(0,.sl uB b),(1,.sl syS l),(4,.nils),(5,.int .i64 0),(6,.win true uB 9 0 (0:Nat)),(7,.int .i64 0),(9,.win true uB 9 0 (0:Nat))],blk:=[(9,.row 5 uB (List.replicate (0:Nat) uB.dflt))] }):=by kernel_rfl
def mem_rap_m0 (m o:Int) (l:List OpT):List (Nat × LB):=[(3,.var [.bool false,.int .i64 m,.int .i64 o,.sl opS l]),(1069632,.row 83 syS (symV (false,m,o,l)).1)]
theorem vc_rap (b:List Int) (m o:Int) (l:List OpT) (Q:QT) (R:RT):sy tt G0 [(69,.inl ctRunR),(33,.inl ctSym)] Tryz.f34.ntmps Tryz.f34.results.toList Q R 1000 [.code (bodyOf Tryz.f34)] (entry [.sl uB,paS] (b,(false,m,o,l),())) =
  (ctSym.pre ((false,m,o,l),()) ∧
 bc (decide ((symV (false,m,o,l)).2≠(0:Int))) (Q [.nils,.int .i64 (symV (false,m,o,l)).2] (mem_rap_m0 m o l)) (bc (decide ((b.length:Int)≠m)) (Q [.nils,.int .i64 61] (mem_rap_m0 m o l)) (0+(symV (false,m,o,l)).1.length≤(symV (false,m,o,l)).1.length ∧
 ctRunR.pre (b,winL syS 0 (symV (false,m,o,l)).1.length (symV (false,m,o,l)).1,()) ∧
 Q [.win true uB 1176128 0 (runV b (winL syS 0 (symV (false,m,o,l)).1.length (symV (false,m,o,l)).1)).1.length,.int .i64 0] [(3,.var [.bool false,.int .i64 m,.int .i64 o,.sl opS l]),(1069632,.row 83 syS (symV (false,m,o,l)).1),(1176128,.row 5 uB (runV b (winL syS 0 (symV (false,m,o,l)).1.length (symV (false,m,o,l)).1)).1)]))):=by kernel_rfl
theorem vc_rruL (b:List Int) (l:List SyT) (o:List Int) (i:Int) (Q:QT) (R:RT):sy tt G0 [(42,.inl ctIn)] Tryz.f69.ntmps Tryz.f69.results.toList Q R 1000 (hd Tryz.f69 0) ⟨[(0,.sl uB b),(1,.sl syS l),(6,.win true uB 77 0 o.length),(7,.int .i64 i)],[(77,.row 5 uB o)]⟩ =
  (bc (decide (i<(l.length:Int))) ((0:Int)≤i ∧
 i<(l.length:Int) ∧
 (0:Int)≤i ∧
 i<(l.length:Int) ∧
 bc (gtY l i.toNat).1 ((0:Int)≤i ∧
 i<(l.length:Int) ∧
 ctIn.pre ((gtY l i.toNat).2.1,(0:Int),IntKind.i64.wrap ((b.length:Int)-(1:Int)),()) ∧
 bc (!(decide ((0:Int)≤(gtY l i.toNat).2.1)&&decide ((gtY l i.toNat).2.1≤IntKind.i64.wrap ((b.length:Int)-(1:Int))))) (Q [.nils,.int .i64 61] [(77,.row 5 uB o)]) ((0:Int)≤i ∧
 i<(l.length:Int) ∧
 (0:Int)≤(gtY l i.toNat).2.1 ∧
 (gtY l i.toNat).2.1<(b.length:Int) ∧
 0+(1:Nat)≤([(IntKind.u8.wrap ((gtY l i.toNat).2.2+gtB b (Int.toNat (gtY l i.toNat).2.1)))]:List uB.D).length ∧
 o.length=o.length ∧
 (0:Nat)=(0:Nat) ∧
 o.length+(([(IntKind.u8.wrap ((gtY l i.toNat).2.2+gtB b (Int.toNat (gtY l i.toNat).2.1)))]:List uB.D)).length<(2:Nat) ^ (30:Nat) ∧
 (1:Nat)≤(2:Nat) ^ (10:Nat) ∧
 R (hd Tryz.f69 0) { env:=[(0,.sl uB b),(1,.sl syS l),(6,.win true uB 49 0 (o.length+(([(IntKind.u8.wrap ((gtY l i.toNat).2.2+gtB b (Int.toNat (gtY l i.toNat).2.1)))]:List uB.D)).length)),(7,.int .i64 (IntKind.i64.wrap (i+(1:Int)))),(8,.int .u8 (IntKind.u8.wrap ((gtY l i.toNat).2.2+gtB b (Int.toNat (gtY l i.toNat).2.1)))),(10,.int .i64 i),(11,.sl syS l),(12,.int .i64 (l.length:Int)),(13,.bool (decide (i<(l.length:Int)))),(14,.int .i64 i),(15,.int .i64 (IntKind.i64.wrap (i+(1:Int)))),(16,.sl syS l),(17,.int .i64 i),(18,.elv syS (gtY l i.toNat)),(19,.elv uB (gtY l i.toNat).2.2),(20,.int .u8 (gtY l i.toNat).2.2),(21,.sl syS l),(22,.int .i64 i),(23,.elv syS (gtY l i.toNat)),(24,.elv Sh.bool (gtY l i.toNat).1),(25,.bool (gtY l i.toNat).1),(26,.sl syS l),(27,.int .i64 i),(28,.elv syS (gtY l i.toNat)),(29,.elv iI (gtY l i.toNat).2.1),(30,.int .i64 (gtY l i.toNat).2.1),(31,.sl uB b),(32,.int .i64 (b.length:Int)),(33,.int .i64 (IntKind.i64.wrap ((b.length:Int)-(1:Int)))),(34,.bool (decide ((0:Int)≤(gtY l i.toNat).2.1)&&decide ((gtY l i.toNat).2.1≤IntKind.i64.wrap ((b.length:Int)-(1:Int))))),(35,.bool !(decide ((0:Int)≤(gtY l i.toNat).2.1)&&decide ((gtY l i.toNat).2.1≤IntKind.i64.wrap ((b.length:Int)-(1:Int))))),(36,.int .u8 (gtY l i.toNat).2.2),(37,.sl uB b),(38,.sl syS l),(39,.int .i64 i),(40,.elv syS (gtY l i.toNat)),(41,.elv iI (gtY l i.toNat).2.1),(42,.int .i64 (gtY l i.toNat).2.1),(43,.elv uB (gtB b (Int.toNat (gtY l i.toNat).2.1))),(44,.int .u8 (gtB b (Int.toNat (gtY l i.toNat).2.1))),(45,.int .u8 (IntKind.u8.wrap ((gtY l i.toNat).2.2+gtB b (Int.toNat (gtY l i.toNat).2.1)))),(46,.dead),(47,.int .u8 (IntKind.u8.wrap ((gtY l i.toNat).2.2+gtB b (Int.toNat (gtY l i.toNat).2.1)))),(48,.win true uB 48 0 (1:Nat)),(49,.win true uB 49 0 (o.length+(([(IntKind.u8.wrap ((gtY l i.toNat).2.2+gtB b (Int.toNat (gtY l i.toNat).2.1)))]:List uB.D)).length))],blk:=[(48,.row 5 uB ([(IntKind.u8.wrap ((gtY l i.toNat).2.2+gtB b (Int.toNat (gtY l i.toNat).2.1)))]:List uB.D)),(49,.row 5 uB (o++([(IntKind.u8.wrap ((gtY l i.toNat).2.2+gtB b (Int.toNat (gtY l i.toNat).2.1)))]:List uB.D)))] })) (0+(1:Nat)≤((List.replicate (1:Nat) uB.dflt).set (0:Nat) (gtY l i.toNat).2.2).length ∧
 o.length=o.length ∧
 (0:Nat)=(0:Nat) ∧
 o.length+(winL uB (0:Nat) (1:Nat) ((List.replicate (1:Nat) uB.dflt).set (0:Nat) (gtY l i.toNat).2.2)).length<(2:Nat) ^ (30:Nat) ∧
 (1:Nat)≤(2:Nat) ^ (10:Nat) ∧
 R (hd Tryz.f69 0) { env:=[(0,.sl uB b),(1,.sl syS l),(6,.win true uB 49 0 (o.length+(winL uB (0:Nat) (1:Nat) ((List.replicate (1:Nat) uB.dflt).set (0:Nat) (gtY l i.toNat).2.2)).length)),(7,.int .i64 (IntKind.i64.wrap (i+(1:Int)))),(8,.int .u8 (gtY l i.toNat).2.2),(10,.int .i64 i),(11,.sl syS l),(12,.int .i64 (l.length:Int)),(13,.bool (decide (i<(l.length:Int)))),(14,.int .i64 i),(15,.int .i64 (IntKind.i64.wrap (i+(1:Int)))),(16,.sl syS l),(17,.int .i64 i),(18,.elv syS (gtY l i.toNat)),(19,.elv uB (gtY l i.toNat).2.2),(20,.int .u8 (gtY l i.toNat).2.2),(21,.sl syS l),(22,.int .i64 i),(23,.elv syS (gtY l i.toNat)),(24,.elv Sh.bool (gtY l i.toNat).1),(25,.bool (gtY l i.toNat).1),(46,.dead),(47,.int .u8 (gtY l i.toNat).2.2),(48,.win true uB 48 0 (1:Nat)),(49,.win true uB 49 0 (o.length+(winL uB (0:Nat) (1:Nat) ((List.replicate (1:Nat) uB.dflt).set (0:Nat) (gtY l i.toNat).2.2)).length))],blk:=[(48,.row 5 uB ((List.replicate (1:Nat) uB.dflt).set (0:Nat) (gtY l i.toNat).2.2)),(49,.row 5 uB (o++winL uB (0:Nat) (1:Nat) ((List.replicate (1:Nat) uB.dflt).set (0:Nat) (gtY l i.toNat).2.2)))] })) (Q [.win true uB 77 0 o.length,.int .i64 0] [(77,.row 5 uB o)])):=by kernel_rfl
end Go.Proofs.YtncocpjkaggnjaaGreatDoor
namespace Go.Proofs.YtncocpjkaggnjaaGreatDoor
open Go.Px Go.Ax
set_option maxRecDepth 100000
attribute [local irreducible] Go.Px.sy Go.Px.syE
theorem cxIn1:CxOK Tryz.prog tt G0 [(42,.inl ctIn)]:=cx0.cons in_held (fn:=Tryz.f42) rfl rfl rfl
theorem rru_loop (old:List Int) (hold:old.length<1099511627776) (l:List SyT) (hl:l.length<16777216):∀ (k i:Nat) (o:List Int),l.length-i=k→i≤l.length→o.length=i→o=(l.take i).map (ruB old)→(∀ j (h:j<i) (h2:j<l.length),ruOK old l[j]=true) →
  GD 69 Tryz.f69 (RQ old l) (hd Tryz.f69 0) ⟨[(0,.sl uB old),(1,.sl syS l),(6,.win true uB 77 0 o.length),(7,.int .i64 (i:Nat))],[(77,.row 5 uB o)]⟩:=by
 intro k
 induction k with
 | zero=>
  intro i o hk hi ho he hr
  refine sy_go cxIn1 (vc_rruL old l o i _ _) ?_
  rw[decide_eq_false (show ¬ (i:Int)<(l.length:Int) by omega),bc_f]
  have hall:l.all (ruOK old)=true:=List.all_eq_true.2 fun x hx=>by
   obtain ⟨j,hj,rfl⟩:=List.mem_iff_getElem.1 hx
   exact hr j (by omega) hj
  have hv:runV old l=(o,0):=by
   unfold runV
   rw[if_pos hall,he,List.take_of_length_le (by omega)]
  refine qc_rowI (e:=uB) (et:=5) (a:=77) (z:=0) (xs:=o) ?_ ?_ rfl rfl rfl
  ·show [_,_]=_;rw[hv]
  ·show [_]=_;rw[hv]
 | succ k ih=>
  intro i o hk hi ho he hr
  have hx:i<l.length:=by omega
  have w1:IntKind.i64.wrap ((i:Int)+1)=((i+1:Nat):Int):=by rw[IntWalk.i64_in _ (by omega)];omega
  have wb:IntKind.i64.wrap ((old.length:Int)-1)=(old.length:Int)-1:=IntWalk.i64_in _ (by omega)
  refine sy_go cxIn1 (vc_rruL old l o i _ _) ?_
  rw[decide_eq_true (show (i:Int)<(l.length:Int) by omega),bc_t,Int.toNat_natCast,w1,wb]
  have nx:∀ v,v=ruB old l[i]→ruOK old l[i]=true→GD 69 Tryz.f69 (RQ old l) (hd Tryz.f69 0) ⟨[(0,.sl uB old),(1,.sl syS l),(6,.win true uB 77 0 (o++[v]).length),(7,.int .i64 ((i+1:Nat):Int))],[(77,.row 5 uB (o++[v]))]⟩:=fun v hv hok=>
   ih (i+1) (o++[v]) (by omega) (by omega) (by simp;omega) (by rw[List.take_succ_eq_append_getElem hx,List.map_append,← he,hv];rfl) fun j h h2=>by
    by_cases e:j=i
    ·subst e;exact hok
    ·exact hr j (by omega) h2
  rw[gtY_at hx]
  refine ⟨by omega,by omega,by omega,by omega,bc_of (fun h1=>⟨by omega,by omega,trivial,bc_of (fun h2=>?_) (fun h2=>?_)⟩) (fun h1=>⟨by simp,rfl,rfl,by simp[winL];omega,by omega,?_⟩)⟩
  ·have hb:ruOK old l[i]=false:=by
    have h2:l[i].2.1<0∨(old.length:Int)-1<l[i].2.1:=by simpa using h2
    cases q:ruOK old l[i] with
    | false=>rfl
    | true=>
     unfold ruOK at q
     rw[h1] at q
     simp at q;omega
   exact run_end (run_bad hx hb)
  ·have h2:0≤l[i].2.1∧l[i].2.1≤(old.length:Int)-1:=by simpa using h2
   have hok:ruOK old l[i]=true:=by unfold ruOK;rw[h1];simp;omega
   refine ⟨by omega,by omega,by omega,by omega,by simp,rfl,rfl,by simp;omega,by omega,?_⟩
   have nx:=nx (IntKind.u8.wrap (l[i].2.2+gtB old l[i].2.1.toNat)) (by rw[ruB,if_pos h1]) hok
   refine nx.onlyR [(77,49)] rfl ⟨rfl,rfl,?_,rfl,trivial⟩ ⟨rfl,trivial⟩
   show some (SV.win true uB 49 0 (o.length+1))=some (SV.win true uB 49 0 (o++[_]).length)
   rw[List.length_append];rfl
  ·have hok:ruOK old l[i]=true:=by unfold ruOK;rw[h1];rfl
   have nx:=nx l[i].2.2 (by rw[ruB,if_neg (by rw[h1];decide)]) hok
   refine nx.onlyR [(77,49)] rfl ⟨rfl,rfl,?_,rfl,trivial⟩ ⟨rfl,trivial⟩
   show some (SV.win true uB 49 0 (o.length+1))=some (SV.win true uB 49 0 (o++[_]).length)
   rw[List.length_append];rfl
theorem rru_held:Held Tryz.prog G0 69 ctRunR:=by
 refine Held.of cxIn1 (fn:=Tryz.f69) rfl rfl ⟨by decide,by decide⟩ ?_
 rintro ⟨old,l,⟨⟩⟩ hp
 obtain ⟨h1,h2⟩:=hp
 refine sy_go cxIn1 (vc_rru old l _ _) ?_
 exact (rru_loop old h1 l h2 l.length 0 [] rfl (Nat.zero_le _) rfl rfl (fun j h=>by omega)).onlyR [(77,9)] rfl ⟨rfl,rfl,rfl,rfl,trivial⟩ ⟨rfl,trivial⟩
theorem cxRap:CxOK Tryz.prog tt G0 [(69,.inl ctRunR),(33,.inl ctSym)]:=(cx0.cons rs_held (fn:=Tryz.f33) rfl rfl rfl).cons rru_held (fn:=Tryz.f69) rfl rfl rfl
theorem rap_run (old:List Int) (m o:Int) (l:List OpT) (R:List Item→PS→Prop):sy tt G0 [(69,.inl ctRunR),(33,.inl ctSym)] Tryz.f34.ntmps Tryz.f34.results.toList (QC ctAp (old,(false,m,o,l),())) R 1000 [.code (bodyOf Tryz.f34)] (entry [.sl uB,paS] (old,(false,m,o,l),())):=by
 refine (vc_rap old m o l _ _).mpr ⟨trivial,bc_of (fun h=>?_) (fun h=>?_)⟩
 ·have h:(symV (false,m,o,l)).2≠0:=of_decide_eq_true h
  have hv:apV old (false,m,o,l)=([],(symV (false,m,o,l)).2):=if_neg h
  refine qc_nilI (e:=uB) (et:=5) (z:=(symV (false,m,o,l)).2) ?_ ?_ rfl (by decide)
  ·show [_,_]=_;rw[hv];rfl
  ·show [_]=_;rw[hv]
 ·have h:¬ (symV (false,m,o,l)).2≠0:=of_decide_eq_false h
  have h:(symV (false,m,o,l)).2=0:=by simpa using h
  have hv:apV old (false,m,o,l)=plV old m (symV (false,m,o,l)).1:=if_pos h
  obtain ⟨r1,r2,r3⟩:=symV_right h
  have hs:=symV_le (false,m,o,l)
  refine bc_of (fun h2=>?_) (fun h2=>?_)
  ·have h2:(old.length:Int)≠m:=of_decide_eq_true h2
   have hv2:apV old (false,m,o,l)=([],61):=by rw[hv];exact if_neg h2
   refine qc_nilI (e:=uB) (et:=5) (z:=61) ?_ ?_ rfl (by decide)
   ·show [_,_]=_;rw[hv2];rfl
   ·show [_]=_;rw[hv2]
  ·have h2:(old.length:Int)=m:=by
    have h2:¬ (old.length:Int)≠m:=of_decide_eq_false h2
    omega
   have r2:0≤m∧m≤65536:=r2
   have hv2:apV old (false,m,o,l)=runV old (symV (false,m,o,l)).1:=by rw[hv];exact if_pos h2
   have hr:runV old (symV (false,m,o,l)).1=((symV (false,m,o,l)).1.map (ruB old),0):=runV_ok (by rw[h2];exact r1)
   have q1:List.length (α:=Int) old<1099511627776:=by
    have h2:((List.length (α:=Int) old:Nat):Int)=m:=h2
    omega
   have q2:List.length (symV (false,m,o,l)).1<16777216:=by omega
   rw[winA]
   refine ⟨by omega,⟨q1,q2⟩,?_⟩
   refine qc_rowI (e:=uB) (et:=5) (a:=1176128) (z:=0) (xs:=(runV old (symV (false,m,o,l)).1).1) ?_ ?_ rfl rfl rfl
   ·show [_,_]=_;rw[hv2,hr]
   ·show [_]=_;rw[hv2]
theorem rap_held:Held Tryz.prog G0 34 ctAp:=by
 refine Held.run cxRap (fn:=Tryz.f34) rfl rfl ⟨by decide,by decide⟩ ?_
 rintro ⟨old,⟨li,m,o,l⟩,⟨⟩⟩ hp
 replace hp:li=false:=hp
 subst hp
 exact rap_run old m o l _
end Go.Proofs.YtncocpjkaggnjaaGreatDoor
namespace Go.Proofs.YtncocpjkaggnjaaGreatDoor
open Go.Px Go.Ax
set_option maxRecDepth 100000
def CTw:CV:=(34,.inl ctAp)::CBk
set_option maxRecDepth 100000
def mem_tw_m0 (n:Int) (l:List (List Int)) (b:List Int):List (Nat × LB):=[(2,.var [.int .u8 n,.sl (Sh.arr (4:Nat) uB) l]),(6,.var [.bool (szM n l).1,.int .i64 (szM n l).2.1,.int .i64 (szM n l).2.2.1,.sl opS (szM n l).2.2.2]),(10,.var [.bool (ivV (inpL b (szM n l).2.1.toNat) (szM n l)).1.1,.int .i64 (ivV (inpL b (szM n l).2.1.toNat) (szM n l)).1.2.1,.int .i64 (ivV (inpL b (szM n l).2.1.toNat) (szM n l)).1.2.2.1,.sl opS (ivV (inpL b (szM n l).2.1.toNat) (szM n l)).1.2.2.2]),(12,.var [.bool (ivV (winL uB 0 (apV (inpL b (szM n l).2.1.toNat) (szM n l)).1.length (apV (inpL b (szM n l).2.1.toNat) (szM n l)).1) ((ivV (inpL b (szM n l).2.1.toNat) (szM n l)).1)).1.1,.int .i64 (ivV (winL uB 0 (apV (inpL b (szM n l).2.1.toNat) (szM n l)).1.length (apV (inpL b (szM n l).2.1.toNat) (szM n l)).1) ((ivV (inpL b (szM n l).2.1.toNat) (szM n l)).1)).1.2.1,.int .i64 (ivV (winL uB 0 (apV (inpL b (szM n l).2.1.toNat) (szM n l)).1.length (apV (inpL b (szM n l).2.1.toNat) (szM n l)).1) ((ivV (inpL b (szM n l).2.1.toNat) (szM n l)).1)).1.2.2.1,.sl opS (ivV (winL uB 0 (apV (inpL b (szM n l).2.1.toNat) (szM n l)).1.length (apV (inpL b (szM n l).2.1.toNat) (szM n l)).1) ((ivV (inpL b (szM n l).2.1.toNat) (szM n l)).1)).1.2.2.2]),(1290816,.row 5 uB (apW (inpL b (szM n l).2.1.toNat) ((ivV (winL uB 0 (apV (inpL b (szM n l).2.1.toNat) (szM n l)).1.length (apV (inpL b (szM n l).2.1.toNat) (szM n l)).1) ((ivV (inpL b (szM n l).2.1.toNat) (szM n l)).1)).1)).1)]
def mem_tw_m1 (n:Int) (l:List (List Int)) (b:List Int):List (Nat × LB):=[(2,.var [.int .u8 n,.sl (Sh.arr (4:Nat) uB) l]),(6,.var [.bool (szM n l).1,.int .i64 (szM n l).2.1,.int .i64 (szM n l).2.2.1,.sl opS (szM n l).2.2.2]),(10,.var [.bool (ivV (inpL b (szM n l).2.1.toNat) (szM n l)).1.1,.int .i64 (ivV (inpL b (szM n l).2.1.toNat) (szM n l)).1.2.1,.int .i64 (ivV (inpL b (szM n l).2.1.toNat) (szM n l)).1.2.2.1,.sl opS (ivV (inpL b (szM n l).2.1.toNat) (szM n l)).1.2.2.2]),(12,.var [.bool (ivV (winL uB 0 (apV (inpL b (szM n l).2.1.toNat) (szM n l)).1.length (apV (inpL b (szM n l).2.1.toNat) (szM n l)).1) ((ivV (inpL b (szM n l).2.1.toNat) (szM n l)).1)).1.1,.int .i64 (ivV (winL uB 0 (apV (inpL b (szM n l).2.1.toNat) (szM n l)).1.length (apV (inpL b (szM n l).2.1.toNat) (szM n l)).1) ((ivV (inpL b (szM n l).2.1.toNat) (szM n l)).1)).1.2.1,.int .i64 (ivV (winL uB 0 (apV (inpL b (szM n l).2.1.toNat) (szM n l)).1.length (apV (inpL b (szM n l).2.1.toNat) (szM n l)).1) ((ivV (inpL b (szM n l).2.1.toNat) (szM n l)).1)).1.2.2.1,.sl opS (ivV (winL uB 0 (apV (inpL b (szM n l).2.1.toNat) (szM n l)).1.length (apV (inpL b (szM n l).2.1.toNat) (szM n l)).1) ((ivV (inpL b (szM n l).2.1.toNat) (szM n l)).1)).1.2.2.2])]
def mem_tw_m2 (n:Int) (l:List (List Int)) (b:List Int):List (Nat × LB):=[(2,.var [.int .u8 n,.sl (Sh.arr (4:Nat) uB) l]),(6,.var [.bool (szM n l).1,.int .i64 (szM n l).2.1,.int .i64 (szM n l).2.2.1,.sl opS (szM n l).2.2.2]),(10,.var [.bool (ivV (inpL b (szM n l).2.1.toNat) (szM n l)).1.1,.int .i64 (ivV (inpL b (szM n l).2.1.toNat) (szM n l)).1.2.1,.int .i64 (ivV (inpL b (szM n l).2.1.toNat) (szM n l)).1.2.2.1,.sl opS (ivV (inpL b (szM n l).2.1.toNat) (szM n l)).1.2.2.2]),(1106496,.row 5 uB (apV (inpL b (szM n l).2.1.toNat) (szM n l)).1)]
theorem vc_tw (n:Int) (l:List (List Int)) (b:List Int) (Q:QT) (R:RT):sy tt G0 CTw Tryz.f9.ntmps Tryz.f9.results.toList Q R 1000 [.code (bodyOf Tryz.f9)] (entry [raS,.sl uB] ((n,l),b,())) =
  (ctSnI.pre () ∧
 ctTwo.pre ((n,l),b,()) ∧
 ctAp.pre (inpL b (szM n l).2.1.toNat,(szM n l),()) ∧
 ctIv.pre (inpL b (szM n l).2.1.toNat,(szM n l),()) ∧
 bc (decide ((apV (inpL b (szM n l).2.1.toNat) (szM n l)).2≠(0:Int))) (true=true ∧
 Q [.bool false] (mem_tw_m2 n l b)) (bc (bif false then true else decide ((ivV (inpL b (szM n l).2.1.toNat) (szM n l)).2≠(0:Int))) (Q [.bool false] (mem_tw_m2 n l b)) (0+(apV (inpL b (szM n l).2.1.toNat) (szM n l)).1.length≤(apV (inpL b (szM n l).2.1.toNat) (szM n l)).1.length ∧
 0+(apV (inpL b (szM n l).2.1.toNat) (szM n l)).1.length≤(apV (inpL b (szM n l).2.1.toNat) (szM n l)).1.length ∧
 0+(apV (inpL b (szM n l).2.1.toNat) (szM n l)).1.length≤(apV (inpL b (szM n l).2.1.toNat) (szM n l)).1.length ∧
 0+(apV (inpL b (szM n l).2.1.toNat) (szM n l)).1.length≤(apV (inpL b (szM n l).2.1.toNat) (szM n l)).1.length ∧
 0+(apV (inpL b (szM n l).2.1.toNat) (szM n l)).1.length≤(apV (inpL b (szM n l).2.1.toNat) (szM n l)).1.length ∧
 ctIv.pre (winL uB 0 (apV (inpL b (szM n l).2.1.toNat) (szM n l)).1.length (apV (inpL b (szM n l).2.1.toNat) (szM n l)).1,((ivV (inpL b (szM n l).2.1.toNat) (szM n l)).1),()) ∧
 bc (decide ((ivV (winL uB 0 (apV (inpL b (szM n l).2.1.toNat) (szM n l)).1.length (apV (inpL b (szM n l).2.1.toNat) (szM n l)).1) ((ivV (inpL b (szM n l).2.1.toNat) (szM n l)).1)).2≠(0:Int))) (true=true ∧
 true=true ∧
 true=true ∧
 Q [.bool false] (mem_tw_m1 n l b)) (ctRi.pre (((ivV (winL uB 0 (apV (inpL b (szM n l).2.1.toNat) (szM n l)).1.length (apV (inpL b (szM n l).2.1.toNat) (szM n l)).1) ((ivV (inpL b (szM n l).2.1.toNat) (szM n l)).1)).1),()) ∧
 bc (bif false then true else !decide ((chkV ((ivV (winL uB 0 (apV (inpL b (szM n l).2.1.toNat) (szM n l)).1.length (apV (inpL b (szM n l).2.1.toNat) (szM n l)).1) ((ivV (inpL b (szM n l).2.1.toNat) (szM n l)).1)).1)).2=(0:Int))) (true=true ∧
 true=true ∧
 Q [.bool false] (mem_tw_m1 n l b)) (bc (bif false then true else decide ((ivV (winL uB 0 (apV (inpL b (szM n l).2.1.toNat) (szM n l)).1.length (apV (inpL b (szM n l).2.1.toNat) (szM n l)).1) ((ivV (inpL b (szM n l).2.1.toNat) (szM n l)).1)).1.2.1≠(szM n l).2.1)) (true=true ∧
 Q [.bool false] (mem_tw_m1 n l b)) (bc (bif false then true else decide ((ivV (winL uB 0 (apV (inpL b (szM n l).2.1.toNat) (szM n l)).1.length (apV (inpL b (szM n l).2.1.toNat) (szM n l)).1) ((ivV (inpL b (szM n l).2.1.toNat) (szM n l)).1)).1.2.2.1≠(szM n l).2.2.1)) (Q [.bool false] (mem_tw_m1 n l b)) (ctApW.pre (inpL b (szM n l).2.1.toNat,((ivV (winL uB 0 (apV (inpL b (szM n l).2.1.toNat) (szM n l)).1.length (apV (inpL b (szM n l).2.1.toNat) (szM n l)).1) ((ivV (inpL b (szM n l).2.1.toNat) (szM n l)).1)).1),()) ∧
 bc (decide ((apW (inpL b (szM n l).2.1.toNat) ((ivV (winL uB 0 (apV (inpL b (szM n l).2.1.toNat) (szM n l)).1.length (apV (inpL b (szM n l).2.1.toNat) (szM n l)).1) ((ivV (inpL b (szM n l).2.1.toNat) (szM n l)).1)).1)).2=(0:Int))) (0+(apW (inpL b (szM n l).2.1.toNat) ((ivV (winL uB 0 (apV (inpL b (szM n l).2.1.toNat) (szM n l)).1.length (apV (inpL b (szM n l).2.1.toNat) (szM n l)).1) ((ivV (inpL b (szM n l).2.1.toNat) (szM n l)).1)).1)).1.length≤(apW (inpL b (szM n l).2.1.toNat) ((ivV (winL uB 0 (apV (inpL b (szM n l).2.1.toNat) (szM n l)).1.length (apV (inpL b (szM n l).2.1.toNat) (szM n l)).1) ((ivV (inpL b (szM n l).2.1.toNat) (szM n l)).1)).1)).1.length ∧
 Q [.bool (decide (List.map toB (winL uB 0 (apW (inpL b (szM n l).2.1.toNat) ((ivV (winL uB 0 (apV (inpL b (szM n l).2.1.toNat) (szM n l)).1.length (apV (inpL b (szM n l).2.1.toNat) (szM n l)).1) ((ivV (inpL b (szM n l).2.1.toNat) (szM n l)).1)).1)).1.length (apW (inpL b (szM n l).2.1.toNat) ((ivV (winL uB 0 (apV (inpL b (szM n l).2.1.toNat) (szM n l)).1.length (apV (inpL b (szM n l).2.1.toNat) (szM n l)).1) ((ivV (inpL b (szM n l).2.1.toNat) (szM n l)).1)).1)).1)=List.map toB (winL uB 0 (apV (inpL b (szM n l).2.1.toNat) (szM n l)).1.length (apV (inpL b (szM n l).2.1.toNat) (szM n l)).1)))] (mem_tw_m0 n l b)) (false=false ∧
 Q [.bool false] (mem_tw_m0 n l b))))))))):=by kernel_rfl
end Go.Proofs.YtncocpjkaggnjaaGreatDoor
namespace Go.Proofs.YtncocpjkaggnjaaGreatDoor
open Go.Px Go.Ax
set_option maxRecDepth 100000
attribute [local irreducible] Go.Px.sy Go.Px.syE
theorem ruB_bd {old:List Int} {s:SyT} (h:0≤s.2.2∧s.2.2<256):0≤ruB old s∧ruB old s<256:=by
 unfold ruB
 split
 ·exact u8w_bd _
 ·exact h
theorem new_u8 {old:List Int} {S:List SyT} (h:byL S):∀ (i:Nat) (hi:i<(S.map (ruB old)).length),0≤(S.map (ruB old))[i]∧(S.map (ruB old))[i]<256:=fun i hi=>by
 rw[List.getElem_map]
 exact ruB_bd (h _ (List.getElem_mem _))
theorem cxTw:CxOK Tryz.prog tt G0 CTw:=cxBk.cons rap_held (fn:=Tryz.f34) rfl rfl rfl
def ctTw:Ctr:=⟨[raS,.sl uB],fun x=>preBk x.1.1 x.1.2 x.2.1,fun _=>[.bool true],fun _=>[]⟩
theorem tw_run (n:Int) (l:List (List Int)) (b:List Int) (hp:preBk n l b) (R:List Item→PS→Prop):sy tt G0 CTw Tryz.f9.ntmps Tryz.f9.results.toList (QC ctTw ((n,l),b,())) R 1000 [.code (bodyOf Tryz.f9)] (entry [raS,.sl uB] ((n,l),b,())):=by
 obtain ⟨hp,hb⟩:=hp
 obtain ⟨hc,hli,hl,hs⟩:=szM_ok hp b
 have hu:=inp_u8 hb (szM n l).2.1.toNat
 have hi:=szM_in hp
 obtain ⟨_,ho,_,hby⟩:=szV_ok (m:=n % 13) hp.2.1 hi.1 (by have h2:n % 13<13:=hi.2;omega)
 have ho:(szM n l).2.2.1≤30:=ho
 have hby:byL (symF (szM n l).2.2.2):=hby
 refine (vc_tw n l b _ _).mpr ?_
 generalize inpL b (szM n l).2.1.toNat=old at *
 generalize szM n l=p at *
 have e1:apV old p=_:=(show apV old p=apW old p by rw[apW,if_neg (by rw[hli];decide)]).trans (apW_val hc hli hl)
 have e2:=ivV_val hc hli hl hs
 obtain ⟨n1,n2⟩:=iv_nf (old:=old) hc hs
 obtain ⟨r1,r2,r3⟩:=sy_right hc
 generalize hS:symF p.2.2.2=S at *
 generalize hnew:S.map (ruB old)=new at *
 have hnl:(new.length:Int)=p.2.2.1:=by rw[← hnew,List.length_map];exact r3
 have e3:=ivV_val (old:=new) (q:=nfP false p.2.2.1 (inS old S)) n1 rfl hnl (by omega)
 obtain ⟨m1,m2⟩:=iv_nf (old:=new) (q:=nfP false p.2.2.1 (inS old S)) n1 (by omega)
 rw[n2] at e3 m1 m2
 have h1:((inS old S).length:Int)=p.2.1:=by rw[inS_len,hl]
 have e4:apW old (nfP false (nfP false p.2.2.1 (inS old S)).2.2.1 (inS new (inS old S)))=(new,0):=by
  rw[apW_val m1 rfl (by show (old.length:Int)=((inS old S).length:Int);rw[inS_len]),m2]
  have k1:(inS old S).map (ruB new)=old:=by rw[← hnew];exact inS_back hu S
  have k2:=inS_back (old:=new) (by rw[← hnew];exact new_u8 hby) (inS old S)
  rw[k1] at k2
  rw[k2]
 rw[e1,e2]
 simp only
 rw[winA,e3]
 simp only
 rw[e4]
 simp only
 rw[winA,m1]
 have no:∀ {c:Bool} {A B:Prop},c=false→B→bc c A B:=fun h k=>by rw[h];exact k
 refine ⟨trivial,hp,hli,.inl hli,no (by simp) (no (by simp) ⟨by omega,by omega,by omega,by omega,by omega,.inl rfl,no (by simp) ⟨trivial,no (by simp) (no (by simp[inS_len,hl]) (no (by simp[inS_len,hnl]) ⟨.inl rfl,bc_of (fun _=>⟨by omega,?_⟩) (fun h=>by simp at h)⟩))⟩⟩)⟩
 exact QC.flat (by show [SV.bool true]=_;rw[decide_eq_true rfl]) rfl rfl
theorem tw_held:Held Tryz.prog G0 9 ctTw:=Held.run cxTw (fn:=Tryz.f9) rfl rfl ⟨by decide,by decide⟩ fun ⟨⟨n,l⟩,b,_⟩ hp=>tw_run n l b hp _
end Go.Proofs.YtncocpjkaggnjaaGreatDoor
