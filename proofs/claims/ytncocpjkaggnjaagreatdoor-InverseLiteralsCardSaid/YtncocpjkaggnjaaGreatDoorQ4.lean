/-
  A part of the proof: what pieces of the program give; conditions: those of each theorem.
-/
import Derived.Test.YtncocpjkaggnjaaGreatDoorQ3
import Derived.KernelRfl
import Derived.Test.YtncocpjkaggnjaaGreatDoorQ2
import Derived.Test.YtncocpjkaggnjaaGreatDoorHD
set_option linter.unusedVariables false
set_option linter.unusedSimpArgs false
namespace Go.Proofs.YtncocpjkaggnjaaGreatDoor
open Go.Px Go.Ax
set_option maxRecDepth 100000
theorem gMs_uMs:∀ (o:MpS) (k k':Int) (v:SyT),gMs (uMs o k v) k'=if k'=k then some v else gMs o k'
 | [],k,k',v=>by
  show (match decide (k'=k) with | true=>some v | false=>none)=_
  by_cases h:k'=k
  ·rw[decide_eq_true h,if_pos h]
  ·rw[decide_eq_false h,if_neg h];rfl
 | p::o,k,k',v=>by
  have ih:=gMs_uMs o k k' v
  show gMs (match decide (k=p.1) with | true=>(k,v)::o | false=>p::uMs o k v) k'=_
  by_cases h:k=p.1
  ·rw[decide_eq_true h]
   show (match decide (k'=k) with | true=>some v | false=>gMs o k')=_
   by_cases h2:k'=k
   ·rw[decide_eq_true h2,if_pos h2]
   ·rw[decide_eq_false h2,if_neg h2]
    show gMs o k'=(match decide (k'=p.1) with | true=>some p.2 | false=>gMs o k')
    rw[decide_eq_false (by rw[← h];exact h2)]
  ·rw[decide_eq_false h]
   show (match decide (k'=p.1) with | true=>some p.2 | false=>gMs (uMs o k v) k')=(if k'=k then some v else (match decide (k'=p.1) with | true=>some p.2 | false=>gMs o k'))
   rw[ih]
   by_cases h2:k'=p.1
   ·have hkk:¬ k'=k:=fun e=>h (e.symm.trans h2)
    rw[decide_eq_true h2]
    show some p.2=if k'=k then some v else some p.2
    rw[if_neg hkk]
   ·rw[decide_eq_false h2]
def fsJ (i:Int):Nat→List SyT→Option SyT
 | _,[]=>none
 | j,s::l=>if s.1=true∧s.2.1=i then some (true,(j:Int),ng s.2.2) else fsJ i (j+1) l
theorem gMs_kpF (i:Int):∀ (l:List SyT) (j:Nat) (o:MpS),gMs (kpF j l o) i=match gMs o i with
  | some v=>some v
  | none=>fsJ i j l
 | [],j,o=>by rw[kpF,fsJ];cases gMs o i <;> rfl
 | s::l,j,o=>by
  rw[kpF,gMs_kpF i l (j+1),fsJ]
  by_cases h:s.1=true∧(gMs o s.2.1).isSome=false
  ·rw[show kpS j s o=uMs o s.2.1 (true,(j:Int),ng s.2.2) from if_pos h,gMs_uMs]
   by_cases e:i=s.2.1
   ·have hn:gMs o i=none:=by rw[e];simpa using h.2
    rw[if_pos e,hn,if_pos ⟨h.1,e.symm⟩]
   ·rw[if_neg e]
    cases gMs o i with
    | some v=>rfl
    | none=>simp only;rw[if_neg fun q=>e q.2.symm]
  ·rw[show kpS j s o=o from if_neg h]
   cases hg:gMs o i with
   | some v=>rfl
   | none=>
    simp only
    rw[if_neg]
    rintro ⟨h1,h2⟩
    exact h ⟨h1,by rw[h2,hg];rfl⟩
theorem kp_is (l:List SyT) (i:Int):gMs (kpF 0 l []) i=fsJ i 0 l:=by rw[gMs_kpF];rfl
theorem fsJ_some {i:Int}:∀ {l:List SyT} {j0:Nat} {v:SyT},fsJ i j0 l=some v→∃ (j:Nat) (h:j<l.length),v=(true,((j0+j:Nat):Int),ng l[j].2.2)∧l[j].1=true∧l[j].2.1=i∧∀ (k:Nat) (hk:k<l.length),k<j→¬ (l[k].1=true∧l[k].2.1=i)
 | [],_,_,h=>by cases h
 | s::l,j0,v,h=>by
  rw[fsJ] at h
  split at h
  ·rename_i hs
   cases h
   exact ⟨0,by simp,rfl,hs.1,hs.2,fun k _ hk=>by omega⟩
  ·rename_i hs
   obtain ⟨j,hj,e1,e2,e3,e4⟩:=fsJ_some h
   refine ⟨j+1,by simpa using hj,by rw[e1];simp;omega,by simpa using e2,by simpa using e3,fun k hk hkj=>?_⟩
   cases k with
   | zero=>exact hs
   | succ k=>exact e4 k (by simpa using hk) (by omega)
theorem fsJ_none {i:Int}:∀ {l:List SyT} {j0:Nat},fsJ i j0 l=none→∀ (k:Nat) (hk:k<l.length),¬ (l[k].1=true∧l[k].2.1=i)
 | [],_,_,k,hk=>by simp at hk
 | s::l,j0,h,k,hk=>by
  rw[fsJ] at h
  split at h
  ·cases h
  ·rename_i hs
   cases k with
   | zero=>exact hs
   | succ k=>exact fsJ_none h k (by simpa using hk)
theorem isF_at (M:MpS):∀ (b:List Int) (i k:Nat) (h:k<b.length),(isF M i b)[k]?=some ((gMs M ((i+k:Nat):Int)).getD (false,0,b[k]))
 | [],_,_,h=>by simp at h
 | x::b,i,k,h=>by
  rw[isF]
  cases k with
  | zero=>rfl
  | succ k=>
   rw[List.getElem?_cons_succ,isF_at M b (i+1) k (by simpa using h)]
   rw[show i+1+k=i+(k+1) by omega]
   rfl
def inS (old:List Int) (l:List SyT):List SyT:=isF (kpF 0 l []) 0 old
theorem inS_len (old:List Int) (l:List SyT):(inS old l).length=old.length:=isF_len _ _ _
theorem inS_at {old:List Int} {l:List SyT} {i:Nat} (h:i<old.length) (h2:i<(inS old l).length):(inS old l)[i]=(fsJ (i:Int) 0 l).getD (false,0,old[i]):=by
 have:=isF_at (kpF 0 l []) old 0 i h
 rw[Nat.zero_add,kp_is] at this
 have e:(inS old l)[i]?=some ((inS old l)[i]):=List.getElem?_eq_getElem h2
 exact Option.some.inj (e.symm.trans this)
theorem inS_right (old:List Int) (l:List SyT):∀ x∈inS old l,sOK l.length x=true:=fun x hx=>by
 obtain ⟨i,hi,rfl⟩:=List.mem_iff_getElem.1 hx
 have ho:i<old.length:=by rw[inS_len] at hi;exact hi
 rw[inS_at ho hi]
 cases h:fsJ (i:Int) 0 l with
 | none=>rfl
 | some v=>
  obtain ⟨j,hj,rfl,_⟩:=fsJ_some h
  simp only[Option.getD_some,sOK,if_true,Bool.and_eq_true,decide_eq_true_eq]
  omega
theorem apW_val {old:List Int} {q:PaT} (hq:(chkV q).2=0) (hli:q.1=false) (hl:(old.length:Int)=q.2.1):apW old q=((symF q.2.2.2).map (ruB old),0):=by
 obtain ⟨r1,r2,r3⟩:=sy_right hq
 rw[apW,if_neg (by rw[hli];decide)]
 unfold apV plV
 rw[sy_ok hq]
 rw[if_pos rfl,if_pos hl]
 exact runV_ok (by rw[hl];exact r1)
theorem ivV_val {old:List Int} {q:PaT} (hq:(chkV q).2=0) (hli:q.1=false) (hl:(old.length:Int)=q.2.1) (hs:old.length≤4096):ivV old q=(nfP false q.2.2.1 (inS old (symF q.2.2.2)),0):=by
 obtain ⟨r1,r2,r3⟩:=sy_right hq
 have ho:=(chkV_ok hq).2.2.1
 have hS:ivS old q=inS old (symF q.2.2.2):=by rw[ivS,sy_ok hq];rfl
 have hc:=cpV_ok (s:=inS old (symF q.2.2.2)) (m:=q.2.2.1) (fun x hx=>by rw[← r3];exact inS_right _ _ x hx) ho.1 ho.2 (by rw[inS_len];exact hs)
 unfold ivV
 rw[apW_val hq hli hl,hS,hc,if_neg (by simp),if_neg (by simp),hli]
theorem iv_nf {old:List Int} {q:PaT} (hq:(chkV q).2=0) (hs:old.length≤4096) :
  (chkV (nfP false q.2.2.1 (inS old (symF q.2.2.2)))).2=0∧symF (nfP false q.2.2.1 (inS old (symF q.2.2.2))).2.2.2=inS old (symF q.2.2.2):=by
 obtain ⟨r1,r2,r3⟩:=sy_right hq
 have ho:=(chkV_ok hq).2.2.1
 obtain ⟨n1,n2,_⟩:=nf_ok (s:=inS old (symF q.2.2.2)) (m:=q.2.2.1) false (fun x hx=>by rw[← r3];exact inS_right _ _ x hx) ho.1 ho.2 (by rw[inS_len];exact hs)
 exact ⟨n1,n2⟩
end Go.Proofs.YtncocpjkaggnjaaGreatDoor
namespace Go.Proofs.YtncocpjkaggnjaaGreatDoor
open Go.Px Go.Ax
set_option maxRecDepth 100000
attribute [local irreducible] Go.Px.sy Go.Px.syE
theorem snI_run (R:List Item→PS→Prop):sy tt G0 CSn Tryz.f21.ntmps Tryz.f21.results.toList (QC ctSnI ()) R 1000 [.code (bodyOf Tryz.f21)] (entry [] ()):=by
 refine (vc_snI _ _).mpr ?_
 repeat' first
  | exact trivial
  | exact Or.inl rfl
  | exact Or.inr ⟨by decide +kernel,by decide +kernel⟩
  | (show List.length _<1099511627776;decide +kernel)
  | decide +kernel
  | refine And.intro ?_ ?_
  | (refine QC.flat ?_ rfl rfl)
  | (refine congrArg (fun b=>[SV.bool b]) ?_;decide +kernel)
theorem snI_held:Held Tryz.prog G0 21 ctSnI:=Held.run cxSn (fn:=Tryz.f21) rfl rfl ⟨by decide,by decide⟩ fun x _=>snI_run _
end Go.Proofs.YtncocpjkaggnjaaGreatDoor
namespace Go.Proofs.YtncocpjkaggnjaaGreatDoor
open Go.Px Go.Ax
def u8L (b:List Int):Prop:=∀ j,0≤gtB b j∧gtB b j<256
theorem u8_wf {n:Int} (h:wfD uB n):0≤n∧n<256:=by
 have h:(Lit.int IntKind.u8 n).wf=true:=h
 simp[Lit.wf,IntKind.min,IntKind.max,IntKind.signed,IntKind.bits] at h
 omega
theorem u8_of {l:List Int} (h:∀ x∈l,wfD uB x):u8L l:=fun j=>by
 by_cases hj:j<l.length
 ·rw[gtB_at hj];exact u8_wf (h _ (List.getElem_mem hj))
 ·have:gtB l j=0:=by
   show gt uB _ _=_
   unfold gt
   rw[List.getElem?_eq_none (by omega)];rfl
  rw[this];decide
theorem l4_of {l:List (List Int)} (h:∀ x∈l,wfD a4S x):preL4 l:=fun j=>by
 by_cases hj:j<l.length
 ·have e:gt a4S l j=l[j]:=gtE (e:=a4S) hj
  rw[e]
  exact u8_of (h _ (List.getElem_mem hj)).2
 ·have:gt a4S l j=List.replicate 4 (0:Int):=by
   unfold gt
   rw[List.getElem?_eq_none (by omega)];rfl
  rw[this]
  exact u8_of fun x hx=>by
   rw[List.eq_of_mem_replicate hx];rfl
theorem m6_of {x:Int × List (List Int)} (h:wfD raS x):preM6 x.1 x.2:=⟨u8_wf h.1,l4_of h.2.2,h.2.1⟩
theorem G_get {g:Nat} {x:ABlk} (h:rawG.get g=some x):(g=0∧x=.cells kindCells 181 2)∨(g=1∧x=.cells costCells 214 2):=by
 unfold rawG T.get at h
 split at h
 ·rename_i e;cases h;exact .inl ⟨e,rfl⟩
 ·rename_i h0
  split at h
  ·rename_i h1
   unfold T.get at h
   split at h
   ·rename_i h2;cases h;exact .inr ⟨by omega,rfl⟩
   ·split at h <;> simp[T.get] at h
  ·simp[T.get] at h
theorem hG:Glob G0.raw:=⟨fun g x h=>by rcases G_get h with ⟨rfl,_⟩ | ⟨rfl,_⟩ <;> decide,fun g x h=>by rcases G_get h with ⟨_,rfl⟩ | ⟨_,rfl⟩ <;> decide⟩
abbrev H0:AHeap:=⟨nglob,G0.raw⟩
def Z0:Nat→Option ABlk:=fun g=>rawG.get g
theorem gz0:GZ Z0 G0:=by
 refine ⟨fun g x e=>?_,fun g x e=>e⟩
 simp only[G0,lk] at e
 split at e
 ·rename_i h;subst h;cases e
  refine ⟨by decide,fun ν=>⟨0,0,kindCells,181,2,rfl,rfl,by decide,?_⟩⟩
  exact rv_of (.arr 9 kindSh) kindsL ⟨rfl,fun x _=>⟨trivial,trivial,trivial,trivial,trivial⟩⟩
 ·split at e
  ·rename_i h;subst h;cases e
   refine ⟨by decide,fun ν=>⟨1,0,costCells,214,2,rfl,rfl,by decide,?_⟩⟩
   exact rv_of (.arr 5 coS) costsL ⟨rfl,fun x _=>⟨trivial,trivial⟩⟩
  ·cases e
theorem fro0:Px.Fro G0 H0:=⟨fun i x h=>by rcases G_get h with ⟨rfl,rfl⟩ | ⟨rfl,rfl⟩ <;> rfl,fun i x h=>by rcases G_get h with ⟨rfl,rfl⟩ | ⟨rfl,rfl⟩ <;> trivial,fun i x h=>by rcases G_get h with ⟨rfl,rfl⟩ | ⟨rfl,rfl⟩ <;> decide,gz0⟩
end Go.Proofs.YtncocpjkaggnjaaGreatDoor
namespace Go.Proofs.YtncocpjkaggnjaaGreatDoor
open Go.Px Go.Ax
set_option maxRecDepth 100000
attribute [local irreducible] Go.Px.sy Go.Px.syE
theorem cxBk:CxOK Tryz.prog tt G0 CBk:=(((((((cx0.cons rs_held (fn:=Tryz.f33) rfl rfl rfl).cons rr_held (fn:=Tryz.f32) rfl rfl rfl).cons lo_held (fn:=Tryz.f27) rfl rfl rfl).cons right_held (fn:=Tryz.f31) rfl rfl rfl).cons iv_held (fn:=Tryz.f25) rfl rfl rfl).cons apW_held (fn:=Tryz.f14) rfl rfl rfl).cons two_held (fn:=Tryz.f22) rfl rfl rfl).cons snI_held (fn:=Tryz.f21) rfl rfl rfl
theorem szM_ok {n:Int} {l:List (List Int)} (hp:preM6 n l) (b:List Int):(chkV (szM n l)).2=0∧(szM n l).1=false∧((inpL b (szM n l).2.1.toNat).length:Int)=(szM n l).2.1∧(inpL b (szM n l).2.1.toNat).length≤4096:=by
 have hi:=szM_in hp
 have hc:=szV_chk (m:=n % 13) hp.2.1 hi.1 (by have:=hi.2;show n % 13≤65536;have h2:n % 13<13:=hi.2;omega)
 refine ⟨by show (chkV (szV l (n % 13))).2=0;rw[hc],rfl,?_,?_⟩
 ·rw[inpL_len];omega
 ·rw[inpL_len];omega
def preBk (n:Int) (l:List (List Int)) (b:List Int):Prop:=preM6 n l∧u8L b
end Go.Proofs.YtncocpjkaggnjaaGreatDoor
namespace Go.Proofs.YtncocpjkaggnjaaGreatDoor
open Go.Px Go.Ax
set_option maxRecDepth 100000
set_option maxRecDepth 100000
def mem_lt_m0 (n:Int) (l:List (List Int)) (b:List Int):List (Nat × LB):=[(2,.var [.int .u8 n,.sl (Sh.arr (4:Nat) uB) l]),(6,.var [.bool (szM n l).1,.int .i64 (szM n l).2.1,.int .i64 (szM n l).2.2.1,.sl opS (szM n l).2.2.2]),(8,.var [.bool (ivV (inpL b (szM n l).2.1.toNat) (szM n l)).1.1,.int .i64 (ivV (inpL b (szM n l).2.1.toNat) (szM n l)).1.2.1,.int .i64 (ivV (inpL b (szM n l).2.1.toNat) (szM n l)).1.2.2.1,.sl opS (ivV (inpL b (szM n l).2.1.toNat) (szM n l)).1.2.2.2]),(1147456,.row 81 rgS (losV (szM n l)).1)]
theorem vc_lt (n:Int) (l:List (List Int)) (b:List Int) (Q:QT) (R:RT):sy tt G0 CBk Tryz.f8.ntmps Tryz.f8.results.toList Q (fun it S=>R it (keepS [5,7,10,12,14,16] [1147456,1241664,1262144] S)) 1000 [.code (bodyOf Tryz.f8)] (entry [raS,.sl uB] ((n,l),b,())) =
  (ctSnI.pre () ∧
 ctTwo.pre ((n,l),b,()) ∧
 ctIv.pre (inpL b (szM n l).2.1.toNat,(szM n l),()) ∧
 ctLs.pre ((szM n l),()) ∧
 bc (decide ((ivV (inpL b (szM n l).2.1.toNat) (szM n l)).2≠(0:Int))) (true=true ∧
 true=true ∧
 true=true ∧
 Q [.bool false] (mem_lt_m0 n l b)) (bc (bif false then true else decide ((losV (szM n l)).2≠(0:Int))) (true=true ∧
 true=true ∧
 Q [.bool false] (mem_lt_m0 n l b)) (ctRi.pre (((ivV (inpL b (szM n l).2.1.toNat) (szM n l)).1),()) ∧
 bc (bif false then true else !decide ((chkV ((ivV (inpL b (szM n l).2.1.toNat) (szM n l)).1)).2=(0:Int))) (true=true ∧
 Q [.bool false] (mem_lt_m0 n l b)) (0+(losV (szM n l)).1.length≤(losV (szM n l)).1.length ∧
 ctRr.pre (winL rgS 0 (losV (szM n l)).1.length (losV (szM n l)).1,(szM n l).2.1,()) ∧
 bc (bif false then true else !rrF (szM n l).2.1 (-1:Int) (winL rgS 0 (losV (szM n l)).1.length (losV (szM n l)).1)) (Q [.bool false] (mem_lt_m0 n l b)) (ctSym.pre ((szM n l),()) ∧
 ctSym.pre (((ivV (inpL b (szM n l).2.1.toNat) (szM n l)).1),()) ∧
 bc (decide ((↑(symV ((ivV (inpL b (szM n l).2.1.toNat) (szM n l)).1)).1.length:Int)≠(szM n l).2.1)) (Q [.bool false] [(2,.var [.int .u8 n,.sl (Sh.arr (4:Nat) uB) l]),(6,.var [.bool (szM n l).1,.int .i64 (szM n l).2.1,.int .i64 (szM n l).2.2.1,.sl opS (szM n l).2.2.2]),(8,.var [.bool (ivV (inpL b (szM n l).2.1.toNat) (szM n l)).1.1,.int .i64 (ivV (inpL b (szM n l).2.1.toNat) (szM n l)).1.2.1,.int .i64 (ivV (inpL b (szM n l).2.1.toNat) (szM n l)).1.2.2.1,.sl opS (ivV (inpL b (szM n l).2.1.toNat) (szM n l)).1.2.2.2]),(1147456,.row 81 rgS (losV (szM n l)).1),(1241664,.row 83 syS (symV (szM n l)).1),(1262144,.row 83 syS (symV ((ivV (inpL b (szM n l).2.1.toNat) (szM n l)).1)).1)]) (R (hd Tryz.f8 0) { env:=[(5,.bool true),(7,.sl uB (inpL b (szM n l).2.1.toNat)),(10,.win true rgS 1147456 0 (losV (szM n l)).1.length),(12,.win true syS 1241664 0 (symV (szM n l)).1.length),(14,.win true syS 1262144 0 (symV ((ivV (inpL b (szM n l).2.1.toNat) (szM n l)).1)).1.length),(16,.int .i64 0)],blk:=[(1147456,.row 81 rgS (losV (szM n l)).1),(1241664,.row 83 syS (symV (szM n l)).1),(1262144,.row 83 syS (symV ((ivV (inpL b (szM n l).2.1.toNat) (szM n l)).1)).1)] })))))):=by kernel_rfl
theorem vc_ltO (old:List Int) (lo:List (Int × Int)) (l m:List SyT) (i:Int) (Q:QT) (R:RT):sy tt G0 [] Tryz.f8.ntmps Tryz.f8.results.toList Q (fun it S=>R it (keepS [5,7,10,12,14,16,17,18,19] [] S)) 1000 (hd Tryz.f8 0) ⟨[(5,.bool true),(7,.sl uB old),(10,.sl rgS lo),(12,.sl syS l),(14,.sl syS m),(16,.int .i64 i)],[]⟩ =
  (bc (decide (i<(m.length:Int))) (R (hd Tryz.f8 1) { env:=[(5,.bool true),(7,.sl uB old),(10,.sl rgS lo),(12,.sl syS l),(14,.sl syS m),(16,.int .i64 i),(17,.bool false),(18,.int .i64 0)],blk:=[] }) (Q [.bool true] [])):=by kernel_rfl
theorem vc_ltA (old:List Int) (lo:List (Int × Int)) (l m:List SyT) (i:Int) (g:Bool) (k:Int) (Q:QT) (R:RT):sy tt G0 [] Tryz.f8.ntmps Tryz.f8.results.toList Q (fun it S=>R it (keepS [5,7,10,12,14,16,17,18,19] [] S)) 1000 (hd Tryz.f8 1) ⟨[(5,.bool true),(7,.sl uB old),(10,.sl rgS lo),(12,.sl syS l),(14,.sl syS m),(16,.int .i64 i),(17,.bool g),(18,.int .i64 k)],[]⟩ =
  (bc (decide (k<(lo.length:Int))) (bc g (true=true ∧
 R (hd Tryz.f8 1) { env:=[(5,.bool true),(7,.sl uB old),(10,.sl rgS lo),(12,.sl syS l),(14,.sl syS m),(16,.int .i64 i),(17,.bool true),(18,.int .i64 (IntKind.i64.wrap (k+(1:Int))))],blk:=[] }) ((0:Int)≤k ∧
 k<(lo.length:Int) ∧
 bc (decide ((gtR lo k.toNat).1≤i)) ((0:Int)≤k ∧
 k<(lo.length:Int) ∧
 R (hd Tryz.f8 1) { env:=[(5,.bool true),(7,.sl uB old),(10,.sl rgS lo),(12,.sl syS l),(14,.sl syS m),(16,.int .i64 i),(17,.bool (bif false then true else bif true then decide (i<(gtR lo k.toNat).2) else false)),(18,.int .i64 (IntKind.i64.wrap (k+(1:Int))))],blk:=[] }) (false=false ∧
 R (hd Tryz.f8 1) { env:=[(5,.bool true),(7,.sl uB old),(10,.sl rgS lo),(12,.sl syS l),(14,.sl syS m),(16,.int .i64 i),(17,.bool (bif false then true else false)),(18,.int .i64 (IntKind.i64.wrap (k+(1:Int))))],blk:=[] }))) ((0:Int)≤i ∧
 i<(m.length:Int) ∧
 bc (g == (gtY m i.toNat).1) (true=true ∧
 Q [.bool false] []) (bc g ((0:Int)≤i ∧
 i<(m.length:Int) ∧
 (0:Int)≤i ∧
 i<(old.length:Int) ∧
 bc (bif false then true else bif true then decide ((gtY m i.toNat).2.2≠gtB old i.toNat) else false) (Q [.bool false] []) (R (hd Tryz.f8 2) { env:=[(5,.bool true),(7,.sl uB old),(10,.sl rgS lo),(12,.sl syS l),(14,.sl syS m),(16,.int .i64 i),(17,.bool g),(18,.int .i64 k),(19,.int .i64 0)],blk:=[] })) (false=false ∧
 R (hd Tryz.f8 2) { env:=[(5,.bool true),(7,.sl uB old),(10,.sl rgS lo),(12,.sl syS l),(14,.sl syS m),(16,.int .i64 i),(17,.bool g),(18,.int .i64 k),(19,.int .i64 0)],blk:=[] })))):=by kernel_rfl
theorem vc_ltB (old:List Int) (lo:List (Int × Int)) (l m:List SyT) (i:Int) (g:Bool) (j:Int) (Q:QT) (R:RT):sy tt G0 [] Tryz.f8.ntmps Tryz.f8.results.toList Q (fun it S=>R it (keepS [5,7,10,12,14,16,17,18,19] [] S)) 1000 (hd Tryz.f8 2) ⟨[(5,.bool true),(7,.sl uB old),(10,.sl rgS lo),(12,.sl syS l),(14,.sl syS m),(16,.int .i64 i),(17,.bool g),(19,.int .i64 j)],[]⟩ =
  (bc (decide (j<(l.length:Int))) ((0:Int)≤j ∧
 j<(l.length:Int) ∧
 bc (gtY l j.toNat).1 ((0:Int)≤j ∧
 j<(l.length:Int) ∧
 bc (decide ((gtY l j.toNat).2.1=i)) (bc g (true=true ∧
 true=true ∧
 Q [.bool false] []) ((0:Int)≤i ∧
 i<(m.length:Int) ∧
 bc (decide (j<(gtY m i.toNat).2.1)) (true=true ∧
 Q [.bool false] []) (bc (!bif true then decide ((gtY l j.toNat).2.1=i) else false) (bc (bif true then !g else false) ((0:Int)≤i ∧
 i<(m.length:Int) ∧
 bc (bif false then true else bif true then decide ((gtY m i.toNat).2.1=j) else false) (Q [.bool false] []) (R (hd Tryz.f8 2) { env:=[(5,.bool true),(7,.sl uB old),(10,.sl rgS lo),(12,.sl syS l),(14,.sl syS m),(16,.int .i64 i),(17,.bool g),(19,.int .i64 (IntKind.i64.wrap (j+(1:Int))))],blk:=[] })) (false=false ∧
 R (hd Tryz.f8 2) { env:=[(5,.bool true),(7,.sl uB old),(10,.sl rgS lo),(12,.sl syS l),(14,.sl syS m),(16,.int .i64 i),(17,.bool g),(19,.int .i64 (IntKind.i64.wrap (j+(1:Int))))],blk:=[] })) (false=false ∧
 false=false ∧
 R (hd Tryz.f8 2) { env:=[(5,.bool true),(7,.sl uB old),(10,.sl rgS lo),(12,.sl syS l),(14,.sl syS m),(16,.int .i64 i),(17,.bool g),(19,.int .i64 (IntKind.i64.wrap (j+(1:Int))))],blk:=[] })))) (false=false ∧
 bc (!bif true then decide ((gtY l j.toNat).2.1=i) else false) (bc (bif true then !g else false) ((0:Int)≤i ∧
 i<(m.length:Int) ∧
 bc (bif false then true else bif true then decide ((gtY m i.toNat).2.1=j) else false) (Q [.bool false] []) (R (hd Tryz.f8 2) { env:=[(5,.bool true),(7,.sl uB old),(10,.sl rgS lo),(12,.sl syS l),(14,.sl syS m),(16,.int .i64 i),(17,.bool g),(19,.int .i64 (IntKind.i64.wrap (j+(1:Int))))],blk:=[] })) (false=false ∧
 R (hd Tryz.f8 2) { env:=[(5,.bool true),(7,.sl uB old),(10,.sl rgS lo),(12,.sl syS l),(14,.sl syS m),(16,.int .i64 i),(17,.bool g),(19,.int .i64 (IntKind.i64.wrap (j+(1:Int))))],blk:=[] })) (false=false ∧
 false=false ∧
 R (hd Tryz.f8 2) { env:=[(5,.bool true),(7,.sl uB old),(10,.sl rgS lo),(12,.sl syS l),(14,.sl syS m),(16,.int .i64 i),(17,.bool g),(19,.int .i64 (IntKind.i64.wrap (j+(1:Int))))],blk:=[] }))) (false=false ∧
 false=false ∧
 bc (bif true then !g else false) ((0:Int)≤i ∧
 i<(m.length:Int) ∧
 bc (bif false then true else bif true then decide ((gtY m i.toNat).2.1=j) else false) (Q [.bool false] []) (R (hd Tryz.f8 2) { env:=[(5,.bool true),(7,.sl uB old),(10,.sl rgS lo),(12,.sl syS l),(14,.sl syS m),(16,.int .i64 i),(17,.bool g),(19,.int .i64 (IntKind.i64.wrap (j+(1:Int))))],blk:=[] })) (false=false ∧
 R (hd Tryz.f8 2) { env:=[(5,.bool true),(7,.sl uB old),(10,.sl rgS lo),(12,.sl syS l),(14,.sl syS m),(16,.int .i64 i),(17,.bool g),(19,.int .i64 (IntKind.i64.wrap (j+(1:Int))))],blk:=[] }))) (bc (!g) ((0:Int)≤i ∧
 i<(m.length:Int) ∧
 (0:Int)≤i ∧
 i<(m.length:Int) ∧
 (0:Int)≤(gtY m i.toNat).2.1 ∧
 (gtY m i.toNat).2.1<(l.length:Int) ∧
 bc (decide (IntKind.u8.wrap ((gtY m i.toNat).2.2+(gtY l (Int.toNat (gtY m i.toNat).2.1)).2.2)≠(0:Int))) (Q [.bool false] []) (R (hd Tryz.f8 0) { env:=[(5,.bool true),(7,.sl uB old),(10,.sl rgS lo),(12,.sl syS l),(14,.sl syS m),(16,.int .i64 (IntKind.i64.wrap (i+(1:Int)))),(17,.bool g),(19,.int .i64 j)],blk:=[] })) (false=false ∧
 R (hd Tryz.f8 0) { env:=[(5,.bool true),(7,.sl uB old),(10,.sl rgS lo),(12,.sl syS l),(14,.sl syS m),(16,.int .i64 (IntKind.i64.wrap (i+(1:Int)))),(17,.bool g),(19,.int .i64 j)],blk:=[] }))):=by kernel_rfl
end Go.Proofs.YtncocpjkaggnjaaGreatDoor
namespace Go.Proofs.YtncocpjkaggnjaaGreatDoor
open Go.Px Go.Ax
set_option maxRecDepth 100000
def lastT:Int→List (Int × Int)→Int
 | la,[]=>la
 | _,r::l=>lastT r.2 l
theorem rrF_app {n:Int} {x:Int × Int}:∀ (l:List (Int × Int)) (la:Int),rrF n la (l++[x])=(rrF n la l&&decide (lastT la l<x.1∧x.1<x.2∧x.2≤n))
 | [],la=>by
  simp only[List.nil_append,rrF,lastT,Bool.true_and]
  split
  ·exact (decide_eq_false (by omega)).symm
  ·exact (decide_eq_true (by omega)).symm
 | r::l,la=>by
  rw[List.cons_append,rrF,rrF,lastT]
  split
  ·rfl
  ·exact rrF_app l r.2
theorem rrF_mono {n n':Int} (hn:n≤n'):∀ {l:List (Int × Int)} {la:Int},rrF n la l=true→rrF n' la l=true
 | [],_,_=>rfl
 | r::l,la,h=>by
  rw[rrF] at h ⊢
  split at h
  ·cases h
  ·rw[if_neg (by omega)]
   exact rrF_mono hn h
def cov (g:List (Int × Int)) (k:Int):Prop:=∃ r∈g,r.1≤k∧k<r.2
theorem cov_app {g:List (Int × Int)} {x:Int × Int} {k:Int}:cov (g++[x]) k↔cov g k∨(x.1≤k∧k<x.2):=by
 unfold cov
 constructor
 ·rintro ⟨r,hr,h⟩
  rcases List.mem_append.1 hr with h1 | h1
  ·exact .inl ⟨r,h1,h⟩
  ·rw[List.mem_singleton] at h1;subst h1;exact .inr h
 ·rintro (⟨r,hr,h⟩ | h)
  ·exact ⟨r,List.mem_append_left _ hr,h⟩
  ·exact ⟨x,by simp,h⟩
theorem pushR_app (g:List (Int × Int)) (x:Int × Int) (i:Int):pushR (g++[x]) i=if x.2=i then g++[(x.1,i+1)] else g++[x]++[(i,i+1)]:=by
 have e:gtR (g++[x]) ((g++[x]).length-1)=x:=by
  rw[gtR_at (by simp)]
  simp
 unfold pushR
 rw[e]
 by_cases h:x.2=i
 ·rw[if_pos ⟨by simp,h⟩,if_pos h]
  simp
 ·rw[if_neg (fun q=>h q.2),if_neg h]
def losI (o:MpS) (i:Nat) (g:List (Int × Int)):Prop:=rrF i (-1) g=true∧∀ k:Nat,cov g k↔(k<i∧(gMs o (k:Int)).isSome=false)
theorem losI_push {o:MpS} {i:Nat} {g:List (Int × Int)} (h:losI o i g) (hs:(gMs o (i:Int)).isSome=false):losI o (i+1) (pushR g i):=by
 obtain ⟨h1,h2⟩:=h
 have fin:∀ g',(∀ k:Nat,cov g' k↔cov g k∨k=i)→rrF ((i+1:Nat):Int) (-1) g'=true→losI o (i+1) g':=fun g' hc hr=>⟨hr,fun k=>by
  rw[hc,h2]
  constructor
  ·rintro (⟨a,b⟩ | rfl)
   ·exact ⟨by omega,b⟩
   ·exact ⟨by omega,hs⟩
  ·rintro ⟨a,b⟩
   by_cases e:k=i
   ·exact .inr e
   ·exact .inl ⟨by omega,b⟩⟩
 rcases List.eq_nil_or_concat g with rfl | ⟨g',x,rfl⟩
 ·have e:pushR [] (i:Int)=[((i:Int),(i:Int)+1)]:=rfl
  rw[e]
  refine fin _ (fun k=>?_) ?_
  ·unfold cov
   constructor
   ·rintro ⟨r,hr,h⟩
    rw[List.mem_singleton] at hr;subst hr
    simp only at h
    right;omega
   ·rintro (⟨r,hr,_⟩ | rfl)
    ·cases hr
    ·exact ⟨_,List.mem_singleton.2 rfl,by simp only;omega⟩
  ·rw[rrF,if_neg (by simp only;omega)];rfl
 ·rw[List.concat_eq_append] at *
  have h1':=h1
  rw[rrF_app,Bool.and_eq_true,decide_eq_true_eq] at h1
  obtain ⟨r1,r2,r3,r4⟩:=h1
  rw[pushR_app]
  split
  ·rename_i e
   refine fin _ (fun k=>?_) ?_
   ·rw[cov_app,cov_app]
    simp only
    constructor
    ·rintro (h | h)
     ·exact .inl (.inl h)
     ·by_cases q:k=i
      ·exact .inr q
      ·exact .inl (.inr (by omega))
    ·rintro ((h | h) | rfl)
     ·exact .inl h
     ·exact .inr (by omega)
     ·exact .inr (by omega)
   ·rw[rrF_app,rrF_mono (by omega) r1,Bool.true_and,decide_eq_true_eq]
    simp only;omega
  ·rename_i e
   refine fin _ (fun k=>?_) ?_
   ·rw[cov_app]
    simp only
    constructor
    ·rintro (h | h)
     ·exact .inl h
     ·exact .inr (by omega)
    ·rintro (h | rfl)
     ·exact .inl h
     ·exact .inr (by omega)
   ·rw[rrF_app,rrF_mono (by omega) h1',Bool.true_and,decide_eq_true_eq]
    have hl:lastT (-1) (g'++[x])=x.2:=by
     clear fin h2 h1' r1 r2
     generalize (-1:Int)=la
     induction g' generalizing la with
     | nil=>rfl
     | cons r l ih=>exact ih r.2
    rw[hl]
    simp only;omega
theorem losI_skip {o:MpS} {i:Nat} {g:List (Int × Int)} (h:losI o i g) (hs:¬ (gMs o (i:Int)).isSome=false):losI o (i+1) g:=
 ⟨rrF_mono (by omega) h.1,fun k=>by
  rw[h.2]
  constructor
  ·rintro ⟨a,b⟩;exact ⟨by omega,b⟩
  ·rintro ⟨a,b⟩
   refine ⟨?_,b⟩
   by_cases e:k=i
   ·subst e;exact absurd b hs
   ·omega⟩
theorem losI_lsF (o:MpS):∀ (c i:Nat) (g:List (Int × Int)),losI o i g→losI o (i+c) (lsF o c i g)
 | 0,i,g,h=>h
 | c+1,i,g,h=>by
  rw[lsF,show i+(c+1)=(i+1)+c by omega]
  refine losI_lsF o c (i+1) _ ?_
  unfold lsS
  split
  ·rename_i hs;exact losI_push h hs
  ·rename_i hs;exact losI_skip h hs
theorem lsF_len (o:MpS):∀ (c i:Nat) (g:List (Int × Int)),(lsF o c i g).length≤g.length+c
 | 0,_,_=>Nat.le_refl _
 | c+1,i,g=>by
  have h1:=lsF_len o c (i+1) (lsS o i g)
  have h2:=lsS_len o i g
  rw[lsF];omega
theorem los_ok {p:PaT} (hc:(chkV p).2=0):∃ lo,losV p=(lo,0)∧rrF p.2.1 (-1) lo=true∧lo.length≤p.2.1.toNat∧∀ k:Nat,k<p.2.1.toNat→(cov lo k↔fsJ k 0 (symF p.2.2.2)=none):=by
 obtain ⟨r1,r2,r3⟩:=sy_right hc
 have hI:=losI_lsF (kpF 0 (symF p.2.2.2) []) p.2.1.toNat 0 [] ⟨rfl,fun k=>⟨fun ⟨r,hr,_⟩=>(by cases hr),fun h=>absurd h.1 (Nat.not_lt_zero _)⟩⟩
 rw[Nat.zero_add] at hI
 refine ⟨lsF (kpF 0 (symF p.2.2.2) []) p.2.1.toNat 0 [],?_,?_,?_,fun k hk=>?_⟩
 ·unfold losV
  rw[sy_ok hc]
  rfl
 ·have:=hI.1
  rw[Int.toNat_of_nonneg r2.1] at this
  exact this
 ·have:=lsF_len (kpF 0 (symF p.2.2.2) []) p.2.1.toNat 0 []
  simpa using this
 ·rw[hI.2,kp_is]
  cases fsJ (k:Int) 0 (symF p.2.2.2) with
  | none=>exact ⟨fun _=>rfl,fun _=>⟨hk,rfl⟩⟩
  | some v=>exact ⟨fun h=>(by cases h.2),fun h=>(by cases h)⟩
end Go.Proofs.YtncocpjkaggnjaaGreatDoor
namespace Go.Proofs.YtncocpjkaggnjaaGreatDoor
open Go.Px Go.Ax
set_option maxRecDepth 100000
attribute [local irreducible] Go.Px.sy Go.Px.syE
abbrev LtQ:List SV→List (Nat × LB)→Prop:=fun rs _=>rs=[.bool true]
abbrev GLt (it:Nat) (S:PS):Prop:=GD 8 Tryz.f8 LtQ (hd Tryz.f8 it) S
section
variable (old:List Int) (lo:List (Int × Int)) (l m:List SyT)
abbrev ltO (i:Int):PS:=⟨[(5,.bool true),(7,.sl uB old),(10,.sl rgS lo),(12,.sl syS l),(14,.sl syS m),(16,.int .i64 i)],[]⟩
abbrev ltA (i:Int) (g:Bool) (k:Int):PS:=⟨[(5,.bool true),(7,.sl uB old),(10,.sl rgS lo),(12,.sl syS l),(14,.sl syS m),(16,.int .i64 i),(17,.bool g),(18,.int .i64 k)],[]⟩
abbrev ltB (i:Int) (g:Bool) (j:Int):PS:=⟨[(5,.bool true),(7,.sl uB old),(10,.sl rgS lo),(12,.sl syS l),(14,.sl syS m),(16,.int .i64 i),(17,.bool g),(19,.int .i64 j)],[]⟩
def anyR (lo:List (Int × Int)) (i:Int):Bool:=lo.any fun r=>decide (r.1≤i)&&decide (i<r.2)
theorem anyR_iff {lo:List (Int × Int)} {i:Int}:anyR lo i=true↔cov lo i:=by
 unfold anyR cov
 rw[List.any_eq_true]
 constructor
 ·rintro ⟨r,hr,h⟩
  simp only[Bool.and_eq_true,decide_eq_true_eq] at h
  exact ⟨r,hr,h⟩
 ·rintro ⟨r,hr,h⟩
  exact ⟨r,hr,by simp only[Bool.and_eq_true,decide_eq_true_eq];exact h⟩
structure LtI (old:List Int) (lo:List (Int × Int)) (l m:List SyT):Prop where
 ll:l.length≤65536
 lol:lo.length≤65536
 ol:old.length≤65536
 ml:m.length=old.length
 at_:∀ i,i<old.length→gtY m i=(fsJ (i:Int) 0 l).getD (false,0,gtB old i)
 cv:∀ i:Nat,i<old.length→(cov lo i↔fsJ (i:Int) 0 l=none)
variable {old lo l m}
theorem lt_B (I:LtI old lo l m) (i:Nat) (hi:i<old.length) (nx:GLt 0 (ltO old lo l m ((i+1:Nat):Int))):∀ (k j:Nat),l.length-j=k→j≤l.length →
  GLt 2 (ltB old lo l m i (fsJ (i:Int) 0 l).isNone j):=by
 have hm:i<m.length:=by rw[I.ml];exact hi
 have ha:=I.at_ i hi
 have wi:IntKind.i64.wrap ((i:Int)+1)=((i+1:Nat):Int):=by have:=I.ol;rw[IntWalk.i64_in _ (by omega)];omega
 have lb:l.length≤65536:=I.ll
 have ob:old.length≤65536:=I.ol
 intro k
 induction k with
 | zero=>
  intro j hk hj
  refine sy_goK cx0 (vc_ltB old lo l m i _ j _ _) ?_
  rw[decide_eq_false (show ¬ (j:Int)<(l.length:Int) by omega),bc_f]
  simp only[Int.toNat_natCast]
  rw[wi]
  cases hf:fsJ (i:Int) 0 l with
  | none=>exact ⟨trivial,nx.only ⟨rfl,rfl,rfl,rfl,rfl,rfl,trivial⟩ trivial⟩
  | some v=>
   obtain ⟨q,hq,rfl,e2,e3,e4⟩:=fsJ_some hf
   rw[hf] at ha
   have ha:gtY m i=(true,((0+q:Nat):Int),ng l[q].2.2):=ha
   simp only[ha]
   simp only[Nat.zero_add,Int.toNat_natCast]
   refine ⟨by omega,by omega,by omega,by omega,by omega,by omega,bc_of (fun h=>?_) (fun _=>nx.only ⟨rfl,rfl,rfl,rfl,rfl,rfl,trivial⟩ trivial)⟩
   have h:IntKind.u8.wrap (ng l[q].2.2+(gtY l q).2.2)≠0:=of_decide_eq_true h
   rw[gtY_at hq] at h
   exact absurd (show ((0-l[q].2.2) % 256+l[q].2.2) % 256=0 by omega) h
 | succ k ih=>
  intro j hk hj
  have hjl:j<l.length:=by omega
  have wj:IntKind.i64.wrap ((j:Int)+1)=((j+1:Nat):Int):=by rw[IntWalk.i64_in _ (by omega)];omega
  have rcu:=ih (j+1) (by omega) (by omega)
  refine sy_goK cx0 (vc_ltB old lo l m i _ j _ _) ?_
  rw[decide_eq_true (show (j:Int)<(l.length:Int) by omega),bc_t]
  simp only[Int.toNat_natCast]
  rw[wj]
  simp only[gtY_at hjl]
  cases hf:fsJ (i:Int) 0 l with
  | none=>
   rw[hf] at rcu
   have hno:=fsJ_none hf j hjl
   refine ⟨by omega,by omega,bc_of (fun h1=>⟨by omega,by omega,bc_of (fun h2=>absurd ⟨h1,of_decide_eq_true h2⟩ hno) (fun h2=>⟨trivial,?_⟩)⟩) (fun h1=>⟨trivial,trivial,?_⟩)⟩
   ·rw[h2]
    exact ⟨trivial,rcu.only ⟨rfl,rfl,rfl,rfl,rfl,rfl,rfl,rfl,trivial⟩ trivial⟩
   ·exact ⟨trivial,rcu.only ⟨rfl,rfl,rfl,rfl,rfl,rfl,rfl,rfl,trivial⟩ trivial⟩
  | some v=>
   obtain ⟨q,hq,rfl,e2,e3,e4⟩:=fsJ_some hf
   rw[hf] at rcu ha
   have ha:gtY m i=(true,((0+q:Nat):Int),ng l[q].2.2):=ha
   simp only[ha]
   simp only[Nat.zero_add]
   have hne:¬ (l[j].1=true∧l[j].2.1=(i:Int))→¬ ((q:Int)=(j:Int)):=fun h q0=>by
    have:q=j:=by omega
    subst this
    exact h ⟨e2,e3⟩
   refine ⟨by omega,by omega,bc_of (fun h1=>⟨by omega,by omega,bc_of (fun h2=>?_) (fun h2=>⟨trivial,?_⟩)⟩) (fun h1=>⟨trivial,trivial,?_⟩)⟩
   ·have h2':l[j].2.1=(i:Int):=of_decide_eq_true h2
    refine ⟨by omega,by omega,bc_of (fun h3=>?_) (fun h3=>?_)⟩
    ·have h3:(j:Int)<(q:Int):=of_decide_eq_true h3
     exact absurd ⟨h1,h2'⟩ (e4 j hjl (by omega))
    ·rw[h2]
     exact ⟨trivial,trivial,rcu.only ⟨rfl,rfl,rfl,rfl,rfl,rfl,rfl,rfl,trivial⟩ trivial⟩
   ·rw[h2]
    have hn:=hne fun h=>(of_decide_eq_false h2) h.2
    refine ⟨by omega,by omega,?_⟩
    rw[decide_eq_false hn]
    exact rcu.only ⟨rfl,rfl,rfl,rfl,rfl,rfl,rfl,rfl,trivial⟩ trivial
   ·have hn:=hne fun h=>by rw[h1] at h;exact Bool.noConfusion h.1
    refine ⟨by omega,by omega,?_⟩
    rw[decide_eq_false hn]
    exact rcu.only ⟨rfl,rfl,rfl,rfl,rfl,rfl,rfl,rfl,trivial⟩ trivial
theorem lt_A (I:LtI old lo l m) (i:Nat) (hi:i<old.length) (nx:GLt 0 (ltO old lo l m ((i+1:Nat):Int))):∀ (k j:Nat) (g:Bool),lo.length-j=k→j≤lo.length→(g || anyR (lo.drop j) i)=(fsJ (i:Int) 0 l).isNone →
  GLt 1 (ltA old lo l m i g j):=by
 have hm:i<m.length:=by rw[I.ml];exact hi
 have ha:=I.at_ i hi
 have lb:lo.length≤65536:=I.lol
 intro k
 induction k with
 | zero=>
  intro j g hk hj hg
  rw[List.drop_of_length_le (by omega)] at hg
  have hg:g=(fsJ (i:Int) 0 l).isNone:=by rw[← hg];simp[anyR]
  refine sy_goK cx0 (vc_ltA old lo l m i g j _ _) ?_
  rw[decide_eq_false (show ¬ (j:Int)<(lo.length:Int) by omega),bc_f]
  simp only[Int.toNat_natCast]
  have B:=lt_B I i hi nx l.length 0 rfl (Nat.zero_le _)
  rw[← hg] at B
  cases hf:fsJ (i:Int) 0 l with
  | none=>
   rw[hf] at hg ha
   have hg:g=true:=hg
   have ha:gtY m i=(false,0,gtB old i):=ha
   subst hg
   simp only[ha]
   refine ⟨by omega,by omega,bc_of (fun h=>by cases h) (fun _=>⟨by omega,by omega,by omega,by omega,bc_of (fun h=>?_) (fun _=>B.only ⟨rfl,rfl,rfl,rfl,rfl,rfl,rfl,rfl,trivial⟩ trivial)⟩)⟩
   simp at h
  | some v=>
   rw[hf] at hg ha
   have hg:g=false:=hg
   obtain ⟨q,hq,rfl,e2,e3,e4⟩:=fsJ_some hf
   have ha:gtY m i=(true,((0+q:Nat):Int),ng l[q].2.2):=ha
   subst hg
   simp only[ha]
   exact ⟨by omega,by omega,bc_of (fun h=>by cases h) (fun _=>⟨trivial,B.only ⟨rfl,rfl,rfl,rfl,rfl,rfl,rfl,rfl,trivial⟩ trivial⟩)⟩
 | succ k ih=>
  intro j g hk hj hg
  have hjl:j<lo.length:=by omega
  have wj:IntKind.i64.wrap ((j:Int)+1)=((j+1:Nat):Int):=by rw[IntWalk.i64_in _ (by omega)];omega
  rw[List.drop_eq_getElem_cons hjl] at hg
  have hg:(g || ((decide (lo[j].1≤(i:Int))&&decide ((i:Int)<lo[j].2)) || anyR (lo.drop (j+1)) i))=(fsJ (i:Int) 0 l).isNone:=hg
  rw[← Bool.or_assoc] at hg
  have rcu:=ih (j+1) _ (by omega) (by omega) hg
  refine sy_goK cx0 (vc_ltA old lo l m i g j _ _) ?_
  rw[decide_eq_true (show (j:Int)<(lo.length:Int) by omega),bc_t]
  simp only[Int.toNat_natCast]
  rw[wj]
  simp only[gtR_at hjl]
  cases g with
  | true=>exact ⟨trivial,rcu.only ⟨rfl,rfl,rfl,rfl,rfl,rfl,rfl,rfl,trivial⟩ trivial⟩
  | false=>
   refine ⟨by omega,by omega,bc_of (fun h1=>⟨by omega,by omega,?_⟩) (fun h1=>⟨trivial,?_⟩)⟩
   ·rw[h1] at rcu
    exact rcu.only ⟨rfl,rfl,rfl,rfl,rfl,rfl,rfl,rfl,trivial⟩ trivial
   ·rw[h1] at rcu
    exact rcu.only ⟨rfl,rfl,rfl,rfl,rfl,rfl,rfl,rfl,trivial⟩ trivial
theorem lt_O (I:LtI old lo l m):∀ (k i:Nat),old.length-i=k→i≤old.length→GLt 0 (ltO old lo l m i):=by
 intro k
 induction k with
 | zero=>
  intro i hk hi
  refine sy_goK cx0 (vc_ltO old lo l m i _ _) ?_
  rw[decide_eq_false (show ¬ (i:Int)<(m.length:Int) by rw[I.ml];omega),bc_f]
 | succ k ih=>
  intro i hk hi
  have hlt:i<old.length:=by omega
  refine sy_goK cx0 (vc_ltO old lo l m i _ _) ?_
  rw[decide_eq_true (show (i:Int)<(m.length:Int) by rw[I.ml];omega),bc_t]
  refine lt_A I i hlt (ih (i+1) (by omega) (by omega)) lo.length 0 false rfl (Nat.zero_le _) ?_
  rw[List.drop_zero,Bool.false_or]
  have:=I.cv i hlt
  cases hf:fsJ (i:Int) 0 l with
  | none=>exact anyR_iff.2 (this.2 hf)
  | some v=>
   cases h:anyR lo i with
   | false=>rfl
   | true=>rw[this.1 (anyR_iff.1 h)] at hf;cases hf
end
def ctLt:Ctr:=⟨[raS,.sl uB],fun x=>preBk x.1.1 x.1.2 x.2.1,fun _=>[.bool true],fun _=>[]⟩
theorem lt_run (n:Int) (l:List (List Int)) (b:List Int) (hp:preBk n l b):GD 8 Tryz.f8 (QC ctLt ((n,l),b,())) [.code (bodyOf Tryz.f8)] (entry [raS,.sl uB] ((n,l),b,())):=by
 obtain ⟨hp,hb⟩:=hp
 obtain ⟨hc,hli,hl,hs⟩:=szM_ok hp b
 refine sy_goK cxBk (vc_lt n l b _ _) ?_
 generalize inpL b (szM n l).2.1.toNat=old at *
 generalize szM n l=p at *
 have e2:=ivV_val hc hli hl hs
 obtain ⟨n1,n2⟩:=iv_nf (old:=old) hc hs
 obtain ⟨r1,r2,r3⟩:=sy_right hc
 obtain ⟨lo,l1,l2,l3,l4⟩:=los_ok hc
 have e3:symV (nfP false p.2.2.1 (inS old (symF p.2.2.2)))=(inS old (symF p.2.2.2),0):=by rw[sy_ok n1,n2]
 have hol:old.length=p.2.1.toNat:=by omega
 have hS:(symF p.2.2.2).length≤65536:=by have:=(chkV_ok hc).2.2.1;omega
 rw[e2,l1]
 simp only
 rw[e3,sy_ok hc]
 simp only
 rw[winA,n1]
 have no:∀ {c:Bool} {A B:Prop},c=false→B→bc c A B:=fun h k=>by rw[h];exact k
 refine ⟨trivial,hp,.inl hli,trivial,no (by simp) (no (by simp) ⟨trivial,no (by simp) ⟨by omega,(show lo.length<1099511627776 by omega),no (by rw[l2];rfl) ⟨trivial,trivial,no (by simp[inS_len,hl]) ?_⟩⟩⟩)⟩
 have I:LtI old lo (symF p.2.2.2) (inS old (symF p.2.2.2)):=by
  refine ⟨hS,by omega,by omega,inS_len _ _,fun i hi=>?_,fun i hi=>l4 i (by omega)⟩
  have hi2:i<(inS old (symF p.2.2.2)).length:=by rw[inS_len];exact hi
  rw[gtY_at hi2,inS_at hi hi2,gtB_at hi]
 have g:=lt_O I old.length 0 rfl (Nat.zero_le _)
 generalize symF p.2.2.2=S at *
 refine frzY (i:=1147456) (e:=rgS) (et:=81) (xs:=lo) rfl rfl ?_
 refine frzY (i:=1241664) (e:=syS) (et:=83) (xs:=S) rfl rfl ?_
 refine frzY (i:=1262144) (e:=syS) (et:=83) (xs:=inS old S) rfl rfl ?_
 refine (g.post fun rs blk hq=>QC.flat (by rw[hq];rfl) rfl (by rw[hq];rfl)).only ⟨rfl,rfl,?_,?_,?_,rfl,trivial⟩ trivial
 ·show some (SV.sl rgS (winL rgS 0 lo.length lo))=some (SV.sl rgS lo)
  rw[winA]
 ·show some (SV.sl syS (winL syS 0 S.length S))=some (SV.sl syS S)
  rw[winA]
 ·show some (SV.sl syS (winL syS 0 (inS old S).length (inS old S)))=some (SV.sl syS (inS old S))
  rw[winA]
theorem lt_held:Held Tryz.prog G0 8 ctLt:=Held.of cxBk (fn:=Tryz.f8) rfl rfl ⟨by decide,by decide⟩ fun ⟨⟨n,l⟩,b,_⟩ hp=>lt_run n l b hp
end Go.Proofs.YtncocpjkaggnjaaGreatDoor
