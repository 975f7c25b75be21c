/-
  A part of the proof: what pieces of the program give; conditions: those of each theorem.
-/
import Derived.Test.YtncocpjkaggnjaaGreatDoorQ3
import Derived.KernelRfl
import Derived.Test.YtncocpjkaggnjaaGreatDoorQ2
import Derived.Test.YtncocpjkaggnjaaGreatDoorHD
set_option linter.unusedVariables false
set_option linter.unusedSimpArgs false
namespace Go.Proofs.YtncocpjkaggnjaaGreatDoor
open Go.Px Go.Ax
set_option maxRecDepth 100000
theorem gMs_uMs:∀ (o:MpS) (k k':Int) (v:SyT),gMs (uMs o k v) k'=if k'=k then some v else gMs o k'
 | [],k,k',v=>by
  show (match decide (k'=k) with | true=>some v | false=>none)=_
  by_cases h:k'=k
  ·rw[decide_eq_true h,if_pos h]
  ·rw[decide_eq_false h,if_neg h];rfl
 | p::o,k,k',v=>by
  have ih:=gMs_uMs o k k' v
  show gMs (match decide (k=p.1) with | true=>(k,v)::o | false=>p::uMs o k v) k'=_
  by_cases h:k=p.1
  ·rw[decide_eq_true h]
   show (match decide (k'=k) with | true=>some v | false=>gMs o k')=_
   by_cases h2:k'=k
   ·rw[decide_eq_true h2,if_pos h2]
   ·rw[decide_eq_false h2,if_neg h2]
    show gMs o k'=(match decide (k'=p.1) with | true=>some p.2 | false=>gMs o k')
    rw[decide_eq_false (by rw[← h];exact h2)]
  ·rw[decide_eq_false h]
   show (match decide (k'=p.1) with | true=>some p.2 | false=>gMs (uMs o k v) k')=(if k'=k then some v else (match decide (k'=p.1) with | true=>some p.2 | false=>gMs o k'))
   rw[ih]
   by_cases h2:k'=p.1
   ·have hkk:¬ k'=k:=fun e=>h (e.symm.trans h2)
    rw[decide_eq_true h2]
    show some p.2=if k'=k then some v else some p.2
    rw[if_neg hkk]
   ·rw[decide_eq_false h2]
def fsJ (i:Int):Nat→List SyT→Option SyT
 | _,[]=>none
 | j,s::l=>if s.1=true∧s.2.1=i then some (true,(j:Int),ng s.2.2) else fsJ i (j+1) l
theorem gMs_kpF (i:Int):∀ (l:List SyT) (j:Nat) (o:MpS),gMs (kpF j l o) i=match gMs o i with
  | some v=>some v
  | none=>fsJ i j l
 | [],j,o=>by rw[kpF,fsJ];cases gMs o i <;> rfl
 | s::l,j,o=>by
  rw[kpF,gMs_kpF i l (j+1),fsJ]
  by_cases h:s.1=true∧(gMs o s.2.1).isSome=false
  ·rw[show kpS j s o=uMs o s.2.1 (true,(j:Int),ng s.2.2) from if_pos h,gMs_uMs]
   by_cases e:i=s.2.1
   ·have hn:gMs o i=none:=by rw[e];simpa using h.2
    rw[if_pos e,hn,if_pos ⟨h.1,e.symm⟩]
   ·rw[if_neg e]
    cases gMs o i with
    | some v=>rfl
    | none=>simp only;rw[if_neg fun q=>e q.2.symm]
  ·rw[show kpS j s o=o from if_neg h]
   cases hg:gMs o i with
   | some v=>rfl
   | none=>
    simp only
    rw[if_neg]
    rintro ⟨h1,h2⟩
    exact h ⟨h1,by rw[h2,hg];rfl⟩
theorem kp_is (l:List SyT) (i:Int):gMs (kpF 0 l []) i=fsJ i 0 l:=by rw[gMs_kpF];rfl
theorem fsJ_some {i:Int}:∀ {l:List SyT} {j0:Nat} {v:SyT},fsJ i j0 l=some v→∃ (j:Nat) (h:j<l.length),v=(true,((j0+j:Nat):Int),ng l[j].2.2)∧l[j].1=true∧l[j].2.1=i∧∀ (k:Nat) (hk:k<l.length),k<j→¬ (l[k].1=true∧l[k].2.1=i)
 | [],_,_,h=>by cases h
 | s::l,j0,v,h=>by
  rw[fsJ] at h
  split at h
  ·rename_i hs
   cases h
   exact ⟨0,by simp,rfl,hs.1,hs.2,fun k _ hk=>by omega⟩
  ·rename_i hs
   obtain ⟨j,hj,e1,e2,e3,e4⟩:=fsJ_some h
   refine ⟨j+1,by simpa using hj,by rw[e1];simp;omega,by simpa using e2,by simpa using e3,fun k hk hkj=>?_⟩
   cases k with
   | zero=>exact hs
   | succ k=>exact e4 k (by simpa using hk) (by omega)
theorem isF_at (M:MpS):∀ (b:List Int) (i k:Nat) (h:k<b.length),(isF M i b)[k]?=some ((gMs M ((i+k:Nat):Int)).getD (false,0,b[k]))
 | [],_,_,h=>by simp at h
 | x::b,i,k,h=>by
  rw[isF]
  cases k with
  | zero=>rfl
  | succ k=>
   rw[List.getElem?_cons_succ,isF_at M b (i+1) k (by simpa using h)]
   rw[show i+1+k=i+(k+1) by omega]
   rfl
def inS (old:List Int) (l:List SyT):List SyT:=isF (kpF 0 l []) 0 old
theorem inS_len (old:List Int) (l:List SyT):(inS old l).length=old.length:=isF_len _ _ _
theorem inS_at {old:List Int} {l:List SyT} {i:Nat} (h:i<old.length) (h2:i<(inS old l).length):(inS old l)[i]=(fsJ (i:Int) 0 l).getD (false,0,old[i]):=by
 have:=isF_at (kpF 0 l []) old 0 i h
 rw[Nat.zero_add,kp_is] at this
 have e:(inS old l)[i]?=some ((inS old l)[i]):=List.getElem?_eq_getElem h2
 exact Option.some.inj (e.symm.trans this)
theorem inS_right (old:List Int) (l:List SyT):∀ x∈inS old l,sOK l.length x=true:=fun x hx=>by
 obtain ⟨i,hi,rfl⟩:=List.mem_iff_getElem.1 hx
 have ho:i<old.length:=by rw[inS_len] at hi;exact hi
 rw[inS_at ho hi]
 cases h:fsJ (i:Int) 0 l with
 | none=>rfl
 | some v=>
  obtain ⟨j,hj,rfl,_⟩:=fsJ_some h
  simp only[Option.getD_some,sOK,if_true,Bool.and_eq_true,decide_eq_true_eq]
  omega
theorem ng_back {b o:Int} (h0:0≤o) (h1:o<256):IntKind.u8.wrap (ng b+IntKind.u8.wrap (b+o))=o:=by
 show ((0-b) % 256+(b+o) % 256) % 256=o
 omega
theorem gtB_mapS {f:SyT→Int} {l:List SyT} {j:Nat} (h:j<l.length):gtB (l.map f) j=f l[j]:=by
 rw[gtB_at (by simpa using h),List.getElem_map]
theorem inS_back {old:List Int} (hu:∀ (i:Nat) (h:i<old.length),0≤old[i]∧old[i]<256) (l:List SyT):(inS old l).map (ruB (l.map (ruB old)))=old:=by
 refine List.ext_getElem (by rw[List.length_map,inS_len]) fun i h1 h2=>?_
 rw[List.getElem_map,inS_at h2 (by rw[inS_len];exact h2)]
 cases h:fsJ (i:Int) 0 l with
 | none=>rfl
 | some v=>
  obtain ⟨j,hj,rfl,e2,e3,_⟩:=fsJ_some h
  have hu:=hu i h2
  simp only[Option.getD_some,ruB,if_true,Nat.zero_add,Int.toNat_natCast]
  rw[gtB_mapS hj]
  have:ruB old l[j]=IntKind.u8.wrap (l[j].2.2+gtB old i):=by
   rw[ruB,if_pos e2,e3,Int.toNat_natCast]
  show IntKind.u8.wrap (ng l[j].2.2+ruB old l[j])=old[i]
  rw[this,gtB_at h2]
  exact ng_back hu.1 hu.2
theorem apW_val {old:List Int} {q:PaT} (hq:(chkV q).2=0) (hli:q.1=false) (hl:(old.length:Int)=q.2.1):apW old q=((symF q.2.2.2).map (ruB old),0):=by
 obtain ⟨r1,r2,r3⟩:=sy_right hq
 rw[apW,if_neg (by rw[hli];decide)]
 unfold apV plV
 rw[sy_ok hq]
 rw[if_pos rfl,if_pos hl]
 exact runV_ok (by rw[hl];exact r1)
theorem ivV_val {old:List Int} {q:PaT} (hq:(chkV q).2=0) (hli:q.1=false) (hl:(old.length:Int)=q.2.1) (hs:old.length≤4096):ivV old q=(nfP false q.2.2.1 (inS old (symF q.2.2.2)),0):=by
 obtain ⟨r1,r2,r3⟩:=sy_right hq
 have ho:=(chkV_ok hq).2.2.1
 have hS:ivS old q=inS old (symF q.2.2.2):=by rw[ivS,sy_ok hq];rfl
 have hc:=cpV_ok (s:=inS old (symF q.2.2.2)) (m:=q.2.2.1) (fun x hx=>by rw[← r3];exact inS_right _ _ x hx) ho.1 ho.2 (by rw[inS_len];exact hs)
 unfold ivV
 rw[apW_val hq hli hl,hS,hc,if_neg (by simp),if_neg (by simp),hli]
theorem iv_nf {old:List Int} {q:PaT} (hq:(chkV q).2=0) (hs:old.length≤4096) :
  (chkV (nfP false q.2.2.1 (inS old (symF q.2.2.2)))).2=0∧symF (nfP false q.2.2.1 (inS old (symF q.2.2.2))).2.2.2=inS old (symF q.2.2.2):=by
 obtain ⟨r1,r2,r3⟩:=sy_right hq
 have ho:=(chkV_ok hq).2.2.1
 obtain ⟨n1,n2,_⟩:=nf_ok (s:=inS old (symF q.2.2.2)) (m:=q.2.2.1) false (fun x hx=>by rw[← r3];exact inS_right _ _ x hx) ho.1 ho.2 (by rw[inS_len];exact hs)
 exact ⟨n1,n2⟩
end Go.Proofs.YtncocpjkaggnjaaGreatDoor
namespace Go.Proofs.YtncocpjkaggnjaaGreatDoor
open Go.Px Go.Ax
set_option maxRecDepth 100000
attribute [local irreducible] Go.Px.sy Go.Px.syE
theorem snI_run (R:List Item→PS→Prop):sy tt G0 CSn Tryz.f21.ntmps Tryz.f21.results.toList (QC ctSnI ()) R 1000 [.code (bodyOf Tryz.f21)] (entry [] ()):=by
 refine (vc_snI _ _).mpr ?_
 repeat' first
  | exact trivial
  | exact Or.inl rfl
  | exact Or.inr ⟨by decide +kernel,by decide +kernel⟩
  | (show List.length _<1099511627776;decide +kernel)
  | decide +kernel
  | refine And.intro ?_ ?_
  | (refine QC.flat ?_ rfl rfl)
  | (refine congrArg (fun b=>[SV.bool b]) ?_;decide +kernel)
theorem snI_held:Held Tryz.prog G0 21 ctSnI:=Held.run cxSn (fn:=Tryz.f21) rfl rfl ⟨by decide,by decide⟩ fun x _=>snI_run _
end Go.Proofs.YtncocpjkaggnjaaGreatDoor
namespace Go.Proofs.YtncocpjkaggnjaaGreatDoor
open Go.Px Go.Ax
def u8L (b:List Int):Prop:=∀ j,0≤gtB b j∧gtB b j<256
theorem u8_wf {n:Int} (h:wfD uB n):0≤n∧n<256:=by
 have h:(Lit.int IntKind.u8 n).wf=true:=h
 simp[Lit.wf,IntKind.min,IntKind.max,IntKind.signed,IntKind.bits] at h
 omega
theorem u8_of {l:List Int} (h:∀ x∈l,wfD uB x):u8L l:=fun j=>by
 by_cases hj:j<l.length
 ·rw[gtB_at hj];exact u8_wf (h _ (List.getElem_mem hj))
 ·have:gtB l j=0:=by
   show gt uB _ _=_
   unfold gt
   rw[List.getElem?_eq_none (by omega)];rfl
  rw[this];decide
theorem l4_of {l:List (List Int)} (h:∀ x∈l,wfD a4S x):preL4 l:=fun j=>by
 by_cases hj:j<l.length
 ·have e:gt a4S l j=l[j]:=gtE (e:=a4S) hj
  rw[e]
  exact u8_of (h _ (List.getElem_mem hj)).2
 ·have:gt a4S l j=List.replicate 4 (0:Int):=by
   unfold gt
   rw[List.getElem?_eq_none (by omega)];rfl
  rw[this]
  exact u8_of fun x hx=>by
   rw[List.eq_of_mem_replicate hx];rfl
theorem m6_of {x:Int × List (List Int)} (h:wfD raS x):preM6 x.1 x.2:=⟨u8_wf h.1,l4_of h.2.2,h.2.1⟩
theorem G_get {g:Nat} {x:ABlk} (h:rawG.get g=some x):(g=0∧x=.cells kindCells 181 2)∨(g=1∧x=.cells costCells 214 2):=by
 unfold rawG T.get at h
 split at h
 ·rename_i e;cases h;exact .inl ⟨e,rfl⟩
 ·rename_i h0
  split at h
  ·rename_i h1
   unfold T.get at h
   split at h
   ·rename_i h2;cases h;exact .inr ⟨by omega,rfl⟩
   ·split at h <;> simp[T.get] at h
  ·simp[T.get] at h
theorem hG:Glob G0.raw:=⟨fun g x h=>by rcases G_get h with ⟨rfl,_⟩ | ⟨rfl,_⟩ <;> decide,fun g x h=>by rcases G_get h with ⟨_,rfl⟩ | ⟨_,rfl⟩ <;> decide⟩
abbrev H0:AHeap:=⟨nglob,G0.raw⟩
def Z0:Nat→Option ABlk:=fun g=>rawG.get g
theorem gz0:GZ Z0 G0:=by
 refine ⟨fun g x e=>?_,fun g x e=>e⟩
 simp only[G0,lk] at e
 split at e
 ·rename_i h;subst h;cases e
  refine ⟨by decide,fun ν=>⟨0,0,kindCells,181,2,rfl,rfl,by decide,?_⟩⟩
  exact rv_of (.arr 9 kindSh) kindsL ⟨rfl,fun x _=>⟨trivial,trivial,trivial,trivial,trivial⟩⟩
 ·split at e
  ·rename_i h;subst h;cases e
   refine ⟨by decide,fun ν=>⟨1,0,costCells,214,2,rfl,rfl,by decide,?_⟩⟩
   exact rv_of (.arr 5 coS) costsL ⟨rfl,fun x _=>⟨trivial,trivial⟩⟩
  ·cases e
theorem fro0:Px.Fro G0 H0:=⟨fun i x h=>by rcases G_get h with ⟨rfl,rfl⟩ | ⟨rfl,rfl⟩ <;> rfl,fun i x h=>by rcases G_get h with ⟨rfl,rfl⟩ | ⟨rfl,rfl⟩ <;> trivial,fun i x h=>by rcases G_get h with ⟨rfl,rfl⟩ | ⟨rfl,rfl⟩ <;> decide,gz0⟩
end Go.Proofs.YtncocpjkaggnjaaGreatDoor
namespace Go.Proofs.YtncocpjkaggnjaaGreatDoor
open Go.Px Go.Ax
set_option maxRecDepth 100000
attribute [local irreducible] Go.Px.sy Go.Px.syE
theorem cxBk:CxOK Tryz.prog tt G0 CBk:=(((((((cx0.cons rs_held (fn:=Tryz.f33) rfl rfl rfl).cons rr_held (fn:=Tryz.f32) rfl rfl rfl).cons lo_held (fn:=Tryz.f27) rfl rfl rfl).cons right_held (fn:=Tryz.f31) rfl rfl rfl).cons iv_held (fn:=Tryz.f25) rfl rfl rfl).cons apW_held (fn:=Tryz.f14) rfl rfl rfl).cons two_held (fn:=Tryz.f22) rfl rfl rfl).cons snI_held (fn:=Tryz.f21) rfl rfl rfl
theorem inp_u8 {b:List Int} (hb:u8L b) (n:Nat):∀ (i:Nat) (h:i<(inpL b n).length),0≤(inpL b n)[i]∧(inpL b n)[i]<256:=fun i h=>by
 have e:(inpL b n)[i]=inB b i:=by simp[inpL]
 rw[e]
 unfold inB
 split
 ·exact hb _
 ·show 0≤_ % 256∧_ % 256<(256:Int)
  omega
theorem szM_ok {n:Int} {l:List (List Int)} (hp:preM6 n l) (b:List Int):(chkV (szM n l)).2=0∧(szM n l).1=false∧((inpL b (szM n l).2.1.toNat).length:Int)=(szM n l).2.1∧(inpL b (szM n l).2.1.toNat).length≤4096:=by
 have hi:=szM_in hp
 have hc:=szV_chk (m:=n % 13) hp.2.1 hi.1 (by have:=hi.2;show n % 13≤65536;have h2:n % 13<13:=hi.2;omega)
 refine ⟨by show (chkV (szV l (n % 13))).2=0;rw[hc],rfl,?_,?_⟩
 ·rw[inpL_len];omega
 ·rw[inpL_len];omega
def preBk (n:Int) (l:List (List Int)) (b:List Int):Prop:=preM6 n l∧u8L b
def ctBk:Ctr:=⟨[raS,.sl uB],fun x=>preBk x.1.1 x.1.2 x.2.1,fun _=>[.bool true],fun _=>[]⟩
theorem bk_run (n:Int) (l:List (List Int)) (b:List Int) (hp:preBk n l b) (R:List Item→PS→Prop):sy tt G0 CBk Tryz.f6.ntmps Tryz.f6.results.toList (QC ctBk ((n,l),b,())) R 1000 [.code (bodyOf Tryz.f6)] (entry [raS,.sl uB] ((n,l),b,())):=by
 obtain ⟨hp,hb⟩:=hp
 obtain ⟨hc,hli,hl,hs⟩:=szM_ok hp b
 have hu:=inp_u8 hb (szM n l).2.1.toNat
 refine (vc_bk n l b _ _).mpr ?_
 generalize inpL b (szM n l).2.1.toNat=old at *
 generalize szM n l=p at *
 have e1:=apW_val hc hli hl
 have e2:=ivV_val hc hli hl hs
 obtain ⟨n1,n2⟩:=iv_nf (old:=old) hc hs
 obtain ⟨r1,r2,r3⟩:=sy_right hc
 generalize hS:symF p.2.2.2=S at *
 have e3:apW (S.map (ruB old)) (nfP false p.2.2.1 (inS old S))=(old,0):=by
  rw[apW_val n1 rfl (by rw[List.length_map];exact r3),n2,inS_back hu]
 rw[e1,e2]
 simp only
 rw[winA,e3]
 simp only
 rw[winA,n1]
 have no:∀ {c:Bool} {A B:Prop},c=false→B→bc c A B:=fun h k=>by rw[h];exact k
 refine ⟨trivial,hp,.inl hli,.inl hli,no (by simp) (no (by simp) ⟨trivial,no (by simp) (no (by simp) (no (by simp[inS_len,hl]) (no rfl ⟨by omega,.inl rfl,bc_of (fun _=>⟨by omega,?_⟩) (fun h=>by simp at h)⟩)))⟩)⟩
 exact QC.flat (by show [SV.bool true]=_;rw[decide_eq_true rfl]) rfl rfl
theorem bk_held:Held Tryz.prog G0 6 ctBk:=Held.run cxBk (fn:=Tryz.f6) rfl rfl ⟨by decide,by decide⟩ fun ⟨⟨n,l⟩,b,_⟩ hp=>bk_run n l b hp _
end Go.Proofs.YtncocpjkaggnjaaGreatDoor
