/-
  A part of the proof: what pieces of the program give; conditions: those of each theorem.
-/
import Derived.Test.YticpkibnhakgbaaGreatDoorQ2
import Derived.Test.YticpkibnhakgbaaGreatDoorHD
import Derived.Test.YticpkibnhakgbaaGreatDoorQ0
import Derived.Test.YticpkibnhakgbaaGreatDoorQ1
import Derived.KernelRfl
set_option linter.unusedVariables false
set_option linter.unusedSimpArgs false
namespace Go.Proofs.YticpkibnhakgbaaGreatDoor
open Go.Px Go.Ax
set_option maxRecDepth 100000
attribute [local irreducible] Go.Px.sy Go.Px.syE
theorem zero_mt (z:Int):MtL (fun _=>none) [paV (false,0,0,[]),.int .i64 z] [.agg [.bool false,.int .i64 0,.int .i64 0,.nils],.int .i64 z]:=
 ⟨_,_,rfl,⟨_,rfl,_,_,rfl,rfl,_,_,rfl,rfl,_,_,rfl,rfl,_,_,rfl,.inr ⟨rfl,rfl⟩,rfl⟩,_,_,rfl,rfl,rfl⟩
theorem po_run (l:List SyT) (m:Int) (hp:l.length≤65536) (R:List Item→PS→Prop):sy tt G0 CPo Tryz.f25.ntmps Tryz.f25.results.toList (QC ctPo (l,m,())) R 1000 [.code (bodyOf Tryz.f25)] (entry [.sl syS,iI] (l,m,())):=by
 refine (vc_po l m _ _).mpr ⟨hp,bc_of (fun h=>?_) (fun h=>?_)⟩
 ·have h:(4096:Int)<((chL l).length:Int):=of_decide_eq_true h
  have hv:poV l m=((false,0,0,[]),2):=by unfold poV;rw[if_pos (by omega)]
  exact QC.mt (by show MtL _ [paV (poV l m).1,.int .i64 (poV l m).2] _;rw[hv];exact zero_mt _) rfl
 ·have h:¬ (4096:Int)<((chL l).length:Int):=of_decide_eq_false h
  have hv:poV l m=(((false,m,(l.length:Int),chL l):PaT),(0:Int)):=by unfold poV;rw[if_neg (by omega)]
  exact QC.flat (by show [paV (poV l m).1,.int .i64 (poV l m).2]=_;rw[hv];rfl) rfl rfl
theorem po_held:Held Tryz.prog G0 25 ctPo:=Held.run cxPo (fn:=Tryz.f25) rfl rfl ⟨by decide,by decide⟩ fun ⟨l,m,_⟩ hp=>po_run l m hp _
theorem ofV_60 {l:List SyT} {m:Int} (h:(ofV l m).2≠60):szB m=true∧szB l.length=true∧l.all (sOK m)=true:=by
 unfold ofV at h
 split at h
 ·assumption
 ·exact absurd rfl h
theorem ofV_60' {l:List SyT} {m:Int} (h:szB m=true∧szB l.length=true∧l.all (sOK m)=true):(ofV l m).2≠60:=by
 unfold ofV
 rw[if_pos h]
 split
 ·exact (show (2:Int)≠60 by decide)
 ·exact (show (0:Int)≠60 by decide)
theorem szB_le {n:Int} (h:szB n=true):0≤n∧n≤65536:=by simpa [szB] using h
theorem cxCp:CxOK Tryz.prog tt G0 [(33,.inl ctOfA),(25,.inl ctPo)]:=(cx0.cons po_held (fn:=Tryz.f25) rfl rfl rfl).cons ofA_held (fn:=Tryz.f33) rfl rfl rfl
theorem cp_run (l:List SyT) (m:Int) (hp:l.length<16777216) (R:List Item→PS→Prop):sy tt G0 [(33,.inl ctOfA),(25,.inl ctPo)] Tryz.f22.ntmps Tryz.f22.results.toList (QC ctCp (l,m,())) R 1000 [.code (bodyOf Tryz.f22)] (entry [.sl syS,iI] (l,m,())):=by
 refine (vc_cp l m _ _).mpr ⟨hp,bc_of (fun h=>?_) (fun h=>?_)⟩
 ·have h:(ofV l m).2=60:=of_decide_eq_true h
  have hv:cpV l m=((false,0,0,[]),60):=by unfold cpV;rw[if_pos h]
  rw[h]
  exact QC.mt (by show MtL _ [paV (cpV l m).1,.int .i64 (cpV l m).2] _;rw[hv];exact zero_mt _) rfl
 ·have h:¬ (ofV l m).2=60:=of_decide_eq_false h
  have hz:=szB_le (ofV_60 h).2.1
  have hv:cpV l m=poV l m:=by unfold cpV;rw[if_neg h]
  exact ⟨(show l.length≤65536 by omega),QC.flat (by show [paV (cpV l m).1,.int .i64 (cpV l m).2]=_;rw[hv];rfl) rfl rfl⟩
theorem cp_held:Held Tryz.prog G0 22 ctCp:=Held.run cxCp (fn:=Tryz.f22) rfl rfl ⟨by decide,by decide⟩ fun ⟨l,m,_⟩ hp=>cp_run l m hp _
theorem symV_le (p:PaT):(symV p).1.length≤65536:=by
 unfold symV
 split
 ·rename_i h
  obtain ⟨h1,h2,h3,_⟩:=chkV_ok h
  have:=symF_len h1
  show (symF p.2.2.2).length≤65536
  omega
 ·exact Nat.zero_le _
theorem cxFo:CxOK Tryz.prog tt G0 [(19,.inl ctSym),(25,.inl ctPo)]:=(cx0.cons po_held (fn:=Tryz.f25) rfl rfl rfl).cons sym_held (fn:=Tryz.f19) rfl rfl rfl
theorem fo_run (li:Bool) (m o:Int) (l:List OpT) (R:List Item→PS→Prop):sy tt G0 [(19,.inl ctSym),(25,.inl ctPo)] Tryz.f16.ntmps Tryz.f16.results.toList (QC ctFo ((li,m,o,l),())) R 1000 [.code (bodyOf Tryz.f16)] (entry [paS] ((li,m,o,l),())):=by
 refine (vc_fo li m o l _ _).mpr ⟨trivial,bc_of (fun h=>?_) (fun h=>?_)⟩
 ·have h:(symV (li,m,o,l)).2≠0:=of_decide_eq_true h
  have hv:foV (li,m,o,l)=((false,0,0,[]),(symV (li,m,o,l)).2):=by unfold foV;rw[if_neg h]
  exact QC.mt (by show MtL _ [paV (foV (li,m,o,l)).1,.int .i64 (foV (li,m,o,l)).2] _;rw[hv];exact zero_mt _) rfl
 ·have h:¬ (symV (li,m,o,l)).2≠0:=of_decide_eq_false h
  have h:(symV (li,m,o,l)).2=0:=by omega
  rw[winA]
  refine ⟨by omega,by omega,by omega,by omega,by omega,symV_le _,bc_of (fun h2=>?_) (fun h2=>?_)⟩
  ·have h2:(poV (symV (li,m,o,l)).1 m).2≠0:=of_decide_eq_true h2
   have hv:foV (li,m,o,l)=((false,0,0,[]),(poV (symV (li,m,o,l)).1 m).2):=by unfold foV;rw[if_pos h,if_neg h2]
   exact QC.mt (by show MtL _ [paV (foV (li,m,o,l)).1,.int .i64 (foV (li,m,o,l)).2] _;rw[hv];exact zero_mt _) rfl
  ·have h2:¬ (poV (symV (li,m,o,l)).1 m).2≠0:=of_decide_eq_false h2
   have h2:(poV (symV (li,m,o,l)).1 m).2=0:=by omega
   have hv:foV (li,m,o,l)=((li,(poV (symV (li,m,o,l)).1 m).1.2),0):=by unfold foV;rw[if_pos h,if_pos h2]
   exact QC.flat (by show [paV (foV (li,m,o,l)).1,.int .i64 (foV (li,m,o,l)).2]=_;rw[hv];rfl) rfl rfl
theorem fo_held:Held Tryz.prog G0 16 ctFo:=Held.run cxFo (fn:=Tryz.f16) rfl rfl ⟨by decide,by decide⟩ fun ⟨⟨li,m,o,l⟩,_⟩ _=>fo_run li m o l _
end Go.Proofs.YticpkibnhakgbaaGreatDoor
namespace Go.Proofs.YticpkibnhakgbaaGreatDoor
open Go.Px Go.Ax
set_option maxRecDepth 100000
set_option maxRecDepth 100000
end Go.Proofs.YticpkibnhakgbaaGreatDoor
namespace Go.Proofs.YticpkibnhakgbaaGreatDoor
open Go.Px Go.Ax
set_option maxRecDepth 100000
attribute [local irreducible] Go.Px.sy Go.Px.syE
end Go.Proofs.YticpkibnhakgbaaGreatDoor
namespace Go.Proofs.YticpkibnhakgbaaGreatDoor
open Go.Px Go.Ax
set_option maxRecDepth 100000
set_option maxRecDepth 100000
end Go.Proofs.YticpkibnhakgbaaGreatDoor
namespace Go.Proofs.YticpkibnhakgbaaGreatDoor
end Go.Proofs.YticpkibnhakgbaaGreatDoor
namespace Go.Proofs.YticpkibnhakgbaaGreatDoor
open Go.Px Go.Ax
set_option maxRecDepth 100000
theorem poV_ok {s:List SyT} {m:Int} (hr:∀ x∈s,sOK m x=true) (h0:0≤m) (h1:m≤65536) (hl:s.length≤4096):poV s m=((false,m,(s.length:Int),chL s),0)∧symF (chL s)=s∧(∀ x∈chL s,isRB x m=true)∧costS (chL s)=cst s∧(chL s).length≤4096 ∧
  (chkV (false,m,(s.length:Int),chL s)).2=0:=by
 obtain ⟨c1,c2,c3,c4⟩:=ch_ok (m:=m) (by omega) s.length s (Nat.le_refl _) (by omega) hr
 have hb:=bst_bo s (by omega)
 unfold boL at hb
 have hlen:(chL s).length≤4096:=by
  show (chF s.length s).length≤4096
  have:oct s=(bst s).2.2.2:=rfl
  omega
 have hs:=symF_len c2
 rw[c1] at hs
 refine ⟨?_,c1,c2,c3,hlen,?_⟩
 ·unfold poV
  rw[if_neg (by omega)]
 ·have:=chkV_of (li:=false) (o:=(s.length:Int)) h0 h1 (by omega) hlen c2 hs.symm
  rw[this]
theorem cpV_ok {s:List SyT} {m:Int} (hr:∀ x∈s,sOK m x=true) (h0:0≤m) (h1:m≤65536) (hl:s.length≤4096):cpV s m=((false,m,(s.length:Int),chL s),0):=by
 unfold cpV
 rw[if_neg (ofV_60' ⟨by simp[szB];omega,by simp[szB];omega,by rw[List.all_eq_true];exact hr⟩)]
 exact (poV_ok hr h0 h1 hl).1
theorem elO_sOK {x:OpT} {m:Int} (h:isRB x m=true) (h0:0≤m) (hm:m<16777216) {k:Nat} (hk:(k:Int)<x.2.2.1):sOK m (elO x.1.toNat x k)=true:=by
 have pp:=isRB_part h ⟨h0,hm⟩
 rcases (isRB_kind h).1 with e | e | e | e
 ·rw[e]
  have pp:=pp (.inl e)
  show sOK m (true,IntKind.i64.wrap (x.2.1+(k:Int)),0)=true
  rw[IntWalk.i64_in _ (by omega)]
  simp[sOK];omega
 ·rw[e]
  have pp:=pp (.inr e)
  show sOK m (true,IntKind.i64.wrap (x.2.1+(k:Int)),gtB x.2.2.2.2 k)=true
  rw[IntWalk.i64_in _ (by omega)]
  simp[sOK];omega
 ·rw[e];rfl
 ·rw[e];rfl
theorem sym_sOK {m:Int} (h0:0≤m) (hm:m<16777216) {l:List OpT} (hr:∀ x∈l,isRB x m=true):∀ s∈symF l,sOK m s=true:=fun s hs=>by
 obtain ⟨x,hx,k,hk,e⟩:=sym_mem hr s hs
 rw[e]
 exact elO_sOK (hr x hx) h0 hm hk
theorem chkV_in {p:PaT} (h:(chkV p).2=0):0≤p.2.1∧p.2.1≤65536:=by
 unfold chkV at h
 split at h
 ·rename_i q;exact szB_le q.1
 ·cases h
theorem sy_ok {p:PaT} (h:(chkV p).2=0):symV p=(symF p.2.2.2,0):=by unfold symV;rw[if_pos h]
end Go.Proofs.YticpkibnhakgbaaGreatDoor
namespace Go.Proofs.YticpkibnhakgbaaGreatDoor
open Go.Px Go.Ax
set_option maxRecDepth 100000
theorem symV_ok {p:PaT} (h:(symV p).2=0):(chkV p).2=0∧(symV p).1=symF p.2.2.2:=by
 unfold symV at h ⊢
 split at h
 ·rename_i q;rw[if_pos q];exact ⟨q,rfl⟩
 ·rename_i q;exact absurd h q
theorem symV_right {p:PaT} (h:(symV p).2=0):(∀ s∈(symV p).1,sOK p.2.1 s=true)∧(0≤p.2.1∧p.2.1≤65536)∧((symV p).1.length:Int)=p.2.2.1:=by
 obtain ⟨h1,h2⟩:=symV_ok h
 obtain ⟨hr,hs,ho,hl⟩:=chkV_ok h1
 have hi:=chkV_in h1
 rw[h2]
 exact ⟨sym_sOK hi.1 (by omega) hr,hi,by rw[symF_len hr,hs]⟩
def thE (a:List SyT) (s:SyT):SyT:=if s.1=true then ((gtY a s.2.1.toNat).1,(gtY a s.2.1.toNat).2.1,IntKind.u8.wrap ((gtY a s.2.1.toNat).2.2+s.2.2)) else (false,0,s.2.2)
def thOK (n:Nat) (s:SyT):Bool := !s.1 || (decide (0≤s.2.1)&&decide (s.2.1<n))
def thL (a b:List SyT):List SyT:=b.map (thE a)
def thV (a b:List SyT):List SyT × Int:=if b.all (thOK a.length)=true then (thL a b,0) else ([],61)
abbrev zP:PaT:=(false,0,0,[])
def coV (p q:PaT):PaT × Int:=
 if (symV p).2≠0 then (zP,(symV p).2) else if (symV q).2≠0 then (zP,(symV q).2) else
 if p.1≠q.1 then (zP,62) else if p.2.2.1≠q.2.1 then (zP,61) else
 if (cpV (thL (symV p).1 (symV q).1) p.2.1).2≠0 then (zP,(cpV (thL (symV p).1 (symV q).1) p.2.1).2) else ((p.1,(cpV (thL (symV p).1 (symV q).1) p.2.1).1.2),0)
def alF:PaT × Int→List PaT→PaT × Int
 | r,[]=>r
 | r,q::l=>if (coV r.1 q).2≠0 then coV r.1 q else alF (coV r.1 q) l
def allV:List PaT→PaT × Int
 | []=>(zP,1)
 | p::l=>if (foV p).2≠0 then (zP,(foV p).2) else alF (foV p) l
def byL (s:List SyT):Prop:=∀ x∈s,0≤x.2.2∧x.2.2<256
theorem thL_len (a b:List SyT):(thL a b).length=b.length:=by simp[thL]
theorem gtY_mem {a:List SyT} {i:Nat} (h:i<a.length):gtY a i∈a:=by
 rw[gtY_at h];exact List.getElem_mem h
theorem sOK_th {n:Nat} {s:SyT} (h:sOK n s=true):thOK n s=true:=by
 unfold sOK at h;unfold thOK
 split at h
 ·rw[h];simp
 ·rename_i q;simp[q]
theorem thOK_lt {n:Nat} {s:SyT} (h:thOK n s=true) (hs:s.1=true):0≤s.2.1∧s.2.1.toNat<n:=by
 unfold thOK at h
 rw[hs] at h
 simp only[Bool.not_true,Bool.false_or,Bool.and_eq_true,decide_eq_true_eq] at h
 omega
theorem thE_sOK {a:List SyT} {m:Int} {s:SyT} (ha:∀ x∈a,sOK m x=true) (hs:sOK a.length s=true):sOK m (thE a s)=true:=by
 unfold thE
 split
 ·rename_i h
  have h1:=thOK_lt (sOK_th hs) h
  have h2:=ha _ (gtY_mem h1.2)
  unfold sOK at h2 ⊢
  exact h2
 ·simp[sOK]
theorem thL_sOK {a b:List SyT} {m:Int} (ha:∀ x∈a,sOK m x=true) (hb:∀ x∈b,sOK a.length x=true):∀ x∈thL a b,sOK m x=true:=fun x hx=>by
 obtain ⟨s,hs,e⟩:=List.mem_map.1 hx
 rw[← e];exact thE_sOK ha (hb s hs)
theorem thV_ok {a b:List SyT} (hb:∀ x∈b,sOK a.length x=true):thV a b=(thL a b,0):=by
 unfold thV
 rw[if_pos (List.all_eq_true.2 fun x hx=>sOK_th (hb x hx))]
abbrev nfP (li:Bool) (m:Int) (s:List SyT):PaT:=(li,m,(s.length:Int),chL s)
theorem nf_ok {s:List SyT} {m:Int} (li:Bool) (hr:∀ x∈s,sOK m x=true) (h0:0≤m) (h1:m≤65536) (hl:s.length≤4096):(chkV (nfP li m s)).2=0∧symF (chL s)=s∧symV (nfP li m s)=(s,0):=by
 obtain ⟨q1,q2,q3,q4,q5,q6⟩:=poV_ok hr h0 h1 hl
 have q6:(chkV (nfP li m s)).2=0:=q6
 refine ⟨q6,q2,?_⟩
 unfold symV
 rw[if_pos q6]
 exact Prod.ext q2 rfl
theorem fo_nf {p:PaT} (h:(chkV p).2=0) (hs:p.2.2.1≤4096):foV p=(nfP p.1 p.2.1 (symF p.2.2.2),0):=by
 obtain ⟨h1,h2,h3⟩:=symV_right (p:=p) (by rw[sy_ok h])
 rw[sy_ok h] at h1 h3
 have h1:∀ s∈symF p.2.2.2,sOK p.2.1 s=true:=h1
 have h3:((symF p.2.2.2).length:Int)=p.2.2.1:=h3
 obtain ⟨q1,_⟩:=poV_ok h1 h2.1 h2.2 (by omega)
 unfold foV
 rw[sy_ok h]
 simp only[q1]
 rfl
theorem co_nf {p q:PaT} (hp:(chkV p).2=0) (hq:(chkV q).2=0) (hl:p.1=q.1) (ho:p.2.2.1=q.2.1) (hs:q.2.2.1≤4096) :
  coV p q=(nfP p.1 p.2.1 (thL (symF p.2.2.2) (symF q.2.2.2)),0):=by
 obtain ⟨a1,a2,a3⟩:=symV_right (p:=p) (by rw[sy_ok hp])
 obtain ⟨b1,b2,b3⟩:=symV_right (p:=q) (by rw[sy_ok hq])
 rw[sy_ok hp] at a1 a3
 rw[sy_ok hq] at b1 b3
 have a3:((symF p.2.2.2).length:Int)=p.2.2.1:=a3
 have b3:((symF q.2.2.2).length:Int)=q.2.2.1:=b3
 have c1:=cpV_ok (m:=p.2.1) (thL_sOK a1 (b:=symF q.2.2.2) (fun x hx=>by rw[a3,ho];exact b1 x hx)) a2.1 a2.2 (by rw[thL_len];omega)
 unfold coV
 rw[sy_ok hp,sy_ok hq]
 rw[if_neg (by simp),if_neg (by simp),if_neg (by simpa using hl),if_neg (by simpa using ho)]
 simp only[c1]
 rfl
def syC:List SyT→List PaT→List SyT
 | s,[]=>s
 | s,q::l=>syC (thL s (symF q.2.2.2)) l
def chn (li:Bool):Int→List PaT→Prop
 | _,[]=>True
 | o,q::l=>(chkV q).2=0∧q.1=li∧o=q.2.1∧q.2.2.1≤4096∧chn li q.2.2.1 l
theorem sy_right {q:PaT} (h:(chkV q).2=0):(∀ s∈symF q.2.2.2,sOK q.2.1 s=true)∧(0≤q.2.1∧q.2.1≤65536)∧((symF q.2.2.2).length:Int)=q.2.2.1:=by
 have:=symV_right (p:=q) (by rw[sy_ok h])
 rw[sy_ok h] at this
 exact this
theorem syC_ok {m:Int} {li:Bool}:∀ {l:List PaT} {s:List SyT},(∀ x∈s,sOK m x=true)→s.length≤4096→chn li s.length l→(∀ x∈syC s l,sOK m x=true)∧(syC s l).length≤4096
 | [],s,h,h2,_=>⟨h,h2⟩
 | q::l,s,h,h2,hc=>by
  obtain ⟨c1,c2,c3,c4,c5⟩:=hc
  obtain ⟨r1,r2,r3⟩:=sy_right c1
  refine syC_ok (li:=li) (l:=l) (s:=thL s (symF q.2.2.2)) (thL_sOK h fun x hx=>by rw[c3];exact r1 x hx) (by rw[thL_len];omega) ?_
  rw[thL_len,r3];exact c5
theorem al_nf {m:Int} {li:Bool} (h0:0≤m) (h1:m≤65536):∀ {l:List PaT} {s:List SyT},(∀ x∈s,sOK m x=true)→s.length≤4096→chn li s.length l→alF (nfP li m s,0) l=(nfP li m (syC s l),0)
 | [],s,h,h2,_=>rfl
 | q::l,s,h,h2,hc=>by
  obtain ⟨c1,c2,c3,c4,c5⟩:=hc
  obtain ⟨r1,r2,r3⟩:=sy_right c1
  obtain ⟨n1,n2,n3⟩:=nf_ok li h h0 h1 h2
  have e:=co_nf n1 c1 (show li=q.1 from c2.symm) c3 c4
  rw[show symF (nfP li m s).2.2.2=s from n2] at e
  rw[alF,show (nfP li m s,(0:Int)).1=nfP li m s from rfl,e,if_neg (by simp)]
  refine al_nf h0 h1 (l:=l) (s:=thL s (symF q.2.2.2)) (thL_sOK h fun x hx=>by rw[c3];exact r1 x hx) (by rw[thL_len];omega) ?_
  rw[thL_len,r3];exact c5
theorem all_nf {p:PaT} {l:List PaT} (h:(chkV p).2=0) (hs:p.2.2.1≤4096) (hc:chn p.1 p.2.2.1 l):allV (p::l)=(nfP p.1 p.2.1 (syC (symF p.2.2.2) l),0):=by
 obtain ⟨r1,r2,r3⟩:=sy_right h
 rw[allV,fo_nf h hs,if_neg (by simp)]
 exact al_nf r2.1 r2.2 r1 (by omega) (by rw[r3];exact hc)
end Go.Proofs.YticpkibnhakgbaaGreatDoor
namespace Go.Proofs.YticpkibnhakgbaaGreatDoor
open Go.Px Go.Ax
set_option maxRecDepth 100000
theorem gtB_rg {d:List Int} (h:∀ v∈d,0≤v∧v<256) (k:Nat):0≤gtB d k∧gtB d k<256:=by
 by_cases hk:k<d.length
 ·rw[gtB_at hk];exact h _ (List.getElem_mem hk)
 ·have:gtB d k=0:=by
   show gt uB _ _=_
   unfold gt
   rw[List.getElem?_eq_none (by omega)];rfl
  rw[this];decide
theorem datO_rg (x:List Int) (k n:Int):∀ v∈datO x k n,0≤v∧v<256:=fun v hv=>by
 unfold datO at hv
 split at hv
 ·unfold datA at hv
  obtain ⟨j,_,e⟩:=List.mem_map.1 hv
  rw[← e]
  unfold elA
  generalize gtB x 3*_=t
  simp[IntKind.wrap,IntKind.bits,IntKind.signed];omega
 ·cases hv
theorem opV_rg {x:List Int} (hx:preB4 x) (m:Int):(0≤(opV x m).2.2.2.1∧(opV x m).2.2.2.1<256)∧∀ v∈(opV x m).2.2.2.2,0≤v∧v<256:=by
 unfold opV
 split
 ·split
  ·exact ⟨⟨Int.le_refl 0,(show (0:Int)<256 by decide)⟩,fun v hv=>datO_rg x 4 (1+(gtB x 2).tmod 5) v hv⟩
  ·exact ⟨⟨Int.le_refl 0,(show (0:Int)<256 by decide)⟩,fun v hv=>datO_rg x (1+(gtB x 0).tmod 4) (1+((gtB x 2).tmod (m-(gtB x 1).tmod m)).tmod 5) v hv⟩
 ·refine ⟨?_,fun v hv=>datO_rg x (1+(gtB x 0).tmod 4) (1+(gtB x 2).tmod 5) v hv⟩
  show 0≤(if 1+(gtB x 0).tmod 4=3 then gtB x 3 else 0)∧(if 1+(gtB x 0).tmod 4=3 then gtB x 3 else 0)<256
  split
  ·exact hx 3
  ·decide
theorem szO_by {l:List (List Int)} {m:Int} (hl:preL4 l) (h0:0≤m) (h1:m≤65536):byL (symF (szO l m)):=fun s hs=>by
 obtain ⟨x,hx,k,hk,e⟩:=sym_mem (szO_right hl h0 h1) s hs
 have hk4:=(isRB_kind (szO_right hl h0 h1 x hx)).1
 unfold szO szL at hx
 obtain ⟨j,_,ex⟩:=List.mem_map.1 hx
 have r:=opV_rg (hl j) m
 rw[ex] at r
 rw[e]
 have z:(0:Int)≤0∧(0:Int)<256:=by decide
 rcases hk4 with q | q | q | q <;> rw[q]
 ·exact z
 ·exact gtB_rg r.2 k
 ·exact r.1
 ·exact gtB_rg r.2 k
theorem szV_ok {l:List (List Int)} {m:Int} (hl:preL4 l) (h0:0≤m) (h1:m≤65536):(chkV (szV l m)).2=0∧(szV l m).2.2.1≤30∧(szV l m).2.2.2.length≤6∧byL (symF (szV l m).2.2.2):=by
 rw[szV_chk hl h0 h1]
 exact ⟨rfl,(szO_sum hl h0).2,szO_len l m,szO_by hl h0 h1⟩
theorem gtB_map {a:List SyT} {f:SyT→Int} {i:Nat} (h:i<a.length):gtB (a.map f) i=f (gtY a i):=by
 rw[gtB_at (by simpa using h),gtY_at h,List.getElem_map]
theorem ruB_th {old:List Int} {a:List SyT} {s:SyT} (hs:thOK a.length s=true):ruB old (thE a s)=ruB (a.map (ruB old)) s:=by
 by_cases h:s.1=true
 ·have h1:=thOK_lt hs h
  have e1:thE a s=((gtY a s.2.1.toNat).1,(gtY a s.2.1.toNat).2.1,IntKind.u8.wrap ((gtY a s.2.1.toNat).2.2+s.2.2)):=by unfold thE;rw[if_pos h]
  have e2:ruB (a.map (ruB old)) s=IntKind.u8.wrap (s.2.2+gtB (a.map (ruB old)) s.2.1.toNat):=by unfold ruB;rw[if_pos h]
  rw[e1,e2,gtB_map h1.2]
  generalize gtY a s.2.1.toNat=t
  unfold ruB
  by_cases h2:t.1=true
  ·rw[if_pos h2,if_pos h2]
   simp only[show ∀ n,IntKind.u8.wrap n=n % 256 from fun _=>rfl]
   omega
  ·rw[if_neg h2,if_neg h2,Int.add_comm]
 ·have e1:thE a s=(false,0,s.2.2):=by unfold thE;rw[if_neg h]
  have e2:ruB (a.map (ruB old)) s=s.2.2:=by unfold ruB;rw[if_neg h]
  rw[e1,e2];rfl
theorem thL_run {old:List Int} {a b:List SyT} (hb:∀ x∈b,thOK a.length x=true):(thL a b).map (ruB old)=b.map (ruB (a.map (ruB old))):=by
 show (b.map _).map _=_
 rw[List.map_map]
 exact List.map_congr_left fun s hs=>ruB_th (hb s hs)
theorem runV_ok {old:List Int} {l:List SyT} (h:∀ x∈l,sOK old.length x=true):runV old l=(l.map (ruB old),0):=by
 unfold runV
 rw[if_pos (List.all_eq_true.2 fun x hx=>show ruOK old x=true from sOK_th (h x hx))]
end Go.Proofs.YticpkibnhakgbaaGreatDoor
namespace Go.Proofs.YticpkibnhakgbaaGreatDoor
open Go.Px Go.Ax
set_option maxRecDepth 100000
attribute [local irreducible] Go.Px.sy Go.Px.syE
def ctTh:Ctr:=⟨[.sl syS,.sl syS],fun x=>List.length x.2.1<16777216,fun x=>[.win true syS 0 0 (thV x.1 x.2.1).1.length,.int .i64 (thV x.1 x.2.1).2],fun x=>[.row 45 syS (thV x.1 x.2.1).1]⟩
abbrev ThQ (a b:List SyT):List SV→List (Nat × LB)→Prop:=QC ctTh (a,b,())
theorem th_bad {a b:List SyT} {i:Nat} (h:i<b.length) (hb:thOK a.length b[i]=false):thV a b=([],61):=by
 unfold thV
 rw[if_neg fun q=>by
  have:=List.all_eq_true.1 q b[i] (List.getElem_mem h)
  rw[hb] at this;cases this]
def thS (a b:List SyT) (i:Nat):List SyT:=thL a (b.take i)++List.replicate (b.length-i) (false,0,0)
theorem thS_len {a b:List SyT} {i:Nat} (h:i≤b.length):(thS a b i).length=b.length:=by
 unfold thS;rw[List.length_append,thL_len,List.length_take,List.length_replicate];omega
theorem thS_at {a b:List SyT} {i:Nat} (h:i<b.length):gtY (thS a b i) i=(false,0,0):=by
 rw[gtY_at (by rw[thS_len (by omega)];exact h)]
 unfold thS
 rw[List.getElem_append_right (by rw[thL_len,List.length_take];omega),List.getElem_replicate]
theorem thS_set {a b:List SyT} {i:Nat} (h:i<b.length):(thS a b i).set i (thE a (gtY b i))=thS a b (i+1):=by
 have e:(thL a (b.take i)).length=i:=by rw[thL_len,List.length_take];omega
 unfold thS
 rw[List.set_append_right _ _ (by omega),e,Nat.sub_self,show b.length-i=(b.length-(i+1))+1 by omega,List.replicate_succ,List.set_cons_zero,List.take_succ_eq_append_getElem h,gtY_at h]
 show _=(List.map _ (_++_))++_
 rw[List.map_append,List.append_assoc];rfl
theorem gtY_set {l:List SyT} {i:Nat} {v:SyT} (h:i<l.length):gtY (l.set i v) i=v:=by
 rw[gtY_at (by simpa using h),List.getElem_set_self]
theorem th_loop (a b:List SyT) (hb:b.length<16777216):∀ (k i:Nat),b.length-i=k→i≤b.length→(∀ s∈b.take i,thOK a.length s=true) →
  GD 11 Tryz.f11 (ThQ a b) (hd Tryz.f11 0) ⟨[(0,.sl syS a),(6,.win true syS 11 0 b.length),(12,.sl syS b),(13,.int .i64 b.length),(14,.int .i64 (i:Nat))],[(11,.row 45 syS (thS a b i))]⟩:=by
 intro k
 induction k with
 | zero=>
  intro i hk hi ht
  have hi:i=b.length:=by omega
  refine sy_goK cx0 (vc_thL a b (thS a b i) i b.length _ _) ?_
  rw[decide_eq_false (by omega),bc_f]
  have hs:thS a b i=thL a b:=by
   unfold thS;rw[hi,List.take_length,Nat.sub_self];exact List.append_nil _
  have hv:thV a b=(thL a b,0):=by
   unfold thV;rw[if_pos (List.all_eq_true.2 fun x hx=>ht x (by rw[hi,List.take_length];exact hx))]
  rw[hs]
  exact qc_rowI (e:=syS) (et:=45) (a:=11) (xs:=thL a b) (z:=0) (by show [SV.win true syS 0 0 (thV a b).1.length,.int .i64 (thV a b).2]=_;rw[hv]) (by show [LB.row 45 syS (thV a b).1]=_;rw[hv]) rfl (by rw[thL_len,Int.toNat_natCast]) rfl
 | succ k ih=>
  intro i hk hi ht
  have hlt:i<b.length:=by omega
  have hl:=thS_len (a:=a) (b:=b) (i:=i) hi
  refine sy_goK cx0 (vc_thL a b (thS a b i) i b.length _ _) ?_
  rw[decide_eq_true (show (i:Int)<(b.length:Int) by omega),bc_t,Int.toNat_natCast,Int.toNat_natCast,Nat.zero_add,IntWalk.i64_in ((i:Int)+1) (by omega)]
  have nx:thOK a.length (gtY b i)=true→∀ xs,xs=thS a b (i+1)→GD 11 Tryz.f11 (ThQ a b) (hd Tryz.f11 0) ⟨[(0,.sl syS a),(6,.win true syS 11 0 b.length),(12,.sl syS b),(13,.int .i64 b.length),(14,.int .i64 ((i:Int)+1))],[(11,.row 45 syS xs)]⟩:=fun ho xs he=>by
   subst he
   refine ih (i+1) (by omega) (by omega) fun s hs=>?_
   rw[List.take_succ_eq_append_getElem hlt] at hs
   rcases List.mem_append.1 hs with q | q
   ·exact ht s q
   ·rw[gtY_at hlt] at ho
    rw[List.mem_singleton.1 q];exact ho
  have bad:thOK a.length (gtY b i)=false→∀ bl,ThQ a b [SV.nils,.int .i64 61] bl:=fun ho bl=>by
   rw[gtY_at hlt] at ho
   have hv:=th_bad hlt ho
   exact qc_nilI (e:=syS) (et:=45) (z:=61) (by show [SV.win true syS 0 0 (thV a b).1.length,.int .i64 (thV a b).2]=_;rw[hv];rfl) (by show [LB.row 45 syS (thV a b).1]=_;rw[hv]) rfl (by decide)
  refine ⟨by omega,by omega,bc_of (fun h=>?_) (fun h=>?_)⟩
  ·have h:(gtY b i).1=false:=by simpa using h
   refine ⟨by omega,by omega,by omega,nx (by unfold thOK;rw[h];rfl) _ ?_⟩
   rw[thS_at hlt,← thS_set hlt]
   have:thE a (gtY b i)=(false,0,(gtY b i).2.2):=by unfold thE;rw[h];rfl
   rw[this]
  ·have h:(gtY b i).1=true:=by simpa using h
   refine bc_of (fun h2=>⟨rfl,bad ?_ _⟩) (fun h2=>bc_of (fun h3=>bad ?_ _) (fun h3=>?_))
   ·have h2:(gtY b i).2.1<0:=of_decide_eq_true h2
    unfold thOK
    rw[h,decide_eq_false (by omega)];rfl
   ·have h3:(a.length:Int)≤(gtY b i).2.1:=of_decide_eq_true h3
    unfold thOK
    rw[h,decide_eq_false (show ¬ (gtY b i).2.1<(a.length:Int) by omega)];simp
   ·have h2:¬ (gtY b i).2.1<0:=of_decide_eq_false h2
    have h3:¬ (a.length:Int)≤(gtY b i).2.1:=of_decide_eq_false h3
    refine ⟨by omega,by omega,by omega,by omega,by omega,by omega,by omega,by rw[List.length_set];omega,by omega,by omega,by rw[List.length_set];omega,nx ?_ _ ?_⟩
    ·unfold thOK
     rw[h,decide_eq_true (by omega),decide_eq_true (by omega)];rfl
    ·rw[gtY_set (by omega),List.set_set,← thS_set hlt]
     have:thE a (gtY b i)=((gtY a (gtY b i).2.1.toNat).1,(gtY a (gtY b i).2.1.toNat).2.1,IntKind.u8.wrap ((gtY a (gtY b i).2.1.toNat).2.2+(gtY b i).2.2)):=by unfold thE;rw[if_pos h]
     rw[this]
theorem th_run (a b:List SyT) (hb:b.length<16777216):GD 11 Tryz.f11 (ThQ a b) [.code (bodyOf Tryz.f11)] (entry [.sl syS,.sl syS] (a,b,())):=by
 refine sy_goK cx0 (vc_th a b _ _) ⟨by omega,by omega,by omega,by omega,?_⟩
 have h:=th_loop a b hb _ 0 rfl (Nat.zero_le _) (fun s hs=>by cases hs)
 rw[show thS a b 0=List.replicate (b.length:Int).toNat syS.dflt by unfold thS;rw[Int.toNat_natCast];rfl] at h
 rw[Int.toNat_natCast] at h ⊢
 exact h
theorem th_held:Held Tryz.prog G0 11 ctTh:=Held.of cx0 (fn:=Tryz.f11) rfl rfl ⟨by decide,by decide⟩ fun ⟨a,b,_⟩ hp=>th_run a b hp
end Go.Proofs.YticpkibnhakgbaaGreatDoor
namespace Go.Proofs.YticpkibnhakgbaaGreatDoor
open Go.Px Go.Ax
set_option maxRecDepth 100000
abbrev gtP (l:List PaT) (i:Nat):PaT:=gt paS l i
def CCo:CV:=[(19,.inl ctSym),(11,.inl ctTh),(22,.inl ctCp)]
theorem cxCo:CxOK Tryz.prog tt G0 CCo:=((cx0.cons cp_held (fn:=Tryz.f22) rfl rfl rfl).cons th_held (fn:=Tryz.f11) rfl rfl rfl).cons sym_held (fn:=Tryz.f19) rfl rfl rfl
set_option maxRecDepth 100000
def mem_co_m0 (li li2:Bool) (m o m2 o2:Int) (l l2:List OpT):List (Nat × LB):=[(2,.var [.bool li,.int .i64 m,.int .i64 o,.sl opS l]),(3,.var [.bool li2,.int .i64 m2,.int .i64 o2,.sl opS l2]),(4,.var [.bool false,.int .i64 0,.int .i64 0,.nils]),(1057344,.row 45 syS (symV (li,m,o,l)).1),(1094208,.row 45 syS (symV (li2,m2,o2,l2)).1)]
theorem vc_co (li li2:Bool) (m o m2 o2:Int) (l l2:List OpT) (Q:QT) (R:RT):sy tt G0 CCo Tryz.f10.ntmps Tryz.f10.results.toList Q R 1000 [.code (bodyOf Tryz.f10)] (entry [paS,paS] ((li,m,o,l),(li2,m2,o2,l2),())) =
  (ctSym.pre ((li,m,o,l),()) ∧
 bc (decide ((symV (li,m,o,l)).2≠(0:Int))) (Q [.agg [.bool false,.int .i64 0,.int .i64 0,.nils],.int .i64 (symV (li,m,o,l)).2] [(2,.var [.bool li,.int .i64 m,.int .i64 o,.sl opS l]),(3,.var [.bool li2,.int .i64 m2,.int .i64 o2,.sl opS l2]),(4,.var [.bool false,.int .i64 0,.int .i64 0,.nils]),(1057344,.row 45 syS (symV (li,m,o,l)).1)]) (ctSym.pre ((li2,m2,o2,l2),()) ∧
 bc (decide ((symV (li2,m2,o2,l2)).2≠(0:Int))) (Q [.agg [.bool false,.int .i64 0,.int .i64 0,.nils],.int .i64 (symV (li2,m2,o2,l2)).2] (mem_co_m0 li li2 m o m2 o2 l l2)) (bc (!li == li2) (Q [.agg [.bool false,.int .i64 0,.int .i64 0,.nils],.int .i64 62] (mem_co_m0 li li2 m o m2 o2 l l2)) (bc (decide (o≠m2)) (Q [.agg [.bool false,.int .i64 0,.int .i64 0,.nils],.int .i64 61] (mem_co_m0 li li2 m o m2 o2 l l2)) (0+(symV (li,m,o,l)).1.length≤(symV (li,m,o,l)).1.length ∧
 0+(symV (li2,m2,o2,l2)).1.length≤(symV (li2,m2,o2,l2)).1.length ∧
 ctTh.pre (winL syS 0 (symV (li,m,o,l)).1.length (symV (li,m,o,l)).1,winL syS 0 (symV (li2,m2,o2,l2)).1.length (symV (li2,m2,o2,l2)).1,()) ∧
 0+(thV (winL syS 0 (symV (li,m,o,l)).1.length (symV (li,m,o,l)).1) (winL syS 0 (symV (li2,m2,o2,l2)).1.length (symV (li2,m2,o2,l2)).1)).1.length≤(thV (winL syS 0 (symV (li,m,o,l)).1.length (symV (li,m,o,l)).1) (winL syS 0 (symV (li2,m2,o2,l2)).1.length (symV (li2,m2,o2,l2)).1)).1.length ∧
 0+(thV (winL syS 0 (symV (li,m,o,l)).1.length (symV (li,m,o,l)).1) (winL syS 0 (symV (li2,m2,o2,l2)).1.length (symV (li2,m2,o2,l2)).1)).1.length≤(thV (winL syS 0 (symV (li,m,o,l)).1.length (symV (li,m,o,l)).1) (winL syS 0 (symV (li2,m2,o2,l2)).1.length (symV (li2,m2,o2,l2)).1)).1.length ∧
 0+(thV (winL syS 0 (symV (li,m,o,l)).1.length (symV (li,m,o,l)).1) (winL syS 0 (symV (li2,m2,o2,l2)).1.length (symV (li2,m2,o2,l2)).1)).1.length≤(thV (winL syS 0 (symV (li,m,o,l)).1.length (symV (li,m,o,l)).1) (winL syS 0 (symV (li2,m2,o2,l2)).1.length (symV (li2,m2,o2,l2)).1)).1.length ∧
 0+(thV (winL syS 0 (symV (li,m,o,l)).1.length (symV (li,m,o,l)).1) (winL syS 0 (symV (li2,m2,o2,l2)).1.length (symV (li2,m2,o2,l2)).1)).1.length≤(thV (winL syS 0 (symV (li,m,o,l)).1.length (symV (li,m,o,l)).1) (winL syS 0 (symV (li2,m2,o2,l2)).1.length (symV (li2,m2,o2,l2)).1)).1.length ∧
 0+(thV (winL syS 0 (symV (li,m,o,l)).1.length (symV (li,m,o,l)).1) (winL syS 0 (symV (li2,m2,o2,l2)).1.length (symV (li2,m2,o2,l2)).1)).1.length≤(thV (winL syS 0 (symV (li,m,o,l)).1.length (symV (li,m,o,l)).1) (winL syS 0 (symV (li2,m2,o2,l2)).1.length (symV (li2,m2,o2,l2)).1)).1.length ∧
 ctCp.pre (winL syS 0 (thV (winL syS 0 (symV (li,m,o,l)).1.length (symV (li,m,o,l)).1) (winL syS 0 (symV (li2,m2,o2,l2)).1.length (symV (li2,m2,o2,l2)).1)).1.length (thV (winL syS 0 (symV (li,m,o,l)).1.length (symV (li,m,o,l)).1) (winL syS 0 (symV (li2,m2,o2,l2)).1.length (symV (li2,m2,o2,l2)).1)).1,m,()) ∧
 bc (decide ((cpV (winL syS 0 (thV (winL syS 0 (symV (li,m,o,l)).1.length (symV (li,m,o,l)).1) (winL syS 0 (symV (li2,m2,o2,l2)).1.length (symV (li2,m2,o2,l2)).1)).1.length (thV (winL syS 0 (symV (li,m,o,l)).1.length (symV (li,m,o,l)).1) (winL syS 0 (symV (li2,m2,o2,l2)).1.length (symV (li2,m2,o2,l2)).1)).1) m).2≠(0:Int))) (Q [.agg [.bool false,.int .i64 0,.int .i64 0,.nils],.int .i64 (cpV (winL syS 0 (thV (winL syS 0 (symV (li,m,o,l)).1.length (symV (li,m,o,l)).1) (winL syS 0 (symV (li2,m2,o2,l2)).1.length (symV (li2,m2,o2,l2)).1)).1.length (thV (winL syS 0 (symV (li,m,o,l)).1.length (symV (li,m,o,l)).1) (winL syS 0 (symV (li2,m2,o2,l2)).1.length (symV (li2,m2,o2,l2)).1)).1) m).2] [(2,.var [.bool li,.int .i64 m,.int .i64 o,.sl opS l]),(3,.var [.bool li2,.int .i64 m2,.int .i64 o2,.sl opS l2]),(4,.var [.bool false,.int .i64 0,.int .i64 0,.nils]),(11,.var [.bool (cpV (winL syS 0 (thV (winL syS 0 (symV (li,m,o,l)).1.length (symV (li,m,o,l)).1) (winL syS 0 (symV (li2,m2,o2,l2)).1.length (symV (li2,m2,o2,l2)).1)).1.length (thV (winL syS 0 (symV (li,m,o,l)).1.length (symV (li,m,o,l)).1) (winL syS 0 (symV (li2,m2,o2,l2)).1.length (symV (li2,m2,o2,l2)).1)).1) m).1.1,.int .i64 (cpV (winL syS 0 (thV (winL syS 0 (symV (li,m,o,l)).1.length (symV (li,m,o,l)).1) (winL syS 0 (symV (li2,m2,o2,l2)).1.length (symV (li2,m2,o2,l2)).1)).1.length (thV (winL syS 0 (symV (li,m,o,l)).1.length (symV (li,m,o,l)).1) (winL syS 0 (symV (li2,m2,o2,l2)).1.length (symV (li2,m2,o2,l2)).1)).1) m).1.2.1,.int .i64 (cpV (winL syS 0 (thV (winL syS 0 (symV (li,m,o,l)).1.length (symV (li,m,o,l)).1) (winL syS 0 (symV (li2,m2,o2,l2)).1.length (symV (li2,m2,o2,l2)).1)).1.length (thV (winL syS 0 (symV (li,m,o,l)).1.length (symV (li,m,o,l)).1) (winL syS 0 (symV (li2,m2,o2,l2)).1.length (symV (li2,m2,o2,l2)).1)).1) m).1.2.2.1,.sl opS (cpV (winL syS 0 (thV (winL syS 0 (symV (li,m,o,l)).1.length (symV (li,m,o,l)).1) (winL syS 0 (symV (li2,m2,o2,l2)).1.length (symV (li2,m2,o2,l2)).1)).1.length (thV (winL syS 0 (symV (li,m,o,l)).1.length (symV (li,m,o,l)).1) (winL syS 0 (symV (li2,m2,o2,l2)).1.length (symV (li2,m2,o2,l2)).1)).1) m).1.2.2.2]),(1057344,.row 45 syS (symV (li,m,o,l)).1),(1094208,.row 45 syS (symV (li2,m2,o2,l2)).1)]) (Q [.agg [.bool li,.int .i64 (cpV (winL syS 0 (thV (winL syS 0 (symV (li,m,o,l)).1.length (symV (li,m,o,l)).1) (winL syS 0 (symV (li2,m2,o2,l2)).1.length (symV (li2,m2,o2,l2)).1)).1.length (thV (winL syS 0 (symV (li,m,o,l)).1.length (symV (li,m,o,l)).1) (winL syS 0 (symV (li2,m2,o2,l2)).1.length (symV (li2,m2,o2,l2)).1)).1) m).1.2.1,.int .i64 (cpV (winL syS 0 (thV (winL syS 0 (symV (li,m,o,l)).1.length (symV (li,m,o,l)).1) (winL syS 0 (symV (li2,m2,o2,l2)).1.length (symV (li2,m2,o2,l2)).1)).1.length (thV (winL syS 0 (symV (li,m,o,l)).1.length (symV (li,m,o,l)).1) (winL syS 0 (symV (li2,m2,o2,l2)).1.length (symV (li2,m2,o2,l2)).1)).1) m).1.2.2.1,.sl opS (cpV (winL syS 0 (thV (winL syS 0 (symV (li,m,o,l)).1.length (symV (li,m,o,l)).1) (winL syS 0 (symV (li2,m2,o2,l2)).1.length (symV (li2,m2,o2,l2)).1)).1.length (thV (winL syS 0 (symV (li,m,o,l)).1.length (symV (li,m,o,l)).1) (winL syS 0 (symV (li2,m2,o2,l2)).1.length (symV (li2,m2,o2,l2)).1)).1) m).1.2.2.2],.int .i64 0] [(2,.var [.bool li,.int .i64 m,.int .i64 o,.sl opS l]),(3,.var [.bool li2,.int .i64 m2,.int .i64 o2,.sl opS l2]),(4,.var [.bool li,.int .i64 (cpV (winL syS 0 (thV (winL syS 0 (symV (li,m,o,l)).1.length (symV (li,m,o,l)).1) (winL syS 0 (symV (li2,m2,o2,l2)).1.length (symV (li2,m2,o2,l2)).1)).1.length (thV (winL syS 0 (symV (li,m,o,l)).1.length (symV (li,m,o,l)).1) (winL syS 0 (symV (li2,m2,o2,l2)).1.length (symV (li2,m2,o2,l2)).1)).1) m).1.2.1,.int .i64 (cpV (winL syS 0 (thV (winL syS 0 (symV (li,m,o,l)).1.length (symV (li,m,o,l)).1) (winL syS 0 (symV (li2,m2,o2,l2)).1.length (symV (li2,m2,o2,l2)).1)).1.length (thV (winL syS 0 (symV (li,m,o,l)).1.length (symV (li,m,o,l)).1) (winL syS 0 (symV (li2,m2,o2,l2)).1.length (symV (li2,m2,o2,l2)).1)).1) m).1.2.2.1,.sl opS (cpV (winL syS 0 (thV (winL syS 0 (symV (li,m,o,l)).1.length (symV (li,m,o,l)).1) (winL syS 0 (symV (li2,m2,o2,l2)).1.length (symV (li2,m2,o2,l2)).1)).1.length (thV (winL syS 0 (symV (li,m,o,l)).1.length (symV (li,m,o,l)).1) (winL syS 0 (symV (li2,m2,o2,l2)).1.length (symV (li2,m2,o2,l2)).1)).1) m).1.2.2.2]),(11,.var [.bool li,.int .i64 (cpV (winL syS 0 (thV (winL syS 0 (symV (li,m,o,l)).1.length (symV (li,m,o,l)).1) (winL syS 0 (symV (li2,m2,o2,l2)).1.length (symV (li2,m2,o2,l2)).1)).1.length (thV (winL syS 0 (symV (li,m,o,l)).1.length (symV (li,m,o,l)).1) (winL syS 0 (symV (li2,m2,o2,l2)).1.length (symV (li2,m2,o2,l2)).1)).1) m).1.2.1,.int .i64 (cpV (winL syS 0 (thV (winL syS 0 (symV (li,m,o,l)).1.length (symV (li,m,o,l)).1) (winL syS 0 (symV (li2,m2,o2,l2)).1.length (symV (li2,m2,o2,l2)).1)).1.length (thV (winL syS 0 (symV (li,m,o,l)).1.length (symV (li,m,o,l)).1) (winL syS 0 (symV (li2,m2,o2,l2)).1.length (symV (li2,m2,o2,l2)).1)).1) m).1.2.2.1,.sl opS (cpV (winL syS 0 (thV (winL syS 0 (symV (li,m,o,l)).1.length (symV (li,m,o,l)).1) (winL syS 0 (symV (li2,m2,o2,l2)).1.length (symV (li2,m2,o2,l2)).1)).1.length (thV (winL syS 0 (symV (li,m,o,l)).1.length (symV (li,m,o,l)).1) (winL syS 0 (symV (li2,m2,o2,l2)).1.length (symV (li2,m2,o2,l2)).1)).1) m).1.2.2.2]),(1057344,.row 45 syS (symV (li,m,o,l)).1),(1094208,.row 45 syS (symV (li2,m2,o2,l2)).1)])))))):=by kernel_rfl
end Go.Proofs.YticpkibnhakgbaaGreatDoor
namespace Go.Proofs.YticpkibnhakgbaaGreatDoor
open Go.Px Go.Ax
set_option maxRecDepth 100000
attribute [local irreducible] Go.Px.sy Go.Px.syE
def ctCo:Ctr:=⟨[paS,paS],fun _=>True,fun x=>[paV (coV x.1 x.2.1).1,.int .i64 (coV x.1 x.2.1).2],fun _=>[]⟩
theorem co_fit {p q:PaT} (hp:(symV p).2=0) (hq:(symV q).2=0) (ho:p.2.2.1=q.2.1):thV (symV p).1 (symV q).1=(thL (symV p).1 (symV q).1,0):=by
 obtain ⟨a1,a2,a3⟩:=symV_right hp
 obtain ⟨b1,b2,b3⟩:=symV_right hq
 exact thV_ok fun x hx=>by rw[a3,ho];exact b1 x hx
theorem co_err {p q:PaT} {z:Int} {bl:List (Nat × LB)} (h:coV p q=(zP,z)):QC ctCo (p,q,()) [.agg [.bool false,.int .i64 0,.int .i64 0,.nils],.int .i64 z] bl:=
 QC.mt (by show MtL _ [paV (coV p q).1,.int .i64 (coV p q).2] _;rw[h];exact zero_mt _) rfl
theorem co_fin {p q:PaT} {r:PaT} {z:Int} {bl:List (Nat × LB)} (h:coV p q=(r,z)):QC ctCo (p,q,()) [paV r,.int .i64 z] bl:=
 QC.flat (by show [paV (coV p q).1,.int .i64 (coV p q).2]=_;rw[h]) rfl rfl
theorem co_run (li li2:Bool) (m o m2 o2:Int) (l l2:List OpT) (R:List Item→PS→Prop):sy tt G0 CCo Tryz.f10.ntmps Tryz.f10.results.toList (QC ctCo ((li,m,o,l),(li2,m2,o2,l2),())) R 1000 [.code (bodyOf Tryz.f10)] (entry [paS,paS] ((li,m,o,l),(li2,m2,o2,l2),())):=by
 refine (vc_co li li2 m o m2 o2 l l2 _ _).mpr ⟨trivial,bc_of (fun h=>?_) (fun h=>⟨trivial,bc_of (fun h2=>?_) (fun h2=>bc_of (fun h3=>?_) (fun h3=>bc_of (fun h4=>?_) (fun h4=>?_)))⟩)⟩
 ·have h:(symV (li,m,o,l)).2≠0:=of_decide_eq_true h
  exact co_err (by unfold coV;rw[if_pos h])
 all_goals
  have h:¬ (symV (li,m,o,l)).2≠0:=of_decide_eq_false h
 ·have h2:(symV (li2,m2,o2,l2)).2≠0:=of_decide_eq_true h2
  exact co_err (by unfold coV;rw[if_neg h,if_pos h2])
 all_goals
  have h2:¬ (symV (li2,m2,o2,l2)).2≠0:=of_decide_eq_false h2
 ·have h3:li≠li2:=by simpa using h3
  exact co_err (by unfold coV;rw[if_neg h,if_neg h2,if_pos h3])
 all_goals
  have h3:¬ li≠li2:=by simpa using h3
 ·have h4:o≠m2:=of_decide_eq_true h4
  exact co_err (by unfold coV;rw[if_neg h,if_neg h2,if_neg h3,if_pos h4])
 ·have h4:¬ o≠m2:=of_decide_eq_false h4
  have hp:(symV (li,m,o,l)).2=0:=by omega
  have hq:(symV (li2,m2,o2,l2)).2=0:=by omega
  have ht:=co_fit hp hq (show o=m2 by omega)
  have hl:=symV_le (li2,m2,o2,l2)
  have ho:coV (li,m,o,l) (li2,m2,o2,l2)=if (cpV (thL (symV (li,m,o,l)).1 (symV (li2,m2,o2,l2)).1) m).2≠0 then (zP,(cpV (thL (symV (li,m,o,l)).1 (symV (li2,m2,o2,l2)).1) m).2) else ((li,(cpV (thL (symV (li,m,o,l)).1 (symV (li2,m2,o2,l2)).1) m).1.2),0):=by
   unfold coV;rw[if_neg h,if_neg h2,if_neg h3,if_neg h4]
  generalize (symV (li,m,o,l)).1=a at *
  generalize (symV (li2,m2,o2,l2)).1=b at *
  rw[winA,winA,ht,winA]
  refine ⟨by omega,by omega,(show b.length<16777216 by omega),by omega,by omega,by omega,by omega,by omega,(show (thL a b).length<16777216 by rw[thL_len];omega),bc_of (fun h5=>?_) (fun h5=>?_)⟩
  ·have h5:(cpV (thL a b) m).2≠0:=of_decide_eq_true h5
   rw[if_pos h5] at ho
   exact co_err ho
  ·have h5:¬ (cpV (thL a b) m).2≠0:=of_decide_eq_false h5
   rw[if_neg h5] at ho
   exact co_fin ho
theorem co_held:Held Tryz.prog G0 10 ctCo:=Held.run cxCo (fn:=Tryz.f10) rfl rfl ⟨by decide,by decide⟩ fun ⟨⟨li,m,o,l⟩,⟨li2,m2,o2,l2⟩,_⟩ _=>co_run li li2 m o m2 o2 l l2 _
end Go.Proofs.YticpkibnhakgbaaGreatDoor
namespace Go.Proofs.YticpkibnhakgbaaGreatDoor
open Go.Px Go.Ax
set_option maxRecDepth 100000
abbrev capA:List AK:=[.ptr [.dat .bool,.dat iI,.dat iI,.dat (.sl opS)]]
abbrev KA1:List AK:=.dat paS::capA
abbrev KIn:List AK:=[.fn 18 [] capA,.dat (.sl paS)]
def CA1:CV:=[(10,.inl ctCo)]
theorem cxA1:CxOK Tryz.prog tt G0 CA1:=cx0.cons co_held (fn:=Tryz.f10) rfl rfl rfl
def ptD (p:PaT):DI [.dat .bool,.dat iI,.dat iI,.dat (.sl opS)]:=(p.1,p.2.1,p.2.2.1,p.2.2.2,())
def ctA1:CtrI:=⟨KA1,fun _=>True,fun x=>[.int .i64 (coV (x.2.1.1,x.2.1.2.1,x.2.1.2.2.1,x.2.1.2.2.2.1) x.1).2],fun x=>bkKL 0 KA1 (x.1,ptD (coV (x.2.1.1,x.2.1.2.1,x.2.1.2.2.1,x.2.1.2.2.2.1) x.1).1,())⟩
set_option maxRecDepth 100000
theorem vc_a1 (li li2:Bool) (m o m2 o2:Int) (k l2:List OpT) (Q:QT) (R:RT):sy tt G0 CA1 Tryz.f18.ntmps Tryz.f18.results.toList Q R 1000 [.code (bodyOf Tryz.f18)] (entryI KA1 ((li2,m2,o2,l2),(li,m,o,k,()),())) =
  (ctCo.pre ((li,m,o,k),(li2,m2,o2,l2),()) ∧
 Q [.int .i64 (coV (li,m,o,k) (li2,m2,o2,l2)).2] [(2,.var [.bool li2,.int .i64 m2,.int .i64 o2,.sl opS l2]),(1099511627776,.var [.bool (coV (li,m,o,k) (li2,m2,o2,l2)).1.1,.int .i64 (coV (li,m,o,k) (li2,m2,o2,l2)).1.2.1,.int .i64 (coV (li,m,o,k) (li2,m2,o2,l2)).1.2.2.1,.sl opS (coV (li,m,o,k) (li2,m2,o2,l2)).1.2.2.2])]):=by kernel_rfl
end Go.Proofs.YticpkibnhakgbaaGreatDoor
namespace Go.Proofs.YticpkibnhakgbaaGreatDoor
open Go.Px Go.Ax
set_option maxRecDepth 100000
attribute [local irreducible] Go.Px.sy Go.Px.syE
theorem a1_run (li li2:Bool) (m o m2 o2:Int) (k l2:List OpT) (R:List Item→PS→Prop):sy tt G0 CA1 Tryz.f18.ntmps Tryz.f18.results.toList (QI ctA1 ((li2,m2,o2,l2),(li,m,o,k,()),())) R 1000 [.code (bodyOf Tryz.f18)] (entryI KA1 ((li2,m2,o2,l2),(li,m,o,k,()),())):=by
 refine (vc_a1 li li2 m o m2 o2 k l2 _ _).mpr ⟨trivial,?_⟩
 refine QI.self rfl rfl rfl ?_
 intro b hb
 simp only[ctA1,bkKL,bkK,cnt,cntL,List.append_nil,List.nil_append,List.mem_append,List.mem_cons,List.mem_singleton,List.not_mem_nil,or_false] at hb
 rcases hb with rfl <;> rfl
theorem a1_held:HeldI Tryz.prog G0 18 ctA1:=HeldI.run cxA1 (fn:=Tryz.f18) rfl rfl ⟨by decide,by decide⟩ fun x _=>a1_run x.2.1.1 x.1.1 x.2.1.2.1 x.2.1.2.2.1 x.1.2.1 x.1.2.2.1 x.2.1.2.2.2.1 x.1.2.2.2 _
end Go.Proofs.YticpkibnhakgbaaGreatDoor
namespace Go.Proofs.YticpkibnhakgbaaGreatDoor
open Go.Px Go.Ax
set_option maxRecDepth 100000
def CIn:CV:=[(18,.inr ctA1)]
theorem cxIn:CxOK Tryz.prog tt G0 CIn:=cx0.consI a1_held (fn:=Tryz.f18) rfl rfl rfl
set_option maxRecDepth 100000
theorem vc_ino (l:List PaT) (li:Bool) (m o:Int) (k:List OpT) (Q:QT) (R:RT):sy tt G0 CIn Tryz.f17.ntmps Tryz.f17.results.toList Q R 1000 [.code (bodyOf Tryz.f17)] (entryI KIn (((),((li,m,o,k,()),())),l,())) =
  (R (hd Tryz.f17 0) { env:=[(0,.fn (18:Nat) [] [.ptr 1099511627776 0]),(1,.sl paS l),(4,.int .i64 0),(8,.sl paS l),(9,.int .i64 (l.length:Int)),(10,.int .i64 0)],blk:=[(1099511627776,.var [.bool li,.int .i64 m,.int .i64 o,.sl opS k])] }):=by kernel_rfl
theorem vc_inoL (l:List PaT) (li:Bool) (m o i:Int) (k:List OpT) (Q:QT) (R:RT):sy tt G0 CIn Tryz.f17.ntmps Tryz.f17.results.toList Q (fun it S=>R it (keepS [0,8,9,10] [1099511627776] S)) 1000 (hd Tryz.f17 0) ⟨[(0,.fn 18 [] [.ptr 1099511627776 0]),(8,.sl paS l),(9,.int .i64 l.length),(10,.int .i64 i)],[(1099511627776,.var [.bool li,.int .i64 m,.int .i64 o,.sl opS k])]⟩ =
  (bc (decide (i<(l.length:Int))) ((0:Int)≤i ∧
 i<(l.length:Int) ∧
 ctA1.pre ((gtP l i.toNat),(li,m,o,k,()),()) ∧
 bc (decide ((coV (li,m,o,k) (gtP l i.toNat)).2≠(0:Int))) (Q [.int .i64 (coV (li,m,o,k) (gtP l i.toNat)).2] [(6,.var [.bool (gtP l i.toNat).1,.int .i64 (gtP l i.toNat).2.1,.int .i64 (gtP l i.toNat).2.2.1,.sl opS (gtP l i.toNat).2.2.2]),(1099511627776,.var [.bool (ptD (coV (li,m,o,k) (gtP l i.toNat)).1).1,.int .i64 (ptD (coV (li,m,o,k) (gtP l i.toNat)).1).2.1,.int .i64 (ptD (coV (li,m,o,k) (gtP l i.toNat)).1).2.2.1,.sl opS (ptD (coV (li,m,o,k) (gtP l i.toNat)).1).2.2.2.1])]) (R (hd Tryz.f17 0) { env:=[(0,.fn (18:Nat) [] [.ptr 1099511627776 0]),(8,.sl paS l),(9,.int .i64 (l.length:Int)),(10,.int .i64 (IntKind.i64.wrap (i+(1:Int))))],blk:=[(1099511627776,.var [.bool (ptD (coV (li,m,o,k) (gtP l i.toNat)).1).1,.int .i64 (ptD (coV (li,m,o,k) (gtP l i.toNat)).1).2.1,.int .i64 (ptD (coV (li,m,o,k) (gtP l i.toNat)).1).2.2.1,.sl opS (ptD (coV (li,m,o,k) (gtP l i.toNat)).1).2.2.2.1])] })) (Q [.int .i64 0] [(1099511627776,.var [.bool li,.int .i64 m,.int .i64 o,.sl opS k])])):=by kernel_rfl
end Go.Proofs.YticpkibnhakgbaaGreatDoor
namespace Go.Proofs.YticpkibnhakgbaaGreatDoor
open Go.Px Go.Ax
set_option maxRecDepth 100000
attribute [local irreducible] Go.Px.sy Go.Px.syE
theorem gtP_at {l:List PaT} {i:Nat} (h:i<l.length):gtP l i=l[i]:=by
 show gt paS l i=_
 unfold gt
 rw[List.getElem?_eq_getElem h];rfl
abbrev vrP (p:PaT):LB:=.var [.bool p.1,.int .i64 p.2.1,.int .i64 p.2.2.1,.sl opS p.2.2.2]
abbrev InQ (p:PaT) (l:List PaT):List SV→List (Nat × LB)→Prop:=fun rs blk=>rs=[.int .i64 (alF (p,0) l).2]∧lk blk 1099511627776=some (vrP (alF (p,0) l).1)
theorem ino_loop (l:List PaT) (hl:l.length<1099511627776):∀ (k i:Nat) (p:PaT),l.length-i=k→i≤l.length →
  GD 17 Tryz.f17 (InQ p (l.drop i)) (hd Tryz.f17 0) ⟨[(0,.fn 18 [] [.ptr 1099511627776 0]),(8,.sl paS l),(9,.int .i64 l.length),(10,.int .i64 (i:Nat))],[(1099511627776,vrP p)]⟩:=by
 intro k
 induction k with
 | zero=>
  intro i p hk hi
  obtain ⟨li,m,o,k⟩:=p
  refine sy_goK cxIn (vc_inoL l li m o i k _ _) ?_
  rw[decide_eq_false (by omega),bc_f,List.drop_of_length_le (by omega)]
  exact ⟨rfl,rfl⟩
 | succ c ih=>
  intro i p hk hi
  obtain ⟨li,m,o,k⟩:=p
  have hlt:i<l.length:=by omega
  refine sy_goK cxIn (vc_inoL l li m o i k _ _) ?_
  rw[decide_eq_true (show (i:Int)<(l.length:Int) by omega),bc_t,Int.toNat_natCast,IntWalk.i64_in ((i:Int)+1) (by omega),List.drop_eq_getElem_cons hlt,← gtP_at hlt]
  refine ⟨by omega,by omega,trivial,bc_of (fun h=>?_) (fun h=>?_)⟩
  ·have h:(coV (li,m,o,k) (gtP l i)).2≠0:=of_decide_eq_true h
   have e:alF ((li,m,o,k),0) (gtP l i::l.drop (i+1))=coV (li,m,o,k) (gtP l i):=by rw[alF];exact if_pos h
   show InQ _ _ _ _
   unfold InQ
   rw[e]
   exact ⟨rfl,rfl⟩
  ·have h:¬ (coV (li,m,o,k) (gtP l i)).2≠0:=of_decide_eq_false h
   have h0:coV (li,m,o,k) (gtP l i)=((coV (li,m,o,k) (gtP l i)).1,0):=Prod.ext rfl (by omega)
   have e:alF ((li,m,o,k),0) (gtP l i::l.drop (i+1))=alF ((coV (li,m,o,k) (gtP l i)).1,0) (l.drop (i+1)):=by
    rw[← h0,alF];exact if_neg h
   have g:=ih (i+1) (coV (li,m,o,k) (gtP l i)).1 (by omega) (by omega)
   unfold InQ at g ⊢
   rw[e]
   exact g
def ctIno:CtrI:=⟨KIn,fun x=>List.length x.2.1<1099511627776,fun x=>[.int .i64 (alF ((x.1.2.1.1,x.1.2.1.2.1,x.1.2.1.2.2.1,x.1.2.1.2.2.2.1),0) x.2.1).2],
 fun x=>bkKL 0 KIn (((),(ptD (alF ((x.1.2.1.1,x.1.2.1.2.1,x.1.2.1.2.2.1,x.1.2.1.2.2.2.1),0) x.2.1).1,())),x.2.1,())⟩
theorem ino_run (l:List PaT) (li:Bool) (m o:Int) (k:List OpT) (hl:l.length<1099511627776):sy tt G0 CIn Tryz.f17.ntmps Tryz.f17.results.toList (QI ctIno (((),((li,m,o,k,()),())),l,())) (Px.Good Tryz.prog tt G0 17 Tryz.f17.ntmps Tryz.f17.results.toList (QI ctIno (((),((li,m,o,k,()),())),l,()))) 1000 [.code (bodyOf Tryz.f17)] (entryI KIn (((),((li,m,o,k,()),())),l,())):=by
 rw[vc_ino]
 refine ((ino_loop l hl _ 0 (li,m,o,k) rfl (Nat.zero_le _)).post fun rs blk hq=>?_).only ⟨rfl,rfl,rfl,rfl,trivial⟩ ⟨rfl,trivial⟩
 obtain ⟨h1,h2⟩:=hq
 rw[List.drop_zero] at h1 h2
 subst h1
 refine QI.self rfl rfl rfl ?_
 intro b hb
 simp only[ctIno,bkKL,bkK,cnt,cntL,List.append_nil,List.nil_append,List.mem_append,List.mem_cons,List.mem_singleton,List.not_mem_nil,or_false] at hb
 rcases hb with rfl <;> exact h2
theorem ino_held:HeldI Tryz.prog G0 17 ctIno:=HeldI.run cxIn (fn:=Tryz.f17) rfl rfl ⟨by decide,by decide⟩ fun x hp=>ino_run x.2.1 x.1.2.1.1 x.1.2.1.2.1 x.1.2.1.2.2.1 x.1.2.1.2.2.2.1 hp
end Go.Proofs.YticpkibnhakgbaaGreatDoor
namespace Go.Proofs.YticpkibnhakgbaaGreatDoor
open Go.Px Go.Ax
set_option maxRecDepth 100000
def CAl:CV:=[(17,.inr ctIno),(16,.inl ctFo)]
theorem cxAl:CxOK Tryz.prog tt G0 CAl:=(cx0.cons fo_held (fn:=Tryz.f16) rfl rfl rfl).consI ino_held (fn:=Tryz.f17) rfl rfl rfl
set_option maxRecDepth 100000
theorem vc_all (l:List PaT) (Q:QT) (R:RT):sy tt G0 CAl Tryz.f7.ntmps Tryz.f7.results.toList Q R 1000 [.code (bodyOf Tryz.f7)] (entry [.sl paS] (l,())) =
  (bc (decide ((l.length:Int)=(0:Int))) (Q [.agg [.bool false,.int .i64 0,.int .i64 0,.nils],.int .i64 1] [(2,.var [.bool false,.int .i64 0,.int .i64 0,.nils])]) ((0:Int)≤(0:Int) ∧
 (0:Int)<(l.length:Int) ∧
 ctFo.pre ((gtP l (0)),()) ∧
 bc (decide ((foV (gtP l (0))).2≠(0:Int))) (Q [.agg [.bool false,.int .i64 0,.int .i64 0,.nils],.int .i64 (foV (gtP l (0))).2] [(2,.var [.bool false,.int .i64 0,.int .i64 0,.nils]),(4,.var [.bool (foV (gtP l (0))).1.1,.int .i64 (foV (gtP l (0))).1.2.1,.int .i64 (foV (gtP l (0))).1.2.2.1,.sl opS (foV (gtP l (0))).1.2.2.2])]) ((0:Int)≤(1:Int) ∧
 (1:Int)≤(l.length:Int) ∧
 ctIno.pre (((),((foV (gtP l (0))).1.1,(foV (gtP l (0))).1.2.1,(foV (gtP l (0))).1.2.2.1,(foV (gtP l (0))).1.2.2.2,()),()),List.drop (1) l,()) ∧
 Q [.agg [.bool (ptD (alF (((foV (gtP l (0))).1),(0:Int)) (List.drop (1) l)).1).1,.int .i64 (ptD (alF (((foV (gtP l (0))).1),(0:Int)) (List.drop (1) l)).1).2.1,.int .i64 (ptD (alF (((foV (gtP l (0))).1),(0:Int)) (List.drop (1) l)).1).2.2.1,.sl opS (ptD (alF (((foV (gtP l (0))).1),(0:Int)) (List.drop (1) l)).1).2.2.2.1],.int .i64 (alF (((foV (gtP l (0))).1),(0:Int)) (List.drop (1) l)).2] [(2,.var [.bool (ptD (alF (((foV (gtP l (0))).1),(0:Int)) (List.drop (1) l)).1).1,.int .i64 (ptD (alF (((foV (gtP l (0))).1),(0:Int)) (List.drop (1) l)).1).2.1,.int .i64 (ptD (alF (((foV (gtP l (0))).1),(0:Int)) (List.drop (1) l)).1).2.2.1,.sl opS (ptD (alF (((foV (gtP l (0))).1),(0:Int)) (List.drop (1) l)).1).2.2.2.1]),(4,.var [.bool (ptD (alF (((foV (gtP l (0))).1),(0:Int)) (List.drop (1) l)).1).1,.int .i64 (ptD (alF (((foV (gtP l (0))).1),(0:Int)) (List.drop (1) l)).1).2.1,.int .i64 (ptD (alF (((foV (gtP l (0))).1),(0:Int)) (List.drop (1) l)).1).2.2.1,.sl opS (ptD (alF (((foV (gtP l (0))).1),(0:Int)) (List.drop (1) l)).1).2.2.2.1])]))):=by kernel_rfl
end Go.Proofs.YticpkibnhakgbaaGreatDoor
namespace Go.Proofs.YticpkibnhakgbaaGreatDoor
open Go.Px Go.Ax
set_option maxRecDepth 100000
attribute [local irreducible] Go.Px.sy Go.Px.syE
def ctAl:Ctr:=⟨[.sl paS],fun x=>List.length x.1<1099511627776,fun x=>[paV (allV x.1).1,.int .i64 (allV x.1).2],fun _=>[]⟩
theorem al_err {l:List PaT} {z:Int} {bl:List (Nat × LB)} (h:allV l=(zP,z)):QC ctAl (l,()) [.agg [.bool false,.int .i64 0,.int .i64 0,.nils],.int .i64 z] bl:=
 QC.mt (by show MtL _ [paV (allV l).1,.int .i64 (allV l).2] _;rw[h];exact zero_mt _) rfl
theorem al_fin {l:List PaT} {r:PaT × Int} {bl:List (Nat × LB)} (h:allV l=r):QC ctAl (l,()) [paV r.1,.int .i64 r.2] bl:=
 QC.flat (by show [paV (allV l).1,.int .i64 (allV l).2]=_;rw[h]) rfl rfl
theorem all_run (l:List PaT) (hl:l.length<1099511627776) (R:List Item→PS→Prop):sy tt G0 CAl Tryz.f7.ntmps Tryz.f7.results.toList (QC ctAl (l,())) R 1000 [.code (bodyOf Tryz.f7)] (entry [.sl paS] (l,())):=by
 refine (vc_all l _ _).mpr (bc_of (fun h=>?_) (fun h=>?_))
 ·have h:(l.length:Int)=0:=of_decide_eq_true h
  have e:l=[]:=List.eq_nil_of_length_eq_zero (by omega)
  exact al_err (by rw[e];rfl)
 ·have h:¬ (l.length:Int)=0:=of_decide_eq_false h
  have e:l=gtP l 0::l.drop 1:=by
   have:=List.drop_eq_getElem_cons (l:=l) (i:=0) (by omega)
   rw[List.drop_zero] at this
   rw[gtP_at (by omega)];exact this
  have ha:allV l=if (foV (gtP l 0)).2≠0 then (zP,(foV (gtP l 0)).2) else alF (foV (gtP l 0)) (l.drop 1):=by
   rw[e];rfl
  refine ⟨by omega,by omega,trivial,bc_of (fun h2=>?_) (fun h2=>?_)⟩
  ·have h2:(foV (gtP l 0)).2≠0:=of_decide_eq_true h2
   rw[if_pos h2] at ha
   exact al_err ha
  ·have h2:¬ (foV (gtP l 0)).2≠0:=of_decide_eq_false h2
   rw[if_neg h2,show foV (gtP l 0)=((foV (gtP l 0)).1,0) from Prod.ext rfl (by omega)] at ha
   exact ⟨by omega,by omega,(show (l.drop 1).length<1099511627776 by rw[List.length_drop];omega),al_fin ha⟩
theorem all_held:Held Tryz.prog G0 7 ctAl:=Held.run cxAl (fn:=Tryz.f7) rfl rfl ⟨by decide,by decide⟩ fun ⟨l,_⟩ hp=>all_run l hp _
end Go.Proofs.YticpkibnhakgbaaGreatDoor
namespace Go.Proofs.YticpkibnhakgbaaGreatDoor
open Go.Px Go.Ax
set_option maxRecDepth 100000
abbrev RaT:Type:=Int × List (List Int)
abbrev gtR (l:List RaT) (i:Nat):RaT:=gt raS l i
def CChn:CV:=[(14,.inl ctM6),(15,.inl ctSz),(13,.inl ctRw)]
theorem cxChn:CxOK Tryz.prog tt G0 CChn:=((cx0.cons rw_held (fn:=Tryz.f13) rfl rfl rfl).cons sz_held (fn:=Tryz.f15) rfl rfl rfl).cons made6_held (fn:=Tryz.f14) rfl rfl rfl
set_option maxRecDepth 100000
theorem vc_chn (l:List RaT) (n:Int) (Q:QT) (R:RT):sy tt G0 CChn Tryz.f5.ntmps Tryz.f5.results.toList Q (fun it S=>R it (keepS [0,1,5,6] [7] S)) 1000 [.code (bodyOf Tryz.f5)] (entry [.sl raS,iI] (l,n,())) =
  (R (hd Tryz.f5 0) { env:=[(0,.sl raS l),(1,.int .i64 n),(5,.win true paS 7 0 (0:Nat)),(6,.int .i64 0)],blk:=[(7,.row 30 paS (List.replicate (0:Nat) paS.dflt))] }):=by kernel_rfl
theorem vc_chnL (l:List RaT) (xs:List PaT) (n i:Int) (Q:QT) (R:RT):sy tt G0 CChn Tryz.f5.ntmps Tryz.f5.results.toList Q (fun it S=>R it (keepS [0,1,5,6] [7,28,42] S)) 1000 (hd Tryz.f5 0) ⟨[(0,.sl raS l),(1,.int .i64 n),(5,.win true paS 7 0 xs.length),(6,.int .i64 i)],[(7,.row 30 paS xs)]⟩ =
  (bc (decide (i<(l.length:Int))) (bc (decide (i<n)) (bc (decide (i=(0:Int))) ((0:Int)≤i ∧
 i<(l.length:Int) ∧
 ctM6.pre ((gtR l i.toNat),()) ∧
 0+(1:Nat)≤((List.replicate (1:Nat) paS.dflt).set (0:Nat) (szV (gtR l i.toNat).2 ((gtR l i.toNat).1 % (13:Int)))).length ∧
 xs.length=xs.length ∧
 (0:Nat)=(0:Nat) ∧
 xs.length+(winL paS (0:Nat) (1:Nat) ((List.replicate (1:Nat) paS.dflt).set (0:Nat) (szV (gtR l i.toNat).2 ((gtR l i.toNat).1 % (13:Int))))).length<(2:Nat) ^ (30:Nat) ∧
 (48:Nat)≤(2:Nat) ^ (10:Nat) ∧
 R (hd Tryz.f5 0) { env:=[(0,.sl raS l),(1,.int .i64 n),(5,.win true paS 28 0 (xs.length+(winL paS (0:Nat) (1:Nat) ((List.replicate (1:Nat) paS.dflt).set (0:Nat) (szV (gtR l i.toNat).2 ((gtR l i.toNat).1 % (13:Int))))).length)),(6,.int .i64 (IntKind.i64.wrap (i+(1:Int))))],blk:=[(28,.row 30 paS (xs++winL paS (0:Nat) (1:Nat) ((List.replicate (1:Nat) paS.dflt).set (0:Nat) (szV (gtR l i.toNat).2 ((gtR l i.toNat).1 % (13:Int))))))] }) ((0:Int)≤i ∧
 i<(l.length:Int) ∧
 (0:Int)≤IntKind.i64.wrap (i-(1:Int)) ∧
 IntKind.i64.wrap (i-(1:Int))<(xs.length:Int) ∧
 0+(IntKind.i64.wrap (i-(1:Int))).toNat<xs.length ∧
 ctSz.pre ((gtR l i.toNat),(gtP xs (0+(IntKind.i64.wrap (i-(1:Int))).toNat)).2.2.1,()) ∧
 0+(1:Nat)≤((List.replicate (1:Nat) paS.dflt).set (0:Nat) (szV (gtR l i.toNat).2 (gtP xs (0+(IntKind.i64.wrap (i-(1:Int))).toNat)).2.2.1)).length ∧
 xs.length=xs.length ∧
 (0:Nat)=(0:Nat) ∧
 xs.length+(winL paS (0:Nat) (1:Nat) ((List.replicate (1:Nat) paS.dflt).set (0:Nat) (szV (gtR l i.toNat).2 (gtP xs (0+(IntKind.i64.wrap (i-(1:Int))).toNat)).2.2.1))).length<(2:Nat) ^ (30:Nat) ∧
 (48:Nat)≤(2:Nat) ^ (10:Nat) ∧
 R (hd Tryz.f5 0) { env:=[(0,.sl raS l),(1,.int .i64 n),(5,.win true paS 42 0 (xs.length+(winL paS (0:Nat) (1:Nat) ((List.replicate (1:Nat) paS.dflt).set (0:Nat) (szV (gtR l i.toNat).2 (gtP xs (0+(IntKind.i64.wrap (i-(1:Int))).toNat)).2.2.1))).length)),(6,.int .i64 (IntKind.i64.wrap (i+(1:Int))))],blk:=[(42,.row 30 paS (xs++winL paS (0:Nat) (1:Nat) ((List.replicate (1:Nat) paS.dflt).set (0:Nat) (szV (gtR l i.toNat).2 (gtP xs (0+(IntKind.i64.wrap (i-(1:Int))).toNat)).2.2.1))))] })) (bc (decide ((xs.length:Int)=(0:Int))) (ctRw.pre ((3:Int),()) ∧
 Q [.win true paS 47 0 (1:Nat)] [(7,.row 30 paS xs),(47,.row 30 paS ((List.replicate (1:Nat) paS.dflt).set (0:Nat) (rwV (3:Int))))]) (Q [.win true paS 7 0 xs.length] [(7,.row 30 paS xs)]))) (false=false ∧
 bc (decide ((xs.length:Int)=(0:Int))) (ctRw.pre ((3:Int),()) ∧
 Q [.win true paS 47 0 (1:Nat)] [(7,.row 30 paS xs),(47,.row 30 paS ((List.replicate (1:Nat) paS.dflt).set (0:Nat) (rwV (3:Int))))]) (Q [.win true paS 7 0 xs.length] [(7,.row 30 paS xs)]))):=by kernel_rfl
end Go.Proofs.YticpkibnhakgbaaGreatDoor
namespace Go.Proofs.YticpkibnhakgbaaGreatDoor
open Go.Px Go.Ax
set_option maxRecDepth 100000
attribute [local irreducible] Go.Px.sy Go.Px.syE
def chR:Int→List RaT→List PaT
 | _,[]=>[]
 | o,x::r=>szV x.2 o::chR (szV x.2 o).2.2.1 r
def chU:List RaT→List PaT
 | []=>[]
 | x::r=>szV x.2 (x.1 % 13)::chR (szV x.2 (x.1 % 13)).2.2.1 r
def chV (l:List RaT):List PaT:=if l=[] then [rwV 3] else chU (l.take 4)
def loR:Int→List RaT→Int
 | o,[]=>o
 | o,x::r=>loR (szV x.2 o).2.2.1 r
theorem chR_snoc (y:RaT):∀ (l:List RaT) (o:Int),chR o (l++[y])=chR o l++[szV y.2 (loR o l)]
 | [],o=>rfl
 | x::l,o=>by rw[List.cons_append,chR,chR_snoc y l];rfl
theorem chR_len:∀ (l:List RaT) (o:Int),(chR o l).length=l.length
 | [],o=>rfl
 | x::l,o=>by rw[chR,List.length_cons,chR_len l,List.length_cons]
theorem gtP_cons (p:PaT) (l:List PaT) (i:Nat):gtP (p::l) (i+1)=gtP l i:=by
 show gt paS _ _=gt paS _ _
 unfold gt;rfl
theorem gtP_last:∀ (r:List RaT) (p:PaT),(gtP (p::chR p.2.2.1 r) r.length).2.2.1=loR p.2.2.1 r
 | [],p=>rfl
 | x::r,p=>by
  rw[chR,List.length_cons,gtP_cons,gtP_last r];rfl
theorem chU_len (l:List RaT):(chU l).length=l.length:=by
 cases l with
 | nil=>rfl
 | cons x r=>rw[chU,List.length_cons,chR_len,List.length_cons]
theorem chU_snoc {l:List RaT} (h:0<l.length) (y:RaT):chU (l++[y])=chU l++[szV y.2 (gtP (chU l) (l.length-1)).2.2.1]:=by
 cases l with
 | nil=>exact absurd h (by simp)
 | cons x r=>
  rw[List.cons_append,chU,chR_snoc,chU,List.length_cons,Nat.add_sub_cancel,gtP_last];rfl
def preRa (l:List RaT):Prop:=∀ x∈l,preM6 x.1 x.2
theorem szV_out {l:List (List Int)} {m:Int} (hl:preL4 l) (h0:0≤m):0≤(szV l m).2.2.1∧(szV l m).2.2.1≤30:=szO_sum hl h0
theorem loR_b:∀ {l:List RaT} {o:Int},preRa l→0≤o∧o≤30→0≤loR o l∧loR o l≤30
 | [],o,_,h=>h
 | x::l,o,hp,h=>loR_b (l:=l) (fun y hy=>hp y (by simp[hy])) (szV_out (hp x (by simp)).2.1 h.1)
theorem chU_out {l:List RaT} (h:0<l.length) (hp:preRa l):0≤(gtP (chU l) (l.length-1)).2.2.1∧(gtP (chU l) (l.length-1)).2.2.1≤30:=by
 cases l with
 | nil=>exact absurd h (by simp)
 | cons x r=>
  rw[chU,List.length_cons,Nat.add_sub_cancel,gtP_last]
  have hx:=hp x (by simp)
  exact loR_b (fun y hy=>hp y (by simp[hy])) (szV_out hx.2.1 (by omega))
theorem gtR_at {l:List RaT} {i:Nat} (h:i<l.length):gtR l i=l[i]:=by
 show gt raS l i=_
 unfold gt
 rw[List.getElem?_eq_getElem h];rfl
theorem chU_step {l:List RaT} {i:Nat} (h:i<l.length):chU (l.take (i+1))=chU (l.take i)++[if i=0 then szV (gtR l i).2 ((gtR l i).1 % 13) else szV (gtR l i).2 (gtP (chU (l.take i)) (i-1)).2.2.1]:=by
 rw[List.take_succ_eq_append_getElem h,gtR_at h]
 have e:(l.take i).length=i:=by rw[List.length_take];omega
 by_cases h0:i=0
 ·subst h0;rfl
 ·rw[if_neg h0,chU_snoc (by omega),e]
def ctChn:Ctr:=⟨[.sl raS,iI],fun x=>preRa x.1∧x.2.1=4,fun x=>[.win true paS 0 0 (chV x.1).length],fun x=>[.row 30 paS (chV x.1)]⟩
theorem chn_loop (l:List RaT) (hl:preRa l):∀ (k i:Nat),min l.length 4-i=k→i≤min l.length 4 →
  GD 5 Tryz.f5 (QC ctChn (l,4,())) (hd Tryz.f5 0) ⟨[(0,.sl raS l),(1,.int .i64 4),(5,.win true paS 7 0 (chU (l.take i)).length),(6,.int .i64 (i:Nat))],[(7,.row 30 paS (chU (l.take i)))]⟩:=by
 intro k
 induction k with
 | zero=>
  intro i hk hi
  have hi:i=min l.length 4:=by omega
  have hlen:(chU (l.take i)).length=i:=by rw[chU_len,List.length_take];omega
  refine sy_goK cxChn (vc_chnL l (chU (l.take i)) 4 i _ _) ?_
  have fin:bc (decide (((chU (l.take i)).length:Int)=0)) (ctRw.pre ((3:Int),())∧QC ctChn (l,4,()) [SV.win true paS 47 0 1] [(7,.row 30 paS (chU (l.take i))),(47,.row 30 paS ((List.replicate 1 paS.dflt).set 0 (rwV 3)))])
    (QC ctChn (l,4,()) [SV.win true paS 7 0 (chU (l.take i)).length] [(7,.row 30 paS (chU (l.take i)))]):=by
   by_cases hz:l=[]
   ·have e:chV l=[rwV 3]:=by unfold chV;rw[if_pos hz]
    have e0:i=0:=by rw[hi,hz];rfl
    rw[decide_eq_true (by omega),bc_t]
    exact ⟨trivial,qc_row (e:=paS) (et:=30) (a:=47) (xs:=[rwV 3]) (by show [SV.win true paS 0 0 (chV l).length]=_;rw[e]) (by show [LB.row 30 paS (chV l)]=_;rw[e]) rfl rfl rfl⟩
   ·have e:chV l=chU (l.take i):=by
     unfold chV;rw[if_neg hz,hi]
     by_cases h4:l.length≤4
     ·rw[Nat.min_eq_left h4,List.take_of_length_le h4,List.take_of_length_le (Nat.le_refl _)]
     ·rw[Nat.min_eq_right (by omega)]
    have hp:0<l.length:=List.length_pos_iff.2 hz
    rw[decide_eq_false (by omega),bc_f]
    exact qc_row (e:=paS) (et:=30) (a:=7) (xs:=chU (l.take i)) (by show [SV.win true paS 0 0 (chV l).length]=_;rw[e]) (by show [LB.row 30 paS (chV l)]=_;rw[e]) rfl rfl rfl
  refine bc_of (fun h=>bc_of (fun h2=>?_) (fun h2=>fin)) (fun h=>⟨rfl,fin⟩)
  have h:=of_decide_eq_true h
  have h2:=of_decide_eq_true h2
  omega
 | succ k ih=>
  intro i hk hi
  have h4:i<l.length∧i<4:=by omega
  have hlen:(chU (l.take i)).length=i:=by rw[chU_len,List.length_take];omega
  have nx:∀ nm,(nm=28∨nm=42)→∀ p,p=(if i=0 then szV (gtR l i).2 ((gtR l i).1 % 13) else szV (gtR l i).2 (gtP (chU (l.take i)) (i-1)).2.2.1) →
    GD 5 Tryz.f5 (QC ctChn (l,4,())) (hd Tryz.f5 0) ⟨[(0,.sl raS l),(1,.int .i64 4),(5,.win true paS nm 0 ((chU (l.take i)).length+1)),(6,.int .i64 ((i:Int)+1))],[(nm,.row 30 paS (chU (l.take i)++[p]))]⟩:=fun nm hn p hp=>by
   have h:=ih (i+1) (by omega) (by omega)
   rw[chU_step h4.1,← hp] at h
   rcases hn with rfl | rfl
   ·exact h.onlyR [(7,28)] rfl ⟨rfl,rfl,by rw[List.length_append];rfl,rfl,trivial⟩ ⟨rfl,trivial⟩
   ·exact h.onlyR [(7,42)] rfl ⟨rfl,rfl,by rw[List.length_append];rfl,rfl,trivial⟩ ⟨rfl,trivial⟩
  have ho:i≠0→0≤(gtP (chU (l.take i)) (i-1)).2.2.1∧(gtP (chU (l.take i)) (i-1)).2.2.1≤30:=fun h0=>by
   have e:(l.take i).length=i:=by rw[List.length_take];omega
   have:=chU_out (l:=l.take i) (by omega) (fun x hx=>hl x (List.mem_of_mem_take hx))
   rw[e] at this;exact this
  generalize chU (l.take i)=o at *
  have hx:preM6 (gtR l i).1 (gtR l i).2:=by rw[gtR_at h4.1];exact hl _ (List.getElem_mem h4.1)
  refine sy_goK cxChn (vc_chnL l o 4 i _ _) ?_
  rw[decide_eq_true (show (i:Int)<(l.length:Int) by omega),bc_t,decide_eq_true (show (i:Int)<(4:Int) by omega),bc_t,Int.toNat_natCast,IntWalk.i64_in ((i:Int)+1) (by omega)]
  refine bc_of (fun h=>?_) (fun h=>?_)
  ·have h:i=0:=by have:=of_decide_eq_true h;omega
   refine ⟨by omega,by omega,hx,Nat.le_refl _,rfl,rfl,by show o.length+1<2 ^ 30;omega,by decide,?_⟩
   exact nx 28 (.inl rfl) _ (by rw[if_pos h])
  ·have h:i≠0:=fun q=>by rw[q] at h;cases h
   have wj:IntKind.i64.wrap ((i:Int)-1)=((i-1:Nat):Int):=by rw[IntWalk.i64_in _ (by omega)];omega
   rw[wj,Int.toNat_natCast,Nat.zero_add]
   have ho:=ho h
   refine ⟨by omega,by omega,by omega,by omega,by omega,(show preSz (gtR l i).2 (gtP o (i-1)).2.2.1 from ⟨hx.2.1,⟨ho.1,by omega⟩,hx.2.2⟩),Nat.le_refl _,rfl,rfl,by show o.length+1<2 ^ 30;omega,by decide,?_⟩
   exact nx 42 (.inr rfl) _ (by rw[if_neg h])
theorem chn_run (l:List RaT) (hl:preRa l):GD 5 Tryz.f5 (QC ctChn (l,4,())) [.code (bodyOf Tryz.f5)] (entry [.sl raS,iI] (l,4,())):=by
 refine sy_goK cxChn (vc_chn l 4 _ _) ?_
 exact chn_loop l hl _ 0 rfl (Nat.zero_le _)
theorem chn_held:Held Tryz.prog G0 5 ctChn:=Held.of cxChn (fn:=Tryz.f5) rfl rfl ⟨by decide,by decide⟩ fun ⟨l,n,_⟩ hp=>by
 obtain ⟨h1,h2⟩:=hp
 have h2:n=4:=h2
 subst h2
 exact chn_run l h1
end Go.Proofs.YticpkibnhakgbaaGreatDoor
namespace Go.Proofs.YticpkibnhakgbaaGreatDoor
open Go.Px Go.Ax
set_option maxRecDepth 100000
def CSc:CV:=[(10,.inl ctCo),(7,.inl ctAl),(11,.inl ctTh),(12,.inl ctSm),(13,.inl ctRw)]
theorem cxSc:CxOK Tryz.prog tt G0 CSc:=((((cx0.cons rw_held (fn:=Tryz.f13) rfl rfl rfl).cons sm_held (fn:=Tryz.f12) rfl rfl rfl).cons th_held (fn:=Tryz.f11) rfl rfl rfl).cons all_held (fn:=Tryz.f7) rfl rfl rfl).cons co_held (fn:=Tryz.f10) rfl rfl rfl
set_option maxRecDepth 100000
theorem vc_csan  (Q:QT) (R:RT):sy tt G0 CSc Tryz.f4.ntmps Tryz.f4.results.toList Q R 1000 [.code (bodyOf Tryz.f4)] (entry [] ()) =
  (0+(2:Nat)≤(((List.replicate (2:Nat) uB.dflt).set (0:Nat) (1:Int)).set (1:Nat) (2:Int)).length ∧
 0+(2:Nat)≤(((List.replicate (2:Nat) uB.dflt).set (0:Nat) (1:Int)).set (1:Nat) (2:Int)).length ∧
 0+(2:Nat)≤(((List.replicate (2:Nat) uB.dflt).set (0:Nat) (255:Int)).set (1:Nat) (254:Int)).length ∧
 0+(2:Nat)≤(((List.replicate (2:Nat) uB.dflt).set (0:Nat) (255:Int)).set (1:Nat) (254:Int)).length ∧
 0+(1:Nat)≤([((1:Int),(1:Int),(2:Int),(0:Int),[])]:List opS.D).length ∧
 0+(1:Nat)≤([((1:Int),(1:Int),(2:Int),(0:Int),[])]:List opS.D).length ∧
 0+(1:Nat)≤([((1:Int),(1:Int),(2:Int),(0:Int),[])]:List opS.D).length ∧
 0+(1:Nat)≤([((1:Int),(1:Int),(2:Int),(0:Int),[])]:List opS.D).length ∧
 0+(2:Nat)≤(((List.replicate (2:Nat) opS.dflt).set (0:Nat) ((1:Int),(1:Int),(1:Int),(0:Int),[])).set (1:Nat) ((3:Int),(0:Int),(1:Int),(9:Int),[])).length ∧
 0+(2:Nat)≤(((List.replicate (2:Nat) opS.dflt).set (0:Nat) ((1:Int),(1:Int),(1:Int),(0:Int),[])).set (1:Nat) ((3:Int),(0:Int),(1:Int),(9:Int),[])).length ∧
 0+(2:Nat)≤(((List.replicate (2:Nat) opS.dflt).set (0:Nat) ((1:Int),(1:Int),(1:Int),(0:Int),[])).set (1:Nat) ((3:Int),(0:Int),(1:Int),(9:Int),[])).length ∧
 0+(2:Nat)≤(((List.replicate (2:Nat) opS.dflt).set (0:Nat) ((1:Int),(1:Int),(1:Int),(0:Int),[])).set (1:Nat) ((3:Int),(0:Int),(1:Int),(9:Int),[])).length ∧
 ctCo.pre ((false,(3:Int),(2:Int),([((1:Int),(1:Int),(2:Int),(0:Int),[])]:List opS.D)),(false,(2:Int),(2:Int),winL opS (0:Nat) (2:Nat) (((List.replicate (2:Nat) opS.dflt).set (0:Nat) ((1:Int),(1:Int),(1:Int),(0:Int),[])).set (1:Nat) ((3:Int),(0:Int),(1:Int),(9:Int),[]))),()) ∧
 0+(1:Nat)≤([((2:Int),(0:Int),(2:Int),(0:Int),winL uB (0:Nat) (2:Nat) (((List.replicate (2:Nat) uB.dflt).set (0:Nat) (1:Int)).set (1:Nat) (2:Int)))]:List opS.D).length ∧
 0+(1:Nat)≤([((2:Int),(0:Int),(2:Int),(0:Int),winL uB (0:Nat) (2:Nat) (((List.replicate (2:Nat) uB.dflt).set (0:Nat) (1:Int)).set (1:Nat) (2:Int)))]:List opS.D).length ∧
 0+(1:Nat)≤([((2:Int),(0:Int),(2:Int),(0:Int),winL uB (0:Nat) (2:Nat) (((List.replicate (2:Nat) uB.dflt).set (0:Nat) (1:Int)).set (1:Nat) (2:Int)))]:List opS.D).length ∧
 0+(1:Nat)≤([((2:Int),(0:Int),(2:Int),(0:Int),winL uB (0:Nat) (2:Nat) (((List.replicate (2:Nat) uB.dflt).set (0:Nat) (1:Int)).set (1:Nat) (2:Int)))]:List opS.D).length ∧
 0+(1:Nat)≤([((2:Int),(0:Int),(2:Int),(0:Int),winL uB (0:Nat) (2:Nat) (((List.replicate (2:Nat) uB.dflt).set (0:Nat) (255:Int)).set (1:Nat) (254:Int)))]:List opS.D).length ∧
 0+(1:Nat)≤([((2:Int),(0:Int),(2:Int),(0:Int),winL uB (0:Nat) (2:Nat) (((List.replicate (2:Nat) uB.dflt).set (0:Nat) (255:Int)).set (1:Nat) (254:Int)))]:List opS.D).length ∧
 0+(1:Nat)≤([((2:Int),(0:Int),(2:Int),(0:Int),winL uB (0:Nat) (2:Nat) (((List.replicate (2:Nat) uB.dflt).set (0:Nat) (255:Int)).set (1:Nat) (254:Int)))]:List opS.D).length ∧
 0+(1:Nat)≤([((2:Int),(0:Int),(2:Int),(0:Int),winL uB (0:Nat) (2:Nat) (((List.replicate (2:Nat) uB.dflt).set (0:Nat) (255:Int)).set (1:Nat) (254:Int)))]:List opS.D).length ∧
 ctCo.pre ((false,(2:Int),(2:Int),([((2:Int),(0:Int),(2:Int),(0:Int),winL uB (0:Nat) (2:Nat) (((List.replicate (2:Nat) uB.dflt).set (0:Nat) (1:Int)).set (1:Nat) (2:Int)))]:List opS.D)),(false,(2:Int),(2:Int),([((2:Int),(0:Int),(2:Int),(0:Int),winL uB (0:Nat) (2:Nat) (((List.replicate (2:Nat) uB.dflt).set (0:Nat) (255:Int)).set (1:Nat) (254:Int)))]:List opS.D)),()) ∧
 0+(1:Nat)≤([((3:Int),(0:Int),(4:Int),(5:Int),[])]:List opS.D).length ∧
 0+(1:Nat)≤([((3:Int),(0:Int),(4:Int),(5:Int),[])]:List opS.D).length ∧
 0+(1:Nat)≤([((3:Int),(0:Int),(4:Int),(5:Int),[])]:List opS.D).length ∧
 0+(1:Nat)≤([((3:Int),(0:Int),(4:Int),(5:Int),[])]:List opS.D).length ∧
 0+(1:Nat)≤([((1:Int),(0:Int),(2:Int),(0:Int),[])]:List opS.D).length ∧
 0+(1:Nat)≤([((1:Int),(0:Int),(2:Int),(0:Int),[])]:List opS.D).length ∧
 0+(1:Nat)≤([((1:Int),(0:Int),(2:Int),(0:Int),[])]:List opS.D).length ∧
 0+(1:Nat)≤([((1:Int),(0:Int),(2:Int),(0:Int),[])]:List opS.D).length ∧
 ctCo.pre ((false,(0:Int),(4:Int),([((3:Int),(0:Int),(4:Int),(5:Int),[])]:List opS.D)),(false,(4:Int),(2:Int),([((1:Int),(0:Int),(2:Int),(0:Int),[])]:List opS.D)),()) ∧
 ctCo.pre ((false,(3:Int),(2:Int),([((1:Int),(1:Int),(2:Int),(0:Int),[])]:List opS.D)),(false,(4:Int),(2:Int),([((1:Int),(0:Int),(2:Int),(0:Int),[])]:List opS.D)),()) ∧
 ctAl.pre ([],()) ∧
 ctCo.pre ((false,(3:Int),(2:Int),([((1:Int),(1:Int),(2:Int),(0:Int),[])]:List opS.D)),(true,(2:Int),(2:Int),winL opS (0:Nat) (2:Nat) (((List.replicate (2:Nat) opS.dflt).set (0:Nat) ((1:Int),(1:Int),(1:Int),(0:Int),[])).set (1:Nat) ((3:Int),(0:Int),(1:Int),(9:Int),[]))),()) ∧
 0+(1:Nat)≤([(true,(0:Int),(0:Int))]:List syS.D).length ∧
 ctTh.pre ([],([(true,(0:Int),(0:Int))]:List syS.D),()) ∧
 0+(1:Nat)≤([(9:Int)]:List uB.D).length ∧
 0+(2:Nat)≤(((List.replicate (2:Nat) opS.dflt).set (0:Nat) ((1:Int),(2:Int),(1:Int),(0:Int),[])).set (1:Nat) ((4:Int),(0:Int),(1:Int),(0:Int),([(9:Int)]:List uB.D))).length ∧
 ctSm.pre (((coV (false,(3:Int),(2:Int),([((1:Int),(1:Int),(2:Int),(0:Int),[])]:List opS.D)) (false,(2:Int),(2:Int),winL opS (0:Nat) (2:Nat) (((List.replicate (2:Nat) opS.dflt).set (0:Nat) ((1:Int),(1:Int),(1:Int),(0:Int),[])).set (1:Nat) ((3:Int),(0:Int),(1:Int),(9:Int),[])))).1),(false,(3:Int),(2:Int),winL opS (0:Nat) (2:Nat) (((List.replicate (2:Nat) opS.dflt).set (0:Nat) ((1:Int),(2:Int),(1:Int),(0:Int),[])).set (1:Nat) ((4:Int),(0:Int),(1:Int),(0:Int),([(9:Int)]:List uB.D)))),()) ∧
 ctRw.pre ((2:Int),()) ∧
 ctSm.pre (((coV (false,(2:Int),(2:Int),([((2:Int),(0:Int),(2:Int),(0:Int),winL uB (0:Nat) (2:Nat) (((List.replicate (2:Nat) uB.dflt).set (0:Nat) (1:Int)).set (1:Nat) (2:Int)))]:List opS.D)) (false,(2:Int),(2:Int),([((2:Int),(0:Int),(2:Int),(0:Int),winL uB (0:Nat) (2:Nat) (((List.replicate (2:Nat) uB.dflt).set (0:Nat) (255:Int)).set (1:Nat) (254:Int)))]:List opS.D))).1),(rwV (2:Int)),()) ∧
 0+(1:Nat)≤([((3:Int),(0:Int),(2:Int),(5:Int),[])]:List opS.D).length ∧
 ctSm.pre (((coV (false,(0:Int),(4:Int),([((3:Int),(0:Int),(4:Int),(5:Int),[])]:List opS.D)) (false,(4:Int),(2:Int),([((1:Int),(0:Int),(2:Int),(0:Int),[])]:List opS.D))).1),(false,(0:Int),(2:Int),([((3:Int),(0:Int),(2:Int),(5:Int),[])]:List opS.D)),()) ∧
 Q [.bool (decide ((thV [] (([(true,(0:Int),(0:Int))]:List syS.D))).2=(61:Int)))] [(1,.var [.bool false,.int .i64 3,.int .i64 2,.sl opS (([((1:Int),(1:Int),(2:Int),(0:Int),[])]:List opS.D))]),(2,.var [.bool false,.int .i64 2,.int .i64 2,.sl opS (winL opS (0:Nat) (2:Nat) (((List.replicate (2:Nat) opS.dflt).set (0:Nat) ((1:Int),(1:Int),(1:Int),(0:Int),[])).set (1:Nat) ((3:Int),(0:Int),(1:Int),(9:Int),[])))]),(3,.var [.bool false,.int .i64 2,.int .i64 2,.sl opS (([((2:Int),(0:Int),(2:Int),(0:Int),winL uB (0:Nat) (2:Nat) (((List.replicate (2:Nat) uB.dflt).set (0:Nat) (1:Int)).set (1:Nat) (2:Int)))]:List opS.D))]),(4,.var [.bool false,.int .i64 2,.int .i64 2,.sl opS (([((2:Int),(0:Int),(2:Int),(0:Int),winL uB (0:Nat) (2:Nat) (((List.replicate (2:Nat) uB.dflt).set (0:Nat) (255:Int)).set (1:Nat) (254:Int)))]:List opS.D))]),(5,.var [.bool false,.int .i64 0,.int .i64 4,.sl opS (([((3:Int),(0:Int),(4:Int),(5:Int),[])]:List opS.D))]),(6,.var [.bool false,.int .i64 4,.int .i64 2,.sl opS (([((1:Int),(0:Int),(2:Int),(0:Int),[])]:List opS.D))]),(7,.var [.bool (coV (false,(3:Int),(2:Int),([((1:Int),(1:Int),(2:Int),(0:Int),[])]:List opS.D)) (false,(2:Int),(2:Int),winL opS (0:Nat) (2:Nat) (((List.replicate (2:Nat) opS.dflt).set (0:Nat) ((1:Int),(1:Int),(1:Int),(0:Int),[])).set (1:Nat) ((3:Int),(0:Int),(1:Int),(9:Int),[])))).1.1,.int .i64 (coV (false,(3:Int),(2:Int),([((1:Int),(1:Int),(2:Int),(0:Int),[])]:List opS.D)) (false,(2:Int),(2:Int),winL opS (0:Nat) (2:Nat) (((List.replicate (2:Nat) opS.dflt).set (0:Nat) ((1:Int),(1:Int),(1:Int),(0:Int),[])).set (1:Nat) ((3:Int),(0:Int),(1:Int),(9:Int),[])))).1.2.1,.int .i64 (coV (false,(3:Int),(2:Int),([((1:Int),(1:Int),(2:Int),(0:Int),[])]:List opS.D)) (false,(2:Int),(2:Int),winL opS (0:Nat) (2:Nat) (((List.replicate (2:Nat) opS.dflt).set (0:Nat) ((1:Int),(1:Int),(1:Int),(0:Int),[])).set (1:Nat) ((3:Int),(0:Int),(1:Int),(9:Int),[])))).1.2.2.1,.sl opS (coV (false,(3:Int),(2:Int),([((1:Int),(1:Int),(2:Int),(0:Int),[])]:List opS.D)) (false,(2:Int),(2:Int),winL opS (0:Nat) (2:Nat) (((List.replicate (2:Nat) opS.dflt).set (0:Nat) ((1:Int),(1:Int),(1:Int),(0:Int),[])).set (1:Nat) ((3:Int),(0:Int),(1:Int),(9:Int),[])))).1.2.2.2]),(9,.var [.bool (coV (false,(2:Int),(2:Int),([((2:Int),(0:Int),(2:Int),(0:Int),winL uB (0:Nat) (2:Nat) (((List.replicate (2:Nat) uB.dflt).set (0:Nat) (1:Int)).set (1:Nat) (2:Int)))]:List opS.D)) (false,(2:Int),(2:Int),([((2:Int),(0:Int),(2:Int),(0:Int),winL uB (0:Nat) (2:Nat) (((List.replicate (2:Nat) uB.dflt).set (0:Nat) (255:Int)).set (1:Nat) (254:Int)))]:List opS.D))).1.1,.int .i64 (coV (false,(2:Int),(2:Int),([((2:Int),(0:Int),(2:Int),(0:Int),winL uB (0:Nat) (2:Nat) (((List.replicate (2:Nat) uB.dflt).set (0:Nat) (1:Int)).set (1:Nat) (2:Int)))]:List opS.D)) (false,(2:Int),(2:Int),([((2:Int),(0:Int),(2:Int),(0:Int),winL uB (0:Nat) (2:Nat) (((List.replicate (2:Nat) uB.dflt).set (0:Nat) (255:Int)).set (1:Nat) (254:Int)))]:List opS.D))).1.2.1,.int .i64 (coV (false,(2:Int),(2:Int),([((2:Int),(0:Int),(2:Int),(0:Int),winL uB (0:Nat) (2:Nat) (((List.replicate (2:Nat) uB.dflt).set (0:Nat) (1:Int)).set (1:Nat) (2:Int)))]:List opS.D)) (false,(2:Int),(2:Int),([((2:Int),(0:Int),(2:Int),(0:Int),winL uB (0:Nat) (2:Nat) (((List.replicate (2:Nat) uB.dflt).set (0:Nat) (255:Int)).set (1:Nat) (254:Int)))]:List opS.D))).1.2.2.1,.sl opS (coV (false,(2:Int),(2:Int),([((2:Int),(0:Int),(2:Int),(0:Int),winL uB (0:Nat) (2:Nat) (((List.replicate (2:Nat) uB.dflt).set (0:Nat) (1:Int)).set (1:Nat) (2:Int)))]:List opS.D)) (false,(2:Int),(2:Int),([((2:Int),(0:Int),(2:Int),(0:Int),winL uB (0:Nat) (2:Nat) (((List.replicate (2:Nat) uB.dflt).set (0:Nat) (255:Int)).set (1:Nat) (254:Int)))]:List opS.D))).1.2.2.2]),(11,.var [.bool (coV (false,(0:Int),(4:Int),([((3:Int),(0:Int),(4:Int),(5:Int),[])]:List opS.D)) (false,(4:Int),(2:Int),([((1:Int),(0:Int),(2:Int),(0:Int),[])]:List opS.D))).1.1,.int .i64 (coV (false,(0:Int),(4:Int),([((3:Int),(0:Int),(4:Int),(5:Int),[])]:List opS.D)) (false,(4:Int),(2:Int),([((1:Int),(0:Int),(2:Int),(0:Int),[])]:List opS.D))).1.2.1,.int .i64 (coV (false,(0:Int),(4:Int),([((3:Int),(0:Int),(4:Int),(5:Int),[])]:List opS.D)) (false,(4:Int),(2:Int),([((1:Int),(0:Int),(2:Int),(0:Int),[])]:List opS.D))).1.2.2.1,.sl opS (coV (false,(0:Int),(4:Int),([((3:Int),(0:Int),(4:Int),(5:Int),[])]:List opS.D)) (false,(4:Int),(2:Int),([((1:Int),(0:Int),(2:Int),(0:Int),[])]:List opS.D))).1.2.2.2]),(13,.var [.bool (coV (false,(3:Int),(2:Int),([((1:Int),(1:Int),(2:Int),(0:Int),[])]:List opS.D)) (false,(4:Int),(2:Int),([((1:Int),(0:Int),(2:Int),(0:Int),[])]:List opS.D))).1.1,.int .i64 (coV (false,(3:Int),(2:Int),([((1:Int),(1:Int),(2:Int),(0:Int),[])]:List opS.D)) (false,(4:Int),(2:Int),([((1:Int),(0:Int),(2:Int),(0:Int),[])]:List opS.D))).1.2.1,.int .i64 (coV (false,(3:Int),(2:Int),([((1:Int),(1:Int),(2:Int),(0:Int),[])]:List opS.D)) (false,(4:Int),(2:Int),([((1:Int),(0:Int),(2:Int),(0:Int),[])]:List opS.D))).1.2.2.1,.sl opS (coV (false,(3:Int),(2:Int),([((1:Int),(1:Int),(2:Int),(0:Int),[])]:List opS.D)) (false,(4:Int),(2:Int),([((1:Int),(0:Int),(2:Int),(0:Int),[])]:List opS.D))).1.2.2.2]),(15,.var [.bool (allV []).1.1,.int .i64 (allV []).1.2.1,.int .i64 (allV []).1.2.2.1,.sl opS (allV []).1.2.2.2]),(17,.var [.bool true,.int .i64 2,.int .i64 2,.sl opS (winL opS (0:Nat) (2:Nat) (((List.replicate (2:Nat) opS.dflt).set (0:Nat) ((1:Int),(1:Int),(1:Int),(0:Int),[])).set (1:Nat) ((3:Int),(0:Int),(1:Int),(9:Int),[])))]),(18,.var [.bool (coV (false,(3:Int),(2:Int),([((1:Int),(1:Int),(2:Int),(0:Int),[])]:List opS.D)) (true,(2:Int),(2:Int),winL opS (0:Nat) (2:Nat) (((List.replicate (2:Nat) opS.dflt).set (0:Nat) ((1:Int),(1:Int),(1:Int),(0:Int),[])).set (1:Nat) ((3:Int),(0:Int),(1:Int),(9:Int),[])))).1.1,.int .i64 (coV (false,(3:Int),(2:Int),([((1:Int),(1:Int),(2:Int),(0:Int),[])]:List opS.D)) (true,(2:Int),(2:Int),winL opS (0:Nat) (2:Nat) (((List.replicate (2:Nat) opS.dflt).set (0:Nat) ((1:Int),(1:Int),(1:Int),(0:Int),[])).set (1:Nat) ((3:Int),(0:Int),(1:Int),(9:Int),[])))).1.2.1,.int .i64 (coV (false,(3:Int),(2:Int),([((1:Int),(1:Int),(2:Int),(0:Int),[])]:List opS.D)) (true,(2:Int),(2:Int),winL opS (0:Nat) (2:Nat) (((List.replicate (2:Nat) opS.dflt).set (0:Nat) ((1:Int),(1:Int),(1:Int),(0:Int),[])).set (1:Nat) ((3:Int),(0:Int),(1:Int),(9:Int),[])))).1.2.2.1,.sl opS (coV (false,(3:Int),(2:Int),([((1:Int),(1:Int),(2:Int),(0:Int),[])]:List opS.D)) (true,(2:Int),(2:Int),winL opS (0:Nat) (2:Nat) (((List.replicate (2:Nat) opS.dflt).set (0:Nat) ((1:Int),(1:Int),(1:Int),(0:Int),[])).set (1:Nat) ((3:Int),(0:Int),(1:Int),(9:Int),[])))).1.2.2.2]),(82,.row 45 syS ([(true,(0:Int),(0:Int))]:List syS.D)),(114,.row 39 opS ([((3:Int),(0:Int),(2:Int),(5:Int),[])]:List opS.D)),(1339968,.row 45 syS (thV [] (([(true,(0:Int),(0:Int))]:List syS.D))).1)]):=by kernel_rfl
end Go.Proofs.YticpkibnhakgbaaGreatDoor
namespace Go.Proofs.YticpkibnhakgbaaGreatDoor
open Go.Px Go.Ax
set_option maxRecDepth 100000
attribute [local irreducible] Go.Px.sy Go.Px.syE
def ctSn9:Ctr:=⟨[],fun _=>True,fun _=>[.bool true],fun _=>[]⟩
theorem csan_run (R:List Item→PS→Prop):sy tt G0 CSc Tryz.f4.ntmps Tryz.f4.results.toList (QC ctSn9 ()) R 1000 [.code (bodyOf Tryz.f4)] (entry [] ()):=by
 refine (vc_csan _ _).mpr ?_
 repeat' first
  | exact trivial
  | (show List.length _<1000000;decide +kernel)
  | (show List.length _<16777216;decide +kernel)
  | (show List.length _<1099511627776;decide +kernel)
  | decide +kernel
  | refine And.intro ?_ ?_
  | (refine QC.flat ?_ rfl rfl)
  | (refine congrArg (fun b=>[SV.bool b]) ?_;decide +kernel)
theorem csan_held:Held Tryz.prog G0 4 ctSn9:=Held.run cxSc (fn:=Tryz.f4) rfl rfl ⟨by decide,by decide⟩ fun x _=>csan_run _
end Go.Proofs.YticpkibnhakgbaaGreatDoor
namespace Go.Proofs.YticpkibnhakgbaaGreatDoor
open Go.Px Go.Ax
set_option maxRecDepth 100000
theorem chR_chn:∀ (l:List RaT) (o:Int),preRa l→0≤o→o≤30→chn false o (chR o l)∧∀ q∈chR o l,byL (symF q.2.2.2)
 | [],o,_,_,_=>⟨trivial,fun q hq=>by cases hq⟩
 | x::l,o,hp,h0,h1=>by
  have hx:=hp x (by simp)
  obtain ⟨s1,s2,s3,s4⟩:=szV_ok (m:=o) hx.2.1 h0 (by omega)
  have so:=szV_out (m:=o) hx.2.1 h0
  obtain ⟨r1,r2⟩:=chR_chn l (szV x.2 o).2.2.1 (fun y hy=>hp y (by simp[hy])) so.1 so.2
  refine ⟨⟨s1,rfl,rfl,by omega,r1⟩,fun q hq=>?_⟩
  rcases List.mem_cons.1 hq with e | hq
  ·rw[e];exact s4
  ·exact r2 q hq
theorem rw3:(chkV (rwV 3)).2=0∧(rwV 3).1=false∧(rwV 3).2.2.1=3∧(rwV 3).2.1=3:=⟨by decide +kernel,rfl,rfl,rfl⟩
theorem rw3_sym:symF (rwV 3).2.2.2=[(true,0,0),(true,1,0),(true,2,0)]:=by decide +kernel
theorem rw3_by:byL (symF (rwV 3).2.2.2):=by
 rw[rw3_sym]
 intro x hx
 simp only[List.mem_cons,List.not_mem_nil,or_false] at hx
 rcases hx with rfl | rfl | rfl <;> exact ⟨by decide,by decide⟩
structure Fit (p:PaT) (t:List PaT):Prop where
 ok:(chkV p).2=0
 li:p.1=false
 out:p.2.2.1≤4096
 ch:chn false p.2.2.1 t
 by0:byL (symF p.2.2.2)
 by1:∀ q∈t,byL (symF q.2.2.2)
 len:t.length≤3
 in_:0≤p.2.1∧p.2.1≤12
theorem chV_fit {l:List RaT} (hp:preRa l):∃ p t,chV l=p::t∧Fit p t:=by
 unfold chV
 split
 ·exact ⟨rwV 3,[],rfl,rw3.1,rfl,by decide,trivial,rw3_by,(fun q hq=>by cases hq),by decide,by decide⟩
 ·rename_i hne
  cases l with
  | nil=>exact absurd rfl hne
  | cons x r=>
   have hx:=hp x (by simp)
   have hm:0≤x.1 % 13∧x.1 % 13≤12:=by omega
   obtain ⟨s1,s2,s3,s4⟩:=szV_ok (m:=x.1 % 13) hx.2.1 hm.1 (by omega)
   have so:=szV_out (m:=x.1 % 13) hx.2.1 hm.1
   obtain ⟨r1,r2⟩:=chR_chn (r.take 3) (szV x.2 (x.1 % 13)).2.2.1 (fun y hy=>hp y (by simp[List.mem_of_mem_take hy])) so.1 so.2
   exact ⟨_,_,rfl,s1,rfl,by omega,r1,s4,r2,(show (chR (szV x.2 (x.1 % 13)).2.2.1 (r.take 3)).length≤3 by rw[chR_len,List.length_take];omega),hm⟩
theorem ch_ops {m:Int} {s:List SyT} (hr:∀ x∈s,sOK m x=true) (h0:0≤m) (h1:m≤65536) (hl:s.length≤4096):(chL s).length≤4096:=(poV_ok hr h0 h1 hl).2.2.2.2.1
theorem Fit.all {p:PaT} {t:List PaT} (h:Fit p t):allV (p::t)=(nfP false p.2.1 (syC (symF p.2.2.2) t),0)∧(∀ x∈syC (symF p.2.2.2) t,sOK p.2.1 x=true)∧(syC (symF p.2.2.2) t).length≤4096∧(chL (syC (symF p.2.2.2) t)).length≤4096:=by
 have ha:=all_nf h.ok h.out (by rw[h.li];exact h.ch)
 obtain ⟨r1,r2,r3⟩:=sy_right h.ok
 have ho:=h.out
 obtain ⟨k1,k2⟩:=syC_ok (m:=p.2.1) (li:=false) (l:=t) r1 (by omega) (by rw[r3];exact h.ch)
 rw[h.li] at ha
 exact ⟨ha,k1,k2,ch_ops k1 r2.1 r2.2 k2⟩
end Go.Proofs.YticpkibnhakgbaaGreatDoor
namespace Go.Proofs.YticpkibnhakgbaaGreatDoor
open Go.Px Go.Ax
set_option maxRecDepth 100000
def CAz:CV:=[(4,.inl ctSn9),(5,.inl ctChn),(6,.inl ctInp),(7,.inl ctAl),(8,.inl ctAp),(9,.inl ctR2)]
theorem cxAz:CxOK Tryz.prog tt G0 CAz:=(((((cx0.cons r2_held (fn:=Tryz.f9) rfl rfl rfl).cons ap_held (fn:=Tryz.f8) rfl rfl rfl).cons all_held (fn:=Tryz.f7) rfl rfl rfl).cons inp_held (fn:=Tryz.f6) rfl rfl rfl).cons chn_held (fn:=Tryz.f5) rfl rfl rfl).cons csan_held (fn:=Tryz.f4) rfl rfl rfl
set_option maxRecDepth 100000
theorem vc_ap9 (l:List RaT) (b:List Int) (Q:List SV→List (Nat × LB)→Prop) (R:List Item→PS→Prop):sy tt G0 CAz Tryz.f3.ntmps Tryz.f3.results.toList Q (fun it S=>R it (keepS [5,6,10,12,13] [1073728,1098304,1135168] S)) 1000 [.code (bodyOf Tryz.f3)] (entry [.sl raS,.sl uB] (l,b,())) =
  (ctSn9.pre () ∧
 ctChn.pre (l,(4:Int),()) ∧
 (0:Int)≤(0:Int) ∧
 (0:Int)<(↑(chV l).length:Int) ∧
 0+0<(chV l).length ∧
 ctInp.pre (b,(gtP (chV l) (0+0)).snd.fst,()) ∧
 0+(chV l).length≤(chV l).length ∧
 0+(chV l).length≤(chV l).length ∧
 0+(chV l).length≤(chV l).length ∧
 0+(chV l).length≤(chV l).length ∧
 ctAl.pre (winL paS (0:Nat) (chV l).length (chV l),()) ∧
 0+(inpL b (Int.toNat (gtP (chV l) (0+0)).snd.fst)).length≤(inpL b (Int.toNat (gtP (chV l) (0+0)).snd.fst)).length ∧
 ctAp.pre (winL uB (0:Nat) (inpL b (Int.toNat (gtP (chV l) (0+0)).snd.fst)).length (inpL b (Int.toNat (gtP (chV l) (0+0)).snd.fst)),((allV (winL paS (0:Nat) (chV l).length (chV l))).fst),()) ∧
 bc (decide ((allV (winL paS (0:Nat) (chV l).length (chV l))).snd≠(0:Int))) (true=true ∧
 Q [SV.bool false] [((8:Nat),LB.var [SV.bool (allV (winL paS (0:Nat) (chV l).length (chV l))).fst.fst,SV.int IntKind.i64 (allV (winL paS (0:Nat) (chV l).length (chV l))).fst.snd.fst,SV.int IntKind.i64 (allV (winL paS (0:Nat) (chV l).length (chV l))).fst.snd.snd.fst,SV.sl opS (allV (winL paS (0:Nat) (chV l).length (chV l))).fst.snd.snd.snd]),((1098304:Nat),LB.row (5:Nat) uB (inpL b (Int.toNat (gtP (chV l) (0+0)).snd.fst))),((1135168:Nat),LB.row (5:Nat) uB (apV (winL uB (0:Nat) (inpL b (Int.toNat (gtP (chV l) (0+0)).snd.fst)).length (inpL b (Int.toNat (gtP (chV l) (0+0)).snd.fst))) ((allV (winL paS (0:Nat) (chV l).length (chV l))).fst)).fst)]) (bc (bif false then true else decide ((apV (winL uB (0:Nat) (inpL b (Int.toNat (gtP (chV l) (0+0)).snd.fst)).length (inpL b (Int.toNat (gtP (chV l) (0+0)).snd.fst))) ((allV (winL paS (0:Nat) (chV l).length (chV l))).fst)).snd≠(0:Int))) (Q [SV.bool false] [((8:Nat),LB.var [SV.bool (allV (winL paS (0:Nat) (chV l).length (chV l))).fst.fst,SV.int IntKind.i64 (allV (winL paS (0:Nat) (chV l).length (chV l))).fst.snd.fst,SV.int IntKind.i64 (allV (winL paS (0:Nat) (chV l).length (chV l))).fst.snd.snd.fst,SV.sl opS (allV (winL paS (0:Nat) (chV l).length (chV l))).fst.snd.snd.snd]),((1098304:Nat),LB.row (5:Nat) uB (inpL b (Int.toNat (gtP (chV l) (0+0)).snd.fst))),((1135168:Nat),LB.row (5:Nat) uB (apV (winL uB (0:Nat) (inpL b (Int.toNat (gtP (chV l) (0+0)).snd.fst)).length (inpL b (Int.toNat (gtP (chV l) (0+0)).snd.fst))) ((allV (winL paS (0:Nat) (chV l).length (chV l))).fst)).fst)]) (R (hd Tryz.f3 (0:Nat)) { env:=[((5:Nat),SV.bool true),((6:Nat),SV.sl paS (winL paS (0:Nat) (chV l).length (chV l))),((10:Nat),SV.win true uB (1135168:Nat) (0:Nat) (apV (winL uB (0:Nat) (inpL b (Int.toNat (gtP (chV l) (0+0)).snd.fst)).length (inpL b (Int.toNat (gtP (chV l) (0+0)).snd.fst))) ((allV (winL paS (0:Nat) (chV l).length (chV l))).fst)).fst.length),((12:Nat),SV.win true uB (1098304:Nat) (0:Nat) (inpL b (Int.toNat (gtP (chV l) (0+0)).snd.fst)).length),((13:Nat),SV.int IntKind.i64 (0:Int))],blk:=[((1098304:Nat),LB.row (5:Nat) uB (inpL b (Int.toNat (gtP (chV l) (0+0)).snd.fst))),((1135168:Nat),LB.row (5:Nat) uB (apV (winL uB (0:Nat) (inpL b (Int.toNat (gtP (chV l) (0+0)).snd.fst)).length (inpL b (Int.toNat (gtP (chV l) (0+0)).snd.fst))) ((allV (winL paS (0:Nat) (chV l).length (chV l))).fst)).fst)] }))):=by kernel_rfl
theorem vc_ap9L (c:List PaT) (g now:List Int) (i:Int) (Q:List SV→List (Nat × LB)→Prop) (R:List Item→PS→Prop):sy tt G0 CAz Tryz.f3.ntmps Tryz.f3.results.toList Q (fun it S=>R it (keepS [5,6,10,12,13] [1225280] S)) 1000 (hd Tryz.f3 0) ⟨[(5,.bool true),(6,.sl paS c),(10,.sl uB g),(12,.sl uB now),(13,.int .i64 i)],[]⟩ =
  (bc (decide (i<(↑c.length:Int))) ((0:Int)≤i ∧
 i<(↑c.length:Int) ∧
 ctAp.pre (now,(gtP c i.toNat),()) ∧
 bc (decide ((apV now (gtP c i.toNat)).snd≠(0:Int))) (Q [SV.bool false] [((1225280:Nat),LB.row (5:Nat) uB (apV now (gtP c i.toNat)).fst)]) (R (hd Tryz.f3 (0:Nat)) { env:=[((5:Nat),SV.bool true),((6:Nat),SV.sl paS c),((10:Nat),SV.sl uB g),((12:Nat),SV.win true uB (1225280:Nat) (0:Nat) (apV now (gtP c i.toNat)).fst.length),((13:Nat),SV.int IntKind.i64 (IntKind.i64.wrap (i+(1:Int))))],blk:=[((1225280:Nat),LB.row (5:Nat) uB (apV now (gtP c i.toNat)).fst)] })) (ctR2.pre (g,now,()) ∧
 bc (decide ((have this:=g;this)=now)) (Q [SV.bool true] []) (false=false ∧
 Q [SV.bool false] []))):=by kernel_rfl
end Go.Proofs.YticpkibnhakgbaaGreatDoor
namespace Go.Proofs.YticpkibnhakgbaaGreatDoor
open Go.Px Go.Ax
def u8L (b:List Int):Prop:=∀ j,0≤gtB b j∧gtB b j<256
theorem u8_wf {n:Int} (h:wfD uB n):0≤n∧n<256:=by
 have h:(Lit.int IntKind.u8 n).wf=true:=h
 simp[Lit.wf,IntKind.min,IntKind.max,IntKind.signed,IntKind.bits] at h
 omega
theorem u8_of {l:List Int} (h:∀ x∈l,wfD uB x):u8L l:=fun j=>by
 by_cases hj:j<l.length
 ·rw[gtB_at hj];exact u8_wf (h _ (List.getElem_mem hj))
 ·have:gtB l j=0:=by
   show gt uB _ _=_
   unfold gt
   rw[List.getElem?_eq_none (by omega)];rfl
  rw[this];decide
theorem l4_of {l:List (List Int)} (h:∀ x∈l,wfD a4S x):preL4 l:=fun j=>by
 by_cases hj:j<l.length
 ·have e:gt a4S l j=l[j]:=gtE (e:=a4S) hj
  rw[e]
  exact u8_of (h _ (List.getElem_mem hj)).2
 ·have:gt a4S l j=List.replicate 4 (0:Int):=by
   unfold gt
   rw[List.getElem?_eq_none (by omega)];rfl
  rw[this]
  exact u8_of fun x hx=>by
   rw[List.eq_of_mem_replicate hx];rfl
theorem m6_of {x:Int × List (List Int)} (h:wfD raS x):preM6 x.1 x.2:=⟨u8_wf h.1,l4_of h.2.2,h.2.1⟩
theorem G_get {g:Nat} {x:ABlk} (h:rawG.get g=some x):g=0∧x=.cells costCells 138 2:=by
 unfold rawG T.get at h
 split at h
 ·rename_i e;cases h;exact ⟨e,rfl⟩
 ·split at h <;> (simp[T.get] at h)
theorem hG:Glob G0.raw:=⟨fun g x h=>by rw[(G_get h).1];decide,fun g x h=>by rw[(G_get h).2];decide⟩
abbrev H0:AHeap:=⟨nglob,G0.raw⟩
def Z0:Nat→Option ABlk:=fun g=>rawG.get g
theorem gz0:GZ Z0 G0:=by
 refine ⟨fun g x e=>?_,fun g x e=>e⟩
 simp only[G0,lk] at e
 split at e
 ·rename_i h;subst h;cases e
  refine ⟨by decide,fun ν=>⟨0,0,costCells,138,2,rfl,rfl,by decide,?_⟩⟩
  exact rv_of (.arr 5 coS) costsL ⟨rfl,fun x _=>⟨trivial,trivial⟩⟩
 ·cases e
theorem fro0:Px.Fro G0 H0:=⟨fun i x h=>by rw[(G_get h).2];rfl,fun i x h=>by rw[(G_get h).2];trivial,fun i x h=>by rw[(G_get h).1];decide,gz0⟩
end Go.Proofs.YticpkibnhakgbaaGreatDoor
namespace Go.Proofs.YticpkibnhakgbaaGreatDoor
open Go.Px Go.Ax
set_option maxRecDepth 100000
attribute [local irreducible] Go.Px.sy Go.Px.syE
abbrev TQz:List SV→List (Nat × LB)→Prop:=fun rs _=>rs=[.bool true]
theorem frzZ {f:Nat} {fn:Func} {Q:List SV→List (Nat × LB)→Prop} {it:List Item} {S:PS} {i:Nat} {e:Sh} {et:TypeId} {xs:List e.D} (hl:lk S.blk i=some (.row et e xs)) (hc:cdP i xs.length S=[0+xs.length≤xs.length]) (h:GD f fn Q it (S.frzR i e xs)):GD f fn Q it S:=
 Good.frz hl (fun c hcc=>by rw[hc] at hcc;rw[List.mem_singleton] at hcc;subst hcc;omega) h
theorem ap_val {old:List Int} {q:PaT} (hq:(chkV q).2=0) (hl:(old.length:Int)=q.2.1):apV old q=((symF q.2.2.2).map (ruB old),0):=by
 obtain ⟨r1,r2,r3⟩:=sy_right hq
 unfold apV plV
 rw[sy_ok hq]
 rw[if_pos rfl,if_pos hl]
 exact runV_ok (by rw[hl];exact r1)
def nw:List Int→List PaT→List Int
 | o,[]=>o
 | o,q::l=>nw ((symF q.2.2.2).map (ruB o)) l
theorem nw_syC {li:Bool} {old:List Int}:∀ {l:List PaT} {s:List SyT},chn li s.length l→nw (s.map (ruB old)) l=(syC s l).map (ruB old)
 | [],s,_=>rfl
 | q::l,s,h=>by
  obtain ⟨c1,c2,c3,c4,c5⟩:=h
  obtain ⟨r1,r2,r3⟩:=sy_right c1
  rw[nw,syC,← thL_run (old:=old) (a:=s) (b:=symF q.2.2.2) (fun x hx=>sOK_th (by rw[c3];exact r1 x hx))]
  exact nw_syC (li:=li) (l:=l) (by rw[thL_len,r3];exact c5)
theorem apz_loop (c:List PaT) (hc:c.length<1099511627776) (g:List Int) (hg:g.length<1099511627776):∀ (k i:Nat) (now:List Int),c.length-i=k→i≤c.length→chn false now.length (c.drop i)→nw now (c.drop i)=g →
  GD 3 Tryz.f3 TQz (hd Tryz.f3 0) ⟨[(5,.bool true),(6,.sl paS c),(10,.sl uB g),(12,.sl uB now),(13,.int .i64 (i:Nat))],[]⟩:=by
 intro k
 induction k with
 | zero=>
  intro i now hk hi hn he
  refine sy_goK cxAz (vc_ap9L c g now i _ _) ?_
  rw[List.drop_of_length_le (by omega)] at he
  have he:now=g:=he
  subst he
  rw[decide_eq_false (by omega),bc_f]
  exact ⟨hg,bc_of (fun _=>rfl) (fun h=>absurd rfl (of_decide_eq_false h))⟩
 | succ k ih=>
  intro i now hk hi hn he
  have hlt:i<c.length:=by omega
  rw[List.drop_eq_getElem_cons hlt] at hn he
  obtain ⟨c1,c2,c3,c4,c5⟩:=hn
  have hv:=ap_val c1 c3
  refine sy_goK cxAz (vc_ap9L c g now i _ _) ?_
  rw[decide_eq_true (show (i:Int)<(c.length:Int) by omega),bc_t,Int.toNat_natCast,IntWalk.i64_in ((i:Int)+1) (by omega),gtP_at hlt,hv]
  refine ⟨by omega,by omega,c2,bc_of (fun h=>absurd rfl (of_decide_eq_true h)) (fun _=>?_)⟩
  have hl:((((symF c[i].2.2.2).map (ruB now)).length:Nat):Int)=c[i].2.2.1:=by rw[List.length_map];exact (sy_right c1).2.2
  have g1:=ih (i+1) ((symF c[i].2.2.2).map (ruB now)) (by omega) (by omega) (by rw[hl];exact c5) he
  refine frzZ (i:=1225280) (e:=uB) (et:=5) (xs:=(symF c[i].2.2.2).map (ruB now)) rfl rfl ?_
  refine g1.only ⟨rfl,rfl,rfl,?_,rfl,trivial⟩ trivial
  show some (SV.sl uB (winL uB 0 ((symF c[i].2.2.2).map (ruB now)).length ((symF c[i].2.2.2).map (ruB now))))=some (SV.sl uB ((symF c[i].2.2.2).map (ruB now)))
  rw[winA]
def ctApp:Ctr:=⟨[.sl raS,.sl uB],fun x=>preRa x.1,fun _=>[.bool true],fun _=>[]⟩
theorem apz_run (l:List RaT) (b:List Int) (hl:preRa l):GD 3 Tryz.f3 (QC ctApp (l,b,())) [.code (bodyOf Tryz.f3)] (entry [.sl raS,.sl uB] (l,b,())):=by
 obtain ⟨p,t,hv,hf⟩:=chV_fit hl
 obtain ⟨ha,k1,k2,k3⟩:=hf.all
 have htl:=hf.len
 have hin:=hf.in_
 have hlen:(p::t).length=t.length+1:=rfl
 have hl1:(p::t).length<1099511627776:=by omega
 refine sy_goK cxAz (vc_ap9 l b _ _) ?_
 rw[winA,hv,show gtP (p::t) (0+0)=p from rfl]
 have li:((inpL b p.2.1.toNat).length:Int)=p.2.1:=by rw[inpL_len];omega
 generalize hold:inpL b p.2.1.toNat=old at *
 rw[winA,ha]
 obtain ⟨r1,r2,r3⟩:=sy_right hf.ok
 obtain ⟨n1,n2,n3⟩:=nf_ok false k1 r2.1 r2.2 k2
 have hg:=ap_val (old:=old) n1 (show (old.length:Int)=p.2.1 from li)
 rw[show symF (nfP false p.2.1 (syC (symF p.2.2.2) t)).2.2.2=syC (symF p.2.2.2) t from n2] at hg
 have hg:apV old (nfP false p.2.1 (syC (symF p.2.2.2) t),(0:Int)).1=((syC (symF p.2.2.2) t).map (ruB old),0):=hg
 have hn:=nw_syC (li:=false) (old:=old) (l:=t) (s:=symF p.2.2.2) (by rw[r3];exact hf.ch)
 have hgl:((syC (symF p.2.2.2) t).map (ruB old)).length≤4096:=by rw[List.length_map];exact k2
 rw[hg]
 refine ⟨trivial,⟨hl,rfl⟩,by omega,by omega,by omega,(show preI p.2.1 from ⟨by omega,by omega⟩),by omega,by omega,by omega,by omega,hl1,by omega,rfl,bc_of (fun h=>absurd rfl (of_decide_eq_true h)) (fun _=>bc_of (fun h=>by simp at h) (fun _=>?_))⟩
 have g1:=apz_loop (p::t) hl1 _ (by omega) _ 0 old rfl (Nat.zero_le _) (by rw[List.drop_zero,li];exact ⟨hf.ok,hf.li,rfl,hf.out,hf.ch⟩) (show nw old (p::t)=_ from hn)
 generalize (syC (symF p.2.2.2) t).map (ruB old)=g at *
 refine frzZ (i:=1098304) (e:=uB) (et:=5) (xs:=old) rfl rfl ?_
 refine frzZ (i:=1135168) (e:=uB) (et:=5) (xs:=g) rfl rfl ?_
 refine ((g1.post fun rs blk hq=>QC.flat (by rw[hq];rfl) rfl (by rw[hq];rfl)).only ⟨rfl,rfl,?_,?_,rfl,trivial⟩ trivial)
 ·show some (SV.sl uB (winL uB 0 g.length g))=some (SV.sl uB g)
  rw[winA]
 ·show some (SV.sl uB (winL uB 0 old.length old))=some (SV.sl uB old)
  rw[winA]
theorem apz_held:Held Tryz.prog G0 3 ctApp:=Held.of cxAz (fn:=Tryz.f3) rfl rfl ⟨by decide,by decide⟩ fun ⟨l,b,_⟩ hp=>apz_run l b hp
theorem ra_of {l:List RaT} (h:wfD (.sl raS) l):preRa l:=fun x hx=>m6_of (h.2 x hx)
end Go.Proofs.YticpkibnhakgbaaGreatDoor
