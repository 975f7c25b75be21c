/-
  A part of the proof: what pieces of the program give; conditions: those of each theorem.
-/
import Derived.Test.YticpkibnhakgbaaDoorQ2
import Derived.Test.YticpkibnhakgbaaDoorQ0
import Derived.Test.YticpkibnhakgbaaDoorHD
import Derived.Test.YticpkibnhakgbaaDoorQ1
import Derived.KernelRfl
set_option linter.unusedVariables false
set_option linter.unusedSimpArgs false
namespace Go.Proofs.YticpkibnhakgbaaDoor
open Go.Px Go.Ax
set_option maxRecDepth 100000
def thE (a:List SyT) (s:SyT):SyT:=if s.1=true then ((gtY a s.2.1.toNat).1,(gtY a s.2.1.toNat).2.1,IntKind.u8.wrap ((gtY a s.2.1.toNat).2.2+s.2.2)) else (false,0,s.2.2)
def thOK (n:Nat) (s:SyT):Bool := !s.1 || (decide (0≤s.2.1)&&decide (s.2.1<n))
def thL (a b:List SyT):List SyT:=b.map (thE a)
def thV (a b:List SyT):List SyT × Int:=if b.all (thOK a.length)=true then (thL a b,0) else ([],61)
abbrev zP:PaT:=(false,0,0,[])
def coV (p q:PaT):PaT × Int:=
 if (symV p).2≠0 then (zP,(symV p).2) else if (symV q).2≠0 then (zP,(symV q).2) else
 if p.1≠q.1 then (zP,62) else if p.2.2.1≠q.2.1 then (zP,61) else
 if (cpV (thL (symV p).1 (symV q).1) p.2.1).2≠0 then (zP,(cpV (thL (symV p).1 (symV q).1) p.2.1).2) else ((p.1,(cpV (thL (symV p).1 (symV q).1) p.2.1).1.2),0)
def alF:PaT × Int→List PaT→PaT × Int
 | r,[]=>r
 | r,q::l=>if (coV r.1 q).2≠0 then coV r.1 q else alF (coV r.1 q) l
def allV:List PaT→PaT × Int
 | []=>(zP,1)
 | p::l=>if (foV p).2≠0 then (zP,(foV p).2) else alF (foV p) l
def byL (s:List SyT):Prop:=∀ x∈s,0≤x.2.2∧x.2.2<256
theorem thL_len (a b:List SyT):(thL a b).length=b.length:=by simp[thL]
theorem gtY_mem {a:List SyT} {i:Nat} (h:i<a.length):gtY a i∈a:=by
 rw[gtY_at h];exact List.getElem_mem h
theorem sOK_th {n:Nat} {s:SyT} (h:sOK n s=true):thOK n s=true:=by
 unfold sOK at h;unfold thOK
 split at h
 ·rw[h];simp
 ·rename_i q;simp[q]
theorem thOK_lt {n:Nat} {s:SyT} (h:thOK n s=true) (hs:s.1=true):0≤s.2.1∧s.2.1.toNat<n:=by
 unfold thOK at h
 rw[hs] at h
 simp only[Bool.not_true,Bool.false_or,Bool.and_eq_true,decide_eq_true_eq] at h
 omega
theorem thE_sOK {a:List SyT} {m:Int} {s:SyT} (ha:∀ x∈a,sOK m x=true) (hs:sOK a.length s=true):sOK m (thE a s)=true:=by
 unfold thE
 split
 ·rename_i h
  have h1:=thOK_lt (sOK_th hs) h
  have h2:=ha _ (gtY_mem h1.2)
  unfold sOK at h2 ⊢
  exact h2
 ·simp[sOK]
theorem thL_sOK {a b:List SyT} {m:Int} (ha:∀ x∈a,sOK m x=true) (hb:∀ x∈b,sOK a.length x=true):∀ x∈thL a b,sOK m x=true:=fun x hx=>by
 obtain ⟨s,hs,e⟩:=List.mem_map.1 hx
 rw[← e];exact thE_sOK ha (hb s hs)
theorem thV_ok {a b:List SyT} (hb:∀ x∈b,sOK a.length x=true):thV a b=(thL a b,0):=by
 unfold thV
 rw[if_pos (List.all_eq_true.2 fun x hx=>sOK_th (hb x hx))]
abbrev nfP (li:Bool) (m:Int) (s:List SyT):PaT:=(li,m,(s.length:Int),chL s)
theorem nf_ok {s:List SyT} {m:Int} (li:Bool) (hr:∀ x∈s,sOK m x=true) (h0:0≤m) (h1:m≤65536) (hl:s.length≤4096):(chkV (nfP li m s)).2=0∧symF (chL s)=s∧symV (nfP li m s)=(s,0):=by
 obtain ⟨q1,q2,q3,q4,q5,q6⟩:=poV_ok hr h0 h1 hl
 have q6:(chkV (nfP li m s)).2=0:=q6
 refine ⟨q6,q2,?_⟩
 unfold symV
 rw[if_pos q6]
 exact Prod.ext q2 rfl
theorem sy_ok {p:PaT} (h:(chkV p).2=0):symV p=(symF p.2.2.2,0):=by unfold symV;rw[if_pos h]
theorem fo_nf {p:PaT} (h:(chkV p).2=0) (hs:p.2.2.1≤4096):foV p=(nfP p.1 p.2.1 (symF p.2.2.2),0):=by
 obtain ⟨h1,h2,h3⟩:=symV_right (p:=p) (by rw[sy_ok h])
 rw[sy_ok h] at h1 h3
 have h1:∀ s∈symF p.2.2.2,sOK p.2.1 s=true:=h1
 have h3:((symF p.2.2.2).length:Int)=p.2.2.1:=h3
 obtain ⟨q1,_⟩:=poV_ok h1 h2.1 h2.2 (by omega)
 unfold foV
 rw[sy_ok h]
 simp only[q1]
 rfl
theorem co_nf {p q:PaT} (hp:(chkV p).2=0) (hq:(chkV q).2=0) (hl:p.1=q.1) (ho:p.2.2.1=q.2.1) (hs:q.2.2.1≤4096) :
  coV p q=(nfP p.1 p.2.1 (thL (symF p.2.2.2) (symF q.2.2.2)),0):=by
 obtain ⟨a1,a2,a3⟩:=symV_right (p:=p) (by rw[sy_ok hp])
 obtain ⟨b1,b2,b3⟩:=symV_right (p:=q) (by rw[sy_ok hq])
 rw[sy_ok hp] at a1 a3
 rw[sy_ok hq] at b1 b3
 have a3:((symF p.2.2.2).length:Int)=p.2.2.1:=a3
 have b3:((symF q.2.2.2).length:Int)=q.2.2.1:=b3
 have c1:=cpV_ok (m:=p.2.1) (thL_sOK a1 (b:=symF q.2.2.2) (fun x hx=>by rw[a3,ho];exact b1 x hx)) a2.1 a2.2 (by rw[thL_len];omega)
 unfold coV
 rw[sy_ok hp,sy_ok hq]
 rw[if_neg (by simp),if_neg (by simp),if_neg (by simpa using hl),if_neg (by simpa using ho)]
 simp only[c1]
 rfl
def syC:List SyT→List PaT→List SyT
 | s,[]=>s
 | s,q::l=>syC (thL s (symF q.2.2.2)) l
def chn (li:Bool):Int→List PaT→Prop
 | _,[]=>True
 | o,q::l=>(chkV q).2=0∧q.1=li∧o=q.2.1∧q.2.2.1≤4096∧chn li q.2.2.1 l
theorem sy_right {q:PaT} (h:(chkV q).2=0):(∀ s∈symF q.2.2.2,sOK q.2.1 s=true)∧(0≤q.2.1∧q.2.1≤65536)∧((symF q.2.2.2).length:Int)=q.2.2.1:=by
 have:=symV_right (p:=q) (by rw[sy_ok h])
 rw[sy_ok h] at this
 exact this
theorem syC_ok {m:Int} {li:Bool}:∀ {l:List PaT} {s:List SyT},(∀ x∈s,sOK m x=true)→s.length≤4096→chn li s.length l→(∀ x∈syC s l,sOK m x=true)∧(syC s l).length≤4096
 | [],s,h,h2,_=>⟨h,h2⟩
 | q::l,s,h,h2,hc=>by
  obtain ⟨c1,c2,c3,c4,c5⟩:=hc
  obtain ⟨r1,r2,r3⟩:=sy_right c1
  refine syC_ok (li:=li) (l:=l) (s:=thL s (symF q.2.2.2)) (thL_sOK h fun x hx=>by rw[c3];exact r1 x hx) (by rw[thL_len];omega) ?_
  rw[thL_len,r3];exact c5
theorem al_nf {m:Int} {li:Bool} (h0:0≤m) (h1:m≤65536):∀ {l:List PaT} {s:List SyT},(∀ x∈s,sOK m x=true)→s.length≤4096→chn li s.length l→alF (nfP li m s,0) l=(nfP li m (syC s l),0)
 | [],s,h,h2,_=>rfl
 | q::l,s,h,h2,hc=>by
  obtain ⟨c1,c2,c3,c4,c5⟩:=hc
  obtain ⟨r1,r2,r3⟩:=sy_right c1
  obtain ⟨n1,n2,n3⟩:=nf_ok li h h0 h1 h2
  have e:=co_nf n1 c1 (show li=q.1 from c2.symm) c3 c4
  rw[show symF (nfP li m s).2.2.2=s from n2] at e
  rw[alF,show (nfP li m s,(0:Int)).1=nfP li m s from rfl,e,if_neg (by simp)]
  refine al_nf h0 h1 (l:=l) (s:=thL s (symF q.2.2.2)) (thL_sOK h fun x hx=>by rw[c3];exact r1 x hx) (by rw[thL_len];omega) ?_
  rw[thL_len,r3];exact c5
theorem all_nf {p:PaT} {l:List PaT} (h:(chkV p).2=0) (hs:p.2.2.1≤4096) (hc:chn p.1 p.2.2.1 l):allV (p::l)=(nfP p.1 p.2.1 (syC (symF p.2.2.2) l),0):=by
 obtain ⟨r1,r2,r3⟩:=sy_right h
 rw[allV,fo_nf h hs,if_neg (by simp)]
 exact al_nf r2.1 r2.2 r1 (by omega) (by rw[r3];exact hc)
end Go.Proofs.YticpkibnhakgbaaDoor
namespace Go.Proofs.YticpkibnhakgbaaDoor
open Go.Px Go.Ax
set_option maxRecDepth 100000
theorem gtB_map {a:List SyT} {f:SyT→Int} {i:Nat} (h:i<a.length):gtB (a.map f) i=f (gtY a i):=by
 rw[gtB_at (by simpa using h),gtY_at h,List.getElem_map]
theorem ruB_th {old:List Int} {a:List SyT} {s:SyT} (hs:thOK a.length s=true):ruB old (thE a s)=ruB (a.map (ruB old)) s:=by
 by_cases h:s.1=true
 ·have h1:=thOK_lt hs h
  have e1:thE a s=((gtY a s.2.1.toNat).1,(gtY a s.2.1.toNat).2.1,IntKind.u8.wrap ((gtY a s.2.1.toNat).2.2+s.2.2)):=by unfold thE;rw[if_pos h]
  have e2:ruB (a.map (ruB old)) s=IntKind.u8.wrap (s.2.2+gtB (a.map (ruB old)) s.2.1.toNat):=by unfold ruB;rw[if_pos h]
  rw[e1,e2,gtB_map h1.2]
  generalize gtY a s.2.1.toNat=t
  unfold ruB
  by_cases h2:t.1=true
  ·rw[if_pos h2,if_pos h2]
   simp only[show ∀ n,IntKind.u8.wrap n=n % 256 from fun _=>rfl]
   omega
  ·rw[if_neg h2,if_neg h2,Int.add_comm]
 ·have e1:thE a s=(false,0,s.2.2):=by unfold thE;rw[if_neg h]
  have e2:ruB (a.map (ruB old)) s=s.2.2:=by unfold ruB;rw[if_neg h]
  rw[e1,e2];rfl
theorem thL_run {old:List Int} {a b:List SyT} (hb:∀ x∈b,thOK a.length x=true):(thL a b).map (ruB old)=b.map (ruB (a.map (ruB old))):=by
 show (b.map _).map _=_
 rw[List.map_map]
 exact List.map_congr_left fun s hs=>ruB_th (hb s hs)
theorem runV_ok {old:List Int} {l:List SyT} (h:∀ x∈l,sOK old.length x=true):runV old l=(l.map (ruB old),0):=by
 unfold runV
 rw[if_pos (List.all_eq_true.2 fun x hx=>show ruOK old x=true from sOK_th (h x hx))]
end Go.Proofs.YticpkibnhakgbaaDoor
namespace Go.Proofs.YticpkibnhakgbaaDoor
open Go.Px Go.Ax
set_option maxRecDepth 100000
attribute [local irreducible] Go.Px.sy Go.Px.syE
def ctTh:Ctr:=⟨[.sl syS,.sl syS],fun x=>List.length x.2.1<16777216,fun x=>[.win true syS 0 0 (thV x.1 x.2.1).1.length,.int .i64 (thV x.1 x.2.1).2],fun x=>[.row 66 syS (thV x.1 x.2.1).1]⟩
abbrev ThQ (a b:List SyT):List SV→List (Nat × LB)→Prop:=QC ctTh (a,b,())
theorem th_bad {a b:List SyT} {i:Nat} (h:i<b.length) (hb:thOK a.length b[i]=false):thV a b=([],61):=by
 unfold thV
 rw[if_neg fun q=>by
  have:=List.all_eq_true.1 q b[i] (List.getElem_mem h)
  rw[hb] at this;cases this]
def thS (a b:List SyT) (i:Nat):List SyT:=thL a (b.take i)++List.replicate (b.length-i) (false,0,0)
theorem thS_len {a b:List SyT} {i:Nat} (h:i≤b.length):(thS a b i).length=b.length:=by
 unfold thS;rw[List.length_append,thL_len,List.length_take,List.length_replicate];omega
theorem thS_at {a b:List SyT} {i:Nat} (h:i<b.length):gtY (thS a b i) i=(false,0,0):=by
 rw[gtY_at (by rw[thS_len (by omega)];exact h)]
 unfold thS
 rw[List.getElem_append_right (by rw[thL_len,List.length_take];omega),List.getElem_replicate]
theorem thS_set {a b:List SyT} {i:Nat} (h:i<b.length):(thS a b i).set i (thE a (gtY b i))=thS a b (i+1):=by
 have e:(thL a (b.take i)).length=i:=by rw[thL_len,List.length_take];omega
 unfold thS
 rw[List.set_append_right _ _ (by omega),e,Nat.sub_self,show b.length-i=(b.length-(i+1))+1 by omega,List.replicate_succ,List.set_cons_zero,List.take_succ_eq_append_getElem h,gtY_at h]
 show _=(List.map _ (_++_))++_
 rw[List.map_append,List.append_assoc];rfl
theorem gtY_set {l:List SyT} {i:Nat} {v:SyT} (h:i<l.length):gtY (l.set i v) i=v:=by
 rw[gtY_at (by simpa using h),List.getElem_set_self]
theorem th_loop (a b:List SyT) (hb:b.length<16777216):∀ (k i:Nat),b.length-i=k→i≤b.length→(∀ s∈b.take i,thOK a.length s=true) →
  GD 17 Tryd.f17 (ThQ a b) (hd Tryd.f17 0) ⟨[(0,.sl syS a),(6,.win true syS 11 0 b.length),(12,.sl syS b),(13,.int .i64 b.length),(14,.int .i64 (i:Nat))],[(11,.row 66 syS (thS a b i))]⟩:=by
 intro k
 induction k with
 | zero=>
  intro i hk hi ht
  have hi:i=b.length:=by omega
  refine sy_goK cx0 (vc_thL a b (thS a b i) i b.length _ _) ?_
  rw[decide_eq_false (by omega),bc_f]
  have hs:thS a b i=thL a b:=by
   unfold thS;rw[hi,List.take_length,Nat.sub_self];exact List.append_nil _
  have hv:thV a b=(thL a b,0):=by
   unfold thV;rw[if_pos (List.all_eq_true.2 fun x hx=>ht x (by rw[hi,List.take_length];exact hx))]
  rw[hs]
  exact qc_rowI (e:=syS) (et:=66) (a:=11) (xs:=thL a b) (z:=0) (by show [SV.win true syS 0 0 (thV a b).1.length,.int .i64 (thV a b).2]=_;rw[hv]) (by show [LB.row 66 syS (thV a b).1]=_;rw[hv]) rfl (by rw[thL_len,Int.toNat_natCast]) rfl
 | succ k ih=>
  intro i hk hi ht
  have hlt:i<b.length:=by omega
  have hl:=thS_len (a:=a) (b:=b) (i:=i) hi
  refine sy_goK cx0 (vc_thL a b (thS a b i) i b.length _ _) ?_
  rw[decide_eq_true (show (i:Int)<(b.length:Int) by omega),bc_t,Int.toNat_natCast,Int.toNat_natCast,Nat.zero_add,IntWalk.i64_in ((i:Int)+1) (by omega)]
  have nx:thOK a.length (gtY b i)=true→∀ xs,xs=thS a b (i+1)→GD 17 Tryd.f17 (ThQ a b) (hd Tryd.f17 0) ⟨[(0,.sl syS a),(6,.win true syS 11 0 b.length),(12,.sl syS b),(13,.int .i64 b.length),(14,.int .i64 ((i:Int)+1))],[(11,.row 66 syS xs)]⟩:=fun ho xs he=>by
   subst he
   refine ih (i+1) (by omega) (by omega) fun s hs=>?_
   rw[List.take_succ_eq_append_getElem hlt] at hs
   rcases List.mem_append.1 hs with q | q
   ·exact ht s q
   ·rw[gtY_at hlt] at ho
    rw[List.mem_singleton.1 q];exact ho
  have bad:thOK a.length (gtY b i)=false→∀ bl,ThQ a b [SV.nils,.int .i64 61] bl:=fun ho bl=>by
   rw[gtY_at hlt] at ho
   have hv:=th_bad hlt ho
   exact qc_nilI (e:=syS) (et:=66) (z:=61) (by show [SV.win true syS 0 0 (thV a b).1.length,.int .i64 (thV a b).2]=_;rw[hv];rfl) (by show [LB.row 66 syS (thV a b).1]=_;rw[hv]) rfl (by decide)
  refine ⟨by omega,by omega,bc_of (fun h=>?_) (fun h=>?_)⟩
  ·have h:(gtY b i).1=false:=by simpa using h
   refine ⟨by omega,by omega,by omega,nx (by unfold thOK;rw[h];rfl) _ ?_⟩
   rw[thS_at hlt,← thS_set hlt]
   have:thE a (gtY b i)=(false,0,(gtY b i).2.2):=by unfold thE;rw[h];rfl
   rw[this]
  ·have h:(gtY b i).1=true:=by simpa using h
   refine bc_of (fun h2=>⟨rfl,bad ?_ _⟩) (fun h2=>bc_of (fun h3=>bad ?_ _) (fun h3=>?_))
   ·have h2:(gtY b i).2.1<0:=of_decide_eq_true h2
    unfold thOK
    rw[h,decide_eq_false (by omega)];rfl
   ·have h3:(a.length:Int)≤(gtY b i).2.1:=of_decide_eq_true h3
    unfold thOK
    rw[h,decide_eq_false (show ¬ (gtY b i).2.1<(a.length:Int) by omega)];simp
   ·have h2:¬ (gtY b i).2.1<0:=of_decide_eq_false h2
    have h3:¬ (a.length:Int)≤(gtY b i).2.1:=of_decide_eq_false h3
    refine ⟨by omega,by omega,by omega,by omega,by omega,by omega,by omega,by rw[List.length_set];omega,by omega,by omega,by rw[List.length_set];omega,nx ?_ _ ?_⟩
    ·unfold thOK
     rw[h,decide_eq_true (by omega),decide_eq_true (by omega)];rfl
    ·rw[gtY_set (by omega),List.set_set,← thS_set hlt]
     have:thE a (gtY b i)=((gtY a (gtY b i).2.1.toNat).1,(gtY a (gtY b i).2.1.toNat).2.1,IntKind.u8.wrap ((gtY a (gtY b i).2.1.toNat).2.2+(gtY b i).2.2)):=by unfold thE;rw[if_pos h]
     rw[this]
theorem th_run (a b:List SyT) (hb:b.length<16777216):GD 17 Tryd.f17 (ThQ a b) [.code (bodyOf Tryd.f17)] (entry [.sl syS,.sl syS] (a,b,())):=by
 refine sy_goK cx0 (vc_th a b _ _) ⟨by omega,by omega,by omega,by omega,?_⟩
 have h:=th_loop a b hb _ 0 rfl (Nat.zero_le _) (fun s hs=>by cases hs)
 rw[show thS a b 0=List.replicate (b.length:Int).toNat syS.dflt by unfold thS;rw[Int.toNat_natCast];rfl] at h
 rw[Int.toNat_natCast] at h ⊢
 exact h
theorem th_held:Held Tryd.prog G0 17 ctTh:=Held.of cx0 (fn:=Tryd.f17) rfl rfl ⟨by decide,by decide⟩ fun ⟨a,b,_⟩ hp=>th_run a b hp
end Go.Proofs.YticpkibnhakgbaaDoor
namespace Go.Proofs.YticpkibnhakgbaaDoor
open Go.Px Go.Ax
set_option maxRecDepth 100000
abbrev gtP (l:List PaT) (i:Nat):PaT:=gt paS l i
def CCo:CV:=[(24,.inl ctSym),(17,.inl ctTh),(36,.inl ctCp)]
theorem cxCo:CxOK Tryd.prog tt G0 CCo:=((cx0.cons cp_held (fn:=Tryd.f36) rfl rfl rfl).cons th_held (fn:=Tryd.f17) rfl rfl rfl).cons sym_held (fn:=Tryd.f24) rfl rfl rfl
set_option maxRecDepth 100000
def mem_co_m0 (li li2:Bool) (m o m2 o2:Int) (l l2:List OpT):List (Nat × LB):=[(2,.var [.bool li,.int .i64 m,.int .i64 o,.sl opS l]),(3,.var [.bool li2,.int .i64 m2,.int .i64 o2,.sl opS l2]),(4,.var [.bool false,.int .i64 0,.int .i64 0,.nils]),(1057344,.row 66 syS (symV (li,m,o,l)).1),(1094208,.row 66 syS (symV (li2,m2,o2,l2)).1)]
theorem vc_co (li li2:Bool) (m o m2 o2:Int) (l l2:List OpT) (Q:QT) (R:RT):sy tt G0 CCo Tryd.f14.ntmps Tryd.f14.results.toList Q R 1000 [.code (bodyOf Tryd.f14)] (entry [paS,paS] ((li,m,o,l),(li2,m2,o2,l2),())) =
  (ctSym.pre ((li,m,o,l),()) ∧
 bc (decide ((symV (li,m,o,l)).2≠(0:Int))) (Q [.agg [.bool false,.int .i64 0,.int .i64 0,.nils],.int .i64 (symV (li,m,o,l)).2] [(2,.var [.bool li,.int .i64 m,.int .i64 o,.sl opS l]),(3,.var [.bool li2,.int .i64 m2,.int .i64 o2,.sl opS l2]),(4,.var [.bool false,.int .i64 0,.int .i64 0,.nils]),(1057344,.row 66 syS (symV (li,m,o,l)).1)]) (ctSym.pre ((li2,m2,o2,l2),()) ∧
 bc (decide ((symV (li2,m2,o2,l2)).2≠(0:Int))) (Q [.agg [.bool false,.int .i64 0,.int .i64 0,.nils],.int .i64 (symV (li2,m2,o2,l2)).2] (mem_co_m0 li li2 m o m2 o2 l l2)) (bc (!li == li2) (Q [.agg [.bool false,.int .i64 0,.int .i64 0,.nils],.int .i64 62] (mem_co_m0 li li2 m o m2 o2 l l2)) (bc (decide (o≠m2)) (Q [.agg [.bool false,.int .i64 0,.int .i64 0,.nils],.int .i64 61] (mem_co_m0 li li2 m o m2 o2 l l2)) (0+(symV (li,m,o,l)).1.length≤(symV (li,m,o,l)).1.length ∧
 0+(symV (li2,m2,o2,l2)).1.length≤(symV (li2,m2,o2,l2)).1.length ∧
 ctTh.pre (winL syS 0 (symV (li,m,o,l)).1.length (symV (li,m,o,l)).1,winL syS 0 (symV (li2,m2,o2,l2)).1.length (symV (li2,m2,o2,l2)).1,()) ∧
 0+(thV (winL syS 0 (symV (li,m,o,l)).1.length (symV (li,m,o,l)).1) (winL syS 0 (symV (li2,m2,o2,l2)).1.length (symV (li2,m2,o2,l2)).1)).1.length≤(thV (winL syS 0 (symV (li,m,o,l)).1.length (symV (li,m,o,l)).1) (winL syS 0 (symV (li2,m2,o2,l2)).1.length (symV (li2,m2,o2,l2)).1)).1.length ∧
 0+(thV (winL syS 0 (symV (li,m,o,l)).1.length (symV (li,m,o,l)).1) (winL syS 0 (symV (li2,m2,o2,l2)).1.length (symV (li2,m2,o2,l2)).1)).1.length≤(thV (winL syS 0 (symV (li,m,o,l)).1.length (symV (li,m,o,l)).1) (winL syS 0 (symV (li2,m2,o2,l2)).1.length (symV (li2,m2,o2,l2)).1)).1.length ∧
 0+(thV (winL syS 0 (symV (li,m,o,l)).1.length (symV (li,m,o,l)).1) (winL syS 0 (symV (li2,m2,o2,l2)).1.length (symV (li2,m2,o2,l2)).1)).1.length≤(thV (winL syS 0 (symV (li,m,o,l)).1.length (symV (li,m,o,l)).1) (winL syS 0 (symV (li2,m2,o2,l2)).1.length (symV (li2,m2,o2,l2)).1)).1.length ∧
 0+(thV (winL syS 0 (symV (li,m,o,l)).1.length (symV (li,m,o,l)).1) (winL syS 0 (symV (li2,m2,o2,l2)).1.length (symV (li2,m2,o2,l2)).1)).1.length≤(thV (winL syS 0 (symV (li,m,o,l)).1.length (symV (li,m,o,l)).1) (winL syS 0 (symV (li2,m2,o2,l2)).1.length (symV (li2,m2,o2,l2)).1)).1.length ∧
 0+(thV (winL syS 0 (symV (li,m,o,l)).1.length (symV (li,m,o,l)).1) (winL syS 0 (symV (li2,m2,o2,l2)).1.length (symV (li2,m2,o2,l2)).1)).1.length≤(thV (winL syS 0 (symV (li,m,o,l)).1.length (symV (li,m,o,l)).1) (winL syS 0 (symV (li2,m2,o2,l2)).1.length (symV (li2,m2,o2,l2)).1)).1.length ∧
 ctCp.pre (winL syS 0 (thV (winL syS 0 (symV (li,m,o,l)).1.length (symV (li,m,o,l)).1) (winL syS 0 (symV (li2,m2,o2,l2)).1.length (symV (li2,m2,o2,l2)).1)).1.length (thV (winL syS 0 (symV (li,m,o,l)).1.length (symV (li,m,o,l)).1) (winL syS 0 (symV (li2,m2,o2,l2)).1.length (symV (li2,m2,o2,l2)).1)).1,m,()) ∧
 bc (decide ((cpV (winL syS 0 (thV (winL syS 0 (symV (li,m,o,l)).1.length (symV (li,m,o,l)).1) (winL syS 0 (symV (li2,m2,o2,l2)).1.length (symV (li2,m2,o2,l2)).1)).1.length (thV (winL syS 0 (symV (li,m,o,l)).1.length (symV (li,m,o,l)).1) (winL syS 0 (symV (li2,m2,o2,l2)).1.length (symV (li2,m2,o2,l2)).1)).1) m).2≠(0:Int))) (Q [.agg [.bool false,.int .i64 0,.int .i64 0,.nils],.int .i64 (cpV (winL syS 0 (thV (winL syS 0 (symV (li,m,o,l)).1.length (symV (li,m,o,l)).1) (winL syS 0 (symV (li2,m2,o2,l2)).1.length (symV (li2,m2,o2,l2)).1)).1.length (thV (winL syS 0 (symV (li,m,o,l)).1.length (symV (li,m,o,l)).1) (winL syS 0 (symV (li2,m2,o2,l2)).1.length (symV (li2,m2,o2,l2)).1)).1) m).2] [(2,.var [.bool li,.int .i64 m,.int .i64 o,.sl opS l]),(3,.var [.bool li2,.int .i64 m2,.int .i64 o2,.sl opS l2]),(4,.var [.bool false,.int .i64 0,.int .i64 0,.nils]),(11,.var [.bool (cpV (winL syS 0 (thV (winL syS 0 (symV (li,m,o,l)).1.length (symV (li,m,o,l)).1) (winL syS 0 (symV (li2,m2,o2,l2)).1.length (symV (li2,m2,o2,l2)).1)).1.length (thV (winL syS 0 (symV (li,m,o,l)).1.length (symV (li,m,o,l)).1) (winL syS 0 (symV (li2,m2,o2,l2)).1.length (symV (li2,m2,o2,l2)).1)).1) m).1.1,.int .i64 (cpV (winL syS 0 (thV (winL syS 0 (symV (li,m,o,l)).1.length (symV (li,m,o,l)).1) (winL syS 0 (symV (li2,m2,o2,l2)).1.length (symV (li2,m2,o2,l2)).1)).1.length (thV (winL syS 0 (symV (li,m,o,l)).1.length (symV (li,m,o,l)).1) (winL syS 0 (symV (li2,m2,o2,l2)).1.length (symV (li2,m2,o2,l2)).1)).1) m).1.2.1,.int .i64 (cpV (winL syS 0 (thV (winL syS 0 (symV (li,m,o,l)).1.length (symV (li,m,o,l)).1) (winL syS 0 (symV (li2,m2,o2,l2)).1.length (symV (li2,m2,o2,l2)).1)).1.length (thV (winL syS 0 (symV (li,m,o,l)).1.length (symV (li,m,o,l)).1) (winL syS 0 (symV (li2,m2,o2,l2)).1.length (symV (li2,m2,o2,l2)).1)).1) m).1.2.2.1,.sl opS (cpV (winL syS 0 (thV (winL syS 0 (symV (li,m,o,l)).1.length (symV (li,m,o,l)).1) (winL syS 0 (symV (li2,m2,o2,l2)).1.length (symV (li2,m2,o2,l2)).1)).1.length (thV (winL syS 0 (symV (li,m,o,l)).1.length (symV (li,m,o,l)).1) (winL syS 0 (symV (li2,m2,o2,l2)).1.length (symV (li2,m2,o2,l2)).1)).1) m).1.2.2.2]),(1057344,.row 66 syS (symV (li,m,o,l)).1),(1094208,.row 66 syS (symV (li2,m2,o2,l2)).1)]) (Q [.agg [.bool li,.int .i64 (cpV (winL syS 0 (thV (winL syS 0 (symV (li,m,o,l)).1.length (symV (li,m,o,l)).1) (winL syS 0 (symV (li2,m2,o2,l2)).1.length (symV (li2,m2,o2,l2)).1)).1.length (thV (winL syS 0 (symV (li,m,o,l)).1.length (symV (li,m,o,l)).1) (winL syS 0 (symV (li2,m2,o2,l2)).1.length (symV (li2,m2,o2,l2)).1)).1) m).1.2.1,.int .i64 (cpV (winL syS 0 (thV (winL syS 0 (symV (li,m,o,l)).1.length (symV (li,m,o,l)).1) (winL syS 0 (symV (li2,m2,o2,l2)).1.length (symV (li2,m2,o2,l2)).1)).1.length (thV (winL syS 0 (symV (li,m,o,l)).1.length (symV (li,m,o,l)).1) (winL syS 0 (symV (li2,m2,o2,l2)).1.length (symV (li2,m2,o2,l2)).1)).1) m).1.2.2.1,.sl opS (cpV (winL syS 0 (thV (winL syS 0 (symV (li,m,o,l)).1.length (symV (li,m,o,l)).1) (winL syS 0 (symV (li2,m2,o2,l2)).1.length (symV (li2,m2,o2,l2)).1)).1.length (thV (winL syS 0 (symV (li,m,o,l)).1.length (symV (li,m,o,l)).1) (winL syS 0 (symV (li2,m2,o2,l2)).1.length (symV (li2,m2,o2,l2)).1)).1) m).1.2.2.2],.int .i64 0] [(2,.var [.bool li,.int .i64 m,.int .i64 o,.sl opS l]),(3,.var [.bool li2,.int .i64 m2,.int .i64 o2,.sl opS l2]),(4,.var [.bool li,.int .i64 (cpV (winL syS 0 (thV (winL syS 0 (symV (li,m,o,l)).1.length (symV (li,m,o,l)).1) (winL syS 0 (symV (li2,m2,o2,l2)).1.length (symV (li2,m2,o2,l2)).1)).1.length (thV (winL syS 0 (symV (li,m,o,l)).1.length (symV (li,m,o,l)).1) (winL syS 0 (symV (li2,m2,o2,l2)).1.length (symV (li2,m2,o2,l2)).1)).1) m).1.2.1,.int .i64 (cpV (winL syS 0 (thV (winL syS 0 (symV (li,m,o,l)).1.length (symV (li,m,o,l)).1) (winL syS 0 (symV (li2,m2,o2,l2)).1.length (symV (li2,m2,o2,l2)).1)).1.length (thV (winL syS 0 (symV (li,m,o,l)).1.length (symV (li,m,o,l)).1) (winL syS 0 (symV (li2,m2,o2,l2)).1.length (symV (li2,m2,o2,l2)).1)).1) m).1.2.2.1,.sl opS (cpV (winL syS 0 (thV (winL syS 0 (symV (li,m,o,l)).1.length (symV (li,m,o,l)).1) (winL syS 0 (symV (li2,m2,o2,l2)).1.length (symV (li2,m2,o2,l2)).1)).1.length (thV (winL syS 0 (symV (li,m,o,l)).1.length (symV (li,m,o,l)).1) (winL syS 0 (symV (li2,m2,o2,l2)).1.length (symV (li2,m2,o2,l2)).1)).1) m).1.2.2.2]),(11,.var [.bool li,.int .i64 (cpV (winL syS 0 (thV (winL syS 0 (symV (li,m,o,l)).1.length (symV (li,m,o,l)).1) (winL syS 0 (symV (li2,m2,o2,l2)).1.length (symV (li2,m2,o2,l2)).1)).1.length (thV (winL syS 0 (symV (li,m,o,l)).1.length (symV (li,m,o,l)).1) (winL syS 0 (symV (li2,m2,o2,l2)).1.length (symV (li2,m2,o2,l2)).1)).1) m).1.2.1,.int .i64 (cpV (winL syS 0 (thV (winL syS 0 (symV (li,m,o,l)).1.length (symV (li,m,o,l)).1) (winL syS 0 (symV (li2,m2,o2,l2)).1.length (symV (li2,m2,o2,l2)).1)).1.length (thV (winL syS 0 (symV (li,m,o,l)).1.length (symV (li,m,o,l)).1) (winL syS 0 (symV (li2,m2,o2,l2)).1.length (symV (li2,m2,o2,l2)).1)).1) m).1.2.2.1,.sl opS (cpV (winL syS 0 (thV (winL syS 0 (symV (li,m,o,l)).1.length (symV (li,m,o,l)).1) (winL syS 0 (symV (li2,m2,o2,l2)).1.length (symV (li2,m2,o2,l2)).1)).1.length (thV (winL syS 0 (symV (li,m,o,l)).1.length (symV (li,m,o,l)).1) (winL syS 0 (symV (li2,m2,o2,l2)).1.length (symV (li2,m2,o2,l2)).1)).1) m).1.2.2.2]),(1057344,.row 66 syS (symV (li,m,o,l)).1),(1094208,.row 66 syS (symV (li2,m2,o2,l2)).1)])))))):=by kernel_rfl
end Go.Proofs.YticpkibnhakgbaaDoor
namespace Go.Proofs.YticpkibnhakgbaaDoor
open Go.Px Go.Ax
set_option maxRecDepth 100000
attribute [local irreducible] Go.Px.sy Go.Px.syE
def ctCo:Ctr:=⟨[paS,paS],fun _=>True,fun x=>[paV (coV x.1 x.2.1).1,.int .i64 (coV x.1 x.2.1).2],fun _=>[]⟩
theorem co_fit {p q:PaT} (hp:(symV p).2=0) (hq:(symV q).2=0) (ho:p.2.2.1=q.2.1):thV (symV p).1 (symV q).1=(thL (symV p).1 (symV q).1,0):=by
 obtain ⟨a1,a2,a3⟩:=symV_right hp
 obtain ⟨b1,b2,b3⟩:=symV_right hq
 exact thV_ok fun x hx=>by rw[a3,ho];exact b1 x hx
theorem co_err {p q:PaT} {z:Int} {bl:List (Nat × LB)} (h:coV p q=(zP,z)):QC ctCo (p,q,()) [.agg [.bool false,.int .i64 0,.int .i64 0,.nils],.int .i64 z] bl:=
 QC.mt (by show MtL _ [paV (coV p q).1,.int .i64 (coV p q).2] _;rw[h];exact zero_mt _) rfl
theorem co_fin {p q:PaT} {r:PaT} {z:Int} {bl:List (Nat × LB)} (h:coV p q=(r,z)):QC ctCo (p,q,()) [paV r,.int .i64 z] bl:=
 QC.flat (by show [paV (coV p q).1,.int .i64 (coV p q).2]=_;rw[h]) rfl rfl
theorem co_run (li li2:Bool) (m o m2 o2:Int) (l l2:List OpT) (R:List Item→PS→Prop):sy tt G0 CCo Tryd.f14.ntmps Tryd.f14.results.toList (QC ctCo ((li,m,o,l),(li2,m2,o2,l2),())) R 1000 [.code (bodyOf Tryd.f14)] (entry [paS,paS] ((li,m,o,l),(li2,m2,o2,l2),())):=by
 refine (vc_co li li2 m o m2 o2 l l2 _ _).mpr ⟨trivial,bc_of (fun h=>?_) (fun h=>⟨trivial,bc_of (fun h2=>?_) (fun h2=>bc_of (fun h3=>?_) (fun h3=>bc_of (fun h4=>?_) (fun h4=>?_)))⟩)⟩
 ·have h:(symV (li,m,o,l)).2≠0:=of_decide_eq_true h
  exact co_err (by unfold coV;rw[if_pos h])
 all_goals
  have h:¬ (symV (li,m,o,l)).2≠0:=of_decide_eq_false h
 ·have h2:(symV (li2,m2,o2,l2)).2≠0:=of_decide_eq_true h2
  exact co_err (by unfold coV;rw[if_neg h,if_pos h2])
 all_goals
  have h2:¬ (symV (li2,m2,o2,l2)).2≠0:=of_decide_eq_false h2
 ·have h3:li≠li2:=by simpa using h3
  exact co_err (by unfold coV;rw[if_neg h,if_neg h2,if_pos h3])
 all_goals
  have h3:¬ li≠li2:=by simpa using h3
 ·have h4:o≠m2:=of_decide_eq_true h4
  exact co_err (by unfold coV;rw[if_neg h,if_neg h2,if_neg h3,if_pos h4])
 ·have h4:¬ o≠m2:=of_decide_eq_false h4
  have hp:(symV (li,m,o,l)).2=0:=by omega
  have hq:(symV (li2,m2,o2,l2)).2=0:=by omega
  have ht:=co_fit hp hq (show o=m2 by omega)
  have hl:=symV_le (li2,m2,o2,l2)
  have ho:coV (li,m,o,l) (li2,m2,o2,l2)=if (cpV (thL (symV (li,m,o,l)).1 (symV (li2,m2,o2,l2)).1) m).2≠0 then (zP,(cpV (thL (symV (li,m,o,l)).1 (symV (li2,m2,o2,l2)).1) m).2) else ((li,(cpV (thL (symV (li,m,o,l)).1 (symV (li2,m2,o2,l2)).1) m).1.2),0):=by
   unfold coV;rw[if_neg h,if_neg h2,if_neg h3,if_neg h4]
  generalize (symV (li,m,o,l)).1=a at *
  generalize (symV (li2,m2,o2,l2)).1=b at *
  rw[winA,winA,ht,winA]
  refine ⟨by omega,by omega,(show b.length<16777216 by omega),by omega,by omega,by omega,by omega,by omega,(show (thL a b).length<16777216 by rw[thL_len];omega),bc_of (fun h5=>?_) (fun h5=>?_)⟩
  ·have h5:(cpV (thL a b) m).2≠0:=of_decide_eq_true h5
   rw[if_pos h5] at ho
   exact co_err ho
  ·have h5:¬ (cpV (thL a b) m).2≠0:=of_decide_eq_false h5
   rw[if_neg h5] at ho
   exact co_fin ho
theorem co_held:Held Tryd.prog G0 14 ctCo:=Held.run cxCo (fn:=Tryd.f14) rfl rfl ⟨by decide,by decide⟩ fun ⟨⟨li,m,o,l⟩,⟨li2,m2,o2,l2⟩,_⟩ _=>co_run li li2 m o m2 o2 l l2 _
end Go.Proofs.YticpkibnhakgbaaDoor
namespace Go.Proofs.YticpkibnhakgbaaDoor
open Go.Px Go.Ax
set_option maxRecDepth 100000
abbrev capA:List AK:=[.ptr [.dat .bool,.dat iI,.dat iI,.dat (.sl opS)]]
abbrev KA1:List AK:=.dat paS::capA
abbrev KIn:List AK:=[.fn 33 [] capA,.dat (.sl paS)]
def CA1:CV:=[(14,.inl ctCo)]
theorem cxA1:CxOK Tryd.prog tt G0 CA1:=cx0.cons co_held (fn:=Tryd.f14) rfl rfl rfl
def ptD (p:PaT):DI [.dat .bool,.dat iI,.dat iI,.dat (.sl opS)]:=(p.1,p.2.1,p.2.2.1,p.2.2.2,())
def ctA1:CtrI:=⟨KA1,fun _=>True,fun x=>[.int .i64 (coV (x.2.1.1,x.2.1.2.1,x.2.1.2.2.1,x.2.1.2.2.2.1) x.1).2],fun x=>bkKL 0 KA1 (x.1,ptD (coV (x.2.1.1,x.2.1.2.1,x.2.1.2.2.1,x.2.1.2.2.2.1) x.1).1,())⟩
set_option maxRecDepth 100000
theorem vc_a1 (li li2:Bool) (m o m2 o2:Int) (k l2:List OpT) (Q:QT) (R:RT):sy tt G0 CA1 Tryd.f33.ntmps Tryd.f33.results.toList Q R 1000 [.code (bodyOf Tryd.f33)] (entryI KA1 ((li2,m2,o2,l2),(li,m,o,k,()),())) =
  (ctCo.pre ((li,m,o,k),(li2,m2,o2,l2),()) ∧
 Q [.int .i64 (coV (li,m,o,k) (li2,m2,o2,l2)).2] [(2,.var [.bool li2,.int .i64 m2,.int .i64 o2,.sl opS l2]),(1099511627776,.var [.bool (coV (li,m,o,k) (li2,m2,o2,l2)).1.1,.int .i64 (coV (li,m,o,k) (li2,m2,o2,l2)).1.2.1,.int .i64 (coV (li,m,o,k) (li2,m2,o2,l2)).1.2.2.1,.sl opS (coV (li,m,o,k) (li2,m2,o2,l2)).1.2.2.2])]):=by kernel_rfl
end Go.Proofs.YticpkibnhakgbaaDoor
namespace Go.Proofs.YticpkibnhakgbaaDoor
open Go.Px Go.Ax
set_option maxRecDepth 100000
attribute [local irreducible] Go.Px.sy Go.Px.syE
theorem a1_run (li li2:Bool) (m o m2 o2:Int) (k l2:List OpT) (R:List Item→PS→Prop):sy tt G0 CA1 Tryd.f33.ntmps Tryd.f33.results.toList (QI ctA1 ((li2,m2,o2,l2),(li,m,o,k,()),())) R 1000 [.code (bodyOf Tryd.f33)] (entryI KA1 ((li2,m2,o2,l2),(li,m,o,k,()),())):=by
 refine (vc_a1 li li2 m o m2 o2 k l2 _ _).mpr ⟨trivial,?_⟩
 refine QI.self rfl rfl rfl ?_
 intro b hb
 simp only[ctA1,bkKL,bkK,cnt,cntL,List.append_nil,List.nil_append,List.mem_append,List.mem_cons,List.mem_singleton,List.not_mem_nil,or_false] at hb
 rcases hb with rfl <;> rfl
theorem a1_held:HeldI Tryd.prog G0 33 ctA1:=HeldI.run cxA1 (fn:=Tryd.f33) rfl rfl ⟨by decide,by decide⟩ fun x _=>a1_run x.2.1.1 x.1.1 x.2.1.2.1 x.2.1.2.2.1 x.1.2.1 x.1.2.2.1 x.2.1.2.2.2.1 x.1.2.2.2 _
end Go.Proofs.YticpkibnhakgbaaDoor
namespace Go.Proofs.YticpkibnhakgbaaDoor
open Go.Px Go.Ax
set_option maxRecDepth 100000
def CIn:CV:=[(33,.inr ctA1)]
theorem cxIn:CxOK Tryd.prog tt G0 CIn:=cx0.consI a1_held (fn:=Tryd.f33) rfl rfl rfl
set_option maxRecDepth 100000
theorem vc_ino (l:List PaT) (li:Bool) (m o:Int) (k:List OpT) (Q:QT) (R:RT):sy tt G0 CIn Tryd.f32.ntmps Tryd.f32.results.toList Q R 1000 [.code (bodyOf Tryd.f32)] (entryI KIn (((),((li,m,o,k,()),())),l,())) =
  (R (hd Tryd.f32 0) { env:=[(0,.fn (33:Nat) [] [.ptr 1099511627776 0]),(1,.sl paS l),(4,.int .i64 0),(8,.sl paS l),(9,.int .i64 (l.length:Int)),(10,.int .i64 0)],blk:=[(1099511627776,.var [.bool li,.int .i64 m,.int .i64 o,.sl opS k])] }):=by kernel_rfl
theorem vc_inoL (l:List PaT) (li:Bool) (m o i:Int) (k:List OpT) (Q:QT) (R:RT):sy tt G0 CIn Tryd.f32.ntmps Tryd.f32.results.toList Q (fun it S=>R it (keepS [0,8,9,10] [1099511627776] S)) 1000 (hd Tryd.f32 0) ⟨[(0,.fn 33 [] [.ptr 1099511627776 0]),(8,.sl paS l),(9,.int .i64 l.length),(10,.int .i64 i)],[(1099511627776,.var [.bool li,.int .i64 m,.int .i64 o,.sl opS k])]⟩ =
  (bc (decide (i<(l.length:Int))) ((0:Int)≤i ∧
 i<(l.length:Int) ∧
 ctA1.pre ((gtP l i.toNat),(li,m,o,k,()),()) ∧
 bc (decide ((coV (li,m,o,k) (gtP l i.toNat)).2≠(0:Int))) (Q [.int .i64 (coV (li,m,o,k) (gtP l i.toNat)).2] [(6,.var [.bool (gtP l i.toNat).1,.int .i64 (gtP l i.toNat).2.1,.int .i64 (gtP l i.toNat).2.2.1,.sl opS (gtP l i.toNat).2.2.2]),(1099511627776,.var [.bool (ptD (coV (li,m,o,k) (gtP l i.toNat)).1).1,.int .i64 (ptD (coV (li,m,o,k) (gtP l i.toNat)).1).2.1,.int .i64 (ptD (coV (li,m,o,k) (gtP l i.toNat)).1).2.2.1,.sl opS (ptD (coV (li,m,o,k) (gtP l i.toNat)).1).2.2.2.1])]) (R (hd Tryd.f32 0) { env:=[(0,.fn (33:Nat) [] [.ptr 1099511627776 0]),(8,.sl paS l),(9,.int .i64 (l.length:Int)),(10,.int .i64 (IntKind.i64.wrap (i+(1:Int))))],blk:=[(1099511627776,.var [.bool (ptD (coV (li,m,o,k) (gtP l i.toNat)).1).1,.int .i64 (ptD (coV (li,m,o,k) (gtP l i.toNat)).1).2.1,.int .i64 (ptD (coV (li,m,o,k) (gtP l i.toNat)).1).2.2.1,.sl opS (ptD (coV (li,m,o,k) (gtP l i.toNat)).1).2.2.2.1])] })) (Q [.int .i64 0] [(1099511627776,.var [.bool li,.int .i64 m,.int .i64 o,.sl opS k])])):=by kernel_rfl
end Go.Proofs.YticpkibnhakgbaaDoor
namespace Go.Proofs.YticpkibnhakgbaaDoor
open Go.Px Go.Ax
set_option maxRecDepth 100000
attribute [local irreducible] Go.Px.sy Go.Px.syE
theorem gtP_at {l:List PaT} {i:Nat} (h:i<l.length):gtP l i=l[i]:=by
 show gt paS l i=_
 unfold gt
 rw[List.getElem?_eq_getElem h];rfl
abbrev vrP (p:PaT):LB:=.var [.bool p.1,.int .i64 p.2.1,.int .i64 p.2.2.1,.sl opS p.2.2.2]
abbrev InQ (p:PaT) (l:List PaT):List SV→List (Nat × LB)→Prop:=fun rs blk=>rs=[.int .i64 (alF (p,0) l).2]∧lk blk 1099511627776=some (vrP (alF (p,0) l).1)
theorem ino_loop (l:List PaT) (hl:l.length<1099511627776):∀ (k i:Nat) (p:PaT),l.length-i=k→i≤l.length →
  GD 32 Tryd.f32 (InQ p (l.drop i)) (hd Tryd.f32 0) ⟨[(0,.fn 33 [] [.ptr 1099511627776 0]),(8,.sl paS l),(9,.int .i64 l.length),(10,.int .i64 (i:Nat))],[(1099511627776,vrP p)]⟩:=by
 intro k
 induction k with
 | zero=>
  intro i p hk hi
  obtain ⟨li,m,o,k⟩:=p
  refine sy_goK cxIn (vc_inoL l li m o i k _ _) ?_
  rw[decide_eq_false (by omega),bc_f,List.drop_of_length_le (by omega)]
  exact ⟨rfl,rfl⟩
 | succ c ih=>
  intro i p hk hi
  obtain ⟨li,m,o,k⟩:=p
  have hlt:i<l.length:=by omega
  refine sy_goK cxIn (vc_inoL l li m o i k _ _) ?_
  rw[decide_eq_true (show (i:Int)<(l.length:Int) by omega),bc_t,Int.toNat_natCast,IntWalk.i64_in ((i:Int)+1) (by omega),List.drop_eq_getElem_cons hlt,← gtP_at hlt]
  refine ⟨by omega,by omega,trivial,bc_of (fun h=>?_) (fun h=>?_)⟩
  ·have h:(coV (li,m,o,k) (gtP l i)).2≠0:=of_decide_eq_true h
   have e:alF ((li,m,o,k),0) (gtP l i::l.drop (i+1))=coV (li,m,o,k) (gtP l i):=by rw[alF];exact if_pos h
   show InQ _ _ _ _
   unfold InQ
   rw[e]
   exact ⟨rfl,rfl⟩
  ·have h:¬ (coV (li,m,o,k) (gtP l i)).2≠0:=of_decide_eq_false h
   have h0:coV (li,m,o,k) (gtP l i)=((coV (li,m,o,k) (gtP l i)).1,0):=Prod.ext rfl (by omega)
   have e:alF ((li,m,o,k),0) (gtP l i::l.drop (i+1))=alF ((coV (li,m,o,k) (gtP l i)).1,0) (l.drop (i+1)):=by
    rw[← h0,alF];exact if_neg h
   have g:=ih (i+1) (coV (li,m,o,k) (gtP l i)).1 (by omega) (by omega)
   unfold InQ at g ⊢
   rw[e]
   exact g
def ctIno:CtrI:=⟨KIn,fun x=>List.length x.2.1<1099511627776,fun x=>[.int .i64 (alF ((x.1.2.1.1,x.1.2.1.2.1,x.1.2.1.2.2.1,x.1.2.1.2.2.2.1),0) x.2.1).2],
 fun x=>bkKL 0 KIn (((),(ptD (alF ((x.1.2.1.1,x.1.2.1.2.1,x.1.2.1.2.2.1,x.1.2.1.2.2.2.1),0) x.2.1).1,())),x.2.1,())⟩
theorem ino_run (l:List PaT) (li:Bool) (m o:Int) (k:List OpT) (hl:l.length<1099511627776):sy tt G0 CIn Tryd.f32.ntmps Tryd.f32.results.toList (QI ctIno (((),((li,m,o,k,()),())),l,())) (Px.Good Tryd.prog tt G0 32 Tryd.f32.ntmps Tryd.f32.results.toList (QI ctIno (((),((li,m,o,k,()),())),l,()))) 1000 [.code (bodyOf Tryd.f32)] (entryI KIn (((),((li,m,o,k,()),())),l,())):=by
 rw[vc_ino]
 refine ((ino_loop l hl _ 0 (li,m,o,k) rfl (Nat.zero_le _)).post fun rs blk hq=>?_).only ⟨rfl,rfl,rfl,rfl,trivial⟩ ⟨rfl,trivial⟩
 obtain ⟨h1,h2⟩:=hq
 rw[List.drop_zero] at h1 h2
 subst h1
 refine QI.self rfl rfl rfl ?_
 intro b hb
 simp only[ctIno,bkKL,bkK,cnt,cntL,List.append_nil,List.nil_append,List.mem_append,List.mem_cons,List.mem_singleton,List.not_mem_nil,or_false] at hb
 rcases hb with rfl <;> exact h2
theorem ino_held:HeldI Tryd.prog G0 32 ctIno:=HeldI.run cxIn (fn:=Tryd.f32) rfl rfl ⟨by decide,by decide⟩ fun x hp=>ino_run x.2.1 x.1.2.1.1 x.1.2.1.2.1 x.1.2.1.2.2.1 x.1.2.1.2.2.2.1 hp
end Go.Proofs.YticpkibnhakgbaaDoor
namespace Go.Proofs.YticpkibnhakgbaaDoor
open Go.Px Go.Ax
set_option maxRecDepth 100000
def CAl:CV:=[(32,.inr ctIno),(20,.inl ctFo)]
theorem cxAl:CxOK Tryd.prog tt G0 CAl:=(cx0.cons fo_held (fn:=Tryd.f20) rfl rfl rfl).consI ino_held (fn:=Tryd.f32) rfl rfl rfl
set_option maxRecDepth 100000
theorem vc_all (l:List PaT) (Q:QT) (R:RT):sy tt G0 CAl Tryd.f11.ntmps Tryd.f11.results.toList Q R 1000 [.code (bodyOf Tryd.f11)] (entry [.sl paS] (l,())) =
  (bc (decide ((l.length:Int)=(0:Int))) (Q [.agg [.bool false,.int .i64 0,.int .i64 0,.nils],.int .i64 1] [(2,.var [.bool false,.int .i64 0,.int .i64 0,.nils])]) ((0:Int)≤(0:Int) ∧
 (0:Int)<(l.length:Int) ∧
 ctFo.pre ((gtP l (0)),()) ∧
 bc (decide ((foV (gtP l (0))).2≠(0:Int))) (Q [.agg [.bool false,.int .i64 0,.int .i64 0,.nils],.int .i64 (foV (gtP l (0))).2] [(2,.var [.bool false,.int .i64 0,.int .i64 0,.nils]),(4,.var [.bool (foV (gtP l (0))).1.1,.int .i64 (foV (gtP l (0))).1.2.1,.int .i64 (foV (gtP l (0))).1.2.2.1,.sl opS (foV (gtP l (0))).1.2.2.2])]) ((0:Int)≤(1:Int) ∧
 (1:Int)≤(l.length:Int) ∧
 ctIno.pre (((),((foV (gtP l (0))).1.1,(foV (gtP l (0))).1.2.1,(foV (gtP l (0))).1.2.2.1,(foV (gtP l (0))).1.2.2.2,()),()),List.drop (1) l,()) ∧
 Q [.agg [.bool (ptD (alF (((foV (gtP l (0))).1),(0:Int)) (List.drop (1) l)).1).1,.int .i64 (ptD (alF (((foV (gtP l (0))).1),(0:Int)) (List.drop (1) l)).1).2.1,.int .i64 (ptD (alF (((foV (gtP l (0))).1),(0:Int)) (List.drop (1) l)).1).2.2.1,.sl opS (ptD (alF (((foV (gtP l (0))).1),(0:Int)) (List.drop (1) l)).1).2.2.2.1],.int .i64 (alF (((foV (gtP l (0))).1),(0:Int)) (List.drop (1) l)).2] [(2,.var [.bool (ptD (alF (((foV (gtP l (0))).1),(0:Int)) (List.drop (1) l)).1).1,.int .i64 (ptD (alF (((foV (gtP l (0))).1),(0:Int)) (List.drop (1) l)).1).2.1,.int .i64 (ptD (alF (((foV (gtP l (0))).1),(0:Int)) (List.drop (1) l)).1).2.2.1,.sl opS (ptD (alF (((foV (gtP l (0))).1),(0:Int)) (List.drop (1) l)).1).2.2.2.1]),(4,.var [.bool (ptD (alF (((foV (gtP l (0))).1),(0:Int)) (List.drop (1) l)).1).1,.int .i64 (ptD (alF (((foV (gtP l (0))).1),(0:Int)) (List.drop (1) l)).1).2.1,.int .i64 (ptD (alF (((foV (gtP l (0))).1),(0:Int)) (List.drop (1) l)).1).2.2.1,.sl opS (ptD (alF (((foV (gtP l (0))).1),(0:Int)) (List.drop (1) l)).1).2.2.2.1])]))):=by kernel_rfl
end Go.Proofs.YticpkibnhakgbaaDoor
namespace Go.Proofs.YticpkibnhakgbaaDoor
open Go.Px Go.Ax
set_option maxRecDepth 100000
attribute [local irreducible] Go.Px.sy Go.Px.syE
def ctAl:Ctr:=⟨[.sl paS],fun x=>List.length x.1<1099511627776,fun x=>[paV (allV x.1).1,.int .i64 (allV x.1).2],fun _=>[]⟩
theorem al_err {l:List PaT} {z:Int} {bl:List (Nat × LB)} (h:allV l=(zP,z)):QC ctAl (l,()) [.agg [.bool false,.int .i64 0,.int .i64 0,.nils],.int .i64 z] bl:=
 QC.mt (by show MtL _ [paV (allV l).1,.int .i64 (allV l).2] _;rw[h];exact zero_mt _) rfl
theorem al_fin {l:List PaT} {r:PaT × Int} {bl:List (Nat × LB)} (h:allV l=r):QC ctAl (l,()) [paV r.1,.int .i64 r.2] bl:=
 QC.flat (by show [paV (allV l).1,.int .i64 (allV l).2]=_;rw[h]) rfl rfl
theorem all_run (l:List PaT) (hl:l.length<1099511627776) (R:List Item→PS→Prop):sy tt G0 CAl Tryd.f11.ntmps Tryd.f11.results.toList (QC ctAl (l,())) R 1000 [.code (bodyOf Tryd.f11)] (entry [.sl paS] (l,())):=by
 refine (vc_all l _ _).mpr (bc_of (fun h=>?_) (fun h=>?_))
 ·have h:(l.length:Int)=0:=of_decide_eq_true h
  have e:l=[]:=List.eq_nil_of_length_eq_zero (by omega)
  exact al_err (by rw[e];rfl)
 ·have h:¬ (l.length:Int)=0:=of_decide_eq_false h
  have e:l=gtP l 0::l.drop 1:=by
   have:=List.drop_eq_getElem_cons (l:=l) (i:=0) (by omega)
   rw[List.drop_zero] at this
   rw[gtP_at (by omega)];exact this
  have ha:allV l=if (foV (gtP l 0)).2≠0 then (zP,(foV (gtP l 0)).2) else alF (foV (gtP l 0)) (l.drop 1):=by
   rw[e];rfl
  refine ⟨by omega,by omega,trivial,bc_of (fun h2=>?_) (fun h2=>?_)⟩
  ·have h2:(foV (gtP l 0)).2≠0:=of_decide_eq_true h2
   rw[if_pos h2] at ha
   exact al_err ha
  ·have h2:¬ (foV (gtP l 0)).2≠0:=of_decide_eq_false h2
   rw[if_neg h2,show foV (gtP l 0)=((foV (gtP l 0)).1,0) from Prod.ext rfl (by omega)] at ha
   exact ⟨by omega,by omega,(show (l.drop 1).length<1099511627776 by rw[List.length_drop];omega),al_fin ha⟩
theorem all_held:Held Tryd.prog G0 11 ctAl:=Held.run cxAl (fn:=Tryd.f11) rfl rfl ⟨by decide,by decide⟩ fun ⟨l,_⟩ hp=>all_run l hp _
end Go.Proofs.YticpkibnhakgbaaDoor
namespace Go.Proofs.YticpkibnhakgbaaDoor
open Go.Px Go.Ax
set_option maxRecDepth 100000
set_option maxRecDepth 100000
end Go.Proofs.YticpkibnhakgbaaDoor
namespace Go.Proofs.YticpkibnhakgbaaDoor
open Go.Px Go.Ax
set_option maxRecDepth 100000
attribute [local irreducible] Go.Px.sy Go.Px.syE
end Go.Proofs.YticpkibnhakgbaaDoor
namespace Go.Proofs.YticpkibnhakgbaaDoor
open Go.Px Go.Ax
set_option maxRecDepth 100000
def CSc:CV:=[(14,.inl ctCo),(11,.inl ctAl),(17,.inl ctTh),(13,.inl ctSm),(31,.inl ctRw)]
theorem cxSc:CxOK Tryd.prog tt G0 CSc:=((((cx0.cons rw_held (fn:=Tryd.f31) rfl rfl rfl).cons sm_held (fn:=Tryd.f13) rfl rfl rfl).cons th_held (fn:=Tryd.f17) rfl rfl rfl).cons all_held (fn:=Tryd.f11) rfl rfl rfl).cons co_held (fn:=Tryd.f14) rfl rfl rfl
set_option maxRecDepth 100000
theorem vc_csan  (Q:QT) (R:RT):sy tt G0 CSc Tryd.f9.ntmps Tryd.f9.results.toList Q R 1000 [.code (bodyOf Tryd.f9)] (entry [] ()) =
  (0+(2:Nat)≤(((List.replicate (2:Nat) uB.dflt).set (0:Nat) (1:Int)).set (1:Nat) (2:Int)).length ∧
 0+(2:Nat)≤(((List.replicate (2:Nat) uB.dflt).set (0:Nat) (1:Int)).set (1:Nat) (2:Int)).length ∧
 0+(2:Nat)≤(((List.replicate (2:Nat) uB.dflt).set (0:Nat) (255:Int)).set (1:Nat) (254:Int)).length ∧
 0+(2:Nat)≤(((List.replicate (2:Nat) uB.dflt).set (0:Nat) (255:Int)).set (1:Nat) (254:Int)).length ∧
 0+(1:Nat)≤([((1:Int),(1:Int),(2:Int),(0:Int),[])]:List opS.D).length ∧
 0+(1:Nat)≤([((1:Int),(1:Int),(2:Int),(0:Int),[])]:List opS.D).length ∧
 0+(1:Nat)≤([((1:Int),(1:Int),(2:Int),(0:Int),[])]:List opS.D).length ∧
 0+(1:Nat)≤([((1:Int),(1:Int),(2:Int),(0:Int),[])]:List opS.D).length ∧
 0+(2:Nat)≤(((List.replicate (2:Nat) opS.dflt).set (0:Nat) ((1:Int),(1:Int),(1:Int),(0:Int),[])).set (1:Nat) ((3:Int),(0:Int),(1:Int),(9:Int),[])).length ∧
 0+(2:Nat)≤(((List.replicate (2:Nat) opS.dflt).set (0:Nat) ((1:Int),(1:Int),(1:Int),(0:Int),[])).set (1:Nat) ((3:Int),(0:Int),(1:Int),(9:Int),[])).length ∧
 0+(2:Nat)≤(((List.replicate (2:Nat) opS.dflt).set (0:Nat) ((1:Int),(1:Int),(1:Int),(0:Int),[])).set (1:Nat) ((3:Int),(0:Int),(1:Int),(9:Int),[])).length ∧
 0+(2:Nat)≤(((List.replicate (2:Nat) opS.dflt).set (0:Nat) ((1:Int),(1:Int),(1:Int),(0:Int),[])).set (1:Nat) ((3:Int),(0:Int),(1:Int),(9:Int),[])).length ∧
 ctCo.pre ((false,(3:Int),(2:Int),([((1:Int),(1:Int),(2:Int),(0:Int),[])]:List opS.D)),(false,(2:Int),(2:Int),winL opS (0:Nat) (2:Nat) (((List.replicate (2:Nat) opS.dflt).set (0:Nat) ((1:Int),(1:Int),(1:Int),(0:Int),[])).set (1:Nat) ((3:Int),(0:Int),(1:Int),(9:Int),[]))),()) ∧
 0+(1:Nat)≤([((2:Int),(0:Int),(2:Int),(0:Int),winL uB (0:Nat) (2:Nat) (((List.replicate (2:Nat) uB.dflt).set (0:Nat) (1:Int)).set (1:Nat) (2:Int)))]:List opS.D).length ∧
 0+(1:Nat)≤([((2:Int),(0:Int),(2:Int),(0:Int),winL uB (0:Nat) (2:Nat) (((List.replicate (2:Nat) uB.dflt).set (0:Nat) (1:Int)).set (1:Nat) (2:Int)))]:List opS.D).length ∧
 0+(1:Nat)≤([((2:Int),(0:Int),(2:Int),(0:Int),winL uB (0:Nat) (2:Nat) (((List.replicate (2:Nat) uB.dflt).set (0:Nat) (1:Int)).set (1:Nat) (2:Int)))]:List opS.D).length ∧
 0+(1:Nat)≤([((2:Int),(0:Int),(2:Int),(0:Int),winL uB (0:Nat) (2:Nat) (((List.replicate (2:Nat) uB.dflt).set (0:Nat) (1:Int)).set (1:Nat) (2:Int)))]:List opS.D).length ∧
 0+(1:Nat)≤([((2:Int),(0:Int),(2:Int),(0:Int),winL uB (0:Nat) (2:Nat) (((List.replicate (2:Nat) uB.dflt).set (0:Nat) (255:Int)).set (1:Nat) (254:Int)))]:List opS.D).length ∧
 0+(1:Nat)≤([((2:Int),(0:Int),(2:Int),(0:Int),winL uB (0:Nat) (2:Nat) (((List.replicate (2:Nat) uB.dflt).set (0:Nat) (255:Int)).set (1:Nat) (254:Int)))]:List opS.D).length ∧
 0+(1:Nat)≤([((2:Int),(0:Int),(2:Int),(0:Int),winL uB (0:Nat) (2:Nat) (((List.replicate (2:Nat) uB.dflt).set (0:Nat) (255:Int)).set (1:Nat) (254:Int)))]:List opS.D).length ∧
 0+(1:Nat)≤([((2:Int),(0:Int),(2:Int),(0:Int),winL uB (0:Nat) (2:Nat) (((List.replicate (2:Nat) uB.dflt).set (0:Nat) (255:Int)).set (1:Nat) (254:Int)))]:List opS.D).length ∧
 ctCo.pre ((false,(2:Int),(2:Int),([((2:Int),(0:Int),(2:Int),(0:Int),winL uB (0:Nat) (2:Nat) (((List.replicate (2:Nat) uB.dflt).set (0:Nat) (1:Int)).set (1:Nat) (2:Int)))]:List opS.D)),(false,(2:Int),(2:Int),([((2:Int),(0:Int),(2:Int),(0:Int),winL uB (0:Nat) (2:Nat) (((List.replicate (2:Nat) uB.dflt).set (0:Nat) (255:Int)).set (1:Nat) (254:Int)))]:List opS.D)),()) ∧
 0+(1:Nat)≤([((3:Int),(0:Int),(4:Int),(5:Int),[])]:List opS.D).length ∧
 0+(1:Nat)≤([((3:Int),(0:Int),(4:Int),(5:Int),[])]:List opS.D).length ∧
 0+(1:Nat)≤([((3:Int),(0:Int),(4:Int),(5:Int),[])]:List opS.D).length ∧
 0+(1:Nat)≤([((3:Int),(0:Int),(4:Int),(5:Int),[])]:List opS.D).length ∧
 0+(1:Nat)≤([((1:Int),(0:Int),(2:Int),(0:Int),[])]:List opS.D).length ∧
 0+(1:Nat)≤([((1:Int),(0:Int),(2:Int),(0:Int),[])]:List opS.D).length ∧
 0+(1:Nat)≤([((1:Int),(0:Int),(2:Int),(0:Int),[])]:List opS.D).length ∧
 0+(1:Nat)≤([((1:Int),(0:Int),(2:Int),(0:Int),[])]:List opS.D).length ∧
 ctCo.pre ((false,(0:Int),(4:Int),([((3:Int),(0:Int),(4:Int),(5:Int),[])]:List opS.D)),(false,(4:Int),(2:Int),([((1:Int),(0:Int),(2:Int),(0:Int),[])]:List opS.D)),()) ∧
 ctCo.pre ((false,(3:Int),(2:Int),([((1:Int),(1:Int),(2:Int),(0:Int),[])]:List opS.D)),(false,(4:Int),(2:Int),([((1:Int),(0:Int),(2:Int),(0:Int),[])]:List opS.D)),()) ∧
 ctAl.pre ([],()) ∧
 ctCo.pre ((false,(3:Int),(2:Int),([((1:Int),(1:Int),(2:Int),(0:Int),[])]:List opS.D)),(true,(2:Int),(2:Int),winL opS (0:Nat) (2:Nat) (((List.replicate (2:Nat) opS.dflt).set (0:Nat) ((1:Int),(1:Int),(1:Int),(0:Int),[])).set (1:Nat) ((3:Int),(0:Int),(1:Int),(9:Int),[]))),()) ∧
 0+(1:Nat)≤([(true,(0:Int),(0:Int))]:List syS.D).length ∧
 ctTh.pre ([],([(true,(0:Int),(0:Int))]:List syS.D),()) ∧
 0+(1:Nat)≤([(9:Int)]:List uB.D).length ∧
 0+(2:Nat)≤(((List.replicate (2:Nat) opS.dflt).set (0:Nat) ((1:Int),(2:Int),(1:Int),(0:Int),[])).set (1:Nat) ((4:Int),(0:Int),(1:Int),(0:Int),([(9:Int)]:List uB.D))).length ∧
 ctSm.pre (((coV (false,(3:Int),(2:Int),([((1:Int),(1:Int),(2:Int),(0:Int),[])]:List opS.D)) (false,(2:Int),(2:Int),winL opS (0:Nat) (2:Nat) (((List.replicate (2:Nat) opS.dflt).set (0:Nat) ((1:Int),(1:Int),(1:Int),(0:Int),[])).set (1:Nat) ((3:Int),(0:Int),(1:Int),(9:Int),[])))).1),(false,(3:Int),(2:Int),winL opS (0:Nat) (2:Nat) (((List.replicate (2:Nat) opS.dflt).set (0:Nat) ((1:Int),(2:Int),(1:Int),(0:Int),[])).set (1:Nat) ((4:Int),(0:Int),(1:Int),(0:Int),([(9:Int)]:List uB.D)))),()) ∧
 ctRw.pre ((2:Int),()) ∧
 ctSm.pre (((coV (false,(2:Int),(2:Int),([((2:Int),(0:Int),(2:Int),(0:Int),winL uB (0:Nat) (2:Nat) (((List.replicate (2:Nat) uB.dflt).set (0:Nat) (1:Int)).set (1:Nat) (2:Int)))]:List opS.D)) (false,(2:Int),(2:Int),([((2:Int),(0:Int),(2:Int),(0:Int),winL uB (0:Nat) (2:Nat) (((List.replicate (2:Nat) uB.dflt).set (0:Nat) (255:Int)).set (1:Nat) (254:Int)))]:List opS.D))).1),(rwV (2:Int)),()) ∧
 0+(1:Nat)≤([((3:Int),(0:Int),(2:Int),(5:Int),[])]:List opS.D).length ∧
 ctSm.pre (((coV (false,(0:Int),(4:Int),([((3:Int),(0:Int),(4:Int),(5:Int),[])]:List opS.D)) (false,(4:Int),(2:Int),([((1:Int),(0:Int),(2:Int),(0:Int),[])]:List opS.D))).1),(false,(0:Int),(2:Int),([((3:Int),(0:Int),(2:Int),(5:Int),[])]:List opS.D)),()) ∧
 Q [.bool (decide ((thV [] (([(true,(0:Int),(0:Int))]:List syS.D))).2=(61:Int)))] [(1,.var [.bool false,.int .i64 3,.int .i64 2,.sl opS (([((1:Int),(1:Int),(2:Int),(0:Int),[])]:List opS.D))]),(2,.var [.bool false,.int .i64 2,.int .i64 2,.sl opS (winL opS (0:Nat) (2:Nat) (((List.replicate (2:Nat) opS.dflt).set (0:Nat) ((1:Int),(1:Int),(1:Int),(0:Int),[])).set (1:Nat) ((3:Int),(0:Int),(1:Int),(9:Int),[])))]),(3,.var [.bool false,.int .i64 2,.int .i64 2,.sl opS (([((2:Int),(0:Int),(2:Int),(0:Int),winL uB (0:Nat) (2:Nat) (((List.replicate (2:Nat) uB.dflt).set (0:Nat) (1:Int)).set (1:Nat) (2:Int)))]:List opS.D))]),(4,.var [.bool false,.int .i64 2,.int .i64 2,.sl opS (([((2:Int),(0:Int),(2:Int),(0:Int),winL uB (0:Nat) (2:Nat) (((List.replicate (2:Nat) uB.dflt).set (0:Nat) (255:Int)).set (1:Nat) (254:Int)))]:List opS.D))]),(5,.var [.bool false,.int .i64 0,.int .i64 4,.sl opS (([((3:Int),(0:Int),(4:Int),(5:Int),[])]:List opS.D))]),(6,.var [.bool false,.int .i64 4,.int .i64 2,.sl opS (([((1:Int),(0:Int),(2:Int),(0:Int),[])]:List opS.D))]),(7,.var [.bool (coV (false,(3:Int),(2:Int),([((1:Int),(1:Int),(2:Int),(0:Int),[])]:List opS.D)) (false,(2:Int),(2:Int),winL opS (0:Nat) (2:Nat) (((List.replicate (2:Nat) opS.dflt).set (0:Nat) ((1:Int),(1:Int),(1:Int),(0:Int),[])).set (1:Nat) ((3:Int),(0:Int),(1:Int),(9:Int),[])))).1.1,.int .i64 (coV (false,(3:Int),(2:Int),([((1:Int),(1:Int),(2:Int),(0:Int),[])]:List opS.D)) (false,(2:Int),(2:Int),winL opS (0:Nat) (2:Nat) (((List.replicate (2:Nat) opS.dflt).set (0:Nat) ((1:Int),(1:Int),(1:Int),(0:Int),[])).set (1:Nat) ((3:Int),(0:Int),(1:Int),(9:Int),[])))).1.2.1,.int .i64 (coV (false,(3:Int),(2:Int),([((1:Int),(1:Int),(2:Int),(0:Int),[])]:List opS.D)) (false,(2:Int),(2:Int),winL opS (0:Nat) (2:Nat) (((List.replicate (2:Nat) opS.dflt).set (0:Nat) ((1:Int),(1:Int),(1:Int),(0:Int),[])).set (1:Nat) ((3:Int),(0:Int),(1:Int),(9:Int),[])))).1.2.2.1,.sl opS (coV (false,(3:Int),(2:Int),([((1:Int),(1:Int),(2:Int),(0:Int),[])]:List opS.D)) (false,(2:Int),(2:Int),winL opS (0:Nat) (2:Nat) (((List.replicate (2:Nat) opS.dflt).set (0:Nat) ((1:Int),(1:Int),(1:Int),(0:Int),[])).set (1:Nat) ((3:Int),(0:Int),(1:Int),(9:Int),[])))).1.2.2.2]),(9,.var [.bool (coV (false,(2:Int),(2:Int),([((2:Int),(0:Int),(2:Int),(0:Int),winL uB (0:Nat) (2:Nat) (((List.replicate (2:Nat) uB.dflt).set (0:Nat) (1:Int)).set (1:Nat) (2:Int)))]:List opS.D)) (false,(2:Int),(2:Int),([((2:Int),(0:Int),(2:Int),(0:Int),winL uB (0:Nat) (2:Nat) (((List.replicate (2:Nat) uB.dflt).set (0:Nat) (255:Int)).set (1:Nat) (254:Int)))]:List opS.D))).1.1,.int .i64 (coV (false,(2:Int),(2:Int),([((2:Int),(0:Int),(2:Int),(0:Int),winL uB (0:Nat) (2:Nat) (((List.replicate (2:Nat) uB.dflt).set (0:Nat) (1:Int)).set (1:Nat) (2:Int)))]:List opS.D)) (false,(2:Int),(2:Int),([((2:Int),(0:Int),(2:Int),(0:Int),winL uB (0:Nat) (2:Nat) (((List.replicate (2:Nat) uB.dflt).set (0:Nat) (255:Int)).set (1:Nat) (254:Int)))]:List opS.D))).1.2.1,.int .i64 (coV (false,(2:Int),(2:Int),([((2:Int),(0:Int),(2:Int),(0:Int),winL uB (0:Nat) (2:Nat) (((List.replicate (2:Nat) uB.dflt).set (0:Nat) (1:Int)).set (1:Nat) (2:Int)))]:List opS.D)) (false,(2:Int),(2:Int),([((2:Int),(0:Int),(2:Int),(0:Int),winL uB (0:Nat) (2:Nat) (((List.replicate (2:Nat) uB.dflt).set (0:Nat) (255:Int)).set (1:Nat) (254:Int)))]:List opS.D))).1.2.2.1,.sl opS (coV (false,(2:Int),(2:Int),([((2:Int),(0:Int),(2:Int),(0:Int),winL uB (0:Nat) (2:Nat) (((List.replicate (2:Nat) uB.dflt).set (0:Nat) (1:Int)).set (1:Nat) (2:Int)))]:List opS.D)) (false,(2:Int),(2:Int),([((2:Int),(0:Int),(2:Int),(0:Int),winL uB (0:Nat) (2:Nat) (((List.replicate (2:Nat) uB.dflt).set (0:Nat) (255:Int)).set (1:Nat) (254:Int)))]:List opS.D))).1.2.2.2]),(11,.var [.bool (coV (false,(0:Int),(4:Int),([((3:Int),(0:Int),(4:Int),(5:Int),[])]:List opS.D)) (false,(4:Int),(2:Int),([((1:Int),(0:Int),(2:Int),(0:Int),[])]:List opS.D))).1.1,.int .i64 (coV (false,(0:Int),(4:Int),([((3:Int),(0:Int),(4:Int),(5:Int),[])]:List opS.D)) (false,(4:Int),(2:Int),([((1:Int),(0:Int),(2:Int),(0:Int),[])]:List opS.D))).1.2.1,.int .i64 (coV (false,(0:Int),(4:Int),([((3:Int),(0:Int),(4:Int),(5:Int),[])]:List opS.D)) (false,(4:Int),(2:Int),([((1:Int),(0:Int),(2:Int),(0:Int),[])]:List opS.D))).1.2.2.1,.sl opS (coV (false,(0:Int),(4:Int),([((3:Int),(0:Int),(4:Int),(5:Int),[])]:List opS.D)) (false,(4:Int),(2:Int),([((1:Int),(0:Int),(2:Int),(0:Int),[])]:List opS.D))).1.2.2.2]),(13,.var [.bool (coV (false,(3:Int),(2:Int),([((1:Int),(1:Int),(2:Int),(0:Int),[])]:List opS.D)) (false,(4:Int),(2:Int),([((1:Int),(0:Int),(2:Int),(0:Int),[])]:List opS.D))).1.1,.int .i64 (coV (false,(3:Int),(2:Int),([((1:Int),(1:Int),(2:Int),(0:Int),[])]:List opS.D)) (false,(4:Int),(2:Int),([((1:Int),(0:Int),(2:Int),(0:Int),[])]:List opS.D))).1.2.1,.int .i64 (coV (false,(3:Int),(2:Int),([((1:Int),(1:Int),(2:Int),(0:Int),[])]:List opS.D)) (false,(4:Int),(2:Int),([((1:Int),(0:Int),(2:Int),(0:Int),[])]:List opS.D))).1.2.2.1,.sl opS (coV (false,(3:Int),(2:Int),([((1:Int),(1:Int),(2:Int),(0:Int),[])]:List opS.D)) (false,(4:Int),(2:Int),([((1:Int),(0:Int),(2:Int),(0:Int),[])]:List opS.D))).1.2.2.2]),(15,.var [.bool (allV []).1.1,.int .i64 (allV []).1.2.1,.int .i64 (allV []).1.2.2.1,.sl opS (allV []).1.2.2.2]),(17,.var [.bool true,.int .i64 2,.int .i64 2,.sl opS (winL opS (0:Nat) (2:Nat) (((List.replicate (2:Nat) opS.dflt).set (0:Nat) ((1:Int),(1:Int),(1:Int),(0:Int),[])).set (1:Nat) ((3:Int),(0:Int),(1:Int),(9:Int),[])))]),(18,.var [.bool (coV (false,(3:Int),(2:Int),([((1:Int),(1:Int),(2:Int),(0:Int),[])]:List opS.D)) (true,(2:Int),(2:Int),winL opS (0:Nat) (2:Nat) (((List.replicate (2:Nat) opS.dflt).set (0:Nat) ((1:Int),(1:Int),(1:Int),(0:Int),[])).set (1:Nat) ((3:Int),(0:Int),(1:Int),(9:Int),[])))).1.1,.int .i64 (coV (false,(3:Int),(2:Int),([((1:Int),(1:Int),(2:Int),(0:Int),[])]:List opS.D)) (true,(2:Int),(2:Int),winL opS (0:Nat) (2:Nat) (((List.replicate (2:Nat) opS.dflt).set (0:Nat) ((1:Int),(1:Int),(1:Int),(0:Int),[])).set (1:Nat) ((3:Int),(0:Int),(1:Int),(9:Int),[])))).1.2.1,.int .i64 (coV (false,(3:Int),(2:Int),([((1:Int),(1:Int),(2:Int),(0:Int),[])]:List opS.D)) (true,(2:Int),(2:Int),winL opS (0:Nat) (2:Nat) (((List.replicate (2:Nat) opS.dflt).set (0:Nat) ((1:Int),(1:Int),(1:Int),(0:Int),[])).set (1:Nat) ((3:Int),(0:Int),(1:Int),(9:Int),[])))).1.2.2.1,.sl opS (coV (false,(3:Int),(2:Int),([((1:Int),(1:Int),(2:Int),(0:Int),[])]:List opS.D)) (true,(2:Int),(2:Int),winL opS (0:Nat) (2:Nat) (((List.replicate (2:Nat) opS.dflt).set (0:Nat) ((1:Int),(1:Int),(1:Int),(0:Int),[])).set (1:Nat) ((3:Int),(0:Int),(1:Int),(9:Int),[])))).1.2.2.2]),(82,.row 66 syS ([(true,(0:Int),(0:Int))]:List syS.D)),(114,.row 69 opS ([((3:Int),(0:Int),(2:Int),(5:Int),[])]:List opS.D)),(1339968,.row 66 syS (thV [] (([(true,(0:Int),(0:Int))]:List syS.D))).1)]):=by kernel_rfl
end Go.Proofs.YticpkibnhakgbaaDoor
namespace Go.Proofs.YticpkibnhakgbaaDoor
open Go.Px Go.Ax
set_option maxRecDepth 100000
attribute [local irreducible] Go.Px.sy Go.Px.syE
def ctSn9:Ctr:=⟨[],fun _=>True,fun _=>[.bool true],fun _=>[]⟩
theorem csan_run (R:List Item→PS→Prop):sy tt G0 CSc Tryd.f9.ntmps Tryd.f9.results.toList (QC ctSn9 ()) R 1000 [.code (bodyOf Tryd.f9)] (entry [] ()):=by
 refine (vc_csan _ _).mpr ?_
 repeat' first
  | exact trivial
  | (show List.length _<1000000;decide +kernel)
  | (show List.length _<16777216;decide +kernel)
  | (show List.length _<1099511627776;decide +kernel)
  | decide +kernel
  | refine And.intro ?_ ?_
  | (refine QC.flat ?_ rfl rfl)
  | (refine congrArg (fun b=>[SV.bool b]) ?_;decide +kernel)
theorem csan_held:Held Tryd.prog G0 9 ctSn9:=Held.run cxSc (fn:=Tryd.f9) rfl rfl ⟨by decide,by decide⟩ fun x _=>csan_run _
end Go.Proofs.YticpkibnhakgbaaDoor
namespace Go.Proofs.YticpkibnhakgbaaDoor
open Go.Px Go.Ax
set_option maxRecDepth 100000
set_option maxRecDepth 100000
end Go.Proofs.YticpkibnhakgbaaDoor
namespace Go.Proofs.YticpkibnhakgbaaDoor
open Go.Px Go.Ax
set_option maxRecDepth 100000
structure Fit (p:PaT) (t:List PaT):Prop where
 ok:(chkV p).2=0
 li:p.1=false
 out:p.2.2.1≤4096
 ch:chn false p.2.2.1 t
 by0:byL (symF p.2.2.2)
 by1:∀ q∈t,byL (symF q.2.2.2)
 len:t.length≤3
 in_:0≤p.2.1∧p.2.1≤12
theorem ch_ops {m:Int} {s:List SyT} (hr:∀ x∈s,sOK m x=true) (h0:0≤m) (h1:m≤65536) (hl:s.length≤4096):(chL s).length≤4096:=(poV_ok hr h0 h1 hl).2.2.2.2.1
theorem Fit.all {p:PaT} {t:List PaT} (h:Fit p t):allV (p::t)=(nfP false p.2.1 (syC (symF p.2.2.2) t),0)∧(∀ x∈syC (symF p.2.2.2) t,sOK p.2.1 x=true)∧(syC (symF p.2.2.2) t).length≤4096∧(chL (syC (symF p.2.2.2) t)).length≤4096:=by
 have ha:=all_nf h.ok h.out (by rw[h.li];exact h.ch)
 obtain ⟨r1,r2,r3⟩:=sy_right h.ok
 have ho:=h.out
 obtain ⟨k1,k2⟩:=syC_ok (m:=p.2.1) (li:=false) (l:=t) r1 (by omega) (by rw[r3];exact h.ch)
 rw[h.li] at ha
 exact ⟨ha,k1,k2,ch_ops k1 r2.1 r2.2 k2⟩
end Go.Proofs.YticpkibnhakgbaaDoor
namespace Go.Proofs.YticpkibnhakgbaaDoor
open Go.Px Go.Ax
def u8L (b:List Int):Prop:=∀ j,0≤gtB b j∧gtB b j<256
theorem u8_wf {n:Int} (h:wfD uB n):0≤n∧n<256:=by
 have h:(Lit.int IntKind.u8 n).wf=true:=h
 simp[Lit.wf,IntKind.min,IntKind.max,IntKind.signed,IntKind.bits] at h
 omega
theorem u8_of {l:List Int} (h:∀ x∈l,wfD uB x):u8L l:=fun j=>by
 by_cases hj:j<l.length
 ·rw[gtB_at hj];exact u8_wf (h _ (List.getElem_mem hj))
 ·have:gtB l j=0:=by
   show gt uB _ _=_
   unfold gt
   rw[List.getElem?_eq_none (by omega)];rfl
  rw[this];decide
theorem l2_of {l:List (List Int)} (h:∀ x∈l,wfD a2S x):preL2 l:=fun j k=>by
 by_cases hj:j<l.length
 ·have e:gt a2S l j=l[j]:=gtE (e:=a2S) hj
  rw[e]
  exact u8_of (h _ (List.getElem_mem hj)).2 k
 ·have:gt a2S l j=List.replicate 2 (0:Int):=by
   unfold gt
   rw[List.getElem?_eq_none (by omega)];rfl
  rw[this]
  exact u8_of (fun x hx=>by rw[List.eq_of_mem_replicate hx];rfl) k
theorem G_get {g:Nat} {x:ABlk} (h:rawG.get g=some x):g=0∧x=.cells costCells 118 2:=by
 unfold rawG T.get at h
 split at h
 ·rename_i e;cases h;exact ⟨e,rfl⟩
 ·split at h <;> (simp[T.get] at h)
theorem hG:Glob G0.raw:=⟨fun g x h=>by rw[(G_get h).1];decide,fun g x h=>by rw[(G_get h).2];decide⟩
abbrev H0:AHeap:=⟨nglob,G0.raw⟩
def Z0:Nat→Option ABlk:=fun g=>rawG.get g
theorem gz0:GZ Z0 G0:=by
 refine ⟨fun g x e=>?_,fun g x e=>e⟩
 simp only[G0,lk] at e
 split at e
 ·rename_i h;subst h;cases e
  refine ⟨by decide,fun ν=>⟨0,0,costCells,118,2,rfl,rfl,by decide,?_⟩⟩
  exact rv_of (.arr 5 coS) costsL ⟨rfl,fun x _=>⟨trivial,trivial⟩⟩
 ·cases e
theorem fro0:Px.Fro G0 H0:=⟨fun i x h=>by rw[(G_get h).2];rfl,fun i x h=>by rw[(G_get h).2];trivial,fun i x h=>by rw[(G_get h).1];decide,gz0⟩
end Go.Proofs.YticpkibnhakgbaaDoor
namespace Go.Proofs.YticpkibnhakgbaaDoor
open Go.Px Go.Ax
end Go.Proofs.YticpkibnhakgbaaDoor
namespace Go.Proofs.YticpkibnhakgbaaDoor
open Go.Px Go.Ax
set_option maxRecDepth 100000
attribute [local irreducible] Go.Px.sy Go.Px.syE
end Go.Proofs.YticpkibnhakgbaaDoor
namespace Go.Proofs.YticpkibnhakgbaaDoor
open Go.Px Go.Ax
set_option maxRecDepth 100000
def preLe (m:Nat) (l:List SyT):Prop:=l.length<m∧l.length≤65536∧∃ a:Int,a<16777216∧∀ s∈l,sOK a s=true
def ctLe (m:Nat):Ctr:=⟨[.sl syS],fun x=>preLe m x.1,fun x=>[.int .i64 (cst x.1)],fun _=>[]⟩
def CLe (m:Nat):CV:=[(44,.inl ctFt),(45,.inl ctPr),(27,.inl (ctLe m))]
set_option maxRecDepth 100000
end Go.Proofs.YticpkibnhakgbaaDoor
namespace Go.Proofs.YticpkibnhakgbaaDoor
open Go.Px Go.Ax
set_option maxRecDepth 100000
attribute [local irreducible] Go.Px.sy Go.Px.syE
section
variable (m:Nat) (cx:CxOK Tryd.prog tt G0 (CLe m)) (l:List SyT) (hp:preLe (m+1) l) (h0:l≠[])
include cx hp h0
end
end Go.Proofs.YticpkibnhakgbaaDoor
namespace Go.Proofs.YticpkibnhakgbaaDoor
open Go.Px Go.Ax
set_option maxRecDepth 100000
def CL7:CV:=[(9,.inl ctSn9),(28,.inl ctInp),(16,.inl ctRaw),(17,.inl ctTh),(29,.inl ctRun),(30,.inl ctR2)]
theorem cxL7:CxOK Tryd.prog tt G0 CL7:=(((((cx0.cons r2_held (fn:=Tryd.f30) rfl rfl rfl).cons run_held (fn:=Tryd.f29) rfl rfl rfl).cons th_held (fn:=Tryd.f17) rfl rfl rfl).cons raw_held (fn:=Tryd.f16) rfl rfl rfl).cons inp_held (fn:=Tryd.f28) rfl rfl rfl).cons csan_held (fn:=Tryd.f9) rfl rfl rfl
set_option maxRecDepth 100000
def mem_l7_m0 (s:List (List (List Int))) (b:List Int):List (Nat × LB):=[(2,.var [.arr (2:Nat) (Sh.arr (2:Nat) uB).sl s]),(1077824,.row 5 uB (inpL b (9))),(1090112,.row 66 syS (rawL (gt (Sh.arr (2:Nat) uB).sl s (0)) (9:Int) (rawK (gt (Sh.arr (2:Nat) uB).sl s (0))))),(1110592,.row 66 syS (rawL (gt (Sh.arr (2:Nat) uB).sl s (1)) (↑(rawL (gt (Sh.arr (2:Nat) uB).sl s (0)) (9:Int) (rawK (gt (Sh.arr (2:Nat) uB).sl s (0)))).length:Int) (rawK (gt (Sh.arr (2:Nat) uB).sl s (1))))),(1126976,.row 66 syS (thV (winL syS 0 (rawL (gt (Sh.arr (2:Nat) uB).sl s (0)) (9:Int) (rawK (gt (Sh.arr (2:Nat) uB).sl s (0)))).length (rawL (gt (Sh.arr (2:Nat) uB).sl s (0)) (9:Int) (rawK (gt (Sh.arr (2:Nat) uB).sl s (0))))) (winL syS 0 (rawL (gt (Sh.arr (2:Nat) uB).sl s (1)) (↑(rawL (gt (Sh.arr (2:Nat) uB).sl s (0)) (9:Int) (rawK (gt (Sh.arr (2:Nat) uB).sl s (0)))).length:Int) (rawK (gt (Sh.arr (2:Nat) uB).sl s (1)))).length (rawL (gt (Sh.arr (2:Nat) uB).sl s (1)) (↑(rawL (gt (Sh.arr (2:Nat) uB).sl s (0)) (9:Int) (rawK (gt (Sh.arr (2:Nat) uB).sl s (0)))).length:Int) (rawK (gt (Sh.arr (2:Nat) uB).sl s (1)))))).1),(1151552,.row 5 uB (runV (winL uB 0 (inpL b (9)).length (inpL b (9))) (winL syS 0 (rawL (gt (Sh.arr (2:Nat) uB).sl s (0)) (9:Int) (rawK (gt (Sh.arr (2:Nat) uB).sl s (0)))).length (rawL (gt (Sh.arr (2:Nat) uB).sl s (0)) (9:Int) (rawK (gt (Sh.arr (2:Nat) uB).sl s (0)))))).1),(1176128,.row 5 uB (runV (winL uB 0 (runV (winL uB 0 (inpL b (9)).length (inpL b (9))) (winL syS 0 (rawL (gt (Sh.arr (2:Nat) uB).sl s (0)) (9:Int) (rawK (gt (Sh.arr (2:Nat) uB).sl s (0)))).length (rawL (gt (Sh.arr (2:Nat) uB).sl s (0)) (9:Int) (rawK (gt (Sh.arr (2:Nat) uB).sl s (0)))))).1.length (runV (winL uB 0 (inpL b (9)).length (inpL b (9))) (winL syS 0 (rawL (gt (Sh.arr (2:Nat) uB).sl s (0)) (9:Int) (rawK (gt (Sh.arr (2:Nat) uB).sl s (0)))).length (rawL (gt (Sh.arr (2:Nat) uB).sl s (0)) (9:Int) (rawK (gt (Sh.arr (2:Nat) uB).sl s (0)))))).1) (winL syS 0 (rawL (gt (Sh.arr (2:Nat) uB).sl s (1)) (↑(rawL (gt (Sh.arr (2:Nat) uB).sl s (0)) (9:Int) (rawK (gt (Sh.arr (2:Nat) uB).sl s (0)))).length:Int) (rawK (gt (Sh.arr (2:Nat) uB).sl s (1)))).length (rawL (gt (Sh.arr (2:Nat) uB).sl s (1)) (↑(rawL (gt (Sh.arr (2:Nat) uB).sl s (0)) (9:Int) (rawK (gt (Sh.arr (2:Nat) uB).sl s (0)))).length:Int) (rawK (gt (Sh.arr (2:Nat) uB).sl s (1)))))).1),(1200704,.row 5 uB (runV (winL uB 0 (inpL b (9)).length (inpL b (9))) (winL syS 0 (thV (winL syS 0 (rawL (gt (Sh.arr (2:Nat) uB).sl s (0)) (9:Int) (rawK (gt (Sh.arr (2:Nat) uB).sl s (0)))).length (rawL (gt (Sh.arr (2:Nat) uB).sl s (0)) (9:Int) (rawK (gt (Sh.arr (2:Nat) uB).sl s (0))))) (winL syS 0 (rawL (gt (Sh.arr (2:Nat) uB).sl s (1)) (↑(rawL (gt (Sh.arr (2:Nat) uB).sl s (0)) (9:Int) (rawK (gt (Sh.arr (2:Nat) uB).sl s (0)))).length:Int) (rawK (gt (Sh.arr (2:Nat) uB).sl s (1)))).length (rawL (gt (Sh.arr (2:Nat) uB).sl s (1)) (↑(rawL (gt (Sh.arr (2:Nat) uB).sl s (0)) (9:Int) (rawK (gt (Sh.arr (2:Nat) uB).sl s (0)))).length:Int) (rawK (gt (Sh.arr (2:Nat) uB).sl s (1)))))).1.length (thV (winL syS 0 (rawL (gt (Sh.arr (2:Nat) uB).sl s (0)) (9:Int) (rawK (gt (Sh.arr (2:Nat) uB).sl s (0)))).length (rawL (gt (Sh.arr (2:Nat) uB).sl s (0)) (9:Int) (rawK (gt (Sh.arr (2:Nat) uB).sl s (0))))) (winL syS 0 (rawL (gt (Sh.arr (2:Nat) uB).sl s (1)) (↑(rawL (gt (Sh.arr (2:Nat) uB).sl s (0)) (9:Int) (rawK (gt (Sh.arr (2:Nat) uB).sl s (0)))).length:Int) (rawK (gt (Sh.arr (2:Nat) uB).sl s (1)))).length (rawL (gt (Sh.arr (2:Nat) uB).sl s (1)) (↑(rawL (gt (Sh.arr (2:Nat) uB).sl s (0)) (9:Int) (rawK (gt (Sh.arr (2:Nat) uB).sl s (0)))).length:Int) (rawK (gt (Sh.arr (2:Nat) uB).sl s (1)))))).1)).1)]
theorem vc_l7 (s:List (List (List Int))) (b:List Int) (Q:QT) (R:RT):sy tt G0 CL7 Tryd.f7.ntmps Tryd.f7.results.toList Q R 1000 [.code (bodyOf Tryd.f7)] (entry [.arr 2 (.sl a2S),.sl uB] (s,b,())) =
  (ctSn9.pre () ∧
 ctInp.pre (b,(9:Int),()) ∧
 (0:Int)≤(0:Int) ∧
 (0:Int)<(↑(2:Nat):Int) ∧
 0<(2:Nat) ∧
 ctRaw.pre (gt (Sh.arr (2:Nat) uB).sl s (0),(9:Int),()) ∧
 (0:Int)≤(1:Int) ∧
 (1:Int)<(↑(2:Nat):Int) ∧
 1<(2:Nat) ∧
 ctRaw.pre (gt (Sh.arr (2:Nat) uB).sl s (1),(↑(rawL (gt (Sh.arr (2:Nat) uB).sl s (0)) (9:Int) (rawK (gt (Sh.arr (2:Nat) uB).sl s (0)))).length:Int),()) ∧
 0+(rawL (gt (Sh.arr (2:Nat) uB).sl s (0)) (9:Int) (rawK (gt (Sh.arr (2:Nat) uB).sl s (0)))).length≤(rawL (gt (Sh.arr (2:Nat) uB).sl s (0)) (9:Int) (rawK (gt (Sh.arr (2:Nat) uB).sl s (0)))).length ∧
 0+(rawL (gt (Sh.arr (2:Nat) uB).sl s (1)) (↑(rawL (gt (Sh.arr (2:Nat) uB).sl s (0)) (9:Int) (rawK (gt (Sh.arr (2:Nat) uB).sl s (0)))).length:Int) (rawK (gt (Sh.arr (2:Nat) uB).sl s (1)))).length≤(rawL (gt (Sh.arr (2:Nat) uB).sl s (1)) (↑(rawL (gt (Sh.arr (2:Nat) uB).sl s (0)) (9:Int) (rawK (gt (Sh.arr (2:Nat) uB).sl s (0)))).length:Int) (rawK (gt (Sh.arr (2:Nat) uB).sl s (1)))).length ∧
 ctTh.pre (winL syS 0 (rawL (gt (Sh.arr (2:Nat) uB).sl s (0)) (9:Int) (rawK (gt (Sh.arr (2:Nat) uB).sl s (0)))).length (rawL (gt (Sh.arr (2:Nat) uB).sl s (0)) (9:Int) (rawK (gt (Sh.arr (2:Nat) uB).sl s (0)))),winL syS 0 (rawL (gt (Sh.arr (2:Nat) uB).sl s (1)) (↑(rawL (gt (Sh.arr (2:Nat) uB).sl s (0)) (9:Int) (rawK (gt (Sh.arr (2:Nat) uB).sl s (0)))).length:Int) (rawK (gt (Sh.arr (2:Nat) uB).sl s (1)))).length (rawL (gt (Sh.arr (2:Nat) uB).sl s (1)) (↑(rawL (gt (Sh.arr (2:Nat) uB).sl s (0)) (9:Int) (rawK (gt (Sh.arr (2:Nat) uB).sl s (0)))).length:Int) (rawK (gt (Sh.arr (2:Nat) uB).sl s (1)))),()) ∧
 0+(inpL b (9)).length≤(inpL b (9)).length ∧
 0+(rawL (gt (Sh.arr (2:Nat) uB).sl s (0)) (9:Int) (rawK (gt (Sh.arr (2:Nat) uB).sl s (0)))).length≤(rawL (gt (Sh.arr (2:Nat) uB).sl s (0)) (9:Int) (rawK (gt (Sh.arr (2:Nat) uB).sl s (0)))).length ∧
 ctRun.pre (winL uB 0 (inpL b (9)).length (inpL b (9)),winL syS 0 (rawL (gt (Sh.arr (2:Nat) uB).sl s (0)) (9:Int) (rawK (gt (Sh.arr (2:Nat) uB).sl s (0)))).length (rawL (gt (Sh.arr (2:Nat) uB).sl s (0)) (9:Int) (rawK (gt (Sh.arr (2:Nat) uB).sl s (0)))),()) ∧
 0+(runV (winL uB 0 (inpL b (9)).length (inpL b (9))) (winL syS 0 (rawL (gt (Sh.arr (2:Nat) uB).sl s (0)) (9:Int) (rawK (gt (Sh.arr (2:Nat) uB).sl s (0)))).length (rawL (gt (Sh.arr (2:Nat) uB).sl s (0)) (9:Int) (rawK (gt (Sh.arr (2:Nat) uB).sl s (0)))))).1.length≤(runV (winL uB 0 (inpL b (9)).length (inpL b (9))) (winL syS 0 (rawL (gt (Sh.arr (2:Nat) uB).sl s (0)) (9:Int) (rawK (gt (Sh.arr (2:Nat) uB).sl s (0)))).length (rawL (gt (Sh.arr (2:Nat) uB).sl s (0)) (9:Int) (rawK (gt (Sh.arr (2:Nat) uB).sl s (0)))))).1.length ∧
 0+(rawL (gt (Sh.arr (2:Nat) uB).sl s (1)) (↑(rawL (gt (Sh.arr (2:Nat) uB).sl s (0)) (9:Int) (rawK (gt (Sh.arr (2:Nat) uB).sl s (0)))).length:Int) (rawK (gt (Sh.arr (2:Nat) uB).sl s (1)))).length≤(rawL (gt (Sh.arr (2:Nat) uB).sl s (1)) (↑(rawL (gt (Sh.arr (2:Nat) uB).sl s (0)) (9:Int) (rawK (gt (Sh.arr (2:Nat) uB).sl s (0)))).length:Int) (rawK (gt (Sh.arr (2:Nat) uB).sl s (1)))).length ∧
 ctRun.pre (winL uB 0 (runV (winL uB 0 (inpL b (9)).length (inpL b (9))) (winL syS 0 (rawL (gt (Sh.arr (2:Nat) uB).sl s (0)) (9:Int) (rawK (gt (Sh.arr (2:Nat) uB).sl s (0)))).length (rawL (gt (Sh.arr (2:Nat) uB).sl s (0)) (9:Int) (rawK (gt (Sh.arr (2:Nat) uB).sl s (0)))))).1.length (runV (winL uB 0 (inpL b (9)).length (inpL b (9))) (winL syS 0 (rawL (gt (Sh.arr (2:Nat) uB).sl s (0)) (9:Int) (rawK (gt (Sh.arr (2:Nat) uB).sl s (0)))).length (rawL (gt (Sh.arr (2:Nat) uB).sl s (0)) (9:Int) (rawK (gt (Sh.arr (2:Nat) uB).sl s (0)))))).1,winL syS 0 (rawL (gt (Sh.arr (2:Nat) uB).sl s (1)) (↑(rawL (gt (Sh.arr (2:Nat) uB).sl s (0)) (9:Int) (rawK (gt (Sh.arr (2:Nat) uB).sl s (0)))).length:Int) (rawK (gt (Sh.arr (2:Nat) uB).sl s (1)))).length (rawL (gt (Sh.arr (2:Nat) uB).sl s (1)) (↑(rawL (gt (Sh.arr (2:Nat) uB).sl s (0)) (9:Int) (rawK (gt (Sh.arr (2:Nat) uB).sl s (0)))).length:Int) (rawK (gt (Sh.arr (2:Nat) uB).sl s (1)))),()) ∧
 0+(inpL b (9)).length≤(inpL b (9)).length ∧
 0+(thV (winL syS 0 (rawL (gt (Sh.arr (2:Nat) uB).sl s (0)) (9:Int) (rawK (gt (Sh.arr (2:Nat) uB).sl s (0)))).length (rawL (gt (Sh.arr (2:Nat) uB).sl s (0)) (9:Int) (rawK (gt (Sh.arr (2:Nat) uB).sl s (0))))) (winL syS 0 (rawL (gt (Sh.arr (2:Nat) uB).sl s (1)) (↑(rawL (gt (Sh.arr (2:Nat) uB).sl s (0)) (9:Int) (rawK (gt (Sh.arr (2:Nat) uB).sl s (0)))).length:Int) (rawK (gt (Sh.arr (2:Nat) uB).sl s (1)))).length (rawL (gt (Sh.arr (2:Nat) uB).sl s (1)) (↑(rawL (gt (Sh.arr (2:Nat) uB).sl s (0)) (9:Int) (rawK (gt (Sh.arr (2:Nat) uB).sl s (0)))).length:Int) (rawK (gt (Sh.arr (2:Nat) uB).sl s (1)))))).1.length≤(thV (winL syS 0 (rawL (gt (Sh.arr (2:Nat) uB).sl s (0)) (9:Int) (rawK (gt (Sh.arr (2:Nat) uB).sl s (0)))).length (rawL (gt (Sh.arr (2:Nat) uB).sl s (0)) (9:Int) (rawK (gt (Sh.arr (2:Nat) uB).sl s (0))))) (winL syS 0 (rawL (gt (Sh.arr (2:Nat) uB).sl s (1)) (↑(rawL (gt (Sh.arr (2:Nat) uB).sl s (0)) (9:Int) (rawK (gt (Sh.arr (2:Nat) uB).sl s (0)))).length:Int) (rawK (gt (Sh.arr (2:Nat) uB).sl s (1)))).length (rawL (gt (Sh.arr (2:Nat) uB).sl s (1)) (↑(rawL (gt (Sh.arr (2:Nat) uB).sl s (0)) (9:Int) (rawK (gt (Sh.arr (2:Nat) uB).sl s (0)))).length:Int) (rawK (gt (Sh.arr (2:Nat) uB).sl s (1)))))).1.length ∧
 ctRun.pre (winL uB 0 (inpL b (9)).length (inpL b (9)),winL syS 0 (thV (winL syS 0 (rawL (gt (Sh.arr (2:Nat) uB).sl s (0)) (9:Int) (rawK (gt (Sh.arr (2:Nat) uB).sl s (0)))).length (rawL (gt (Sh.arr (2:Nat) uB).sl s (0)) (9:Int) (rawK (gt (Sh.arr (2:Nat) uB).sl s (0))))) (winL syS 0 (rawL (gt (Sh.arr (2:Nat) uB).sl s (1)) (↑(rawL (gt (Sh.arr (2:Nat) uB).sl s (0)) (9:Int) (rawK (gt (Sh.arr (2:Nat) uB).sl s (0)))).length:Int) (rawK (gt (Sh.arr (2:Nat) uB).sl s (1)))).length (rawL (gt (Sh.arr (2:Nat) uB).sl s (1)) (↑(rawL (gt (Sh.arr (2:Nat) uB).sl s (0)) (9:Int) (rawK (gt (Sh.arr (2:Nat) uB).sl s (0)))).length:Int) (rawK (gt (Sh.arr (2:Nat) uB).sl s (1)))))).1.length (thV (winL syS 0 (rawL (gt (Sh.arr (2:Nat) uB).sl s (0)) (9:Int) (rawK (gt (Sh.arr (2:Nat) uB).sl s (0)))).length (rawL (gt (Sh.arr (2:Nat) uB).sl s (0)) (9:Int) (rawK (gt (Sh.arr (2:Nat) uB).sl s (0))))) (winL syS 0 (rawL (gt (Sh.arr (2:Nat) uB).sl s (1)) (↑(rawL (gt (Sh.arr (2:Nat) uB).sl s (0)) (9:Int) (rawK (gt (Sh.arr (2:Nat) uB).sl s (0)))).length:Int) (rawK (gt (Sh.arr (2:Nat) uB).sl s (1)))).length (rawL (gt (Sh.arr (2:Nat) uB).sl s (1)) (↑(rawL (gt (Sh.arr (2:Nat) uB).sl s (0)) (9:Int) (rawK (gt (Sh.arr (2:Nat) uB).sl s (0)))).length:Int) (rawK (gt (Sh.arr (2:Nat) uB).sl s (1)))))).1,()) ∧
 bc (decide ((thV (winL syS 0 (rawL (gt (Sh.arr (2:Nat) uB).sl s (0)) (9:Int) (rawK (gt (Sh.arr (2:Nat) uB).sl s (0)))).length (rawL (gt (Sh.arr (2:Nat) uB).sl s (0)) (9:Int) (rawK (gt (Sh.arr (2:Nat) uB).sl s (0))))) (winL syS 0 (rawL (gt (Sh.arr (2:Nat) uB).sl s (1)) (↑(rawL (gt (Sh.arr (2:Nat) uB).sl s (0)) (9:Int) (rawK (gt (Sh.arr (2:Nat) uB).sl s (0)))).length:Int) (rawK (gt (Sh.arr (2:Nat) uB).sl s (1)))).length (rawL (gt (Sh.arr (2:Nat) uB).sl s (1)) (↑(rawL (gt (Sh.arr (2:Nat) uB).sl s (0)) (9:Int) (rawK (gt (Sh.arr (2:Nat) uB).sl s (0)))).length:Int) (rawK (gt (Sh.arr (2:Nat) uB).sl s (1)))))).2=(0:Int))) (bc (decide ((runV (winL uB 0 (inpL b (9)).length (inpL b (9))) (winL syS 0 (rawL (gt (Sh.arr (2:Nat) uB).sl s (0)) (9:Int) (rawK (gt (Sh.arr (2:Nat) uB).sl s (0)))).length (rawL (gt (Sh.arr (2:Nat) uB).sl s (0)) (9:Int) (rawK (gt (Sh.arr (2:Nat) uB).sl s (0)))))).2=(0:Int))) (bc (decide ((runV (winL uB 0 (runV (winL uB 0 (inpL b (9)).length (inpL b (9))) (winL syS 0 (rawL (gt (Sh.arr (2:Nat) uB).sl s (0)) (9:Int) (rawK (gt (Sh.arr (2:Nat) uB).sl s (0)))).length (rawL (gt (Sh.arr (2:Nat) uB).sl s (0)) (9:Int) (rawK (gt (Sh.arr (2:Nat) uB).sl s (0)))))).1.length (runV (winL uB 0 (inpL b (9)).length (inpL b (9))) (winL syS 0 (rawL (gt (Sh.arr (2:Nat) uB).sl s (0)) (9:Int) (rawK (gt (Sh.arr (2:Nat) uB).sl s (0)))).length (rawL (gt (Sh.arr (2:Nat) uB).sl s (0)) (9:Int) (rawK (gt (Sh.arr (2:Nat) uB).sl s (0)))))).1) (winL syS 0 (rawL (gt (Sh.arr (2:Nat) uB).sl s (1)) (↑(rawL (gt (Sh.arr (2:Nat) uB).sl s (0)) (9:Int) (rawK (gt (Sh.arr (2:Nat) uB).sl s (0)))).length:Int) (rawK (gt (Sh.arr (2:Nat) uB).sl s (1)))).length (rawL (gt (Sh.arr (2:Nat) uB).sl s (1)) (↑(rawL (gt (Sh.arr (2:Nat) uB).sl s (0)) (9:Int) (rawK (gt (Sh.arr (2:Nat) uB).sl s (0)))).length:Int) (rawK (gt (Sh.arr (2:Nat) uB).sl s (1)))))).2=(0:Int))) (bc (decide ((runV (winL uB 0 (inpL b (9)).length (inpL b (9))) (winL syS 0 (thV (winL syS 0 (rawL (gt (Sh.arr (2:Nat) uB).sl s (0)) (9:Int) (rawK (gt (Sh.arr (2:Nat) uB).sl s (0)))).length (rawL (gt (Sh.arr (2:Nat) uB).sl s (0)) (9:Int) (rawK (gt (Sh.arr (2:Nat) uB).sl s (0))))) (winL syS 0 (rawL (gt (Sh.arr (2:Nat) uB).sl s (1)) (↑(rawL (gt (Sh.arr (2:Nat) uB).sl s (0)) (9:Int) (rawK (gt (Sh.arr (2:Nat) uB).sl s (0)))).length:Int) (rawK (gt (Sh.arr (2:Nat) uB).sl s (1)))).length (rawL (gt (Sh.arr (2:Nat) uB).sl s (1)) (↑(rawL (gt (Sh.arr (2:Nat) uB).sl s (0)) (9:Int) (rawK (gt (Sh.arr (2:Nat) uB).sl s (0)))).length:Int) (rawK (gt (Sh.arr (2:Nat) uB).sl s (1)))))).1.length (thV (winL syS 0 (rawL (gt (Sh.arr (2:Nat) uB).sl s (0)) (9:Int) (rawK (gt (Sh.arr (2:Nat) uB).sl s (0)))).length (rawL (gt (Sh.arr (2:Nat) uB).sl s (0)) (9:Int) (rawK (gt (Sh.arr (2:Nat) uB).sl s (0))))) (winL syS 0 (rawL (gt (Sh.arr (2:Nat) uB).sl s (1)) (↑(rawL (gt (Sh.arr (2:Nat) uB).sl s (0)) (9:Int) (rawK (gt (Sh.arr (2:Nat) uB).sl s (0)))).length:Int) (rawK (gt (Sh.arr (2:Nat) uB).sl s (1)))).length (rawL (gt (Sh.arr (2:Nat) uB).sl s (1)) (↑(rawL (gt (Sh.arr (2:Nat) uB).sl s (0)) (9:Int) (rawK (gt (Sh.arr (2:Nat) uB).sl s (0)))).length:Int) (rawK (gt (Sh.arr (2:Nat) uB).sl s (1)))))).1)).2=(0:Int))) (0+(runV (winL uB 0 (inpL b (9)).length (inpL b (9))) (winL syS 0 (thV (winL syS 0 (rawL (gt (Sh.arr (2:Nat) uB).sl s (0)) (9:Int) (rawK (gt (Sh.arr (2:Nat) uB).sl s (0)))).length (rawL (gt (Sh.arr (2:Nat) uB).sl s (0)) (9:Int) (rawK (gt (Sh.arr (2:Nat) uB).sl s (0))))) (winL syS 0 (rawL (gt (Sh.arr (2:Nat) uB).sl s (1)) (↑(rawL (gt (Sh.arr (2:Nat) uB).sl s (0)) (9:Int) (rawK (gt (Sh.arr (2:Nat) uB).sl s (0)))).length:Int) (rawK (gt (Sh.arr (2:Nat) uB).sl s (1)))).length (rawL (gt (Sh.arr (2:Nat) uB).sl s (1)) (↑(rawL (gt (Sh.arr (2:Nat) uB).sl s (0)) (9:Int) (rawK (gt (Sh.arr (2:Nat) uB).sl s (0)))).length:Int) (rawK (gt (Sh.arr (2:Nat) uB).sl s (1)))))).1.length (thV (winL syS 0 (rawL (gt (Sh.arr (2:Nat) uB).sl s (0)) (9:Int) (rawK (gt (Sh.arr (2:Nat) uB).sl s (0)))).length (rawL (gt (Sh.arr (2:Nat) uB).sl s (0)) (9:Int) (rawK (gt (Sh.arr (2:Nat) uB).sl s (0))))) (winL syS 0 (rawL (gt (Sh.arr (2:Nat) uB).sl s (1)) (↑(rawL (gt (Sh.arr (2:Nat) uB).sl s (0)) (9:Int) (rawK (gt (Sh.arr (2:Nat) uB).sl s (0)))).length:Int) (rawK (gt (Sh.arr (2:Nat) uB).sl s (1)))).length (rawL (gt (Sh.arr (2:Nat) uB).sl s (1)) (↑(rawL (gt (Sh.arr (2:Nat) uB).sl s (0)) (9:Int) (rawK (gt (Sh.arr (2:Nat) uB).sl s (0)))).length:Int) (rawK (gt (Sh.arr (2:Nat) uB).sl s (1)))))).1)).1.length≤(runV (winL uB 0 (inpL b (9)).length (inpL b (9))) (winL syS 0 (thV (winL syS 0 (rawL (gt (Sh.arr (2:Nat) uB).sl s (0)) (9:Int) (rawK (gt (Sh.arr (2:Nat) uB).sl s (0)))).length (rawL (gt (Sh.arr (2:Nat) uB).sl s (0)) (9:Int) (rawK (gt (Sh.arr (2:Nat) uB).sl s (0))))) (winL syS 0 (rawL (gt (Sh.arr (2:Nat) uB).sl s (1)) (↑(rawL (gt (Sh.arr (2:Nat) uB).sl s (0)) (9:Int) (rawK (gt (Sh.arr (2:Nat) uB).sl s (0)))).length:Int) (rawK (gt (Sh.arr (2:Nat) uB).sl s (1)))).length (rawL (gt (Sh.arr (2:Nat) uB).sl s (1)) (↑(rawL (gt (Sh.arr (2:Nat) uB).sl s (0)) (9:Int) (rawK (gt (Sh.arr (2:Nat) uB).sl s (0)))).length:Int) (rawK (gt (Sh.arr (2:Nat) uB).sl s (1)))))).1.length (thV (winL syS 0 (rawL (gt (Sh.arr (2:Nat) uB).sl s (0)) (9:Int) (rawK (gt (Sh.arr (2:Nat) uB).sl s (0)))).length (rawL (gt (Sh.arr (2:Nat) uB).sl s (0)) (9:Int) (rawK (gt (Sh.arr (2:Nat) uB).sl s (0))))) (winL syS 0 (rawL (gt (Sh.arr (2:Nat) uB).sl s (1)) (↑(rawL (gt (Sh.arr (2:Nat) uB).sl s (0)) (9:Int) (rawK (gt (Sh.arr (2:Nat) uB).sl s (0)))).length:Int) (rawK (gt (Sh.arr (2:Nat) uB).sl s (1)))).length (rawL (gt (Sh.arr (2:Nat) uB).sl s (1)) (↑(rawL (gt (Sh.arr (2:Nat) uB).sl s (0)) (9:Int) (rawK (gt (Sh.arr (2:Nat) uB).sl s (0)))).length:Int) (rawK (gt (Sh.arr (2:Nat) uB).sl s (1)))))).1)).1.length ∧
 0+(runV (winL uB 0 (runV (winL uB 0 (inpL b (9)).length (inpL b (9))) (winL syS 0 (rawL (gt (Sh.arr (2:Nat) uB).sl s (0)) (9:Int) (rawK (gt (Sh.arr (2:Nat) uB).sl s (0)))).length (rawL (gt (Sh.arr (2:Nat) uB).sl s (0)) (9:Int) (rawK (gt (Sh.arr (2:Nat) uB).sl s (0)))))).1.length (runV (winL uB 0 (inpL b (9)).length (inpL b (9))) (winL syS 0 (rawL (gt (Sh.arr (2:Nat) uB).sl s (0)) (9:Int) (rawK (gt (Sh.arr (2:Nat) uB).sl s (0)))).length (rawL (gt (Sh.arr (2:Nat) uB).sl s (0)) (9:Int) (rawK (gt (Sh.arr (2:Nat) uB).sl s (0)))))).1) (winL syS 0 (rawL (gt (Sh.arr (2:Nat) uB).sl s (1)) (↑(rawL (gt (Sh.arr (2:Nat) uB).sl s (0)) (9:Int) (rawK (gt (Sh.arr (2:Nat) uB).sl s (0)))).length:Int) (rawK (gt (Sh.arr (2:Nat) uB).sl s (1)))).length (rawL (gt (Sh.arr (2:Nat) uB).sl s (1)) (↑(rawL (gt (Sh.arr (2:Nat) uB).sl s (0)) (9:Int) (rawK (gt (Sh.arr (2:Nat) uB).sl s (0)))).length:Int) (rawK (gt (Sh.arr (2:Nat) uB).sl s (1)))))).1.length≤(runV (winL uB 0 (runV (winL uB 0 (inpL b (9)).length (inpL b (9))) (winL syS 0 (rawL (gt (Sh.arr (2:Nat) uB).sl s (0)) (9:Int) (rawK (gt (Sh.arr (2:Nat) uB).sl s (0)))).length (rawL (gt (Sh.arr (2:Nat) uB).sl s (0)) (9:Int) (rawK (gt (Sh.arr (2:Nat) uB).sl s (0)))))).1.length (runV (winL uB 0 (inpL b (9)).length (inpL b (9))) (winL syS 0 (rawL (gt (Sh.arr (2:Nat) uB).sl s (0)) (9:Int) (rawK (gt (Sh.arr (2:Nat) uB).sl s (0)))).length (rawL (gt (Sh.arr (2:Nat) uB).sl s (0)) (9:Int) (rawK (gt (Sh.arr (2:Nat) uB).sl s (0)))))).1) (winL syS 0 (rawL (gt (Sh.arr (2:Nat) uB).sl s (1)) (↑(rawL (gt (Sh.arr (2:Nat) uB).sl s (0)) (9:Int) (rawK (gt (Sh.arr (2:Nat) uB).sl s (0)))).length:Int) (rawK (gt (Sh.arr (2:Nat) uB).sl s (1)))).length (rawL (gt (Sh.arr (2:Nat) uB).sl s (1)) (↑(rawL (gt (Sh.arr (2:Nat) uB).sl s (0)) (9:Int) (rawK (gt (Sh.arr (2:Nat) uB).sl s (0)))).length:Int) (rawK (gt (Sh.arr (2:Nat) uB).sl s (1)))))).1.length ∧
 ctR2.pre (winL uB 0 (runV (winL uB 0 (inpL b (9)).length (inpL b (9))) (winL syS 0 (thV (winL syS 0 (rawL (gt (Sh.arr (2:Nat) uB).sl s (0)) (9:Int) (rawK (gt (Sh.arr (2:Nat) uB).sl s (0)))).length (rawL (gt (Sh.arr (2:Nat) uB).sl s (0)) (9:Int) (rawK (gt (Sh.arr (2:Nat) uB).sl s (0))))) (winL syS 0 (rawL (gt (Sh.arr (2:Nat) uB).sl s (1)) (↑(rawL (gt (Sh.arr (2:Nat) uB).sl s (0)) (9:Int) (rawK (gt (Sh.arr (2:Nat) uB).sl s (0)))).length:Int) (rawK (gt (Sh.arr (2:Nat) uB).sl s (1)))).length (rawL (gt (Sh.arr (2:Nat) uB).sl s (1)) (↑(rawL (gt (Sh.arr (2:Nat) uB).sl s (0)) (9:Int) (rawK (gt (Sh.arr (2:Nat) uB).sl s (0)))).length:Int) (rawK (gt (Sh.arr (2:Nat) uB).sl s (1)))))).1.length (thV (winL syS 0 (rawL (gt (Sh.arr (2:Nat) uB).sl s (0)) (9:Int) (rawK (gt (Sh.arr (2:Nat) uB).sl s (0)))).length (rawL (gt (Sh.arr (2:Nat) uB).sl s (0)) (9:Int) (rawK (gt (Sh.arr (2:Nat) uB).sl s (0))))) (winL syS 0 (rawL (gt (Sh.arr (2:Nat) uB).sl s (1)) (↑(rawL (gt (Sh.arr (2:Nat) uB).sl s (0)) (9:Int) (rawK (gt (Sh.arr (2:Nat) uB).sl s (0)))).length:Int) (rawK (gt (Sh.arr (2:Nat) uB).sl s (1)))).length (rawL (gt (Sh.arr (2:Nat) uB).sl s (1)) (↑(rawL (gt (Sh.arr (2:Nat) uB).sl s (0)) (9:Int) (rawK (gt (Sh.arr (2:Nat) uB).sl s (0)))).length:Int) (rawK (gt (Sh.arr (2:Nat) uB).sl s (1)))))).1)).1.length (runV (winL uB 0 (inpL b (9)).length (inpL b (9))) (winL syS 0 (thV (winL syS 0 (rawL (gt (Sh.arr (2:Nat) uB).sl s (0)) (9:Int) (rawK (gt (Sh.arr (2:Nat) uB).sl s (0)))).length (rawL (gt (Sh.arr (2:Nat) uB).sl s (0)) (9:Int) (rawK (gt (Sh.arr (2:Nat) uB).sl s (0))))) (winL syS 0 (rawL (gt (Sh.arr (2:Nat) uB).sl s (1)) (↑(rawL (gt (Sh.arr (2:Nat) uB).sl s (0)) (9:Int) (rawK (gt (Sh.arr (2:Nat) uB).sl s (0)))).length:Int) (rawK (gt (Sh.arr (2:Nat) uB).sl s (1)))).length (rawL (gt (Sh.arr (2:Nat) uB).sl s (1)) (↑(rawL (gt (Sh.arr (2:Nat) uB).sl s (0)) (9:Int) (rawK (gt (Sh.arr (2:Nat) uB).sl s (0)))).length:Int) (rawK (gt (Sh.arr (2:Nat) uB).sl s (1)))))).1.length (thV (winL syS 0 (rawL (gt (Sh.arr (2:Nat) uB).sl s (0)) (9:Int) (rawK (gt (Sh.arr (2:Nat) uB).sl s (0)))).length (rawL (gt (Sh.arr (2:Nat) uB).sl s (0)) (9:Int) (rawK (gt (Sh.arr (2:Nat) uB).sl s (0))))) (winL syS 0 (rawL (gt (Sh.arr (2:Nat) uB).sl s (1)) (↑(rawL (gt (Sh.arr (2:Nat) uB).sl s (0)) (9:Int) (rawK (gt (Sh.arr (2:Nat) uB).sl s (0)))).length:Int) (rawK (gt (Sh.arr (2:Nat) uB).sl s (1)))).length (rawL (gt (Sh.arr (2:Nat) uB).sl s (1)) (↑(rawL (gt (Sh.arr (2:Nat) uB).sl s (0)) (9:Int) (rawK (gt (Sh.arr (2:Nat) uB).sl s (0)))).length:Int) (rawK (gt (Sh.arr (2:Nat) uB).sl s (1)))))).1)).1,winL uB 0 (runV (winL uB 0 (runV (winL uB 0 (inpL b (9)).length (inpL b (9))) (winL syS 0 (rawL (gt (Sh.arr (2:Nat) uB).sl s (0)) (9:Int) (rawK (gt (Sh.arr (2:Nat) uB).sl s (0)))).length (rawL (gt (Sh.arr (2:Nat) uB).sl s (0)) (9:Int) (rawK (gt (Sh.arr (2:Nat) uB).sl s (0)))))).1.length (runV (winL uB 0 (inpL b (9)).length (inpL b (9))) (winL syS 0 (rawL (gt (Sh.arr (2:Nat) uB).sl s (0)) (9:Int) (rawK (gt (Sh.arr (2:Nat) uB).sl s (0)))).length (rawL (gt (Sh.arr (2:Nat) uB).sl s (0)) (9:Int) (rawK (gt (Sh.arr (2:Nat) uB).sl s (0)))))).1) (winL syS 0 (rawL (gt (Sh.arr (2:Nat) uB).sl s (1)) (↑(rawL (gt (Sh.arr (2:Nat) uB).sl s (0)) (9:Int) (rawK (gt (Sh.arr (2:Nat) uB).sl s (0)))).length:Int) (rawK (gt (Sh.arr (2:Nat) uB).sl s (1)))).length (rawL (gt (Sh.arr (2:Nat) uB).sl s (1)) (↑(rawL (gt (Sh.arr (2:Nat) uB).sl s (0)) (9:Int) (rawK (gt (Sh.arr (2:Nat) uB).sl s (0)))).length:Int) (rawK (gt (Sh.arr (2:Nat) uB).sl s (1)))))).1.length (runV (winL uB 0 (runV (winL uB 0 (inpL b (9)).length (inpL b (9))) (winL syS 0 (rawL (gt (Sh.arr (2:Nat) uB).sl s (0)) (9:Int) (rawK (gt (Sh.arr (2:Nat) uB).sl s (0)))).length (rawL (gt (Sh.arr (2:Nat) uB).sl s (0)) (9:Int) (rawK (gt (Sh.arr (2:Nat) uB).sl s (0)))))).1.length (runV (winL uB 0 (inpL b (9)).length (inpL b (9))) (winL syS 0 (rawL (gt (Sh.arr (2:Nat) uB).sl s (0)) (9:Int) (rawK (gt (Sh.arr (2:Nat) uB).sl s (0)))).length (rawL (gt (Sh.arr (2:Nat) uB).sl s (0)) (9:Int) (rawK (gt (Sh.arr (2:Nat) uB).sl s (0)))))).1) (winL syS 0 (rawL (gt (Sh.arr (2:Nat) uB).sl s (1)) (↑(rawL (gt (Sh.arr (2:Nat) uB).sl s (0)) (9:Int) (rawK (gt (Sh.arr (2:Nat) uB).sl s (0)))).length:Int) (rawK (gt (Sh.arr (2:Nat) uB).sl s (1)))).length (rawL (gt (Sh.arr (2:Nat) uB).sl s (1)) (↑(rawL (gt (Sh.arr (2:Nat) uB).sl s (0)) (9:Int) (rawK (gt (Sh.arr (2:Nat) uB).sl s (0)))).length:Int) (rawK (gt (Sh.arr (2:Nat) uB).sl s (1)))))).1,()) ∧
 bc (decide ((have this:=winL uB 0 (runV (winL uB 0 (inpL b (9)).length (inpL b (9))) (winL syS 0 (thV (winL syS 0 (rawL (gt (Sh.arr (2:Nat) uB).sl s (0)) (9:Int) (rawK (gt (Sh.arr (2:Nat) uB).sl s (0)))).length (rawL (gt (Sh.arr (2:Nat) uB).sl s (0)) (9:Int) (rawK (gt (Sh.arr (2:Nat) uB).sl s (0))))) (winL syS 0 (rawL (gt (Sh.arr (2:Nat) uB).sl s (1)) (↑(rawL (gt (Sh.arr (2:Nat) uB).sl s (0)) (9:Int) (rawK (gt (Sh.arr (2:Nat) uB).sl s (0)))).length:Int) (rawK (gt (Sh.arr (2:Nat) uB).sl s (1)))).length (rawL (gt (Sh.arr (2:Nat) uB).sl s (1)) (↑(rawL (gt (Sh.arr (2:Nat) uB).sl s (0)) (9:Int) (rawK (gt (Sh.arr (2:Nat) uB).sl s (0)))).length:Int) (rawK (gt (Sh.arr (2:Nat) uB).sl s (1)))))).1.length (thV (winL syS 0 (rawL (gt (Sh.arr (2:Nat) uB).sl s (0)) (9:Int) (rawK (gt (Sh.arr (2:Nat) uB).sl s (0)))).length (rawL (gt (Sh.arr (2:Nat) uB).sl s (0)) (9:Int) (rawK (gt (Sh.arr (2:Nat) uB).sl s (0))))) (winL syS 0 (rawL (gt (Sh.arr (2:Nat) uB).sl s (1)) (↑(rawL (gt (Sh.arr (2:Nat) uB).sl s (0)) (9:Int) (rawK (gt (Sh.arr (2:Nat) uB).sl s (0)))).length:Int) (rawK (gt (Sh.arr (2:Nat) uB).sl s (1)))).length (rawL (gt (Sh.arr (2:Nat) uB).sl s (1)) (↑(rawL (gt (Sh.arr (2:Nat) uB).sl s (0)) (9:Int) (rawK (gt (Sh.arr (2:Nat) uB).sl s (0)))).length:Int) (rawK (gt (Sh.arr (2:Nat) uB).sl s (1)))))).1)).1.length (runV (winL uB 0 (inpL b (9)).length (inpL b (9))) (winL syS 0 (thV (winL syS 0 (rawL (gt (Sh.arr (2:Nat) uB).sl s (0)) (9:Int) (rawK (gt (Sh.arr (2:Nat) uB).sl s (0)))).length (rawL (gt (Sh.arr (2:Nat) uB).sl s (0)) (9:Int) (rawK (gt (Sh.arr (2:Nat) uB).sl s (0))))) (winL syS 0 (rawL (gt (Sh.arr (2:Nat) uB).sl s (1)) (↑(rawL (gt (Sh.arr (2:Nat) uB).sl s (0)) (9:Int) (rawK (gt (Sh.arr (2:Nat) uB).sl s (0)))).length:Int) (rawK (gt (Sh.arr (2:Nat) uB).sl s (1)))).length (rawL (gt (Sh.arr (2:Nat) uB).sl s (1)) (↑(rawL (gt (Sh.arr (2:Nat) uB).sl s (0)) (9:Int) (rawK (gt (Sh.arr (2:Nat) uB).sl s (0)))).length:Int) (rawK (gt (Sh.arr (2:Nat) uB).sl s (1)))))).1.length (thV (winL syS 0 (rawL (gt (Sh.arr (2:Nat) uB).sl s (0)) (9:Int) (rawK (gt (Sh.arr (2:Nat) uB).sl s (0)))).length (rawL (gt (Sh.arr (2:Nat) uB).sl s (0)) (9:Int) (rawK (gt (Sh.arr (2:Nat) uB).sl s (0))))) (winL syS 0 (rawL (gt (Sh.arr (2:Nat) uB).sl s (1)) (↑(rawL (gt (Sh.arr (2:Nat) uB).sl s (0)) (9:Int) (rawK (gt (Sh.arr (2:Nat) uB).sl s (0)))).length:Int) (rawK (gt (Sh.arr (2:Nat) uB).sl s (1)))).length (rawL (gt (Sh.arr (2:Nat) uB).sl s (1)) (↑(rawL (gt (Sh.arr (2:Nat) uB).sl s (0)) (9:Int) (rawK (gt (Sh.arr (2:Nat) uB).sl s (0)))).length:Int) (rawK (gt (Sh.arr (2:Nat) uB).sl s (1)))))).1)).1;this)=winL uB 0 (runV (winL uB 0 (runV (winL uB 0 (inpL b (9)).length (inpL b (9))) (winL syS 0 (rawL (gt (Sh.arr (2:Nat) uB).sl s (0)) (9:Int) (rawK (gt (Sh.arr (2:Nat) uB).sl s (0)))).length (rawL (gt (Sh.arr (2:Nat) uB).sl s (0)) (9:Int) (rawK (gt (Sh.arr (2:Nat) uB).sl s (0)))))).1.length (runV (winL uB 0 (inpL b (9)).length (inpL b (9))) (winL syS 0 (rawL (gt (Sh.arr (2:Nat) uB).sl s (0)) (9:Int) (rawK (gt (Sh.arr (2:Nat) uB).sl s (0)))).length (rawL (gt (Sh.arr (2:Nat) uB).sl s (0)) (9:Int) (rawK (gt (Sh.arr (2:Nat) uB).sl s (0)))))).1) (winL syS 0 (rawL (gt (Sh.arr (2:Nat) uB).sl s (1)) (↑(rawL (gt (Sh.arr (2:Nat) uB).sl s (0)) (9:Int) (rawK (gt (Sh.arr (2:Nat) uB).sl s (0)))).length:Int) (rawK (gt (Sh.arr (2:Nat) uB).sl s (1)))).length (rawL (gt (Sh.arr (2:Nat) uB).sl s (1)) (↑(rawL (gt (Sh.arr (2:Nat) uB).sl s (0)) (9:Int) (rawK (gt (Sh.arr (2:Nat) uB).sl s (0)))).length:Int) (rawK (gt (Sh.arr (2:Nat) uB).sl s (1)))))).1.length (runV (winL uB 0 (runV (winL uB 0 (inpL b (9)).length (inpL b (9))) (winL syS 0 (rawL (gt (Sh.arr (2:Nat) uB).sl s (0)) (9:Int) (rawK (gt (Sh.arr (2:Nat) uB).sl s (0)))).length (rawL (gt (Sh.arr (2:Nat) uB).sl s (0)) (9:Int) (rawK (gt (Sh.arr (2:Nat) uB).sl s (0)))))).1.length (runV (winL uB 0 (inpL b (9)).length (inpL b (9))) (winL syS 0 (rawL (gt (Sh.arr (2:Nat) uB).sl s (0)) (9:Int) (rawK (gt (Sh.arr (2:Nat) uB).sl s (0)))).length (rawL (gt (Sh.arr (2:Nat) uB).sl s (0)) (9:Int) (rawK (gt (Sh.arr (2:Nat) uB).sl s (0)))))).1) (winL syS 0 (rawL (gt (Sh.arr (2:Nat) uB).sl s (1)) (↑(rawL (gt (Sh.arr (2:Nat) uB).sl s (0)) (9:Int) (rawK (gt (Sh.arr (2:Nat) uB).sl s (0)))).length:Int) (rawK (gt (Sh.arr (2:Nat) uB).sl s (1)))).length (rawL (gt (Sh.arr (2:Nat) uB).sl s (1)) (↑(rawL (gt (Sh.arr (2:Nat) uB).sl s (0)) (9:Int) (rawK (gt (Sh.arr (2:Nat) uB).sl s (0)))).length:Int) (rawK (gt (Sh.arr (2:Nat) uB).sl s (1)))))).1)) (Q [.bool true] (mem_l7_m0 s b)) (false=false ∧
 Q [.bool false] (mem_l7_m0 s b))) (false=false ∧
 false=false ∧
 Q [.bool false] (mem_l7_m0 s b))) (false=false ∧
 false=false ∧
 false=false ∧
 Q [.bool false] (mem_l7_m0 s b))) (false=false ∧
 false=false ∧
 false=false ∧
 false=false ∧
 Q [.bool false] (mem_l7_m0 s b))) (false=false ∧
 false=false ∧
 false=false ∧
 false=false ∧
 false=false ∧
 Q [.bool false] (mem_l7_m0 s b))):=by kernel_rfl
end Go.Proofs.YticpkibnhakgbaaDoor
namespace Go.Proofs.YticpkibnhakgbaaDoor
open Go.Px Go.Ax
set_option maxRecDepth 100000
attribute [local irreducible] Go.Px.sy Go.Px.syE
abbrev gtA (s:List (List (List Int))) (i:Nat):List (List Int):=gt (Sh.arr 2 uB).sl s i
def ctL7c:Ctr:=⟨[.arr 2 (.sl a2S),.sl uB],fun x=>(preL2 (gtA x.1 0)∧preL2 (gtA x.1 1)),fun _=>[.bool true],fun _=>[]⟩
theorem l7_true {s:List (List (List Int))} {b:List Int} {bl:List (Nat × LB)}:QC ctL7c (s,b,()) [.bool true] bl:=QC.flat rfl rfl rfl
theorem l7_run (s:List (List (List Int))) (b:List Int) (h0:preL2 (gtA s 0)) (h1:preL2 (gtA s 1)) (R:List Item→PS→Prop):sy tt G0 CL7 Tryd.f7.ntmps Tryd.f7.results.toList (QC ctL7c (s,b,())) R 1000 [.code (bodyOf Tryd.f7)] (entry [.arr 2 (.sl a2S),.sl uB] (s,b,())):=by
 have lk:∀ l:List (List Int),rawK l≤20:=fun l=>Nat.min_le_right _ _
 have la:=rawL_len (gtA s 0) 9 (rawK (gtA s 0))
 have ka:=lk (gtA s 0)
 have oa:∀ x∈rawL (gtA s 0) 9 (rawK (gtA s 0)),sOK 9 x=true:=rawL_ok (n:=9) h0 _
 have lb:=rawL_len (gtA s 1) ((rawL (gtA s 0) 9 (rawK (gtA s 0))).length:Int) (rawK (gtA s 1))
 have kb:=lk (gtA s 1)
 have ob:∀ x∈rawL (gtA s 1) ((rawL (gtA s 0) 9 (rawK (gtA s 0))).length:Int) (rawK (gtA s 1)),sOK ((rawL (gtA s 0) 9 (rawK (gtA s 0))).length:Int) x=true:=rawL_ok h1 _
 have li:=inpL_len b 9
 refine (vc_l7 s b _ _).mpr ⟨trivial,(show preI 9 from ⟨by decide,by decide⟩),by decide,by decide,by decide,⟨h0,(show preN 9 from ⟨by decide,by decide⟩)⟩,by decide,by decide,by decide,⟨h1,(show preN ((rawL (gtA s 0) 9 (rawK (gtA s 0))).length:Int) from ⟨by omega,by omega⟩)⟩,?_⟩
 generalize rawL (gtA s 1) ((rawL (gtA s 0) 9 (rawK (gtA s 0))).length:Int) (rawK (gtA s 1))=Y at *
 generalize rawL (gtA s 0) 9 (rawK (gtA s 0))=X at *
 generalize inpL b 9=old at *
 have oa':∀ x∈X,sOK old.length x=true:=by rw[li];exact oa
 have r1:=runV_ok oa'
 have r2:runV (X.map (ruB old)) Y=(Y.map (ruB (X.map (ruB old))),0):=runV_ok (by rw[List.length_map];exact ob)
 have hv:=thV_ok ob
 have r3:=runV_ok (thL_sOK oa' ob)
 rw[thL_run (fun x hx=>sOK_th (ob x hx))] at r3
 have l3:(Y.map (ruB (X.map (ruB old)))).length=Y.length:=List.length_map ..
 have l4:(X.map (ruB old)).length=X.length:=List.length_map ..
 have l5:=thL_len X Y
 rw[winA,winA,winA,hv,r1]
 refine ⟨by omega,by omega,(show Y.length<16777216 by omega),by omega,by omega,(show X.length<16777216 by omega),by omega,by omega,?_⟩
 show ctRun.pre (winL uB 0 (X.map (ruB old)).length (X.map (ruB old)),Y,())∧_
 rw[winA,r2]
 refine ⟨(show Y.length<16777216 by omega),by omega,by omega,?_⟩
 show ctRun.pre (old,winL syS 0 (thL X Y).length (thL X Y),())∧_
 rw[winA,r3]
 generalize Y.map (ruB (X.map (ruB old)))=W at *
 refine ⟨(show (thL X Y).length<16777216 by omega),bc_of (fun _=>bc_of (fun _=>bc_of (fun _=>bc_of (fun _=>?_) (fun h=>absurd rfl (of_decide_eq_false h))) (fun h=>absurd rfl (of_decide_eq_false h))) (fun h=>absurd rfl (of_decide_eq_false h))) (fun h=>absurd rfl (of_decide_eq_false h))⟩
 refine ⟨by omega,by omega,(show (winL uB 0 W.length W).length<1099511627776 by rw[winA];omega),bc_of (fun _=>l7_true) (fun h=>absurd rfl (of_decide_eq_false h))⟩
theorem l7_held:Held Tryd.prog G0 7 ctL7c:=Held.run cxL7 (fn:=Tryd.f7) rfl rfl ⟨by decide,by decide⟩ fun ⟨s,b,_⟩ hp=>l7_run s b hp.1 hp.2 _
theorem l2_at {s:List (List (List Int))} (h:wfD (.arr 2 (.sl a2S)) s) {i:Nat} (hi:i<2):preL2 (gtA s i):=by
 have h1:s.length=2:=h.1
 have e:gtA s i=s[i]'(by omega):=by
  show gt (Sh.arr 2 uB).sl s i=_
  unfold gt
  rw[List.getElem?_eq_getElem (by omega)];rfl
 rw[e]
 have:=h.2 _ (List.getElem_mem (show i<s.length by omega))
 exact l2_of this.2
end Go.Proofs.YticpkibnhakgbaaDoor
