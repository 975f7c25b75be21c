/-
  A part of the proof: what pieces of the program give; conditions: those of each theorem.
-/
import Derived.Test.YtncocpjkaggnjaaGreatDoorQ2
import Derived.Test.YtncocpjkaggnjaaGreatDoorQ1
import Derived.Test.YtncocpjkaggnjaaGreatDoorHD
set_option linter.unusedVariables false
set_option linter.unusedSimpArgs false
namespace Go.Proofs.YtncocpjkaggnjaaGreatDoor
open Go.Px Go.Ax
set_option maxRecDepth 100000
def preSb (x:OpT) (i:Int):Prop:=k14 x∧0≤i∧(x.1=2∨x.1=4→i<(x.2.2.2.2.length:Int))
def syV (s:SyT):SV:=.agg [.bool s.1,.int .i64 s.2.1,.int .u8 s.2.2]
def ctSb:Ctr:=⟨[opS,iI],fun x=>preSb x.1 x.2.1,fun x=>[syV (elO x.1.1.toNat x.1 (Int.toNat x.2.1))],fun _=>[]⟩
def CSm:CV:=[(31,.inl ctRi),(68,.inl ctSb)]
set_option maxRecDepth 100000
theorem vc_sb (x:OpT) (i:Int) (Q:QT) (R:RT):sy tt G0 [] Tryz.f68.ntmps Tryz.f68.results.toList Q R 1000 [.code (bodyOf Tryz.f68)] (entry [opS,iI] (x,i,())) =
  (bc (decide (x.1=(1:Int))) (Q [.agg [.bool true,.int .i64 (IntKind.i64.wrap (x.2.1+i)),.int .u8 0]] [(2,.var [.int .i64 x.1,.int .i64 x.2.1,.int .i64 x.2.2.1,.int .u8 x.2.2.2.1,.sl uB x.2.2.2.2]),(4,.var [.bool true,.int .i64 (IntKind.i64.wrap (x.2.1+i)),.int .u8 0])]) (bc (decide (x.1=(2:Int))) ((0:Int)≤i ∧
 i<(↑(List.length x.2.2.2.2):Int) ∧
 Q [.agg [.bool true,.int .i64 (IntKind.i64.wrap (x.2.1+i)),.int .u8 (gtB x.2.2.2.2 i.toNat)]] [(2,.var [.int .i64 x.1,.int .i64 x.2.1,.int .i64 x.2.2.1,.int .u8 x.2.2.2.1,.sl uB x.2.2.2.2]),(4,.var [.bool true,.int .i64 (IntKind.i64.wrap (x.2.1+i)),.int .u8 (gtB x.2.2.2.2 i.toNat)])]) (bc (decide (x.1=(3:Int))) (Q [.agg [.bool false,.int .i64 0,.int .u8 x.2.2.2.1]] [(2,.var [.int .i64 x.1,.int .i64 x.2.1,.int .i64 x.2.2.1,.int .u8 x.2.2.2.1,.sl uB x.2.2.2.2]),(4,.var [.bool false,.int .i64 0,.int .u8 x.2.2.2.1])]) ((0:Int)≤i ∧
 i<(↑(List.length x.2.2.2.2):Int) ∧
 Q [.agg [.bool false,.int .i64 0,.int .u8 (gtB x.2.2.2.2 i.toNat)]] [(2,.var [.int .i64 x.1,.int .i64 x.2.1,.int .i64 x.2.2.1,.int .u8 x.2.2.2.1,.sl uB x.2.2.2.2]),(4,.var [.bool false,.int .i64 0,.int .u8 (gtB x.2.2.2.2 i.toNat)])])))):=by kernel_rfl
theorem vc_rs (li:Bool) (m o:Int) (l:List OpT) (Q:QT) (R:RT):sy tt G0 CSm Tryz.f33.ntmps Tryz.f33.results.toList Q (fun it S=>R it (keepS [1,4,5,6] [1,10,37] S)) 1000 [.code (bodyOf Tryz.f33)] (entry [paS] ((li,m,o,l),())) =
  (ctRi.pre ((li,m,o,l),()) ∧
 bc (!decide ((chkV (li,m,o,l)).2=(0:Int))) (Q [.nils,.int .i64 60] [(1,.var [.bool li,.int .i64 m,.int .i64 o,.sl opS l])]) (R (hd Tryz.f33 0) { env:=[(1,.ptr 1 0),(4,.win true syS 10 0 (0:Nat)),(5,.int .i64 0)],blk:=[(1,.var [.bool li,.int .i64 m,.int .i64 o,.sl opS l]),(10,.row 83 syS (List.replicate (0:Nat) syS.dflt))] })):=by kernel_rfl
theorem vc_rsO (li:Bool) (m o:Int) (l:List OpT) (s:List SyT) (i:Nat) (Q:QT) (R:RT):sy tt G0 CSm Tryz.f33.ntmps Tryz.f33.results.toList Q (fun it S=>R it (keepS [1,4,5,6] [1,10,37] S)) 1000 (hd Tryz.f33 0) ⟨[(1,.ptr 1 0),(4,.win true syS 10 0 s.length),(5,.int .i64 (i:Nat))],[(1,.var [.bool li,.int .i64 m,.int .i64 o,.sl opS l]),(10,.row 83 syS s)]⟩ =
  (bc (decide ((i:Int)<(l.length:Int))) (R (hd Tryz.f33 1) { env:=[(1,.ptr 1 0),(4,.win true syS 10 0 s.length),(5,.int .i64 (i:Int)),(6,.int .i64 0)],blk:=[(1,.var [.bool li,.int .i64 m,.int .i64 o,.sl opS l]),(10,.row 83 syS s)] }) (Q [.win true syS 10 0 s.length,.int .i64 0] [(1,.var [.bool li,.int .i64 m,.int .i64 o,.sl opS l]),(10,.row 83 syS s)])):=by kernel_rfl
theorem vc_rsI (li:Bool) (m o:Int) (l:List OpT) (s:List SyT) (i k:Nat) (Q:QT) (R:RT):sy tt G0 CSm Tryz.f33.ntmps Tryz.f33.results.toList Q (fun it S=>R it (keepS [1,4,5,6] [1,10,37] S)) 1000 (hd Tryz.f33 1) ⟨[(1,.ptr 1 0),(4,.win true syS 10 0 s.length),(5,.int .i64 (i:Nat)),(6,.int .i64 (k:Nat))],[(1,.var [.bool li,.int .i64 m,.int .i64 o,.sl opS l]),(10,.row 83 syS s)]⟩ =
  ((0:Int)≤(i:Int) ∧
 (i:Int)<(l.length:Int) ∧
 bc (decide ((k:Int)<(gtO l (i:Int).toNat).2.2.1)) ((0:Int)≤(i:Int) ∧
 (i:Int)<(l.length:Int) ∧
 ctSb.pre ((gtO l (i:Int).toNat),(k:Int),()) ∧
 0+(1:Nat)≤([(elO (Int.toNat (gtO l (i:Int).toNat).1) (gtO l (i:Int).toNat) (k:Int).toNat)]:List syS.D).length ∧
 s.length=s.length ∧
 (0:Nat)=(0:Nat) ∧
 s.length+(([(elO (Int.toNat (gtO l (i:Int).toNat).1) (gtO l (i:Int).toNat) (k:Int).toNat)]:List syS.D)).length<(2:Nat) ^ (30:Nat) ∧
 (24:Nat)≤(2:Nat) ^ (10:Nat) ∧
 R (hd Tryz.f33 1) { env:=[(1,.ptr 1 0),(4,.win true syS 37 0 (s.length+(([(elO (Int.toNat (gtO l (i:Int).toNat).1) (gtO l (i:Int).toNat) (k:Int).toNat)]:List syS.D)).length)),(5,.int .i64 (i:Int)),(6,.int .i64 (IntKind.i64.wrap ((k:Int)+(1:Int))))],blk:=[(1,.var [.bool li,.int .i64 m,.int .i64 o,.sl opS l]),(37,.row 83 syS (s++([(elO (Int.toNat (gtO l (i:Int).toNat).1) (gtO l (i:Int).toNat) (k:Int).toNat)]:List syS.D)))] }) (R (hd Tryz.f33 0) { env:=[(1,.ptr 1 0),(4,.win true syS 10 0 s.length),(5,.int .i64 (IntKind.i64.wrap ((i:Int)+(1:Int)))),(6,.int .i64 (k:Int))],blk:=[(1,.var [.bool li,.int .i64 m,.int .i64 o,.sl opS l]),(10,.row 83 syS s)] })):=by kernel_rfl
end Go.Proofs.YtncocpjkaggnjaaGreatDoor
namespace Go.Proofs.YtncocpjkaggnjaaGreatDoor
open Go.Px Go.Ax
set_option maxRecDepth 100000
attribute [local irreducible] Go.Px.sy Go.Px.syE
theorem sb_run (k f n b i:Int) (d:List Int) (hp:preSb (k,f,n,b,d) i) (R:List Item→PS→Prop):sy tt G0 [] Tryz.f68.ntmps Tryz.f68.results.toList (QC ctSb ((k,f,n,b,d),i,())) R 1000 [.code (bodyOf Tryz.f68)] (entry [opS,iI] ((k,f,n,b,d),i,())):=by
 obtain ⟨hk,h0,hd⟩:=hp
 have out:∀ s,elO k.toNat ((k,f,n,b,d):OpT) i.toNat=s→ctSb.out ((k,f,n,b,d),i,())=[syV s]:=fun s e=>congrArg (fun s=>[syV s]) e
 have hi:((i.toNat:Nat):Int)=i:=by omega
 refine (vc_sb (k,f,n,b,d) i _ _).mpr ?_
 rcases hk with e | e | e | e
 ·have e:k=1:=e
  subst e
  refine QC.flat (out (true,IntKind.i64.wrap (f+i),0) ?_) rfl rfl
  show ((true,IntKind.i64.wrap (f+(i.toNat:Int)),0):SyT)=_
  rw[hi]
 ·have e:k=2:=e
  subst e
  have hd2:i<(d.length:Int):=hd (.inl rfl)
  refine ⟨h0,hd2,QC.flat (out (true,IntKind.i64.wrap (f+i),gtB d i.toNat) ?_) rfl rfl⟩
  show ((true,IntKind.i64.wrap (f+(i.toNat:Int)),gtB d i.toNat):SyT)=_
  rw[hi]
 ·have e:k=3:=e
  subst e
  exact QC.flat (out _ rfl) rfl rfl
 ·have e:k=4:=e
  subst e
  have hd2:i<(d.length:Int):=hd (.inr rfl)
  exact ⟨h0,hd2,QC.flat (out _ rfl) rfl rfl⟩
theorem sb_held:Held Tryz.prog G0 68 ctSb:=Held.run cx0 (fn:=Tryz.f68) rfl rfl ⟨by decide,by decide⟩ fun ⟨⟨k,f,n,b,d⟩,i,_⟩ hp=>sb_run k f n b i d hp _
theorem cxSm2:CxOK Tryz.prog tt G0 CSm:=(cx0.cons sb_held (fn:=Tryz.f68) rfl rfl rfl).cons right_held (fn:=Tryz.f31) rfl rfl rfl
section
variable (li:Bool) (m o:Int) (l:List OpT) (hc:(chkV (li,m,o,l)).2=0)
abbrev RsQ:List SV→List (Nat × LB)→Prop:=QC ctSym ((li,m,o,l),())
include hc
theorem rs_inner (i:Nat) (hi:i<l.length) (nx:GD 33 Tryz.f33 (RsQ li m o l) (hd Tryz.f33 0) ⟨[(1,.ptr 1 0),(4,.win true syS 10 0 (symF (l.take (i+1))).length),(5,.int .i64 ((i+1:Nat):Int))],[(1,.var [.bool li,.int .i64 m,.int .i64 o,.sl opS l]),(10,.row 83 syS (symF (l.take (i+1))))]⟩) :
  ∀ (c k:Nat),l[i].2.2.1.toNat-k=c→k≤l[i].2.2.1.toNat →
  GD 33 Tryz.f33 (RsQ li m o l) (hd Tryz.f33 1) ⟨[(1,.ptr 1 0),(4,.win true syS 10 0 (symF (l.take i)++(symsO l[i].1.toNat l[i]).take k).length),(5,.int .i64 (i:Nat)),(6,.int .i64 (k:Nat))],[(1,.var [.bool li,.int .i64 m,.int .i64 o,.sl opS l]),(10,.row 83 syS (symF (l.take i)++(symsO l[i].1.toNat l[i]).take k))]⟩:=by
 obtain ⟨hr,hs,ho,hl⟩:=chkV_ok hc
 have hl:l.length≤4096:=hl
 have hx:=hr _ (List.getElem_mem hi)
 have hlx:=isRB_len hx
 obtain ⟨k4,hcn⟩:=isRB_kind hx
 have sl:(symsO l[i].1.toNat l[i]).length=cntO l[i].1.toNat l[i]:=gen_len ..
 have hsf:(symF (l.take i)).length≤65536:=by
  have h1:=symF_len (m:=m) (l:=l.take i) fun y hy=>hr y (List.mem_of_mem_take hy)
  have h2:lenS l=lenS (l.take i)+lenS (l.drop i):=by rw[← lenS_app,List.take_append_drop]
  have h3:=lenS_pos (m:=m) (l:=l.drop i) fun y hy=>hr y (List.mem_of_mem_drop hy)
  have ho2:o≤65536:=ho.2
  have hs2:lenS l=o:=hs
  omega
 have ht:symF (l.take (i+1))=symF (l.take i)++symsO l[i].1.toNat l[i]:=by
  rw[List.take_succ_eq_append_getElem hi,symF_app]
  simp[symF]
 intro c
 induction c with
 | zero=>
  intro k hk hk2
  have hk:k=l[i].2.2.1.toNat:=by omega
  have e:(symsO l[i].1.toNat l[i]).take k=symsO l[i].1.toNat l[i]:=List.take_of_length_le (by omega)
  rw[e,← ht]
  refine sy_goK cxSm2 (vc_rsI li m o l (symF (l.take (i+1))) i k _ _) ?_
  rw[Int.toNat_natCast,gtO_at hi,decide_eq_false (by omega),bc_f,IntWalk.i64_in ((i:Int)+1) (by omega)]
  exact ⟨by omega,by omega,nx.only ⟨rfl,rfl,rfl,trivial⟩ ⟨rfl,rfl,trivial⟩⟩
 | succ c ih=>
  intro k hk hk2
  have hk3:k<cntO l[i].1.toNat l[i]:=by omega
  have nk:=ih (k+1) (by omega) (by omega)
  have e:(symsO l[i].1.toNat l[i]).take (k+1)=(symsO l[i].1.toNat l[i]).take k++[elO l[i].1.toNat l[i] k]:=by
   rw[List.take_succ_eq_append_getElem (by omega)]
   congr 2
   have:=gen_get (elO l[i].1.toNat l[i]) (cntO l[i].1.toNat l[i]) 0 k hk3
   rw[Nat.zero_add] at this
   have h2:(symsO l[i].1.toNat l[i])[k]?=some (elO l[i].1.toNat l[i] k):=this
   rw[List.getElem?_eq_getElem (by omega)] at h2
   exact Option.some.inj h2
  rw[e,← List.append_assoc] at nk
  have tl:((symsO l[i].1.toNat l[i]).take k).length≤65536:=by rw[List.length_take];omega
  have pre:preSb l[i] (k:Int):=⟨k4,by omega,fun h=>by
   have:cntO l[i].1.toNat l[i]=l[i].2.2.2.2.length:=by rcases h with h | h <;> (rw[h];rfl)
   omega⟩
  generalize hss:symF (l.take i)++(symsO l[i].1.toNat l[i]).take k=ss at *
  have hsl:ss.length≤131072:=by rw[← hss,List.length_append];omega
  refine sy_goK cxSm2 (vc_rsI li m o l ss i k _ _) ?_
  rw[Int.toNat_natCast,gtO_at hi,decide_eq_true (show (k:Int)<l[i].2.2.1 by omega),bc_t,IntWalk.i64_in ((k:Int)+1) (by omega),Int.toNat_natCast]
  refine ⟨by omega,by omega,by omega,by omega,pre,Nat.le_refl 1,rfl,rfl,?_,by decide,?_⟩
  ·show ss.length+1<2 ^ 30
   show ss.length+1<1073741824
   omega
  ·exact nk.onlyR [(10,37)] rfl ⟨rfl,by rw[List.length_append];rfl,rfl,rfl,trivial⟩ ⟨rfl,rfl,trivial⟩
theorem rs_outer:∀ (c i:Nat),l.length-i=c→i≤l.length →
  GD 33 Tryz.f33 (RsQ li m o l) (hd Tryz.f33 0) ⟨[(1,.ptr 1 0),(4,.win true syS 10 0 (symF (l.take i)).length),(5,.int .i64 (i:Nat))],[(1,.var [.bool li,.int .i64 m,.int .i64 o,.sl opS l]),(10,.row 83 syS (symF (l.take i)))]⟩:=by
 have hv:symV (li,m,o,l)=(symF l,0):=by unfold symV;rw[if_pos hc]
 intro c
 induction c with
 | zero=>
  intro i hc2 hi
  refine sy_goK cxSm2 (vc_rsO li m o l (symF (l.take i)) i _ _) ?_
  rw[decide_eq_false (by omega),bc_f,List.take_of_length_le (by omega)]
  refine qc_rowI (e:=syS) (et:=83) (a:=10) (z:=0) (xs:=symF l) ?_ ?_ rfl rfl rfl
  ·show [SV.win true syS 0 0 (symV (li,m,o,l)).1.length,.int .i64 (symV (li,m,o,l)).2]=_
   rw[hv]
  ·show [LB.row 83 syS (symV (li,m,o,l)).1]=_
   rw[hv]
 | succ c ih=>
  intro i hc2 hi
  have hil:i<l.length:=by omega
  refine sy_goK cxSm2 (vc_rsO li m o l (symF (l.take i)) i _ _) ?_
  rw[decide_eq_true (show (i:Int)<(l.length:Int) by omega),bc_t]
  have h:=rs_inner li m o l hc i hil (ih (i+1) (by omega) (by omega)) _ 0 rfl (Nat.zero_le _)
  rw[List.take_zero,List.append_nil] at h
  exact h.only ⟨rfl,rfl,rfl,rfl,trivial⟩ ⟨rfl,rfl,trivial⟩
end
theorem rs_held:Held Tryz.prog G0 33 ctSym:=Held.of cxSm2 (fn:=Tryz.f33) rfl rfl ⟨by decide,by decide⟩ fun ⟨⟨li,m,o,l⟩,_⟩ _=>by
 refine sy_goK cxSm2 (vc_rs li m o l _ _) ⟨trivial,bc_of (fun h=>?_) (fun h=>?_)⟩
 ·have h:¬ (chkV (li,m,o,l)).2=0:=by
   have h:(!decide ((chkV (li,m,o,l)).2=0))=true:=h
   simpa using h
  have h6:(chkV (li,m,o,l)).2=60:=by rcases chkV60 (li,m,o,l) with q | q;exact absurd q h;exact q
  have hv:symV (li,m,o,l)=([],60):=by unfold symV;rw[if_neg h,h6]
  refine qc_nilI (e:=syS) (et:=83) (z:=60) ?_ ?_ rfl (by decide)
  ·show [SV.win true syS 0 0 (symV (li,m,o,l)).1.length,.int .i64 (symV (li,m,o,l)).2]=_
   rw[hv];rfl
  ·show [LB.row 83 syS (symV (li,m,o,l)).1]=_
   rw[hv]
 ·have h:(chkV (li,m,o,l)).2=0:=by
   have h:(!decide ((chkV (li,m,o,l)).2=0))=false:=h
   simpa using h
  exact (rs_outer li m o l h _ 0 rfl (Nat.zero_le _)).only ⟨rfl,rfl,rfl,trivial⟩ ⟨rfl,rfl,trivial⟩
end Go.Proofs.YtncocpjkaggnjaaGreatDoor
namespace Go.Proofs.YtncocpjkaggnjaaGreatDoor
open Go.Px Go.Ax
set_option maxRecDepth 100000
set_option maxRecDepth 100000
end Go.Proofs.YtncocpjkaggnjaaGreatDoor
namespace Go.Proofs.YtncocpjkaggnjaaGreatDoor
open Go.Px Go.Ax
set_option maxRecDepth 100000
attribute [local irreducible] Go.Px.sy Go.Px.syE
theorem elO_sOK {x:OpT} {m:Int} (h:isRB x m=true) (h0:0≤m) (hm:m<16777216) {k:Nat} (hk:(k:Int)<x.2.2.1):sOK m (elO x.1.toNat x k)=true:=by
 have pp:=isRB_part h ⟨h0,hm⟩
 rcases (isRB_kind h).1 with e | e | e | e
 ·rw[e]
  have pp:=pp (.inl e)
  show sOK m (true,IntKind.i64.wrap (x.2.1+(k:Int)),0)=true
  rw[IntWalk.i64_in _ (by omega)]
  simp[sOK];omega
 ·rw[e]
  have pp:=pp (.inr e)
  show sOK m (true,IntKind.i64.wrap (x.2.1+(k:Int)),gtB x.2.2.2.2 k)=true
  rw[IntWalk.i64_in _ (by omega)]
  simp[sOK];omega
 ·rw[e];rfl
 ·rw[e];rfl
theorem sym_sOK {m:Int} (h0:0≤m) (hm:m<16777216) {l:List OpT} (hr:∀ x∈l,isRB x m=true):∀ s∈symF l,sOK m s=true:=fun s hs=>by
 obtain ⟨x,hx,k,hk,e⟩:=sym_mem hr s hs
 rw[e]
 exact elO_sOK (hr x hx) h0 hm hk
theorem chkV_in {p:PaT} (h:(chkV p).2=0):0≤p.2.1∧p.2.1≤65536:=by
 unfold chkV at h
 split at h
 ·rename_i q;exact szB_le q.1
 ·cases h
theorem symV_ok {p:PaT} (h:(symV p).2=0):(chkV p).2=0∧(symV p).1=symF p.2.2.2:=by
 unfold symV at h ⊢
 split at h
 ·rename_i q;rw[if_pos q];exact ⟨q,rfl⟩
 ·rename_i q;exact absurd h q
theorem symV_right {p:PaT} (h:(symV p).2=0):(∀ s∈(symV p).1,sOK p.2.1 s=true)∧(0≤p.2.1∧p.2.1≤65536)∧((symV p).1.length:Int)=p.2.2.1:=by
 obtain ⟨h1,h2⟩:=symV_ok h
 obtain ⟨hr,hs,ho,hl⟩:=chkV_ok h1
 have hi:=chkV_in h1
 rw[h2]
 exact ⟨sym_sOK hi.1 (by omega) hr,hi,by rw[symF_len hr,hs]⟩
end Go.Proofs.YtncocpjkaggnjaaGreatDoor
namespace Go.Proofs.YtncocpjkaggnjaaGreatDoor
open Go.Px Go.Ax
set_option maxRecDepth 100000
def CQ:CV:=[(45,.inl ctPl),(15,.inl ctSym)]
theorem cxQ:CxOK Tryz.prog tt G0 CQ:=(cx0.cons sym_held (fn:=Tryz.f15) rfl rfl rfl).cons pl_held (fn:=Tryz.f45) rfl rfl rfl
set_option maxRecDepth 100000
theorem vc_apply (old:List Int) (li:Bool) (m o:Int) (l:List OpT) (Q:QT) (R:RT):sy tt G0 CQ Tryz.f14.ntmps Tryz.f14.results.toList Q R 1000 [.code (bodyOf Tryz.f14)] (entry [.sl uB,paS] (old,(li,m,o,l),())) =
  (ctSym.pre ((li,m,o,l),()) ∧
 bc (decide ((symV (li,m,o,l)).2≠(0:Int))) (Q [.nils,.int .i64 (symV (li,m,o,l)).2] [(3,.var [.bool li,.int .i64 m,.int .i64 o,.sl opS l]),(1040960,.row 83 syS (symV (li,m,o,l)).1)]) (bc li False ((0:Nat)+(symV (li,m,o,l)).1.length≤(symV (li,m,o,l)).1.length ∧
 ctPl.pre (old,m,winL syS 0 (symV (li,m,o,l)).1.length (symV (li,m,o,l)).1,()) ∧
 Q [.win true uB 1118784 0 (plV old m (winL syS 0 (symV (li,m,o,l)).1.length (symV (li,m,o,l)).1)).1.length,.int .i64 (plV old m (winL syS 0 (symV (li,m,o,l)).1.length (symV (li,m,o,l)).1)).2] [(3,.var [.bool li,.int .i64 m,.int .i64 o,.sl opS l]),(1040960,.row 83 syS (symV (li,m,o,l)).1),(1118784,.row 5 uB (plV old m (winL syS 0 (symV (li,m,o,l)).1.length (symV (li,m,o,l)).1)).1)]))):=by kernel_rfl
end Go.Proofs.YtncocpjkaggnjaaGreatDoor
namespace Go.Proofs.YtncocpjkaggnjaaGreatDoor
open Go.Px Go.Ax
set_option maxRecDepth 100000
attribute [local irreducible] Go.Px.sy Go.Px.syE
def apV (old:List Int) (p:PaT):List Int × Int:=if (symV p).2=0 then plV old p.2.1 (symV p).1 else ([],(symV p).2)
def ctAp:Ctr:=⟨[.sl uB,paS],fun x=>x.2.1.1=false,fun x=>[.win true uB 0 0 (apV x.1 x.2.1).1.length,.int .i64 (apV x.1 x.2.1).2],fun x=>[.row 5 uB (apV x.1 x.2.1).1]⟩
theorem ap_held:Held Tryz.prog G0 14 ctAp:=by
 refine Held.run cxQ (fn:=Tryz.f14) rfl rfl ⟨by decide,by decide⟩ ?_
 rintro ⟨old,⟨li,m,o,l⟩,⟨⟩⟩ hp
 replace hp:li=false:=hp
 subst hp
 refine (vc_apply old false m o l _ _).mpr ⟨trivial,bc_of (fun h=>?_) (fun h=>?_)⟩
 ·have h:(symV (false,m,o,l)).2≠0:=of_decide_eq_true h
  have hv:apV old (false,m,o,l)=([],(symV (false,m,o,l)).2):=if_neg h
  refine qc_nilI (e:=uB) (et:=5) (z:=(symV (false,m,o,l)).2) ?_ ?_ rfl (by decide)
  ·show [_,_]=_;rw[hv];rfl
  ·show [_]=_;rw[hv]
 ·have h:¬ (symV (false,m,o,l)).2≠0:=of_decide_eq_false h
  have h:(symV (false,m,o,l)).2=0:=by simpa using h
  have hv:apV old (false,m,o,l)=plV old m (symV (false,m,o,l)).1:=if_pos h
  have hl:=symV_len (false,m,o,l)
  have hw:winL syS 0 (symV (false,m,o,l)).1.length (symV (false,m,o,l)).1=(symV (false,m,o,l)).1:=winA (e:=syS) _
  rw[bc_f,hw]
  refine ⟨Nat.le_of_eq (Nat.zero_add _),hl,?_⟩
  refine qc_rowI (e:=uB) (et:=5) (a:=1118784) (z:=(plV old m (symV (false,m,o,l)).1).2) (xs:=(plV old m (symV (false,m,o,l)).1).1) ?_ ?_ rfl rfl rfl
  ·show [_,_]=_;rw[hv]
  ·show [_]=_;rw[hv]
end Go.Proofs.YtncocpjkaggnjaaGreatDoor
namespace Go.Proofs.YtncocpjkaggnjaaGreatDoor
open Go.Px Go.Ax
set_option maxRecDepth 100000
set_option maxRecDepth 100000
theorem vc_kp (l:List SyT) (Q:QT) (R:RT):sy tt G0 [] Tryz.f61.ntmps Tryz.f61.results.toList Q R 1000 [.code (bodyOf Tryz.f61)] (entryI [.row 83 syS] (l,())) =
  (R (hd Tryz.f61 0) { env:=[(0,.win true syS 1099511627776 0 l.length),(2,SV.nilm),(3,.mp (8:Nat)),(8,.mp (8:Nat)),(9,.win true syS 1099511627776 0 l.length),(10,.int .i64 (l.length:Int)),(11,.int .i64 0)],blk:=[(8,.mp iI syS []),(1099511627776,.row 83 syS l)] }):=by kernel_rfl
theorem vc_is (b:List Int) (o:List (Int × SyT)) (Q:QT) (R:RT):sy tt G0 [] Tryz.f59.ntmps Tryz.f59.results.toList Q R 1000 [.code (bodyOf Tryz.f59)] (entryI [.dat (.sl uB),.map iI syS] (b,o,())) =
  ((0:Int)≤(b.length:Int) ∧
 (b.length:Int)≤(b.length:Int) ∧
 (b.length:Int)<(2:Int) ^ (24:Nat) ∧
 (↑(24:Nat):Int)*(b.length:Int)≤(2:Int) ^ (48:Nat) ∧
 R (hd Tryz.f59 0) { env:=[(0,.sl uB b),(1,.mp (1099511627776:Nat)),(4,.nils),(5,.win true syS 12 0 (b.length:Int).toNat),(10,.sl uB b),(11,.int .i64 (b.length:Int)),(12,.win true syS 12 0 (b.length:Int).toNat),(13,.sl uB b),(14,.int .i64 (b.length:Int)),(15,.int .i64 0)],blk:=[(12,.row 83 syS (List.replicate (b.length:Int).toNat syS.dflt)),(1099511627776,.mp iI syS o)] }):=by kernel_rfl
end Go.Proofs.YtncocpjkaggnjaaGreatDoor
namespace Go.Proofs.YtncocpjkaggnjaaGreatDoor
open Go.Px Go.Ax
set_option maxRecDepth 100000
set_option maxRecDepth 100000
theorem vc_kpL (l:List SyT) (o:List (Int × SyT)) (i:Int) (Q:QT) (R:RT):sy tt G0 [] Tryz.f61.ntmps Tryz.f61.results.toList Q R 1000 (hd Tryz.f61 0) ⟨[(3,.mp 8),(9,.win true syS 1099511627776 0 l.length),(10,.int .i64 l.length),(11,.int .i64 i)],[(8,.mp iI syS o),(1099511627776,.row 83 syS l)]⟩ =
  (bc (decide (i<(l.length:Int))) ((0:Int)≤i ∧
 i<(l.length:Int) ∧
 0+i.toNat<l.length ∧
 bc (gtY l (0+i.toNat)).1 (bc (bif true then !(getM (κ:=iI) (σ:=syS) o (gtY l (0+i.toNat)).2.1).isSome else false) (R (hd Tryz.f61 0) { env:=[(3,.mp (8:Nat)),(4,.int .i64 i),(5,.ptr 5 0),(6,.ptr 6 0),(7,.bool (getM (κ:=iI) (σ:=syS) o (gtY l (0+i.toNat)).2.1).isSome),(9,.win true syS 1099511627776 0 l.length),(10,.int .i64 (l.length:Int)),(11,.int .i64 (IntKind.i64.wrap (i+(1:Int)))),(12,.bool (decide (i<(l.length:Int)))),(13,.int .i64 i),(14,.elp syS (1099511627776:Nat) (0+i.toNat) (0:Nat)),(15,.agg [.bool (gtY l (0+i.toNat)).1,.int .i64 (gtY l (0+i.toNat)).2.1,.int .u8 (gtY l (0+i.toNat)).2.2]),(16,SV.tup [.agg [.bool ((getM (κ:=iI) (σ:=syS) o (gtY l (0+i.toNat)).2.1).getD syS.dflt).1,.int .i64 ((getM (κ:=iI) (σ:=syS) o (gtY l (0+i.toNat)).2.1).getD syS.dflt).2.1,.int .u8 ((getM (κ:=iI) (σ:=syS) o (gtY l (0+i.toNat)).2.1).getD syS.dflt).2.2],.bool (getM (κ:=iI) (σ:=syS) o (gtY l (0+i.toNat)).2.1).isSome]),(17,.mp (8:Nat)),(18,.ptr 5 1),(19,.int .i64 (gtY l (0+i.toNat)).2.1),(20,SV.tup [.agg [.bool ((getM (κ:=iI) (σ:=syS) o (gtY l (0+i.toNat)).2.1).getD syS.dflt).1,.int .i64 ((getM (κ:=iI) (σ:=syS) o (gtY l (0+i.toNat)).2.1).getD syS.dflt).2.1,.int .u8 ((getM (κ:=iI) (σ:=syS) o (gtY l (0+i.toNat)).2.1).getD syS.dflt).2.2],.bool (getM (κ:=iI) (σ:=syS) o (gtY l (0+i.toNat)).2.1).isSome]),(21,.agg [.bool ((getM (κ:=iI) (σ:=syS) o (gtY l (0+i.toNat)).2.1).getD syS.dflt).1,.int .i64 ((getM (κ:=iI) (σ:=syS) o (gtY l (0+i.toNat)).2.1).getD syS.dflt).2.1,.int .u8 ((getM (κ:=iI) (σ:=syS) o (gtY l (0+i.toNat)).2.1).getD syS.dflt).2.2]),(22,.bool (getM (κ:=iI) (σ:=syS) o (gtY l (0+i.toNat)).2.1).isSome),(23,.ptr 5 0),(24,.bool (gtY l (0+i.toNat)).1),(25,.bool true),(26,.bool (getM (κ:=iI) (σ:=syS) o (gtY l (0+i.toNat)).2.1).isSome),(27,.bool !(getM (κ:=iI) (σ:=syS) o (gtY l (0+i.toNat)).2.1).isSome),(28,.bool (bif true then !(getM (κ:=iI) (σ:=syS) o (gtY l (0+i.toNat)).2.1).isSome else false)),(29,.mp (8:Nat)),(30,.ptr 5 1),(31,.int .i64 (gtY l (0+i.toNat)).2.1),(32,.int .i64 i),(33,.ptr 5 2),(34,.int .u8 (gtY l (0+i.toNat)).2.2),(35,.int .u8 (IntKind.u8.wrap ((0:Int)-(gtY l (0+i.toNat)).2.2))),(36,.agg [.bool true,.int .i64 i,.int .u8 (IntKind.u8.wrap ((0:Int)-(gtY l (0+i.toNat)).2.2))]),(37,.int .i64 (IntKind.i64.wrap (i+(1:Int))))],blk:=[(5,.var [.bool (gtY l (0+i.toNat)).1,.int .i64 (gtY l (0+i.toNat)).2.1,.int .u8 (gtY l (0+i.toNat)).2.2]),(6,.var [.bool ((getM (κ:=iI) (σ:=syS) o (gtY l (0+i.toNat)).2.1).getD syS.dflt).1,.int .i64 ((getM (κ:=iI) (σ:=syS) o (gtY l (0+i.toNat)).2.1).getD syS.dflt).2.1,.int .u8 ((getM (κ:=iI) (σ:=syS) o (gtY l (0+i.toNat)).2.1).getD syS.dflt).2.2]),(8,.mp iI syS (updM (κ:=iI) (σ:=syS) o (gtY l (0+i.toNat)).2.1 (true,i,IntKind.u8.wrap ((0:Int)-(gtY l (0+i.toNat)).2.2)))),(1099511627776,.row 83 syS l)] }) (R (hd Tryz.f61 0) { env:=[(3,.mp (8:Nat)),(4,.int .i64 i),(5,.ptr 5 0),(6,.ptr 6 0),(7,.bool (getM (κ:=iI) (σ:=syS) o (gtY l (0+i.toNat)).2.1).isSome),(9,.win true syS 1099511627776 0 l.length),(10,.int .i64 (l.length:Int)),(11,.int .i64 (IntKind.i64.wrap (i+(1:Int)))),(12,.bool (decide (i<(l.length:Int)))),(13,.int .i64 i),(14,.elp syS (1099511627776:Nat) (0+i.toNat) (0:Nat)),(15,.agg [.bool (gtY l (0+i.toNat)).1,.int .i64 (gtY l (0+i.toNat)).2.1,.int .u8 (gtY l (0+i.toNat)).2.2]),(16,SV.tup [.agg [.bool ((getM (κ:=iI) (σ:=syS) o (gtY l (0+i.toNat)).2.1).getD syS.dflt).1,.int .i64 ((getM (κ:=iI) (σ:=syS) o (gtY l (0+i.toNat)).2.1).getD syS.dflt).2.1,.int .u8 ((getM (κ:=iI) (σ:=syS) o (gtY l (0+i.toNat)).2.1).getD syS.dflt).2.2],.bool (getM (κ:=iI) (σ:=syS) o (gtY l (0+i.toNat)).2.1).isSome]),(17,.mp (8:Nat)),(18,.ptr 5 1),(19,.int .i64 (gtY l (0+i.toNat)).2.1),(20,SV.tup [.agg [.bool ((getM (κ:=iI) (σ:=syS) o (gtY l (0+i.toNat)).2.1).getD syS.dflt).1,.int .i64 ((getM (κ:=iI) (σ:=syS) o (gtY l (0+i.toNat)).2.1).getD syS.dflt).2.1,.int .u8 ((getM (κ:=iI) (σ:=syS) o (gtY l (0+i.toNat)).2.1).getD syS.dflt).2.2],.bool (getM (κ:=iI) (σ:=syS) o (gtY l (0+i.toNat)).2.1).isSome]),(21,.agg [.bool ((getM (κ:=iI) (σ:=syS) o (gtY l (0+i.toNat)).2.1).getD syS.dflt).1,.int .i64 ((getM (κ:=iI) (σ:=syS) o (gtY l (0+i.toNat)).2.1).getD syS.dflt).2.1,.int .u8 ((getM (κ:=iI) (σ:=syS) o (gtY l (0+i.toNat)).2.1).getD syS.dflt).2.2]),(22,.bool (getM (κ:=iI) (σ:=syS) o (gtY l (0+i.toNat)).2.1).isSome),(23,.ptr 5 0),(24,.bool (gtY l (0+i.toNat)).1),(25,.bool true),(26,.bool (getM (κ:=iI) (σ:=syS) o (gtY l (0+i.toNat)).2.1).isSome),(27,.bool !(getM (κ:=iI) (σ:=syS) o (gtY l (0+i.toNat)).2.1).isSome),(28,.bool (bif true then !(getM (κ:=iI) (σ:=syS) o (gtY l (0+i.toNat)).2.1).isSome else false)),(37,.int .i64 (IntKind.i64.wrap (i+(1:Int))))],blk:=[(5,.var [.bool (gtY l (0+i.toNat)).1,.int .i64 (gtY l (0+i.toNat)).2.1,.int .u8 (gtY l (0+i.toNat)).2.2]),(6,.var [.bool ((getM (κ:=iI) (σ:=syS) o (gtY l (0+i.toNat)).2.1).getD syS.dflt).1,.int .i64 ((getM (κ:=iI) (σ:=syS) o (gtY l (0+i.toNat)).2.1).getD syS.dflt).2.1,.int .u8 ((getM (κ:=iI) (σ:=syS) o (gtY l (0+i.toNat)).2.1).getD syS.dflt).2.2]),(8,.mp iI syS o),(1099511627776,.row 83 syS l)] })) (false=false ∧
 R (hd Tryz.f61 0) { env:=[(3,.mp (8:Nat)),(4,.int .i64 i),(5,.ptr 5 0),(6,.ptr 6 0),(7,.bool (getM (κ:=iI) (σ:=syS) o (gtY l (0+i.toNat)).2.1).isSome),(9,.win true syS 1099511627776 0 l.length),(10,.int .i64 (l.length:Int)),(11,.int .i64 (IntKind.i64.wrap (i+(1:Int)))),(12,.bool (decide (i<(l.length:Int)))),(13,.int .i64 i),(14,.elp syS (1099511627776:Nat) (0+i.toNat) (0:Nat)),(15,.agg [.bool (gtY l (0+i.toNat)).1,.int .i64 (gtY l (0+i.toNat)).2.1,.int .u8 (gtY l (0+i.toNat)).2.2]),(16,SV.tup [.agg [.bool ((getM (κ:=iI) (σ:=syS) o (gtY l (0+i.toNat)).2.1).getD syS.dflt).1,.int .i64 ((getM (κ:=iI) (σ:=syS) o (gtY l (0+i.toNat)).2.1).getD syS.dflt).2.1,.int .u8 ((getM (κ:=iI) (σ:=syS) o (gtY l (0+i.toNat)).2.1).getD syS.dflt).2.2],.bool (getM (κ:=iI) (σ:=syS) o (gtY l (0+i.toNat)).2.1).isSome]),(17,.mp (8:Nat)),(18,.ptr 5 1),(19,.int .i64 (gtY l (0+i.toNat)).2.1),(20,SV.tup [.agg [.bool ((getM (κ:=iI) (σ:=syS) o (gtY l (0+i.toNat)).2.1).getD syS.dflt).1,.int .i64 ((getM (κ:=iI) (σ:=syS) o (gtY l (0+i.toNat)).2.1).getD syS.dflt).2.1,.int .u8 ((getM (κ:=iI) (σ:=syS) o (gtY l (0+i.toNat)).2.1).getD syS.dflt).2.2],.bool (getM (κ:=iI) (σ:=syS) o (gtY l (0+i.toNat)).2.1).isSome]),(21,.agg [.bool ((getM (κ:=iI) (σ:=syS) o (gtY l (0+i.toNat)).2.1).getD syS.dflt).1,.int .i64 ((getM (κ:=iI) (σ:=syS) o (gtY l (0+i.toNat)).2.1).getD syS.dflt).2.1,.int .u8 ((getM (κ:=iI) (σ:=syS) o (gtY l (0+i.toNat)).2.1).getD syS.dflt).2.2]),(22,.bool (getM (κ:=iI) (σ:=syS) o (gtY l (0+i.toNat)).2.1).isSome),(23,.ptr 5 0),(24,.bool (gtY l (0+i.toNat)).1),(25,.bool false),(26,SV.tup []),(27,SV.tup []),(28,.bool false),(37,.int .i64 (IntKind.i64.wrap (i+(1:Int))))],blk:=[(5,.var [.bool (gtY l (0+i.toNat)).1,.int .i64 (gtY l (0+i.toNat)).2.1,.int .u8 (gtY l (0+i.toNat)).2.2]),(6,.var [.bool ((getM (κ:=iI) (σ:=syS) o (gtY l (0+i.toNat)).2.1).getD syS.dflt).1,.int .i64 ((getM (κ:=iI) (σ:=syS) o (gtY l (0+i.toNat)).2.1).getD syS.dflt).2.1,.int .u8 ((getM (κ:=iI) (σ:=syS) o (gtY l (0+i.toNat)).2.1).getD syS.dflt).2.2]),(8,.mp iI syS o),(1099511627776,.row 83 syS l)] })) (Q [.mp (8:Nat)] [(8,.mp iI syS o),(1099511627776,.row 83 syS l)])):=by kernel_rfl
theorem vc_isL (b:List Int) (o:List (Int × SyT)) (g:List SyT) (i:Int) (Q:QT) (R:RT):sy tt G0 [] Tryz.f59.ntmps Tryz.f59.results.toList Q R 1000 (hd Tryz.f59 0) ⟨[(1,.mp 1099511627776),(5,.win true syS 12 0 g.length),(13,.sl uB b),(14,.int .i64 b.length),(15,.int .i64 i)],[(12,.row 83 syS g),(1099511627776,.mp iI syS o)]⟩ =
  (bc (decide (i<(b.length:Int))) ((0:Int)≤i ∧
 i<(b.length:Int) ∧
 (0:Int)≤i ∧
 i<(g.length:Int) ∧
 0+i.toNat<g.length ∧
 bc (getM (κ:=iI) (σ:=syS) o i).isSome ((0:Int)≤i ∧
 i<(g.length:Int) ∧
 0+i.toNat<(g.set (0+i.toNat) (false,(0:Int),gtB b i.toNat)).length ∧
 R (hd Tryz.f59 0) { env:=[(1,.mp (1099511627776:Nat)),(5,.win true syS 12 0 g.length),(6,.int .i64 i),(7,.int .u8 (gtB b i.toNat)),(8,.ptr 8 0),(9,.bool (getM (κ:=iI) (σ:=syS) o i).isSome),(13,.sl uB b),(14,.int .i64 (b.length:Int)),(15,.int .i64 (IntKind.i64.wrap (i+(1:Int)))),(16,.bool (decide (i<(b.length:Int)))),(17,.int .i64 i),(18,.elv uB (gtB b i.toNat)),(19,.int .u8 (gtB b i.toNat)),(20,.win true syS 12 0 g.length),(21,.int .i64 i),(22,.int .u8 (gtB b i.toNat)),(23,.agg [.bool false,.int .i64 0,.int .u8 (gtB b i.toNat)]),(24,.elp syS (12:Nat) (0+i.toNat) (0:Nat)),(25,SV.tup [.agg [.bool ((getM (κ:=iI) (σ:=syS) o i).getD syS.dflt).1,.int .i64 ((getM (κ:=iI) (σ:=syS) o i).getD syS.dflt).2.1,.int .u8 ((getM (κ:=iI) (σ:=syS) o i).getD syS.dflt).2.2],.bool (getM (κ:=iI) (σ:=syS) o i).isSome]),(26,.mp (1099511627776:Nat)),(27,.int .i64 i),(28,SV.tup [.agg [.bool ((getM (κ:=iI) (σ:=syS) o i).getD syS.dflt).1,.int .i64 ((getM (κ:=iI) (σ:=syS) o i).getD syS.dflt).2.1,.int .u8 ((getM (κ:=iI) (σ:=syS) o i).getD syS.dflt).2.2],.bool (getM (κ:=iI) (σ:=syS) o i).isSome]),(29,.agg [.bool ((getM (κ:=iI) (σ:=syS) o i).getD syS.dflt).1,.int .i64 ((getM (κ:=iI) (σ:=syS) o i).getD syS.dflt).2.1,.int .u8 ((getM (κ:=iI) (σ:=syS) o i).getD syS.dflt).2.2]),(30,.bool (getM (κ:=iI) (σ:=syS) o i).isSome),(31,.bool (getM (κ:=iI) (σ:=syS) o i).isSome),(32,.win true syS 12 0 g.length),(33,.int .i64 i),(34,.agg [.bool ((getM (κ:=iI) (σ:=syS) o i).getD syS.dflt).1,.int .i64 ((getM (κ:=iI) (σ:=syS) o i).getD syS.dflt).2.1,.int .u8 ((getM (κ:=iI) (σ:=syS) o i).getD syS.dflt).2.2]),(35,.elp syS (12:Nat) (0+i.toNat) (0:Nat)),(36,.int .i64 (IntKind.i64.wrap (i+(1:Int))))],blk:=[(8,.var [.bool ((getM (κ:=iI) (σ:=syS) o i).getD syS.dflt).1,.int .i64 ((getM (κ:=iI) (σ:=syS) o i).getD syS.dflt).2.1,.int .u8 ((getM (κ:=iI) (σ:=syS) o i).getD syS.dflt).2.2]),(12,.row 83 syS ((g.set (0+i.toNat) (false,(0:Int),gtB b i.toNat)).set (0+i.toNat) ((getM (κ:=iI) (σ:=syS) o i).getD syS.dflt))),(1099511627776,.mp iI syS o)] }) (R (hd Tryz.f59 0) { env:=[(1,.mp (1099511627776:Nat)),(5,.win true syS 12 0 g.length),(6,.int .i64 i),(7,.int .u8 (gtB b i.toNat)),(8,.ptr 8 0),(9,.bool (getM (κ:=iI) (σ:=syS) o i).isSome),(13,.sl uB b),(14,.int .i64 (b.length:Int)),(15,.int .i64 (IntKind.i64.wrap (i+(1:Int)))),(16,.bool (decide (i<(b.length:Int)))),(17,.int .i64 i),(18,.elv uB (gtB b i.toNat)),(19,.int .u8 (gtB b i.toNat)),(20,.win true syS 12 0 g.length),(21,.int .i64 i),(22,.int .u8 (gtB b i.toNat)),(23,.agg [.bool false,.int .i64 0,.int .u8 (gtB b i.toNat)]),(24,.elp syS (12:Nat) (0+i.toNat) (0:Nat)),(25,SV.tup [.agg [.bool ((getM (κ:=iI) (σ:=syS) o i).getD syS.dflt).1,.int .i64 ((getM (κ:=iI) (σ:=syS) o i).getD syS.dflt).2.1,.int .u8 ((getM (κ:=iI) (σ:=syS) o i).getD syS.dflt).2.2],.bool (getM (κ:=iI) (σ:=syS) o i).isSome]),(26,.mp (1099511627776:Nat)),(27,.int .i64 i),(28,SV.tup [.agg [.bool ((getM (κ:=iI) (σ:=syS) o i).getD syS.dflt).1,.int .i64 ((getM (κ:=iI) (σ:=syS) o i).getD syS.dflt).2.1,.int .u8 ((getM (κ:=iI) (σ:=syS) o i).getD syS.dflt).2.2],.bool (getM (κ:=iI) (σ:=syS) o i).isSome]),(29,.agg [.bool ((getM (κ:=iI) (σ:=syS) o i).getD syS.dflt).1,.int .i64 ((getM (κ:=iI) (σ:=syS) o i).getD syS.dflt).2.1,.int .u8 ((getM (κ:=iI) (σ:=syS) o i).getD syS.dflt).2.2]),(30,.bool (getM (κ:=iI) (σ:=syS) o i).isSome),(31,.bool (getM (κ:=iI) (σ:=syS) o i).isSome),(36,.int .i64 (IntKind.i64.wrap (i+(1:Int))))],blk:=[(8,.var [.bool ((getM (κ:=iI) (σ:=syS) o i).getD syS.dflt).1,.int .i64 ((getM (κ:=iI) (σ:=syS) o i).getD syS.dflt).2.1,.int .u8 ((getM (κ:=iI) (σ:=syS) o i).getD syS.dflt).2.2]),(12,.row 83 syS (g.set (0+i.toNat) (false,(0:Int),gtB b i.toNat))),(1099511627776,.mp iI syS o)] })) (Q [.win true syS 12 0 g.length] [(12,.row 83 syS g),(1099511627776,.mp iI syS o)])):=by kernel_rfl
theorem vc_isE (b:List Int) (o:List (Int × SyT)) (g:List SyT) (i:Int) (Q:QT) (R:RT):sy tt G0 [] Tryz.f59.ntmps Tryz.f59.results.toList Q R 1000 (hd Tryz.f59 0) ⟨[(1,.mp 1099511627776),(5,.sl syS g),(13,.sl uB b),(14,.int .i64 b.length),(15,.int .i64 i)],[(1099511627776,.mp iI syS o)]⟩ =
  (bc (decide (i<(b.length:Int))) ((0:Int)≤i ∧
 i<(b.length:Int) ∧
 (0:Int)≤i ∧
 i<(g.length:Int) ∧
 False) (Q [.sl syS g] [(1099511627776,.mp iI syS o)])):=by kernel_rfl
end Go.Proofs.YtncocpjkaggnjaaGreatDoor
namespace Go.Proofs.YtncocpjkaggnjaaGreatDoor
open Go.Px Go.Ax
set_option maxRecDepth 100000
attribute [local irreducible] Go.Px.sy Go.Px.syE
theorem mtL_nil {π:Nat→Option Nat}:MtL π [] []:=by simp only[MtL]
theorem mtL_cons {π:Nat→Option Nat} {s t:SV} {l r:List SV} (h1:Mt π s t) (h2:MtL π l r):MtL π (s::l) (t::r):=by simp only[MtL];exact ⟨t,r,rfl,h1,h2⟩
abbrev MpS:Type:=List (Int × SyT)
abbrev gMs (o:MpS) (k:Int):Option SyT:=getM (κ:=iI) (σ:=syS) o k
abbrev uMs (o:MpS) (k:Int) (v:SyT):MpS:=updM (κ:=iI) (σ:=syS) o k v
def ng (b:Int):Int:=IntKind.u8.wrap ((0:Int)-b)
def kpS (i:Nat) (s:SyT) (o:MpS):MpS:=if s.1=true∧(gMs o s.2.1).isSome=false then uMs o s.2.1 (true,(i:Int),ng s.2.2) else o
def kpF:Nat→List SyT→MpS→MpS
 | _,[],o=>o
 | i,s::r,o=>kpF (i+1) r (kpS i s o)
abbrev KpQ (M:MpS):List SV→List (Nat × LB)→Prop:=fun rs blk=>rs=[.mp 8]∧lk blk 8=some (.mp iI syS M)
abbrev kpP (l:List SyT) (o:MpS) (i:Int):PS:=⟨[(3,.mp 8),(9,.win true syS 1099511627776 0 l.length),(10,.int .i64 l.length),(11,.int .i64 i)],[(8,.mp iI syS o),(1099511627776,.row 83 syS l)]⟩
theorem kp_loop (l:List SyT) (hl:l.length<16777216):∀ (k i:Nat) (o:MpS),l.length-i=k→i≤l.length →
  GD 61 Tryz.f61 (KpQ (kpF i (l.drop i) o)) (hd Tryz.f61 0) (kpP l o (i:Nat)):=by
 intro k
 induction k with
 | zero=>
  intro i o hk hi
  refine sy_go cx0 (vc_kpL l o i _ _) ?_
  rw[decide_eq_false (by omega),bc_f,List.drop_of_length_le (by omega)]
  exact ⟨rfl,rfl⟩
 | succ k ih=>
  intro i o hk hi
  have hlt:i<l.length:=by omega
  refine sy_go cx0 (vc_kpL l o i _ _) ?_
  rw[decide_eq_true (show (i:Int)<(l.length:Int) by omega),bc_t,Int.toNat_natCast,IntWalk.i64_in ((i:Int)+1) (by omega),List.drop_eq_getElem_cons hlt,← gtY_at hlt,kpF,Nat.zero_add]
  have nx:=ih (i+1) (kpS i (gtY l i) o) (by omega) (by omega)
  refine ⟨by omega,by omega,hlt,bc_of (fun h1=>bc_of (fun h2=>?_) (fun h2=>?_)) (fun h1=>⟨rfl,?_⟩)⟩
  ·have h2:(gMs o (gtY l i).2.1).isSome=false:=by
    have h2:(!(gMs o (gtY l i).2.1).isSome)=true:=h2
    simpa using h2
   rw[show kpS i (gtY l i) o=uMs o (gtY l i).2.1 (true,(i:Int),ng (gtY l i).2.2) from if_pos ⟨h1,h2⟩] at nx ⊢
   exact nx.only ⟨rfl,rfl,rfl,rfl,trivial⟩ ⟨rfl,rfl,trivial⟩
  ·have h2:¬ (gMs o (gtY l i).2.1).isSome=false:=by
    have h2:(!(gMs o (gtY l i).2.1).isSome)=false:=h2
    intro h3;rw[h3] at h2;exact Bool.noConfusion h2
   rw[show kpS i (gtY l i) o=o from if_neg fun h=>h2 h.2] at nx ⊢
   exact nx.only ⟨rfl,rfl,rfl,rfl,trivial⟩ ⟨rfl,rfl,trivial⟩
  ·rw[show kpS i (gtY l i) o=o from if_neg fun h=>by rw[h1] at h;exact Bool.noConfusion h.1] at nx ⊢
   exact nx.only ⟨rfl,rfl,rfl,rfl,trivial⟩ ⟨rfl,rfl,trivial⟩
abbrev KKp:List AK:=[.row 83 syS]
def ctKp:CtrI:=⟨KKp,fun x=>List.length x.1<16777216,fun _=>[.mp 0],fun x=>[(0,.mp iI syS (kpF 0 x.1 []))]⟩
theorem kp_run (l:List SyT) (hl:l.length<16777216):sy tt G0 [] Tryz.f61.ntmps Tryz.f61.results.toList (QI ctKp (l,())) (Px.Good Tryz.prog tt G0 61 Tryz.f61.ntmps Tryz.f61.results.toList (QI ctKp (l,()))) 1000 [.code (bodyOf Tryz.f61)] (entryI KKp (l,())):=by
 rw[vc_kp]
 refine ((kp_loop l hl l.length 0 [] rfl (Nat.zero_le _)).post fun rs blk hq=>?_).only ⟨rfl,rfl,rfl,rfl,trivial⟩ ⟨rfl,rfl,trivial⟩
 obtain ⟨rfl,hb⟩:=hq
 rw[List.drop_zero] at hb
 have p0:piOf [(0,8)] 0=some 8:=by decide
 refine ⟨[(0,8)],mtL_cons (by simp only[Mt];exact ⟨_,rfl,p0⟩) mtL_nil,⟨.inl ⟨8,_,p0,hb,rfl⟩,trivial⟩,by decide,fun p hp=>?_⟩
 simp only[List.mem_cons,List.not_mem_nil,or_false] at hp
 subst hp;decide
theorem kp_held:HeldI Tryz.prog G0 61 ctKp:=HeldI.run cx0 (fn:=Tryz.f61) rfl rfl ⟨by decide,by decide⟩ fun x hp=>kp_run x.1 hp
def isF (M:MpS):Nat→List Int→List SyT
 | _,[]=>[]
 | i,b::r=>(gMs M (i:Int)).getD (false,0,b)::isF M (i+1) r
theorem isF_len (M:MpS):∀ i b,(isF M i b).length=b.length
 | _,[]=>rfl
 | i,b::r=>by rw[isF,List.length_cons,isF_len M,List.length_cons]
abbrev KIs:List AK:=[.dat (.sl uB),.map iI syS]
abbrev IsQ (g:List SyT):List SV→List (Nat × LB)→Prop:=fun rs _=>rs=[.sl syS g]
theorem frzY {f:Nat} {fn:Func} {Q:List SV→List (Nat × LB)→Prop} {it:List Item} {S:PS} {i:Nat} {e:Sh} {et:TypeId} {xs:List e.D} (hl:lk S.blk i=some (.row et e xs)) (hc:cdP i xs.length S=[0+xs.length≤xs.length]) (h:GD f fn Q it (S.frzR i e xs)):GD f fn Q it S:=
 Good.frz hl (fun c hcc=>by rw[hc] at hcc;rw[List.mem_singleton] at hcc;subst hcc;omega) h
theorem is_loop (b:List Int) (o:MpS) (hl:b.length<16777216):∀ (k i:Nat) (g:List SyT),b.length-i=k→i≤b.length→g.length=b.length →
  GD 59 Tryz.f59 (IsQ (g.take i++isF o i (b.drop i))) (hd Tryz.f59 0) ⟨[(1,.mp 1099511627776),(5,.win true syS 12 0 g.length),(13,.sl uB b),(14,.int .i64 b.length),(15,.int .i64 (i:Nat))],[(12,.row 83 syS g),(1099511627776,.mp iI syS o)]⟩:=by
 intro k
 induction k with
 | zero=>
  intro i g hk hi hg
  have fin:GD 59 Tryz.f59 (IsQ (g.take i++isF o i (b.drop i))) (hd Tryz.f59 0) ⟨[(1,.mp 1099511627776),(5,.sl syS g),(13,.sl uB b),(14,.int .i64 b.length),(15,.int .i64 (i:Nat))],[(1099511627776,.mp iI syS o)]⟩:=by
   refine sy_go cx0 (vc_isE b o g i _ _) ?_
   rw[decide_eq_false (by omega),bc_f,List.drop_of_length_le (by omega),List.take_of_length_le (by omega),isF,List.append_nil]
  refine frzY (i:=12) (e:=syS) (et:=83) (xs:=g) rfl rfl ?_
  refine fin.only ⟨rfl,?_,rfl,rfl,rfl,trivial⟩ ⟨rfl,trivial⟩
  show some (SV.sl syS (winL syS 0 g.length g))=some (SV.sl syS g)
  rw[winA]
 | succ k ih=>
  intro i g hk hi hg
  have hlt:i<b.length:=by omega
  have hlg:i<g.length:=by omega
  refine sy_go cx0 (vc_isL b o g i _ _) ?_
  rw[decide_eq_true (show (i:Int)<(b.length:Int) by omega),bc_t,Int.toNat_natCast,IntWalk.i64_in ((i:Int)+1) (by omega),List.drop_eq_getElem_cons hlt,← gtB_at hlt,isF,Nat.zero_add]
  have step:∀ v:SyT,(g.set i v).take (i+1)=g.take i++[v]:=fun v=>by
   rw[List.take_add_one,List.take_set_of_le (Nat.le_refl _),List.getElem?_set_self hlg];rfl
  refine ⟨by omega,by omega,by omega,by omega,hlg,bc_of (fun h=>?_) (fun h=>?_)⟩
  ·refine ⟨by omega,by omega,by rw[List.length_set];exact hlg,?_⟩
   obtain ⟨v,hv⟩:=Option.isSome_iff_exists.1 h
   have hv:gMs o (i:Int)=some v:=hv
   have nx:=ih (i+1) ((g.set i (false,(0:Int),gtB b i)).set i v) (by omega) (by omega) (by rw[List.length_set,List.length_set];exact hg)
   rw[List.set_set,step v,List.append_assoc] at nx
   rw[show (gMs o (i:Int)).getD (false,0,gtB b i)=v by rw[hv];rfl]
   refine nx.only ⟨rfl,?_,rfl,rfl,rfl,trivial⟩ ⟨?_,rfl,trivial⟩
   ·show some (SV.win true syS 12 0 g.length)=some (SV.win true syS 12 0 (g.set i v).length)
    rw[List.length_set]
   ·show some (LB.row 83 syS ((g.set i (false,(0:Int),gtB b i)).set i ((gMs o (i:Int)).getD syS.dflt)))=_
    rw[hv,List.set_set];rfl
  ·have hv:gMs o (i:Int)=none:=by simpa using h
   have nx:=ih (i+1) (g.set i (false,(0:Int),gtB b i)) (by omega) (by omega) (by rw[List.length_set];exact hg)
   rw[step (false,(0:Int),gtB b i),List.append_assoc] at nx
   rw[show (gMs o (i:Int)).getD (false,0,gtB b i)=(false,0,gtB b i) by rw[hv];rfl]
   refine nx.only ⟨rfl,?_,rfl,rfl,rfl,trivial⟩ ⟨rfl,rfl,trivial⟩
   show some (SV.win true syS 12 0 g.length)=some (SV.win true syS 12 0 (g.set i (false,(0:Int),gtB b i)).length)
   rw[List.length_set]
def ctIs:CtrI:=⟨KIs,fun x=>List.length x.1<16777216,fun x=>[.sl syS (isF x.2.1 0 x.1)],fun _=>[]⟩
theorem is_run (b:List Int) (o:MpS) (hl:b.length<16777216):sy tt G0 [] Tryz.f59.ntmps Tryz.f59.results.toList (QI ctIs (b,o,())) (Px.Good Tryz.prog tt G0 59 Tryz.f59.ntmps Tryz.f59.results.toList (QI ctIs (b,o,()))) 1000 [.code (bodyOf Tryz.f59)] (entryI KIs (b,o,())):=by
 rw[vc_is]
 rw[Int.toNat_natCast]
 refine ⟨by omega,by omega,by omega,by omega,?_⟩
 refine ((is_loop b o hl b.length 0 (List.replicate b.length syS.dflt) rfl (Nat.zero_le _) List.length_replicate).post fun rs blk hq=>?_).only ⟨rfl,?_,rfl,rfl,rfl,trivial⟩ ⟨rfl,rfl,trivial⟩
 ·rw[List.drop_zero,List.take_zero,List.nil_append] at hq
  exact QI.self (hq.symm ▸ rfl) (by rw[hq];rfl) rfl (fun p hp=>by cases hp)
 ·show some (SV.win true syS 12 0 b.length)=some (SV.win true syS 12 0 (List.replicate b.length syS.dflt).length)
  rw[List.length_replicate]
theorem is_held:HeldI Tryz.prog G0 59 ctIs:=HeldI.run cx0 (fn:=Tryz.f59) rfl rfl ⟨by decide,by decide⟩ fun x hp=>is_run x.1 x.2.1 hp
end Go.Proofs.YtncocpjkaggnjaaGreatDoor
namespace Go.Proofs.YtncocpjkaggnjaaGreatDoor
open Go.Px Go.Ax
set_option maxRecDepth 100000
abbrev rgS:Sh:=.pair iI iI
abbrev gtR (l:List (Int × Int)) (i:Nat):Int × Int:=gt rgS l i
abbrev KL1:List AK:=[.dat iI,.ptr [.row 81 rgS]]
set_option maxRecDepth 100000
def mem_l1_m0 (i:Int) (l:List (Int × Int)):List (Nat × LB):=[(32,.row 81 rgS ([(i,IntKind.i64.wrap (i+(1:Int)))]:List rgS.D)),(33,.row 81 rgS (l++([(i,IntKind.i64.wrap (i+(1:Int)))]:List rgS.D))),(1099511627776,.var [.win true rgS 33 0 (l.length+(([(i,IntKind.i64.wrap (i+(1:Int)))]:List rgS.D)).length)])]
theorem vc_l1 (i:Int) (l:List (Int × Int)) (Q:QT) (R:RT):sy tt G0 [] Tryz.f65.ntmps Tryz.f65.results.toList Q R 1000 [.code (bodyOf Tryz.f65)] (entryI KL1 (i,(l,()),())) =
  (bc (decide ((0:Int)<(l.length:Int))) ((0:Int)≤IntKind.i64.wrap ((l.length:Int)-(1:Int)) ∧
 IntKind.i64.wrap ((l.length:Int)-(1:Int))<(l.length:Int) ∧
 0+(IntKind.i64.wrap ((l.length:Int)-(1:Int))).toNat<l.length ∧
 bc (decide ((gtR l (0+(IntKind.i64.wrap ((l.length:Int)-(1:Int))).toNat)).2=i)) ((0:Int)≤IntKind.i64.wrap ((l.length:Int)-(1:Int)) ∧
 IntKind.i64.wrap ((l.length:Int)-(1:Int))<(l.length:Int) ∧
 0+(IntKind.i64.wrap ((l.length:Int)-(1:Int))).toNat<l.length ∧
 (0:Int)≤IntKind.i64.wrap ((l.length:Int)-(1:Int)) ∧
 IntKind.i64.wrap ((l.length:Int)-(1:Int))<(l.length:Int) ∧
 0+(IntKind.i64.wrap ((l.length:Int)-(1:Int))).toNat<l.length ∧
 Q [] [(1099511627776,.var [.win true rgS 1099511627777 0 l.length]),(1099511627777,.row 81 rgS (l.set (0+(IntKind.i64.wrap ((l.length:Int)-(1:Int))).toNat) ((gtR l (0+(IntKind.i64.wrap ((l.length:Int)-(1:Int))).toNat)).1,IntKind.i64.wrap ((gtR l (0+(IntKind.i64.wrap ((l.length:Int)-(1:Int))).toNat)).2+(1:Int)))))]) (0+(1:Nat)≤([(i,IntKind.i64.wrap (i+(1:Int)))]:List rgS.D).length ∧
 l.length=l.length ∧
 (0:Nat)=(0:Nat) ∧
 l.length+(([(i,IntKind.i64.wrap (i+(1:Int)))]:List rgS.D)).length<(2:Nat) ^ (30:Nat) ∧
 (16:Nat)≤(2:Nat) ^ (10:Nat) ∧
 Q [] (mem_l1_m0 i l))) (false=false ∧
 0+(1:Nat)≤([(i,IntKind.i64.wrap (i+(1:Int)))]:List rgS.D).length ∧
 l.length=l.length ∧
 (0:Nat)=(0:Nat) ∧
 l.length+(([(i,IntKind.i64.wrap (i+(1:Int)))]:List rgS.D)).length<(2:Nat) ^ (30:Nat) ∧
 (16:Nat)≤(2:Nat) ^ (10:Nat) ∧
 Q [] (mem_l1_m0 i l))):=by kernel_rfl
end Go.Proofs.YtncocpjkaggnjaaGreatDoor
namespace Go.Proofs.YtncocpjkaggnjaaGreatDoor
open Go.Px Go.Ax
set_option maxRecDepth 100000
attribute [local irreducible] Go.Px.sy Go.Px.syE
theorem gtR_at {l:List (Int × Int)} {i:Nat} (h:i<l.length):gtR l i=l[i]:=gtE (e:=rgS) h
def pushR (l:List (Int × Int)) (i:Int):List (Int × Int):=
 if 0<l.length∧(gtR l (l.length-1)).2=i then l.set (l.length-1) ((gtR l (l.length-1)).1,i+1) else l++[(i,i+1)]
theorem pushR_len (l:List (Int × Int)) (i:Int):(pushR l i).length≤l.length+1:=by
 unfold pushR
 split
 ·rw[List.length_set];omega
 ·rw[List.length_append,List.length_singleton];omega
def inP (i:Int) (l:List (Int × Int)):Prop:=0<l.length∧(gtR l (l.length-1)).2=i
def preL1 (i:Int) (l:List (Int × Int)):Prop:=0≤i∧i<1099511627776∧l.length<268435456
def ctL1a:CtrI:=⟨KL1,fun x=>preL1 x.1 x.2.1.1∧inP x.1 x.2.1.1,fun _=>[],fun x=>bkKL 0 KL1 (x.1,(pushR x.2.1.1 x.1,()),())⟩
def ctL1b:CtrI:=⟨KL1,fun x=>preL1 x.1 x.2.1.1∧¬ inP x.1 x.2.1.1,fun _=>[],fun x=>[(BIG,.var [.win true rgS 0 0 (pushR x.2.1.1 x.1).length]),(0,.row 81 rgS (pushR x.2.1.1 x.1))]⟩
theorem l1_endB {i:Int} {l:List (Int × Int)} {a:Nat} (ha:a<BIG) {g:List (Int × Int)} (hg:g=pushR l i) {n:Nat} (hn:n=g.length) {blk:List (Nat × LB)} (h1:lk blk BIG=some (.var [.win true rgS a 0 n])) (h2:lk blk a=some (.row 81 rgS g)):QI ctL1b (i,(l,()),()) [] blk:=by
 subst hg;subst hn
 have p0:piOf [(0,a)] 0=some a:=rfl
 have pB:piOf [(0,a)] BIG=some BIG:=by
  show (match decide (BIG≤BIG) with | true=>some BIG | false=>lk [(0,a)] BIG)=some BIG
  rw[decide_eq_true (Nat.le_refl _)]
 refine ⟨[(0,a)],mtL_nil,⟨.inl ⟨BIG,_,pB,h1,?_⟩,.inl ⟨a,_,p0,h2,rfl⟩,trivial⟩,by simp,fun p hp=>?_⟩
 ·exact ⟨_,rfl,mtL_cons (by simp only[Mt];exact .inl ⟨true,a,rfl,p0,fun _=>rfl⟩) mtL_nil⟩
 ·simp only[List.mem_cons,List.not_mem_nil,or_false] at hp
  subst hp;exact ha
theorem l1_runA (i:Int) (l:List (Int × Int)) (hp:preL1 i l) (hi:inP i l) (R:List Item→PS→Prop):sy tt G0 [] Tryz.f65.ntmps Tryz.f65.results.toList (QI ctL1a (i,(l,()),())) R 1000 [.code (bodyOf Tryz.f65)] (entryI KL1 (i,(l,()),())):=by
 obtain ⟨h0,h1,h2⟩:=hp
 obtain ⟨h,h3⟩:=hi
 refine (vc_l1 i l _ _).mpr ?_
 have w2:IntKind.i64.wrap ((l.length:Int)-1)=((l.length-1:Nat):Int):=by rw[IntWalk.i64_in _ (by omega)];omega
 rw[w2]
 simp only[Int.toNat_natCast,Nat.zero_add]
 have w3:IntKind.i64.wrap ((gtR l (l.length-1)).2+1)=i+1:=by rw[h3];exact IntWalk.i64_in _ (by omega)
 rw[w3,decide_eq_true (show (0:Int)<(l.length:Int) by omega),bc_t,decide_eq_true h3,bc_t]
 refine ⟨by omega,by omega,by omega,by omega,by omega,by omega,by omega,by omega,by omega,?_⟩
 refine QI.self rfl rfl rfl ?_
 have e:pushR l i=l.set (l.length-1) ((gtR l (l.length-1)).1,i+1):=if_pos ⟨h,h3⟩
 intro b hb
 simp only[ctL1a,bkKL,bkK,cnt,cntL,List.append_nil,List.nil_append,List.mem_cons,List.not_mem_nil,or_false] at hb
 rcases hb with rfl | rfl
 ·show some (LB.var [SV.win true rgS 1099511627777 0 l.length])=some (LB.var [SV.win true rgS 1099511627777 0 (pushR l i).length])
  rw[e,List.length_set]
 ·show some (LB.row 81 rgS (l.set (l.length-1) ((gtR l (l.length-1)).1,i+1)))=some (LB.row 81 rgS (pushR l i))
  rw[e]
theorem l1_runB (i:Int) (l:List (Int × Int)) (hp:preL1 i l) (hi:¬ inP i l) (R:List Item→PS→Prop):sy tt G0 [] Tryz.f65.ntmps Tryz.f65.results.toList (QI ctL1b (i,(l,()),())) R 1000 [.code (bodyOf Tryz.f65)] (entryI KL1 (i,(l,()),())):=by
 obtain ⟨h0,h1,h2⟩:=hp
 refine (vc_l1 i l _ _).mpr ?_
 have w1:IntKind.i64.wrap (i+1)=i+1:=IntWalk.i64_in _ (by omega)
 have app:l++[(i,IntKind.i64.wrap (i+1))]=pushR l i:=by rw[w1];exact (if_neg hi).symm
 have fin:QI ctL1b (i,(l,()),()) [] [(32,LB.row 81 rgS [(i,IntKind.i64.wrap (i+1))]),(33,LB.row 81 rgS (l++[(i,IntKind.i64.wrap (i+1))])),(1099511627776,LB.var [SV.win true rgS 33 0 (l.length+[(i,IntKind.i64.wrap (i+1))].length)])]:=
  l1_endB (a:=33) (by decide) app (by rw[List.length_append]) rfl rfl
 refine bc_of (fun h=>?_) (fun h=>⟨rfl,?_⟩)
 ·have h:(0:Int)<(l.length:Int):=of_decide_eq_true h
  have w2:IntKind.i64.wrap ((l.length:Int)-1)=((l.length-1:Nat):Int):=by rw[IntWalk.i64_in _ (by omega)];omega
  rw[w2]
  simp only[Int.toNat_natCast,Nat.zero_add]
  refine ⟨by omega,by omega,by omega,bc_of (fun h3=>?_) (fun h3=>?_)⟩
  ·exact absurd ⟨by omega,of_decide_eq_true h3⟩ hi
  ·exact ⟨by simp,trivial,trivial,by simp;omega,by omega,fin⟩
 ·exact ⟨by simp,rfl,rfl,by simp;omega,by omega,fin⟩
theorem l1a_held:HeldI Tryz.prog G0 65 ctL1a:=HeldI.run cx0 (fn:=Tryz.f65) rfl rfl ⟨by decide,by decide⟩ fun x hp=>l1_runA x.1 x.2.1.1 hp.1 hp.2 _
theorem l1b_held:HeldI Tryz.prog G0 65 ctL1b:=HeldI.run cx0 (fn:=Tryz.f65) rfl rfl ⟨by decide,by decide⟩ fun x hp=>l1_runB x.1 x.2.1.1 hp.1 hp.2 _
end Go.Proofs.YtncocpjkaggnjaaGreatDoor
namespace Go.Proofs.YtncocpjkaggnjaaGreatDoor
open Go.Px Go.Ax
set_option maxRecDepth 100000
def CLo:CV:=[(61,.inr ctKp),(15,.inl ctSym)]
theorem cxLo:CxOK Tryz.prog tt G0 CLo:=(cx0.cons sym_held (fn:=Tryz.f15) rfl rfl rfl).consI kp_held (fn:=Tryz.f61) rfl rfl rfl
def CLa:CV:=[(65,.inr ctL1a)]
theorem cxLa:CxOK Tryz.prog tt G0 CLa:=cx0.consI l1a_held (fn:=Tryz.f65) rfl rfl rfl
def CLb:CV:=[(65,.inr ctL1b)]
theorem cxLb:CxOK Tryz.prog tt G0 CLb:=cx0.consI l1b_held (fn:=Tryz.f65) rfl rfl rfl
set_option maxRecDepth 100000
theorem vc_lo (li:Bool) (m n:Int) (l:List OpT) (Q:QT) (R:RT):sy tt G0 CLo Tryz.f27.ntmps Tryz.f27.results.toList Q R 1000 [.code (bodyOf Tryz.f27)] (entry [paS] ((li,m,n,l),())) =
  (ctSym.pre ((li,m,n,l),()) ∧
 bc (decide ((symV (li,m,n,l)).2≠(0:Int))) (Q [.nils,.int .i64 (symV (li,m,n,l)).2] [(1,.var [.bool li,.int .i64 m,.int .i64 n,.sl opS l]),(1057344,.row 83 syS (symV (li,m,n,l)).1)]) ((symV (li,m,n,l)).1.length=(symV (li,m,n,l)).1.length ∧
 ctKp.pre ((symV (li,m,n,l)).1,()) ∧
 R (hd Tryz.f27 0) { env:=[(0,.agg [.bool li,.int .i64 m,.int .i64 n,.sl opS l]),(1,.ptr 1 0),(2,.nils),(3,.int .i64 0),(4,.dead),(5,.int .i64 (symV (li,m,n,l)).2),(6,.ptr 6 0),(7,.fn (65:Nat) [] [.ptr 6 0]),(8,.mp (1090112:Nat)),(12,SV.tup [.dead,.int .i64 (symV (li,m,n,l)).2]),(13,.agg [.bool li,.int .i64 m,.int .i64 n,.sl opS l]),(14,SV.tup [.dead,.int .i64 (symV (li,m,n,l)).2]),(15,.dead),(16,.int .i64 (symV (li,m,n,l)).2),(17,.int .i64 (symV (li,m,n,l)).2),(18,.bool (decide ((symV (li,m,n,l)).2≠(0:Int)))),(20,.fn (65:Nat) [] [.ptr 6 0]),(21,.dead),(22,.mp (1090112:Nat)),(23,.ptr 1 1),(24,.int .i64 m),(25,.int .i64 0)],blk:=[(1,.var [.bool li,.int .i64 m,.int .i64 n,.sl opS l]),(6,.var [.nils]),(1090112,.mp iI syS (kpF (0:Nat) (symV (li,m,n,l)).1 []))] })):=by kernel_rfl
theorem vc_loN (m i:Int) (o:List (Int × SyT)) (Q:QT) (R:RT):sy tt G0 CLb Tryz.f27.ntmps Tryz.f27.results.toList Q R 1000 (hd Tryz.f27 0) ⟨[(1,.ptr 1 0),(6,.ptr 6 0),(7,.fn 65 [] [.ptr 6 0]),(8,.mp 77),(24,.int .i64 m),(25,.int .i64 i)],[(6,.var [.nils]),(77,.mp iI syS o)]⟩ =
  (bc (decide (i<m)) (bc (!(getM (κ:=iI) (σ:=syS) o i).isSome) (ctL1b.pre (i,([],()),()) ∧
 R (hd Tryz.f27 0) { env:=[(1,.ptr 1 0),(6,.ptr 6 0),(7,.fn (65:Nat) [] [.ptr 6 0]),(8,.mp (77:Nat)),(9,.int .i64 i),(10,.ptr 10 0),(11,.bool (getM (κ:=iI) (σ:=syS) o i).isSome),(24,.int .i64 m),(25,.int .i64 (IntKind.i64.wrap (i+(1:Int)))),(26,.bool (decide (i<m))),(27,.int .i64 i),(28,SV.tup [.agg [.bool ((getM (κ:=iI) (σ:=syS) o i).getD syS.dflt).1,.int .i64 ((getM (κ:=iI) (σ:=syS) o i).getD syS.dflt).2.1,.int .u8 ((getM (κ:=iI) (σ:=syS) o i).getD syS.dflt).2.2],.bool (getM (κ:=iI) (σ:=syS) o i).isSome]),(29,.mp (77:Nat)),(30,.int .i64 i),(31,SV.tup [.agg [.bool ((getM (κ:=iI) (σ:=syS) o i).getD syS.dflt).1,.int .i64 ((getM (κ:=iI) (σ:=syS) o i).getD syS.dflt).2.1,.int .u8 ((getM (κ:=iI) (σ:=syS) o i).getD syS.dflt).2.2],.bool (getM (κ:=iI) (σ:=syS) o i).isSome]),(32,.agg [.bool ((getM (κ:=iI) (σ:=syS) o i).getD syS.dflt).1,.int .i64 ((getM (κ:=iI) (σ:=syS) o i).getD syS.dflt).2.1,.int .u8 ((getM (κ:=iI) (σ:=syS) o i).getD syS.dflt).2.2]),(33,.bool (getM (κ:=iI) (σ:=syS) o i).isSome),(34,.bool (getM (κ:=iI) (σ:=syS) o i).isSome),(35,.bool !(getM (κ:=iI) (σ:=syS) o i).isSome),(36,.fn (65:Nat) [] [.ptr 6 0]),(37,.int .i64 i),(38,SV.tup []),(39,.int .i64 (IntKind.i64.wrap (i+(1:Int))))],blk:=[(6,.var [.win true rgS 1155648 0 (1:Nat)]),(10,.var [.bool ((getM (κ:=iI) (σ:=syS) o i).getD syS.dflt).1,.int .i64 ((getM (κ:=iI) (σ:=syS) o i).getD syS.dflt).2.1,.int .u8 ((getM (κ:=iI) (σ:=syS) o i).getD syS.dflt).2.2]),(77,.mp iI syS o),(1155648,.row 81 rgS (pushR [] i))] }) (R (hd Tryz.f27 0) { env:=[(1,.ptr 1 0),(6,.ptr 6 0),(7,.fn (65:Nat) [] [.ptr 6 0]),(8,.mp (77:Nat)),(9,.int .i64 i),(10,.ptr 10 0),(11,.bool (getM (κ:=iI) (σ:=syS) o i).isSome),(24,.int .i64 m),(25,.int .i64 (IntKind.i64.wrap (i+(1:Int)))),(26,.bool (decide (i<m))),(27,.int .i64 i),(28,SV.tup [.agg [.bool ((getM (κ:=iI) (σ:=syS) o i).getD syS.dflt).1,.int .i64 ((getM (κ:=iI) (σ:=syS) o i).getD syS.dflt).2.1,.int .u8 ((getM (κ:=iI) (σ:=syS) o i).getD syS.dflt).2.2],.bool (getM (κ:=iI) (σ:=syS) o i).isSome]),(29,.mp (77:Nat)),(30,.int .i64 i),(31,SV.tup [.agg [.bool ((getM (κ:=iI) (σ:=syS) o i).getD syS.dflt).1,.int .i64 ((getM (κ:=iI) (σ:=syS) o i).getD syS.dflt).2.1,.int .u8 ((getM (κ:=iI) (σ:=syS) o i).getD syS.dflt).2.2],.bool (getM (κ:=iI) (σ:=syS) o i).isSome]),(32,.agg [.bool ((getM (κ:=iI) (σ:=syS) o i).getD syS.dflt).1,.int .i64 ((getM (κ:=iI) (σ:=syS) o i).getD syS.dflt).2.1,.int .u8 ((getM (κ:=iI) (σ:=syS) o i).getD syS.dflt).2.2]),(33,.bool (getM (κ:=iI) (σ:=syS) o i).isSome),(34,.bool (getM (κ:=iI) (σ:=syS) o i).isSome),(35,.bool !(getM (κ:=iI) (σ:=syS) o i).isSome),(39,.int .i64 (IntKind.i64.wrap (i+(1:Int))))],blk:=[(6,.var [.nils]),(10,.var [.bool ((getM (κ:=iI) (σ:=syS) o i).getD syS.dflt).1,.int .i64 ((getM (κ:=iI) (σ:=syS) o i).getD syS.dflt).2.1,.int .u8 ((getM (κ:=iI) (σ:=syS) o i).getD syS.dflt).2.2]),(77,.mp iI syS o)] })) (Q [.nils,.int .i64 0] [(6,.var [.nils]),(77,.mp iI syS o)])):=by kernel_rfl
theorem vc_loA (m i:Int) (o:List (Int × SyT)) (g:List (Int × Int)) (Q:QT) (R:RT):sy tt G0 CLa Tryz.f27.ntmps Tryz.f27.results.toList Q R 1000 (hd Tryz.f27 0) ⟨[(1,.ptr 1 0),(6,.ptr 6 0),(7,.fn 65 [] [.ptr 6 0]),(8,.mp 77),(24,.int .i64 m),(25,.int .i64 i)],[(6,.var [.win true rgS 78 0 g.length]),(77,.mp iI syS o),(78,.row 81 rgS g)]⟩ =
  (bc (decide (i<m)) (bc (!(getM (κ:=iI) (σ:=syS) o i).isSome) (g.length=g.length ∧
 ctL1a.pre (i,(g,()),()) ∧
 R (hd Tryz.f27 0) { env:=[(1,.ptr 1 0),(6,.ptr 6 0),(7,.fn (65:Nat) [] [.ptr 6 0]),(8,.mp (77:Nat)),(9,.int .i64 i),(10,.ptr 10 0),(11,.bool (getM (κ:=iI) (σ:=syS) o i).isSome),(24,.int .i64 m),(25,.int .i64 (IntKind.i64.wrap (i+(1:Int)))),(26,.bool (decide (i<m))),(27,.int .i64 i),(28,SV.tup [.agg [.bool ((getM (κ:=iI) (σ:=syS) o i).getD syS.dflt).1,.int .i64 ((getM (κ:=iI) (σ:=syS) o i).getD syS.dflt).2.1,.int .u8 ((getM (κ:=iI) (σ:=syS) o i).getD syS.dflt).2.2],.bool (getM (κ:=iI) (σ:=syS) o i).isSome]),(29,.mp (77:Nat)),(30,.int .i64 i),(31,SV.tup [.agg [.bool ((getM (κ:=iI) (σ:=syS) o i).getD syS.dflt).1,.int .i64 ((getM (κ:=iI) (σ:=syS) o i).getD syS.dflt).2.1,.int .u8 ((getM (κ:=iI) (σ:=syS) o i).getD syS.dflt).2.2],.bool (getM (κ:=iI) (σ:=syS) o i).isSome]),(32,.agg [.bool ((getM (κ:=iI) (σ:=syS) o i).getD syS.dflt).1,.int .i64 ((getM (κ:=iI) (σ:=syS) o i).getD syS.dflt).2.1,.int .u8 ((getM (κ:=iI) (σ:=syS) o i).getD syS.dflt).2.2]),(33,.bool (getM (κ:=iI) (σ:=syS) o i).isSome),(34,.bool (getM (κ:=iI) (σ:=syS) o i).isSome),(35,.bool !(getM (κ:=iI) (σ:=syS) o i).isSome),(36,.fn (65:Nat) [] [.ptr 6 0]),(37,.int .i64 i),(38,SV.tup []),(39,.int .i64 (IntKind.i64.wrap (i+(1:Int))))],blk:=[(6,.var [.win true rgS 78 0 (pushR g i).length]),(10,.var [.bool ((getM (κ:=iI) (σ:=syS) o i).getD syS.dflt).1,.int .i64 ((getM (κ:=iI) (σ:=syS) o i).getD syS.dflt).2.1,.int .u8 ((getM (κ:=iI) (σ:=syS) o i).getD syS.dflt).2.2]),(77,.mp iI syS o),(78,.row 81 rgS (pushR g i))] }) (R (hd Tryz.f27 0) { env:=[(1,.ptr 1 0),(6,.ptr 6 0),(7,.fn (65:Nat) [] [.ptr 6 0]),(8,.mp (77:Nat)),(9,.int .i64 i),(10,.ptr 10 0),(11,.bool (getM (κ:=iI) (σ:=syS) o i).isSome),(24,.int .i64 m),(25,.int .i64 (IntKind.i64.wrap (i+(1:Int)))),(26,.bool (decide (i<m))),(27,.int .i64 i),(28,SV.tup [.agg [.bool ((getM (κ:=iI) (σ:=syS) o i).getD syS.dflt).1,.int .i64 ((getM (κ:=iI) (σ:=syS) o i).getD syS.dflt).2.1,.int .u8 ((getM (κ:=iI) (σ:=syS) o i).getD syS.dflt).2.2],.bool (getM (κ:=iI) (σ:=syS) o i).isSome]),(29,.mp (77:Nat)),(30,.int .i64 i),(31,SV.tup [.agg [.bool ((getM (κ:=iI) (σ:=syS) o i).getD syS.dflt).1,.int .i64 ((getM (κ:=iI) (σ:=syS) o i).getD syS.dflt).2.1,.int .u8 ((getM (κ:=iI) (σ:=syS) o i).getD syS.dflt).2.2],.bool (getM (κ:=iI) (σ:=syS) o i).isSome]),(32,.agg [.bool ((getM (κ:=iI) (σ:=syS) o i).getD syS.dflt).1,.int .i64 ((getM (κ:=iI) (σ:=syS) o i).getD syS.dflt).2.1,.int .u8 ((getM (κ:=iI) (σ:=syS) o i).getD syS.dflt).2.2]),(33,.bool (getM (κ:=iI) (σ:=syS) o i).isSome),(34,.bool (getM (κ:=iI) (σ:=syS) o i).isSome),(35,.bool !(getM (κ:=iI) (σ:=syS) o i).isSome),(39,.int .i64 (IntKind.i64.wrap (i+(1:Int))))],blk:=[(6,.var [.win true rgS 78 0 g.length]),(10,.var [.bool ((getM (κ:=iI) (σ:=syS) o i).getD syS.dflt).1,.int .i64 ((getM (κ:=iI) (σ:=syS) o i).getD syS.dflt).2.1,.int .u8 ((getM (κ:=iI) (σ:=syS) o i).getD syS.dflt).2.2]),(77,.mp iI syS o),(78,.row 81 rgS g)] })) (Q [.win true rgS 78 0 g.length,.int .i64 0] [(6,.var [.win true rgS 78 0 g.length]),(77,.mp iI syS o),(78,.row 81 rgS g)])):=by kernel_rfl
theorem vc_loB (m i:Int) (o:List (Int × SyT)) (g:List (Int × Int)) (Q:QT) (R:RT):sy tt G0 CLb Tryz.f27.ntmps Tryz.f27.results.toList Q R 1000 (hd Tryz.f27 0) ⟨[(1,.ptr 1 0),(6,.ptr 6 0),(7,.fn 65 [] [.ptr 6 0]),(8,.mp 77),(24,.int .i64 m),(25,.int .i64 i)],[(6,.var [.win true rgS 78 0 g.length]),(77,.mp iI syS o),(78,.row 81 rgS g)]⟩ =
  (bc (decide (i<m)) (bc (!(getM (κ:=iI) (σ:=syS) o i).isSome) (g.length=g.length ∧
 ctL1b.pre (i,(g,()),()) ∧
 R (hd Tryz.f27 0) { env:=[(1,.ptr 1 0),(6,.ptr 6 0),(7,.fn (65:Nat) [] [.ptr 6 0]),(8,.mp (77:Nat)),(9,.int .i64 i),(10,.ptr 10 0),(11,.bool (getM (κ:=iI) (σ:=syS) o i).isSome),(24,.int .i64 m),(25,.int .i64 (IntKind.i64.wrap (i+(1:Int)))),(26,.bool (decide (i<m))),(27,.int .i64 i),(28,SV.tup [.agg [.bool ((getM (κ:=iI) (σ:=syS) o i).getD syS.dflt).1,.int .i64 ((getM (κ:=iI) (σ:=syS) o i).getD syS.dflt).2.1,.int .u8 ((getM (κ:=iI) (σ:=syS) o i).getD syS.dflt).2.2],.bool (getM (κ:=iI) (σ:=syS) o i).isSome]),(29,.mp (77:Nat)),(30,.int .i64 i),(31,SV.tup [.agg [.bool ((getM (κ:=iI) (σ:=syS) o i).getD syS.dflt).1,.int .i64 ((getM (κ:=iI) (σ:=syS) o i).getD syS.dflt).2.1,.int .u8 ((getM (κ:=iI) (σ:=syS) o i).getD syS.dflt).2.2],.bool (getM (κ:=iI) (σ:=syS) o i).isSome]),(32,.agg [.bool ((getM (κ:=iI) (σ:=syS) o i).getD syS.dflt).1,.int .i64 ((getM (κ:=iI) (σ:=syS) o i).getD syS.dflt).2.1,.int .u8 ((getM (κ:=iI) (σ:=syS) o i).getD syS.dflt).2.2]),(33,.bool (getM (κ:=iI) (σ:=syS) o i).isSome),(34,.bool (getM (κ:=iI) (σ:=syS) o i).isSome),(35,.bool !(getM (κ:=iI) (σ:=syS) o i).isSome),(36,.fn (65:Nat) [] [.ptr 6 0]),(37,.int .i64 i),(38,SV.tup []),(39,.int .i64 (IntKind.i64.wrap (i+(1:Int))))],blk:=[(6,.var [.win true rgS 1155648 0 (pushR g i).length]),(10,.var [.bool ((getM (κ:=iI) (σ:=syS) o i).getD syS.dflt).1,.int .i64 ((getM (κ:=iI) (σ:=syS) o i).getD syS.dflt).2.1,.int .u8 ((getM (κ:=iI) (σ:=syS) o i).getD syS.dflt).2.2]),(77,.mp iI syS o),(1155648,.row 81 rgS (pushR g i))] }) (R (hd Tryz.f27 0) { env:=[(1,.ptr 1 0),(6,.ptr 6 0),(7,.fn (65:Nat) [] [.ptr 6 0]),(8,.mp (77:Nat)),(9,.int .i64 i),(10,.ptr 10 0),(11,.bool (getM (κ:=iI) (σ:=syS) o i).isSome),(24,.int .i64 m),(25,.int .i64 (IntKind.i64.wrap (i+(1:Int)))),(26,.bool (decide (i<m))),(27,.int .i64 i),(28,SV.tup [.agg [.bool ((getM (κ:=iI) (σ:=syS) o i).getD syS.dflt).1,.int .i64 ((getM (κ:=iI) (σ:=syS) o i).getD syS.dflt).2.1,.int .u8 ((getM (κ:=iI) (σ:=syS) o i).getD syS.dflt).2.2],.bool (getM (κ:=iI) (σ:=syS) o i).isSome]),(29,.mp (77:Nat)),(30,.int .i64 i),(31,SV.tup [.agg [.bool ((getM (κ:=iI) (σ:=syS) o i).getD syS.dflt).1,.int .i64 ((getM (κ:=iI) (σ:=syS) o i).getD syS.dflt).2.1,.int .u8 ((getM (κ:=iI) (σ:=syS) o i).getD syS.dflt).2.2],.bool (getM (κ:=iI) (σ:=syS) o i).isSome]),(32,.agg [.bool ((getM (κ:=iI) (σ:=syS) o i).getD syS.dflt).1,.int .i64 ((getM (κ:=iI) (σ:=syS) o i).getD syS.dflt).2.1,.int .u8 ((getM (κ:=iI) (σ:=syS) o i).getD syS.dflt).2.2]),(33,.bool (getM (κ:=iI) (σ:=syS) o i).isSome),(34,.bool (getM (κ:=iI) (σ:=syS) o i).isSome),(35,.bool !(getM (κ:=iI) (σ:=syS) o i).isSome),(39,.int .i64 (IntKind.i64.wrap (i+(1:Int))))],blk:=[(6,.var [.win true rgS 78 0 g.length]),(10,.var [.bool ((getM (κ:=iI) (σ:=syS) o i).getD syS.dflt).1,.int .i64 ((getM (κ:=iI) (σ:=syS) o i).getD syS.dflt).2.1,.int .u8 ((getM (κ:=iI) (σ:=syS) o i).getD syS.dflt).2.2]),(77,.mp iI syS o),(78,.row 81 rgS g)] })) (Q [.win true rgS 78 0 g.length,.int .i64 0] [(6,.var [.win true rgS 78 0 g.length]),(77,.mp iI syS o),(78,.row 81 rgS g)])):=by kernel_rfl
end Go.Proofs.YtncocpjkaggnjaaGreatDoor
namespace Go.Proofs.YtncocpjkaggnjaaGreatDoor
open Go.Px Go.Ax
set_option maxRecDepth 100000
attribute [local irreducible] Go.Px.sy Go.Px.syE
def lsS (o:MpS) (i:Nat) (g:List (Int × Int)):List (Int × Int):=if (gMs o (i:Int)).isSome=false then pushR g i else g
def lsF (o:MpS):Nat→Nat→List (Int × Int)→List (Int × Int)
 | 0,_,g=>g
 | c+1,i,g=>lsF o c (i+1) (lsS o i g)
theorem lsS_len (o:MpS) (i:Nat) (g:List (Int × Int)):(lsS o i g).length≤g.length+1:=by
 unfold lsS
 split
 ·exact pushR_len g i
 ·omega
def losV (p:PaT):List (Int × Int) × Int:=if (symV p).2=0 then (lsF (kpF 0 (symV p).1 []) p.2.1.toNat 0 [],0) else ([],(symV p).2)
def ctLs:Ctr:=⟨[paS],fun _=>True,fun x=>[.win true rgS 0 0 (losV x.1).1.length,.int .i64 (losV x.1).2],fun x=>[.row 81 rgS (losV x.1).1]⟩
abbrev LoQ (G:List (Int × Int)):List SV→List (Nat × LB)→Prop:=fun rs blk=>(G=[]∧rs=[.nils,.int .i64 0])∨(rs=[.win true rgS 78 0 G.length,.int .i64 0]∧lk blk 78=some (.row 81 rgS G))
abbrev loN (m:Int) (o:MpS) (i:Int):PS:=⟨[(1,.ptr 1 0),(6,.ptr 6 0),(7,.fn 65 [] [.ptr 6 0]),(8,.mp 77),(24,.int .i64 m),(25,.int .i64 i)],[(6,.var [.nils]),(77,.mp iI syS o)]⟩
abbrev loW (m:Int) (o:MpS) (g:List (Int × Int)) (i:Int):PS:=⟨[(1,.ptr 1 0),(6,.ptr 6 0),(7,.fn 65 [] [.ptr 6 0]),(8,.mp 77),(24,.int .i64 m),(25,.int .i64 i)],[(6,.var [.win true rgS 78 0 g.length]),(77,.mp iI syS o),(78,.row 81 rgS g)]⟩
theorem loW_loop (m:Nat) (hm:m≤65536) (o:MpS):∀ (k i:Nat) (g:List (Int × Int)),m-i=k→i≤m→g.length≤i →
  GD 27 Tryz.f27 (LoQ (lsF o k i g)) (hd Tryz.f27 0) (loW m o g i):=by
 intro k
 induction k with
 | zero=>
  intro i g hk hi hg
  refine sy_go cxLa (vc_loA m i o g _ _) ?_
  rw[decide_eq_false (by omega),bc_f]
  exact .inr ⟨rfl,rfl⟩
 | succ k ih=>
  intro i g hk hi hg
  have hlt:(i:Int)<(m:Int):=by omega
  have w1:IntKind.i64.wrap ((i:Int)+1)=((i+1:Nat):Int):=by rw[IntWalk.i64_in _ (by omega)];omega
  have hl:=lsS_len o i g
  have nx:=ih (i+1) (lsS o i g) (by omega) (by omega) (by omega)
  rw[lsF]
  have hpre:preL1 (i:Int) g:=⟨by omega,by omega,by omega⟩
  by_cases hs:(gMs o (i:Int)).isSome=false
  ·have e:lsS o i g=pushR g i:=if_pos hs
   rw[e] at nx ⊢
   by_cases hp:inP (i:Int) g
   ·refine sy_go cxLa (vc_loA m i o g _ _) ?_
    rw[decide_eq_true hlt,bc_t,w1,show (getM (κ:=iI) (σ:=syS) o (i:Int)).isSome=false from hs]
    exact ⟨rfl,⟨hpre,hp⟩,nx.only ⟨rfl,rfl,rfl,rfl,rfl,rfl,trivial⟩ ⟨rfl,rfl,rfl,trivial⟩⟩
   ·refine sy_go cxLb (vc_loB m i o g _ _) ?_
    rw[decide_eq_true hlt,bc_t,w1,show (getM (κ:=iI) (σ:=syS) o (i:Int)).isSome=false from hs]
    exact ⟨rfl,⟨hpre,hp⟩,nx.onlyR [(78,1155648)] rfl ⟨rfl,rfl,rfl,rfl,rfl,rfl,trivial⟩ ⟨rfl,rfl,rfl,trivial⟩⟩
  ·have e:lsS o i g=g:=if_neg hs
   rw[e] at nx ⊢
   have hs:(gMs o (i:Int)).isSome=true:=by
    cases h:(gMs o (i:Int)).isSome with
    | true=>rfl
    | false=>exact absurd h hs
   refine sy_go cxLa (vc_loA m i o g _ _) ?_
   rw[decide_eq_true hlt,bc_t,w1,show (getM (κ:=iI) (σ:=syS) o (i:Int)).isSome=true from hs]
   exact nx.only ⟨rfl,rfl,rfl,rfl,rfl,rfl,trivial⟩ ⟨rfl,rfl,rfl,trivial⟩
theorem loN_loop (m:Nat) (hm:m≤65536) (o:MpS):∀ (k i:Nat),m-i=k→i≤m →
  GD 27 Tryz.f27 (LoQ (lsF o k i [])) (hd Tryz.f27 0) (loN m o i):=by
 intro k
 induction k with
 | zero=>
  intro i hk hi
  refine sy_go cxLb (vc_loN m i o _ _) ?_
  rw[decide_eq_false (by omega),bc_f]
  exact .inl ⟨rfl,rfl⟩
 | succ k ih=>
  intro i hk hi
  have hlt:(i:Int)<(m:Int):=by omega
  have w1:IntKind.i64.wrap ((i:Int)+1)=((i+1:Nat):Int):=by rw[IntWalk.i64_in _ (by omega)];omega
  rw[lsF]
  refine sy_go cxLb (vc_loN m i o _ _) ?_
  rw[decide_eq_true hlt,bc_t,w1]
  by_cases hs:(gMs o (i:Int)).isSome=false
  ·have e:lsS o i []=[((i:Int),(i:Int)+1)]:=by rw[lsS,if_pos hs];rfl
   rw[show (getM (κ:=iI) (σ:=syS) o (i:Int)).isSome=false from hs,e]
   have nx:=loW_loop m hm o k (i+1) [((i:Int),(i:Int)+1)] (by omega) (by omega) (by simp)
   exact ⟨⟨⟨by omega,by omega,(show (0:Nat)<268435456 by decide)⟩,fun h=>absurd h.1 (Nat.lt_irrefl 0)⟩,nx.onlyR [(78,1155648)] rfl ⟨rfl,rfl,rfl,rfl,rfl,rfl,trivial⟩ ⟨rfl,rfl,rfl,trivial⟩⟩
  ·have e:lsS o i []=[]:=if_neg hs
   have hs:(gMs o (i:Int)).isSome=true:=by
    cases h:(gMs o (i:Int)).isSome with
    | true=>rfl
    | false=>exact absurd h hs
   rw[show (getM (κ:=iI) (σ:=syS) o (i:Int)).isSome=true from hs,e]
   exact (ih (i+1) (by omega) (by omega)).only ⟨rfl,rfl,rfl,rfl,rfl,rfl,trivial⟩ ⟨rfl,rfl,trivial⟩
theorem lo_run (li:Bool) (m n:Int) (l:List OpT):GD 27 Tryz.f27 (QC ctLs ((li,m,n,l),())) [.code (bodyOf Tryz.f27)] (entry [paS] ((li,m,n,l),())):=by
 refine sy_go cxLo (vc_lo li m n l _ _) ?_
 refine ⟨trivial,bc_of (fun h=>?_) (fun h=>?_)⟩
 ·have h:(symV (li,m,n,l)).2≠0:=of_decide_eq_true h
  have e:losV (li,m,n,l)=([],(symV (li,m,n,l)).2):=if_neg h
  refine qc_nilI (e:=rgS) (et:=81) (z:=(symV (li,m,n,l)).2) ?_ ?_ rfl (by decide)
  ·show [_,_]=_;rw[e];rfl
  ·show [_]=_;rw[e]
 ·have h:(symV (li,m,n,l)).2=0:=by
   have h:¬ (symV (li,m,n,l)).2≠0:=of_decide_eq_false h
   simpa using h
  have hc:(chkV (li,m,n,l)).2=0:=by
   unfold symV at h
   split at h
   ·assumption
   ·exact h
  have hin:=chkV_in hc
  simp only at hin
  have e:losV (li,m,n,l)=(lsF (kpF 0 (symV (li,m,n,l)).1 []) m.toNat 0 [],0):=if_pos h
  refine ⟨rfl,(show List.length (symV (li,m,n,l)).1<16777216 by have:=symV_le (li,m,n,l);omega),?_⟩
  have g:=loN_loop m.toNat (by omega) (kpF 0 (symV (li,m,n,l)).1 []) m.toNat 0 rfl (Nat.zero_le _)
  rw[Int.toNat_of_nonneg hin.1] at g
  refine (g.post fun rs blk hq=>?_).onlyR [(77,1090112)] rfl ⟨rfl,rfl,rfl,rfl,rfl,rfl,trivial⟩ ⟨rfl,rfl,trivial⟩
  rcases hq with ⟨h1,rfl⟩ | ⟨rfl,h2⟩
  ·refine qc_nilI (e:=rgS) (et:=81) (z:=0) ?_ ?_ rfl (by decide)
   ·show [_,_]=_;rw[e,h1];rfl
   ·show [_]=_;rw[e,h1]
  ·refine qc_rowI (e:=rgS) (et:=81) (a:=78) (z:=0) (xs:=lsF (kpF 0 (symV (li,m,n,l)).1 []) m.toNat 0 []) ?_ ?_ rfl rfl h2
   ·show [_,_]=_;rw[e]
   ·show [_]=_;rw[e]
theorem lo_held:Held Tryz.prog G0 27 ctLs:=Held.of cxLo (fn:=Tryz.f27) rfl rfl ⟨by decide,by decide⟩ fun ⟨⟨li,m,n,l⟩,_⟩ _=>lo_run li m n l
end Go.Proofs.YtncocpjkaggnjaaGreatDoor
namespace Go.Proofs.YtncocpjkaggnjaaGreatDoor
open Go.Px Go.Ax
set_option maxRecDepth 100000
def preE (b:List Int):Prop:=b.length % 4≠0∧b.length≤65536
def ctWoE:Ctr:=⟨[.sl uB],fun x=>preE x.1,fun _=>[.sl (.int .u32) [],.int .i64 61],fun _=>[]⟩
def ctLiE:Ctr:=⟨[.sl uB],fun x=>preE x.1,fun _=>[.agg [.sl (.int .u32) [],.sl .bool [],.sl iI []],.int .i64 30],fun _=>[]⟩
def ctAlE:Ctr:=⟨[.sl uB,iI,.sl syS],fun x=>preE x.1,fun _=>[.win true uB 0 0 0,.int .i64 30],fun _=>[.row 5 uB []]⟩
set_option maxRecDepth 100000
theorem vc_woE (b:List Int) (Q:QT) (R:RT):sy tt G0 [] Tryz.f50.ntmps Tryz.f50.results.toList Q R 1000 [.code (bodyOf Tryz.f50)] (entry [.sl uB] (b,())) =
  ((4:Int)≠(0:Int) ∧
 bc (decide ((b.length:Int).tmod (4:Int)≠(0:Int))) (Q [.nils,.int .i64 61] []) ((4:Int)≠(0:Int) ∧
 (0:Int)≤(0:Int) ∧
 (0:Int)≤IntKind.i64.wrap ((b.length:Int).tdiv (4:Int)) ∧
 IntKind.i64.wrap ((b.length:Int).tdiv (4:Int))<(2:Int) ^ (24:Nat) ∧
 (↑(4:Nat):Int)*IntKind.i64.wrap ((b.length:Int).tdiv (4:Int))≤(2:Int) ^ (48:Nat) ∧
 R (hd Tryz.f50 0) { env:=[(0,.sl uB b),(2,.nils),(3,.int .i64 0),(4,.win true (Sh.int IntKind.u32) (12:Nat) (0:Nat) (0:Nat)),(5,.sl uB b),(6,.int .i64 (b.length:Int)),(7,.int .i64 ((b.length:Int).tmod (4:Int))),(8,.bool (decide ((b.length:Int).tmod (4:Int)≠(0:Int)))),(9,.sl uB b),(10,.int .i64 (b.length:Int)),(11,.int .i64 (IntKind.i64.wrap ((b.length:Int).tdiv (4:Int)))),(12,.win true (Sh.int IntKind.u32) (12:Nat) (0:Nat) (0:Nat))],blk:=[(12,.row 96 (Sh.int IntKind.u32) (List.replicate (0) (Sh.int IntKind.u32).dflt))] })):=by kernel_rfl
theorem vc_liE (b:List Int) (Q:QT) (R:RT):sy tt G0 [(50,.inl ctWoE)] Tryz.f17.ntmps Tryz.f17.results.toList Q R 1000 [.code (bodyOf Tryz.f17)] (entry [.sl uB] (b,())) =
  (bc (decide ((65536:Int)<(b.length:Int))) (Q [.agg [.nils,.nils,.nils],.int .i64 30] [(2,.var [.nils,.nils,.nils])]) (ctWoE.pre (b,()) ∧
 Q [.agg [.nils,.nils,.nils],.int .i64 30] [(2,.var [.nils,.nils,.nils])])):=by kernel_rfl
theorem vc_alE (b:List Int) (m:Int) (l:List SyT) (Q:QT) (R:RT):sy tt G0 [(17,.inl ctLiE)] Tryz.f44.ntmps Tryz.f44.results.toList Q R 1000 [.code (bodyOf Tryz.f44)] (entry [.sl uB,iI,.sl syS] (b,m,l,())) =
  (ctLiE.pre (b,()) ∧
 Q [.nils,.int .i64 30] [(8,.var [.sl (Sh.int IntKind.u32) [],.sl Sh.bool [],.sl iI []])]):=by kernel_rfl
theorem vc_apE (b:List Int) (m o:Int) (l:List OpT) (Q:QT) (R:RT):sy tt G0 [(44,.inl ctAlE),(15,.inl ctSym)] Tryz.f14.ntmps Tryz.f14.results.toList Q R 1000 [.code (bodyOf Tryz.f14)] (entry [.sl uB,paS] (b,(true,m,o,l),())) =
  (ctSym.pre ((true,m,o,l),()) ∧
 bc (decide ((symV (true,m,o,l)).2≠(0:Int))) (Q [.nils,.int .i64 (symV (true,m,o,l)).2] [(3,.var [.bool true,.int .i64 m,.int .i64 o,.sl opS l]),(1040960,.row 83 syS (symV (true,m,o,l)).1)]) (0+(symV (true,m,o,l)).1.length≤(symV (true,m,o,l)).1.length ∧
 ctAlE.pre (b,m,winL syS 0 (symV (true,m,o,l)).1.length (symV (true,m,o,l)).1,()) ∧
 Q [.win true uB 1090112 0 0,.int .i64 30] [(3,.var [.bool true,.int .i64 m,.int .i64 o,.sl opS l]),(1040960,.row 83 syS (symV (true,m,o,l)).1),(1090112,.row 5 uB [])])):=by kernel_rfl
end Go.Proofs.YtncocpjkaggnjaaGreatDoor
namespace Go.Proofs.YtncocpjkaggnjaaGreatDoor
open Go.Px Go.Ax
set_option maxRecDepth 100000
attribute [local irreducible] Go.Px.sy Go.Px.syE
theorem woE_held:Held Tryz.prog G0 50 ctWoE:=by
 refine Held.run cx0 (fn:=Tryz.f50) rfl rfl ⟨by decide,by decide⟩ ?_
 rintro ⟨b,⟨⟩⟩ hp
 replace hp:preE b:=hp
 obtain ⟨h1,h2⟩:=hp
 refine (vc_woE b _ _).mpr ⟨by decide,?_⟩
 rw[decide_eq_true (show (b.length:Int).tmod 4≠0 by rw[Int.tmod_eq_emod_of_nonneg (by omega)];omega),bc_t]
 exact QC.mt ⟨_,_,rfl,.inr ⟨rfl,rfl⟩,_,_,rfl,rfl,rfl⟩ rfl
theorem liE_held:Held Tryz.prog G0 17 ctLiE:=by
 refine Held.run (cx0.cons woE_held (fn:=Tryz.f50) rfl rfl rfl) (fn:=Tryz.f17) rfl rfl ⟨by decide,by decide⟩ ?_
 rintro ⟨b,⟨⟩⟩ hp
 replace hp:preE b:=hp
 refine (vc_liE b _ _).mpr ?_
 rw[decide_eq_false (by have:=hp.2;omega),bc_f]
 refine ⟨hp,?_⟩
 exact QC.mt ⟨_,_,rfl,⟨_,rfl,_,_,rfl,.inr ⟨rfl,rfl⟩,_,_,rfl,.inr ⟨rfl,rfl⟩,_,_,rfl,.inr ⟨rfl,rfl⟩,rfl⟩,_,_,rfl,rfl,rfl⟩ rfl
theorem alE_held:Held Tryz.prog G0 44 ctAlE:=by
 refine Held.run (cx0.cons liE_held (fn:=Tryz.f17) rfl rfl rfl) (fn:=Tryz.f44) rfl rfl ⟨by decide,by decide⟩ ?_
 rintro ⟨b,m,l,⟨⟩⟩ hp
 replace hp:preE b:=hp
 refine (vc_alE b m l _ _).mpr ⟨hp,?_⟩
 exact qc_nilI (e:=uB) (et:=5) (z:=30) rfl rfl rfl (by decide)
def apW (old:List Int) (p:PaT):List Int × Int:=if p.1=true then (if (symV p).2≠0 then ([],(symV p).2) else ([],30)) else apV old p
def preAW (old:List Int) (p:PaT):Prop:=p.1=false∨preE old
def ctApW:Ctr:=⟨[.sl uB,paS],fun x=>preAW x.1 x.2.1,fun x=>[.win true uB 0 0 (apW x.1 x.2.1).1.length,.int .i64 (apW x.1 x.2.1).2],fun x=>[.row 5 uB (apW x.1 x.2.1).1]⟩
theorem apE_held (b:List Int) (m o:Int) (l:List OpT) (hp:preE b) (R:List Item→PS→Prop):sy tt G0 [(44,.inl ctAlE),(15,.inl ctSym)] Tryz.f14.ntmps Tryz.f14.results.toList (QC ctApW (b,(true,m,o,l),())) R 1000 [.code (bodyOf Tryz.f14)] (entry [.sl uB,paS] (b,(true,m,o,l),())):=by
 refine (vc_apE b m o l _ _).mpr ⟨trivial,bc_of (fun h=>?_) (fun h=>⟨by omega,hp,?_⟩)⟩
 ·have h:(symV (true,m,o,l)).2≠0:=of_decide_eq_true h
  have hv:apW b (true,m,o,l)=([],(symV (true,m,o,l)).2):=by rw[apW,if_pos rfl,if_pos h]
  refine qc_nilI (e:=uB) (et:=5) (z:=(symV (true,m,o,l)).2) ?_ ?_ rfl (by decide)
  ·show [_,_]=_;rw[hv];rfl
  ·show [_]=_;rw[hv]
 ·have h:¬ (symV (true,m,o,l)).2≠0:=of_decide_eq_false h
  have hv:apW b (true,m,o,l)=([],30):=by rw[apW,if_pos rfl,if_neg h]
  refine qc_rowI (e:=uB) (et:=5) (a:=1090112) (z:=30) (xs:=[]) ?_ ?_ rfl rfl rfl
  ·show [_,_]=_;rw[hv]
  ·show [_]=_;rw[hv]
def ctApE:Ctr:=⟨[.sl uB,paS],fun x=>x.2.1.1=true∧preE x.1,fun x=>[.win true uB 0 0 (apW x.1 x.2.1).1.length,.int .i64 (apW x.1 x.2.1).2],fun x=>[.row 5 uB (apW x.1 x.2.1).1]⟩
theorem apE_h:Held Tryz.prog G0 14 ctApE:=by
 refine Held.run ((cx0.cons sym_held (fn:=Tryz.f15) rfl rfl rfl).cons alE_held (fn:=Tryz.f44) rfl rfl rfl) (fn:=Tryz.f14) rfl rfl ⟨by decide,by decide⟩ ?_
 rintro ⟨b,⟨li,m,o,l⟩,⟨⟩⟩ hp
 obtain ⟨h1,h2⟩:=hp
 replace h1:li=true:=h1
 subst h1
 exact apE_held b m o l h2 _
theorem apW_held:Held Tryz.prog G0 14 ctApW:=fun x hp=>by
 obtain ⟨b,⟨li,m,o,l⟩,⟨⟩⟩:=x
 cases li with
 | false=>exact ap_held (b,(false,m,o,l),()) rfl
 | true=>
  have hp:preE b:=by
   have hp:preAW b (true,m,o,l):=hp
   exact hp.resolve_left (fun h=>by cases h)
  exact apE_h (b,(true,m,o,l),()) ⟨rfl,hp⟩
end Go.Proofs.YtncocpjkaggnjaaGreatDoor
namespace Go.Proofs.YtncocpjkaggnjaaGreatDoor
open Go.Px Go.Ax
set_option maxRecDepth 100000
def ctIo0:Ctr:=⟨[.sl uB,.bool],fun x=>x.2.1=false,fun x=>[.sl uB x.1],fun _=>[]⟩
set_option maxRecDepth 100000
theorem vc_io (old:List Int) (Q:QT) (R:RT):sy tt G0 [] Tryz.f60.ntmps Tryz.f60.results.toList Q R 1000 [.code (bodyOf Tryz.f60)] (entry [.sl uB,.bool] (old,false,())) =
  (Q [.sl uB old] []):=by kernel_rfl
end Go.Proofs.YtncocpjkaggnjaaGreatDoor
namespace Go.Proofs.YtncocpjkaggnjaaGreatDoor
open Go.Px Go.Ax
set_option maxRecDepth 100000
def CIw:CV:=[(60,.inl ctIo0),(61,.inr ctKp),(59,.inr ctIs),(58,.inl ctCp),(14,.inl ctApW),(15,.inl ctSym)]
set_option maxRecDepth 100000
theorem vc_iv (old:List Int) (m o:Int) (l:List OpT) (Q:QT) (R:RT):sy tt G0 CIw Tryz.f25.ntmps Tryz.f25.results.toList Q R 1000 [.code (bodyOf Tryz.f25)] (entry [.sl uB,paS] (old,(false,m,o,l),())) =
  (ctApW.pre (old,(false,m,o,l),()) ∧
 bc (decide ((apW old (false,m,o,l)).2≠(0:Int))) (Q [.agg [.bool false,.int .i64 0,.int .i64 0,.nils],.int .i64 (apW old (false,m,o,l)).2] [(3,.var [.bool false,.int .i64 m,.int .i64 o,.sl opS l]),(4,.var [.bool false,.int .i64 0,.int .i64 0,.nils]),(1061440,.row 5 uB (apW old (false,m,o,l)).1)]) (ctSym.pre ((false,m,o,l),()) ∧
 ctIo0.pre (old,false,()) ∧
 (symV (false,m,o,l)).1.length=(symV (false,m,o,l)).1.length ∧
 ctKp.pre ((symV (false,m,o,l)).1,()) ∧
 ctIs.pre (old,(kpF (0:Nat) (symV (false,m,o,l)).1 []),()) ∧
 ctCp.pre (isF ((kpF (0:Nat) (symV (false,m,o,l)).1 [])) (0:Nat) old,o,()) ∧
 bc (decide ((cpV (isF ((kpF (0:Nat) (symV (false,m,o,l)).1 [])) (0:Nat) old) o).2≠(0:Int))) (Q [.agg [.bool false,.int .i64 0,.int .i64 0,.nils],.int .i64 (cpV (isF ((kpF (0:Nat) (symV (false,m,o,l)).1 [])) (0:Nat) old) o).2] [(3,.var [.bool false,.int .i64 m,.int .i64 o,.sl opS l]),(4,.var [.bool false,.int .i64 0,.int .i64 0,.nils]),(10,.var [.bool (cpV (isF ((kpF (0:Nat) (symV (false,m,o,l)).1 [])) (0:Nat) old) o).1.1,.int .i64 (cpV (isF ((kpF (0:Nat) (symV (false,m,o,l)).1 [])) (0:Nat) old) o).1.2.1,.int .i64 (cpV (isF ((kpF (0:Nat) (symV (false,m,o,l)).1 [])) (0:Nat) old) o).1.2.2.1,.sl opS (cpV (isF ((kpF (0:Nat) (symV (false,m,o,l)).1 [])) (0:Nat) old) o).1.2.2.2]),(1061440,.row 5 uB (apW old (false,m,o,l)).1)]) (Q [.agg [.bool false,.int .i64 (cpV (isF ((kpF (0:Nat) (symV (false,m,o,l)).1 [])) (0:Nat) old) o).1.2.1,.int .i64 (cpV (isF ((kpF (0:Nat) (symV (false,m,o,l)).1 [])) (0:Nat) old) o).1.2.2.1,.sl opS (cpV (isF ((kpF (0:Nat) (symV (false,m,o,l)).1 [])) (0:Nat) old) o).1.2.2.2],.int .i64 0] [(3,.var [.bool false,.int .i64 m,.int .i64 o,.sl opS l]),(4,.var [.bool false,.int .i64 (cpV (isF ((kpF (0:Nat) (symV (false,m,o,l)).1 [])) (0:Nat) old) o).1.2.1,.int .i64 (cpV (isF ((kpF (0:Nat) (symV (false,m,o,l)).1 [])) (0:Nat) old) o).1.2.2.1,.sl opS (cpV (isF ((kpF (0:Nat) (symV (false,m,o,l)).1 [])) (0:Nat) old) o).1.2.2.2]),(10,.var [.bool false,.int .i64 (cpV (isF ((kpF (0:Nat) (symV (false,m,o,l)).1 [])) (0:Nat) old) o).1.2.1,.int .i64 (cpV (isF ((kpF (0:Nat) (symV (false,m,o,l)).1 [])) (0:Nat) old) o).1.2.2.1,.sl opS (cpV (isF ((kpF (0:Nat) (symV (false,m,o,l)).1 [])) (0:Nat) old) o).1.2.2.2]),(1061440,.row 5 uB (apW old (false,m,o,l)).1)]))):=by kernel_rfl
theorem vc_ivE (old:List Int) (m o:Int) (l:List OpT) (Q:QT) (R:RT):sy tt G0 CIw Tryz.f25.ntmps Tryz.f25.results.toList Q R 1000 [.code (bodyOf Tryz.f25)] (entry [.sl uB,paS] (old,(true,m,o,l),())) =
  (ctApW.pre (old,(true,m,o,l),()) ∧
 bc (decide ((apW old (true,m,o,l)).2≠(0:Int))) (Q [.agg [.bool false,.int .i64 0,.int .i64 0,.nils],.int .i64 (apW old (true,m,o,l)).2] [(3,.var [.bool true,.int .i64 m,.int .i64 o,.sl opS l]),(4,.var [.bool false,.int .i64 0,.int .i64 0,.nils]),(1061440,.row 5 uB (apW old (true,m,o,l)).1)]) (ctSym.pre ((true,m,o,l),()) ∧
 ctIo0.pre (old,true,()) ∧
 (symV (true,m,o,l)).1.length=(symV (true,m,o,l)).1.length ∧
 ctKp.pre ((symV (true,m,o,l)).1,()) ∧
 ctIs.pre (old,(kpF (0:Nat) (symV (true,m,o,l)).1 []),()) ∧
 ctCp.pre (isF ((kpF (0:Nat) (symV (true,m,o,l)).1 [])) (0:Nat) old,o,()) ∧
 bc (decide ((cpV (isF ((kpF (0:Nat) (symV (true,m,o,l)).1 [])) (0:Nat) old) o).2≠(0:Int))) (Q [.agg [.bool false,.int .i64 0,.int .i64 0,.nils],.int .i64 (cpV (isF ((kpF (0:Nat) (symV (true,m,o,l)).1 [])) (0:Nat) old) o).2] [(3,.var [.bool true,.int .i64 m,.int .i64 o,.sl opS l]),(4,.var [.bool false,.int .i64 0,.int .i64 0,.nils]),(10,.var [.bool (cpV (isF ((kpF (0:Nat) (symV (true,m,o,l)).1 [])) (0:Nat) old) o).1.1,.int .i64 (cpV (isF ((kpF (0:Nat) (symV (true,m,o,l)).1 [])) (0:Nat) old) o).1.2.1,.int .i64 (cpV (isF ((kpF (0:Nat) (symV (true,m,o,l)).1 [])) (0:Nat) old) o).1.2.2.1,.sl opS (cpV (isF ((kpF (0:Nat) (symV (true,m,o,l)).1 [])) (0:Nat) old) o).1.2.2.2]),(1061440,.row 5 uB (apW old (true,m,o,l)).1)]) (Q [.agg [.bool true,.int .i64 (cpV (isF ((kpF (0:Nat) (symV (true,m,o,l)).1 [])) (0:Nat) old) o).1.2.1,.int .i64 (cpV (isF ((kpF (0:Nat) (symV (true,m,o,l)).1 [])) (0:Nat) old) o).1.2.2.1,.sl opS (cpV (isF ((kpF (0:Nat) (symV (true,m,o,l)).1 [])) (0:Nat) old) o).1.2.2.2],.int .i64 0] [(3,.var [.bool true,.int .i64 m,.int .i64 o,.sl opS l]),(4,.var [.bool true,.int .i64 (cpV (isF ((kpF (0:Nat) (symV (true,m,o,l)).1 [])) (0:Nat) old) o).1.2.1,.int .i64 (cpV (isF ((kpF (0:Nat) (symV (true,m,o,l)).1 [])) (0:Nat) old) o).1.2.2.1,.sl opS (cpV (isF ((kpF (0:Nat) (symV (true,m,o,l)).1 [])) (0:Nat) old) o).1.2.2.2]),(10,.var [.bool true,.int .i64 (cpV (isF ((kpF (0:Nat) (symV (true,m,o,l)).1 [])) (0:Nat) old) o).1.2.1,.int .i64 (cpV (isF ((kpF (0:Nat) (symV (true,m,o,l)).1 [])) (0:Nat) old) o).1.2.2.1,.sl opS (cpV (isF ((kpF (0:Nat) (symV (true,m,o,l)).1 [])) (0:Nat) old) o).1.2.2.2]),(1061440,.row 5 uB (apW old (true,m,o,l)).1)]))):=by kernel_rfl
end Go.Proofs.YtncocpjkaggnjaaGreatDoor
namespace Go.Proofs.YtncocpjkaggnjaaGreatDoor
open Go.Px Go.Ax
set_option maxRecDepth 100000
attribute [local irreducible] Go.Px.sy Go.Px.syE
abbrev z0P:PaT:=(false,0,0,[])
theorem io_held:Held Tryz.prog G0 60 ctIo0:=by
 refine Held.run cx0 (fn:=Tryz.f60) rfl rfl ⟨by decide,by decide⟩ ?_
 rintro ⟨b,li,⟨⟩⟩ hp
 replace hp:li=false:=hp
 subst hp
 exact (vc_io b _ _).mpr (QC.flat rfl rfl rfl)
theorem cxIw:CxOK Tryz.prog tt G0 CIw:=(((((cx0.cons sym_held (fn:=Tryz.f15) rfl rfl rfl).cons apW_held (fn:=Tryz.f14) rfl rfl rfl).cons cp_held (fn:=Tryz.f58) rfl rfl rfl).consI is_held (fn:=Tryz.f59) rfl rfl rfl).consI kp_held (fn:=Tryz.f61) rfl rfl rfl).cons io_held (fn:=Tryz.f60) rfl rfl rfl
def ivS (old:List Int) (p:PaT):List SyT:=isF (kpF 0 (symV p).1 []) 0 old
def ivV (old:List Int) (p:PaT):PaT × Int:=
 if (apW old p).2≠0 then (z0P,(apW old p).2) else if (cpV (ivS old p) p.2.2.1).2≠0 then (z0P,(cpV (ivS old p) p.2.2.1).2) else
  ((p.1,(cpV (ivS old p) p.2.2.1).1.2.1,(cpV (ivS old p) p.2.2.1).1.2.2.1,(cpV (ivS old p) p.2.2.1).1.2.2.2),0)
def ctIv:Ctr:=⟨[.sl uB,paS],fun x=>preAW x.1 x.2.1,fun x=>[paV (ivV x.1 x.2.1).1,.int .i64 (ivV x.1 x.2.1).2],fun _=>[]⟩
theorem apW_pl {old:List Int} {m o:Int} {l:List OpT} (h:(apW old (false,m,o,l)).2=0):(chkV (false,m,o,l)).2=0∧(old.length:Int)=m:=by
 rw[apW,if_neg (show ¬ (false:Bool)=true by decide)] at h
 unfold apV at h
 split at h
 ·rename_i h1
  have hc:(chkV (false,m,o,l)).2=0:=by
   unfold symV at h1
   split at h1
   ·assumption
   ·exact h1
  refine ⟨hc,?_⟩
  unfold plV at h
  split at h
  ·assumption
  ·cases h
 ·rename_i h1
  exact absurd h h1
theorem iv_err {old:List Int} {p:PaT} {z:Int} {bl:List (Nat × LB)} (h:ivV old p=(z0P,z)):QC ctIv (old,p,()) [.agg [.bool false,.int .i64 0,.int .i64 0,.nils],.int .i64 z] bl:=
 QC.mt (by show MtL _ [paV (ivV old p).1,.int .i64 (ivV old p).2] _;rw[h];exact zero_mt _) rfl
theorem iv_run (old:List Int) (m o:Int) (l:List OpT) (R:List Item→PS→Prop):sy tt G0 CIw Tryz.f25.ntmps Tryz.f25.results.toList (QC ctIv (old,(false,m,o,l),())) R 1000 [.code (bodyOf Tryz.f25)] (entry [.sl uB,paS] (old,(false,m,o,l),())):=by
 refine (vc_iv old m o l _ _).mpr ⟨.inl rfl,bc_of (fun h=>?_) (fun h=>?_)⟩
 ·have h:(apW old (false,m,o,l)).2≠0:=of_decide_eq_true h
  exact iv_err (if_pos h)
 ·have h:¬ (apW old (false,m,o,l)).2≠0:=of_decide_eq_false h
  have h0:(apW old (false,m,o,l)).2=0:=by simpa using h
  obtain ⟨hc,hl⟩:=apW_pl h0
  have hin:=chkV_in hc
  simp only at hin
  have hs:=symV_le (false,m,o,l)
  have hv:ivV old (false,m,o,l)=if (cpV (ivS old (false,m,o,l)) o).2≠0 then (z0P,(cpV (ivS old (false,m,o,l)) o).2) else ((false,(cpV (ivS old (false,m,o,l)) o).1.2.1,(cpV (ivS old (false,m,o,l)) o).1.2.2.1,(cpV (ivS old (false,m,o,l)) o).1.2.2.2),0):=if_neg h
  refine ⟨trivial,rfl,rfl,(show List.length (symV (false,m,o,l)).1<16777216 by omega),(show old.length<16777216 by omega),?_,bc_of (fun h2=>?_) (fun h2=>?_)⟩
  ·show List.length (isF _ 0 old)<16777216
   rw[isF_len];omega
  ·have h2:(cpV (ivS old (false,m,o,l)) o).2≠0:=of_decide_eq_true h2
   exact iv_err (by rw[hv,if_pos h2];rfl)
  ·have h2:¬ (cpV (ivS old (false,m,o,l)) o).2≠0:=of_decide_eq_false h2
   refine QC.flat ?_ rfl rfl
   show [paV (ivV old (false,m,o,l)).1,.int .i64 (ivV old (false,m,o,l)).2]=_
   rw[hv,if_neg h2]
   rfl
theorem iv_runE (old:List Int) (m o:Int) (l:List OpT) (hp:preE old) (R:List Item→PS→Prop):sy tt G0 CIw Tryz.f25.ntmps Tryz.f25.results.toList (QC ctIv (old,(true,m,o,l),())) R 1000 [.code (bodyOf Tryz.f25)] (entry [.sl uB,paS] (old,(true,m,o,l),())):=by
 have h:(apW old (true,m,o,l)).2≠0:=by
  rw[apW,if_pos rfl]
  split
  ·assumption
  ·decide
 refine (vc_ivE old m o l _ _).mpr ⟨.inr hp,?_⟩
 rw[decide_eq_true h,bc_t]
 exact iv_err (if_pos h)
theorem iv_held:Held Tryz.prog G0 25 ctIv:=by
 refine Held.run cxIw (fn:=Tryz.f25) rfl rfl ⟨by decide,by decide⟩ ?_
 rintro ⟨old,⟨li,m,o,l⟩,⟨⟩⟩ hp
 replace hp:preAW old (li,m,o,l):=hp
 cases li with
 | false=>exact iv_run old m o l _
 | true=>exact iv_runE old m o l (hp.resolve_left (fun h=>by cases h)) _
end Go.Proofs.YtncocpjkaggnjaaGreatDoor
namespace Go.Proofs.YtncocpjkaggnjaaGreatDoor
open Go.Px Go.Ax
set_option maxRecDepth 100000
set_option maxRecDepth 100000
theorem vc_sr (x y:List (Int × Int)) (Q:QT) (R:RT):sy tt G0 [] Tryz.f30.ntmps Tryz.f30.results.toList Q R 1000 [.code (bodyOf Tryz.f30)] (entry [.sl rgS,.sl rgS] (x,y,())) =
  (bc (decide ((x.length:Int)≠(y.length:Int))) (Q [.bool false] []) (R (hd Tryz.f30 0) { env:=[(0,.sl rgS x),(1,.sl rgS y),(4,.bool false),(5,.int .i64 0),(6,.sl rgS x),(7,.int .i64 (x.length:Int)),(8,.sl rgS y),(9,.int .i64 (y.length:Int)),(10,.bool (decide ((x.length:Int)≠(y.length:Int))))],blk:=[] })):=by kernel_rfl
theorem vc_srL (x y:List (Int × Int)) (i:Int) (Q:QT) (R:RT):sy tt G0 [] Tryz.f30.ntmps Tryz.f30.results.toList Q R 1000 (hd Tryz.f30 0) ⟨[(0,.sl rgS x),(1,.sl rgS y),(5,.int .i64 i)],[]⟩ =
  (bc (decide (i<(x.length:Int))) ((0:Int)≤i ∧
 i<(x.length:Int) ∧
 (0:Int)≤i ∧
 i<(y.length:Int) ∧
 bc (!decide ([(gtR x i.toNat).1,(gtR x i.toNat).2]=[(gtR y i.toNat).1,(gtR y i.toNat).2])) (Q [.bool false] []) (R (hd Tryz.f30 0) { env:=[(0,.sl rgS x),(1,.sl rgS y),(5,.int .i64 (IntKind.i64.wrap (i+(1:Int)))),(11,.int .i64 i),(12,.sl rgS x),(13,.int .i64 (x.length:Int)),(14,.bool (decide (i<(x.length:Int)))),(15,.int .i64 i),(16,.int .i64 (IntKind.i64.wrap (i+(1:Int)))),(17,.sl rgS x),(18,.int .i64 i),(19,.elv rgS (gtR x i.toNat)),(20,.agg [.int .i64 (gtR x i.toNat).1,.int .i64 (gtR x i.toNat).2]),(21,.sl rgS y),(22,.int .i64 i),(23,.elv rgS (gtR y i.toNat)),(24,.agg [.int .i64 (gtR y i.toNat).1,.int .i64 (gtR y i.toNat).2]),(25,.bool !decide ([(gtR x i.toNat).1,(gtR x i.toNat).2]=[(gtR y i.toNat).1,(gtR y i.toNat).2]))],blk:=[] })) (Q [.bool true] [])):=by kernel_rfl
theorem vc_rr (x:List (Int × Int)) (n:Int) (Q:QT) (R:RT):sy tt G0 [] Tryz.f32.ntmps Tryz.f32.results.toList Q R 1000 [.code (bodyOf Tryz.f32)] (entry [.sl rgS,iI] (x,n,())) =
  (R (hd Tryz.f32 0) { env:=[(0,.sl rgS x),(1,.int .i64 n),(4,.bool false),(5,.int .i64 (-1:Int)),(6,.int .i64 0)],blk:=[] }):=by kernel_rfl
theorem vc_rrL (x:List (Int × Int)) (n la i:Int) (Q:QT) (R:RT):sy tt G0 [] Tryz.f32.ntmps Tryz.f32.results.toList Q R 1000 (hd Tryz.f32 0) ⟨[(0,.sl rgS x),(1,.int .i64 n),(5,.int .i64 la),(6,.int .i64 i)],[]⟩ =
  (bc (decide (i<(x.length:Int))) ((0:Int)≤i ∧
 i<(x.length:Int) ∧
 bc (decide ((gtR x i.toNat).1≤la)) (true=true ∧
 true=true ∧
 Q [.bool false] []) ((0:Int)≤i ∧
 i<(x.length:Int) ∧
 (0:Int)≤i ∧
 i<(x.length:Int) ∧
 bc (bif false then true else decide ((gtR x i.toNat).2≤(gtR x i.toNat).1)) (true=true ∧
 Q [.bool false] []) ((0:Int)≤i ∧
 i<(x.length:Int) ∧
 bc (bif false then true else decide (n<(gtR x i.toNat).2)) (Q [.bool false] []) ((0:Int)≤i ∧
 i<(x.length:Int) ∧
 R (hd Tryz.f32 0) { env:=[(0,.sl rgS x),(1,.int .i64 n),(5,.int .i64 (gtR x i.toNat).2),(6,.int .i64 (IntKind.i64.wrap (i+(1:Int)))),(7,.int .i64 i),(8,.sl rgS x),(9,.int .i64 (x.length:Int)),(10,.bool (decide (i<(x.length:Int)))),(11,.int .i64 i),(12,.int .i64 (IntKind.i64.wrap (i+(1:Int)))),(13,.sl rgS x),(14,.int .i64 i),(15,.elv rgS (gtR x i.toNat)),(16,.elv iI (gtR x i.toNat).1),(17,.int .i64 (gtR x i.toNat).1),(18,.int .i64 la),(19,.bool (decide ((gtR x i.toNat).1≤la))),(20,.bool false),(21,.sl rgS x),(22,.int .i64 i),(23,.elv rgS (gtR x i.toNat)),(24,.elv iI (gtR x i.toNat).2),(25,.int .i64 (gtR x i.toNat).2),(26,.sl rgS x),(27,.int .i64 i),(28,.elv rgS (gtR x i.toNat)),(29,.elv iI (gtR x i.toNat).1),(30,.int .i64 (gtR x i.toNat).1),(31,.bool (decide ((gtR x i.toNat).2≤(gtR x i.toNat).1))),(32,.bool (bif false then true else decide ((gtR x i.toNat).2≤(gtR x i.toNat).1))),(33,.bool false),(34,.sl rgS x),(35,.int .i64 i),(36,.elv rgS (gtR x i.toNat)),(37,.elv iI (gtR x i.toNat).2),(38,.int .i64 (gtR x i.toNat).2),(39,.int .i64 n),(40,.bool (decide (n<(gtR x i.toNat).2))),(41,.bool (bif false then true else decide (n<(gtR x i.toNat).2))),(42,.sl rgS x),(43,.int .i64 i),(44,.elv rgS (gtR x i.toNat)),(45,.elv iI (gtR x i.toNat).2),(46,.int .i64 (gtR x i.toNat).2)],blk:=[] })))) (Q [.bool true] [])):=by kernel_rfl
theorem vc_two (n:Int) (l:List (List Int)) (b:List Int) (Q:QT) (R:RT):sy tt G0 [(11,.inl ctM6),(55,.inl ctInp)] Tryz.f22.ntmps Tryz.f22.results.toList Q R 1000 [.code (bodyOf Tryz.f22)] (entry [raS,.sl uB] ((n,l),b,())) =
  (ctM6.pre ((n,l),()) ∧
 ctInp.pre (b,(szV l (n % (13:Int))).2.1,()) ∧
 Q [.agg [.bool (szV l (n % (13:Int))).1,.int .i64 (szV l (n % (13:Int))).2.1,.int .i64 (szV l (n % (13:Int))).2.2.1,.sl opS (szV l (n % (13:Int))).2.2.2],.win true uB 1053248 0 (inpL b (szV l (n % (13:Int))).2.1.toNat).length] [(2,.var [.int .u8 n,.sl (Sh.arr (4:Nat) uB) l]),(4,.var [.bool (szV l (n % (13:Int))).1,.int .i64 (szV l (n % (13:Int))).2.1,.int .i64 (szV l (n % (13:Int))).2.2.1,.sl opS (szV l (n % (13:Int))).2.2.2]),(6,.var [.bool (szV l (n % (13:Int))).1,.int .i64 (szV l (n % (13:Int))).2.1,.int .i64 (szV l (n % (13:Int))).2.2.1,.sl opS (szV l (n % (13:Int))).2.2.2]),(1053248,.row 5 uB (inpL b (szV l (n % (13:Int))).2.1.toNat))]):=by kernel_rfl
end Go.Proofs.YtncocpjkaggnjaaGreatDoor
namespace Go.Proofs.YtncocpjkaggnjaaGreatDoor
open Go.Px Go.Ax
set_option maxRecDepth 100000
attribute [local irreducible] Go.Px.sy Go.Px.syE
theorem rg_eq {s t:Int × Int}:([s.1,s.2]=[t.1,t.2])↔s=t:=by
 obtain ⟨a,b⟩:=s
 obtain ⟨c,d⟩:=t
 simp
def ctSr:Ctr:=⟨[.sl rgS,.sl rgS],fun x=>List.length x.1<1099511627776,fun x=>[.bool (decide ((show List (Int × Int) from x.1)=x.2.1))],fun _=>[]⟩
theorem sr_loop (x y:List (Int × Int)) (hl:x.length<1099511627776) (he:x.length=y.length):∀ (k i:Nat),x.length-i=k→i≤x.length→x.take i=y.take i →
  GD 30 Tryz.f30 (fun rs _=>rs=[.bool (decide (x=y))]) (hd Tryz.f30 0) ⟨[(0,.sl rgS x),(1,.sl rgS y),(5,.int .i64 (i:Nat))],[]⟩:=by
 intro k
 induction k with
 | zero=>
  intro i hk hi ht
  refine sy_sound cx0 _ _ _ ((vc_srL x y i _ _).mpr ?_)
  rw[decide_eq_false (show ¬ (i:Int)<(x.length:Int) by omega),bc_f]
  rw[List.take_of_length_le (by omega),List.take_of_length_le (by omega)] at ht
  show [SV.bool true]=_
  rw[decide_eq_true ht]
 | succ k ih=>
  intro i hk hi ht
  have hx:i<x.length:=by omega
  have hy:i<y.length:=by omega
  refine sy_sound cx0 _ _ _ ((vc_srL x y i _ _).mpr ?_)
  rw[decide_eq_true (show (i:Int)<(x.length:Int) by omega),bc_t,Int.toNat_natCast,gtR_at hx,gtR_at hy,IntWalk.i64_in ((i:Int)+1) (by omega)]
  refine ⟨by omega,by omega,by omega,by omega,bc_of (fun h=>?_) (fun h=>?_)⟩
  ·have h:¬ x[i]=y[i]:=fun q=>by
    rw[decide_eq_true (rg_eq.2 q)] at h;cases h
   show [SV.bool false]=_
   rw[decide_eq_false (fun q=>h (by simp only[q]))]
  ·have h:x[i]=y[i]:=by
    have h:(!decide ([x[i].1,x[i].2]=[y[i].1,y[i].2]))=false:=h
    rw[Bool.not_eq_false'] at h
    exact rg_eq.1 (of_decide_eq_true h)
   exact (ih (i+1) (by omega) (by omega) (by rw[List.take_succ_eq_append_getElem hx,List.take_succ_eq_append_getElem hy,ht,h])).only ⟨rfl,rfl,rfl,trivial⟩ trivial
theorem sr_held:Held Tryz.prog G0 30 ctSr:=by
 refine Held.run cx0 (fn:=Tryz.f30) rfl rfl ⟨by decide,by decide⟩ ?_
 rintro ⟨x,y,⟨⟩⟩ hp
 replace hp:x.length<1099511627776:=hp
 refine (vc_sr x y _ _).mpr (bc_of (fun h=>?_) (fun h=>?_))
 ·have h:(x.length:Int)≠y.length:=of_decide_eq_true h
  refine QC.flat ?_ rfl rfl
  show [SV.bool (decide (x=y))]=_
  rw[decide_eq_false (fun q=>h (by rw[q]))]
 ·have h:¬ (x.length:Int)≠y.length:=of_decide_eq_false h
  have h:x.length=y.length:=by omega
  exact ((sr_loop x y hp h _ 0 rfl (by omega) rfl).post fun rs blk hq=>QC.flat (by rw[hq];rfl) rfl (by rw[hq];rfl)).only ⟨rfl,rfl,rfl,trivial⟩ trivial
def rrF (n:Int):Int→List (Int × Int)→Bool
 | _,[]=>true
 | la,r::l=>if r.1≤la∨r.2≤r.1∨n<r.2 then false else rrF n r.2 l
def ctRr:Ctr:=⟨[.sl rgS,iI],fun x=>List.length x.1<1099511627776,fun x=>[.bool (rrF x.2.1 (-1) x.1)],fun _=>[]⟩
theorem rr_loop (x:List (Int × Int)) (n:Int) (hl:x.length<1099511627776):∀ (k i:Nat) (la:Int),x.length-i=k→i≤x.length →
  GD 32 Tryz.f32 (fun rs _=>rs=[.bool (rrF n la (x.drop i))]) (hd Tryz.f32 0) ⟨[(0,.sl rgS x),(1,.int .i64 n),(5,.int .i64 la),(6,.int .i64 (i:Nat))],[]⟩:=by
 intro k
 induction k with
 | zero=>
  intro i la hk hi
  refine sy_sound cx0 _ _ _ ((vc_rrL x n la i _ _).mpr ?_)
  rw[decide_eq_false (show ¬ (i:Int)<(x.length:Int) by omega),bc_f,List.drop_of_length_le (by omega)]
  rfl
 | succ k ih=>
  intro i la hk hi
  have hx:i<x.length:=by omega
  refine sy_sound cx0 _ _ _ ((vc_rrL x n la i _ _).mpr ?_)
  rw[decide_eq_true (show (i:Int)<(x.length:Int) by omega),bc_t,Int.toNat_natCast,gtR_at hx,IntWalk.i64_in ((i:Int)+1) (by omega),List.drop_eq_getElem_cons hx,rrF]
  have fa:(x[i].1≤la∨x[i].2≤x[i].1∨n<x[i].2)→[SV.bool false]=[SV.bool (if x[i].1≤la∨x[i].2≤x[i].1∨n<x[i].2 then false else rrF n x[i].2 (x.drop (i+1)))]:=fun h=>by rw[if_pos h]
  refine ⟨by omega,by omega,bc_of (fun h=>⟨rfl,rfl,fa (.inl (of_decide_eq_true h))⟩) (fun h=>⟨by omega,by omega,by omega,by omega,bc_of (fun h2=>⟨rfl,fa (.inr (.inl (of_decide_eq_true h2)))⟩) (fun h2=>⟨by omega,by omega,bc_of (fun h3=>fa (.inr (.inr (of_decide_eq_true h3)))) (fun h3=>⟨by omega,by omega,?_⟩)⟩)⟩)⟩
  have h1:¬ x[i].1≤la:=of_decide_eq_false h
  have h2:¬ x[i].2≤x[i].1:=of_decide_eq_false h2
  have h3:¬ n<x[i].2:=of_decide_eq_false h3
  rw[if_neg (by omega)]
  exact (ih (i+1) x[i].2 (by omega) (by omega)).only ⟨rfl,rfl,rfl,rfl,trivial⟩ trivial
theorem rr_held:Held Tryz.prog G0 32 ctRr:=by
 refine Held.run cx0 (fn:=Tryz.f32) rfl rfl ⟨by decide,by decide⟩ ?_
 rintro ⟨x,n,⟨⟩⟩ hp
 replace hp:x.length<1099511627776:=hp
 refine (vc_rr x n _ _).mpr ?_
 exact ((rr_loop x n hp _ 0 (-1) rfl (by omega)).post fun rs blk hq=>QC.flat (by rw[hq,List.drop_zero];rfl) rfl (by rw[hq];rfl)).only ⟨rfl,rfl,rfl,rfl,trivial⟩ trivial
def szM (n:Int) (l:List (List Int)):PaT:=szV l (n % 13)
def ctTwo0:Ctr:=⟨[raS,.sl uB],fun x=>preM6 x.1.1 x.1.2,fun x=>[paV (szM x.1.1 x.1.2),.win true uB 0 0 (inpL x.2.1 (szM x.1.1 x.1.2).2.1.toNat).length],fun x=>[.row 5 uB (inpL x.2.1 (szM x.1.1 x.1.2).2.1.toNat)]⟩
def ctTwo:Ctr:=⟨[raS,.sl uB],fun x=>preM6 x.1.1 x.1.2,fun x=>[paV (szM x.1.1 x.1.2),.sl uB (inpL x.2.1 (szM x.1.1 x.1.2).2.1.toNat)],fun _=>[]⟩
theorem qc_rowP {ct:Ctr} {x:DL ct.args} {rs:List SV} {blk:List (Nat × LB)} {e:Sh} {et:TypeId} {a k:Nat} {v:PaT} {xs:List e.D} (h:ct.out x=[paV v,.win true e 0 0 xs.length]) (hr:ct.rows x=[.row et e xs]) (hs:rs=[paV v,.win true e a 0 k]) (hk:k=xs.length) (hb:lk blk a=some (.row et e xs)):QC ct x rs blk:=by
 subst hs;subst hk
 refine ⟨fun i=>if i=0 then some a else none,?_,?_,fun i j b h1 h2=>?_,by rw[hr];rfl⟩
 ·rw[h]
  exact ⟨_,_,rfl,⟨_,rfl,_,_,rfl,rfl,_,_,rfl,rfl,_,_,rfl,rfl,_,_,rfl,.inl rfl,rfl⟩,_,_,rfl,.inl ⟨true,a,rfl,rfl,fun h=>h⟩,rfl⟩
 ·rw[hr]
  exact ⟨.inl ⟨a,rfl,hb⟩,trivial⟩
 ·simp only at h1 h2
  split at h1
  ·split at h2
   ·omega
   ·cases h2
  ·cases h1
theorem szM_in {n:Int} {l:List (List Int)} (hp:preM6 n l):0≤(szM n l).2.1∧(szM n l).2.1<13:=⟨Int.emod_nonneg _ (by decide),Int.emod_lt_of_pos _ (by decide)⟩
theorem two0_held:Held Tryz.prog G0 22 ctTwo0:=by
 refine Held.run ((cx0.cons inp_held (fn:=Tryz.f55) rfl rfl rfl).cons made6_held (fn:=Tryz.f11) rfl rfl rfl) (fn:=Tryz.f22) rfl rfl ⟨by decide,by decide⟩ ?_
 rintro ⟨⟨n,l⟩,b,⟨⟩⟩ hp
 replace hp:preM6 n l:=hp
 have hi:=szM_in hp
 refine (vc_two n l b _ _).mpr ⟨hp,(show preI (szM n l).2.1 from ⟨hi.1,by omega⟩),?_⟩
 exact qc_rowP (e:=uB) (et:=5) (a:=1053248) (v:=szM n l) (xs:=inpL b (szM n l).2.1.toNat) rfl rfl rfl rfl rfl
theorem two_held:Held Tryz.prog G0 22 ctTwo:=fun x hp=>by
 obtain ⟨⟨n,l⟩,b,⟨⟩⟩:=x
 have e:=(two0_held.frz (fun x _=>⟨by simp[ctTwo0,inL,inS,paV],trivial⟩)) ((n,l),b,()) hp
 have hv:[paV (szM n l),.sl uB (inpL b (szM n l).2.1.toNat)]=frzRs 0 (ctTwo0.rows ((n,l),b,())) (ctTwo0.out ((n,l),b,())):=by
  show _=[paV (szM n l),.sl uB (winL uB 0 _ _)]
  rw[winA]
 intro base M args args' w cs Z H h1 h2 h3 h4 h5
 have:=e base M args args' w cs Z H h1 h2 h3 h4 h5
 simp only[Ctr.frz,ctTwo] at this ⊢
 rw[hv]
 exact this
end Go.Proofs.YtncocpjkaggnjaaGreatDoor
namespace Go.Proofs.YtncocpjkaggnjaaGreatDoor
open Go.Px Go.Ax
set_option maxRecDepth 100000
def ctSnI:Ctr:=⟨[],fun _=>True,fun _=>[.bool true],fun _=>[]⟩
def CSn:CV:=[(25,.inl ctIv),(27,.inl ctLs),(29,.inl ctSm),(30,.inl ctSr)]
theorem cxSn:CxOK Tryz.prog tt G0 CSn:=(((cx0.cons sr_held (fn:=Tryz.f30) rfl rfl rfl).cons sm_held (fn:=Tryz.f29) rfl rfl rfl).cons lo_held (fn:=Tryz.f27) rfl rfl rfl).cons iv_held (fn:=Tryz.f25) rfl rfl rfl
def CBk:CV:=[(21,.inl ctSnI),(22,.inl ctTwo),(14,.inl ctApW),(25,.inl ctIv),(31,.inl ctRi),(27,.inl ctLs),(32,.inl ctRr),(33,.inl ctSym)]
set_option maxRecDepth 100000
theorem vc_snI  (Q:QT) (R:RT):sy tt G0 CSn Tryz.f21.ntmps Tryz.f21.results.toList Q R 1000 [.code (bodyOf Tryz.f21)] (entry [] ()) =
  ((0:Nat)<(6:Nat) ∧
 (6:Nat)=(((((((List.replicate (6:Nat) uB.dflt).set (0:Nat) (97:Int)).set (1:Nat) (98:Int)).set (2:Nat) (99:Int)).set (3:Nat) (100:Int)).set (4:Nat) (101:Int)).set (5:Nat) (102:Int)).length ∧
 0+(6:Nat)≤(((((((List.replicate (6:Nat) uB.dflt).set (0:Nat) (97:Int)).set (1:Nat) (98:Int)).set (2:Nat) (99:Int)).set (3:Nat) (100:Int)).set (4:Nat) (101:Int)).set (5:Nat) (102:Int)).length ∧
 0+(6:Nat)≤(((((((List.replicate (6:Nat) uB.dflt).set (0:Nat) (97:Int)).set (1:Nat) (98:Int)).set (2:Nat) (99:Int)).set (3:Nat) (100:Int)).set (4:Nat) (101:Int)).set (5:Nat) (102:Int)).length ∧
 0+(2:Nat)≤(((List.replicate (2:Nat) opS.dflt).set (0:Nat) ((1:Int),(2:Int),(2:Int),(0:Int),[])).set (1:Nat) ((1:Int),(0:Int),(2:Int),(0:Int),[])).length ∧
 0+(2:Nat)≤(((List.replicate (2:Nat) opS.dflt).set (0:Nat) ((1:Int),(2:Int),(2:Int),(0:Int),[])).set (1:Nat) ((1:Int),(0:Int),(2:Int),(0:Int),[])).length ∧
 0+(2:Nat)≤(((List.replicate (2:Nat) opS.dflt).set (0:Nat) ((1:Int),(2:Int),(2:Int),(0:Int),[])).set (1:Nat) ((1:Int),(0:Int),(2:Int),(0:Int),[])).length ∧
 0+(2:Nat)≤(((List.replicate (2:Nat) opS.dflt).set (0:Nat) ((1:Int),(2:Int),(2:Int),(0:Int),[])).set (1:Nat) ((1:Int),(0:Int),(2:Int),(0:Int),[])).length ∧
 ctIv.pre (winL uB (0:Nat) (6:Nat) (((((((List.replicate (6:Nat) uB.dflt).set (0:Nat) (97:Int)).set (1:Nat) (98:Int)).set (2:Nat) (99:Int)).set (3:Nat) (100:Int)).set (4:Nat) (101:Int)).set (5:Nat) (102:Int)),(false,(6:Int),(4:Int),winL opS (0:Nat) (2:Nat) (((List.replicate (2:Nat) opS.dflt).set (0:Nat) ((1:Int),(2:Int),(2:Int),(0:Int),[])).set (1:Nat) ((1:Int),(0:Int),(2:Int),(0:Int),[]))),()) ∧
 ctLs.pre ((false,(6:Int),(4:Int),winL opS (0:Nat) (2:Nat) (((List.replicate (2:Nat) opS.dflt).set (0:Nat) ((1:Int),(2:Int),(2:Int),(0:Int),[])).set (1:Nat) ((1:Int),(0:Int),(2:Int),(0:Int),[]))),()) ∧
 (0:Nat)<(3:Nat) ∧
 (3:Nat)=((((List.replicate (3:Nat) uB.dflt).set (0:Nat) (97:Int)).set (1:Nat) (98:Int)).set (2:Nat) (99:Int)).length ∧
 0+(3:Nat)≤((((List.replicate (3:Nat) uB.dflt).set (0:Nat) (97:Int)).set (1:Nat) (98:Int)).set (2:Nat) (99:Int)).length ∧
 0+(3:Nat)≤((((List.replicate (3:Nat) uB.dflt).set (0:Nat) (97:Int)).set (1:Nat) (98:Int)).set (2:Nat) (99:Int)).length ∧
 ctIv.pre (winL uB (0:Nat) (3:Nat) ((((List.replicate (3:Nat) uB.dflt).set (0:Nat) (97:Int)).set (1:Nat) (98:Int)).set (2:Nat) (99:Int)),(false,(6:Int),(4:Int),winL opS (0:Nat) (2:Nat) (((List.replicate (2:Nat) opS.dflt).set (0:Nat) ((1:Int),(2:Int),(2:Int),(0:Int),[])).set (1:Nat) ((1:Int),(0:Int),(2:Int),(0:Int),[]))),()) ∧
 ctIv.pre ([],(false,(0:Int),(1:Int),[]),()) ∧
 ctLs.pre ((false,(0:Int),(1:Int),[]),()) ∧
 (0:Nat)<(3:Nat) ∧
 (3:Nat)=((((List.replicate (3:Nat) uB.dflt).set (0:Nat) (97:Int)).set (1:Nat) (98:Int)).set (2:Nat) (99:Int)).length ∧
 0+(3:Nat)≤((((List.replicate (3:Nat) uB.dflt).set (0:Nat) (97:Int)).set (1:Nat) (98:Int)).set (2:Nat) (99:Int)).length ∧
 0+(3:Nat)≤((((List.replicate (3:Nat) uB.dflt).set (0:Nat) (97:Int)).set (1:Nat) (98:Int)).set (2:Nat) (99:Int)).length ∧
 ctIv.pre (winL uB (0:Nat) (3:Nat) ((((List.replicate (3:Nat) uB.dflt).set (0:Nat) (97:Int)).set (1:Nat) (98:Int)).set (2:Nat) (99:Int)),(true,(0:Int),(0:Int),[]),()) ∧
 (0:Nat)<(2:Nat) ∧
 (2:Nat)=(((List.replicate (2:Nat) uB.dflt).set (0:Nat) (101:Int)).set (1:Nat) (102:Int)).length ∧
 0+(2:Nat)≤(((List.replicate (2:Nat) uB.dflt).set (0:Nat) (101:Int)).set (1:Nat) (102:Int)).length ∧
 0+(2:Nat)≤(((List.replicate (2:Nat) uB.dflt).set (0:Nat) (101:Int)).set (1:Nat) (102:Int)).length ∧
 0+(2:Nat)≤(((List.replicate (2:Nat) uB.dflt).set (0:Nat) (101:Int)).set (1:Nat) (102:Int)).length ∧
 0+(3:Nat)≤((((List.replicate (3:Nat) opS.dflt).set (0:Nat) ((1:Int),(2:Int),(2:Int),(0:Int),[])).set (1:Nat) ((1:Int),(0:Int),(2:Int),(0:Int),[])).set (2:Nat) ((4:Int),(0:Int),(2:Int),(0:Int),winL uB (0:Nat) (2:Nat) (((List.replicate (2:Nat) uB.dflt).set (0:Nat) (101:Int)).set (1:Nat) (102:Int)))).length ∧
 ctSm.pre (((ivV (winL uB (0:Nat) (6:Nat) (((((((List.replicate (6:Nat) uB.dflt).set (0:Nat) (97:Int)).set (1:Nat) (98:Int)).set (2:Nat) (99:Int)).set (3:Nat) (100:Int)).set (4:Nat) (101:Int)).set (5:Nat) (102:Int))) (false,(6:Int),(4:Int),winL opS (0:Nat) (2:Nat) (((List.replicate (2:Nat) opS.dflt).set (0:Nat) ((1:Int),(2:Int),(2:Int),(0:Int),[])).set (1:Nat) ((1:Int),(0:Int),(2:Int),(0:Int),[])))).1),(false,(4:Int),(6:Int),winL opS (0:Nat) (3:Nat) ((((List.replicate (3:Nat) opS.dflt).set (0:Nat) ((1:Int),(2:Int),(2:Int),(0:Int),[])).set (1:Nat) ((1:Int),(0:Int),(2:Int),(0:Int),[])).set (2:Nat) ((4:Int),(0:Int),(2:Int),(0:Int),winL uB (0:Nat) (2:Nat) (((List.replicate (2:Nat) uB.dflt).set (0:Nat) (101:Int)).set (1:Nat) (102:Int))))),()) ∧
 0+(losV (false,(6:Int),(4:Int),winL opS (0:Nat) (2:Nat) (((List.replicate (2:Nat) opS.dflt).set (0:Nat) ((1:Int),(2:Int),(2:Int),(0:Int),[])).set (1:Nat) ((1:Int),(0:Int),(2:Int),(0:Int),[])))).1.length≤(losV (false,(6:Int),(4:Int),winL opS (0:Nat) (2:Nat) (((List.replicate (2:Nat) opS.dflt).set (0:Nat) ((1:Int),(2:Int),(2:Int),(0:Int),[])).set (1:Nat) ((1:Int),(0:Int),(2:Int),(0:Int),[])))).1.length ∧
 0+(1:Nat)≤([((4:Int),(6:Int))]:List rgS.D).length ∧
 ctSr.pre (winL rgS 0 (losV (false,(6:Int),(4:Int),winL opS (0:Nat) (2:Nat) (((List.replicate (2:Nat) opS.dflt).set (0:Nat) ((1:Int),(2:Int),(2:Int),(0:Int),[])).set (1:Nat) ((1:Int),(0:Int),(2:Int),(0:Int),[])))).1.length (losV (false,(6:Int),(4:Int),winL opS (0:Nat) (2:Nat) (((List.replicate (2:Nat) opS.dflt).set (0:Nat) ((1:Int),(2:Int),(2:Int),(0:Int),[])).set (1:Nat) ((1:Int),(0:Int),(2:Int),(0:Int),[])))).1,([((4:Int),(6:Int))]:List rgS.D),()) ∧
 Q [.bool (decide ((ivV (winL uB (0:Nat) (3:Nat) ((((List.replicate (3:Nat) uB.dflt).set (0:Nat) (97:Int)).set (1:Nat) (98:Int)).set (2:Nat) (99:Int))) (true,(0:Int),(0:Int),[])).2=(30:Int)))] [(1,.var [.bool false,.int .i64 6,.int .i64 4,.sl opS (winL opS (0:Nat) (2:Nat) (((List.replicate (2:Nat) opS.dflt).set (0:Nat) ((1:Int),(2:Int),(2:Int),(0:Int),[])).set (1:Nat) ((1:Int),(0:Int),(2:Int),(0:Int),[])))]),(2,.var [.bool (ivV (winL uB (0:Nat) (6:Nat) (((((((List.replicate (6:Nat) uB.dflt).set (0:Nat) (97:Int)).set (1:Nat) (98:Int)).set (2:Nat) (99:Int)).set (3:Nat) (100:Int)).set (4:Nat) (101:Int)).set (5:Nat) (102:Int))) (false,(6:Int),(4:Int),winL opS (0:Nat) (2:Nat) (((List.replicate (2:Nat) opS.dflt).set (0:Nat) ((1:Int),(2:Int),(2:Int),(0:Int),[])).set (1:Nat) ((1:Int),(0:Int),(2:Int),(0:Int),[])))).1.1,.int .i64 (ivV (winL uB (0:Nat) (6:Nat) (((((((List.replicate (6:Nat) uB.dflt).set (0:Nat) (97:Int)).set (1:Nat) (98:Int)).set (2:Nat) (99:Int)).set (3:Nat) (100:Int)).set (4:Nat) (101:Int)).set (5:Nat) (102:Int))) (false,(6:Int),(4:Int),winL opS (0:Nat) (2:Nat) (((List.replicate (2:Nat) opS.dflt).set (0:Nat) ((1:Int),(2:Int),(2:Int),(0:Int),[])).set (1:Nat) ((1:Int),(0:Int),(2:Int),(0:Int),[])))).1.2.1,.int .i64 (ivV (winL uB (0:Nat) (6:Nat) (((((((List.replicate (6:Nat) uB.dflt).set (0:Nat) (97:Int)).set (1:Nat) (98:Int)).set (2:Nat) (99:Int)).set (3:Nat) (100:Int)).set (4:Nat) (101:Int)).set (5:Nat) (102:Int))) (false,(6:Int),(4:Int),winL opS (0:Nat) (2:Nat) (((List.replicate (2:Nat) opS.dflt).set (0:Nat) ((1:Int),(2:Int),(2:Int),(0:Int),[])).set (1:Nat) ((1:Int),(0:Int),(2:Int),(0:Int),[])))).1.2.2.1,.sl opS (ivV (winL uB (0:Nat) (6:Nat) (((((((List.replicate (6:Nat) uB.dflt).set (0:Nat) (97:Int)).set (1:Nat) (98:Int)).set (2:Nat) (99:Int)).set (3:Nat) (100:Int)).set (4:Nat) (101:Int)).set (5:Nat) (102:Int))) (false,(6:Int),(4:Int),winL opS (0:Nat) (2:Nat) (((List.replicate (2:Nat) opS.dflt).set (0:Nat) ((1:Int),(2:Int),(2:Int),(0:Int),[])).set (1:Nat) ((1:Int),(0:Int),(2:Int),(0:Int),[])))).1.2.2.2]),(6,.var [.bool (ivV (winL uB (0:Nat) (3:Nat) ((((List.replicate (3:Nat) uB.dflt).set (0:Nat) (97:Int)).set (1:Nat) (98:Int)).set (2:Nat) (99:Int))) (false,(6:Int),(4:Int),winL opS (0:Nat) (2:Nat) (((List.replicate (2:Nat) opS.dflt).set (0:Nat) ((1:Int),(2:Int),(2:Int),(0:Int),[])).set (1:Nat) ((1:Int),(0:Int),(2:Int),(0:Int),[])))).1.1,.int .i64 (ivV (winL uB (0:Nat) (3:Nat) ((((List.replicate (3:Nat) uB.dflt).set (0:Nat) (97:Int)).set (1:Nat) (98:Int)).set (2:Nat) (99:Int))) (false,(6:Int),(4:Int),winL opS (0:Nat) (2:Nat) (((List.replicate (2:Nat) opS.dflt).set (0:Nat) ((1:Int),(2:Int),(2:Int),(0:Int),[])).set (1:Nat) ((1:Int),(0:Int),(2:Int),(0:Int),[])))).1.2.1,.int .i64 (ivV (winL uB (0:Nat) (3:Nat) ((((List.replicate (3:Nat) uB.dflt).set (0:Nat) (97:Int)).set (1:Nat) (98:Int)).set (2:Nat) (99:Int))) (false,(6:Int),(4:Int),winL opS (0:Nat) (2:Nat) (((List.replicate (2:Nat) opS.dflt).set (0:Nat) ((1:Int),(2:Int),(2:Int),(0:Int),[])).set (1:Nat) ((1:Int),(0:Int),(2:Int),(0:Int),[])))).1.2.2.1,.sl opS (ivV (winL uB (0:Nat) (3:Nat) ((((List.replicate (3:Nat) uB.dflt).set (0:Nat) (97:Int)).set (1:Nat) (98:Int)).set (2:Nat) (99:Int))) (false,(6:Int),(4:Int),winL opS (0:Nat) (2:Nat) (((List.replicate (2:Nat) opS.dflt).set (0:Nat) ((1:Int),(2:Int),(2:Int),(0:Int),[])).set (1:Nat) ((1:Int),(0:Int),(2:Int),(0:Int),[])))).1.2.2.2]),(8,.var [.bool (ivV [] (false,(0:Int),(1:Int),[])).1.1,.int .i64 (ivV [] (false,(0:Int),(1:Int),[])).1.2.1,.int .i64 (ivV [] (false,(0:Int),(1:Int),[])).1.2.2.1,.sl opS (ivV [] (false,(0:Int),(1:Int),[])).1.2.2.2]),(12,.var [.bool (ivV (winL uB (0:Nat) (3:Nat) ((((List.replicate (3:Nat) uB.dflt).set (0:Nat) (97:Int)).set (1:Nat) (98:Int)).set (2:Nat) (99:Int))) (true,(0:Int),(0:Int),[])).1.1,.int .i64 (ivV (winL uB (0:Nat) (3:Nat) ((((List.replicate (3:Nat) uB.dflt).set (0:Nat) (97:Int)).set (1:Nat) (98:Int)).set (2:Nat) (99:Int))) (true,(0:Int),(0:Int),[])).1.2.1,.int .i64 (ivV (winL uB (0:Nat) (3:Nat) ((((List.replicate (3:Nat) uB.dflt).set (0:Nat) (97:Int)).set (1:Nat) (98:Int)).set (2:Nat) (99:Int))) (true,(0:Int),(0:Int),[])).1.2.2.1,.sl opS (ivV (winL uB (0:Nat) (3:Nat) ((((List.replicate (3:Nat) uB.dflt).set (0:Nat) (97:Int)).set (1:Nat) (98:Int)).set (2:Nat) (99:Int))) (true,(0:Int),(0:Int),[])).1.2.2.2]),(14,.var [.bool false,.int .i64 4,.int .i64 6,.win true opS 60 0 (3:Nat)]),(60,.row 35 opS ((((List.replicate (3:Nat) opS.dflt).set (0:Nat) ((1:Int),(2:Int),(2:Int),(0:Int),[])).set (1:Nat) ((1:Int),(0:Int),(2:Int),(0:Int),[])).set (2:Nat) ((4:Int),(0:Int),(2:Int),(0:Int),winL uB (0:Nat) (2:Nat) (((List.replicate (2:Nat) uB.dflt).set (0:Nat) (101:Int)).set (1:Nat) (102:Int))))),(76,.row 81 rgS ([((4:Int),(6:Int))]:List rgS.D)),(1114688,.row 81 rgS (losV (false,(6:Int),(4:Int),winL opS (0:Nat) (2:Nat) (((List.replicate (2:Nat) opS.dflt).set (0:Nat) ((1:Int),(2:Int),(2:Int),(0:Int),[])).set (1:Nat) ((1:Int),(0:Int),(2:Int),(0:Int),[])))).1),(1184320,.row 81 rgS (losV (false,(0:Int),(1:Int),[])).1)]):=by kernel_rfl
end Go.Proofs.YtncocpjkaggnjaaGreatDoor
namespace Go.Proofs.YtncocpjkaggnjaaGreatDoor
open Go.Px Go.Ax
set_option maxRecDepth 100000
def thOK (n:Nat) (s:SyT):Bool := !s.1 || (decide (0≤s.2.1)&&decide (s.2.1<n))
theorem sOK_th {n:Nat} {s:SyT} (h:sOK n s=true):thOK n s=true:=by
 unfold sOK at h;unfold thOK
 split at h
 ·rw[h];simp
 ·rename_i q;simp[q]
abbrev nfP (li:Bool) (m:Int) (s:List SyT):PaT:=(li,m,(s.length:Int),chL s)
theorem nf_ok {s:List SyT} {m:Int} (li:Bool) (hr:∀ x∈s,sOK m x=true) (h0:0≤m) (h1:m≤65536) (hl:s.length≤4096):(chkV (nfP li m s)).2=0∧symF (chL s)=s∧symV (nfP li m s)=(s,0):=by
 obtain ⟨q1,q2,q3,q4,q5,q6⟩:=poV_ok hr h0 h1 hl
 have q6:(chkV (nfP li m s)).2=0:=q6
 refine ⟨q6,q2,?_⟩
 unfold symV
 rw[if_pos q6]
 exact Prod.ext q2 rfl
theorem sy_ok {p:PaT} (h:(chkV p).2=0):symV p=(symF p.2.2.2,0):=by unfold symV;rw[if_pos h]
theorem sy_right {q:PaT} (h:(chkV q).2=0):(∀ s∈symF q.2.2.2,sOK q.2.1 s=true)∧(0≤q.2.1∧q.2.1≤65536)∧((symF q.2.2.2).length:Int)=q.2.2.1:=by
 have:=symV_right (p:=q) (by rw[sy_ok h])
 rw[sy_ok h] at this
 exact this
end Go.Proofs.YtncocpjkaggnjaaGreatDoor
namespace Go.Proofs.YtncocpjkaggnjaaGreatDoor
open Go.Px Go.Ax
set_option maxRecDepth 100000
theorem runV_ok {old:List Int} {l:List SyT} (h:∀ x∈l,sOK old.length x=true):runV old l=(l.map (ruB old),0):=by
 unfold runV
 rw[if_pos (List.all_eq_true.2 fun x hx=>show ruOK old x=true from sOK_th (h x hx))]
end Go.Proofs.YtncocpjkaggnjaaGreatDoor
