/-
  A part of the proof: what pieces of the program give; conditions: those of each theorem.
-/
import Derived.Test.YticpkibnhakgbaaDoorQ3
import Derived.Test.YticpkibnhakgbaaDoorQ2
import Derived.Test.YticpkibnhakgbaaDoorQ0
import Derived.Test.YticpkibnhakgbaaDoorHD
import Derived.Test.YticpkibnhakgbaaDoorQ1
set_option linter.unusedVariables false
set_option linter.unusedSimpArgs false
namespace Go.Proofs.YticpkibnhakgbaaDoor
open Go.Px Go.Ax
set_option maxRecDepth 100000
def q4n (x:OpT) (i:Int):Prop:=k14 x/\0<=i/\(x.1=2\/x.1=4->i<(x.2.2.2.2.length:Int))
def syV (s:SyT):SV:=.agg [.bool s.1,.int .i64 s.2.1,.int .u8 s.2.2]
def ctSb:Ctr:=⟨[opS,iI],fun x=>q4n x.1 x.2.1,fun x=>[syV (elO x.1.1.toNat x.1 (Int.toNat x.2.1))],fun _=>[]⟩
def CSm:CV:=[(42,.inl ctRi),(43,.inl ctSb)]
set_option maxRecDepth 100000
theorem vc_sb (x:OpT) (i:Int) (Q:QT) (R:RT):sy tt G0 [] Tryd.f43.ntmps Tryd.f43.results.toList Q R 1000 [.code (qae Tryd.f43)] (entry [opS,iI] (x,i,())) =
  (bc (decide (x.1=(1:Int))) (Q [.agg [.bool true,.int .i64 (IntKind.i64.wrap (x.2.1+i)),.int .u8 0]] [(2,.var [.int .i64 x.1,.int .i64 x.2.1,.int .i64 x.2.2.1,.int .u8 x.2.2.2.1,.sl uB x.2.2.2.2]),(4,.var [.bool true,.int .i64 (IntKind.i64.wrap (x.2.1+i)),.int .u8 0])]) (bc (decide (x.1=(2:Int))) ((0:Int)<=i /\
 i<(↑(List.length x.2.2.2.2):Int) /\
 Q [.agg [.bool true,.int .i64 (IntKind.i64.wrap (x.2.1+i)),.int .u8 (gtB x.2.2.2.2 i.toNat)]] [(2,.var [.int .i64 x.1,.int .i64 x.2.1,.int .i64 x.2.2.1,.int .u8 x.2.2.2.1,.sl uB x.2.2.2.2]),(4,.var [.bool true,.int .i64 (IntKind.i64.wrap (x.2.1+i)),.int .u8 (gtB x.2.2.2.2 i.toNat)])]) (bc (decide (x.1=(3:Int))) (Q [.agg [.bool false,.int .i64 0,.int .u8 x.2.2.2.1]] [(2,.var [.int .i64 x.1,.int .i64 x.2.1,.int .i64 x.2.2.1,.int .u8 x.2.2.2.1,.sl uB x.2.2.2.2]),(4,.var [.bool false,.int .i64 0,.int .u8 x.2.2.2.1])]) ((0:Int)<=i /\
 i<(↑(List.length x.2.2.2.2):Int) /\
 Q [.agg [.bool false,.int .i64 0,.int .u8 (gtB x.2.2.2.2 i.toNat)]] [(2,.var [.int .i64 x.1,.int .i64 x.2.1,.int .i64 x.2.2.1,.int .u8 x.2.2.2.1,.sl uB x.2.2.2.2]),(4,.var [.bool false,.int .i64 0,.int .u8 (gtB x.2.2.2.2 i.toNat)])])))):=by kernel_rfl
theorem vc_rs (li:Bool) (m o:Int) (l:List OpT) (Q:QT) (R:RT):sy tt G0 CSm Tryd.f25.ntmps Tryd.f25.results.toList Q (fun it S=>R it (qao [1,4,5,6] [1,10,37] S)) 1000 [.code (qae Tryd.f25)] (entry [paS] ((li,m,o,l),())) =
  (ctRi.pre ((li,m,o,l),()) /\
 bc (!decide ((chkV (li,m,o,l)).2=(0:Int))) (Q [.nils,.int .i64 60] [(1,.var [.bool li,.int .i64 m,.int .i64 o,.sl opS l])]) (R (hd Tryd.f25 0) { env:=[(1,.ptr 1 0),(4,.win true syS 10 0 (0:Nat)),(5,.int .i64 0)],blk:=[(1,.var [.bool li,.int .i64 m,.int .i64 o,.sl opS l]),(10,.row 66 syS (List.replicate (0:Nat) syS.dflt))] })):=by kernel_rfl
theorem q12 (li:Bool) (m o:Int) (l:List OpT) (s:List SyT) (i:Nat) (Q:QT) (R:RT):sy tt G0 CSm Tryd.f25.ntmps Tryd.f25.results.toList Q (fun it S=>R it (qao [1,4,5,6] [1,10,37] S)) 1000 (hd Tryd.f25 0) ⟨[(1,.ptr 1 0),(4,.win true syS 10 0 s.length),(5,.int .i64 (i:Nat))],[(1,.var [.bool li,.int .i64 m,.int .i64 o,.sl opS l]),(10,.row 66 syS s)]⟩ =
  (bc (decide ((i:Int)<(l.length:Int))) (R (hd Tryd.f25 1) { env:=[(1,.ptr 1 0),(4,.win true syS 10 0 s.length),(5,.int .i64 (i:Int)),(6,.int .i64 0)],blk:=[(1,.var [.bool li,.int .i64 m,.int .i64 o,.sl opS l]),(10,.row 66 syS s)] }) (Q [.win true syS 10 0 s.length,.int .i64 0] [(1,.var [.bool li,.int .i64 m,.int .i64 o,.sl opS l]),(10,.row 66 syS s)])):=by kernel_rfl
theorem q13 (li:Bool) (m o:Int) (l:List OpT) (s:List SyT) (i k:Nat) (Q:QT) (R:RT):sy tt G0 CSm Tryd.f25.ntmps Tryd.f25.results.toList Q (fun it S=>R it (qao [1,4,5,6] [1,10,37] S)) 1000 (hd Tryd.f25 1) ⟨[(1,.ptr 1 0),(4,.win true syS 10 0 s.length),(5,.int .i64 (i:Nat)),(6,.int .i64 (k:Nat))],[(1,.var [.bool li,.int .i64 m,.int .i64 o,.sl opS l]),(10,.row 66 syS s)]⟩ =
  ((0:Int)<=(i:Int) /\
 (i:Int)<(l.length:Int) /\
 bc (decide ((k:Int)<(gtO l (i:Int).toNat).2.2.1)) ((0:Int)<=(i:Int) /\
 (i:Int)<(l.length:Int) /\
 ctSb.pre ((gtO l (i:Int).toNat),(k:Int),()) /\
 0+1<=([(elO (Int.toNat (gtO l (i:Int).toNat).1) (gtO l (i:Int).toNat) (k:Int).toNat)]:List syS.D).length /\
 s.length=s.length /\
 (0:Nat)=(0:Nat) /\
 s.length+(([(elO (Int.toNat (gtO l (i:Int).toNat).1) (gtO l (i:Int).toNat) (k:Int).toNat)]:List syS.D)).length<2 ^ 30 /\
 (24:Nat)<=2 ^ 10 /\
 R (hd Tryd.f25 1) { env:=[(1,.ptr 1 0),(4,.win true syS 37 0 (s.length+(([(elO (Int.toNat (gtO l (i:Int).toNat).1) (gtO l (i:Int).toNat) (k:Int).toNat)]:List syS.D)).length)),(5,.int .i64 (i:Int)),(6,.int .i64 (IntKind.i64.wrap ((k:Int)+1)))],blk:=[(1,.var [.bool li,.int .i64 m,.int .i64 o,.sl opS l]),(37,.row 66 syS (s++([(elO (Int.toNat (gtO l (i:Int).toNat).1) (gtO l (i:Int).toNat) (k:Int).toNat)]:List syS.D)))] }) (R (hd Tryd.f25 0) { env:=[(1,.ptr 1 0),(4,.win true syS 10 0 s.length),(5,.int .i64 (IntKind.i64.wrap ((i:Int)+1))),(6,.int .i64 (k:Int))],blk:=[(1,.var [.bool li,.int .i64 m,.int .i64 o,.sl opS l]),(10,.row 66 syS s)] })):=by kernel_rfl
end Go.Proofs.YticpkibnhakgbaaDoor
namespace Go.Proofs.YticpkibnhakgbaaDoor
open Go.Px Go.Ax
set_option maxRecDepth 100000
attribute [local irreducible] Go.Px.sy Go.Px.syE
theorem q72 (k f n b i:Int) (d:List Int) (hp:q4n (k,f,n,b,d) i) (R:List Item->PS->Prop):sy tt G0 [] Tryd.f43.ntmps Tryd.f43.results.toList (QC ctSb ((k,f,n,b,d),i,())) R 1000 [.code (qae Tryd.f43)] (entry [opS,iI] ((k,f,n,b,d),i,())):=by
 obtain ⟨hk,h0,hd⟩:=hp;have out:∀ s,elO k.toNat ((k,f,n,b,d):OpT) i.toNat=s->ctSb.out ((k,f,n,b,d),i,())=[syV s]:=fun s e=>congrArg (fun s=>[syV s]) e
 have hi:((i.toNat:Nat):Int)=i:=by omega
 refine (vc_sb (k,f,n,b,d) i _ _).mpr ?_;rcases hk with e | e | e | e
 ·have e:k=1:=e;subst e;refine QC.flat (out (true,IntKind.i64.wrap (f+i),0) ?_) rfl rfl
  show ((true,IntKind.i64.wrap (f+(i.toNat:Int)),0):SyT)=_
  rw[hi]
 ·have e:k=2:=e;subst e;have hd2:i<(d.length:Int):=hd (.inl rfl);refine ⟨h0,hd2,QC.flat (out (true,IntKind.i64.wrap (f+i),gtB d i.toNat) ?_) rfl rfl⟩
  show ((true,IntKind.i64.wrap (f+(i.toNat:Int)),gtB d i.toNat):SyT)=_
  rw[hi]
 ·have e:k=3:=e;subst e;exact QC.flat (out _ rfl) rfl rfl
 ·have e:k=4:=e;subst e;have hd2:i<(d.length:Int):=hd (.inr rfl);exact ⟨h0,hd2,QC.flat (out _ rfl) rfl rfl⟩
theorem q4c:Held Tryd.prog G0 43 ctSb:=Held.run cx0 (fn:=Tryd.f43) rfl rfl ⟨by decide,by decide⟩ fun ⟨⟨k,f,n,b,d⟩,i,_⟩ hp=>q72 k f n b i d hp _
theorem qum:CxOK Tryd.prog tt G0 CSm:=(cx0.cons q4c (fn:=Tryd.f43) rfl rfl rfl).cons qto (fn:=Tryd.f42) rfl rfl rfl
section
variable (li:Bool) (m o:Int) (l:List OpT) (hc:(chkV (li,m,o,l)).2=0)
abbrev RsQ:List SV->List (Nat × LB)->Prop:=QC ctSym ((li,m,o,l),())
include hc
theorem qzm (i:Nat) (hi:i<l.length) (nx:GD 25 Tryd.f25 (RsQ li m o l) (hd Tryd.f25 0) ⟨[(1,.ptr 1 0),(4,.win true syS 10 0 (symF (l.take (i+1))).length),(5,.int .i64 ((i+1:Nat):Int))],[(1,.var [.bool li,.int .i64 m,.int .i64 o,.sl opS l]),(10,.row 66 syS (symF (l.take (i+1))))]⟩) :
  ∀ (c k:Nat),l[i].2.2.1.toNat-k=c->k<=l[i].2.2.1.toNat ->
  GD 25 Tryd.f25 (RsQ li m o l) (hd Tryd.f25 1) ⟨[(1,.ptr 1 0),(4,.win true syS 10 0 (symF (l.take i)++(qaw l[i].1.toNat l[i]).take k).length),(5,.int .i64 (i:Nat)),(6,.int .i64 (k:Nat))],[(1,.var [.bool li,.int .i64 m,.int .i64 o,.sl opS l]),(10,.row 66 syS (symF (l.take i)++(qaw l[i].1.toNat l[i]).take k))]⟩:=by
 obtain ⟨hr,hs,ho,hl⟩:=qis hc;have hl:l.length<=4096:=hl;have hx:=hr _ (List.getElem_mem hi);have hlx:=qdp hx;obtain ⟨k4,hcn⟩:=qd5 hx;have sl:(qaw l[i].1.toNat l[i]).length=cntO l[i].1.toNat l[i]:=qk1 ..;have hsf:(symF (l.take i)).length<=65536:=by
  have h1:=qfs (m:=m) (l:=l.take i) fun y hy=>hr y (List.mem_of_mem_take hy)
  have h2:lenS l=lenS (l.take i)+lenS (l.drop i):=by rw[<- qng,List.take_append_drop]
  have h3:=qhw (m:=m) (l:=l.drop i) fun y hy=>hr y (List.mem_of_mem_drop hy)
  have ho2:o<=65536:=ho.2;have hs2:lenS l=o:=hs;omega
 have ht:symF (l.take (i+1))=symF (l.take i)++qaw l[i].1.toNat l[i]:=by
  rw[List.take_succ_eq_append_getElem hi,qro];simp[symF]
 intro c
 induction c with
 | zero=>
  intro k hk hk2;have hk:k=l[i].2.2.1.toNat:=by omega
  have e:(qaw l[i].1.toNat l[i]).take k=qaw l[i].1.toNat l[i]:=List.take_of_length_le (by omega);rw[e,<- ht];refine qai qum (q13 li m o l (symF (l.take (i+1))) i k _ _) ?_;rw[Int.toNat_natCast,qgh hi,decide_eq_false (by omega),bc_f,IntWalk.i64_in ((i:Int)+1) (by omega)];exact ⟨by omega,by omega,nx.only ⟨rfl,rfl,rfl,trivial⟩ ⟨rfl,rfl,trivial⟩⟩
 | succ c ih=>
  intro k hk hk2;have hk3:k<cntO l[i].1.toNat l[i]:=by omega
  have nk:=ih (k+1) (by omega) (by omega);have e:(qaw l[i].1.toNat l[i]).take (k+1)=(qaw l[i].1.toNat l[i]).take k++[elO l[i].1.toNat l[i] k]:=by
   rw[List.take_succ_eq_append_getElem (by omega)]
   congr 2
   have:=qqu (elO l[i].1.toNat l[i]) (cntO l[i].1.toNat l[i]) 0 k hk3;rw[Nat.zero_add] at this;have h2:(qaw l[i].1.toNat l[i])[k]?=some (elO l[i].1.toNat l[i] k):=this;rw[List.getElem?_eq_getElem (by omega)] at h2;exact Option.some.inj h2
  rw[e,<- List.append_assoc] at nk;have tl:((qaw l[i].1.toNat l[i]).take k).length<=65536:=by rw[List.length_take];omega
  have pre:q4n l[i] (k:Int):=⟨k4,by omega,fun h=>by
   have:cntO l[i].1.toNat l[i]=l[i].2.2.2.2.length:=by rcases h with h | h <;> (rw[h];rfl)
   omega⟩
  generalize hss:symF (l.take i)++(qaw l[i].1.toNat l[i]).take k=ss at *;have hsl:ss.length<=131072:=by rw[<- hss,List.length_append];omega
  refine qai qum (q13 li m o l ss i k _ _) ?_;rw[Int.toNat_natCast,qgh hi,decide_eq_true (show (k:Int)<l[i].2.2.1 by omega),bc_t,IntWalk.i64_in ((k:Int)+1) (by omega),Int.toNat_natCast];refine ⟨by omega,by omega,by omega,by omega,pre,Nat.le_refl 1,rfl,rfl,?_,by decide,?_⟩
  ·show ss.length+1<2 ^ 30
   show ss.length+1<1073741824
   omega
  ·exact nk.onlyR [(10,37)] rfl ⟨rfl,by rw[List.length_append];rfl,rfl,rfl,trivial⟩ ⟨rfl,rfl,trivial⟩
theorem qzl:∀ (c i:Nat),l.length-i=c->i<=l.length ->
  GD 25 Tryd.f25 (RsQ li m o l) (hd Tryd.f25 0) ⟨[(1,.ptr 1 0),(4,.win true syS 10 0 (symF (l.take i)).length),(5,.int .i64 (i:Nat))],[(1,.var [.bool li,.int .i64 m,.int .i64 o,.sl opS l]),(10,.row 66 syS (symF (l.take i)))]⟩:=by
 have hv:symV (li,m,o,l)=(symF l,0):=by unfold symV;rw[if_pos hc]
 intro c
 induction c with
 | zero=>
  intro i hc2 hi;refine qai qum (q12 li m o l (symF (l.take i)) i _ _) ?_;rw[decide_eq_false (by omega),bc_f,List.take_of_length_le (by omega)];refine qm5 (e:=syS) (et:=66) (a:=10) (z:=0) (xs:=symF l) ?_ ?_ rfl rfl rfl
  ·show [SV.win true syS 0 0 (symV (li,m,o,l)).1.length,.int .i64 (symV (li,m,o,l)).2]=_
   rw[hv]
  ·show [LB.row 66 syS (symV (li,m,o,l)).1]=_
   rw[hv]
 | succ c ih=>
  intro i hc2 hi;have hil:i<l.length:=by omega
  refine qai qum (q12 li m o l (symF (l.take i)) i _ _) ?_;rw[decide_eq_true (show (i:Int)<(l.length:Int) by omega),bc_t];have h:=qzm li m o l hc i hil (ih (i+1) (by omega) (by omega)) _ 0 rfl (Nat.zero_le _);rw[List.take_zero,List.append_nil] at h;exact h.only ⟨rfl,rfl,rfl,rfl,trivial⟩ ⟨rfl,rfl,trivial⟩
end
theorem qv8:Held Tryd.prog G0 25 ctSym:=Held.of qum (fn:=Tryd.f25) rfl rfl ⟨by decide,by decide⟩ fun ⟨⟨li,m,o,l⟩,_⟩ _=>by
 refine qai qum (vc_rs li m o l _ _) ⟨trivial,qaf (fun h=>?_) (fun h=>?_)⟩
 ·have h:¬ (chkV (li,m,o,l)).2=0:=by
   have h:(!decide ((chkV (li,m,o,l)).2=0))=true:=h;simpa using h
  have h6:(chkV (li,m,o,l)).2=60:=by rcases q2z (li,m,o,l) with q | q;exact absurd q h;exact q
  have hv:symV (li,m,o,l)=([],60):=by unfold symV;rw[if_neg h,h6]
  refine qm6 (e:=syS) (et:=66) (z:=60) ?_ ?_ rfl (by decide)
  ·show [SV.win true syS 0 0 (symV (li,m,o,l)).1.length,.int .i64 (symV (li,m,o,l)).2]=_
   rw[hv];rfl
  ·show [LB.row 66 syS (symV (li,m,o,l)).1]=_
   rw[hv]
 ·have h:(chkV (li,m,o,l)).2=0:=by
   have h:(!decide ((chkV (li,m,o,l)).2=0))=false:=h;simpa using h
  exact (qzl li m o l h _ 0 rfl (Nat.zero_le _)).only ⟨rfl,rfl,rfl,trivial⟩ ⟨rfl,rfl,trivial⟩
end Go.Proofs.YticpkibnhakgbaaDoor
namespace Go.Proofs.YticpkibnhakgbaaDoor
open Go.Px Go.Ax
set_option maxRecDepth 100000
def ctIn2:Ctr:=⟨[iI,iI,iI],fun _=>True,fun x=>[.bool (decide (x.2.1<=x.1)&&decide (x.1<=x.2.2.1))],fun _=>[]⟩
def CRcp:CV:=[(47,.inl ctIn2),(48,.inl ctRsy),(49,.inl ctLi)]
def CRfo:CV:=[(25,.inl ctSym),(37,.inl ctCp)]
set_option maxRecDepth 100000
theorem q7h (a b c:Int) (Q:QT) (R:RT):sy tt G0 [] Tryd.f47.ntmps Tryd.f47.results.toList Q R 1000 [.code (qae Tryd.f47)] (entry [iI,iI,iI] (a,b,c,())) =
  (bc (decide (b<=a)) (Q [.bool (decide (a<=c))] []) (false=false /\
 Q [.bool false] [])):=by kernel_rfl
theorem q6q (l:List SyT) (m:Int) (Q:QT) (R:RT):sy tt G0 CRcp Tryd.f37.ntmps Tryd.f37.results.toList Q (fun it S=>R it (qao [0,1,4,6] [4] S)) 1000 [.code (qae Tryd.f37)] (entry [.sl syS,iI] (l,m,())) =
  (ctIn2.pre (m,(0:Int),(65536:Int),()) /\
 bc (!(decide ((0:Int)<=m)&&decide (m<=65536))) (true=true /\
 Q [.agg [.bool false,.int .i64 0,.int .i64 0,.nils],.int .i64 60] [(4,.var [.bool false,.int .i64 0,.int .i64 0,.nils])]) (bc (bif false then true else decide ((65536:Int)<(l.length:Int))) (Q [.agg [.bool false,.int .i64 0,.int .i64 0,.nils],.int .i64 60] [(4,.var [.bool false,.int .i64 0,.int .i64 0,.nils])]) (R (hd Tryd.f37 0) { env:=[(0,.sl syS l),(1,.int .i64 m),(4,.ptr 4 0),(6,.int .i64 0)],blk:=[(4,.var [.bool false,.int .i64 0,.int .i64 0,.nils])] }))):=by kernel_rfl
theorem qu3 (l:List SyT) (m:Int) (i:Nat) (Q:QT) (R:RT):sy tt G0 CRcp Tryd.f37.ntmps Tryd.f37.results.toList Q (fun it S=>R it (qao [0,1,4,6] [4] S)) 1000 (hd Tryd.f37 0) ⟨[(0,.sl syS l),(1,.int .i64 m),(4,.ptr 4 0),(6,.int .i64 (i:Nat))],[(4,.var [.bool false,.int .i64 0,.int .i64 0,.nils])]⟩ =
  (bc (decide ((i:Int)<(l.length:Int))) ((0:Int)<=(i:Int) /\
 (i:Int)<(l.length:Int) /\
 ctRsy.pre ((gtY l (i:Int).toNat),m,()) /\
 bc (!sOK m (gtY l (i:Int).toNat)) (Q [.agg [.bool false,.int .i64 0,.int .i64 0,.nils],.int .i64 60] [(4,.var [.bool false,.int .i64 0,.int .i64 0,.nils])]) (R (hd Tryd.f37 0) { env:=[(0,.sl syS l),(1,.int .i64 m),(4,.ptr 4 0),(6,.int .i64 (IntKind.i64.wrap ((i:Int)+1)))],blk:=[(4,.var [.bool false,.int .i64 0,.int .i64 0,.nils])] })) (ctLi.pre (l,()) /\
 bc (decide ((4096:Int)<(↑(chL l).length:Int))) (Q [.agg [.bool false,.int .i64 0,.int .i64 0,.nils],.int .i64 2] [(4,.var [.bool false,.int .i64 0,.int .i64 0,.nils]),(7,.var [.bool false,.int .i64 m,.int .i64 (l.length:Int),.sl opS (chL l)])]) (Q [.agg [.bool false,.int .i64 m,.int .i64 (l.length:Int),.sl opS (chL l)],.int .i64 0] [(4,.var [.bool false,.int .i64 m,.int .i64 (l.length:Int),.sl opS (chL l)]),(7,.var [.bool false,.int .i64 m,.int .i64 (l.length:Int),.sl opS (chL l)])]))):=by kernel_rfl
theorem q6p (li:Bool) (m o:Int) (l:List OpT) (Q:QT) (R:RT):sy tt G0 CRfo Tryd.f34.ntmps Tryd.f34.results.toList Q R 1000 [.code (qae Tryd.f34)] (entry [paS] ((li,m,o,l),())) =
  (ctSym.pre ((li,m,o,l),()) /\
 bc (decide ((symV (li,m,o,l)).2≠0)) (Q [.agg [.bool false,.int .i64 0,.int .i64 0,.nils],.int .i64 (symV (li,m,o,l)).2] [(1,.var [.bool li,.int .i64 m,.int .i64 o,.sl opS l]),(2,.var [.bool false,.int .i64 0,.int .i64 0,.nils]),(1040960,.row 66 syS (symV (li,m,o,l)).1)]) (0+(symV (li,m,o,l)).1.length<=(symV (li,m,o,l)).1.length /\
 0+(symV (li,m,o,l)).1.length<=(symV (li,m,o,l)).1.length /\
 0+(symV (li,m,o,l)).1.length<=(symV (li,m,o,l)).1.length /\
 0+(symV (li,m,o,l)).1.length<=(symV (li,m,o,l)).1.length /\
 0+(symV (li,m,o,l)).1.length<=(symV (li,m,o,l)).1.length /\
 ctCp.pre (winL syS 0 (symV (li,m,o,l)).1.length (symV (li,m,o,l)).1,m,()) /\
 bc (decide ((cpV (winL syS 0 (symV (li,m,o,l)).1.length (symV (li,m,o,l)).1) m).2=(0:Int))) (Q [.agg [.bool li,.int .i64 (cpV (winL syS 0 (symV (li,m,o,l)).1.length (symV (li,m,o,l)).1) m).1.2.1,.int .i64 (cpV (winL syS 0 (symV (li,m,o,l)).1.length (symV (li,m,o,l)).1) m).1.2.2.1,.sl opS (cpV (winL syS 0 (symV (li,m,o,l)).1.length (symV (li,m,o,l)).1) m).1.2.2.2],.int .i64 (cpV (winL syS 0 (symV (li,m,o,l)).1.length (symV (li,m,o,l)).1) m).2] [(1,.var [.bool li,.int .i64 m,.int .i64 o,.sl opS l]),(2,.var [.bool li,.int .i64 (cpV (winL syS 0 (symV (li,m,o,l)).1.length (symV (li,m,o,l)).1) m).1.2.1,.int .i64 (cpV (winL syS 0 (symV (li,m,o,l)).1.length (symV (li,m,o,l)).1) m).1.2.2.1,.sl opS (cpV (winL syS 0 (symV (li,m,o,l)).1.length (symV (li,m,o,l)).1) m).1.2.2.2]),(6,.var [.bool li,.int .i64 (cpV (winL syS 0 (symV (li,m,o,l)).1.length (symV (li,m,o,l)).1) m).1.2.1,.int .i64 (cpV (winL syS 0 (symV (li,m,o,l)).1.length (symV (li,m,o,l)).1) m).1.2.2.1,.sl opS (cpV (winL syS 0 (symV (li,m,o,l)).1.length (symV (li,m,o,l)).1) m).1.2.2.2])]) (Q [.agg [.bool (cpV (winL syS 0 (symV (li,m,o,l)).1.length (symV (li,m,o,l)).1) m).1.1,.int .i64 (cpV (winL syS 0 (symV (li,m,o,l)).1.length (symV (li,m,o,l)).1) m).1.2.1,.int .i64 (cpV (winL syS 0 (symV (li,m,o,l)).1.length (symV (li,m,o,l)).1) m).1.2.2.1,.sl opS (cpV (winL syS 0 (symV (li,m,o,l)).1.length (symV (li,m,o,l)).1) m).1.2.2.2],.int .i64 (cpV (winL syS 0 (symV (li,m,o,l)).1.length (symV (li,m,o,l)).1) m).2] [(1,.var [.bool li,.int .i64 m,.int .i64 o,.sl opS l]),(2,.var [.bool (cpV (winL syS 0 (symV (li,m,o,l)).1.length (symV (li,m,o,l)).1) m).1.1,.int .i64 (cpV (winL syS 0 (symV (li,m,o,l)).1.length (symV (li,m,o,l)).1) m).1.2.1,.int .i64 (cpV (winL syS 0 (symV (li,m,o,l)).1.length (symV (li,m,o,l)).1) m).1.2.2.1,.sl opS (cpV (winL syS 0 (symV (li,m,o,l)).1.length (symV (li,m,o,l)).1) m).1.2.2.2]),(6,.var [.bool (cpV (winL syS 0 (symV (li,m,o,l)).1.length (symV (li,m,o,l)).1) m).1.1,.int .i64 (cpV (winL syS 0 (symV (li,m,o,l)).1.length (symV (li,m,o,l)).1) m).1.2.1,.int .i64 (cpV (winL syS 0 (symV (li,m,o,l)).1.length (symV (li,m,o,l)).1) m).1.2.2.1,.sl opS (cpV (winL syS 0 (symV (li,m,o,l)).1.length (symV (li,m,o,l)).1) m).1.2.2.2])]))):=by kernel_rfl
end Go.Proofs.YticpkibnhakgbaaDoor
namespace Go.Proofs.YticpkibnhakgbaaDoor
open Go.Px Go.Ax
set_option maxRecDepth 100000
attribute [local irreducible] Go.Px.sy Go.Px.syE
theorem q5j (a b c:Int) (R:List Item->PS->Prop):sy tt G0 [] Tryd.f47.ntmps Tryd.f47.results.toList (QC ctIn2 (a,b,c,())) R 1000 [.code (qae Tryd.f47)] (entry [iI,iI,iI] (a,b,c,())):=by
 have out:∀ v,(decide (b<=a)&&decide (a<=c))=v->ctIn2.out (a,b,c,())=[SV.bool v]:=fun v e=>congrArg (fun v=>[SV.bool v]) e
 refine (q7h a b c _ _).mpr (qaf (fun h=>?_) (fun h=>⟨rfl,?_⟩))
 ·exact QC.flat (out _ (by rw[h];rfl)) rfl rfl
 ·exact QC.flat (out _ (by rw[h];rfl)) rfl rfl
theorem q0n:Held Tryd.prog G0 47 ctIn2:=Held.run cx0 (fn:=Tryd.f47) rfl rfl ⟨by decide,by decide⟩ fun ⟨a,b,c,_⟩ _=>q5j a b c _
theorem q0w:CxOK Tryd.prog tt G0 CRcp:=((cx0.cons q5f (fn:=Tryd.f49) rfl rfl rfl).cons qv7 (fn:=Tryd.f48) rfl rfl rfl).cons q0n (fn:=Tryd.f47) rfl rfl rfl
abbrev RcQ (l:List SyT) (m:Int):List SV->List (Nat × LB)->Prop:=QC ctCp (l,m,())
theorem qr4 {l:List SyT} {m:Int} {rs:List SV} {bl:List (Nat × LB)} (p:PaT) (e:Int) (hv:cpV l m=(p,e)) (h:MtL (fun _=>none) [paV p,.int .i64 e] rs):RcQ l m rs bl:=
 QC.mt (by show MtL _ [paV (cpV l m).1,.int .i64 (cpV l m).2] _;rw[hv];exact h) rfl
theorem q4j (l:List SyT) (m:Int) (h0:0<=m) (h1:m<=65536) (hl:l.length<=65536):∀ (c i:Nat),l.length-i=c->i<=l.length->(∀ j,j<i->sOK m (gtY l j)=true) ->
  GD 37 Tryd.f37 (RcQ l m) (hd Tryd.f37 0) ⟨[(0,.sl syS l),(1,.int .i64 m),(4,.ptr 4 0),(6,.int .i64 (i:Nat))],[(4,.var [.bool false,.int .i64 0,.int .i64 0,.nils])]⟩:=by
 intro c
 induction c with
 | zero=>
  intro i hc hi hj;have hr:∀ s∈l,sOK m s=true:=fun s hs=>by
   obtain ⟨j,hj2,e⟩:=List.mem_iff_getElem.1 hs;rw[<- e,<- qbi hj2];exact hj j (by omega)
  have hg:szB m=true/\szB l.length=true/\l.all (sOK m)=true:=⟨by simp[szB];omega,by simp[szB];omega,by rw[List.all_eq_true];exact hr⟩;have hv:cpV l m=poV l m:=by unfold cpV;rw[if_neg (qqj hg)]
  refine qai q0w (qu3 l m i _ _) ?_;rw[decide_eq_false (by omega),bc_f];refine ⟨⟨hl,m,by omega,hr⟩,qaf (fun h=>?_) (fun h=>?_)⟩
  ·have h:(4096:Int)<((chL l).length:Int):=of_decide_eq_true h;exact qr4 _ _ (by rw[hv];unfold poV;rw[if_pos (by omega)]) (qc9 _)
  ·have h:¬ (4096:Int)<((chL l).length:Int):=of_decide_eq_false h;have hv2:cpV l m=(((false,m,(l.length:Int),chL l):PaT),(0:Int)):=by rw[hv];unfold poV;rw[if_neg (by omega)]
   exact QC.flat (by show [paV (cpV l m).1,.int .i64 (cpV l m).2]=_;rw[hv2];rfl) rfl rfl
 | succ c ih=>
  intro i hc hi hj;have hil:i<l.length:=by omega
  refine qai q0w (qu3 l m i _ _) ?_;rw[decide_eq_true (show (i:Int)<(l.length:Int) by omega),bc_t,Int.toNat_natCast,IntWalk.i64_in ((i:Int)+1) (by omega)];refine ⟨by omega,by omega,(show preN m from ⟨h0,by omega⟩),qaf (fun h=>?_) (fun h=>?_)⟩
  ·have h:sOK m (gtY l i)=false:=by
    have h:(!sOK m (gtY l i))=true:=h;simpa using h
   refine qr4 _ _ (qq4 fun q=>?_) (qc9 _);have:=List.all_eq_true.1 q.2.2 (gtY l i) (by rw[qbi hil];exact List.getElem_mem _);rw[h] at this;cases this
  ·have h:sOK m (gtY l i)=true:=by
    have h:(!sOK m (gtY l i))=false:=h;simpa using h
   refine (ih (i+1) (by omega) (by omega) fun j hj2=>?_).only ⟨rfl,rfl,rfl,rfl,trivial⟩ ⟨rfl,trivial⟩;rcases Nat.lt_or_ge j i with q | q
   ·exact hj j q
   ·have:j=i:=by omega
    subst this;exact h
theorem q74 (l:List SyT) (m:Int):GD 37 Tryd.f37 (RcQ l m) [.code (qae Tryd.f37)] (entry [.sl syS,iI] (l,m,())):=by
 refine qai q0w (q6q l m _ _) ⟨trivial,qaf (fun h=>⟨by trivial,?_⟩) (fun h=>qaf (fun h2=>?_) (fun h2=>?_))⟩
 ·refine qr4 _ _ (qq4 fun q=>?_) (qc9 _);have:=qrm q.1;simp at h;omega
 ·have h2:decide ((65536:Int)<(l.length:Int))=true:=h2;have h2:(65536:Int)<(l.length:Int):=of_decide_eq_true h2;refine qr4 _ _ (qq4 fun q=>?_) (qc9 _);have:=qrm q.2.1;omega
 ·have h:0<=m/\m<=65536:=by
   have h:(!(decide ((0:Int)<=m)&&decide (m<=(65536:Int))))=false:=h;simpa using h
  have h2:decide ((65536:Int)<(l.length:Int))=false:=h2;have h2:¬ (65536:Int)<(l.length:Int):=of_decide_eq_false h2;exact (q4j l m h.1 h.2 (by omega) _ 0 rfl (Nat.zero_le _) fun j hj=>absurd hj (Nat.not_lt_zero _)).only ⟨rfl,rfl,rfl,rfl,trivial⟩ ⟨rfl,trivial⟩
theorem qwg:Held Tryd.prog G0 37 ctCp:=Held.of q0w (fn:=Tryd.f37) rfl rfl ⟨by decide,by decide⟩ fun ⟨l,m,_⟩ _=>q74 l m
theorem q5v {x:OpT} {m:Int} (h:isRB x m=true) (h0:0<=m) (hm:m<16777216) {k:Nat} (hk:(k:Int)<x.2.2.1):sOK m (elO x.1.toNat x k)=true:=by
 have pp:=qxi h ⟨h0,hm⟩;rcases (qd5 h).1 with e | e | e | e
 ·rw[e];have pp:=pp (.inl e)
  show sOK m (true,IntKind.i64.wrap (x.2.1+(k:Int)),0)=true
  rw[IntWalk.i64_in _ (by omega)];simp[sOK];omega
 ·rw[e];have pp:=pp (.inr e)
  show sOK m (true,IntKind.i64.wrap (x.2.1+(k:Int)),gtB x.2.2.2.2 k)=true
  rw[IntWalk.i64_in _ (by omega)];simp[sOK];omega
 ·rw[e];rfl
 ·rw[e];rfl
theorem q32 {m:Int} (h0:0<=m) (hm:m<16777216) {l:List OpT} (hr:∀ x∈l,isRB x m=true):∀ s∈symF l,sOK m s=true:=fun s hs=>by
 obtain ⟨x,hx,k,hk,e⟩:=qpz hr s hs;rw[e];exact q5v (hr x hx) h0 hm hk
theorem q55 {p:PaT} (h:(chkV p).2=0):0<=p.2.1/\p.2.1<=65536:=by
 unfold chkV at h;split at h
 ·rename_i q;exact qrm q.1
 ·cases h
theorem q33 {p:PaT} (h:(symV p).2=0):(chkV p).2=0/\(symV p).1=symF p.2.2.2:=by
 unfold symV at h |-;split at h
 ·rename_i q;rw[if_pos q];exact ⟨q,rfl⟩
 ·rename_i q;exact absurd h q
theorem qck {p:PaT} (h:(symV p).2=0):(∀ s∈(symV p).1,sOK p.2.1 s=true)/\(0<=p.2.1/\p.2.1<=65536)/\((symV p).1.length:Int)=p.2.2.1:=by
 obtain ⟨h1,h2⟩:=q33 h;obtain ⟨hr,hs,ho,hl⟩:=qis h1;have hi:=q55 h1;rw[h2];exact ⟨q32 hi.1 (by omega) hr,hi,by rw[qfs hr,hs]⟩
theorem cp_po {p:PaT} (h:(symV p).2=0):cpV (symV p).1 p.2.1=poV (symV p).1 p.2.1:=by
 obtain ⟨h1,h2,h3⟩:=qck h;have hl:=qmv p;unfold cpV;rw[if_neg (qqj ⟨by simp[szB];omega,by simp[szB];omega,by rw[List.all_eq_true];exact h1⟩)]
theorem qr8 {l:List SyT} {m:Int} (h:(poV l m).2≠0):(poV l m).1=(false,0,0,[]):=by
 unfold poV at h |-;split at h
 ·rename_i q;rw[if_pos q]
 ·exact absurd rfl h
theorem cxRfo:CxOK Tryd.prog tt G0 CRfo:=(cx0.cons qwg (fn:=Tryd.f37) rfl rfl rfl).cons qv8 (fn:=Tryd.f25) rfl rfl rfl
theorem q4h (li:Bool) (m o:Int) (l:List OpT) (R:List Item->PS->Prop):sy tt G0 CRfo Tryd.f34.ntmps Tryd.f34.results.toList (QC ctFo ((li,m,o,l),())) R 1000 [.code (qae Tryd.f34)] (entry [paS] ((li,m,o,l),())):=by
 refine (q6p li m o l _ _).mpr ⟨trivial,qaf (fun h=>?_) (fun h=>?_)⟩
 ·have h:(symV (li,m,o,l)).2≠0:=of_decide_eq_true h;have hv:foV (li,m,o,l)=((false,0,0,[]),(symV (li,m,o,l)).2):=by unfold foV;rw[if_neg h]
  exact QC.mt (by show MtL _ [paV (foV (li,m,o,l)).1,.int .i64 (foV (li,m,o,l)).2] _;rw[hv];exact qc9 _) rfl
 ·have h:¬ (symV (li,m,o,l)).2≠0:=of_decide_eq_false h;have h:(symV (li,m,o,l)).2=0:=by omega
  have hcp:cpV (symV (li,m,o,l)).1 m=poV (symV (li,m,o,l)).1 m:=cp_po h;rw[winA,hcp];refine ⟨by omega,by omega,by omega,by omega,by omega,qzb _,qaf (fun h2=>?_) (fun h2=>?_)⟩
  ·have h2:(poV (symV (li,m,o,l)).1 m).2=0:=of_decide_eq_true h2;have hv:foV (li,m,o,l)=((li,(poV (symV (li,m,o,l)).1 m).1.2),0):=by unfold foV;rw[if_pos h,if_pos h2]
   exact QC.flat (by show [paV (foV (li,m,o,l)).1,.int .i64 (foV (li,m,o,l)).2]=_;rw[hv,h2];rfl) rfl rfl
  ·have h2:¬ (poV (symV (li,m,o,l)).1 m).2=0:=of_decide_eq_false h2;have hv:foV (li,m,o,l)=((false,0,0,[]),(poV (symV (li,m,o,l)).1 m).2):=by unfold foV;rw[if_pos h,if_neg h2]
   exact QC.flat (by show [paV (foV (li,m,o,l)).1,.int .i64 (foV (li,m,o,l)).2]=_;rw[hv,qr8 h2];rfl) rfl rfl
theorem qzo:Held Tryd.prog G0 34 ctFo:=Held.run cxRfo (fn:=Tryd.f34) rfl rfl ⟨by decide,by decide⟩ fun ⟨⟨li,m,o,l⟩,_⟩ _=>q4h li m o l _
end Go.Proofs.YticpkibnhakgbaaDoor
namespace Go.Proofs.YticpkibnhakgbaaDoor
open Go.Px Go.Ax
set_option maxRecDepth 100000
def thE (a:List SyT) (s:SyT):SyT:=if s.1=true then ((gtY a s.2.1.toNat).1,(gtY a s.2.1.toNat).2.1,IntKind.u8.wrap ((gtY a s.2.1.toNat).2.2+s.2.2)) else (false,0,s.2.2)
def thOK (n:Nat) (s:SyT):Bool := !s.1 || (decide (0<=s.2.1)&&decide (s.2.1<n))
def thL (a b:List SyT):List SyT:=b.map (thE a)
def thV (a b:List SyT):List SyT × Int:=if b.all (thOK a.length)=true then (thL a b,0) else ([],61)
abbrev zP:PaT:=(false,0,0,[])
def coV (p q:PaT):PaT × Int:=
 if (symV p).2≠0 then (zP,(symV p).2) else if (symV q).2≠0 then (zP,(symV q).2) else
 if p.1≠q.1 then (zP,62) else if p.2.2.1≠q.2.1 then (zP,61) else
 if (cpV (thL (symV p).1 (symV q).1) p.2.1).2≠0 then (zP,(cpV (thL (symV p).1 (symV q).1) p.2.1).2) else ((p.1,(cpV (thL (symV p).1 (symV q).1) p.2.1).1.2),0)
def alF:PaT × Int->List PaT->PaT × Int
 | r,[]=>r
 | r,q::l=>if (coV r.1 q).2≠0 then coV r.1 q else alF (coV r.1 q) l
def allV:List PaT->PaT × Int
 | []=>(zP,1)
 | p::l=>if (foV p).2≠0 then (zP,(foV p).2) else alF (foV p) l
def byL (s:List SyT):Prop:=∀ x∈s,0<=x.2.2/\x.2.2<256
theorem qcj (a b:List SyT):(thL a b).length=b.length:=by simp[thL]
theorem q5n {a:List SyT} {i:Nat} (h:i<a.length):gtY a i∈a:=by
 rw[qbi h];exact List.getElem_mem h
theorem q2g {n:Nat} {s:SyT} (h:sOK n s=true):thOK n s=true:=by
 unfold sOK at h;unfold thOK;split at h
 ·rw[h];simp
 ·rename_i q;simp[q]
theorem q3x {n:Nat} {s:SyT} (h:thOK n s=true) (hs:s.1=true):0<=s.2.1/\s.2.1.toNat<n:=by
 unfold thOK at h;rw[hs] at h;simp only[Bool.not_true,Bool.false_or,Bool.and_eq_true,decide_eq_true_eq] at h;omega
theorem q3y {a:List SyT} {m:Int} {s:SyT} (ha:∀ x∈a,sOK m x=true) (hs:sOK a.length s=true):sOK m (thE a s)=true:=by
 unfold thE;split
 ·rename_i h;have h1:=q3x (q2g hs) h;have h2:=ha _ (q5n h1.2);unfold sOK at h2 |-;exact h2
 ·simp[sOK]
theorem qpw {a b:List SyT} {m:Int} (ha:∀ x∈a,sOK m x=true) (hb:∀ x∈b,sOK a.length x=true):∀ x∈thL a b,sOK m x=true:=fun x hx=>by
 obtain ⟨s,hs,e⟩:=List.mem_map.1 hx;rw[<- e];exact q3y ha (hb s hs)
theorem q7r {a b:List SyT} (hb:∀ x∈b,sOK a.length x=true):thV a b=(thL a b,0):=by
 unfold thV;rw[if_pos (List.all_eq_true.2 fun x hx=>q2g (hb x hx))]
abbrev nfP (li:Bool) (m:Int) (s:List SyT):PaT:=(li,m,(s.length:Int),chL s)
theorem nf_ok {s:List SyT} {m:Int} (li:Bool) (hr:∀ x∈s,sOK m x=true) (h0:0<=m) (h1:m<=65536) (hl:s.length<=4096):(chkV (nfP li m s)).2=0/\symF (chL s)=s/\symV (nfP li m s)=(s,0):=by
 obtain ⟨q1,q2,q3,q4,q5,q6⟩:=qr9 hr h0 h1 hl;have q6:(chkV (nfP li m s)).2=0:=q6;refine ⟨q6,q2,?_⟩;unfold symV;rw[if_pos q6];exact Prod.ext q2 rfl
theorem qj6 {p:PaT} (h:(chkV p).2=0):symV p=(symF p.2.2.2,0):=by unfold symV;rw[if_pos h]
theorem fo_nf {p:PaT} (h:(chkV p).2=0) (hs:p.2.2.1<=4096):foV p=(nfP p.1 p.2.1 (symF p.2.2.2),0):=by
 obtain ⟨h1,h2,h3⟩:=qck (p:=p) (by rw[qj6 h]);rw[qj6 h] at h1 h3;have h1:∀ s∈symF p.2.2.2,sOK p.2.1 s=true:=h1;have h3:((symF p.2.2.2).length:Int)=p.2.2.1:=h3;obtain ⟨q1,_⟩:=qr9 h1 h2.1 h2.2 (by omega);unfold foV;rw[qj6 h];simp only[q1];rfl
theorem co_nf {p q:PaT} (hp:(chkV p).2=0) (hq:(chkV q).2=0) (hl:p.1=q.1) (ho:p.2.2.1=q.2.1) (hs:q.2.2.1<=4096) :
  coV p q=(nfP p.1 p.2.1 (thL (symF p.2.2.2) (symF q.2.2.2)),0):=by
 obtain ⟨a1,a2,a3⟩:=qck (p:=p) (by rw[qj6 hp]);obtain ⟨b1,b2,b3⟩:=qck (p:=q) (by rw[qj6 hq]);rw[qj6 hp] at a1 a3;rw[qj6 hq] at b1 b3;have a3:((symF p.2.2.2).length:Int)=p.2.2.1:=a3;have b3:((symF q.2.2.2).length:Int)=q.2.2.1:=b3;have c1:=q84 (m:=p.2.1) (qpw a1 (b:=symF q.2.2.2) (fun x hx=>by rw[a3,ho];exact b1 x hx)) a2.1 a2.2 (by rw[qcj];omega);unfold coV;rw[qj6 hp,qj6 hq];rw[if_neg (by simp),if_neg (by simp),if_neg (by simpa using hl),if_neg (by simpa using ho)];simp only[c1];rfl
def syC:List SyT->List PaT->List SyT
 | s,[]=>s
 | s,q::l=>syC (thL s (symF q.2.2.2)) l
def chn (li:Bool):Int->List PaT->Prop
 | _,[]=>True
 | o,q::l=>(chkV q).2=0/\q.1=li/\o=q.2.1/\q.2.2.1<=4096/\chn li q.2.2.1 l
theorem qjm {q:PaT} (h:(chkV q).2=0):(∀ s∈symF q.2.2.2,sOK q.2.1 s=true)/\(0<=q.2.1/\q.2.1<=65536)/\((symF q.2.2.2).length:Int)=q.2.2.1:=by
 have:=qck (p:=q) (by rw[qj6 h]);rw[qj6 h] at this;exact this
theorem q2e {m:Int} {li:Bool}:∀ {l:List PaT} {s:List SyT},(∀ x∈s,sOK m x=true)->s.length<=4096->chn li s.length l->(∀ x∈syC s l,sOK m x=true)/\(syC s l).length<=4096
 | [],s,h,h2,_=>⟨h,h2⟩
 | q::l,s,h,h2,hc=>by
  obtain ⟨c1,c2,c3,c4,c5⟩:=hc;obtain ⟨r1,r2,r3⟩:=qjm c1;refine q2e (li:=li) (l:=l) (s:=thL s (symF q.2.2.2)) (qpw h fun x hx=>by rw[c3];exact r1 x hx) (by rw[qcj];omega) ?_;rw[qcj,r3];exact c5
theorem q9f {m:Int} {li:Bool} (h0:0<=m) (h1:m<=65536):∀ {l:List PaT} {s:List SyT},(∀ x∈s,sOK m x=true)->s.length<=4096->chn li s.length l->alF (nfP li m s,0) l=(nfP li m (syC s l),0)
 | [],s,h,h2,_=>rfl
 | q::l,s,h,h2,hc=>by
  obtain ⟨c1,c2,c3,c4,c5⟩:=hc;obtain ⟨r1,r2,r3⟩:=qjm c1;obtain ⟨n1,n2,n3⟩:=nf_ok li h h0 h1 h2;have e:=co_nf n1 c1 (show li=q.1 from c2.symm) c3 c4;rw[show symF (nfP li m s).2.2.2=s from n2] at e;rw[alF,show (nfP li m s,(0:Int)).1=nfP li m s from rfl,e,if_neg (by simp)];refine q9f h0 h1 (l:=l) (s:=thL s (symF q.2.2.2)) (qpw h fun x hx=>by rw[c3];exact r1 x hx) (by rw[qcj];omega) ?_;rw[qcj,r3];exact c5
theorem q9e {p:PaT} {l:List PaT} (h:(chkV p).2=0) (hs:p.2.2.1<=4096) (hc:chn p.1 p.2.2.1 l):allV (p::l)=(nfP p.1 p.2.1 (syC (symF p.2.2.2) l),0):=by
 obtain ⟨r1,r2,r3⟩:=qjm h;rw[allV,fo_nf h hs,if_neg (by simp)];exact q9f r2.1 r2.2 r1 (by omega) (by rw[r3];exact hc)
end Go.Proofs.YticpkibnhakgbaaDoor
namespace Go.Proofs.YticpkibnhakgbaaDoor
open Go.Px Go.Ax
set_option maxRecDepth 100000
theorem q2r {d:List Int} (h:∀ v∈d,0<=v/\v<256) (k:Nat):0<=gtB d k/\gtB d k<256:=by
 by_cases hk:k<d.length
 ·rw[qxp hk];exact h _ (List.getElem_mem hk)
 ·have:gtB d k=0:=by
   show gt uB _ _=_
   unfold gt;rw[List.getElem?_eq_none (by omega)];rfl
  rw[this];decide
theorem qq3 (x:List Int) (k n:Int):∀ v∈datO x k n,0<=v/\v<256:=fun v hv=>by
 unfold datO at hv;split at hv
 ·unfold datA at hv;obtain ⟨j,_,e⟩:=List.mem_map.1 hv;rw[<- e];unfold elA;generalize gtB x 3*_=t;simp[IntKind.wrap,IntKind.bits,IntKind.signed];omega
 ·cases hv
theorem q8e {x:List Int} (hx:qqc x) (m:Int):(0<=(opV x m).2.2.2.1/\(opV x m).2.2.2.1<256)/\∀ v∈(opV x m).2.2.2.2,0<=v/\v<256:=by
 unfold opV;split
 ·split
  ·exact ⟨⟨Int.le_refl 0,(show (0:Int)<256 by decide)⟩,fun v hv=>qq3 x 4 (1+(gtB x 2).tmod 5) v hv⟩
  ·exact ⟨⟨Int.le_refl 0,(show (0:Int)<256 by decide)⟩,fun v hv=>qq3 x (1+(gtB x 0).tmod 4) (1+((gtB x 2).tmod (m-(gtB x 1).tmod m)).tmod 5) v hv⟩
 ·refine ⟨?_,fun v hv=>qq3 x (1+(gtB x 0).tmod 4) (1+(gtB x 2).tmod 5) v hv⟩
  show 0<=(if 1+(gtB x 0).tmod 4=3 then gtB x 3 else 0)/\(if 1+(gtB x 0).tmod 4=3 then gtB x 3 else 0)<256
  split
  ·exact hx 3
  ·decide
theorem q7t {l:List (List Int)} {m:Int} (hl:qkk l) (h0:0<=m) (h1:m<=65536):byL (symF (szO l m)):=fun s hs=>by
 obtain ⟨x,hx,k,hk,e⟩:=qpz (qj5 hl h0 h1) s hs;have hk4:=(qd5 (qj5 hl h0 h1 x hx)).1;unfold szO szL at hx;obtain ⟨j,_,ex⟩:=List.mem_map.1 hx;have r:=q8e (hl j) m;rw[ex] at r;rw[e];have z:(0:Int)<=0/\(0:Int)<256:=by decide
 rcases hk4 with q | q | q | q <;> rw[q]
 ·exact z
 ·exact q2r r.2 k
 ·exact r.1
 ·exact q2r r.2 k
theorem q2d {l:List (List Int)} {m:Int} (hl:qkk l) (h0:0<=m) (h1:m<=65536):(chkV (szV l m)).2=0/\(szV l m).2.2.1<=30/\(szV l m).2.2.2.length<=6/\byL (symF (szV l m).2.2.2):=by
 rw[q30 hl h0 h1];exact ⟨rfl,(qpy hl h0).2,qvm l m,q7t hl h0 h1⟩
end Go.Proofs.YticpkibnhakgbaaDoor
namespace Go.Proofs.YticpkibnhakgbaaDoor
open Go.Px Go.Ax
set_option maxRecDepth 100000
attribute [local irreducible] Go.Px.sy Go.Px.syE
def ctTh:Ctr:=⟨[.sl syS,.sl syS],fun x=>List.length x.2.1<16777216,fun x=>[.win true syS 0 0 (thV x.1 x.2.1).1.length,.int .i64 (thV x.1 x.2.1).2],fun x=>[.row 66 syS (thV x.1 x.2.1).1]⟩
abbrev ThQ (a b:List SyT):List SV->List (Nat × LB)->Prop:=QC ctTh (a,b,())
theorem q2c {a b:List SyT} {i:Nat} (h:i<b.length) (hb:thOK a.length b[i]=false):thV a b=([],61):=by
 unfold thV
 rw[if_neg fun q=>by
  have:=List.all_eq_true.1 q b[i] (List.getElem_mem h)
  rw[hb] at this;cases this]
def thS (a b:List SyT) (i:Nat):List SyT:=thL a (b.take i)++List.replicate (b.length-i) (false,0,0)
theorem qvk {a b:List SyT} {i:Nat} (h:i<=b.length):(thS a b i).length=b.length:=by
 unfold thS;rw[List.length_append,qcj,List.length_take,List.length_replicate];omega
theorem q7s {a b:List SyT} {i:Nat} (h:i<b.length):gtY (thS a b i) i=(false,0,0):=by
 rw[qbi (by rw[qvk (by omega)];exact h)];unfold thS;rw[List.getElem_append_right (by rw[qcj,List.length_take];omega),List.getElem_replicate]
theorem qvj {a b:List SyT} {i:Nat} (h:i<b.length):(thS a b i).set i (thE a (gtY b i))=thS a b (i+1):=by
 have e:(thL a (b.take i)).length=i:=by rw[qcj,List.length_take];omega
 unfold thS;rw[List.set_append_right _ _ (by omega),e,Nat.sub_self,show b.length-i=(b.length-(i+1))+1 by omega,List.replicate_succ,List.set_cons_zero,List.take_succ_eq_append_getElem h,qbi h]
 show _=(List.map _ (_++_))++_
 rw[List.map_append,List.append_assoc];rfl
theorem q5m {l:List SyT} {i:Nat} {v:SyT} (h:i<l.length):gtY (l.set i v) i=v:=by
 rw[qbi (by simpa using h),List.getElem_set_self]
theorem q3w (a b:List SyT) (hb:b.length<16777216):∀ (k i:Nat),b.length-i=k->i<=b.length->(∀ s∈b.take i,thOK a.length s=true) ->
  GD 17 Tryd.f17 (ThQ a b) (hd Tryd.f17 0) ⟨[(0,.sl syS a),(6,.win true syS 11 0 b.length),(12,.sl syS b),(13,.int .i64 b.length),(14,.int .i64 (i:Nat))],[(11,.row 66 syS (thS a b i))]⟩:=by
 intro k
 induction k with
 | zero=>
  intro i hk hi ht;have hi:i=b.length:=by omega
  refine qai cx0 (q1z a b (thS a b i) i b.length _ _) ?_;rw[decide_eq_false (by omega),bc_f];have hs:thS a b i=thL a b:=by
   unfold thS;rw[hi,List.take_length,Nat.sub_self];exact List.append_nil _
  have hv:thV a b=(thL a b,0):=by
   unfold thV;rw[if_pos (List.all_eq_true.2 fun x hx=>ht x (by rw[hi,List.take_length];exact hx))]
  rw[hs];exact qm5 (e:=syS) (et:=66) (a:=11) (xs:=thL a b) (z:=0) (by show [SV.win true syS 0 0 (thV a b).1.length,.int .i64 (thV a b).2]=_;rw[hv]) (by show [LB.row 66 syS (thV a b).1]=_;rw[hv]) rfl (by rw[qcj,Int.toNat_natCast]) rfl
 | succ k ih=>
  intro i hk hi ht;have hlt:i<b.length:=by omega
  have hl:=qvk (a:=a) (b:=b) (i:=i) hi;refine qai cx0 (q1z a b (thS a b i) i b.length _ _) ?_;rw[decide_eq_true (show (i:Int)<(b.length:Int) by omega),bc_t,Int.toNat_natCast,Int.toNat_natCast,Nat.zero_add,IntWalk.i64_in ((i:Int)+1) (by omega)];have nx:thOK a.length (gtY b i)=true->∀ xs,xs=thS a b (i+1)->GD 17 Tryd.f17 (ThQ a b) (hd Tryd.f17 0) ⟨[(0,.sl syS a),(6,.win true syS 11 0 b.length),(12,.sl syS b),(13,.int .i64 b.length),(14,.int .i64 ((i:Int)+1))],[(11,.row 66 syS xs)]⟩:=fun ho xs he=>by
   subst he;refine ih (i+1) (by omega) (by omega) fun s hs=>?_
   rw[List.take_succ_eq_append_getElem hlt] at hs;rcases List.mem_append.1 hs with q | q
   ·exact ht s q
   ·rw[qbi hlt] at ho;rw[List.mem_singleton.1 q];exact ho
  have bad:thOK a.length (gtY b i)=false->∀ bl,ThQ a b [SV.nils,.int .i64 61] bl:=fun ho bl=>by
   rw[qbi hlt] at ho;have hv:=q2c hlt ho;exact qm6 (e:=syS) (et:=66) (z:=61) (by show [SV.win true syS 0 0 (thV a b).1.length,.int .i64 (thV a b).2]=_;rw[hv];rfl) (by show [LB.row 66 syS (thV a b).1]=_;rw[hv]) rfl (by decide)
  refine ⟨by omega,by omega,qaf (fun h=>?_) (fun h=>?_)⟩
  ·have h:(gtY b i).1=false:=by simpa using h
   refine ⟨by omega,by omega,by omega,nx (by unfold thOK;rw[h];rfl) _ ?_⟩;rw[q7s hlt,<- qvj hlt];have:thE a (gtY b i)=(false,0,(gtY b i).2.2):=by unfold thE;rw[h];rfl
   rw[this]
  ·have h:(gtY b i).1=true:=by simpa using h
   refine qaf (fun h2=>⟨rfl,bad ?_ _⟩) (fun h2=>qaf (fun h3=>bad ?_ _) (fun h3=>?_))
   ·have h2:(gtY b i).2.1<0:=of_decide_eq_true h2;unfold thOK;rw[h,decide_eq_false (by omega)];rfl
   ·have h3:(a.length:Int)<=(gtY b i).2.1:=of_decide_eq_true h3;unfold thOK;rw[h,decide_eq_false (show ¬ (gtY b i).2.1<(a.length:Int) by omega)];simp
   ·have h2:¬ (gtY b i).2.1<0:=of_decide_eq_false h2;have h3:¬ (a.length:Int)<=(gtY b i).2.1:=of_decide_eq_false h3;refine ⟨by omega,by omega,by omega,by omega,by omega,by omega,by omega,by rw[List.length_set];omega,by omega,by omega,by rw[List.length_set];omega,nx ?_ _ ?_⟩
    ·unfold thOK;rw[h,decide_eq_true (by omega),decide_eq_true (by omega)];rfl
    ·rw[q5m (by omega),List.set_set,<- qvj hlt];have:thE a (gtY b i)=((gtY a (gtY b i).2.1.toNat).1,(gtY a (gtY b i).2.1.toNat).2.1,IntKind.u8.wrap ((gtY a (gtY b i).2.1.toNat).2.2+(gtY b i).2.2)):=by unfold thE;rw[if_pos h]
     rw[this]
theorem q7q (a b:List SyT) (hb:b.length<16777216):GD 17 Tryd.f17 (ThQ a b) [.code (qae Tryd.f17)] (entry [.sl syS,.sl syS] (a,b,())):=by
 refine qai cx0 (vc_th a b _ _) ⟨by omega,by omega,by omega,by omega,?_⟩;have h:=q3w a b hb _ 0 rfl (Nat.zero_le _) (fun s hs=>by cases hs);rw[show thS a b 0=List.replicate (b.length:Int).toNat syS.dflt by unfold thS;rw[Int.toNat_natCast];rfl] at h;rw[Int.toNat_natCast] at h |-;exact h
theorem qpv:Held Tryd.prog G0 17 ctTh:=Held.of cx0 (fn:=Tryd.f17) rfl rfl ⟨by decide,by decide⟩ fun ⟨a,b,_⟩ hp=>q7q a b hp
theorem qzj (a b:List SyT) (hb:b.length<16777216):∀ (k i:Nat),b.length-i=k->i<=b.length->(∀ s∈b.take i,thOK a.length s=true) ->
  GD 18 Tryd.f18 (ThQ a b) (hd Tryd.f18 0) ⟨[(0,.sl syS a),(1,.sl syS b),(6,.win true syS 9 0 (thL a (b.take i)).length),(7,.int .i64 (i:Nat))],[(9,.row 66 syS (thL a (b.take i)))]⟩:=by
 intro k
 induction k with
 | zero=>
  intro i hk hi ht;have hi:i=b.length:=by omega
  refine qai cx0 (qu2 a b (thL a (b.take i)) i _ _) ?_;rw[decide_eq_false (by omega),bc_f];have hs:thL a (b.take i)=thL a b:=by rw[hi,List.take_length]
  have hv:thV a b=(thL a b,0):=by
   unfold thV;rw[if_pos (List.all_eq_true.2 fun x hx=>ht x (by rw[hi,List.take_length];exact hx))]
  rw[hs];exact qm5 (e:=syS) (et:=66) (a:=9) (xs:=thL a b) (z:=0) (by show [SV.win true syS 0 0 (thV a b).1.length,.int .i64 (thV a b).2]=_;rw[hv]) (by show [LB.row 66 syS (thV a b).1]=_;rw[hv]) rfl rfl rfl
 | succ k ih=>
  intro i hk hi ht;have hlt:i<b.length:=by omega
  have hl:(thL a (b.take i)).length=i:=by rw[qcj,List.length_take];omega
  refine qai cx0 (qu2 a b (thL a (b.take i)) i _ _) ?_;rw[decide_eq_true (show (i:Int)<(b.length:Int) by omega),bc_t,Int.toNat_natCast,IntWalk.i64_in ((i:Int)+1) (by omega)];have nx:thOK a.length (gtY b i)=true->∀ v,v=thE a (gtY b i)->GD 18 Tryd.f18 (ThQ a b) (hd Tryd.f18 0) ⟨[(0,.sl syS a),(1,.sl syS b),(6,.win true syS 63 0 ((thL a (b.take i)).length+1)),(7,.int .i64 ((i:Int)+1))],[(63,.row 66 syS (thL a (b.take i)++[v]))]⟩:=fun ho v he=>by
   have e:thL a (b.take (i+1))=thL a (b.take i)++[v]:=by
    rw[List.take_succ_eq_append_getElem hlt,he,qbi hlt]
    show List.map _ _=_
    rw[List.map_append];rfl
   have h:=ih (i+1) (by omega) (by omega) fun s hs=>by
    rw[List.take_succ_eq_append_getElem hlt] at hs;rcases List.mem_append.1 hs with q | q
    ·exact ht s q
    ·rw[qbi hlt] at ho;rw[List.mem_singleton.1 q];exact ho
   rw[e] at h;exact h.onlyR [(9,63)] rfl ⟨rfl,rfl,by rw[List.length_append];rfl,rfl,trivial⟩ ⟨rfl,trivial⟩
  have bad:thOK a.length (gtY b i)=false->∀ bl,ThQ a b [SV.nils,.int .i64 61] bl:=fun ho bl=>by
   rw[qbi hlt] at ho;have hv:=q2c hlt ho;exact qm6 (e:=syS) (et:=66) (z:=61) (by show [SV.win true syS 0 0 (thV a b).1.length,.int .i64 (thV a b).2]=_;rw[hv];rfl) (by show [LB.row 66 syS (thV a b).1]=_;rw[hv]) rfl (by decide)
  generalize thL a (b.take i)=o at *;refine ⟨by omega,by omega,by omega,by omega,qaf (fun h=>?_) (fun h=>?_)⟩
  ·have h:(gtY b i).1=true:=h;refine ⟨by omega,by omega,qaf (fun h2=>⟨rfl,bad ?_ _⟩) (fun h2=>⟨by omega,by omega,qaf (fun h3=>bad ?_ _) (fun h3=>?_)⟩)⟩
   ·have h2:(gtY b i).2.1<0:=of_decide_eq_true h2;unfold thOK;rw[h,decide_eq_false (by omega)];rfl
   ·have h3:(a.length:Int)<=(gtY b i).2.1:=of_decide_eq_true h3;unfold thOK;rw[h,decide_eq_false (show ¬ (gtY b i).2.1<(a.length:Int) by omega)];simp
   ·have h2:¬ (gtY b i).2.1<0:=of_decide_eq_false h2;have h3:¬ (a.length:Int)<=(gtY b i).2.1:=of_decide_eq_false h3;refine ⟨by omega,by omega,by omega,by omega,by omega,by omega,Nat.le_refl _,rfl,rfl,by show o.length+1<2 ^ 30;omega,by decide,nx ?_ _ ?_⟩
    ·unfold thOK;rw[h,decide_eq_true (by omega),decide_eq_true (by omega)];rfl
    ·unfold thE;rw[if_pos h]
  ·have h:(gtY b i).1=false:=h;refine ⟨Nat.le_refl _,rfl,rfl,by show o.length+1<2 ^ 30;omega,by decide,nx (by unfold thOK;rw[h];rfl) _ ?_⟩;unfold thE;rw[h];rfl
theorem q4f (a b:List SyT) (hb:b.length<16777216):GD 18 Tryd.f18 (ThQ a b) [.code (qae Tryd.f18)] (entry [.sl syS,.sl syS] (a,b,())):=by
 refine qai cx0 (q6n a b _ _) ?_;exact qzj a b hb _ 0 rfl (Nat.zero_le _) (fun s hs=>by cases hs)
theorem qr2:Held Tryd.prog G0 18 ctTh:=Held.of cx0 (fn:=Tryd.f18) rfl rfl ⟨by decide,by decide⟩ fun ⟨a,b,_⟩ hp=>q4f a b hp
end Go.Proofs.YticpkibnhakgbaaDoor
namespace Go.Proofs.YticpkibnhakgbaaDoor
open Go.Px Go.Ax
set_option maxRecDepth 100000
abbrev gtP (l:List PaT) (i:Nat):PaT:=gt paS l i
def CCo:CV:=[(24,.inl ctSym),(17,.inl ctTh),(36,.inl ctCp)]
theorem cxCo:CxOK Tryd.prog tt G0 CCo:=((cx0.cons q5z (fn:=Tryd.f36) rfl rfl rfl).cons qpv (fn:=Tryd.f17) rfl rfl rfl).cons qrn (fn:=Tryd.f24) rfl rfl rfl
def CRco:CV:=[(25,.inl ctSym),(18,.inl ctTh),(37,.inl ctCp)]
theorem q81:CxOK Tryd.prog tt G0 CRco:=((cx0.cons qwg (fn:=Tryd.f37) rfl rfl rfl).cons qr2 (fn:=Tryd.f18) rfl rfl rfl).cons qv8 (fn:=Tryd.f25) rfl rfl rfl
set_option maxRecDepth 100000
def qkw (li li2:Bool) (m o m2 o2:Int) (l l2:List OpT):List (Nat × LB):=[(2,.var [.bool li,.int .i64 m,.int .i64 o,.sl opS l]),(3,.var [.bool li2,.int .i64 m2,.int .i64 o2,.sl opS l2]),(4,.var [.bool false,.int .i64 0,.int .i64 0,.nils]),(1057344,.row 66 syS (symV (li,m,o,l)).1),(1094208,.row 66 syS (symV (li2,m2,o2,l2)).1)]
theorem vc_co (li li2:Bool) (m o m2 o2:Int) (l l2:List OpT) (Q:QT) (R:RT):sy tt G0 CCo Tryd.f14.ntmps Tryd.f14.results.toList Q R 1000 [.code (qae Tryd.f14)] (entry [paS,paS] ((li,m,o,l),(li2,m2,o2,l2),())) =
  (ctSym.pre ((li,m,o,l),()) /\
 bc (decide ((symV (li,m,o,l)).2≠0)) (Q [.agg [.bool false,.int .i64 0,.int .i64 0,.nils],.int .i64 (symV (li,m,o,l)).2] [(2,.var [.bool li,.int .i64 m,.int .i64 o,.sl opS l]),(3,.var [.bool li2,.int .i64 m2,.int .i64 o2,.sl opS l2]),(4,.var [.bool false,.int .i64 0,.int .i64 0,.nils]),(1057344,.row 66 syS (symV (li,m,o,l)).1)]) (ctSym.pre ((li2,m2,o2,l2),()) /\
 bc (decide ((symV (li2,m2,o2,l2)).2≠0)) (Q [.agg [.bool false,.int .i64 0,.int .i64 0,.nils],.int .i64 (symV (li2,m2,o2,l2)).2] (qkw li li2 m o m2 o2 l l2)) (bc (!li == li2) (Q [.agg [.bool false,.int .i64 0,.int .i64 0,.nils],.int .i64 62] (qkw li li2 m o m2 o2 l l2)) (bc (decide (o≠m2)) (Q [.agg [.bool false,.int .i64 0,.int .i64 0,.nils],.int .i64 61] (qkw li li2 m o m2 o2 l l2)) (0+(symV (li,m,o,l)).1.length<=(symV (li,m,o,l)).1.length /\
 0+(symV (li2,m2,o2,l2)).1.length<=(symV (li2,m2,o2,l2)).1.length /\
 ctTh.pre (winL syS 0 (symV (li,m,o,l)).1.length (symV (li,m,o,l)).1,winL syS 0 (symV (li2,m2,o2,l2)).1.length (symV (li2,m2,o2,l2)).1,()) /\
 0+(thV (winL syS 0 (symV (li,m,o,l)).1.length (symV (li,m,o,l)).1) (winL syS 0 (symV (li2,m2,o2,l2)).1.length (symV (li2,m2,o2,l2)).1)).1.length<=(thV (winL syS 0 (symV (li,m,o,l)).1.length (symV (li,m,o,l)).1) (winL syS 0 (symV (li2,m2,o2,l2)).1.length (symV (li2,m2,o2,l2)).1)).1.length /\
 0+(thV (winL syS 0 (symV (li,m,o,l)).1.length (symV (li,m,o,l)).1) (winL syS 0 (symV (li2,m2,o2,l2)).1.length (symV (li2,m2,o2,l2)).1)).1.length<=(thV (winL syS 0 (symV (li,m,o,l)).1.length (symV (li,m,o,l)).1) (winL syS 0 (symV (li2,m2,o2,l2)).1.length (symV (li2,m2,o2,l2)).1)).1.length /\
 0+(thV (winL syS 0 (symV (li,m,o,l)).1.length (symV (li,m,o,l)).1) (winL syS 0 (symV (li2,m2,o2,l2)).1.length (symV (li2,m2,o2,l2)).1)).1.length<=(thV (winL syS 0 (symV (li,m,o,l)).1.length (symV (li,m,o,l)).1) (winL syS 0 (symV (li2,m2,o2,l2)).1.length (symV (li2,m2,o2,l2)).1)).1.length /\
 0+(thV (winL syS 0 (symV (li,m,o,l)).1.length (symV (li,m,o,l)).1) (winL syS 0 (symV (li2,m2,o2,l2)).1.length (symV (li2,m2,o2,l2)).1)).1.length<=(thV (winL syS 0 (symV (li,m,o,l)).1.length (symV (li,m,o,l)).1) (winL syS 0 (symV (li2,m2,o2,l2)).1.length (symV (li2,m2,o2,l2)).1)).1.length /\
 0+(thV (winL syS 0 (symV (li,m,o,l)).1.length (symV (li,m,o,l)).1) (winL syS 0 (symV (li2,m2,o2,l2)).1.length (symV (li2,m2,o2,l2)).1)).1.length<=(thV (winL syS 0 (symV (li,m,o,l)).1.length (symV (li,m,o,l)).1) (winL syS 0 (symV (li2,m2,o2,l2)).1.length (symV (li2,m2,o2,l2)).1)).1.length /\
 ctCp.pre (winL syS 0 (thV (winL syS 0 (symV (li,m,o,l)).1.length (symV (li,m,o,l)).1) (winL syS 0 (symV (li2,m2,o2,l2)).1.length (symV (li2,m2,o2,l2)).1)).1.length (thV (winL syS 0 (symV (li,m,o,l)).1.length (symV (li,m,o,l)).1) (winL syS 0 (symV (li2,m2,o2,l2)).1.length (symV (li2,m2,o2,l2)).1)).1,m,()) /\
 bc (decide ((cpV (winL syS 0 (thV (winL syS 0 (symV (li,m,o,l)).1.length (symV (li,m,o,l)).1) (winL syS 0 (symV (li2,m2,o2,l2)).1.length (symV (li2,m2,o2,l2)).1)).1.length (thV (winL syS 0 (symV (li,m,o,l)).1.length (symV (li,m,o,l)).1) (winL syS 0 (symV (li2,m2,o2,l2)).1.length (symV (li2,m2,o2,l2)).1)).1) m).2≠0)) (Q [.agg [.bool false,.int .i64 0,.int .i64 0,.nils],.int .i64 (cpV (winL syS 0 (thV (winL syS 0 (symV (li,m,o,l)).1.length (symV (li,m,o,l)).1) (winL syS 0 (symV (li2,m2,o2,l2)).1.length (symV (li2,m2,o2,l2)).1)).1.length (thV (winL syS 0 (symV (li,m,o,l)).1.length (symV (li,m,o,l)).1) (winL syS 0 (symV (li2,m2,o2,l2)).1.length (symV (li2,m2,o2,l2)).1)).1) m).2] [(2,.var [.bool li,.int .i64 m,.int .i64 o,.sl opS l]),(3,.var [.bool li2,.int .i64 m2,.int .i64 o2,.sl opS l2]),(4,.var [.bool false,.int .i64 0,.int .i64 0,.nils]),(11,.var [.bool (cpV (winL syS 0 (thV (winL syS 0 (symV (li,m,o,l)).1.length (symV (li,m,o,l)).1) (winL syS 0 (symV (li2,m2,o2,l2)).1.length (symV (li2,m2,o2,l2)).1)).1.length (thV (winL syS 0 (symV (li,m,o,l)).1.length (symV (li,m,o,l)).1) (winL syS 0 (symV (li2,m2,o2,l2)).1.length (symV (li2,m2,o2,l2)).1)).1) m).1.1,.int .i64 (cpV (winL syS 0 (thV (winL syS 0 (symV (li,m,o,l)).1.length (symV (li,m,o,l)).1) (winL syS 0 (symV (li2,m2,o2,l2)).1.length (symV (li2,m2,o2,l2)).1)).1.length (thV (winL syS 0 (symV (li,m,o,l)).1.length (symV (li,m,o,l)).1) (winL syS 0 (symV (li2,m2,o2,l2)).1.length (symV (li2,m2,o2,l2)).1)).1) m).1.2.1,.int .i64 (cpV (winL syS 0 (thV (winL syS 0 (symV (li,m,o,l)).1.length (symV (li,m,o,l)).1) (winL syS 0 (symV (li2,m2,o2,l2)).1.length (symV (li2,m2,o2,l2)).1)).1.length (thV (winL syS 0 (symV (li,m,o,l)).1.length (symV (li,m,o,l)).1) (winL syS 0 (symV (li2,m2,o2,l2)).1.length (symV (li2,m2,o2,l2)).1)).1) m).1.2.2.1,.sl opS (cpV (winL syS 0 (thV (winL syS 0 (symV (li,m,o,l)).1.length (symV (li,m,o,l)).1) (winL syS 0 (symV (li2,m2,o2,l2)).1.length (symV (li2,m2,o2,l2)).1)).1.length (thV (winL syS 0 (symV (li,m,o,l)).1.length (symV (li,m,o,l)).1) (winL syS 0 (symV (li2,m2,o2,l2)).1.length (symV (li2,m2,o2,l2)).1)).1) m).1.2.2.2]),(1057344,.row 66 syS (symV (li,m,o,l)).1),(1094208,.row 66 syS (symV (li2,m2,o2,l2)).1)]) (Q [.agg [.bool li,.int .i64 (cpV (winL syS 0 (thV (winL syS 0 (symV (li,m,o,l)).1.length (symV (li,m,o,l)).1) (winL syS 0 (symV (li2,m2,o2,l2)).1.length (symV (li2,m2,o2,l2)).1)).1.length (thV (winL syS 0 (symV (li,m,o,l)).1.length (symV (li,m,o,l)).1) (winL syS 0 (symV (li2,m2,o2,l2)).1.length (symV (li2,m2,o2,l2)).1)).1) m).1.2.1,.int .i64 (cpV (winL syS 0 (thV (winL syS 0 (symV (li,m,o,l)).1.length (symV (li,m,o,l)).1) (winL syS 0 (symV (li2,m2,o2,l2)).1.length (symV (li2,m2,o2,l2)).1)).1.length (thV (winL syS 0 (symV (li,m,o,l)).1.length (symV (li,m,o,l)).1) (winL syS 0 (symV (li2,m2,o2,l2)).1.length (symV (li2,m2,o2,l2)).1)).1) m).1.2.2.1,.sl opS (cpV (winL syS 0 (thV (winL syS 0 (symV (li,m,o,l)).1.length (symV (li,m,o,l)).1) (winL syS 0 (symV (li2,m2,o2,l2)).1.length (symV (li2,m2,o2,l2)).1)).1.length (thV (winL syS 0 (symV (li,m,o,l)).1.length (symV (li,m,o,l)).1) (winL syS 0 (symV (li2,m2,o2,l2)).1.length (symV (li2,m2,o2,l2)).1)).1) m).1.2.2.2],.int .i64 0] [(2,.var [.bool li,.int .i64 m,.int .i64 o,.sl opS l]),(3,.var [.bool li2,.int .i64 m2,.int .i64 o2,.sl opS l2]),(4,.var [.bool li,.int .i64 (cpV (winL syS 0 (thV (winL syS 0 (symV (li,m,o,l)).1.length (symV (li,m,o,l)).1) (winL syS 0 (symV (li2,m2,o2,l2)).1.length (symV (li2,m2,o2,l2)).1)).1.length (thV (winL syS 0 (symV (li,m,o,l)).1.length (symV (li,m,o,l)).1) (winL syS 0 (symV (li2,m2,o2,l2)).1.length (symV (li2,m2,o2,l2)).1)).1) m).1.2.1,.int .i64 (cpV (winL syS 0 (thV (winL syS 0 (symV (li,m,o,l)).1.length (symV (li,m,o,l)).1) (winL syS 0 (symV (li2,m2,o2,l2)).1.length (symV (li2,m2,o2,l2)).1)).1.length (thV (winL syS 0 (symV (li,m,o,l)).1.length (symV (li,m,o,l)).1) (winL syS 0 (symV (li2,m2,o2,l2)).1.length (symV (li2,m2,o2,l2)).1)).1) m).1.2.2.1,.sl opS (cpV (winL syS 0 (thV (winL syS 0 (symV (li,m,o,l)).1.length (symV (li,m,o,l)).1) (winL syS 0 (symV (li2,m2,o2,l2)).1.length (symV (li2,m2,o2,l2)).1)).1.length (thV (winL syS 0 (symV (li,m,o,l)).1.length (symV (li,m,o,l)).1) (winL syS 0 (symV (li2,m2,o2,l2)).1.length (symV (li2,m2,o2,l2)).1)).1) m).1.2.2.2]),(11,.var [.bool li,.int .i64 (cpV (winL syS 0 (thV (winL syS 0 (symV (li,m,o,l)).1.length (symV (li,m,o,l)).1) (winL syS 0 (symV (li2,m2,o2,l2)).1.length (symV (li2,m2,o2,l2)).1)).1.length (thV (winL syS 0 (symV (li,m,o,l)).1.length (symV (li,m,o,l)).1) (winL syS 0 (symV (li2,m2,o2,l2)).1.length (symV (li2,m2,o2,l2)).1)).1) m).1.2.1,.int .i64 (cpV (winL syS 0 (thV (winL syS 0 (symV (li,m,o,l)).1.length (symV (li,m,o,l)).1) (winL syS 0 (symV (li2,m2,o2,l2)).1.length (symV (li2,m2,o2,l2)).1)).1.length (thV (winL syS 0 (symV (li,m,o,l)).1.length (symV (li,m,o,l)).1) (winL syS 0 (symV (li2,m2,o2,l2)).1.length (symV (li2,m2,o2,l2)).1)).1) m).1.2.2.1,.sl opS (cpV (winL syS 0 (thV (winL syS 0 (symV (li,m,o,l)).1.length (symV (li,m,o,l)).1) (winL syS 0 (symV (li2,m2,o2,l2)).1.length (symV (li2,m2,o2,l2)).1)).1.length (thV (winL syS 0 (symV (li,m,o,l)).1.length (symV (li,m,o,l)).1) (winL syS 0 (symV (li2,m2,o2,l2)).1.length (symV (li2,m2,o2,l2)).1)).1) m).1.2.2.2]),(1057344,.row 66 syS (symV (li,m,o,l)).1),(1094208,.row 66 syS (symV (li2,m2,o2,l2)).1)])))))):=by kernel_rfl
def qf2 (li li2:Bool) (m o m2 o2:Int) (l l2:List OpT):List (Nat × LB):=[(2,.var [.bool li,.int .i64 m,.int .i64 o,.sl opS l]),(3,.var [.bool li2,.int .i64 m2,.int .i64 o2,.sl opS l2]),(4,.var [.bool false,.int .i64 0,.int .i64 0,.nils]),(1065536,.row 66 syS (symV (li,m,o,l)).1),(1086016,.row 66 syS (symV (li2,m2,o2,l2)).1)]
theorem q6t (li li2:Bool) (m o m2 o2:Int) (l l2:List OpT) (Q:QT) (R:RT):sy tt G0 CRco Tryd.f15.ntmps Tryd.f15.results.toList Q R 1000 [.code (qae Tryd.f15)] (entry [paS,paS] ((li,m,o,l),(li2,m2,o2,l2),())) =
  (ctSym.pre ((li,m,o,l),()) /\
 ctSym.pre ((li2,m2,o2,l2),()) /\
 bc (decide ((symV (li,m,o,l)).2≠0)) (true=true /\
 Q [.agg [.bool false,.int .i64 0,.int .i64 0,.nils],.int .i64 60] (qf2 li li2 m o m2 o2 l l2)) (bc (bif false then true else decide ((symV (li2,m2,o2,l2)).2≠0)) (Q [.agg [.bool false,.int .i64 0,.int .i64 0,.nils],.int .i64 60] (qf2 li li2 m o m2 o2 l l2)) (bc (!li == li2) (Q [.agg [.bool false,.int .i64 0,.int .i64 0,.nils],.int .i64 62] (qf2 li li2 m o m2 o2 l l2)) (bc (decide (o≠m2)) (Q [.agg [.bool false,.int .i64 0,.int .i64 0,.nils],.int .i64 61] (qf2 li li2 m o m2 o2 l l2)) (0+(symV (li,m,o,l)).1.length<=(symV (li,m,o,l)).1.length /\
 0+(symV (li2,m2,o2,l2)).1.length<=(symV (li2,m2,o2,l2)).1.length /\
 ctTh.pre (winL syS 0 (symV (li,m,o,l)).1.length (symV (li,m,o,l)).1,winL syS 0 (symV (li2,m2,o2,l2)).1.length (symV (li2,m2,o2,l2)).1,()) /\
 0+(thV (winL syS 0 (symV (li,m,o,l)).1.length (symV (li,m,o,l)).1) (winL syS 0 (symV (li2,m2,o2,l2)).1.length (symV (li2,m2,o2,l2)).1)).1.length<=(thV (winL syS 0 (symV (li,m,o,l)).1.length (symV (li,m,o,l)).1) (winL syS 0 (symV (li2,m2,o2,l2)).1.length (symV (li2,m2,o2,l2)).1)).1.length /\
 0+(thV (winL syS 0 (symV (li,m,o,l)).1.length (symV (li,m,o,l)).1) (winL syS 0 (symV (li2,m2,o2,l2)).1.length (symV (li2,m2,o2,l2)).1)).1.length<=(thV (winL syS 0 (symV (li,m,o,l)).1.length (symV (li,m,o,l)).1) (winL syS 0 (symV (li2,m2,o2,l2)).1.length (symV (li2,m2,o2,l2)).1)).1.length /\
 0+(thV (winL syS 0 (symV (li,m,o,l)).1.length (symV (li,m,o,l)).1) (winL syS 0 (symV (li2,m2,o2,l2)).1.length (symV (li2,m2,o2,l2)).1)).1.length<=(thV (winL syS 0 (symV (li,m,o,l)).1.length (symV (li,m,o,l)).1) (winL syS 0 (symV (li2,m2,o2,l2)).1.length (symV (li2,m2,o2,l2)).1)).1.length /\
 0+(thV (winL syS 0 (symV (li,m,o,l)).1.length (symV (li,m,o,l)).1) (winL syS 0 (symV (li2,m2,o2,l2)).1.length (symV (li2,m2,o2,l2)).1)).1.length<=(thV (winL syS 0 (symV (li,m,o,l)).1.length (symV (li,m,o,l)).1) (winL syS 0 (symV (li2,m2,o2,l2)).1.length (symV (li2,m2,o2,l2)).1)).1.length /\
 0+(thV (winL syS 0 (symV (li,m,o,l)).1.length (symV (li,m,o,l)).1) (winL syS 0 (symV (li2,m2,o2,l2)).1.length (symV (li2,m2,o2,l2)).1)).1.length<=(thV (winL syS 0 (symV (li,m,o,l)).1.length (symV (li,m,o,l)).1) (winL syS 0 (symV (li2,m2,o2,l2)).1.length (symV (li2,m2,o2,l2)).1)).1.length /\
 ctCp.pre (winL syS 0 (thV (winL syS 0 (symV (li,m,o,l)).1.length (symV (li,m,o,l)).1) (winL syS 0 (symV (li2,m2,o2,l2)).1.length (symV (li2,m2,o2,l2)).1)).1.length (thV (winL syS 0 (symV (li,m,o,l)).1.length (symV (li,m,o,l)).1) (winL syS 0 (symV (li2,m2,o2,l2)).1.length (symV (li2,m2,o2,l2)).1)).1,m,()) /\
 bc (decide ((cpV (winL syS 0 (thV (winL syS 0 (symV (li,m,o,l)).1.length (symV (li,m,o,l)).1) (winL syS 0 (symV (li2,m2,o2,l2)).1.length (symV (li2,m2,o2,l2)).1)).1.length (thV (winL syS 0 (symV (li,m,o,l)).1.length (symV (li,m,o,l)).1) (winL syS 0 (symV (li2,m2,o2,l2)).1.length (symV (li2,m2,o2,l2)).1)).1) m).2=(0:Int))) (Q [.agg [.bool li,.int .i64 (cpV (winL syS 0 (thV (winL syS 0 (symV (li,m,o,l)).1.length (symV (li,m,o,l)).1) (winL syS 0 (symV (li2,m2,o2,l2)).1.length (symV (li2,m2,o2,l2)).1)).1.length (thV (winL syS 0 (symV (li,m,o,l)).1.length (symV (li,m,o,l)).1) (winL syS 0 (symV (li2,m2,o2,l2)).1.length (symV (li2,m2,o2,l2)).1)).1) m).1.2.1,.int .i64 (cpV (winL syS 0 (thV (winL syS 0 (symV (li,m,o,l)).1.length (symV (li,m,o,l)).1) (winL syS 0 (symV (li2,m2,o2,l2)).1.length (symV (li2,m2,o2,l2)).1)).1.length (thV (winL syS 0 (symV (li,m,o,l)).1.length (symV (li,m,o,l)).1) (winL syS 0 (symV (li2,m2,o2,l2)).1.length (symV (li2,m2,o2,l2)).1)).1) m).1.2.2.1,.sl opS (cpV (winL syS 0 (thV (winL syS 0 (symV (li,m,o,l)).1.length (symV (li,m,o,l)).1) (winL syS 0 (symV (li2,m2,o2,l2)).1.length (symV (li2,m2,o2,l2)).1)).1.length (thV (winL syS 0 (symV (li,m,o,l)).1.length (symV (li,m,o,l)).1) (winL syS 0 (symV (li2,m2,o2,l2)).1.length (symV (li2,m2,o2,l2)).1)).1) m).1.2.2.2],.int .i64 (cpV (winL syS 0 (thV (winL syS 0 (symV (li,m,o,l)).1.length (symV (li,m,o,l)).1) (winL syS 0 (symV (li2,m2,o2,l2)).1.length (symV (li2,m2,o2,l2)).1)).1.length (thV (winL syS 0 (symV (li,m,o,l)).1.length (symV (li,m,o,l)).1) (winL syS 0 (symV (li2,m2,o2,l2)).1.length (symV (li2,m2,o2,l2)).1)).1) m).2] [(2,.var [.bool li,.int .i64 m,.int .i64 o,.sl opS l]),(3,.var [.bool li2,.int .i64 m2,.int .i64 o2,.sl opS l2]),(4,.var [.bool li,.int .i64 (cpV (winL syS 0 (thV (winL syS 0 (symV (li,m,o,l)).1.length (symV (li,m,o,l)).1) (winL syS 0 (symV (li2,m2,o2,l2)).1.length (symV (li2,m2,o2,l2)).1)).1.length (thV (winL syS 0 (symV (li,m,o,l)).1.length (symV (li,m,o,l)).1) (winL syS 0 (symV (li2,m2,o2,l2)).1.length (symV (li2,m2,o2,l2)).1)).1) m).1.2.1,.int .i64 (cpV (winL syS 0 (thV (winL syS 0 (symV (li,m,o,l)).1.length (symV (li,m,o,l)).1) (winL syS 0 (symV (li2,m2,o2,l2)).1.length (symV (li2,m2,o2,l2)).1)).1.length (thV (winL syS 0 (symV (li,m,o,l)).1.length (symV (li,m,o,l)).1) (winL syS 0 (symV (li2,m2,o2,l2)).1.length (symV (li2,m2,o2,l2)).1)).1) m).1.2.2.1,.sl opS (cpV (winL syS 0 (thV (winL syS 0 (symV (li,m,o,l)).1.length (symV (li,m,o,l)).1) (winL syS 0 (symV (li2,m2,o2,l2)).1.length (symV (li2,m2,o2,l2)).1)).1.length (thV (winL syS 0 (symV (li,m,o,l)).1.length (symV (li,m,o,l)).1) (winL syS 0 (symV (li2,m2,o2,l2)).1.length (symV (li2,m2,o2,l2)).1)).1) m).1.2.2.2]),(12,.var [.bool li,.int .i64 (cpV (winL syS 0 (thV (winL syS 0 (symV (li,m,o,l)).1.length (symV (li,m,o,l)).1) (winL syS 0 (symV (li2,m2,o2,l2)).1.length (symV (li2,m2,o2,l2)).1)).1.length (thV (winL syS 0 (symV (li,m,o,l)).1.length (symV (li,m,o,l)).1) (winL syS 0 (symV (li2,m2,o2,l2)).1.length (symV (li2,m2,o2,l2)).1)).1) m).1.2.1,.int .i64 (cpV (winL syS 0 (thV (winL syS 0 (symV (li,m,o,l)).1.length (symV (li,m,o,l)).1) (winL syS 0 (symV (li2,m2,o2,l2)).1.length (symV (li2,m2,o2,l2)).1)).1.length (thV (winL syS 0 (symV (li,m,o,l)).1.length (symV (li,m,o,l)).1) (winL syS 0 (symV (li2,m2,o2,l2)).1.length (symV (li2,m2,o2,l2)).1)).1) m).1.2.2.1,.sl opS (cpV (winL syS 0 (thV (winL syS 0 (symV (li,m,o,l)).1.length (symV (li,m,o,l)).1) (winL syS 0 (symV (li2,m2,o2,l2)).1.length (symV (li2,m2,o2,l2)).1)).1.length (thV (winL syS 0 (symV (li,m,o,l)).1.length (symV (li,m,o,l)).1) (winL syS 0 (symV (li2,m2,o2,l2)).1.length (symV (li2,m2,o2,l2)).1)).1) m).1.2.2.2]),(1065536,.row 66 syS (symV (li,m,o,l)).1),(1086016,.row 66 syS (symV (li2,m2,o2,l2)).1)]) (Q [.agg [.bool (cpV (winL syS 0 (thV (winL syS 0 (symV (li,m,o,l)).1.length (symV (li,m,o,l)).1) (winL syS 0 (symV (li2,m2,o2,l2)).1.length (symV (li2,m2,o2,l2)).1)).1.length (thV (winL syS 0 (symV (li,m,o,l)).1.length (symV (li,m,o,l)).1) (winL syS 0 (symV (li2,m2,o2,l2)).1.length (symV (li2,m2,o2,l2)).1)).1) m).1.1,.int .i64 (cpV (winL syS 0 (thV (winL syS 0 (symV (li,m,o,l)).1.length (symV (li,m,o,l)).1) (winL syS 0 (symV (li2,m2,o2,l2)).1.length (symV (li2,m2,o2,l2)).1)).1.length (thV (winL syS 0 (symV (li,m,o,l)).1.length (symV (li,m,o,l)).1) (winL syS 0 (symV (li2,m2,o2,l2)).1.length (symV (li2,m2,o2,l2)).1)).1) m).1.2.1,.int .i64 (cpV (winL syS 0 (thV (winL syS 0 (symV (li,m,o,l)).1.length (symV (li,m,o,l)).1) (winL syS 0 (symV (li2,m2,o2,l2)).1.length (symV (li2,m2,o2,l2)).1)).1.length (thV (winL syS 0 (symV (li,m,o,l)).1.length (symV (li,m,o,l)).1) (winL syS 0 (symV (li2,m2,o2,l2)).1.length (symV (li2,m2,o2,l2)).1)).1) m).1.2.2.1,.sl opS (cpV (winL syS 0 (thV (winL syS 0 (symV (li,m,o,l)).1.length (symV (li,m,o,l)).1) (winL syS 0 (symV (li2,m2,o2,l2)).1.length (symV (li2,m2,o2,l2)).1)).1.length (thV (winL syS 0 (symV (li,m,o,l)).1.length (symV (li,m,o,l)).1) (winL syS 0 (symV (li2,m2,o2,l2)).1.length (symV (li2,m2,o2,l2)).1)).1) m).1.2.2.2],.int .i64 (cpV (winL syS 0 (thV (winL syS 0 (symV (li,m,o,l)).1.length (symV (li,m,o,l)).1) (winL syS 0 (symV (li2,m2,o2,l2)).1.length (symV (li2,m2,o2,l2)).1)).1.length (thV (winL syS 0 (symV (li,m,o,l)).1.length (symV (li,m,o,l)).1) (winL syS 0 (symV (li2,m2,o2,l2)).1.length (symV (li2,m2,o2,l2)).1)).1) m).2] [(2,.var [.bool li,.int .i64 m,.int .i64 o,.sl opS l]),(3,.var [.bool li2,.int .i64 m2,.int .i64 o2,.sl opS l2]),(4,.var [.bool (cpV (winL syS 0 (thV (winL syS 0 (symV (li,m,o,l)).1.length (symV (li,m,o,l)).1) (winL syS 0 (symV (li2,m2,o2,l2)).1.length (symV (li2,m2,o2,l2)).1)).1.length (thV (winL syS 0 (symV (li,m,o,l)).1.length (symV (li,m,o,l)).1) (winL syS 0 (symV (li2,m2,o2,l2)).1.length (symV (li2,m2,o2,l2)).1)).1) m).1.1,.int .i64 (cpV (winL syS 0 (thV (winL syS 0 (symV (li,m,o,l)).1.length (symV (li,m,o,l)).1) (winL syS 0 (symV (li2,m2,o2,l2)).1.length (symV (li2,m2,o2,l2)).1)).1.length (thV (winL syS 0 (symV (li,m,o,l)).1.length (symV (li,m,o,l)).1) (winL syS 0 (symV (li2,m2,o2,l2)).1.length (symV (li2,m2,o2,l2)).1)).1) m).1.2.1,.int .i64 (cpV (winL syS 0 (thV (winL syS 0 (symV (li,m,o,l)).1.length (symV (li,m,o,l)).1) (winL syS 0 (symV (li2,m2,o2,l2)).1.length (symV (li2,m2,o2,l2)).1)).1.length (thV (winL syS 0 (symV (li,m,o,l)).1.length (symV (li,m,o,l)).1) (winL syS 0 (symV (li2,m2,o2,l2)).1.length (symV (li2,m2,o2,l2)).1)).1) m).1.2.2.1,.sl opS (cpV (winL syS 0 (thV (winL syS 0 (symV (li,m,o,l)).1.length (symV (li,m,o,l)).1) (winL syS 0 (symV (li2,m2,o2,l2)).1.length (symV (li2,m2,o2,l2)).1)).1.length (thV (winL syS 0 (symV (li,m,o,l)).1.length (symV (li,m,o,l)).1) (winL syS 0 (symV (li2,m2,o2,l2)).1.length (symV (li2,m2,o2,l2)).1)).1) m).1.2.2.2]),(12,.var [.bool (cpV (winL syS 0 (thV (winL syS 0 (symV (li,m,o,l)).1.length (symV (li,m,o,l)).1) (winL syS 0 (symV (li2,m2,o2,l2)).1.length (symV (li2,m2,o2,l2)).1)).1.length (thV (winL syS 0 (symV (li,m,o,l)).1.length (symV (li,m,o,l)).1) (winL syS 0 (symV (li2,m2,o2,l2)).1.length (symV (li2,m2,o2,l2)).1)).1) m).1.1,.int .i64 (cpV (winL syS 0 (thV (winL syS 0 (symV (li,m,o,l)).1.length (symV (li,m,o,l)).1) (winL syS 0 (symV (li2,m2,o2,l2)).1.length (symV (li2,m2,o2,l2)).1)).1.length (thV (winL syS 0 (symV (li,m,o,l)).1.length (symV (li,m,o,l)).1) (winL syS 0 (symV (li2,m2,o2,l2)).1.length (symV (li2,m2,o2,l2)).1)).1) m).1.2.1,.int .i64 (cpV (winL syS 0 (thV (winL syS 0 (symV (li,m,o,l)).1.length (symV (li,m,o,l)).1) (winL syS 0 (symV (li2,m2,o2,l2)).1.length (symV (li2,m2,o2,l2)).1)).1.length (thV (winL syS 0 (symV (li,m,o,l)).1.length (symV (li,m,o,l)).1) (winL syS 0 (symV (li2,m2,o2,l2)).1.length (symV (li2,m2,o2,l2)).1)).1) m).1.2.2.1,.sl opS (cpV (winL syS 0 (thV (winL syS 0 (symV (li,m,o,l)).1.length (symV (li,m,o,l)).1) (winL syS 0 (symV (li2,m2,o2,l2)).1.length (symV (li2,m2,o2,l2)).1)).1.length (thV (winL syS 0 (symV (li,m,o,l)).1.length (symV (li,m,o,l)).1) (winL syS 0 (symV (li2,m2,o2,l2)).1.length (symV (li2,m2,o2,l2)).1)).1) m).1.2.2.2]),(1065536,.row 66 syS (symV (li,m,o,l)).1),(1086016,.row 66 syS (symV (li2,m2,o2,l2)).1)])))))):=by kernel_rfl
end Go.Proofs.YticpkibnhakgbaaDoor
namespace Go.Proofs.YticpkibnhakgbaaDoor
open Go.Px Go.Ax
set_option maxRecDepth 100000
attribute [local irreducible] Go.Px.sy Go.Px.syE
def ctCo:Ctr:=⟨[paS,paS],fun _=>True,fun x=>[paV (coV x.1 x.2.1).1,.int .i64 (coV x.1 x.2.1).2],fun _=>[]⟩
theorem qvo (p:PaT):(symV p).2=0\/(symV p).2=60:=by
 unfold symV;split
 ·exact .inl rfl
 ·exact q2z p
theorem q2w {p q:PaT} (hp:(symV p).2=0) (hq:(symV q).2=0) (ho:p.2.2.1=q.2.1):thV (symV p).1 (symV q).1=(thL (symV p).1 (symV q).1,0):=by
 obtain ⟨a1,a2,a3⟩:=qck hp;obtain ⟨b1,b2,b3⟩:=qck hq;exact q7r fun x hx=>by rw[a3,ho];exact b1 x hx
theorem qh6 {p q:PaT} {z:Int} {bl:List (Nat × LB)} (h:coV p q=(zP,z)):QC ctCo (p,q,()) [.agg [.bool false,.int .i64 0,.int .i64 0,.nils],.int .i64 z] bl:=
 QC.mt (by show MtL _ [paV (coV p q).1,.int .i64 (coV p q).2] _;rw[h];exact qc9 _) rfl
theorem qx7 {p q:PaT} {r:PaT} {z:Int} {bl:List (Nat × LB)} (h:coV p q=(r,z)):QC ctCo (p,q,()) [paV r,.int .i64 z] bl:=
 QC.flat (by show [paV (coV p q).1,.int .i64 (coV p q).2]=_;rw[h]) rfl rfl
theorem q85 (li li2:Bool) (m o m2 o2:Int) (l l2:List OpT) (R:List Item->PS->Prop):sy tt G0 CCo Tryd.f14.ntmps Tryd.f14.results.toList (QC ctCo ((li,m,o,l),(li2,m2,o2,l2),())) R 1000 [.code (qae Tryd.f14)] (entry [paS,paS] ((li,m,o,l),(li2,m2,o2,l2),())):=by
 refine (vc_co li li2 m o m2 o2 l l2 _ _).mpr ⟨trivial,qaf (fun h=>?_) (fun h=>⟨trivial,qaf (fun h2=>?_) (fun h2=>qaf (fun h3=>?_) (fun h3=>qaf (fun h4=>?_) (fun h4=>?_)))⟩)⟩
 ·have h:(symV (li,m,o,l)).2≠0:=of_decide_eq_true h;exact qh6 (by unfold coV;rw[if_pos h])
 all_goals
  have h:¬ (symV (li,m,o,l)).2≠0:=of_decide_eq_false h
 ·have h2:(symV (li2,m2,o2,l2)).2≠0:=of_decide_eq_true h2;exact qh6 (by unfold coV;rw[if_neg h,if_pos h2])
 all_goals
  have h2:¬ (symV (li2,m2,o2,l2)).2≠0:=of_decide_eq_false h2
 ·have h3:li≠li2:=by simpa using h3
  exact qh6 (by unfold coV;rw[if_neg h,if_neg h2,if_pos h3])
 all_goals
  have h3:¬ li≠li2:=by simpa using h3
 ·have h4:o≠m2:=of_decide_eq_true h4;exact qh6 (by unfold coV;rw[if_neg h,if_neg h2,if_neg h3,if_pos h4])
 ·have h4:¬ o≠m2:=of_decide_eq_false h4;have hp:(symV (li,m,o,l)).2=0:=by omega
  have hq:(symV (li2,m2,o2,l2)).2=0:=by omega
  have ht:=q2w hp hq (show o=m2 by omega);have hl:=qmv (li2,m2,o2,l2);have ho:coV (li,m,o,l) (li2,m2,o2,l2)=if (cpV (thL (symV (li,m,o,l)).1 (symV (li2,m2,o2,l2)).1) m).2≠0 then (zP,(cpV (thL (symV (li,m,o,l)).1 (symV (li2,m2,o2,l2)).1) m).2) else ((li,(cpV (thL (symV (li,m,o,l)).1 (symV (li2,m2,o2,l2)).1) m).1.2),0):=by
   unfold coV;rw[if_neg h,if_neg h2,if_neg h3,if_neg h4]
  generalize (symV (li,m,o,l)).1=a at *;generalize (symV (li2,m2,o2,l2)).1=b at *;rw[winA,winA,ht,winA];refine ⟨by omega,by omega,(show b.length<16777216 by omega),by omega,by omega,by omega,by omega,by omega,(show (thL a b).length<16777216 by rw[qcj];omega),qaf (fun h5=>?_) (fun h5=>?_)⟩
  ·have h5:(cpV (thL a b) m).2≠0:=of_decide_eq_true h5;rw[if_pos h5] at ho;exact qh6 ho
  ·have h5:¬ (cpV (thL a b) m).2≠0:=of_decide_eq_false h5;rw[if_neg h5] at ho;exact qx7 ho
theorem qq5:Held Tryd.prog G0 14 ctCo:=Held.run cxCo (fn:=Tryd.f14) rfl rfl ⟨by decide,by decide⟩ fun ⟨⟨li,m,o,l⟩,⟨li2,m2,o2,l2⟩,_⟩ _=>q85 li li2 m o m2 o2 l l2 _
theorem cpV_z {l:List SyT} {m:Int} (h:(cpV l m).2≠0):(cpV l m).1=zP:=by
 unfold cpV at h |-;split at h
 ·rename_i q;rw[if_pos q]
 ·rename_i q;rw[if_neg q];exact qr8 h
theorem q4l (li li2:Bool) (m o m2 o2:Int) (l l2:List OpT) (R:List Item->PS->Prop):sy tt G0 CRco Tryd.f15.ntmps Tryd.f15.results.toList (QC ctCo ((li,m,o,l),(li2,m2,o2,l2),())) R 1000 [.code (qae Tryd.f15)] (entry [paS,paS] ((li,m,o,l),(li2,m2,o2,l2),())):=by
 have s1:=qvo (li,m,o,l);have s2:=qvo (li2,m2,o2,l2);refine (q6t li li2 m o m2 o2 l l2 _ _).mpr ⟨trivial,trivial,qaf (fun h=>⟨rfl,?_⟩) (fun h=>qaf (fun h2=>?_) (fun h2=>qaf (fun h3=>?_) (fun h3=>qaf (fun h4=>?_) (fun h4=>?_))))⟩
 ·have h:(symV (li,m,o,l)).2≠0:=of_decide_eq_true h;exact qh6 (by unfold coV;rw[if_pos h,show (symV (li,m,o,l)).2=60 by omega])
 all_goals
  have h:¬ (symV (li,m,o,l)).2≠0:=of_decide_eq_false h
 ·have h2:(symV (li2,m2,o2,l2)).2≠0:=of_decide_eq_true h2;exact qh6 (by unfold coV;rw[if_neg h,if_pos h2,show (symV (li2,m2,o2,l2)).2=60 by omega])
 all_goals
  have h2:¬ (symV (li2,m2,o2,l2)).2≠0:=of_decide_eq_false h2
 ·have h3:li≠li2:=by simpa using h3
  exact qh6 (by unfold coV;rw[if_neg h,if_neg h2,if_pos h3])
 all_goals
  have h3:¬ li≠li2:=by simpa using h3
 ·have h4:o≠m2:=of_decide_eq_true h4;exact qh6 (by unfold coV;rw[if_neg h,if_neg h2,if_neg h3,if_pos h4])
 ·have h4:¬ o≠m2:=of_decide_eq_false h4;have hp:(symV (li,m,o,l)).2=0:=by omega
  have hq:(symV (li2,m2,o2,l2)).2=0:=by omega
  have ht:=q2w hp hq (show o=m2 by omega);have hl:=qmv (li2,m2,o2,l2);have ho:coV (li,m,o,l) (li2,m2,o2,l2)=if (cpV (thL (symV (li,m,o,l)).1 (symV (li2,m2,o2,l2)).1) m).2≠0 then (zP,(cpV (thL (symV (li,m,o,l)).1 (symV (li2,m2,o2,l2)).1) m).2) else ((li,(cpV (thL (symV (li,m,o,l)).1 (symV (li2,m2,o2,l2)).1) m).1.2),0):=by
   unfold coV;rw[if_neg h,if_neg h2,if_neg h3,if_neg h4]
  generalize (symV (li,m,o,l)).1=a at *;generalize (symV (li2,m2,o2,l2)).1=b at *;rw[winA,winA,ht,winA];refine ⟨by omega,by omega,(show b.length<16777216 by omega),by omega,by omega,by omega,by omega,by omega,(show (thL a b).length<16777216 by rw[qcj];omega),qaf (fun h5=>?_) (fun h5=>?_)⟩
  ·have h5:(cpV (thL a b) m).2=0:=of_decide_eq_true h5;rw[if_neg (by omega),<- h5] at ho;exact qx7 ho
  ·have h5:(cpV (thL a b) m).2≠0:=of_decide_eq_false h5;rw[if_pos h5,<- cpV_z h5] at ho;exact qx7 ho
theorem qr5:Held Tryd.prog G0 15 ctCo:=Held.run q81 (fn:=Tryd.f15) rfl rfl ⟨by decide,by decide⟩ fun ⟨⟨li,m,o,l⟩,⟨li2,m2,o2,l2⟩,_⟩ _=>q4l li li2 m o m2 o2 l l2 _
end Go.Proofs.YticpkibnhakgbaaDoor
namespace Go.Proofs.YticpkibnhakgbaaDoor
open Go.Px Go.Ax
set_option maxRecDepth 100000
abbrev capA:List AK:=[.ptr [.dat .bool,.dat iI,.dat iI,.dat (.sl opS)]]
abbrev KA1:List AK:=.dat paS::capA
abbrev KIn:List AK:=[.fn 33 [] capA,.dat (.sl paS)]
def CA1:CV:=[(14,.inl ctCo)]
theorem cxA1:CxOK Tryd.prog tt G0 CA1:=cx0.cons qq5 (fn:=Tryd.f14) rfl rfl rfl
def ptD (p:PaT):DI [.dat .bool,.dat iI,.dat iI,.dat (.sl opS)]:=(p.1,p.2.1,p.2.2.1,p.2.2.2,())
def ctA1:CtrI:=⟨KA1,fun _=>True,fun x=>[.int .i64 (coV (x.2.1.1,x.2.1.2.1,x.2.1.2.2.1,x.2.1.2.2.2.1) x.1).2],fun x=>bkKL 0 KA1 (x.1,ptD (coV (x.2.1.1,x.2.1.2.1,x.2.1.2.2.1,x.2.1.2.2.2.1) x.1).1,())⟩
set_option maxRecDepth 100000
theorem vc_a1 (li li2:Bool) (m o m2 o2:Int) (k l2:List OpT) (Q:QT) (R:RT):sy tt G0 CA1 Tryd.f33.ntmps Tryd.f33.results.toList Q R 1000 [.code (qae Tryd.f33)] (qb6 KA1 ((li2,m2,o2,l2),(li,m,o,k,()),())) =
  (ctCo.pre ((li,m,o,k),(li2,m2,o2,l2),()) /\
 Q [.int .i64 (coV (li,m,o,k) (li2,m2,o2,l2)).2] [(2,.var [.bool li2,.int .i64 m2,.int .i64 o2,.sl opS l2]),(1099511627776,.var [.bool (coV (li,m,o,k) (li2,m2,o2,l2)).1.1,.int .i64 (coV (li,m,o,k) (li2,m2,o2,l2)).1.2.1,.int .i64 (coV (li,m,o,k) (li2,m2,o2,l2)).1.2.2.1,.sl opS (coV (li,m,o,k) (li2,m2,o2,l2)).1.2.2.2])]):=by kernel_rfl
end Go.Proofs.YticpkibnhakgbaaDoor
namespace Go.Proofs.YticpkibnhakgbaaDoor
open Go.Px Go.Ax
set_option maxRecDepth 100000
attribute [local irreducible] Go.Px.sy Go.Px.syE
theorem q9g (li li2:Bool) (m o m2 o2:Int) (k l2:List OpT) (R:List Item->PS->Prop):sy tt G0 CA1 Tryd.f33.ntmps Tryd.f33.results.toList (QI ctA1 ((li2,m2,o2,l2),(li,m,o,k,()),())) R 1000 [.code (qae Tryd.f33)] (qb6 KA1 ((li2,m2,o2,l2),(li,m,o,k,()),())):=by
 refine (vc_a1 li li2 m o m2 o2 k l2 _ _).mpr ⟨trivial,?_⟩;refine QI.self rfl rfl rfl ?_;intro b hb;simp only[ctA1,bkKL,bkK,cnt,cntL,List.append_nil,List.nil_append,List.mem_append,List.mem_cons,List.mem_singleton,List.not_mem_nil,or_false] at hb;rcases hb with rfl <;> rfl
theorem q6h:HeldI Tryd.prog G0 33 ctA1:=HeldI.run cxA1 (fn:=Tryd.f33) rfl rfl ⟨by decide,by decide⟩ fun x _=>q9g x.2.1.1 x.1.1 x.2.1.2.1 x.2.1.2.2.1 x.1.2.1 x.1.2.2.1 x.2.1.2.2.2.1 x.1.2.2.2 _
end Go.Proofs.YticpkibnhakgbaaDoor
namespace Go.Proofs.YticpkibnhakgbaaDoor
open Go.Px Go.Ax
set_option maxRecDepth 100000
def CIn:CV:=[(33,.inr ctA1)]
theorem cxIn:CxOK Tryd.prog tt G0 CIn:=cx0.consI q6h (fn:=Tryd.f33) rfl rfl rfl
set_option maxRecDepth 100000
theorem q7g (l:List PaT) (li:Bool) (m o:Int) (k:List OpT) (Q:QT) (R:RT):sy tt G0 CIn Tryd.f32.ntmps Tryd.f32.results.toList Q R 1000 [.code (qae Tryd.f32)] (qb6 KIn (((),((li,m,o,k,()),())),l,())) =
  (R (hd Tryd.f32 0) { env:=[(0,.fn (33:Nat) [] [.ptr 1099511627776 0]),(1,.sl paS l),(4,.int .i64 0),(8,.sl paS l),(9,.int .i64 (l.length:Int)),(10,.int .i64 0)],blk:=[(1099511627776,.var [.bool li,.int .i64 m,.int .i64 o,.sl opS k])] }):=by kernel_rfl
theorem qva (l:List PaT) (li:Bool) (m o i:Int) (k:List OpT) (Q:QT) (R:RT):sy tt G0 CIn Tryd.f32.ntmps Tryd.f32.results.toList Q (fun it S=>R it (qao [0,8,9,10] [1099511627776] S)) 1000 (hd Tryd.f32 0) ⟨[(0,.fn 33 [] [.ptr 1099511627776 0]),(8,.sl paS l),(9,.int .i64 l.length),(10,.int .i64 i)],[(1099511627776,.var [.bool li,.int .i64 m,.int .i64 o,.sl opS k])]⟩ =
  (bc (decide (i<(l.length:Int))) ((0:Int)<=i /\
 i<(l.length:Int) /\
 ctA1.pre ((gtP l i.toNat),(li,m,o,k,()),()) /\
 bc (decide ((coV (li,m,o,k) (gtP l i.toNat)).2≠0)) (Q [.int .i64 (coV (li,m,o,k) (gtP l i.toNat)).2] [(6,.var [.bool (gtP l i.toNat).1,.int .i64 (gtP l i.toNat).2.1,.int .i64 (gtP l i.toNat).2.2.1,.sl opS (gtP l i.toNat).2.2.2]),(1099511627776,.var [.bool (ptD (coV (li,m,o,k) (gtP l i.toNat)).1).1,.int .i64 (ptD (coV (li,m,o,k) (gtP l i.toNat)).1).2.1,.int .i64 (ptD (coV (li,m,o,k) (gtP l i.toNat)).1).2.2.1,.sl opS (ptD (coV (li,m,o,k) (gtP l i.toNat)).1).2.2.2.1])]) (R (hd Tryd.f32 0) { env:=[(0,.fn (33:Nat) [] [.ptr 1099511627776 0]),(8,.sl paS l),(9,.int .i64 (l.length:Int)),(10,.int .i64 (IntKind.i64.wrap (i+1)))],blk:=[(1099511627776,.var [.bool (ptD (coV (li,m,o,k) (gtP l i.toNat)).1).1,.int .i64 (ptD (coV (li,m,o,k) (gtP l i.toNat)).1).2.1,.int .i64 (ptD (coV (li,m,o,k) (gtP l i.toNat)).1).2.2.1,.sl opS (ptD (coV (li,m,o,k) (gtP l i.toNat)).1).2.2.2.1])] })) (Q [.int .i64 0] [(1099511627776,.var [.bool li,.int .i64 m,.int .i64 o,.sl opS k])])):=by kernel_rfl
end Go.Proofs.YticpkibnhakgbaaDoor
namespace Go.Proofs.YticpkibnhakgbaaDoor
open Go.Px Go.Ax
set_option maxRecDepth 100000
attribute [local irreducible] Go.Px.sy Go.Px.syE
theorem qsk {l:List PaT} {i:Nat} (h:i<l.length):gtP l i=l[i]:=by
 show gt paS l i=_
 unfold gt;rw[List.getElem?_eq_getElem h];rfl
abbrev vrP (p:PaT):LB:=.var [.bool p.1,.int .i64 p.2.1,.int .i64 p.2.2.1,.sl opS p.2.2.2]
abbrev InQ (p:PaT) (l:List PaT):List SV->List (Nat × LB)->Prop:=fun rs blk=>rs=[.int .i64 (alF (p,0) l).2]/\lk blk 1099511627776=some (vrP (alF (p,0) l).1)
theorem q0j (l:List PaT) (hl:l.length<1099511627776):∀ (k i:Nat) (p:PaT),l.length-i=k->i<=l.length ->
  GD 32 Tryd.f32 (InQ p (l.drop i)) (hd Tryd.f32 0) ⟨[(0,.fn 33 [] [.ptr 1099511627776 0]),(8,.sl paS l),(9,.int .i64 l.length),(10,.int .i64 (i:Nat))],[(1099511627776,vrP p)]⟩:=by
 intro k
 induction k with
 | zero=>
  intro i p hk hi;obtain ⟨li,m,o,k⟩:=p;refine qai cxIn (qva l li m o i k _ _) ?_;rw[decide_eq_false (by omega),bc_f,List.drop_of_length_le (by omega)];exact ⟨rfl,rfl⟩
 | succ c ih=>
  intro i p hk hi;obtain ⟨li,m,o,k⟩:=p;have hlt:i<l.length:=by omega
  refine qai cxIn (qva l li m o i k _ _) ?_;rw[decide_eq_true (show (i:Int)<(l.length:Int) by omega),bc_t,Int.toNat_natCast,IntWalk.i64_in ((i:Int)+1) (by omega),List.drop_eq_getElem_cons hlt,<- qsk hlt];refine ⟨by omega,by omega,trivial,qaf (fun h=>?_) (fun h=>?_)⟩
  ·have h:(coV (li,m,o,k) (gtP l i)).2≠0:=of_decide_eq_true h;have e:alF ((li,m,o,k),0) (gtP l i::l.drop (i+1))=coV (li,m,o,k) (gtP l i):=by rw[alF];exact if_pos h
   show InQ _ _ _ _
   unfold InQ;rw[e];exact ⟨rfl,rfl⟩
  ·have h:¬ (coV (li,m,o,k) (gtP l i)).2≠0:=of_decide_eq_false h;have h0:coV (li,m,o,k) (gtP l i)=((coV (li,m,o,k) (gtP l i)).1,0):=Prod.ext rfl (by omega);have e:alF ((li,m,o,k),0) (gtP l i::l.drop (i+1))=alF ((coV (li,m,o,k) (gtP l i)).1,0) (l.drop (i+1)):=by
    rw[<- h0,alF];exact if_neg h
   have g:=ih (i+1) (coV (li,m,o,k) (gtP l i)).1 (by omega) (by omega);unfold InQ at g |-;rw[e];exact g
def ctIno:CtrI:=⟨KIn,fun x=>List.length x.2.1<1099511627776,fun x=>[.int .i64 (alF ((x.1.2.1.1,x.1.2.1.2.1,x.1.2.1.2.2.1,x.1.2.1.2.2.2.1),0) x.2.1).2],
 fun x=>bkKL 0 KIn (((),(ptD (alF ((x.1.2.1.1,x.1.2.1.2.1,x.1.2.1.2.2.1,x.1.2.1.2.2.2.1),0) x.2.1).1,())),x.2.1,())⟩
theorem q5i (l:List PaT) (li:Bool) (m o:Int) (k:List OpT) (hl:l.length<1099511627776):sy tt G0 CIn Tryd.f32.ntmps Tryd.f32.results.toList (QI ctIno (((),((li,m,o,k,()),())),l,())) (Px.Good Tryd.prog tt G0 32 Tryd.f32.ntmps Tryd.f32.results.toList (QI ctIno (((),((li,m,o,k,()),())),l,()))) 1000 [.code (qae Tryd.f32)] (qb6 KIn (((),((li,m,o,k,()),())),l,())):=by
 rw[q7g];refine ((q0j l hl _ 0 (li,m,o,k) rfl (Nat.zero_le _)).post fun rs blk hq=>?_).only ⟨rfl,rfl,rfl,rfl,trivial⟩ ⟨rfl,trivial⟩;obtain ⟨h1,h2⟩:=hq;rw[List.drop_zero] at h1 h2;subst h1;refine QI.self rfl rfl rfl ?_;intro b hb;simp only[ctIno,bkKL,bkK,cnt,cntL,List.append_nil,List.nil_append,List.mem_append,List.mem_cons,List.mem_singleton,List.not_mem_nil,or_false] at hb;rcases hb with rfl <;> exact h2
theorem q0k:HeldI Tryd.prog G0 32 ctIno:=HeldI.run cxIn (fn:=Tryd.f32) rfl rfl ⟨by decide,by decide⟩ fun x hp=>q5i x.2.1 x.1.2.1.1 x.1.2.1.2.1 x.1.2.1.2.2.1 x.1.2.1.2.2.2.1 hp
end Go.Proofs.YticpkibnhakgbaaDoor
namespace Go.Proofs.YticpkibnhakgbaaDoor
open Go.Px Go.Ax
set_option maxRecDepth 100000
def CAl:CV:=[(32,.inr ctIno),(20,.inl ctFo)]
theorem cxAl:CxOK Tryd.prog tt G0 CAl:=(cx0.cons q5s (fn:=Tryd.f20) rfl rfl rfl).consI q0k (fn:=Tryd.f32) rfl rfl rfl
def CRal:CV:=[(15,.inl ctCo),(34,.inl ctFo)]
theorem qsz:CxOK Tryd.prog tt G0 CRal:=(cx0.cons qzo (fn:=Tryd.f34) rfl rfl rfl).cons qr5 (fn:=Tryd.f15) rfl rfl rfl
set_option maxRecDepth 100000
theorem q7n (l:List PaT) (Q:QT) (R:RT):sy tt G0 CAl Tryd.f11.ntmps Tryd.f11.results.toList Q R 1000 [.code (qae Tryd.f11)] (entry [.sl paS] (l,())) =
  (bc (decide ((l.length:Int)=(0:Int))) (Q [.agg [.bool false,.int .i64 0,.int .i64 0,.nils],.int .i64 1] [(2,.var [.bool false,.int .i64 0,.int .i64 0,.nils])]) ((0:Int)<=0 /\
 (0:Int)<(l.length:Int) /\
 ctFo.pre ((gtP l (0)),()) /\
 bc (decide ((foV (gtP l (0))).2≠0)) (Q [.agg [.bool false,.int .i64 0,.int .i64 0,.nils],.int .i64 (foV (gtP l (0))).2] [(2,.var [.bool false,.int .i64 0,.int .i64 0,.nils]),(4,.var [.bool (foV (gtP l (0))).1.1,.int .i64 (foV (gtP l (0))).1.2.1,.int .i64 (foV (gtP l (0))).1.2.2.1,.sl opS (foV (gtP l (0))).1.2.2.2])]) ((0:Int)<=1 /\
 (1:Int)<=(l.length:Int) /\
 ctIno.pre (((),((foV (gtP l (0))).1.1,(foV (gtP l (0))).1.2.1,(foV (gtP l (0))).1.2.2.1,(foV (gtP l (0))).1.2.2.2,()),()),List.drop (1) l,()) /\
 Q [.agg [.bool (ptD (alF (((foV (gtP l (0))).1),(0:Int)) (List.drop (1) l)).1).1,.int .i64 (ptD (alF (((foV (gtP l (0))).1),(0:Int)) (List.drop (1) l)).1).2.1,.int .i64 (ptD (alF (((foV (gtP l (0))).1),(0:Int)) (List.drop (1) l)).1).2.2.1,.sl opS (ptD (alF (((foV (gtP l (0))).1),(0:Int)) (List.drop (1) l)).1).2.2.2.1],.int .i64 (alF (((foV (gtP l (0))).1),(0:Int)) (List.drop (1) l)).2] [(2,.var [.bool (ptD (alF (((foV (gtP l (0))).1),(0:Int)) (List.drop (1) l)).1).1,.int .i64 (ptD (alF (((foV (gtP l (0))).1),(0:Int)) (List.drop (1) l)).1).2.1,.int .i64 (ptD (alF (((foV (gtP l (0))).1),(0:Int)) (List.drop (1) l)).1).2.2.1,.sl opS (ptD (alF (((foV (gtP l (0))).1),(0:Int)) (List.drop (1) l)).1).2.2.2.1]),(4,.var [.bool (ptD (alF (((foV (gtP l (0))).1),(0:Int)) (List.drop (1) l)).1).1,.int .i64 (ptD (alF (((foV (gtP l (0))).1),(0:Int)) (List.drop (1) l)).1).2.1,.int .i64 (ptD (alF (((foV (gtP l (0))).1),(0:Int)) (List.drop (1) l)).1).2.2.1,.sl opS (ptD (alF (((foV (gtP l (0))).1),(0:Int)) (List.drop (1) l)).1).2.2.2.1])]))):=by kernel_rfl
theorem q6s (l:List PaT) (Q:QT) (R:RT):sy tt G0 CRal Tryd.f12.ntmps Tryd.f12.results.toList Q (fun it S=>R it (qao [0,2,4,5,6] [2,4] S)) 1000 [.code (qae Tryd.f12)] (entry [.sl paS] (l,())) =
  (bc (decide ((l.length:Int)=(0:Int))) (Q [.agg [.bool false,.int .i64 0,.int .i64 0,.nils],.int .i64 1] [(2,.var [.bool false,.int .i64 0,.int .i64 0,.nils])]) ((0:Int)<=0 /\
 (0:Int)<(l.length:Int) /\
 ctFo.pre ((gtP l (0)),()) /\
 R (hd Tryd.f12 0) { env:=[(0,.sl paS l),(2,.ptr 2 0),(4,.ptr 4 0),(5,.int .i64 (foV (gtP l (0))).2),(6,.int .i64 1)],blk:=[(2,.var [.bool false,.int .i64 0,.int .i64 0,.nils]),(4,.var [.bool (foV (gtP l (0))).1.1,.int .i64 (foV (gtP l (0))).1.2.1,.int .i64 (foV (gtP l (0))).1.2.2.1,.sl opS (foV (gtP l (0))).1.2.2.2])] })):=by kernel_rfl
theorem qu5 (l:List PaT) (p:PaT) (e i:Int) (Q:QT) (R:RT):sy tt G0 CRal Tryd.f12.ntmps Tryd.f12.results.toList Q (fun it S=>R it (qao [0,2,4,5,6] [2,4] S)) 1000 (hd Tryd.f12 0) ⟨[(0,.sl paS l),(2,.ptr 2 0),(4,.ptr 4 0),(5,.int .i64 e),(6,.int .i64 i)],[(2,.var [.bool false,.int .i64 0,.int .i64 0,.nils]),(4,vrP p)]⟩ =
  (bc (decide (i<(l.length:Int))) (bc (decide (e≠0)) (Q [.agg [.bool false,.int .i64 0,.int .i64 0,.nils],.int .i64 e] [(2,.var [.bool false,.int .i64 0,.int .i64 0,.nils]),(4,.var [.bool p.1,.int .i64 p.2.1,.int .i64 p.2.2.1,.sl opS p.2.2.2])]) ((0:Int)<=i /\
 i<(l.length:Int) /\
 ctCo.pre (p,(gtP l i.toNat),()) /\
 R (hd Tryd.f12 0) { env:=[(0,.sl paS l),(2,.ptr 2 0),(4,.ptr 4 0),(5,.int .i64 (coV p (gtP l i.toNat)).2),(6,.int .i64 (IntKind.i64.wrap (i+1)))],blk:=[(2,.var [.bool false,.int .i64 0,.int .i64 0,.nils]),(4,.var [.bool (coV p (gtP l i.toNat)).1.1,.int .i64 (coV p (gtP l i.toNat)).1.2.1,.int .i64 (coV p (gtP l i.toNat)).1.2.2.1,.sl opS (coV p (gtP l i.toNat)).1.2.2.2])] })) (Q [.agg [.bool p.1,.int .i64 p.2.1,.int .i64 p.2.2.1,.sl opS p.2.2.2],.int .i64 e] [(2,.var [.bool p.1,.int .i64 p.2.1,.int .i64 p.2.2.1,.sl opS p.2.2.2]),(4,.var [.bool p.1,.int .i64 p.2.1,.int .i64 p.2.2.1,.sl opS p.2.2.2])])):=by kernel_rfl
end Go.Proofs.YticpkibnhakgbaaDoor
namespace Go.Proofs.YticpkibnhakgbaaDoor
open Go.Px Go.Ax
set_option maxRecDepth 100000
attribute [local irreducible] Go.Px.sy Go.Px.syE
def ctAl:Ctr:=⟨[.sl paS],fun x=>List.length x.1<1099511627776,fun x=>[paV (allV x.1).1,.int .i64 (allV x.1).2],fun _=>[]⟩
theorem qta {l:List PaT} {z:Int} {bl:List (Nat × LB)} (h:allV l=(zP,z)):QC ctAl (l,()) [.agg [.bool false,.int .i64 0,.int .i64 0,.nils],.int .i64 z] bl:=
 QC.mt (by show MtL _ [paV (allV l).1,.int .i64 (allV l).2] _;rw[h];exact qc9 _) rfl
theorem q24 {l:List PaT} {r:PaT × Int} {bl:List (Nat × LB)} (h:allV l=r):QC ctAl (l,()) [paV r.1,.int .i64 r.2] bl:=
 QC.flat (by show [paV (allV l).1,.int .i64 (allV l).2]=_;rw[h]) rfl rfl
theorem q6g (l:List PaT) (hl:l.length<1099511627776) (R:List Item->PS->Prop):sy tt G0 CAl Tryd.f11.ntmps Tryd.f11.results.toList (QC ctAl (l,())) R 1000 [.code (qae Tryd.f11)] (entry [.sl paS] (l,())):=by
 refine (q7n l _ _).mpr (qaf (fun h=>?_) (fun h=>?_))
 ·have h:(l.length:Int)=0:=of_decide_eq_true h;have e:l=[]:=List.eq_nil_of_length_eq_zero (by omega);exact qta (by rw[e];rfl)
 ·have h:¬ (l.length:Int)=0:=of_decide_eq_false h;have e:l=gtP l 0::l.drop 1:=by
   have:=List.drop_eq_getElem_cons (l:=l) (i:=0) (by omega);rw[List.drop_zero] at this;rw[qsk (by omega)];exact this
  have ha:allV l=if (foV (gtP l 0)).2≠0 then (zP,(foV (gtP l 0)).2) else alF (foV (gtP l 0)) (l.drop 1):=by
   rw[e];rfl
  refine ⟨by omega,by omega,trivial,qaf (fun h2=>?_) (fun h2=>?_)⟩
  ·have h2:(foV (gtP l 0)).2≠0:=of_decide_eq_true h2;rw[if_pos h2] at ha;exact qta ha
  ·have h2:¬ (foV (gtP l 0)).2≠0:=of_decide_eq_false h2;rw[if_neg h2,show foV (gtP l 0)=((foV (gtP l 0)).1,0) from Prod.ext rfl (by omega)] at ha;exact ⟨by omega,by omega,(show (l.drop 1).length<1099511627776 by rw[List.length_drop];omega),q24 ha⟩
theorem qs6:Held Tryd.prog G0 11 ctAl:=Held.run cxAl (fn:=Tryd.f11) rfl rfl ⟨by decide,by decide⟩ fun ⟨l,_⟩ hp=>q6g l hp _
theorem coV_z {p q:PaT} (h:(coV p q).2≠0):(coV p q).1=zP:=by
 unfold coV at h |-;split
 ·rfl
 ·split
  ·rfl
  ·split
   ·rfl
   ·split
    ·rfl
    ·split
     ·rfl
     ·rename_i a b c d e;rw[if_neg a,if_neg b,if_neg c,if_neg d,if_neg e] at h;exact absurd rfl h
theorem q8t {p:PaT} (h:(foV p).2≠0):(foV p).1=zP:=by
 unfold foV at h |-;split
 ·rename_i a;rw[if_pos a] at h;split
  ·rename_i b;rw[if_pos b] at h;exact absurd rfl h
  ·rfl
 ·rfl
def raV (r:PaT × Int) (l:List PaT):PaT × Int:=if r.2≠0 then r else alF r l
theorem qzu (l l0:List PaT) (hl:l.length<1099511627776):∀ (k i:Nat) (r:PaT × Int),l.length-i=k->i<=l.length->(r.2≠0->r.1=zP)->allV l0=raV r (l.drop i) ->
  GD 12 Tryd.f12 (QC ctAl (l0,())) (hd Tryd.f12 0) ⟨[(0,.sl paS l),(2,.ptr 2 0),(4,.ptr 4 0),(5,.int .i64 r.2),(6,.int .i64 (i:Nat))],[(2,.var [.bool false,.int .i64 0,.int .i64 0,.nils]),(4,vrP r.1)]⟩:=by
 intro k
 induction k with
 | zero=>
  intro i r hk hi hz ha;refine qai qsz (qu5 l r.1 r.2 i _ _) ?_;rw[decide_eq_false (by omega),bc_f];rw[List.drop_of_length_le (by omega)] at ha;have e:raV r []=r:=by
   unfold raV;split
   ·rfl
   ·rfl
  rw[e] at ha;exact q24 ha
 | succ c ih=>
  intro i r hk hi hz ha;have hlt:i<l.length:=by omega
  refine qai qsz (qu5 l r.1 r.2 i _ _) ?_;rw[decide_eq_true (show (i:Int)<(l.length:Int) by omega),bc_t,Int.toNat_natCast,IntWalk.i64_in ((i:Int)+1) (by omega)];refine qaf (fun h=>?_) (fun h=>⟨by omega,by omega,trivial,?_⟩)
  ·have h:r.2≠0:=of_decide_eq_true h;have e:raV r (l.drop i)=(zP,r.2):=by
    unfold raV;rw[if_pos h,<- hz h]
   exact qta (ha.trans e)
  ·have h:¬ r.2≠0:=of_decide_eq_false h;have e:raV r (l.drop i)=raV (coV r.1 (gtP l i)) (l.drop (i+1)):=by
    unfold raV;rw[if_neg h,List.drop_eq_getElem_cons hlt,qsk hlt,alF]
   exact (ih (i+1) (coV r.1 (gtP l i)) (by omega) (by omega) coV_z (ha.trans e)).only ⟨rfl,rfl,rfl,rfl,rfl,trivial⟩ ⟨rfl,rfl,trivial⟩
theorem q4m (l:List PaT) (hl:l.length<1099511627776):GD 12 Tryd.f12 (QC ctAl (l,())) [.code (qae Tryd.f12)] (entry [.sl paS] (l,())):=by
 refine qai qsz (q6s l _ _) (qaf (fun h=>?_) (fun h=>?_))
 ·have h:(l.length:Int)=0:=of_decide_eq_true h;have e:l=[]:=List.eq_nil_of_length_eq_zero (by omega);exact qta (by rw[e];rfl)
 ·have h:¬ (l.length:Int)=0:=of_decide_eq_false h;have e:l=gtP l 0::l.drop 1:=by
   have:=List.drop_eq_getElem_cons (l:=l) (i:=0) (by omega);rw[List.drop_zero] at this;rw[qsk (by omega)];exact this
  have ha:allV l=raV (foV (gtP l 0)) (l.drop 1):=by
   have e2:allV l=if (foV (gtP l 0)).2≠0 then (zP,(foV (gtP l 0)).2) else alF (foV (gtP l 0)) (l.drop 1):=by
    rw[e];rfl
   rw[e2];unfold raV;split
   ·rename_i q;exact Prod.ext (q8t q).symm rfl
   ·rfl
  exact ⟨by omega,by omega,trivial,qzu l l hl _ 1 _ rfl (by omega) q8t ha⟩
theorem qzv:Held Tryd.prog G0 12 ctAl:=Held.of qsz (fn:=Tryd.f12) rfl rfl ⟨by decide,by decide⟩ fun ⟨l,_⟩ hp=>q4m l hp
end Go.Proofs.YticpkibnhakgbaaDoor
namespace Go.Proofs.YticpkibnhakgbaaDoor
open Go.Px Go.Ax
set_option maxRecDepth 100000
abbrev RaT:Type:=Int × List (List Int)
abbrev gtR (l:List RaT) (i:Nat):RaT:=gt raS l i
def CChn:CV:=[(21,.inl ctM6),(23,.inl ctSz),(31,.inl ctRw)]
theorem q0x:CxOK Tryd.prog tt G0 CChn:=((cx0.cons qv1 (fn:=Tryd.f31) rfl rfl rfl).cons qvl (fn:=Tryd.f23) rfl rfl rfl).cons qt2 (fn:=Tryd.f21) rfl rfl rfl
set_option maxRecDepth 100000
theorem q7j (l:List RaT) (n:Int) (Q:QT) (R:RT):sy tt G0 CChn Tryd.f10.ntmps Tryd.f10.results.toList Q (fun it S=>R it (qao [0,1,5,6] [7] S)) 1000 [.code (qae Tryd.f10)] (entry [.sl raS,iI] (l,n,())) =
  (R (hd Tryd.f10 0) { env:=[(0,.sl raS l),(1,.int .i64 n),(5,.win true paS 7 0 (0:Nat)),(6,.int .i64 0)],blk:=[(7,.row 31 paS (List.replicate (0:Nat) paS.dflt))] }):=by kernel_rfl
theorem qvh (l:List RaT) (xs:List PaT) (n i:Int) (Q:QT) (R:RT):sy tt G0 CChn Tryd.f10.ntmps Tryd.f10.results.toList Q (fun it S=>R it (qao [0,1,5,6] [7,28,42] S)) 1000 (hd Tryd.f10 0) ⟨[(0,.sl raS l),(1,.int .i64 n),(5,.win true paS 7 0 xs.length),(6,.int .i64 i)],[(7,.row 31 paS xs)]⟩ =
  (bc (decide (i<(l.length:Int))) (bc (decide (i<n)) (bc (decide (i=(0:Int))) ((0:Int)<=i /\
 i<(l.length:Int) /\
 ctM6.pre ((gtR l i.toNat),()) /\
 0+1<=((List.replicate (1:Nat) paS.dflt).set (0:Nat) (szV (gtR l i.toNat).2 ((gtR l i.toNat).1 % (13:Int)))).length /\
 xs.length=xs.length /\
 (0:Nat)=(0:Nat) /\
 xs.length+(winL paS 0 1 ((List.replicate (1:Nat) paS.dflt).set (0:Nat) (szV (gtR l i.toNat).2 ((gtR l i.toNat).1 % (13:Int))))).length<2 ^ 30 /\
 (48:Nat)<=2 ^ 10 /\
 R (hd Tryd.f10 0) { env:=[(0,.sl raS l),(1,.int .i64 n),(5,.win true paS 28 0 (xs.length+(winL paS 0 1 ((List.replicate (1:Nat) paS.dflt).set (0:Nat) (szV (gtR l i.toNat).2 ((gtR l i.toNat).1 % (13:Int))))).length)),(6,.int .i64 (IntKind.i64.wrap (i+1)))],blk:=[(28,.row 31 paS (xs++winL paS 0 1 ((List.replicate (1:Nat) paS.dflt).set (0:Nat) (szV (gtR l i.toNat).2 ((gtR l i.toNat).1 % (13:Int))))))] }) ((0:Int)<=i /\
 i<(l.length:Int) /\
 (0:Int)<=IntKind.i64.wrap (i-1) /\
 IntKind.i64.wrap (i-1)<(xs.length:Int) /\
 0+(IntKind.i64.wrap (i-1)).toNat<xs.length /\
 ctSz.pre ((gtR l i.toNat),(gtP xs (0+(IntKind.i64.wrap (i-1)).toNat)).2.2.1,()) /\
 0+1<=((List.replicate (1:Nat) paS.dflt).set (0:Nat) (szV (gtR l i.toNat).2 (gtP xs (0+(IntKind.i64.wrap (i-1)).toNat)).2.2.1)).length /\
 xs.length=xs.length /\
 (0:Nat)=(0:Nat) /\
 xs.length+(winL paS 0 1 ((List.replicate (1:Nat) paS.dflt).set (0:Nat) (szV (gtR l i.toNat).2 (gtP xs (0+(IntKind.i64.wrap (i-1)).toNat)).2.2.1))).length<2 ^ 30 /\
 (48:Nat)<=2 ^ 10 /\
 R (hd Tryd.f10 0) { env:=[(0,.sl raS l),(1,.int .i64 n),(5,.win true paS 42 0 (xs.length+(winL paS 0 1 ((List.replicate (1:Nat) paS.dflt).set (0:Nat) (szV (gtR l i.toNat).2 (gtP xs (0+(IntKind.i64.wrap (i-1)).toNat)).2.2.1))).length)),(6,.int .i64 (IntKind.i64.wrap (i+1)))],blk:=[(42,.row 31 paS (xs++winL paS 0 1 ((List.replicate (1:Nat) paS.dflt).set (0:Nat) (szV (gtR l i.toNat).2 (gtP xs (0+(IntKind.i64.wrap (i-1)).toNat)).2.2.1))))] })) (bc (decide ((xs.length:Int)=(0:Int))) (ctRw.pre ((3:Int),()) /\
 Q [.win true paS 47 0 (1:Nat)] [(7,.row 31 paS xs),(47,.row 31 paS ((List.replicate (1:Nat) paS.dflt).set (0:Nat) (rwV (3:Int))))]) (Q [.win true paS 7 0 xs.length] [(7,.row 31 paS xs)]))) (false=false /\
 bc (decide ((xs.length:Int)=(0:Int))) (ctRw.pre ((3:Int),()) /\
 Q [.win true paS 47 0 (1:Nat)] [(7,.row 31 paS xs),(47,.row 31 paS ((List.replicate (1:Nat) paS.dflt).set (0:Nat) (rwV (3:Int))))]) (Q [.win true paS 7 0 xs.length] [(7,.row 31 paS xs)]))):=by kernel_rfl
end Go.Proofs.YticpkibnhakgbaaDoor
namespace Go.Proofs.YticpkibnhakgbaaDoor
open Go.Px Go.Ax
set_option maxRecDepth 100000
attribute [local irreducible] Go.Px.sy Go.Px.syE
def chR:Int->List RaT->List PaT
 | _,[]=>[]
 | o,x::r=>szV x.2 o::chR (szV x.2 o).2.2.1 r
def chU:List RaT->List PaT
 | []=>[]
 | x::r=>szV x.2 (x.1 % 13)::chR (szV x.2 (x.1 % 13)).2.2.1 r
def chV (l:List RaT):List PaT:=if l=[] then [rwV 3] else chU (l.take 4)
def loR:Int->List RaT->Int
 | o,[]=>o
 | o,x::r=>loR (szV x.2 o).2.2.1 r
theorem qs1 (y:RaT):∀ (l:List RaT) (o:Int),chR o (l++[y])=chR o l++[szV y.2 (loR o l)]
 | [],o=>rfl
 | x::l,o=>by rw[List.cons_append,chR,qs1 y l];rfl
theorem qq7:∀ (l:List RaT) (o:Int),(chR o l).length=l.length
 | [],o=>rfl
 | x::l,o=>by rw[chR,List.length_cons,qq7 l,List.length_cons]
theorem q0q (p:PaT) (l:List PaT) (i:Nat):gtP (p::l) (i+1)=gtP l i:=by
 show gt paS _ _=gt paS _ _
 unfold gt;rfl
theorem qnj:∀ (r:List RaT) (p:PaT),(gtP (p::chR p.2.2.1 r) r.length).2.2.1=loR p.2.2.1 r
 | [],p=>rfl
 | x::r,p=>by
  rw[chR,List.length_cons,q0q,qnj r];rfl
theorem qya (l:List RaT):(chU l).length=l.length:=by
 cases l with
 | nil=>rfl
 | cons x r=>rw[chU,List.length_cons,qq7,List.length_cons]
theorem q09 {l:List RaT} (h:0<l.length) (y:RaT):chU (l++[y])=chU l++[szV y.2 (gtP (chU l) (l.length-1)).2.2.1]:=by
 cases l with
 | nil=>exact absurd h (by simp)
 | cons x r=>
  rw[List.cons_append,chU,qs1,chU,List.length_cons,Nat.add_sub_cancel,qnj];rfl
def qll (l:List RaT):Prop:=∀ x∈l,qwj x.1 x.2
theorem qmt {l:List (List Int)} {m:Int} (hl:qkk l) (h0:0<=m):0<=(szV l m).2.2.1/\(szV l m).2.2.1<=30:=qpy hl h0
theorem q8l:∀ {l:List RaT} {o:Int},qll l->0<=o/\o<=30->0<=loR o l/\loR o l<=30
 | [],o,_,h=>h
 | x::l,o,hp,h=>q8l (l:=l) (fun y hy=>hp y (by simp[hy])) (qmt (hp x (by simp)).2.1 h.1)
theorem q59 {l:List RaT} (h:0<l.length) (hp:qll l):0<=(gtP (chU l) (l.length-1)).2.2.1/\(gtP (chU l) (l.length-1)).2.2.1<=30:=by
 cases l with
 | nil=>exact absurd h (by simp)
 | cons x r=>
  rw[chU,List.length_cons,Nat.add_sub_cancel,qnj];have hx:=hp x (by simp);exact q8l (fun y hy=>hp y (by simp[hy])) (qmt hx.2.1 (by omega))
theorem q2q {l:List RaT} {i:Nat} (h:i<l.length):gtR l i=l[i]:=by
 show gt raS l i=_
 unfold gt;rw[List.getElem?_eq_getElem h];rfl
theorem q08 {l:List RaT} {i:Nat} (h:i<l.length):chU (l.take (i+1))=chU (l.take i)++[if i=0 then szV (gtR l i).2 ((gtR l i).1 % 13) else szV (gtR l i).2 (gtP (chU (l.take i)) (i-1)).2.2.1]:=by
 rw[List.take_succ_eq_append_getElem h,q2q h];have e:(l.take i).length=i:=by rw[List.length_take];omega
 by_cases h0:i=0
 ·subst h0;rfl
 ·rw[if_neg h0,q09 (by omega),e]
def ctChn:Ctr:=⟨[.sl raS,iI],fun x=>qll x.1/\x.2.1=4,fun x=>[.win true paS 0 0 (chV x.1).length],fun x=>[.row 31 paS (chV x.1)]⟩
theorem q04 (l:List RaT) (hl:qll l):∀ (k i:Nat),min l.length 4-i=k->i<=min l.length 4 ->
  GD 10 Tryd.f10 (QC ctChn (l,4,())) (hd Tryd.f10 0) ⟨[(0,.sl raS l),(1,.int .i64 4),(5,.win true paS 7 0 (chU (l.take i)).length),(6,.int .i64 (i:Nat))],[(7,.row 31 paS (chU (l.take i)))]⟩:=by
 intro k
 induction k with
 | zero=>
  intro i hk hi;have hi:i=min l.length 4:=by omega
  have hlen:(chU (l.take i)).length=i:=by rw[qya,List.length_take];omega
  refine qai q0x (qvh l (chU (l.take i)) 4 i _ _) ?_;have fin:bc (decide (((chU (l.take i)).length:Int)=0)) (ctRw.pre ((3:Int),())/\QC ctChn (l,4,()) [SV.win true paS 47 0 1] [(7,.row 31 paS (chU (l.take i))),(47,.row 31 paS ((List.replicate 1 paS.dflt).set 0 (rwV 3)))])
    (QC ctChn (l,4,()) [SV.win true paS 7 0 (chU (l.take i)).length] [(7,.row 31 paS (chU (l.take i)))]):=by
   by_cases hz:l=[]
   ·have e:chV l=[rwV 3]:=by unfold chV;rw[if_pos hz]
    have e0:i=0:=by rw[hi,hz];rfl
    rw[decide_eq_true (by omega),bc_t];exact ⟨trivial,qr6 (e:=paS) (et:=31) (a:=47) (xs:=[rwV 3]) (by show [SV.win true paS 0 0 (chV l).length]=_;rw[e]) (by show [LB.row 31 paS (chV l)]=_;rw[e]) rfl rfl rfl⟩
   ·have e:chV l=chU (l.take i):=by
     unfold chV;rw[if_neg hz,hi];by_cases h4:l.length<=4
     ·rw[Nat.min_eq_left h4,List.take_of_length_le h4,List.take_of_length_le (Nat.le_refl _)]
     ·rw[Nat.min_eq_right (by omega)]
    have hp:0<l.length:=List.length_pos_iff.2 hz;rw[decide_eq_false (by omega),bc_f];exact qr6 (e:=paS) (et:=31) (a:=7) (xs:=chU (l.take i)) (by show [SV.win true paS 0 0 (chV l).length]=_;rw[e]) (by show [LB.row 31 paS (chV l)]=_;rw[e]) rfl rfl rfl
  refine qaf (fun h=>qaf (fun h2=>?_) (fun h2=>fin)) (fun h=>⟨rfl,fin⟩);have h:=of_decide_eq_true h;have h2:=of_decide_eq_true h2;omega
 | succ k ih=>
  intro i hk hi;have h4:i<l.length/\i<4:=by omega
  have hlen:(chU (l.take i)).length=i:=by rw[qya,List.length_take];omega
  have nx:∀ nm,(nm=28\/nm=42)->∀ p,p=(if i=0 then szV (gtR l i).2 ((gtR l i).1 % 13) else szV (gtR l i).2 (gtP (chU (l.take i)) (i-1)).2.2.1) ->
    GD 10 Tryd.f10 (QC ctChn (l,4,())) (hd Tryd.f10 0) ⟨[(0,.sl raS l),(1,.int .i64 4),(5,.win true paS nm 0 ((chU (l.take i)).length+1)),(6,.int .i64 ((i:Int)+1))],[(nm,.row 31 paS (chU (l.take i)++[p]))]⟩:=fun nm hn p hp=>by
   have h:=ih (i+1) (by omega) (by omega);rw[q08 h4.1,<- hp] at h;rcases hn with rfl | rfl
   ·exact h.onlyR [(7,28)] rfl ⟨rfl,rfl,by rw[List.length_append];rfl,rfl,trivial⟩ ⟨rfl,trivial⟩
   ·exact h.onlyR [(7,42)] rfl ⟨rfl,rfl,by rw[List.length_append];rfl,rfl,trivial⟩ ⟨rfl,trivial⟩
  have ho:i≠0->0<=(gtP (chU (l.take i)) (i-1)).2.2.1/\(gtP (chU (l.take i)) (i-1)).2.2.1<=30:=fun h0=>by
   have e:(l.take i).length=i:=by rw[List.length_take];omega
   have:=q59 (l:=l.take i) (by omega) (fun x hx=>hl x (List.mem_of_mem_take hx));rw[e] at this;exact this
  generalize chU (l.take i)=o at *;have hx:qwj (gtR l i).1 (gtR l i).2:=by rw[q2q h4.1];exact hl _ (List.getElem_mem h4.1)
  refine qai q0x (qvh l o 4 i _ _) ?_;rw[decide_eq_true (show (i:Int)<(l.length:Int) by omega),bc_t,decide_eq_true (show (i:Int)<(4:Int) by omega),bc_t,Int.toNat_natCast,IntWalk.i64_in ((i:Int)+1) (by omega)];refine qaf (fun h=>?_) (fun h=>?_)
  ·have h:i=0:=by have:=of_decide_eq_true h;omega
   refine ⟨by omega,by omega,hx,Nat.le_refl _,rfl,rfl,by show o.length+1<2 ^ 30;omega,by decide,?_⟩;exact nx 28 (.inl rfl) _ (by rw[if_pos h])
  ·have h:i≠0:=fun q=>by rw[q] at h;cases h
   have wj:IntKind.i64.wrap ((i:Int)-1)=((i-1:Nat):Int):=by rw[IntWalk.i64_in _ (by omega)];omega
   rw[wj,Int.toNat_natCast,Nat.zero_add];have ho:=ho h;refine ⟨by omega,by omega,by omega,by omega,by omega,(show q75 (gtR l i).2 (gtP o (i-1)).2.2.1 from ⟨hx.2.1,⟨ho.1,by omega⟩,hx.2.2⟩),Nat.le_refl _,rfl,rfl,by show o.length+1<2 ^ 30;omega,by decide,?_⟩;exact nx 42 (.inr rfl) _ (by rw[if_neg h])
theorem q54 (l:List RaT) (hl:qll l):GD 10 Tryd.f10 (QC ctChn (l,4,())) [.code (qae Tryd.f10)] (entry [.sl raS,iI] (l,4,())):=by
 refine qai q0x (q7j l 4 _ _) ?_;exact q04 l hl _ 0 rfl (Nat.zero_le _)
theorem q05:Held Tryd.prog G0 10 ctChn:=Held.of q0x (fn:=Tryd.f10) rfl rfl ⟨by decide,by decide⟩ fun ⟨l,n,_⟩ hp=>by
 obtain ⟨h1,h2⟩:=hp;have h2:n=4:=h2;subst h2;exact q54 l h1
end Go.Proofs.YticpkibnhakgbaaDoor
