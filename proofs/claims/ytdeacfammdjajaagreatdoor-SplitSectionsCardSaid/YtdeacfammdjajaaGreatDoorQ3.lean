/-
  A part of the proof: what pieces of the program give; conditions: those of each theorem.
-/
import Derived.Test.YtdeacfammdjajaaGreatDoorQ2
import Derived.Test.YtdeacfammdjajaaGreatDoorQ1
import Derived.Test.YtdeacfammdjajaaGreatDoorQ0
import Derived.Test.YtdeacfammdjajaaGreatDoorHD
set_option linter.unusedVariables false
set_option linter.unusedSimpArgs false
namespace Go.Proofs.YtdeacfammdjajaaGreatDoor
open Go.Px Go.Ax
open Go.IntKind(i64 u32 u8)
set_option maxRecDepth 100000
def CCh:CV:=[(128,.inl ctBs),(129,.inl ctMk)]
theorem cxCh:CxOK Tryz.prog tt G0 CCh:=(cx0.k mk_held (fn:=Tryz.f129)).k q62 (fn:=Tryz.f128)
set_option maxRecDepth 100000
theorem vc_ch (l:List SyT) (Q:QT) (R:RT):sA CCh Tryz.f104 Q (λ it S=>R it (qbr [0,3,4,5] [3,8,14,1032768] S)) [.code (qae Tryz.f104)] (entry [.sl syS] (l,())) =
  (ctBs.pre (l,())/\(0:Int)<=0/\(0:Int)<(↑(qcg l).length:Int)/\0+0<(qcg l).length/\(0:Int)<=0/\(0:Int)<=(gtL (qcg l) (0+0)).2.2.2/\(gtL (qcg l) (0+0)).2.2.2<2 ^ 24/\(↑(56:Nat):Int)*(gtL (qcg l) (0+0)).2.2.2<=2 ^ 48/\R (hd Tryz.f104 0) { env:=[(0,.sl syS l),(3,.win true liS 1032768 0 (qcg l).length),(4,.win true opS 14 0 (0:Nat)),(5,.i 0)],blk:=[(14,.row 74 opS (List.replicate (0) opS.dflt)),(1032768,.row 189 liS (qcg l))] }):=by kernel_rfl
theorem q75 (l:List SyT) (b:List LiT) (o:List OpT) (a:Nat) (Q:QT) (R:RT):sA CCh Tryz.f104 Q (λ it S=>R it (qbr [0,3,4,5] [14,46,1032768] S)) (hd Tryz.f104 0) ⟨[(0,.sl syS l),(3,.win true liS 1032768 0 b.length),(4,.win true opS 14 0 o.length),(5,.i (a:Nat))],[(14,.row 74 opS o),(1032768,.row 189 liS b)]⟩ =
  (bc (decide ((a:Int)<(l.length:Int))) ((0:Int)<=(a:Int)/\(a:Int)<(b.length:Int)/\0+(a:Int).toNat<b.length/\(0:Int)<=(a:Int)/\(a:Int)<(b.length:Int)/\0+(a:Int).toNat<b.length/\(0:Int)<=(a:Int)/\(a:Int)<i64.wrap ((a:Int)+(gtL b (0+(a:Int).toNat)).2.1)/\i64.wrap ((a:Int)+(gtL b (0+(a:Int).toNat)).2.1)<=i64.wrap ((a:Int)+(gtL b (0+(a:Int).toNat)).2.1)/\i64.wrap ((a:Int)+(gtL b (0+(a:Int).toNat)).2.1)<=(l.length:Int)/\i64.wrap ((a:Int)+(gtL b (0+(a:Int).toNat)).2.1)<1099511627776/\ctMk.pre ((gtL b (0+(a:Int).toNat)).1,Px.part l (some (a:Int)) (some (i64.wrap ((a:Int)+(gtL b (0+(a:Int).toNat)).2.1))),())/\0+1<=([(mdK (gtL b (0+(a:Int).toNat)).1 (Px.part l (some (a:Int)) (some (i64.wrap ((a:Int)+(gtL b (0+(a:Int).toNat)).2.1)))))]:List opS.D).length/\o.length=o.length/\(0:Nat)=(0:Nat)/\o.length+(([(mdK (gtL b (0+(a:Int).toNat)).1 (Px.part l (some (a:Int)) (some (i64.wrap ((a:Int)+(gtL b (0+(a:Int).toNat)).2.1)))))]:List opS.D)).length<2 ^ 30/\(56:Nat)<=2 ^ 10/\(0:Int)<=(a:Int)/\(a:Int)<(b.length:Int)/\0+(a:Int).toNat<b.length/\R (hd Tryz.f104 0) { env:=[(0,.sl syS l),(3,.win true liS 1032768 0 b.length),(4,.win true opS 46 0 (o.length+(([(mdK (gtL b (0+(a:Int).toNat)).1 (Px.part l (some (a:Int)) (some (i64.wrap ((a:Int)+(gtL b (0+(a:Int).toNat)).2.1)))))]:List opS.D)).length)),(5,.i (i64.wrap ((a:Int)+(gtL b (0+(a:Int).toNat)).2.1)))],blk:=[(46,.row 74 opS (o++([(mdK (gtL b (0+(a:Int).toNat)).1 (Px.part l (some (a:Int)) (some (i64.wrap ((a:Int)+(gtL b (0+(a:Int).toNat)).2.1)))))]:List opS.D))),(1032768,.row 189 liS b)] }) (Q [.win true opS 14 0 o.length] [(14,.row 74 opS o),(1032768,.row 189 liS b)])):=by kernel_rfl
theorem q76 (l:List SyT) (b:List LiT) (o:List OpT) (a:Nat) (Q:QT) (R:RT):sA CCh Tryz.f104 Q (λ it S=>R it (qbr [0,3,4,5] [14,1032768] S)) (hd Tryz.f104 0) ⟨[(0,.sl syS l),(4,.sl opS o),(5,.i (a:Nat))],[]⟩ =
  (bc (decide ((a:Int)<(l.length:Int))) False (Q [.sl opS o] [])):=by kernel_rfl
attribute [local irreducible] Go.Px.sy Go.Px.syE
def ctCh:Ctr:=⟨[.sl syS],λ x=>q43 x.1,λ x=>[.sl opS (chL x.1)],λ _=>[]⟩
theorem q47 (l:List SyT) (a n:Nat):Px.part l (some (a:Int)) (some ((a+n:Nat):Int))=(l.drop a).take n:=by
 simp only[Px.part,Int.toNat_natCast]
 first
  | (rw[List.drop_take];congr 1;omega)
  | (rw[List.take_drop];done)
  | simp[List.drop_take]
section
variable (l:List SyT) (hl:l.length<=65536)
include hl
theorem q3b (o:List OpT) (a:Nat) (ha:a=l.length):GD 104 Tryz.f104 (OQ o) (hd Tryz.f104 0) ⟨[(0,.sl syS l),(3,.win true liS 1032768 0 (qcg l).length),(4,.win true opS 14 0 o.length),(5,.i (a:Nat))],[(14,.row 74 opS o),(1032768,.row 189 liS (qcg l))]⟩:=by
 have _:=hl;subst ha;refine Good.frz (i:=14) (e:=opS) (et:=74) (xs:=o) rfl (λ c hc=>?_) ?_
 ·have hc:c∈[0+o.length<=o.length]:=hc;rw[List.mem_singleton] at hc;subst hc;omega
 ·have e:GD 104 Tryz.f104 (OQ o) (hd Tryz.f104 0) ⟨[(0,.sl syS l),(4,.sl opS (winL opS 0 o.length o)),(5,.i (l.length:Nat))],[]⟩:=by
   refine qat cxCh (q76 l [] (winL opS 0 o.length o) l.length _ _) ?_;rw[decide_eq_false (by omega),bc_f,winA]
  exact e.only ⟨rfl,rfl,rfl,trivial⟩ trivial
theorem q6v:∀ (f a:Nat) (o:List OpT),l.length-a<=f->a<=l.length->o.length<=a ->
  GD 104 Tryz.f104 (OQ (o++chF f (l.drop a))) (hd Tryz.f104 0) ⟨[(0,.sl syS l),(3,.win true liS 1032768 0 (qcg l).length),(4,.win true opS 14 0 o.length),(5,.i (a:Nat))],[(14,.row 74 opS o),(1032768,.row 189 liS (qcg l))]⟩:=by
 intro f
 induction f with
 | zero=>
  intro a o hf ha ho;rw[chF,List.append_nil];exact q3b l hl o a (by omega)
 | succ f ih=>
  intro a o hf ha ho;by_cases he:a=l.length
  ·rw[chF,if_pos (List.drop_eq_nil_of_le (by omega)),List.append_nil];exact q3b l hl o a he
  ·have dl:(l.drop a).length=l.length-a:=List.length_drop ..;have hne:l.drop a≠[]:=λ h=>by rw[h] at dl;simp at dl;omega
   obtain ⟨hb,n,n1,n2,n3,_⟩:=qpf (l:=l.drop a) (by omega) hne;have hfit:=qdh (bst (l.drop a)).1 (l.drop a);have bl:(qcg l).length=l.length+1:=qml l 0;have nx:=ih (a+n) (o++[mdK (bst (l.drop a)).1 ((l.drop a).take n)]) (by omega) (by omega) (by rw[List.length_append,List.length_singleton];omega);have ec:chF (f+1) (l.drop a)=mdK (bst (l.drop a)).1 ((l.drop a).take n)::chF f (l.drop (a+n)):=by rw[chF,if_neg hne,n1,Int.toNat_natCast,List.drop_drop]
   rw[ec];rw[List.append_assoc,List.singleton_append] at nx;refine qat cxCh (q75 l (qcg l) o a _ _) ?_;have g1:gtL (qcg l) (0+a)=bst (l.drop a):=by rw[Nat.zero_add];exact qx7 l 0 a ha (Nat.zero_le _)
   have w:IntKind.i64.wrap ((a:Int)+(n:Int))=((a+n:Nat):Int):=by rw[IntWalk.i64_in _ (by omega)];omega
   rw[decide_eq_true (show (a:Int)<(l.length:Int) by omega),bc_t,Int.toNat_natCast,g1,n1,w,q47 l a n];have tl:((l.drop a).take n).length=n:=by rw[List.length_take];omega
   refine ⟨by omega,by omega,by omega,by omega,by omega,by omega,by omega,by omega,by omega,by omega,by omega,(show preMk (bst (l.drop a)).1 ((l.drop a).take n) from ⟨hb,by omega,by omega⟩),Nat.le_refl 1,rfl,rfl,?_,by decide,by omega,by omega,by omega,?_⟩
   ·show o.length+1<2 ^ 30
    omega
   ·exact nx.onlyR [(14,46)] rfl ⟨rfl,rfl,by rw[List.length_append];rfl,rfl,trivial⟩ ⟨rfl,rfl,trivial⟩
theorem q9m:GD 104 Tryz.f104 (QC ctCh (l,())) [.code (qae Tryz.f104)] (entry [.sl syS] (l,())):=by
 refine qat cxCh (vc_ch l _ _) ?_;have bl:(qcg l).length=l.length+1:=qml l 0;have g0:gtL (qcg l) (0+0)=bst l:=by
  have:=qx7 l 0 0 (Nat.zero_le _) (Nat.le_refl _);rw[List.drop_zero] at this;exact this
 have hb:=qi5 l hl;unfold boL at hb;rw[g0];refine ⟨hl,by omega,by omega,by omega,by omega,hb.2.2.1,?_,?_,?_⟩
 ·show (bst l).2.2.2<16777216
  omega
 ·show (56:Int)*(bst l).2.2.2<=281474976710656
  omega
 ·have h:=q6v l hl l.length 0 [] (by omega) (Nat.zero_le _) (Nat.zero_le _);rw[List.drop_zero,List.nil_append] at h;exact (h.post λ rs blk hq=>QC.flat (by rw[hq];rfl) rfl (by rw[hq];rfl)).only ⟨rfl,rfl,rfl,rfl,trivial⟩ ⟨rfl,rfl,trivial⟩
end
theorem q6w:Held Tryz.prog G0 104 ctCh:=Held.of cxCh (fn:=Tryz.f104) rfl rfl ⟨by decide,by decide⟩ λ ⟨l,_⟩ hp=>q9m l hp
def poV (l:List SyT) (m:Int):PaT × Int:=if 4096<(chL l).length then ((false,0,0,[]),2) else ((false,m,l.length,chL l),0)
def ctPo:Ctr:=⟨[.sl syS,iI],λ x=>q43 x.1,λ x=>[paV (poV x.1 x.2.1).1,.i (poV x.1 x.2.1).2],λ _=>[]⟩
def cpV (l:List SyT) (m:Int):PaT × Int:=if (ofV l m).2=60 then ((false,0,0,[]),60) else poV l m
def ctCp:Ctr:=⟨[.sl syS,iI],λ x=>List.length x.1<16777216,λ x=>[paV (cpV x.1 x.2.1).1,.i (cpV x.1 x.2.1).2],λ _=>[]⟩
def foV (p:PaT):PaT × Int:=if (symV p).2=0 then (if (poV (symV p).1 p.2.1).2=0 then ((p.1,(poV (symV p).1 p.2.1).1.2),0) else ((false,0,0,[]),(poV (symV p).1 p.2.1).2)) else ((false,0,0,[]),(symV p).2)
def ctFo:Ctr:=⟨[paS],λ _=>True,λ x=>[paV (foV x.1).1,.i (foV x.1).2],λ _=>[]⟩
def CPo:CV:=[(104,.inl ctCh)]
theorem cxPo:CxOK Tryz.prog tt G0 CPo:=cx0.k q6w (fn:=Tryz.f104)
set_option maxRecDepth 100000
theorem vc_po (l:List SyT) (m:Int) (Q:QT) (R:RT):sA CPo Tryz.f71 Q R [.code (qae Tryz.f71)] (entry [.sl syS,iI] (l,m,())) =
  (ctCh.pre (l,())/\bc (decide ((4096:Int)<(↑(chL l).length:Int))) (Q [.agg [.bool false,.i 0,.i 0,.nils],.i 2] [(4,.var [.bool false,.i 0,.i 0,.nils])]) (Q [.agg [.bool false,.i m,.i (l.length:Int),.sl opS (chL l)],.i 0] [(4,.var [.bool false,.i m,.i (l.length:Int),.sl opS (chL l)])])):=by kernel_rfl
theorem vc_cp (l:List SyT) (m:Int) (Q:QT) (R:RT):sA [(89,.inl ctOfA),(71,.inl ctPo)] Tryz.f55 Q R [.code (qae Tryz.f55)] (entry [.sl syS,iI] (l,m,())) =
  (ctOfA.pre (l,m,())/\bc (decide ((ofV l m).2=(60:Int))) (Q [.agg [.bool false,.i 0,.i 0,.nils],.i (ofV l m).2] [(4,.var [.bool false,.i 0,.i 0,.nils]),(6,.var [.bool (ofV l m).1.1,.i (ofV l m).1.2.1,.i (ofV l m).1.2.2.1,.sl opS (ofV l m).1.2.2.2])]) (ctPo.pre (l,m,())/\Q [.agg [.bool (poV l m).1.1,.i (poV l m).1.2.1,.i (poV l m).1.2.2.1,.sl opS (poV l m).1.2.2.2],.i (poV l m).2] [(4,.var [.bool (poV l m).1.1,.i (poV l m).1.2.1,.i (poV l m).1.2.2.1,.sl opS (poV l m).1.2.2.2]),(6,.var [.bool (ofV l m).1.1,.i (ofV l m).1.2.1,.i (ofV l m).1.2.2.1,.sl opS (ofV l m).1.2.2.2])])):=by kernel_rfl
theorem vc_fo (li:Bool) (m o:Int) (l:List OpT) (Q:QT) (R:RT):sA [(63,.inl ctSym),(71,.inl ctPo)] Tryz.f29 Q R [.code (qae Tryz.f29)] (entry [paS] ((li,m,o,l),())) =
  (ctSym.pre ((li,m,o,l),())/\bc (decide ((symV (li,m,o,l)).2≠0)) (Q [.agg [.bool false,.i 0,.i 0,.nils],.i (symV (li,m,o,l)).2] [(1,.var [.bool li,.i m,.i o,.sl opS l]),(2,.var [.bool false,.i 0,.i 0,.nils]),(1036864,.row 83 syS (symV (li,m,o,l)).1)]) (0+(symV (li,m,o,l)).1.length<=(symV (li,m,o,l)).1.length/\0+(symV (li,m,o,l)).1.length<=(symV (li,m,o,l)).1.length/\0+(symV (li,m,o,l)).1.length<=(symV (li,m,o,l)).1.length/\0+(symV (li,m,o,l)).1.length<=(symV (li,m,o,l)).1.length/\0+(symV (li,m,o,l)).1.length<=(symV (li,m,o,l)).1.length/\ctPo.pre (winL syS 0 (symV (li,m,o,l)).1.length (symV (li,m,o,l)).1,m,())/\bc (decide ((poV (winL syS 0 (symV (li,m,o,l)).1.length (symV (li,m,o,l)).1) m).2≠0)) (Q [.agg [.bool false,.i 0,.i 0,.nils],.i (poV (winL syS 0 (symV (li,m,o,l)).1.length (symV (li,m,o,l)).1) m).2] [(1,.var [.bool li,.i m,.i o,.sl opS l]),(2,.var [.bool false,.i 0,.i 0,.nils]),(6,.var [.bool (poV (winL syS 0 (symV (li,m,o,l)).1.length (symV (li,m,o,l)).1) m).1.1,.i (poV (winL syS 0 (symV (li,m,o,l)).1.length (symV (li,m,o,l)).1) m).1.2.1,.i (poV (winL syS 0 (symV (li,m,o,l)).1.length (symV (li,m,o,l)).1) m).1.2.2.1,.sl opS (poV (winL syS 0 (symV (li,m,o,l)).1.length (symV (li,m,o,l)).1) m).1.2.2.2])]) (Q [.agg [.bool li,.i (poV (winL syS 0 (symV (li,m,o,l)).1.length (symV (li,m,o,l)).1) m).1.2.1,.i (poV (winL syS 0 (symV (li,m,o,l)).1.length (symV (li,m,o,l)).1) m).1.2.2.1,.sl opS (poV (winL syS 0 (symV (li,m,o,l)).1.length (symV (li,m,o,l)).1) m).1.2.2.2],.i 0] [(1,.var [.bool li,.i m,.i o,.sl opS l]),(2,.var [.bool li,.i (poV (winL syS 0 (symV (li,m,o,l)).1.length (symV (li,m,o,l)).1) m).1.2.1,.i (poV (winL syS 0 (symV (li,m,o,l)).1.length (symV (li,m,o,l)).1) m).1.2.2.1,.sl opS (poV (winL syS 0 (symV (li,m,o,l)).1.length (symV (li,m,o,l)).1) m).1.2.2.2]),(6,.var [.bool li,.i (poV (winL syS 0 (symV (li,m,o,l)).1.length (symV (li,m,o,l)).1) m).1.2.1,.i (poV (winL syS 0 (symV (li,m,o,l)).1.length (symV (li,m,o,l)).1) m).1.2.2.1,.sl opS (poV (winL syS 0 (symV (li,m,o,l)).1.length (symV (li,m,o,l)).1) m).1.2.2.2])]))):=by kernel_rfl
theorem qh8 (z:Int):MtL (λ _=>none) [paV (false,0,0,[]),.i z] [.agg [.bool false,.i 0,.i 0,.nils],.i z]:=
 ⟨_,_,rfl,⟨_,rfl,_,_,rfl,rfl,_,_,rfl,rfl,_,_,rfl,rfl,_,_,rfl,.inr ⟨rfl,rfl⟩,rfl⟩,_,_,rfl,rfl,rfl⟩
theorem q8r (l:List SyT) (m:Int) (hp:l.length<=65536) (R:List Item->PS->Prop):sA CPo Tryz.f71 (QC ctPo (l,m,())) R [.code (qae Tryz.f71)] (entry [.sl syS,iI] (l,m,())):=by
 refine (vc_po l m _ _).mpr ⟨hp,qag (λ h=>?_) (λ h=>?_)⟩
 ·have h:(4096:Int)<((chL l).length:Int):=of_decide_eq_true h;have hv:poV l m=((false,0,0,[]),2):=by unfold poV;rw[if_pos (by omega)]
  exact QC.mt (by show MtL _ [paV (poV l m).1,.i (poV l m).2] _;rw[hv];exact qh8 _) rfl
 ·have h:¬ (4096:Int)<((chL l).length:Int):=of_decide_eq_false h;have hv:poV l m=(((false,m,(l.length:Int),chL l):PaT),(0:Int)):=by unfold poV;rw[if_neg (by omega)]
  exact QC.flat (by show [paV (poV l m).1,.i (poV l m).2]=_;rw[hv];rfl) rfl rfl
theorem qv3:Held Tryz.prog G0 71 ctPo:=Held.run cxPo (fn:=Tryz.f71) rfl rfl ⟨by decide,by decide⟩ λ ⟨l,m,_⟩ hp=>q8r l m hp _
theorem q8y {l:List SyT} {m:Int} (h:(ofV l m).2≠60):szB m=true/\szB l.length=true/\l.all (sOK m)=true:=by
 unfold ofV at h;split at h
 ·assumption
 ·exact absurd rfl h
theorem q5i {l:List SyT} {m:Int} (h:szB m=true/\szB l.length=true/\l.all (sOK m)=true):(ofV l m).2≠60:=by
 unfold ofV;rw[if_pos h];split
 ·exact (show (2:Int)≠60 by decide)
 ·exact (show (0:Int)≠60 by decide)
theorem q2j {n:Int} (h:szB n=true):0<=n/\n<=65536:=by simpa [szB] using h
theorem cxCp:CxOK Tryz.prog tt G0 [(89,.inl ctOfA),(71,.inl ctPo)]:=(cx0.k qv3 (fn:=Tryz.f71)).k qz1 (fn:=Tryz.f89)
theorem q9g (l:List SyT) (m:Int) (hp:l.length<16777216) (R:List Item->PS->Prop):sA [(89,.inl ctOfA),(71,.inl ctPo)] Tryz.f55 (QC ctCp (l,m,())) R [.code (qae Tryz.f55)] (entry [.sl syS,iI] (l,m,())):=by
 refine (vc_cp l m _ _).mpr ⟨hp,qag (λ h=>?_) (λ h=>?_)⟩
 ·have h:(ofV l m).2=60:=of_decide_eq_true h;have hv:cpV l m=((false,0,0,[]),60):=by unfold cpV;rw[if_pos h]
  rw[h];exact QC.mt (by show MtL _ [paV (cpV l m).1,.i (cpV l m).2] _;rw[hv];exact qh8 _) rfl
 ·have h:¬ (ofV l m).2=60:=of_decide_eq_false h;have hz:=q2j (q8y h).2.1;have hv:cpV l m=poV l m:=by unfold cpV;rw[if_neg h]
  exact ⟨(show l.length<=65536 by omega),QC.flat (by show [paV (cpV l m).1,.i (cpV l m).2]=_;rw[hv];rfl) rfl rfl⟩
theorem qxw:Held Tryz.prog G0 55 ctCp:=Held.run cxCp (fn:=Tryz.f55) rfl rfl ⟨by decide,by decide⟩ λ ⟨l,m,_⟩ hp=>q9g l m hp _
theorem q4f (p:PaT):(symV p).1.length<=65536:=by
 unfold symV;split
 next h=>
  obtain ⟨h1,h2,h3,_⟩:=qew h;have:=qfv h1
  show (symF p.2.2.2).length<=65536
  omega
 ·exact Nat.zero_le _
theorem cxFo:CxOK Tryz.prog tt G0 [(63,.inl ctSym),(71,.inl ctPo)]:=(cx0.k qv3 (fn:=Tryz.f71)).k sym_held (fn:=Tryz.f63)
theorem q84 (li:Bool) (m o:Int) (l:List OpT) (R:List Item->PS->Prop):sA [(63,.inl ctSym),(71,.inl ctPo)] Tryz.f29 (QC ctFo ((li,m,o,l),())) R [.code (qae Tryz.f29)] (entry [paS] ((li,m,o,l),())):=by
 refine (vc_fo li m o l _ _).mpr ⟨trivial,qag (λ h=>?_) (λ h=>?_)⟩
 ·have h:(symV (li,m,o,l)).2≠0:=of_decide_eq_true h;have hv:foV (li,m,o,l)=((false,0,0,[]),(symV (li,m,o,l)).2):=by unfold foV;rw[if_neg h]
  exact QC.mt (by show MtL _ [paV (foV (li,m,o,l)).1,.i (foV (li,m,o,l)).2] _;rw[hv];exact qh8 _) rfl
 ·have h:¬ (symV (li,m,o,l)).2≠0:=of_decide_eq_false h;have h:(symV (li,m,o,l)).2=0:=by omega
  rw[winA];refine ⟨by omega,by omega,by omega,by omega,by omega,q4f _,qag (λ h2=>?_) (λ h2=>?_)⟩
  ·have h2:(poV (symV (li,m,o,l)).1 m).2≠0:=of_decide_eq_true h2;have hv:foV (li,m,o,l)=((false,0,0,[]),(poV (symV (li,m,o,l)).1 m).2):=by unfold foV;rw[if_pos h,if_neg h2]
   exact QC.mt (by show MtL _ [paV (foV (li,m,o,l)).1,.i (foV (li,m,o,l)).2] _;rw[hv];exact qh8 _) rfl
  ·have h2:¬ (poV (symV (li,m,o,l)).1 m).2≠0:=of_decide_eq_false h2;have h2:(poV (symV (li,m,o,l)).1 m).2=0:=by omega
   have hv:foV (li,m,o,l)=((li,(poV (symV (li,m,o,l)).1 m).1.2),0):=by unfold foV;rw[if_pos h,if_pos h2]
   exact QC.flat (by show [paV (foV (li,m,o,l)).1,.i (foV (li,m,o,l)).2]=_;rw[hv];rfl) rfl rfl
theorem q6f:Held Tryz.prog G0 29 ctFo:=Held.run cxFo (fn:=Tryz.f29) rfl rfl ⟨by decide,by decide⟩ λ ⟨⟨li,m,o,l⟩,_⟩ _=>q84 li m o l _
end Go.Proofs.YtdeacfammdjajaaGreatDoor
namespace Go.Proofs.YtdeacfammdjajaaGreatDoor.Im
open Go.Px Go.Ax
open Go.IntKind(i64 u32 u8)
set_option maxRecDepth 100000
abbrev seS:Sh:=.pair .str (.pair (.int .i64) (.pair (.int .i64) .bool))
abbrev rwS:Sh:=.pair (.int .u8) (.pair (.int .u8) (.pair (.int .u8) .bool))
set_option maxRecDepth 100000
theorem q3t (l:List (rwS.D)) (n:Int) (Q:QT) (R:RT):sA [] Tryz.f25 Q R [.code (qae Tryz.f25)] (entry [.sl rwS,iI] (l,n,())) =
  (R (hd Tryz.f25 0) { env:=[(0,.sl ((Sh.int u8).pair ((Sh.int u8).pair ((Sh.int u8).pair Sh.bool))) l),(1,.i n),(4,.nils),(5,.win true Sh.str (10:Nat) (0:Nat) (8:Nat)),(6,.win true (Sh.str.pair ((Sh.int i64).pair ((Sh.int i64).pair Sh.bool))) (11:Nat) (0:Nat) (0:Nat)),(7,.i 0),(8,.i 0),(10,.win true Sh.str (10:Nat) (0:Nat) (8:Nat)),(11,.win true (Sh.str.pair ((Sh.int i64).pair ((Sh.int i64).pair Sh.bool))) (11:Nat) (0:Nat) (0:Nat))],blk:=[(10,.row 9 Sh.str (((((((((List.replicate (8:Nat) Sh.str.dflt).set (0:Nat) (ByteArray.mk #[(98:UInt8),(111:UInt8),(111:UInt8),(116:UInt8)]).data.toList).set (1:Nat) (ByteArray.mk #[(97:UInt8),(112:UInt8),(112:UInt8)]).data.toList).set (2:Nat) (ByteArray.mk #[(68:UInt8),(97:UInt8),(116:UInt8),(97:UInt8)]).data.toList).set (3:Nat) (ByteArray.mk #[(120:UInt8),(49:UInt8)]).data.toList).set (4:Nat) (ByteArray.mk #[(116:UInt8),(97:UInt8),(105:UInt8),(108:UInt8)]).data.toList).set (5:Nat) (ByteArray.mk #[(99:UInt8),(102:UInt8),(103:UInt8)]).data.toList).set (6:Nat) (ByteArray.mk #[(65:UInt8)]).data.toList).set (7:Nat) (ByteArray.mk #[(116:UInt8),(119:UInt8),(101:UInt8),(108:UInt8),(118:UInt8),(101:UInt8),(108:UInt8),(101:UInt8),(116:UInt8),(116:UInt8),(101:UInt8),(114:UInt8)]).data.toList)),(11,.row 62 (Sh.str.pair ((Sh.int i64).pair ((Sh.int i64).pair Sh.bool))) (List.replicate (0:Nat) (Sh.str.pair ((Sh.int i64).pair ((Sh.int i64).pair Sh.bool))).dflt))] }):=by kernel_rfl
theorem qq0 (l:List (rwS.D)) (n at_ i:Int) (nm:List (List UInt8)) (o:List seS.D) (Q:QT) (R:RT):sA [] Tryz.f25 Q (λ it S=>R it (qbr [0,1,5,6,7,8] [10,11,90] S)) (hd Tryz.f25 0) ⟨[(0,.sl rwS l),(1,.i n),(5,.win true .str 10 0 nm.length),(6,.win true seS 11 0 o.length),(7,.i at_),(8,.i i)],[(10,.row 9 .str nm),(11,.row 62 seS o)]⟩ =
  (bc (decide (i<(l.length:Int))) (bc (bif true then decide (i<8) else false) ((0:Int)<=i/\i<(nm.length:Int)/\(0:Nat)+i.toNat<nm.length/\(0:Int)<=i/\i<(l.length:Int)/\(8:Int)≠0/\(0:Int)<=i/\i<(l.length:Int)/\bc (gt ((Sh.int u8).pair ((Sh.int u8).pair ((Sh.int u8).pair Sh.bool))) l i.toNat).2.2.2 ((4:Int)≠0/\(0:Int)<=i/\i<(l.length:Int)/\(8:Int)≠0/\bc (decide (n<i64.wrap (i64.wrap (i64.wrap (i64.wrap ((i64.wrap (i64.wrap (at_+i64.wrap (Int.tmod (gt ((Sh.int u8).pair ((Sh.int u8).pair ((Sh.int u8).pair Sh.bool))) l i.toNat).1 (8:Int)))+3)).tdiv (4:Int))*(4:Int))+4)+i64.wrap ((4:Int)*i64.wrap (Int.tmod (gt ((Sh.int u8).pair ((Sh.int u8).pair ((Sh.int u8).pair Sh.bool))) l i.toNat).2.1 (8:Int)))))) (Q [.win true (Sh.str.pair ((Sh.int i64).pair ((Sh.int i64).pair Sh.bool))) (11:Nat) (0:Nat) o.length] [(9,.var [.str (gt Sh.str nm ((0:Nat)+i.toNat)),.i (i64.wrap (i64.wrap ((i64.wrap (i64.wrap (at_+i64.wrap (Int.tmod (gt ((Sh.int u8).pair ((Sh.int u8).pair ((Sh.int u8).pair Sh.bool))) l i.toNat).1 (8:Int)))+3)).tdiv (4:Int))*(4:Int))),.i (i64.wrap (i64.wrap (i64.wrap (i64.wrap ((i64.wrap (i64.wrap (at_+i64.wrap (Int.tmod (gt ((Sh.int u8).pair ((Sh.int u8).pair ((Sh.int u8).pair Sh.bool))) l i.toNat).1 (8:Int)))+3)).tdiv (4:Int))*(4:Int))+4)+i64.wrap ((4:Int)*i64.wrap (Int.tmod (gt ((Sh.int u8).pair ((Sh.int u8).pair ((Sh.int u8).pair Sh.bool))) l i.toNat).2.1 (8:Int))))),.bool (gt ((Sh.int u8).pair ((Sh.int u8).pair ((Sh.int u8).pair Sh.bool))) l i.toNat).2.2.2]),(10,.row 9 Sh.str nm),(11,.row 62 (Sh.str.pair ((Sh.int i64).pair ((Sh.int i64).pair Sh.bool))) o)]) ((0:Nat)+1<=((List.replicate (1:Nat) (Sh.str.pair ((Sh.int i64).pair ((Sh.int i64).pair Sh.bool))).dflt).set (0:Nat) (gt Sh.str nm ((0:Nat)+i.toNat),i64.wrap (i64.wrap ((i64.wrap (i64.wrap (at_+i64.wrap (Int.tmod (gt ((Sh.int u8).pair ((Sh.int u8).pair ((Sh.int u8).pair Sh.bool))) l i.toNat).1 (8:Int)))+3)).tdiv (4:Int))*(4:Int)),i64.wrap (i64.wrap (i64.wrap (i64.wrap ((i64.wrap (i64.wrap (at_+i64.wrap (Int.tmod (gt ((Sh.int u8).pair ((Sh.int u8).pair ((Sh.int u8).pair Sh.bool))) l i.toNat).1 (8:Int)))+3)).tdiv (4:Int))*(4:Int))+4)+i64.wrap ((4:Int)*i64.wrap (Int.tmod (gt ((Sh.int u8).pair ((Sh.int u8).pair ((Sh.int u8).pair Sh.bool))) l i.toNat).2.1 (8:Int)))),(gt ((Sh.int u8).pair ((Sh.int u8).pair ((Sh.int u8).pair Sh.bool))) l i.toNat).2.2.2)).length/\o.length=o.length/\(0:Nat)=(0:Nat)/\o.length+(winL seS 0 1 ((List.replicate (1:Nat) (Sh.str.pair ((Sh.int i64).pair ((Sh.int i64).pair Sh.bool))).dflt).set (0:Nat) (gt Sh.str nm ((0:Nat)+i.toNat),i64.wrap (i64.wrap ((i64.wrap (i64.wrap (at_+i64.wrap (Int.tmod (gt ((Sh.int u8).pair ((Sh.int u8).pair ((Sh.int u8).pair Sh.bool))) l i.toNat).1 (8:Int)))+3)).tdiv (4:Int))*(4:Int)),i64.wrap (i64.wrap (i64.wrap (i64.wrap ((i64.wrap (i64.wrap (at_+i64.wrap (Int.tmod (gt ((Sh.int u8).pair ((Sh.int u8).pair ((Sh.int u8).pair Sh.bool))) l i.toNat).1 (8:Int)))+3)).tdiv (4:Int))*(4:Int))+4)+i64.wrap ((4:Int)*i64.wrap (Int.tmod (gt ((Sh.int u8).pair ((Sh.int u8).pair ((Sh.int u8).pair Sh.bool))) l i.toNat).2.1 (8:Int)))),(gt ((Sh.int u8).pair ((Sh.int u8).pair ((Sh.int u8).pair Sh.bool))) l i.toNat).2.2.2))).length<2 ^ 30/\(40:Nat)<=2 ^ 10/\R (hd Tryz.f25 0) { env:=[(0,.sl ((Sh.int u8).pair ((Sh.int u8).pair ((Sh.int u8).pair Sh.bool))) l),(1,.i n),(5,.win true Sh.str (10:Nat) (0:Nat) nm.length),(6,.win true (Sh.str.pair ((Sh.int i64).pair ((Sh.int i64).pair Sh.bool))) (90:Nat) (0:Nat) (o.length+(winL seS 0 1 ((List.replicate (1:Nat) (Sh.str.pair ((Sh.int i64).pair ((Sh.int i64).pair Sh.bool))).dflt).set (0:Nat) (gt Sh.str nm ((0:Nat)+i.toNat),i64.wrap (i64.wrap ((i64.wrap (i64.wrap (at_+i64.wrap (Int.tmod (gt ((Sh.int u8).pair ((Sh.int u8).pair ((Sh.int u8).pair Sh.bool))) l i.toNat).1 (8:Int)))+3)).tdiv (4:Int))*(4:Int)),i64.wrap (i64.wrap (i64.wrap (i64.wrap ((i64.wrap (i64.wrap (at_+i64.wrap (Int.tmod (gt ((Sh.int u8).pair ((Sh.int u8).pair ((Sh.int u8).pair Sh.bool))) l i.toNat).1 (8:Int)))+3)).tdiv (4:Int))*(4:Int))+4)+i64.wrap ((4:Int)*i64.wrap (Int.tmod (gt ((Sh.int u8).pair ((Sh.int u8).pair ((Sh.int u8).pair Sh.bool))) l i.toNat).2.1 (8:Int)))),(gt ((Sh.int u8).pair ((Sh.int u8).pair ((Sh.int u8).pair Sh.bool))) l i.toNat).2.2.2))).length)),(7,.i (i64.wrap (i64.wrap (i64.wrap (i64.wrap ((i64.wrap (i64.wrap (at_+i64.wrap (Int.tmod (gt ((Sh.int u8).pair ((Sh.int u8).pair ((Sh.int u8).pair Sh.bool))) l i.toNat).1 (8:Int)))+3)).tdiv (4:Int))*(4:Int))+4)+i64.wrap ((4:Int)*i64.wrap (Int.tmod (gt ((Sh.int u8).pair ((Sh.int u8).pair ((Sh.int u8).pair Sh.bool))) l i.toNat).2.1 (8:Int)))))),(8,.i (i64.wrap (i+1)))],blk:=[(10,.row 9 Sh.str nm),(90,.row 62 (Sh.str.pair ((Sh.int i64).pair ((Sh.int i64).pair Sh.bool))) (o++winL (Sh.str.pair ((Sh.int i64).pair ((Sh.int i64).pair Sh.bool))) (0:Nat) (1:Nat) ((List.replicate (1:Nat) (Sh.str.pair ((Sh.int i64).pair ((Sh.int i64).pair Sh.bool))).dflt).set (0:Nat) (gt Sh.str nm ((0:Nat)+i.toNat),i64.wrap (i64.wrap ((i64.wrap (i64.wrap (at_+i64.wrap (Int.tmod (gt ((Sh.int u8).pair ((Sh.int u8).pair ((Sh.int u8).pair Sh.bool))) l i.toNat).1 (8:Int)))+3)).tdiv (4:Int))*(4:Int)),i64.wrap (i64.wrap (i64.wrap (i64.wrap ((i64.wrap (i64.wrap (at_+i64.wrap (Int.tmod (gt ((Sh.int u8).pair ((Sh.int u8).pair ((Sh.int u8).pair Sh.bool))) l i.toNat).1 (8:Int)))+3)).tdiv (4:Int))*(4:Int))+4)+i64.wrap ((4:Int)*i64.wrap (Int.tmod (gt ((Sh.int u8).pair ((Sh.int u8).pair ((Sh.int u8).pair Sh.bool))) l i.toNat).2.1 (8:Int)))),(gt ((Sh.int u8).pair ((Sh.int u8).pair ((Sh.int u8).pair Sh.bool))) l i.toNat).2.2.2))))] })) ((0:Int)<=i/\i<(l.length:Int)/\(8:Int)≠0/\(0:Int)<=i/\i<(l.length:Int)/\(4:Int)≠0/\bc (decide (n<i64.wrap (i64.wrap (i64.wrap (i64.wrap (at_+i64.wrap (Int.tmod (gt ((Sh.int u8).pair ((Sh.int u8).pair ((Sh.int u8).pair Sh.bool))) l i.toNat).1 (8:Int)))+1)+i64.wrap ((4:Int)*i64.wrap (Int.tmod (gt ((Sh.int u8).pair ((Sh.int u8).pair ((Sh.int u8).pair Sh.bool))) l i.toNat).2.1 (8:Int))))+i64.wrap (Int.tmod (gt ((Sh.int u8).pair ((Sh.int u8).pair ((Sh.int u8).pair Sh.bool))) l i.toNat).2.2.1 (4:Int))))) (Q [.win true (Sh.str.pair ((Sh.int i64).pair ((Sh.int i64).pair Sh.bool))) (11:Nat) (0:Nat) o.length] [(9,.var [.str (gt Sh.str nm ((0:Nat)+i.toNat)),.i (i64.wrap (at_+i64.wrap (Int.tmod (gt ((Sh.int u8).pair ((Sh.int u8).pair ((Sh.int u8).pair Sh.bool))) l i.toNat).1 (8:Int)))),.i (i64.wrap (i64.wrap (i64.wrap (i64.wrap (at_+i64.wrap (Int.tmod (gt ((Sh.int u8).pair ((Sh.int u8).pair ((Sh.int u8).pair Sh.bool))) l i.toNat).1 (8:Int)))+1)+i64.wrap ((4:Int)*i64.wrap (Int.tmod (gt ((Sh.int u8).pair ((Sh.int u8).pair ((Sh.int u8).pair Sh.bool))) l i.toNat).2.1 (8:Int))))+i64.wrap (Int.tmod (gt ((Sh.int u8).pair ((Sh.int u8).pair ((Sh.int u8).pair Sh.bool))) l i.toNat).2.2.1 (4:Int)))),.bool (gt ((Sh.int u8).pair ((Sh.int u8).pair ((Sh.int u8).pair Sh.bool))) l i.toNat).2.2.2]),(10,.row 9 Sh.str nm),(11,.row 62 (Sh.str.pair ((Sh.int i64).pair ((Sh.int i64).pair Sh.bool))) o)]) ((0:Nat)+1<=((List.replicate (1:Nat) (Sh.str.pair ((Sh.int i64).pair ((Sh.int i64).pair Sh.bool))).dflt).set (0:Nat) (gt Sh.str nm ((0:Nat)+i.toNat),i64.wrap (at_+i64.wrap (Int.tmod (gt ((Sh.int u8).pair ((Sh.int u8).pair ((Sh.int u8).pair Sh.bool))) l i.toNat).1 (8:Int))),i64.wrap (i64.wrap (i64.wrap (i64.wrap (at_+i64.wrap (Int.tmod (gt ((Sh.int u8).pair ((Sh.int u8).pair ((Sh.int u8).pair Sh.bool))) l i.toNat).1 (8:Int)))+1)+i64.wrap ((4:Int)*i64.wrap (Int.tmod (gt ((Sh.int u8).pair ((Sh.int u8).pair ((Sh.int u8).pair Sh.bool))) l i.toNat).2.1 (8:Int))))+i64.wrap (Int.tmod (gt ((Sh.int u8).pair ((Sh.int u8).pair ((Sh.int u8).pair Sh.bool))) l i.toNat).2.2.1 (4:Int))),(gt ((Sh.int u8).pair ((Sh.int u8).pair ((Sh.int u8).pair Sh.bool))) l i.toNat).2.2.2)).length/\o.length=o.length/\(0:Nat)=(0:Nat)/\o.length+(winL seS 0 1 ((List.replicate (1:Nat) (Sh.str.pair ((Sh.int i64).pair ((Sh.int i64).pair Sh.bool))).dflt).set (0:Nat) (gt Sh.str nm ((0:Nat)+i.toNat),i64.wrap (at_+i64.wrap (Int.tmod (gt ((Sh.int u8).pair ((Sh.int u8).pair ((Sh.int u8).pair Sh.bool))) l i.toNat).1 (8:Int))),i64.wrap (i64.wrap (i64.wrap (i64.wrap (at_+i64.wrap (Int.tmod (gt ((Sh.int u8).pair ((Sh.int u8).pair ((Sh.int u8).pair Sh.bool))) l i.toNat).1 (8:Int)))+1)+i64.wrap ((4:Int)*i64.wrap (Int.tmod (gt ((Sh.int u8).pair ((Sh.int u8).pair ((Sh.int u8).pair Sh.bool))) l i.toNat).2.1 (8:Int))))+i64.wrap (Int.tmod (gt ((Sh.int u8).pair ((Sh.int u8).pair ((Sh.int u8).pair Sh.bool))) l i.toNat).2.2.1 (4:Int))),(gt ((Sh.int u8).pair ((Sh.int u8).pair ((Sh.int u8).pair Sh.bool))) l i.toNat).2.2.2))).length<2 ^ 30/\(40:Nat)<=2 ^ 10/\R (hd Tryz.f25 0) { env:=[(0,.sl ((Sh.int u8).pair ((Sh.int u8).pair ((Sh.int u8).pair Sh.bool))) l),(1,.i n),(5,.win true Sh.str (10:Nat) (0:Nat) nm.length),(6,.win true (Sh.str.pair ((Sh.int i64).pair ((Sh.int i64).pair Sh.bool))) (90:Nat) (0:Nat) (o.length+(winL seS 0 1 ((List.replicate (1:Nat) (Sh.str.pair ((Sh.int i64).pair ((Sh.int i64).pair Sh.bool))).dflt).set (0:Nat) (gt Sh.str nm ((0:Nat)+i.toNat),i64.wrap (at_+i64.wrap (Int.tmod (gt ((Sh.int u8).pair ((Sh.int u8).pair ((Sh.int u8).pair Sh.bool))) l i.toNat).1 (8:Int))),i64.wrap (i64.wrap (i64.wrap (i64.wrap (at_+i64.wrap (Int.tmod (gt ((Sh.int u8).pair ((Sh.int u8).pair ((Sh.int u8).pair Sh.bool))) l i.toNat).1 (8:Int)))+1)+i64.wrap ((4:Int)*i64.wrap (Int.tmod (gt ((Sh.int u8).pair ((Sh.int u8).pair ((Sh.int u8).pair Sh.bool))) l i.toNat).2.1 (8:Int))))+i64.wrap (Int.tmod (gt ((Sh.int u8).pair ((Sh.int u8).pair ((Sh.int u8).pair Sh.bool))) l i.toNat).2.2.1 (4:Int))),(gt ((Sh.int u8).pair ((Sh.int u8).pair ((Sh.int u8).pair Sh.bool))) l i.toNat).2.2.2))).length)),(7,.i (i64.wrap (i64.wrap (i64.wrap (i64.wrap (at_+i64.wrap (Int.tmod (gt ((Sh.int u8).pair ((Sh.int u8).pair ((Sh.int u8).pair Sh.bool))) l i.toNat).1 (8:Int)))+1)+i64.wrap ((4:Int)*i64.wrap (Int.tmod (gt ((Sh.int u8).pair ((Sh.int u8).pair ((Sh.int u8).pair Sh.bool))) l i.toNat).2.1 (8:Int))))+i64.wrap (Int.tmod (gt ((Sh.int u8).pair ((Sh.int u8).pair ((Sh.int u8).pair Sh.bool))) l i.toNat).2.2.1 (4:Int))))),(8,.i (i64.wrap (i+1)))],blk:=[(10,.row 9 Sh.str nm),(90,.row 62 (Sh.str.pair ((Sh.int i64).pair ((Sh.int i64).pair Sh.bool))) (o++winL (Sh.str.pair ((Sh.int i64).pair ((Sh.int i64).pair Sh.bool))) (0:Nat) (1:Nat) ((List.replicate (1:Nat) (Sh.str.pair ((Sh.int i64).pair ((Sh.int i64).pair Sh.bool))).dflt).set (0:Nat) (gt Sh.str nm ((0:Nat)+i.toNat),i64.wrap (at_+i64.wrap (Int.tmod (gt ((Sh.int u8).pair ((Sh.int u8).pair ((Sh.int u8).pair Sh.bool))) l i.toNat).1 (8:Int))),i64.wrap (i64.wrap (i64.wrap (i64.wrap (at_+i64.wrap (Int.tmod (gt ((Sh.int u8).pair ((Sh.int u8).pair ((Sh.int u8).pair Sh.bool))) l i.toNat).1 (8:Int)))+1)+i64.wrap ((4:Int)*i64.wrap (Int.tmod (gt ((Sh.int u8).pair ((Sh.int u8).pair ((Sh.int u8).pair Sh.bool))) l i.toNat).2.1 (8:Int))))+i64.wrap (Int.tmod (gt ((Sh.int u8).pair ((Sh.int u8).pair ((Sh.int u8).pair Sh.bool))) l i.toNat).2.2.1 (4:Int))),(gt ((Sh.int u8).pair ((Sh.int u8).pair ((Sh.int u8).pair Sh.bool))) l i.toNat).2.2.2))))] }))) (Q [.win true (Sh.str.pair ((Sh.int i64).pair ((Sh.int i64).pair Sh.bool))) (11:Nat) (0:Nat) o.length] [(10,.row 9 Sh.str nm),(11,.row 62 (Sh.str.pair ((Sh.int i64).pair ((Sh.int i64).pair Sh.bool))) o)])) (false=false/\Q [.win true (Sh.str.pair ((Sh.int i64).pair ((Sh.int i64).pair Sh.bool))) (11:Nat) (0:Nat) o.length] [(10,.row 9 Sh.str nm),(11,.row 62 (Sh.str.pair ((Sh.int i64).pair ((Sh.int i64).pair Sh.bool))) o)])):=by kernel_rfl
attribute [local irreducible] Go.Px.sy Go.Px.syE
abbrev Sec:Type:=List UInt8 × Int × Int × Bool
abbrev Raw:Type:=Int × Int × Int × Bool
def rawOK (r:Raw):Prop:=(0<=r.1/\r.1<256)/\(0<=r.2.1/\r.2.1<256)/\(0<=r.2.2.1/\r.2.2.1<256)
def qjf (nm:List UInt8) (at_:Int) (r:Raw):Sec:=match r.2.2.2 with
 | true=>(nm,(at_+r.1 % 8+3) / 4*4,(at_+r.1 % 8+3) / 4*4+4+4*(r.2.1 % 8),true)
 | false=>(nm,at_+r.1 % 8,at_+r.1 % 8+1+4*(r.2.1 % 8)+r.2.2.1 % 4,false)
def mkF (n:Int):List (List UInt8)->Int->List Raw->List Sec
 | nm::nms,at_,r::rs=>if n<(qjf nm at_ r).2.2.1 then [] else qjf nm at_ r::mkF n nms (qjf nm at_ r).2.2.1 rs
 | _,_,_=>[]
def nmL:List (List UInt8):=[[98,111,111,116],[97,112,112],[68,97,116,97],[120,49],[116,97,105,108],[99,102,103],[65],[116,119,101,108,118,101,108,101,116,116,101,114]]
def preMk (l:List Raw) (n:Int):Prop:=(∀ r∈l,rawOK r)/\0<=n/\n<100000
def mk (l:List Raw) (n:Int):List Sec:=mkF n nmL 0 l
def ctMk:Ctr:=⟨[.sl rwS,iI],λ x=>preMk x.1 x.2.1,λ x=>[.win true seS 0 0 (List.length (mk x.1 x.2.1))],λ x=>[.row 62 seS (mk x.1 x.2.1)]⟩
theorem qp5 {l:List Raw} {n:Int} (hp:preMk l n) {nm:List (List UInt8)} (hnm:nm.length=8) {x:List Sec} (hx:x=mk l n):∀ (k i:Nat) (at_:Int) (o:List Sec),8-i<=k->i<=8->0<=at_->at_<=n->o.length=i->o++mkF n (nm.drop i) at_ (l.drop i)=x ->
  GD 25 Tryz.f25 (QC ctMk (l,n,())) (hd Tryz.f25 0) ⟨[(0,.sl rwS l),(1,.i n),(5,.win true .str 10 0 nm.length),(6,.win true seS 11 0 o.length),(7,.i at_),(8,.i (i:Nat))],[(10,.row 9 .str nm),(11,.row 62 seS o)]⟩:=by
 obtain ⟨hr,hn1,hn2⟩:=hp;have fin:∀ (o:List Sec) (blk:List (Nat × LB)),o=x->lk blk 11=some (.row 62 seS o)->QC ctMk (l,n,()) [.win true seS 11 0 o.length] blk:=by
  intro o blk ho hb;rw[hx] at ho;subst ho;exact qvy rfl rfl rfl rfl hb
 intro k
 induction k with
 | zero=>
  intro i at_ o hk hi h1 h2 ho hx;refine qat cx0 (qq0 l n at_ i nm o _ _) ?_;have hf:∀ h:i<l.length,False->False:=λ _ h=>h
  rw[List.drop_eq_nil_of_le (show nm.length<=i by omega)] at hx;simp only[mkF,List.append_nil] at hx;refine qag (λ h=>?_) (λ h=>⟨rfl,fin o _ hx rfl⟩);rw[decide_eq_false (show ¬ ((i:Int)<8) by omega),cond_true,bc_f];exact fin o _ hx rfl
 | succ k ih=>
  intro i at_ o hk hi h1 h2 ho hx;by_cases h8:i<8
  ·refine qat cx0 (qq0 l n at_ i nm o _ _) ?_;by_cases hl:i<l.length
   ·have e1:gt rwS l (i:Int).toNat=l[i]:=gtE hl;have e2:gt .str nm (0+(i:Int).toNat)=nm[i]:=by rw[Nat.zero_add];exact gtE (by omega)
    have hro:=hr l[i] (List.getElem_mem hl);have k2:=λ a o=>ih (i+1) a o (by omega) (by omega)
    rw[qk7 (show i<nm.length by omega),qk7 hl] at hx;rw[decide_eq_true (show (i:Int)<(l.length:Int) by omega),bc_t,decide_eq_true (show (i:Int)<8 by omega),cond_true,bc_t,e1,e2];generalize l[i]=r at hx hro;generalize nm[i]=nmi at hx;obtain ⟨g,w,od,c⟩:=r;obtain ⟨⟨g1,g2⟩,⟨w1,w2⟩,⟨d1,d2⟩⟩:=hro;have g1:0<=g:=g1;have g2:g<256:=g2;have w1:0<=w:=w1;have w2:w<256:=w2;have d1:0<=od:=d1;have d2:od<256:=d2;have tg:g.tmod 8=g % 8:=Int.tmod_eq_emod_of_nonneg g1;have tw:w.tmod 8=w % 8:=Int.tmod_eq_emod_of_nonneg w1;have td:od.tmod 4=od % 4:=Int.tmod_eq_emod_of_nonneg d1;have q1:i64.wrap (g % 8)=g % 8:=IntWalk.i64_in _ (by omega);have q2:i64.wrap (at_+g % 8)=at_+g % 8:=IntWalk.i64_in _ (by omega);have q3:i64.wrap (w % 8)=w % 8:=IntWalk.i64_in _ (by omega);have q4:i64.wrap (4*(w % 8))=4*(w % 8):=IntWalk.i64_in _ (by omega);have q5:i64.wrap (od % 4)=od % 4:=IntWalk.i64_in _ (by omega);have q0:i64.wrap ((i:Int)+1)=((i+1:Nat):Int):=by rw[IntWalk.i64_in _ (by omega)];rfl
    cases c with
    | true=>
     have q6:i64.wrap (at_+g % 8+3)=at_+g % 8+3:=IntWalk.i64_in _ (by omega);have q7:(at_+g % 8+3).tdiv 4=(at_+g % 8+3) / 4:=Int.tdiv_eq_ediv_of_nonneg (by omega);have q7b:i64.wrap ((at_+g % 8+3) / 4)=(at_+g % 8+3) / 4:=IntWalk.i64_in _ (by omega);have q8:i64.wrap ((at_+g % 8+3) / 4*4)=(at_+g % 8+3) / 4*4:=IntWalk.i64_in _ (by omega);have q9:i64.wrap ((at_+g % 8+3) / 4*4+4)=(at_+g % 8+3) / 4*4+4:=IntWalk.i64_in _ (by omega);have q10:i64.wrap ((at_+g % 8+3) / 4*4+4+4*(w % 8))=(at_+g % 8+3) / 4*4+4+4*(w % 8):=IntWalk.i64_in _ (by omega);have hsec:qjf nmi at_ (g,w,od,true)=(nmi,(at_+g % 8+3) / 4*4,(at_+g % 8+3) / 4*4+4+4*(w % 8),true):=rfl;simp only[tg,tw,td,q1,q2,q3,q4,q5,q6,q7,q7b,q8,q9,q10,q0,bc_t];rw[mkF,hsec] at hx;simp only at hx;refine ⟨by omega,by omega,by omega,by omega,by omega,by decide,by omega,by omega,by decide,by omega,by omega,by decide,qag (λ h=>?_) (λ h=>?_)⟩
     ·have h:=of_decide_eq_true h;rw[if_pos h,List.append_nil] at hx;exact fin o _ hx rfl
     ·have h:=of_decide_eq_false h;rw[if_neg h] at hx;refine ⟨by simp,trivial,trivial,?_,by decide,?_⟩
      ·show o.length+1<2 ^ 30
       omega
      ·refine Good.onlyR (k2 _ (o++[(nmi,(at_+g % 8+3) / 4*4,(at_+g % 8+3) / 4*4+4+4*(w % 8),true)]) (by omega) (by omega) (by simp[ho]) (by rw[List.append_assoc];exact hx)) [(11,90)] rfl ⟨rfl,rfl,rfl,?_,rfl,rfl,trivial⟩ ⟨rfl,rfl,trivial⟩
       show some (SV.win true seS 90 0 (o.length+1))=some (SV.win true seS 90 0 (o++[_]).length)
       rw[List.length_append,List.length_singleton]
    | false=>
     have q6:i64.wrap (at_+g % 8+1)=at_+g % 8+1:=IntWalk.i64_in _ (by omega);have q7:i64.wrap (at_+g % 8+1+4*(w % 8))=at_+g % 8+1+4*(w % 8):=IntWalk.i64_in _ (by omega);have q8:i64.wrap (at_+g % 8+1+4*(w % 8)+od % 4)=at_+g % 8+1+4*(w % 8)+od % 4:=IntWalk.i64_in _ (by omega);have hsec:qjf nmi at_ (g,w,od,false)=(nmi,at_+g % 8,at_+g % 8+1+4*(w % 8)+od % 4,false):=rfl;simp only[tg,tw,td,q1,q2,q3,q4,q5,q6,q7,q8,q0,bc_f];rw[mkF,hsec] at hx;simp only at hx;refine ⟨by omega,by omega,by omega,by omega,by omega,by decide,by omega,by omega,by omega,by omega,by decide,by omega,by omega,by decide,qag (λ h=>?_) (λ h=>?_)⟩
     ·have h:=of_decide_eq_true h;rw[if_pos h,List.append_nil] at hx;exact fin o _ hx rfl
     ·have h:=of_decide_eq_false h;rw[if_neg h] at hx;refine ⟨by simp,trivial,trivial,?_,by decide,?_⟩
      ·show o.length+1<2 ^ 30
       omega
      ·refine Good.onlyR (k2 _ (o++[(nmi,at_+g % 8,at_+g % 8+1+4*(w % 8)+od % 4,false)]) (by omega) (by omega) (by simp[ho]) (by rw[List.append_assoc];exact hx)) [(11,90)] rfl ⟨rfl,rfl,rfl,?_,rfl,rfl,trivial⟩ ⟨rfl,rfl,trivial⟩
       show some (SV.win true seS 90 0 (o.length+1))=some (SV.win true seS 90 0 (o++[_]).length)
       rw[List.length_append,List.length_singleton]
   ·have e0:mkF n (nm.drop i) at_ (l.drop i)=[]:=by
     rw[List.drop_eq_nil_of_le (show l.length<=i by omega)]
     cases nm.drop i <;> rfl
    rw[e0,List.append_nil] at hx;rw[decide_eq_false (by omega),bc_f];exact ⟨rfl,fin o _ hx rfl⟩
  ·exact ih i at_ o (by omega) hi h1 h2 ho hx
theorem qwp (l:List Raw) (n:Int) (hp:preMk l n):sA [] Tryz.f25 (QC ctMk (l,n,())) (Px.Good Tryz.prog tt G0 25 Tryz.f25.ntmps Tryz.f25.results.toList (QC ctMk (l,n,()))) [.code (qae Tryz.f25)] (entry [.sl rwS,iI] (l,n,())):=by
 rw[q3t];exact (qp5 hp (nm:=nmL) rfl rfl _ 0 0 [] (Nat.le_refl _) (Nat.zero_le _) (by omega) hp.2.1 rfl rfl).only ⟨rfl,rfl,rfl,rfl,rfl,rfl,trivial⟩ ⟨rfl,rfl,trivial⟩
theorem mk_held:Held Tryz.prog G0 25 ctMk:=Held.run cx0 (fn:=Tryz.f25) rfl rfl ⟨by decide,by decide⟩ λ x hp=>qwp x.1 x.2.1 hp
abbrev D1:CV:=[(25,.inl ctMk)]
theorem dx1:CxOK Tryz.prog tt G0 D1:=cx0.k mk_held (fn:=Tryz.f25)
set_option maxRecDepth 100000
theorem q7r (c:Int) (Q:QT) (R:RT):sA D1 Tryz.f126 Q R [.code (qae Tryz.f126)] (entry [.int .i32] (c,())) =
  (bc (decide ((97:Int)<=c)) (bc (bif true then decide (c<=122) else false) (true=true/\Q [.bool true] []) (bc (decide ((65:Int)<=c)) (Q [.bool (bif false then true else bif true then decide (c<=90) else false)] []) (false=false/\Q [.bool (bif false then true else false)] []))) (false=false/\bc (decide ((65:Int)<=c)) (Q [.bool (bif false then true else bif true then decide (c<=90) else false)] []) (false=false/\Q [.bool (bif false then true else false)] []))):=by kernel_rfl
theorem q7y (c:Int) (Q:QT) (R:RT):sA D1 Tryz.f127 Q R [.code (qae Tryz.f127)] (entry [.int .i32] (c,())) =
  (bc (decide ((48:Int)<=c)) (Q [.bool (bif true then decide (c<=57) else false)] []) (false=false/\Q [.bool false] [])):=by kernel_rfl
theorem q7w (l:List Sec) (s:List UInt8) (Q:QT) (R:RT):sA D1 Tryz.f100 Q R [.code (qae Tryz.f100)] (entry [.sl seS,.str] (l,s,())) =
  (R (hd Tryz.f100 0) { env:=[(0,.sl (Sh.str.pair ((Sh.int i64).pair ((Sh.int i64).pair Sh.bool))) l),(1,.str s),(4,.bool false),(7,.sl (Sh.str.pair ((Sh.int i64).pair ((Sh.int i64).pair Sh.bool))) l),(8,.i (l.length:Int)),(9,.i 0)],blk:=[] }):=by kernel_rfl
theorem qul (l:List Sec) (s:List UInt8) (i:Int) (Q:QT) (R:RT):sA D1 Tryz.f100 Q (λ it S=>R it (qbr [1,7,8,9] [] S)) (hd Tryz.f100 0) ⟨[(1,.str s),(7,.sl seS l),(8,.i l.length),(9,.i i)],[]⟩ =
  (bc (decide (i<(l.length:Int))) ((0:Int)<=i/\i<(l.length:Int)/\bc (decide ((gt (Sh.str.pair ((Sh.int i64).pair ((Sh.int i64).pair Sh.bool))) l i.toNat).1=s)) (Q [.bool true] [(6,.var [.str (gt (Sh.str.pair ((Sh.int i64).pair ((Sh.int i64).pair Sh.bool))) l i.toNat).1,.i (gt (Sh.str.pair ((Sh.int i64).pair ((Sh.int i64).pair Sh.bool))) l i.toNat).2.1,.i (gt (Sh.str.pair ((Sh.int i64).pair ((Sh.int i64).pair Sh.bool))) l i.toNat).2.2.1,.bool (gt (Sh.str.pair ((Sh.int i64).pair ((Sh.int i64).pair Sh.bool))) l i.toNat).2.2.2])]) (R (hd Tryz.f100 0) { env:=[(1,.str s),(7,.sl (Sh.str.pair ((Sh.int i64).pair ((Sh.int i64).pair Sh.bool))) l),(8,.i (l.length:Int)),(9,.i (i64.wrap (i+1)))],blk:=[] })) (Q [.bool false] [])):=by kernel_rfl
theorem q7i (x:Sec) (e n:Int) (Q:QT) (R:RT):sA D1 Tryz.f101 Q R [.code (qae Tryz.f101)] (entry [seS,iI,iI] (x,e,n,())) =
  (bc (decide (x.2.1<e)) (true=true/\true=true/\Q [.bool false] [(3,.var [.str x.1,.i x.2.1,.i x.2.2.1,.bool x.2.2.2])]) (bc (bif false then true else decide (x.2.2.1<=x.2.1)) (true=true/\Q [.bool false] [(3,.var [.str x.1,.i x.2.1,.i x.2.2.1,.bool x.2.2.2])]) (bc (bif false then true else decide (n<x.2.2.1)) (Q [.bool false] [(3,.var [.str x.1,.i x.2.1,.i x.2.2.1,.bool x.2.2.2])]) (bc (!x.2.2.2) (true=true/\Q [.bool true] [(3,.var [.str x.1,.i x.2.1,.i x.2.2.1,.bool x.2.2.2])]) ((4:Int)≠0/\bc (decide (Int.tmod x.2.1 (4:Int)=(0:Int))) ((4:Int)≠0/\Q [.bool (bif false then true else bif true then decide (Int.tmod x.2.2.1 (4:Int)=(0:Int)) else false)] [(3,.var [.str x.1,.i x.2.1,.i x.2.2.1,.bool x.2.2.2])]) (false=false/\Q [.bool (bif false then true else false)] [(3,.var [.str x.1,.i x.2.1,.i x.2.2.1,.bool x.2.2.2])])))))):=by kernel_rfl
def letB (c:Int):Bool:=decide (97<=c/\c<=122\/65<=c/\c<=90)
def digB (c:Int):Bool:=decide (48<=c/\c<=57)
def sgnB (c:Int):Bool:=letB c || digB c
theorem qmk {a b:Bool} (h:a=true↔b=true):[SV.bool a]=[SV.bool b]:=by
 cases a <;> cases b <;> simp at h |-
def ctLet:Ctr:=⟨[.int .i32],λ _=>True,λ x=>[.bool (letB x.1)],λ _=>[]⟩
def ctDig:Ctr:=⟨[.int .i32],λ _=>True,λ x=>[.bool (digB x.1)],λ _=>[]⟩
theorem q5y (c:Int) (R:List Item->PS->Prop):sA D1 Tryz.f126 (QC ctLet (c,())) R [.code (qae Tryz.f126)] (entry [.int .i32] (c,())):=by
 rw[q7r];simp only[qi6,cond_true,cond_false,decide_eq_true_eq,decide_eq_false_iff_not]
 repeat' first
  | exact trivial
  | exact rfl
  | (refine And.intro ?_ ?_)
  | (intro _)
  | (refine QC.flat (qmk ?_) rfl rfl;simp[letB];omega)
theorem q6j (c:Int) (R:List Item->PS->Prop):sA D1 Tryz.f127 (QC ctDig (c,())) R [.code (qae Tryz.f127)] (entry [.int .i32] (c,())):=by
 rw[q7y];simp only[qi6,cond_true,cond_false,decide_eq_true_eq,decide_eq_false_iff_not]
 repeat' first
  | exact trivial
  | exact rfl
  | (refine And.intro ?_ ?_)
  | (intro _)
  | (refine QC.flat (qmk ?_) rfl rfl;simp[digB];omega)
theorem q0b:Held Tryz.prog G0 126 ctLet:=Held.run dx1 (fn:=Tryz.f126) rfl rfl ⟨by decide,by decide⟩ λ x _=>q5y x.1 _
theorem q01:Held Tryz.prog G0 127 ctDig:=Held.run dx1 (fn:=Tryz.f127) rfl rfl ⟨by decide,by decide⟩ λ x _=>q6j x.1 _
def plcB (e n:Int) (s:Sec):Bool:=decide (e<=s.2.1/\s.2.1<s.2.2.1/\s.2.2.1<=n/\(s.2.2.2=true->s.2.1.tmod 4=0/\s.2.2.1.tmod 4=0))
def ctPlc:Ctr:=⟨[seS,iI,iI],λ _=>True,λ x=>[.bool (plcB x.2.1 x.2.2.1 x.1)],λ _=>[]⟩
theorem q45 (x:Sec) (e n:Int) (R:List Item->PS->Prop):sA D1 Tryz.f101 (QC ctPlc (x,e,n,())) R [.code (qae Tryz.f101)] (entry [seS,iI,iI] (x,e,n,())):=by
 rw[q7i];obtain ⟨nm,f,t,c⟩:=x;simp only[qi6,cond_true,cond_false,decide_eq_true_eq,decide_eq_false_iff_not]
 cases c <;>
 repeat' first
  | exact trivial
  | exact rfl
  | decide
  | (refine And.intro ?_ ?_)
  | (intro _)
  | (refine QC.flat (qmk ?_) rfl rfl;simp[plcB];omega)
  | (exfalso;simp at *;done)
theorem qzm:Held Tryz.prog G0 101 ctPlc:=Held.run dx1 (fn:=Tryz.f101) rfl rfl ⟨by decide,by decide⟩ λ x _=>q45 x.1 x.2.1 x.2.2.1 _
def hasN (l:List Sec) (s:List UInt8):Bool:=l.any λ x=>decide (x.1=s)
def qzl (n:Nat):Prop:=n<2 ^ 62
def ctHas:Ctr:=⟨[.sl seS,.str],λ x=>qzl (List.length x.1),λ x=>[.bool (hasN x.1 x.2.1)],λ _=>[]⟩
theorem q0q {l:List Sec} {s:List UInt8} (hp:l.length<2 ^ 62):∀ (k i:Nat),l.length-i<=k->i<=l.length ->
  GD 100 Tryz.f100 (λ rs _=>rs=[.bool (hasN (l.drop i) s)]) (hd Tryz.f100 0) ⟨[(1,.str s),(7,.sl seS l),(8,.i l.length),(9,.i (i:Nat))],[]⟩:=by
 intro k
 induction k with
 | zero=>
  intro i h1 h2;refine qat dx1 (qul l s i _ _) ?_;rw[decide_eq_false (by omega),bc_f,List.drop_eq_nil_of_le (by omega)];rfl
 | succ k ih=>
  intro i h1 h2;by_cases hi:i<l.length
  ·refine qat dx1 (qul l s i _ _) ?_;have e1:gt seS l (i:Int).toNat=l[i]:=gtE hi;rw[decide_eq_true (show (i:Int)<(l.length:Int) by omega),bc_t,e1,IntWalk.i64_in ((i:Int)+1) (by omega),qk7 hi];have k2:=ih (i+1) (by omega) (by omega);have hh:hasN (l[i]::l.drop (i+1)) s=(decide (l[i].1=s) || hasN (l.drop (i+1)) s):=rfl;rw[hh];refine ⟨by omega,by omega,qag (λ ha=>?_) (λ ha=>?_)⟩
   ·have ha:decide (l[i].1=s)=true:=ha;rw[ha];rfl
   ·have ha:decide (l[i].1=s)=false:=ha;rw[ha,Bool.false_or];exact k2
  ·exact ih i (by omega) h2
theorem q58 (l:List Sec) (s:List UInt8) (hp:qzl l.length):sA D1 Tryz.f100 (QC ctHas (l,s,())) (Px.Good Tryz.prog tt G0 100 Tryz.f100.ntmps Tryz.f100.results.toList (QC ctHas (l,s,()))) [.code (qae Tryz.f100)] (entry [.sl seS,.str] (l,s,())):=by
 rw[q7w];exact ((q0q hp _ 0 (Nat.le_refl _) (Nat.zero_le _)).post λ rs blk hq=>QC.flat (by rw[hq];rfl) rfl (by rw[hq];rfl)).only ⟨rfl,rfl,rfl,rfl,trivial⟩ trivial
theorem q0r:Held Tryz.prog G0 100 ctHas:=Held.run dx1 (fn:=Tryz.f100) rfl rfl ⟨by decide,by decide⟩ λ x hp=>q58 x.1 x.2.1 hp
abbrev D2:CV:=(100,.inl ctHas)::(101,.inl ctPlc)::(126,.inl ctLet)::(127,.inl ctDig)::D1
theorem dx2:CxOK Tryz.prog tt G0 D2:=((((dx1).k q01 (fn:=Tryz.f127)).k q0b (fn:=Tryz.f126)).k qzm (fn:=Tryz.f101)).k q0r (fn:=Tryz.f100)
theorem q7p (s:List UInt8) (Q:QT) (R:RT):sA D2 Tryz.f99 Q R [.code (qae Tryz.f99)] (entry [.str] (s,())) =
  (bc (decide ((s.length:Int)<1)) (true=true/\Q [.bool false] []) (bc (bif false then true else decide ((12:Int)<(s.length:Int))) (Q [.bool false] []) (R (hd Tryz.f99 0) { env:=[(0,.str s),(2,.bool false),(5,.str s),(6,.i (s.length:Int)),(7,.bool (decide ((s.length:Int)<1))),(8,.bool false),(9,.str s),(10,.i (s.length:Int)),(11,.bool (decide ((12:Int)<(s.length:Int)))),(12,.bool (bif false then true else decide ((12:Int)<(s.length:Int)))),(13,.str s),(14,.ptr 14 0)],blk:=[(14,LB.iter s (0:Nat))] }))):=by kernel_rfl
theorem quf (s:List UInt8) (p:Nat) (Q:QT) (R:RT):sA D2 Tryz.f99 Q (λ it S=>R it (qbr [14] [14] S)) (hd Tryz.f99 0) ⟨[(14,.ptr 14 0)],[(14,.iter s p)]⟩ =
  (bc (decide (p<s.length)) (ctLet.pre ((↑(qc1 s p).1:Int),())/\bc (!letB (↑(qc1 s p).1:Int)) (ctDig.pre ((↑(qc1 s p).1:Int),())/\bc (bif true then !digB (↑(qc1 s p).1:Int) else false) (Q [.bool false] [(14,LB.iter s (qkj s p true))]) (R (hd Tryz.f99 0) { env:=[(14,.ptr 14 0)],blk:=[(14,LB.iter s (qkj s p true))] })) (false=false/\R (hd Tryz.f99 0) { env:=[(14,.ptr 14 0)],blk:=[(14,LB.iter s (qkj s p true))] })) (Q [.bool true] [(14,LB.iter s (qkj s p false))])):=by kernel_rfl
def allS (s:List UInt8):Bool:=s.all λ c=>sgnB (c.toNat:Int)
def qnd (s:List UInt8):Bool:=decide (1<=s.length)&&decide (s.length<=12)&&allS s
theorem qx9 {s:List UInt8} {i:Nat} (h:i<s.length):allS (s.drop i)=(sgnB (s[i].toNat:Int)&&allS (s.drop (i+1))):=by
 rw[qk7 h];rfl
theorem q2o {c:Int} (h:128<=c):letB c=false/\digB c=false:=by
 constructor
 ·exact decide_eq_false (by omega)
 ·exact decide_eq_false (by omega)
theorem qz5 (s:List UInt8):∀ (k i:Nat),s.length-i<=k ->
  GD 99 Tryz.f99 (λ rs _=>rs=[.bool (allS (s.drop i))]) (hd Tryz.f99 0) ⟨[(14,.ptr 14 0)],[(14,.iter s i)]⟩:=by
 have hend:∀ i:Nat,¬ i<s.length->GD 99 Tryz.f99 (λ rs _=>rs=[.bool (allS (s.drop i))]) (hd Tryz.f99 0) ⟨[(14,.ptr 14 0)],[(14,.iter s i)]⟩:=by
  intro i hi;refine qat dx2 (quf s i _ _) ?_;rw[decide_eq_false hi,bc_f,List.drop_eq_nil_of_le (by omega)];rfl
 intro k
 induction k with
 | zero=>intro i h1;exact hend i (by omega)
 | succ k ih=>
  intro i h1;by_cases hi:i<s.length
  ·refine qat dx2 (quf s i _ _) ?_;rw[decide_eq_true hi,bc_t,qx9 hi,cond_true];by_cases hb:s[i].toNat<128
   ·have k2:=ih (i+1) (by omega);rw[qkj,qvi hi hb,sgnB];refine ⟨trivial,qag (λ h=>⟨trivial,qag (λ h2=>?_) (λ h2=>?_)⟩) (λ h=>⟨rfl,?_⟩)⟩
    ·simp only[Bool.not_eq_true'] at h h2;simp only[h,h2,Bool.or_self,Bool.false_and]
    ·simp only[Bool.not_eq_false'] at h2;rw[h2,Bool.or_true,Bool.true_and];exact k2
    ·simp only[Bool.not_eq_false'] at h;rw[h,Bool.true_or,Bool.true_and];exact k2
   ·obtain ⟨r1,r2,_⟩:=qvj hi (by omega);obtain ⟨s1,s2⟩:=q2o (c:=((qc1 s i).1:Int)) (by omega);obtain ⟨s3,s4⟩:=q2o (c:=(s[i].toNat:Int)) (by omega);rw[s1,s2,sgnB,s3,s4];exact ⟨trivial,trivial,rfl⟩
  ·exact hend i hi
def ctNam:Ctr:=⟨[.str],λ _=>True,λ x=>[.bool (qnd x.1)],λ _=>[]⟩
theorem q5r (s:List UInt8):sA D2 Tryz.f99 (QC ctNam (s,())) (Px.Good Tryz.prog tt G0 99 Tryz.f99.ntmps Tryz.f99.results.toList (QC ctNam (s,()))) [.code (qae Tryz.f99)] (entry [.str] (s,())):=by
 rw[q7p];refine qag (λ h=>⟨rfl,?_⟩) (λ h=>?_)
 ·have h:=of_decide_eq_true h;refine QC.flat (qmk ?_) rfl rfl;simp[qnd];omega
 ·have h:=of_decide_eq_false h;rw[cond_false];refine qag (λ h2=>?_) (λ h2=>?_)
  ·have h2:=of_decide_eq_true h2;refine QC.flat (qmk ?_) rfl rfl;simp[qnd];omega
  ·have h2:=of_decide_eq_false h2;have e:qnd s=allS (s.drop 0):=by
    unfold qnd;rw[decide_eq_true (by omega),decide_eq_true (by omega)];rfl
   refine ((qz5 s _ 0 (Nat.le_refl _)).post λ rs blk hq=>QC.flat (by rw[hq,<- e];rfl) rfl (by rw[hq];rfl)).only ⟨rfl,trivial⟩ ⟨rfl,trivial⟩
theorem qz6:Held Tryz.prog G0 99 ctNam:=Held.run dx2 (fn:=Tryz.f99) rfl rfl ⟨by decide,by decide⟩ λ x _=>q5r x.1
abbrev D3:CV:=(99,.inl ctNam)::D2
theorem dx3:CxOK Tryz.prog tt G0 D3:=(dx2).k qz6 (fn:=Tryz.f99)
theorem q66 (l:List Sec) (n:Int) (Q:QT) (R:RT):sA D3 Tryz.f67 Q R [.code (qae Tryz.f67)] (entry [.sl seS,iI] (l,n,())) =
  (bc (decide ((8:Int)<(l.length:Int))) (Q [.bool false] []) (R (hd Tryz.f67 0) { env:=[(0,.sl (Sh.str.pair ((Sh.int i64).pair ((Sh.int i64).pair Sh.bool))) l),(1,.i n),(4,.bool false),(5,.i 0),(8,.sl (Sh.str.pair ((Sh.int i64).pair ((Sh.int i64).pair Sh.bool))) l),(9,.i (l.length:Int)),(10,.bool (decide ((8:Int)<(l.length:Int)))),(11,.sl (Sh.str.pair ((Sh.int i64).pair ((Sh.int i64).pair Sh.bool))) l),(12,.i (l.length:Int)),(13,.i 0)],blk:=[] })):=by kernel_rfl
def qgr (l:List Sec) (i:Int):List (Nat × LB):=[(7,.var [.str (gt (Sh.str.pair ((Sh.int i64).pair ((Sh.int i64).pair Sh.bool))) l i.toNat).1,.i (gt (Sh.str.pair ((Sh.int i64).pair ((Sh.int i64).pair Sh.bool))) l i.toNat).2.1,.i (gt (Sh.str.pair ((Sh.int i64).pair ((Sh.int i64).pair Sh.bool))) l i.toNat).2.2.1,.bool (gt (Sh.str.pair ((Sh.int i64).pair ((Sh.int i64).pair Sh.bool))) l i.toNat).2.2.2])]
theorem qt7 (l:List Sec) (n e i:Int) (Q:QT) (R:RT):sA D3 Tryz.f67 Q (λ it S=>R it (qbr [0,1,5,11,12,13] [] S)) (hd Tryz.f67 0) ⟨[(0,.sl seS l),(1,.i n),(5,.i e),(11,.sl seS l),(12,.i l.length),(13,.i i)],[]⟩ =
  (bc (decide (i<(l.length:Int))) ((0:Int)<=i/\i<(l.length:Int)/\ctNam.pre ((gt (Sh.str.pair ((Sh.int i64).pair ((Sh.int i64).pair Sh.bool))) l i.toNat).1,())/\bc (!qnd (gt (Sh.str.pair ((Sh.int i64).pair ((Sh.int i64).pair Sh.bool))) l i.toNat).1) (true=true/\true=true/\Q [.bool false] (qgr l i)) ((0:Int)<=i/\i<=(l.length:Int)/\ctHas.pre (List.take i.toNat l,(gt (Sh.str.pair ((Sh.int i64).pair ((Sh.int i64).pair Sh.bool))) l i.toNat).1,())/\bc (bif false then true else hasN (List.take i.toNat l) (gt (Sh.str.pair ((Sh.int i64).pair ((Sh.int i64).pair Sh.bool))) l i.toNat).1) (true=true/\Q [.bool false] (qgr l i)) (ctPlc.pre (((gt (Sh.str.pair ((Sh.int i64).pair ((Sh.int i64).pair Sh.bool))) l i.toNat).1,(gt (Sh.str.pair ((Sh.int i64).pair ((Sh.int i64).pair Sh.bool))) l i.toNat).2.1,(gt (Sh.str.pair ((Sh.int i64).pair ((Sh.int i64).pair Sh.bool))) l i.toNat).2.2.1,(gt (Sh.str.pair ((Sh.int i64).pair ((Sh.int i64).pair Sh.bool))) l i.toNat).2.2.2),e,n,())/\bc (bif false then true else !plcB e n ((gt (Sh.str.pair ((Sh.int i64).pair ((Sh.int i64).pair Sh.bool))) l i.toNat).1,(gt (Sh.str.pair ((Sh.int i64).pair ((Sh.int i64).pair Sh.bool))) l i.toNat).2.1,(gt (Sh.str.pair ((Sh.int i64).pair ((Sh.int i64).pair Sh.bool))) l i.toNat).2.2.1,(gt (Sh.str.pair ((Sh.int i64).pair ((Sh.int i64).pair Sh.bool))) l i.toNat).2.2.2)) (Q [.bool false] (qgr l i)) (R (hd Tryz.f67 0) { env:=[(0,.sl (Sh.str.pair ((Sh.int i64).pair ((Sh.int i64).pair Sh.bool))) l),(1,.i n),(5,.i (gt (Sh.str.pair ((Sh.int i64).pair ((Sh.int i64).pair Sh.bool))) l i.toNat).2.2.1),(11,.sl (Sh.str.pair ((Sh.int i64).pair ((Sh.int i64).pair Sh.bool))) l),(12,.i (l.length:Int)),(13,.i (i64.wrap (i+1)))],blk:=[] })))) (Q [.bool true] [])):=by kernel_rfl
def valF (n:Int):List Sec->Int->List Sec->Bool
 | _,_,[]=>true
 | d,e,s::r=>qnd s.1 && !hasN d s.1&&plcB e n s&&valF n (d++[s]) s.2.2.1 r
def validB (l:List Sec) (n:Int):Bool:=decide (l.length<=8)&&valF n [] 0 l
theorem quu {n e:Int} {l:List Sec} {i:Nat} (h:i<l.length):valF n (l.take i) e (l.drop i)=(qnd l[i].1 && !hasN (l.take i) l[i].1&&plcB e n l[i]&&valF n (l.take (i+1)) l[i].2.2.1 (l.drop (i+1))):=by
 rw[qk7 h,valF,List.take_succ_eq_append_getElem h]
def ctVal (p:Prop):Ctr:=⟨[.sl seS,iI],λ x=>p/\∀ s∈(x.1:List Sec),s.1.length<2 ^ 62,λ x=>[.bool (validB x.1 x.2.1)],λ _=>[]⟩
theorem qyy {l:List Sec} {n:Int} (h8:l.length<=8):∀ (k i:Nat) (e:Int),l.length-i<=k->i<=l.length ->
  GD 67 Tryz.f67 (λ rs _=>rs=[.bool (valF n (l.take i) e (l.drop i))]) (hd Tryz.f67 0) ⟨[(0,.sl seS l),(1,.i n),(5,.i e),(11,.sl seS l),(12,.i l.length),(13,.i (i:Nat))],[]⟩:=by
 have hend:∀ (i:Nat) (e:Int),¬ i<l.length->GD 67 Tryz.f67 (λ rs _=>rs=[.bool (valF n (l.take i) e (l.drop i))]) (hd Tryz.f67 0) ⟨[(0,.sl seS l),(1,.i n),(5,.i e),(11,.sl seS l),(12,.i l.length),(13,.i (i:Nat))],[]⟩:=by
  intro i e hi;refine qat dx3 (qt7 l n e i _ _) ?_;rw[decide_eq_false (by omega),bc_f,List.drop_eq_nil_of_le (by omega)];rfl
 intro k
 induction k with
 | zero=>intro i e h1 _;exact hend i e (by omega)
 | succ k ih=>
  intro i e h1 h2;by_cases hi:i<l.length
  ·refine qat dx3 (qt7 l n e i _ _) ?_;have e1:gt seS l (i:Int).toNat=l[i]:=gtE hi;have k2:=ih (i+1) l[i].2.2.1 (by omega) (by omega);rw[decide_eq_true (show (i:Int)<(l.length:Int) by omega),bc_t,e1,quu hi,IntWalk.i64_in ((i:Int)+1) (by omega),Int.toNat_natCast];have hps:qzl (l.take i).length:=by unfold qzl;rw[List.length_take];omega
   generalize l[i]=x at *;have ex:(x.1,x.2.1,x.2.2.1,x.2.2.2)=x:=rfl;rw[ex];refine ⟨by omega,by omega,trivial,qag (λ h=>⟨rfl,rfl,?_⟩) (λ h=>⟨by omega,by omega,hps,?_⟩)⟩
   ·simp only[Bool.not_eq_true'] at h;rw[h];rfl
   ·simp only[Bool.not_eq_false'] at h;rw[h,cond_false];refine qag (λ h3=>⟨rfl,?_⟩) (λ h3=>⟨trivial,?_⟩)
    ·rw[h3];rfl
    ·rw[h3,cond_false];refine qag (λ h4=>?_) (λ h4=>?_)
     ·simp only[Bool.not_eq_true'] at h4;rw[h4];rfl
     ·simp only[Bool.not_eq_false'] at h4;rw[h4];exact k2
  ·exact hend i e hi
theorem q4a (l:List Sec) (n:Int):sA D3 Tryz.f67 (QC (ctVal True) (l,n,())) (Px.Good Tryz.prog tt G0 67 Tryz.f67.ntmps Tryz.f67.results.toList (QC (ctVal True) (l,n,()))) [.code (qae Tryz.f67)] (entry [.sl seS,iI] (l,n,())):=by
 rw[q66];refine qag (λ h=>?_) (λ h=>?_)
 ·have h:=of_decide_eq_true h;exact QC.flat (qmk (by simp[validB];omega)) rfl rfl
 ·have h:=of_decide_eq_false h;have e:validB l n=valF n (l.take 0) 0 (l.drop 0):=by
   unfold validB;rw[decide_eq_true (by omega)];rfl
  exact ((qyy (by omega) _ 0 0 (Nat.le_refl _) (Nat.zero_le _)).post λ rs blk hq=>QC.flat (by rw[hq,<- e];rfl) rfl (by rw[hq];rfl)).only ⟨rfl,rfl,rfl,rfl,rfl,rfl,trivial⟩ trivial
theorem val_held:Held Tryz.prog G0 67 (ctVal True):=Held.run dx3 (fn:=Tryz.f67) rfl rfl ⟨by decide,by decide⟩ λ x _=>q4a x.1 x.2.1
end Go.Proofs.YtdeacfammdjajaaGreatDoor.Im
namespace Go.Proofs.YtdeacfammdjajaaGreatDoor
open Go.Px Go.Ax
open Go.IntKind(i64 u32 u8)
set_option maxRecDepth 100000
abbrev seS:Sh:=.pair .str (.pair (.int .i64) (.pair (.int .i64) .bool))
abbrev SecT:Type:=List UInt8 × Int × Int × Bool
abbrev slS:Sh:=.sl syS
def psV (p:PaT):List SyT × Int:=match decide ((symV p).2≠0) with
 | true=>([],(symV p).2)
 | false=>match p.1 with
  | true=>([],62)
  | false=>((symV p).1,0)
def ctPs:Ctr:=⟨[paS],λ _=>True,λ x=>[.win true syS 0 0 (psV x.1).1.length,.i (psV x.1).2],λ x=>[.row 83 syS (psV x.1).1]⟩
abbrev capS:List AK:=[.ptr [.dat (.sl seS)],.ptr [.dat slS]]
abbrev capC:List AK:=[.ptr [.dat slS],.ptr [.dat iI]]
abbrev iS:AK:=.fn 103 [] capS
abbrev iK:AK:=.fn 105 [] capC
abbrev q6x:List AK:=[.ptr [iS],.ptr [.dat iI]]
abbrev q6y:List AK:=[.ptr [iK],.ptr [.dat iI]]
abbrev pS:AK:=.fn 102 [] q6x
abbrev pK:AK:=.fn 102 [] q6y
abbrev yS1:List Sh:=[slS]
abbrev yP:List Sh:=[paS,iI]
set_option maxRecDepth 100000
theorem vc_ps (li:Bool) (m o:Int) (l:List OpT) (Q:QT) (R:RT):sA [(63,.inl ctSym)] Tryz.f66 Q R [.code (qae Tryz.f66)] (entry [paS] ((li,m,o,l),())) =
  (ctSym.pre ((li,m,o,l),())/\bc (decide ((symV (li,m,o,l)).2≠0)) (Q [.nils,.i (symV (li,m,o,l)).2] [(1,.var [.bool li,.i m,.i o,.sl opS l]),(1032768,.row 83 syS (symV (li,m,o,l)).1)]) (bc li (Q [.nils,.i 62] [(1,.var [.bool li,.i m,.i o,.sl opS l]),(1032768,.row 83 syS (symV (li,m,o,l)).1)]) (Q [.win true syS 1032768 0 (symV (li,m,o,l)).1.length,.i 0] [(1,.var [.bool li,.i m,.i o,.sl opS l]),(1032768,.row 83 syS (symV (li,m,o,l)).1)]))):=by kernel_rfl
theorem q7u (s:List SyT) (l:List SecT) (Q:QT) (R:RT):sA [] Tryz.f70 Q R [.code (qae Tryz.f70)] (qbd [.dat slS,.dat (.sl seS)] (s,l,())) =
  (Q [.fn (103:Nat) [] [.ptr (3:Nat) 0,.ptr 2 0]] [(2,.var [.sl syS s]),(3,.var [.sl seS l])]):=by kernel_rfl
theorem q74 (s:List SyT) (n:Int) (Q:QT) (R:RT):sA [] Tryz.f73 Q R [.code (qae Tryz.f73)] (qbd [.dat slS,.dat iI] (s,n,())) =
  (bc (decide (n<1)) False (Q [.fn (105:Nat) [] [.ptr (2:Nat) 0,.ptr 3 0]] [(2,.var [.sl syS s]),(3,.var [.i n])])):=by kernel_rfl
theorem q3p (s:List SyT) (l:List SecT) (m:Int) (Q:QT) (R:RT):sA [] Tryz.f69 Q R [.code (qae Tryz.f69)] (qbd [iS,.dat iI] (((),(l,()),(s,()),()),m,())) =
  (Q [.fn (102:Nat) [] [.ptr (2:Nat) 0,.ptr 3 0]] [(2,.var [.fn (103:Nat) [] [.ptr (1099511627776:Nat) 0,.ptr 1099511627777 0]]),(3,.var [.i m]),(1099511627776,.var [.sl seS l]),(1099511627777,.var [.sl syS s])]):=by kernel_rfl
theorem q3q (s:List SyT) (n:Int) (m:Int) (Q:QT) (R:RT):sA [] Tryz.f69 Q R [.code (qae Tryz.f69)] (qbd [iK,.dat iI] (((),(s,()),(n,()),()),m,())) =
  (Q [.fn (102:Nat) [] [.ptr (2:Nat) 0,.ptr 3 0]] [(2,.var [.fn (105:Nat) [] [.ptr (1099511627776:Nat) 0,.ptr 1099511627777 0]]),(3,.var [.i m]),(1099511627776,.var [.sl syS s]),(1099511627777,.var [.i n])]):=by kernel_rfl
theorem q7s (s:List SyT) (l:List SecT) (lp:Nat) (ys:List (DL yS1)) (Q:AExit->Nat × Bool->PS->Prop) (R:List Item->Nat × Bool->PS->Prop):syE tt G0 [] Tryz.f103.ntmps ⟨lp,yS1,ys⟩ Q R .fn 1000 [.code (qae Tryz.f103)] (0,false) (qk5 lp capS ((l,()),(s,()),())) =
  (R (hd Tryz.f103 0) ((0:Nat),false) { env:=[(0,.yl lp),(1,.ptr 1099511627776 0),(2,.ptr 1099511627777 0),(6,.sl seS l),(7,.i (l.length:Int)),(8,.i 0)],blk:=[(1099511627776,.var [.sl seS l]),(1099511627777,.var [.sl syS s])] }):=by kernel_rfl
theorem quh (s:List SyT) (l:List SecT) (i:Int) (j:Nat) (q:Bool) (lp:Nat) (ys:List (DL yS1)) (Q:AExit->Nat × Bool->PS->Prop) (R:List Item->Nat × Bool->PS->Prop):syE tt G0 [] Tryz.f103.ntmps ⟨lp,yS1,ys⟩ Q (λ it g S=>R it g (qbr [0,1,2,6,7,8] [BIG,BIG+1] S)) .fn 1000 (hd Tryz.f103 0) (j,q) (⟨[(0,.yl lp),(1,.ptr BIG 0),(2,.ptr (BIG+1) 0),(6,.sl seS l),(7,.i (l.length:Nat)),(8,.i i)],[(BIG,.var [.sl seS l]),(BIG+1,.var [.sl syS s])]⟩) =
  (bc (decide (i<(l.length:Int))) ((0:Int)<=i/\i<(l.length:Int)/\(0:Int)<=(gt seS l i.toNat).2.1/\(gt seS l i.toNat).2.1<(gt seS l i.toNat).2.2.1/\(gt seS l i.toNat).2.2.1<=(gt seS l i.toNat).2.2.1/\(gt seS l i.toNat).2.2.1<=(s.length:Int)/\(gt seS l i.toNat).2.2.1<1099511627776/\lp=(Yp.mk lp yS1 ys).l/\q=false/\(Yp.mk lp yS1 ys).ys[j]?=some (Px.part s (some (gt seS l i.toNat).2.1) (some (gt seS l i.toNat).2.2.1),())/\∀ (r:Bool),bc (!r) (Q AExit.ret (j+1,!r) { env:=[(0,.yl lp),(1,.ptr 1099511627776 0),(2,.ptr 1099511627777 0),(5,.ptr 5 0),(6,.sl seS l),(7,.i (l.length:Int)),(8,.i i),(9,.bool (decide (i<(l.length:Int)))),(10,.elv seS (gt seS l i.toNat)),(11,.agg [.str (gt seS l i.toNat).1,.i (gt seS l i.toNat).2.1,.i (gt seS l i.toNat).2.2.1,.bool (gt seS l i.toNat).2.2.2]),(12,.yl lp),(13,.sl syS s),(14,.ptr 5 1),(15,.i (gt seS l i.toNat).2.1),(16,.ptr 5 2),(17,.i (gt seS l i.toNat).2.2.1),(18,.ptr 5 2),(19,.i (gt seS l i.toNat).2.2.1),(20,.sl syS (Px.part s (some (gt seS l i.toNat).2.1) (some (gt seS l i.toNat).2.2.1))),(21,.bool r),(22,.bool !r)],blk:=[(5,.var [.str (gt seS l i.toNat).1,.i (gt seS l i.toNat).2.1,.i (gt seS l i.toNat).2.2.1,.bool (gt seS l i.toNat).2.2.2]),(1099511627776,.var [.sl seS l]),(1099511627777,.var [.sl syS s])] }) (R (hd Tryz.f103 0) (j+1,!r) { env:=[(0,.yl lp),(1,.ptr 1099511627776 0),(2,.ptr 1099511627777 0),(6,.sl seS l),(7,.i (l.length:Int)),(8,.i (i64.wrap (i+1)))],blk:=[(1099511627776,.var [.sl seS l]),(1099511627777,.var [.sl syS s])] })) (Q AExit.normal (j,q) { env:=[(0,.yl lp),(1,.ptr 1099511627776 0),(2,.ptr 1099511627777 0),(6,.sl seS l),(7,.i (l.length:Int)),(8,.i i),(9,.bool (decide (i<(l.length:Int))))],blk:=[(1099511627776,.var [.sl seS l]),(1099511627777,.var [.sl syS s])] })):=by kernel_rfl
theorem q73 (s:List SyT) (n:Int) (lp:Nat) (ys:List (DL yS1)) (Q:AExit->Nat × Bool->PS->Prop) (R:List Item->Nat × Bool->PS->Prop):syE tt G0 [] Tryz.f105.ntmps ⟨lp,yS1,ys⟩ Q R .fn 1000 [.code (qae Tryz.f105)] (0,false) (qk5 lp capC ((s,()),(n,()),())) =
  (R (hd Tryz.f105 0) ((0:Nat),false) { env:=[(0,.yl lp),(1,.ptr 1099511627776 0),(2,.ptr 1099511627777 0),(4,.i 0)],blk:=[(1099511627776,.var [.sl syS s]),(1099511627777,.var [.i n])] }):=by kernel_rfl
theorem qus (s:List SyT) (n i:Int) (j:Nat) (q:Bool) (lp:Nat) (ys:List (DL yS1)) (Q:AExit->Nat × Bool->PS->Prop) (R:List Item->Nat × Bool->PS->Prop):syE tt G0 [] Tryz.f105.ntmps ⟨lp,yS1,ys⟩ Q (λ it g S=>R it g (qbr [0,1,2,4] [BIG,BIG+1] S)) .fn 1000 (hd Tryz.f105 0) (j,q) (⟨[(0,.yl lp),(1,.ptr BIG 0),(2,.ptr (BIG+1) 0),(4,.i i)],[(BIG,.var [.sl syS s]),(BIG+1,.var [.i n])]⟩) =
  (bc (decide (i<(s.length:Int))) ((0:Int)<=i/\i<=(s.length:Int)/\(0:Int)<=i/\i<i64.wrap (i+min n (↑(List.drop i.toNat s).length:Int))/\i64.wrap (i+min n (↑(List.drop i.toNat s).length:Int))<=i64.wrap (i+min n (↑(List.drop i.toNat s).length:Int))/\i64.wrap (i+min n (↑(List.drop i.toNat s).length:Int))<=(s.length:Int)/\i64.wrap (i+min n (↑(List.drop i.toNat s).length:Int))<1099511627776/\lp=(Yp.mk lp yS1 ys).l/\q=false/\(Yp.mk lp yS1 ys).ys[j]?=some (Px.part s (some i) (some (i64.wrap (i+min n (↑(List.drop i.toNat s).length:Int)))),())/\∀ (r:Bool),bc (!r) (Q AExit.ret (j+1,!r) { env:=[(0,.yl lp),(1,.ptr 1099511627776 0),(2,.ptr 1099511627777 0),(4,.i i),(5,.i (min n (↑(List.drop i.toNat s).length:Int))),(6,.i i),(7,.sl syS s),(8,.i (s.length:Int)),(9,.bool (decide (i<(s.length:Int)))),(13,.i n),(14,.sl syS s),(15,.i i),(16,.sl syS (List.drop i.toNat s)),(17,.i (↑(List.drop i.toNat s).length:Int)),(18,.i (min n (↑(List.drop i.toNat s).length:Int))),(19,.yl lp),(20,.sl syS s),(21,.i i),(22,.i i),(23,.i (min n (↑(List.drop i.toNat s).length:Int))),(24,.i (i64.wrap (i+min n (↑(List.drop i.toNat s).length:Int)))),(25,.i i),(26,.i (min n (↑(List.drop i.toNat s).length:Int))),(27,.i (i64.wrap (i+min n (↑(List.drop i.toNat s).length:Int)))),(28,.sl syS (Px.part s (some i) (some (i64.wrap (i+min n (↑(List.drop i.toNat s).length:Int)))))),(29,.bool r),(30,.bool !r)],blk:=[(1099511627776,.var [.sl syS s]),(1099511627777,.var [.i n])] }) (R (hd Tryz.f105 0) (j+1,!r) { env:=[(0,.yl lp),(1,.ptr 1099511627776 0),(2,.ptr 1099511627777 0),(4,.i (i64.wrap (i+n)))],blk:=[(1099511627776,.var [.sl syS s]),(1099511627777,.var [.i n])] })) (Q AExit.normal (j,q) { env:=[(0,.yl lp),(1,.ptr 1099511627776 0),(2,.ptr 1099511627777 0),(4,.i i),(6,.i i),(7,.sl syS s),(8,.i (s.length:Int)),(9,.bool (decide (i<(s.length:Int))))],blk:=[(1099511627776,.var [.sl syS s]),(1099511627777,.var [.i n])] })):=by kernel_rfl
theorem q7f (s:List SyT) (l:List SecT) (m:Int) (lp:Nat) (ys:List (DL yP)) (Q:AExit->Nat × Bool->PS->Prop) (R:List Item->Nat × Bool->PS->Prop):syE tt G0 [(55,.inl ctCp)] Tryz.f102.ntmps ⟨lp,yP,ys⟩ Q R .fn 1000 [.code (qae Tryz.f102)] (0,false) (qk5 lp q6x (((((),(l,()),(s,()),()),()),(m,()),()))) =
  (R (hd Tryz.f102 0) ((0:Nat),false) { env:=[(0,.yl lp),(1,.ptr 1099511627776 0),(2,.ptr 1099511627779 0),(3,.ptr 3 0),(5,.fn (103:Nat) [] [.ptr (1099511627777:Nat) 0,.ptr 1099511627778 0])],blk:=[(3,.var [.yl lp]),(1099511627776,.var [.fn (103:Nat) [] [.ptr (1099511627777:Nat) 0,.ptr 1099511627778 0]]),(1099511627777,.var [.sl seS l]),(1099511627778,.var [.sl syS s]),(1099511627779,.var [.i m])] }):=by kernel_rfl
theorem q7h (s:List SyT) (n:Int) (m:Int) (lp:Nat) (ys:List (DL yP)) (Q:AExit->Nat × Bool->PS->Prop) (R:List Item->Nat × Bool->PS->Prop):syE tt G0 [(55,.inl ctCp)] Tryz.f102.ntmps ⟨lp,yP,ys⟩ Q R .fn 1000 [.code (qae Tryz.f102)] (0,false) (qk5 lp q6y (((((),(s,()),(n,()),()),()),(m,()),()))) =
  (R (hd Tryz.f102 0) ((0:Nat),false) { env:=[(0,.yl lp),(1,.ptr 1099511627776 0),(2,.ptr 1099511627779 0),(3,.ptr 3 0),(5,.fn (105:Nat) [] [.ptr (1099511627777:Nat) 0,.ptr 1099511627778 0])],blk:=[(3,.var [.yl lp]),(1099511627776,.var [.fn (105:Nat) [] [.ptr (1099511627777:Nat) 0,.ptr 1099511627778 0]]),(1099511627777,.var [.sl syS s]),(1099511627778,.var [.i n]),(1099511627779,.var [.i m])] }):=by kernel_rfl
theorem q7g (m:Int) (l:List SyT) (j:Nat) (q:Bool) (lp:Nat) (ys:List (DL yP)) (Q:AExit->Nat × Bool->PS->Prop) (R:List Item->Nat × Bool->PS->Prop):syE tt G0 [(55,.inl ctCp)] Tryz.f102.ntmps ⟨lp,yP,ys⟩ Q R .ready 1000 (rnd Tryz.f102 0) (j,q) (qk6 [2,3] [6] [.ptr [.dat iI],.ptr [.yl lp]] yS1 ((m,()),((),()),()) (l,())) =
  (ctCp.pre (l,m,())/\lp=(Yp.mk lp yP ys).l/\q=false/\(Yp.mk lp yP ys).ys[j]?=some (((cpV l m).1),(cpV l m).2,())/\∀ (r:Bool),bc (!r) (Q AExit.ret (j+1,!r) { env:=[(4,.sl syS l),(6,.sl syS l),(2,.ptr 1099511627776 0),(3,.ptr 1099511627777 0),(7,.yl lp),(8,.sl syS l),(9,.i m),(10,SV.tup [.agg [.bool (cpV l m).1.1,.i (cpV l m).1.2.1,.i (cpV l m).1.2.2.1,.sl opS (cpV l m).1.2.2.2],.i (cpV l m).2]),(11,.agg [.bool (cpV l m).1.1,.i (cpV l m).1.2.1,.i (cpV l m).1.2.2.1,.sl opS (cpV l m).1.2.2.2]),(12,.i (cpV l m).2),(13,.bool r),(14,.bool !r)],blk:=[(1099511627776,.var [.i m]),(1099511627777,.var [.yl lp])] }) (Q AExit.normal (j+1,!r) { env:=[(4,.sl syS l),(6,.sl syS l),(2,.ptr 1099511627776 0),(3,.ptr 1099511627777 0),(7,.yl lp),(8,.sl syS l),(9,.i m),(10,SV.tup [.agg [.bool (cpV l m).1.1,.i (cpV l m).1.2.1,.i (cpV l m).1.2.2.1,.sl opS (cpV l m).1.2.2.2],.i (cpV l m).2]),(11,.agg [.bool (cpV l m).1.1,.i (cpV l m).1.2.1,.i (cpV l m).1.2.2.1,.sl opS (cpV l m).1.2.2.2]),(12,.i (cpV l m).2),(13,.bool r),(14,.bool !r)],blk:=[(1099511627776,.var [.i m]),(1099511627777,.var [.yl lp])] })):=by kernel_rfl
attribute [local irreducible] Go.Px.sy Go.Px.syE
theorem q8q {p:PaT} (h:(symV p).2≠0):psV p=([],(symV p).2):=by unfold psV;rw[decide_eq_true h]
theorem q8p {p:PaT} (h:(symV p).2=0) (hl:p.1=true):psV p=([],62):=by unfold psV;rw[decide_eq_false (by simp[h]),hl]
theorem q41 {p:PaT} (h:(symV p).2=0) (hl:p.1=false):psV p=((symV p).1,0):=by unfold psV;rw[decide_eq_false (by simp[h]),hl]
theorem ps_held:Held Tryz.prog G0 66 ctPs:=Held.run (cx0.k sym_held (fn:=Tryz.f63)) (fn:=Tryz.f66) rfl rfl ⟨by decide,by decide⟩ λ ⟨⟨li,m,o,l⟩,_⟩ _=>by
 refine (vc_ps li m o l _ _).mpr ⟨trivial,qag (λ h=>?_) (λ h=>qag (λ h2=>?_) (λ h2=>?_))⟩
 ·have h:(symV (li,m,o,l)).2≠0:=of_decide_eq_true h;have e:=q8q h;refine qdd (e:=syS) (et:=83) (z:=(symV (li,m,o,l)).2) ?_ ?_ rfl (by decide)
  ·show [_,_]=_;rw[e];rfl
  ·show [_]=_;rw[e]
 ·have h:(symV (li,m,o,l)).2=0:=by have:=of_decide_eq_false h;simpa using this
  have e:=q8p h h2;refine qdd (e:=syS) (et:=83) (z:=62) ?_ ?_ rfl (by decide)
  ·show [_,_]=_;rw[e];rfl
  ·show [_]=_;rw[e]
 ·have h:(symV (li,m,o,l)).2=0:=by have:=of_decide_eq_false h;simpa using this
  have e:=q41 h h2;refine qgo (e:=syS) (et:=83) (a:=1032768) (z:=0) (xs:=(symV (li,m,o,l)).1) ?_ ?_ rfl rfl rfl
  ·show [_,_]=_;rw[e]
  ·show [_]=_;rw[e]
theorem qbj {π:Nat->Option Nat}:MtL π [] []:=by simp only[MtL]
theorem qax {π:Nat->Option Nat} {s t:SV} {l r:List SV} (h1:Mt π s t) (h2:MtL π l r):MtL π (s::l) (t::r):=by simp only[MtL];exact ⟨t,r,rfl,h1,h2⟩
theorem qey {π:Nat->Option Nat} {i j o:Nat} (h:π i=some j):Mt π (.ptr i o) (.ptr j o):=by simp only[Mt];exact ⟨j,rfl,h⟩
theorem qth {π:Nat->Option Nat} {f:Nat} {a a' c c':List SV} (h1:MtL π a a') (h2:MtL π c c'):Mt π (.fn f a c) (.fn f a' c'):=by simp only[Mt];exact ⟨a',c',rfl,h1,h2⟩
def ctIns:CtrI:=⟨[.dat slS,.dat (.sl seS)],λ _=>True,λ _=>[.fn 103 [] [.ptr 0 0,.ptr 1 0]],λ x=>[(0,.var [.sl seS x.2.1]),(1,.var [.sl syS x.1])]⟩
theorem q0j:HeldI Tryz.prog G0 70 ctIns:=HeldI.run cx0 (fn:=Tryz.f70) rfl rfl ⟨by decide,by decide⟩ λ ⟨s,l,_⟩ _=>by
 refine (q7u s l _ _).mpr ⟨[(0,3),(1,2)],?_,?_,by decide,λ p hp=>?_⟩
 rotate_left 2
 ·simp only[List.mem_cons,List.not_mem_nil,or_false] at hp;rcases hp with rfl | rfl <;> decide
 all_goals
  have p0:piOf [(0,3),(1,2)] 0=some 3:=by decide
  have p1:piOf [(0,3),(1,2)] 1=some 2:=by decide
 ·exact qax (qth qbj (qax (qey p0) (qax (qey p1) qbj))) qbj
 ·exact ⟨.inl ⟨3,_,p0,rfl,_,rfl,qaz _ _ rfl⟩,.inl ⟨2,_,p1,rfl,_,rfl,qaz _ _ rfl⟩,trivial⟩
def ctCk:CtrI:=⟨[.dat slS,.dat iI],λ x=>1<=x.2.1,λ _=>[.fn 105 [] [.ptr 0 0,.ptr 1 0]],λ x=>[(0,.var [.sl syS x.1]),(1,.var [.i x.2.1])]⟩
theorem lt1_f {n:Int} (h:1<=n):decide (n<1)=false:=decide_eq_false (by omega)
theorem q6q:HeldI Tryz.prog G0 73 ctCk:=HeldI.run cx0 (fn:=Tryz.f73) rfl rfl ⟨by decide,by decide⟩ λ ⟨s,n,_⟩ hn=>by
 refine (q74 s n _ _).mpr ?_;rw[lt1_f hn,bc_f];refine ⟨[(0,2),(1,3)],?_,?_,by decide,λ p hp=>?_⟩
 rotate_left 2
 ·simp only[List.mem_cons,List.not_mem_nil,or_false] at hp;rcases hp with rfl | rfl <;> decide
 all_goals
  have p0:piOf [(0,2),(1,3)] 0=some 2:=by decide
  have p1:piOf [(0,2),(1,3)] 1=some 3:=by decide
 ·exact qax (qth qbj (qax (qey p0) (qax (qey p1) qbj))) qbj
 ·exact ⟨.inl ⟨2,_,p0,rfl,_,rfl,qaz _ _ rfl⟩,.inl ⟨3,_,p1,rfl,_,rfl,qaz _ _ rfl⟩,trivial⟩
def ctPaS:CtrI:=⟨[iS,.dat iI],λ _=>True,λ _=>[.fn 102 [] [.ptr 0 0,.ptr 1 0]],λ x=>[(0,.var [.fn 103 [] [.ptr BIG 0,.ptr (BIG+1) 0]]),(1,.var [.i x.2.1]),(BIG,.var [.sl seS x.1.2.1.1]),(BIG+1,.var [.sl syS x.1.2.2.1.1])]⟩
theorem qzo:HeldI Tryz.prog G0 69 ctPaS:=HeldI.run cx0 (fn:=Tryz.f69) rfl rfl ⟨by decide,by decide⟩ λ ⟨⟨⟨⟩,⟨l,⟨⟩⟩,⟨s,⟨⟩⟩,⟨⟩⟩,m,⟨⟩⟩ _=>by
 refine (q3p s l m _ _).mpr ⟨[(0,2),(1,3)],?_,?_,by decide,λ p hp=>?_⟩
 rotate_left 2
 ·simp only[List.mem_cons,List.not_mem_nil,or_false] at hp;rcases hp with rfl | rfl <;> decide
 all_goals
  have p0:piOf [(0,2),(1,3)] 0=some 2:=by decide
  have p1:piOf [(0,2),(1,3)] 1=some 3:=by decide
  have p2:piOf [(0,2),(1,3)] BIG=some BIG:=by decide
  have p3:piOf [(0,2),(1,3)] (BIG+1)=some (BIG+1):=by decide
 ·exact qax (qth qbj (qax (qey p0) (qax (qey p1) qbj))) qbj
 ·exact ⟨.inl ⟨2,_,p0,rfl,_,rfl,qax (qth qbj (qax (qey p2) (qax (qey p3) qbj))) qbj⟩,.inl ⟨3,_,p1,rfl,_,rfl,qaz _ _ rfl⟩,.inl ⟨BIG,_,p2,rfl,_,rfl,qaz _ _ rfl⟩,.inl ⟨BIG+1,_,p3,rfl,_,rfl,qaz _ _ rfl⟩,trivial⟩
def ctPaK:CtrI:=⟨[iK,.dat iI],λ _=>True,λ _=>[.fn 102 [] [.ptr 0 0,.ptr 1 0]],λ x=>[(0,.var [.fn 105 [] [.ptr BIG 0,.ptr (BIG+1) 0]]),(1,.var [.i x.2.1]),(BIG,.var [.sl syS x.1.2.1.1]),(BIG+1,.var [.i x.1.2.2.1.1])]⟩
theorem qzp:HeldI Tryz.prog G0 69 ctPaK:=HeldI.run cx0 (fn:=Tryz.f69) rfl rfl ⟨by decide,by decide⟩ λ ⟨⟨⟨⟩,⟨s,⟨⟩⟩,⟨n,⟨⟩⟩,⟨⟩⟩,m,⟨⟩⟩ _=>by
 refine (q3q s n m _ _).mpr ⟨[(0,2),(1,3)],?_,?_,by decide,λ p hp=>?_⟩
 rotate_left 2
 ·simp only[List.mem_cons,List.not_mem_nil,or_false] at hp;rcases hp with rfl | rfl <;> decide
 all_goals
  have p0:piOf [(0,2),(1,3)] 0=some 2:=by decide
  have p1:piOf [(0,2),(1,3)] 1=some 3:=by decide
  have p2:piOf [(0,2),(1,3)] BIG=some BIG:=by decide
  have p3:piOf [(0,2),(1,3)] (BIG+1)=some (BIG+1):=by decide
 ·exact qax (qth qbj (qax (qey p0) (qax (qey p1) qbj))) qbj
 ·exact ⟨.inl ⟨2,_,p0,rfl,_,rfl,qax (qth qbj (qax (qey p2) (qax (qey p3) qbj))) qbj⟩,.inl ⟨3,_,p1,rfl,_,rfl,qaz _ _ rfl⟩,.inl ⟨BIG,_,p2,rfl,_,rfl,qaz _ _ rfl⟩,.inl ⟨BIG+1,_,p3,rfl,_,rfl,qaz _ _ rfl⟩,trivial⟩
abbrev GEz (f:Nat) (fn:Func) (Y:Yp) (K:AExit->Nat × Bool->PS->Prop) (it:List Item) (g:Nat × Bool) (S:PS):Prop:=Px.GoodE Tryz.prog G0 f fn.ntmps .fn Y K it g S
abbrev yL (l:List SyT):DL yS1:=(l,())
abbrev cutS (s:List SyT) (a b:Int):List SyT:=Px.part s (some a) (some b)
def secF (s:List SyT) (l:List SecT):List (List SyT):=l.map λ x=>cutS s x.2.1 x.2.2.1
def qit (s:List SyT) (l:List SecT):Prop:=s.length<16777216/\l.length<1000000/\∀ x∈l,0<=x.2.1/\x.2.1<x.2.2.1/\x.2.2.1<=s.length
theorem qxc {l:List SecT} {i:Nat} (h:i<l.length):gt seS l i=l[i]:=gtE (e:=seS) h
theorem qgy {α:Type} {l:List α} {i:Nat} (h:i<l.length):l.drop i=l[i]::l.drop (i+1):=List.drop_eq_getElem_cons h
theorem qt5 {α:Type} {ys:List α} {j:Nat} {y:α} {r:List α} (h:ys.drop j=y::r):j<ys.length/\ys[j]?=some y/\ys.drop (j+1)=r:=by
 have hj:j<ys.length:=by
  rcases Nat.lt_or_ge j ys.length with q | q
  ·exact q
  ·rw[List.drop_eq_nil_of_le q] at h;cases h
 rw[qgy hj] at h;exact ⟨hj,by rw[List.getElem?_eq_getElem hj];exact congrArg some (List.cons.inj h).1,(List.cons.inj h).2⟩
theorem qqv {α:Type} {ys:List α} {j:Nat} (hj:j<=ys.length) (h:ys.drop j=[]):j=ys.length:=by
 have:=congrArg List.length h;simp at this;omega
theorem q54 (s:List SyT) (l:List SecT) (hp:qit s l) (lp:Nat) (ys:List (DL yS1)):∀ (k i j:Nat),l.length-i=k->i<=l.length->j<=ys.length->ys.drop j=(secF s (l.drop i)).map yL ->
  GEz 103 Tryz.f103 ⟨lp,yS1,ys⟩ (endY ys.length) (hd Tryz.f103 0) (j,false) ⟨[(0,.yl lp),(1,.ptr BIG 0),(2,.ptr (BIG+1) 0),(6,.sl seS l),(7,.i (l.length:Nat)),(8,.i (i:Nat))],[(BIG,.var [.sl seS l]),(BIG+1,.var [.sl syS s])]⟩:=by
 obtain ⟨hs,hl,hx⟩:=hp;intro k
 induction k with
 | zero=>
  intro i j hk hi hj hd;refine qms cx0 (quh s l (i:Nat) j false lp ys _ _) ?_;rw[decide_eq_false (show ¬ (i:Int)<(l.length:Int) by omega),bc_f];rw[show l.drop i=[] from List.drop_of_length_le (by omega)] at hd;exact .inr (qqv hj hd)
 | succ k ih=>
  intro i j hk hi hj hd;have hil:i<l.length:=by omega
  have hb:=hx _ (List.getElem_mem hil);refine qms cx0 (quh s l (i:Nat) j false lp ys _ _) ?_;rw[qgy hil] at hd;obtain ⟨h1,h2,h3⟩:=qt5 (y:=yL (cutS s l[i].2.1 l[i].2.2.1)) (r:=(secF s (l.drop (i+1))).map yL) hd;rw[decide_eq_true (show (i:Int)<(l.length:Int) by omega),bc_t,Int.toNat_natCast,qxc hil,IntWalk.i64_in ((i:Int)+1) (by omega)];refine ⟨by omega,by omega,hb.1,hb.2.1,Int.le_refl _,hb.2.2,Int.lt_of_le_of_lt hb.2.2 (by omega),rfl,rfl,h2,λ r=>?_⟩
  cases r with
  | false=>exact qag (λ _=>.inl rfl) (λ h=>by cases h)
  | true=>exact qag (λ h=>by cases h) (λ _=>ih (i+1) (j+1) (by omega) (by omega) (by omega) h3)
def q9d:CtrY:=⟨capS,λ x=>qit x.2.1.1 x.1.1,yS1,λ x=>(secF x.2.1.1 x.1.1).map yL⟩
theorem q55:HeldY Tryz.prog G0 103 q9d:=HeldY.of (fn:=Tryz.f103) rfl rfl rfl ⟨by decide,by decide⟩ λ ⟨⟨l,_⟩,⟨s,_⟩,_⟩ hp lp=>by
 have hp:qit s l:=hp;exact qdq cx0 (q7s s l lp _ _ _) (q54 s l hp lp _ _ 0 0 rfl (Nat.zero_le _) (Nat.zero_le _) rfl)
def qlp (s:List SyT) (n:Nat):Nat->Nat->List (List SyT)
 | 0,_=>[]
 | f+1,i=>if i<s.length then cutS s (i:Nat) ((i+min n (s.length-i):Nat):Int)::qlp s n f (i+n) else []
def qoh (s:List SyT) (n:Int):Prop:=s.length<16777216/\1<=n/\n<=4096
theorem q6p (s:List SyT) (n:Nat) (hs:s.length<16777216) (hn:1<=n) (hn2:n<=4096) (lp:Nat) (ys:List (DL yS1)):∀ (f i j:Nat),s.length<=i+f->i<=s.length+4096->j<=ys.length->ys.drop j=(qlp s n f i).map yL ->
  GEz 105 Tryz.f105 ⟨lp,yS1,ys⟩ (endY ys.length) (hd Tryz.f105 0) (j,false) ⟨[(0,.yl lp),(1,.ptr BIG 0),(2,.ptr (BIG+1) 0),(4,.i (i:Nat))],[(BIG,.var [.sl syS s]),(BIG+1,.var [.i (n:Nat)])]⟩:=by
 intro f
 induction f with
 | zero=>
  intro i j hk hi hj hd;refine qms cx0 (qus s (n:Nat) (i:Nat) j false lp ys _ _) ?_;rw[decide_eq_false (show ¬ (i:Int)<(s.length:Int) by omega),bc_f];exact .inr (qqv hj hd)
 | succ f ih=>
  intro i j hk hi hj hd;refine qms cx0 (qus s (n:Nat) (i:Nat) j false lp ys _ _) ?_;by_cases hil:i<s.length
  ·rw[qlp,if_pos hil,List.map_cons] at hd;obtain ⟨h1,h2,h3⟩:=qt5 hd;have e:IntKind.i64.wrap ((i:Int)+min (n:Int) ((List.drop i s).length:Int))=((i+min n (s.length-i):Nat):Int):=by
    rw[List.length_drop,IntWalk.i64_in _ (by omega)];omega
   rw[decide_eq_true (show (i:Int)<(s.length:Int) by omega),bc_t,Int.toNat_natCast,e,IntWalk.i64_in ((i:Int)+n) (by omega)];refine ⟨by omega,by omega,by omega,by omega,Int.le_refl _,by omega,by omega,rfl,rfl,h2,λ r=>?_⟩
   cases r with
   | false=>exact qag (λ _=>.inl rfl) (λ h=>by cases h)
   | true=>exact qag (λ h=>by cases h) (λ _=>ih (i+n) (j+1) (by omega) (by omega) (by omega) h3)
  ·rw[qlp,if_neg hil] at hd;rw[decide_eq_false (show ¬ (i:Int)<(s.length:Int) by omega),bc_f];exact .inr (qqv hj hd)
def qby (s:List SyT) (n:Int):List (List SyT):=qlp s n.toNat s.length 0
def q9f:CtrY:=⟨capC,λ x=>qoh x.1.1 x.2.1.1,yS1,λ x=>(qby x.1.1 x.2.1.1).map yL⟩
theorem q09:HeldY Tryz.prog G0 105 q9f:=HeldY.of (fn:=Tryz.f105) rfl rfl rfl ⟨by decide,by decide⟩ λ ⟨⟨s,_⟩,⟨n,_⟩,_⟩ hp lp=>by
 obtain ⟨h1,h2,h3⟩:qoh s n:=hp;obtain ⟨k,rfl⟩:=Int.eq_ofNat_of_zero_le (Int.le_trans (by decide:(0:Int)<=1) h2);have g:=q6p s k h1 (by omega) (by omega) lp ((qlp s k s.length 0).map yL) s.length 0 0 (by omega) (by omega) (Nat.zero_le _) rfl;exact qdq cx0 (q73 s (k:Nat) lp _ _ _) g
abbrev KP (lp:Nat):List AK:=[.ptr [.dat iI],.ptr [.yl lp]]
abbrev KL:List AK:=[.ptr [.nl],.ptr [.dat iI],.ptr [.row 31 paS]]
theorem cxPt:CxOK Tryz.prog tt G0 [(55,.inl ctCp)]:=cx0.k qxw (fn:=Tryz.f55)
set_option maxRecDepth 100000
theorem q19 (j:Nat) (q:Bool) (lp:Nat) (ys:List (DL yP)) (Q:AExit->Nat × Bool->PS->Prop) (R:List Item->Nat × Bool->PS->Prop):syE tt G0 [(55,.inl ctCp)] Tryz.f102.ntmps ⟨lp,yP,ys⟩ Q R .fn 1000 (rfK Tryz.f102 0) (j,q) (⟨[],[]⟩) =
  (Q AExit.normal (j,q) { env:=[],blk:=[] }):=by kernel_rfl
theorem q18 (j:Nat) (q:Bool) (lp:Nat) (ys:List (DL yP)) (Q:AExit->Nat × Bool->PS->Prop) (R:List Item->Nat × Bool->PS->Prop):syE tt G0 [(55,.inl ctCp)] Tryz.f102.ntmps ⟨lp,yP,ys⟩ Q R .fn 1000 (qkv .ret++rfK Tryz.f102 0) (j,q) (⟨[],[]⟩) =
  (Q AExit.ret (j,q) { env:=[],blk:=[] }):=by kernel_rfl
theorem q7z (s:List SyT) (l:List SecT) (m:Int) (Q:QT) (R:RT):sA [] Tryz.f68 Q R [.code (qae Tryz.f68)] (qbd [pS] (((),((((),(l,()),(s,()),()),()),(m,()),())),())) =
  (R (hd Tryz.f68 0) { env:=[(0,.fn (102:Nat) [] [.ptr (1099511627776:Nat) 0,.ptr 1099511627779 0]),(2,.ptr 2 0),(3,.ptr 3 0),(4,.ptr 4 0),(7,.fn (102:Nat) [] [.ptr (1099511627776:Nat) 0,.ptr 1099511627779 0])],blk:=[(2,.var [.nils]),(3,.var [.i iI.dflt]),(4,.var [.nils]),(1099511627776,.var [.fn (103:Nat) [] [.ptr (1099511627777:Nat) 0,.ptr 1099511627778 0]]),(1099511627777,.var [.sl seS l]),(1099511627778,.var [.sl syS s]),(1099511627779,.var [.i m])] }):=by kernel_rfl
theorem q71 (s:List SyT) (n:Int) (m:Int) (Q:QT) (R:RT):sA [] Tryz.f68 Q R [.code (qae Tryz.f68)] (qbd [pK] (((),((((),(s,()),(n,()),()),()),(m,()),())),())) =
  (R (hd Tryz.f68 0) { env:=[(0,.fn (102:Nat) [] [.ptr (1099511627776:Nat) 0,.ptr 1099511627779 0]),(2,.ptr 2 0),(3,.ptr 3 0),(4,.ptr 4 0),(7,.fn (102:Nat) [] [.ptr (1099511627776:Nat) 0,.ptr 1099511627779 0])],blk:=[(2,.var [.nils]),(3,.var [.i iI.dflt]),(4,.var [.nils]),(1099511627776,.var [.fn (105:Nat) [] [.ptr (1099511627777:Nat) 0,.ptr 1099511627778 0]]),(1099511627777,.var [.sl syS s]),(1099511627778,.var [.i n]),(1099511627779,.var [.i m])] }):=by kernel_rfl
theorem q70 (o:List PaT) (e0:Int) (p:PaT) (e:Int) (j:Nat) (q:Bool) (Q:AExit->Nat × Bool->PS->Prop) (R:List Item->Nat × Bool->PS->Prop):syE tt G0 [] Tryz.f68.ntmps Y0 Q R .ready 1000 (rnd Tryz.f68 0) (j,q) (qk6 [2,3,4] [8,9] KL yP (((),()),((e0,()),((o,()),()))) (p,e,())) =
  (bc (decide (e≠0)) (Q AExit.ret (j,q) { env:=[(5,.ptr 5 0),(6,.i e),(8,.agg [.bool p.1,.i p.2.1,.i p.2.2.1,.sl opS p.2.2.2]),(9,.i e),(2,.ptr 1099511627776 0),(3,.ptr 1099511627777 0),(4,.ptr 1099511627778 0),(10,.i e),(11,.bool (decide (e≠0))),(12,.i e)],blk:=[(5,.var [.bool p.1,.i p.2.1,.i p.2.2.1,.sl opS p.2.2.2]),(1099511627776,.var [.nils]),(1099511627777,.var [.i e]),(1099511627778,.var [.win true paS 1099511627779 0 o.length]),(1099511627779,.row 31 paS o)] }) (0+1<=([p]:List paS.D).length/\o.length=o.length/\(0:Nat)=(0:Nat)/\o.length+(([p]:List paS.D)).length<2 ^ 30/\(48:Nat)<=2 ^ 10/\Q AExit.normal (j,q) { env:=[(5,.ptr 5 0),(6,.i e),(8,.agg [.bool p.1,.i p.2.1,.i p.2.2.1,.sl opS p.2.2.2]),(9,.i e),(2,.ptr 1099511627776 0),(3,.ptr 1099511627777 0),(4,.ptr 1099511627778 0),(10,.i e),(11,.bool (decide (e≠0))),(13,.dead),(14,.agg [.bool p.1,.i p.2.1,.i p.2.2.1,.sl opS p.2.2.2]),(15,.win true paS 15 0 (1:Nat)),(16,.win true paS 16 0 (o.length+(([p]:List paS.D)).length))],blk:=[(5,.var [.bool p.1,.i p.2.1,.i p.2.2.1,.sl opS p.2.2.2]),(15,.row 31 paS ([p]:List paS.D)),(16,.row 31 paS (o++([p]:List paS.D))),(1099511627776,.var [.nils]),(1099511627777,.var [.i e0]),(1099511627778,.var [.win true paS 16 0 (o.length+(([p]:List paS.D)).length)])] })):=by kernel_rfl
theorem q2d (o:List PaT) (e0:Int) (j:Nat) (q:Bool) (Q:AExit->Nat × Bool->PS->Prop) (R:List Item->Nat × Bool->PS->Prop):syE tt G0 [] Tryz.f68.ntmps Y0 Q R .fn 1000 (rfK Tryz.f68 0) (j,q) (⟨[(2,.ptr 2 0),(3,.ptr 3 0),(4,.ptr 4 0)],[(2,.var [.nils]),(3,.var [.i e0]),(4,.var [.win true paS 1086016 0 o.length]),(1086016,.row 31 paS o)]⟩) =
  (Q AExit.ret (j,q) { env:=[(2,.ptr 2 0),(3,.ptr 3 0),(4,.ptr 4 0),(17,.win true paS 1086016 0 o.length)],blk:=[(2,.var [.win true paS 1086016 0 o.length]),(3,.var [.i 0]),(4,.var [.win true paS 1086016 0 o.length]),(1086016,.row 31 paS o)] }):=by kernel_rfl
theorem q2c (e:Int) (j:Nat) (q:Bool) (Q:AExit->Nat × Bool->PS->Prop) (R:List Item->Nat × Bool->PS->Prop):syE tt G0 [] Tryz.f68.ntmps Y0 Q R .fn 1000 (qkv .ret++rfK Tryz.f68 0) (j,q) (⟨[(2,.ptr 2 0),(3,.ptr 3 0)],[(2,.var [.nils]),(3,.var [.i e])]⟩) =
  (Q AExit.ret (j,q) { env:=[(2,.ptr 2 0),(3,.ptr 3 0)],blk:=[(2,.var [.nils]),(3,.var [.i e])] }):=by kernel_rfl
end Go.Proofs.YtdeacfammdjajaaGreatDoor
