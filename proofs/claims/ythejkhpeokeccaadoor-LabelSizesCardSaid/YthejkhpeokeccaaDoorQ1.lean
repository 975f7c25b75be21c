/-
  A part of the proof: what pieces of the program give; conditions: those of each theorem.
-/
import Derived.Test.YthejkhpeokeccaaDoorQ0
import Derived.Test.YthejkhpeokeccaaDoorHD
set_option linter.unusedVariables false
set_option linter.unusedSimpArgs false
namespace Go.Proofs.YthejkhpeokeccaaDoor
open Go.Px Go.Ax
set_option maxRecDepth 100000
attribute [local irreducible] Go.Px.sy Go.Px.syE
def qxb (x:LiT):Prop:=x.1.length<1099511627776/\x.2.1.length<1099511627776/\x.2.2.length<1099511627776
def ct_same:Ctr:=⟨[liS,liS],fun x=>qxb x.1,fun x=>[.bool (decide ((show LiT from x.1)=x.2.1))],fun _=>[]⟩
theorem qwr:Held Tryd.prog G0 39 ct_same:=by
 refine Held.run cxQe (fn:=Tryd.f39) rfl rfl ⟨by decide,by decide⟩ ?_;rintro ⟨⟨w1,m1,l1⟩,⟨w2,m2,l2⟩,⟨⟩⟩ hp;obtain ⟨p1,p2,p3⟩:qxb (w1,m1,l1):=hp;have fin:∀ (b:Bool) blk,decide ((w1,m1,l1)=(w2,m2,l2))=b->QC ct_same ((w1,m1,l1),(w2,m2,l2),()) [SV.bool b] blk:=fun b blk h=>QC.flat (by show [SV.bool (decide ((w1,m1,l1)=(w2,m2,l2)))]=_;rw[h]) rfl rfl
 refine (q35 w1 w2 m1 m2 l1 l2 _ _).mpr ⟨p1,qap (fun h=>⟨p2,qap (fun h2=>⟨p3,fin _ _ ?_⟩) (fun h2=>⟨rfl,fin _ _ ?_⟩)⟩) (fun h=>⟨rfl,rfl,fin _ _ ?_⟩)⟩
 ·have h:w1=w2:=of_decide_eq_true h;have h2:m1=m2:=of_decide_eq_true h2
  show decide _=decide (l1=l2)
  simp[h,h2]
 ·have h2:¬ m1=m2:=of_decide_eq_false h2;simp[h2]
 ·have h:¬ w1=w2:=of_decide_eq_false h;simp[h]
def putF {α:Type} (l:List α) (a b:Nat) (z:α):List α:=l.take a++List.replicate b z++l.drop a
theorem quv {α:Type} (p q:List α) (b:Nat) (z:α):setRow (p++List.replicate (q.length+b) z) (p.length+b) q=p++List.replicate b z++q:=by
 unfold setRow;have e1:List.take (p.length+b) (p++List.replicate (q.length+b) z)=p++List.replicate b z:=by
  rw[List.take_append,List.take_of_length_le (Nat.le_add_right _ _),List.take_replicate]
  congr 2;omega
 have e2:List.drop (p.length+b+q.length) (p++List.replicate (q.length+b) z)=[]:=List.drop_of_length_le (by simp;omega);rw[e1,e2,List.append_nil]
theorem qmy {α:Type} (l:List α) (a b:Nat) (z:α) (ha:a<=l.length):setRow (setRow (List.replicate (l.length+b) z) 0 (List.take (l.length+b) (List.take a l))) (a+b) (List.take (l.length+b-(a+b)) (List.drop a l))=putF l a b z:=by
 have e1:List.take (l.length+b) (List.take a l)=List.take a l:=List.take_of_length_le (by rw[List.length_take];omega);have e2:List.take (l.length+b-(a+b)) (List.drop a l)=List.drop a l:=List.take_of_length_le (by rw[List.length_drop];omega);rw[e1,e2];have l1:(List.take a l).length=a:=by rw[List.length_take];omega
 have l2:(List.drop a l).length=l.length-a:=List.length_drop;have f:setRow (List.replicate (l.length+b) z) 0 (List.take a l)=List.take a l++List.replicate ((List.drop a l).length+b) z:=by
  unfold setRow;rw[l1,l2,List.take_zero,List.nil_append,Nat.zero_add,List.drop_replicate]
  congr 2;omega
 rw[f];have:=quv (List.take a l) (List.drop a l) b z;rw[l1] at this;exact this
theorem qta {α:Type} (l:List α) (a b:Nat) (z:α) (ha:a<=l.length):(putF l a b z).length=l.length+b:=by
 unfold putF;simp;omega
def qu0 {α:Type} (l:List α) (a b:Int):Prop:=(0<=a/\a<=l.length)/\0<=b/\l.length+b<16777216
def ct_putW:Ctr:=⟨[.sl u4,iI,iI],fun x=>qu0 (show List Int from x.1) x.2.1 x.2.2.1,fun x=>[.win true u4 0 0 (putF (show List Int from x.1) x.2.1.toNat x.2.2.1.toNat 0).length],fun x=>[.row 50 u4 (putF (show List Int from x.1) x.2.1.toNat x.2.2.1.toNat 0)]⟩
def ct_putM:Ctr:=⟨[.sl .bool,iI,iI],fun x=>qu0 (show List Bool from x.1) x.2.1 x.2.2.1,fun x=>[.win true .bool 0 0 (putF (show List Bool from x.1) x.2.1.toNat x.2.2.1.toNat false).length],fun x=>[.row 4 .bool (putF (show List Bool from x.1) x.2.1.toNat x.2.2.1.toNat false)]⟩
theorem q0g (l:List Int) (a b:Nat) (ha:a<=l.length) (hb:l.length+b<16777216) (R:List Item->PS->Prop):sy tt G0 [] Tryd.f34.ntmps Tryd.f34.results.toList (QC ct_putW (l,(a:Int),(b:Int),())) R 1000 [.code (qaf Tryd.f34)] (entry [.sl u4,iI,iI] (l,(a:Int),(b:Int),())):=by
 refine (q37 l a b _ _).mpr ?_;have w1:IntKind.i64.wrap ((l.length:Int)+(b:Int))=((l.length+b:Nat):Int):=by rw[IntWalk.i64_in _ (by omega)];omega
 have w2:IntKind.i64.wrap ((a:Int)+(b:Int))=((a+b:Nat):Int):=by rw[IntWalk.i64_in _ (by omega)];omega
 have sl1:(setRow (List.replicate (l.length+b) ((0:Int))) 0 (List.take (l.length+b) (List.take a l))).length=l.length+b:=by
  unfold setRow;simp;omega
 rw[w1,w2];simp only[Int.toNat_natCast];refine ⟨by omega,by omega,(show ((l.length+b:Nat):Int)<16777216 by omega),(show (_:Int)*((l.length+b:Nat):Int)<=281474976710656 by omega),by omega,by omega,(show 0+(l.length+b)<=(List.replicate (l.length+b) ((0:Int))).length by simp),by omega,by omega,(show 0+(l.length+b)<=(setRow (List.replicate (l.length+b) ((0:Int))) 0 (List.take (l.length+b) (List.take a l))).length by omega),by omega,by omega,(show 0+(a+b)+(l.length+b-(a+b))<=(setRow (List.replicate (l.length+b) ((0:Int))) 0 (List.take (l.length+b) (List.take a l))).length by omega),?_⟩;have e:=qmy l a b ((0:Int)) ha;refine qid (e:=u4) (et:=50) (a:=12) (xs:=putF l a b ((0:Int))) rfl rfl rfl (by rw[qta l a b _ ha]) ?_;rw[Nat.zero_add]
 show some (LB.row 50 u4 _)=_
 rw[<- e];rfl
theorem qw3:Held Tryd.prog G0 34 ct_putW:=by
 refine Held.run cx0 (fn:=Tryd.f34) rfl rfl ⟨by decide,by decide⟩ ?_;rintro ⟨l,a,b,⟨⟩⟩ hp;obtain ⟨⟨a0,a1⟩,b0,b1⟩:qu0 (show List Int from l) a b:=hp;obtain ⟨A,rfl⟩:=Int.eq_ofNat_of_zero_le a0;obtain ⟨B,rfl⟩:=Int.eq_ofNat_of_zero_le b0;have a1:(A:Int)<=(List.length l:Int):=a1;have b1:(List.length l:Int)+(B:Int)<16777216:=b1;exact q0g l A B (by omega) (by omega) _
theorem q0h (l:List Bool) (a b:Nat) (ha:a<=l.length) (hb:l.length+b<16777216) (R:List Item->PS->Prop):sy tt G0 [] Tryd.f35.ntmps Tryd.f35.results.toList (QC ct_putM (l,(a:Int),(b:Int),())) R 1000 [.code (qaf Tryd.f35)] (entry [.sl .bool,iI,iI] (l,(a:Int),(b:Int),())):=by
 refine (q38 l a b _ _).mpr ?_;have w1:IntKind.i64.wrap ((l.length:Int)+(b:Int))=((l.length+b:Nat):Int):=by rw[IntWalk.i64_in _ (by omega)];omega
 have w2:IntKind.i64.wrap ((a:Int)+(b:Int))=((a+b:Nat):Int):=by rw[IntWalk.i64_in _ (by omega)];omega
 have sl1:(setRow (List.replicate (l.length+b) (false)) 0 (List.take (l.length+b) (List.take a l))).length=l.length+b:=by
  unfold setRow;simp;omega
 rw[w1,w2];simp only[Int.toNat_natCast];refine ⟨by omega,by omega,(show ((l.length+b:Nat):Int)<16777216 by omega),(show (_:Int)*((l.length+b:Nat):Int)<=281474976710656 by omega),by omega,by omega,(show 0+(l.length+b)<=(List.replicate (l.length+b) (false)).length by simp),by omega,by omega,(show 0+(l.length+b)<=(setRow (List.replicate (l.length+b) (false)) 0 (List.take (l.length+b) (List.take a l))).length by omega),by omega,by omega,(show 0+(a+b)+(l.length+b-(a+b))<=(setRow (List.replicate (l.length+b) (false)) 0 (List.take (l.length+b) (List.take a l))).length by omega),?_⟩;have e:=qmy l a b (false) ha;refine qid (e:=.bool) (et:=4) (a:=12) (xs:=putF l a b (false)) rfl rfl rfl (by rw[qta l a b _ ha]) ?_;rw[Nat.zero_add]
 show some (LB.row 4 .bool _)=_
 rw[<- e];rfl
theorem qw4:Held Tryd.prog G0 35 ct_putM:=by
 refine Held.run cx0 (fn:=Tryd.f35) rfl rfl ⟨by decide,by decide⟩ ?_;rintro ⟨l,a,b,⟨⟩⟩ hp;obtain ⟨⟨a0,a1⟩,b0,b1⟩:qu0 (show List Bool from l) a b:=hp;obtain ⟨A,rfl⟩:=Int.eq_ofNat_of_zero_le a0;obtain ⟨B,rfl⟩:=Int.eq_ofNat_of_zero_le b0;have a1:(A:Int)<=(List.length l:Int):=a1;have b1:(List.length l:Int)+(B:Int)<16777216:=b1;exact q0h l A B (by omega) (by omega) _
def mvF (f b x:Int):Int:=if f<=x then IntKind.i64.wrap (x+b) else x
def q5k (l:List Int):Prop:=l.length<16777216
abbrev IQ (x:List Int):List SV->List (Nat × LB)->Prop:=fun rs _=>MtL (fun _=>none) [.sl iI x] rs
section
variable (l:List Int) (f b:Int)
end
theorem qqe:CxOK Tryd.prog tt G0 [(58,.inl ctNumb)]:=cx0.cons qpi (fn:=Tryd.f58) rfl rfl rfl
theorem cxMb:CxOK Tryd.prog tt G0 [(59,.inl ctMb)]:=cx0.cons qxz (fn:=Tryd.f59) rfl rfl rfl
def rlN (a:Int) (b:List Int):Int:=IntKind.i64.wrap (a+IntKind.i64.wrap (4*qam b))
def rlF:Nat->Int->List Int->List Int
 | 0,_,_=>[]
 | k+1,a,b=>rlN a b::rlF k (rlN a b) (b.drop 2)
def q5i (b:List Int):Prop:=b.length % 2=0/\b.length<1000000000
def ct_rl:Ctr:=⟨[.sl uB],fun x=>q5i x.1,fun x=>[.sl iI (rlF (List.length x.1 / 2) 0 x.1)],fun _=>[]⟩
theorem q0a (r:List Int):∀ (k:Nat) (b o:List Int) (a:Int),b.length=2*k->o.length+k<1000000000->o++rlF k a b=r ->
  GD 61 Tryd.f61 (IQ r) (hd Tryd.f61 0) ⟨[(0,.sl uB b),(3,.win true iI 3 0 o.length),(4,.int .i64 a)],[(3,.row 3 iI o)]⟩:=by
 intro k
 induction k with
 | zero=>
  intro b o a hb ho hr;rw[rlF,List.append_nil] at hr;subst hr;refine frzG (i:=3) (e:=iI) (et:=3) (xs:=o) rfl rfl ?_;have e:GD 61 Tryd.f61 (IQ o) (hd Tryd.f61 0) ⟨[(0,.sl uB b),(3,.sl iI (winL iI 0 o.length o)),(4,.int .i64 a)],[]⟩:=by
   refine qae qqe (q7w b _ a _ _) ?_;rw[decide_eq_false (by omega),bc_f,winA (e:=iI)];exact ⟨_,_,rfl,.inl rfl,rfl⟩
  exact e.only ⟨rfl,rfl,rfl,trivial⟩ trivial
 | succ k ih=>
  intro b o a hb ho hr;have nx:=ih (b.drop 2) (o++[rlN a b]) (rlN a b) (by rw[List.length_drop];omega) (by rw[List.length_append,List.length_singleton];omega) (by rw[<- hr,rlF,List.append_assoc];rfl);refine qae qqe (q7x b o a _ _) ?_;rw[decide_eq_true (show (0:Int)<(b.length:Int) by omega),bc_t];exact ⟨(show 2<=b.length by omega),Nat.le_refl 1,rfl,rfl,(show o.length+1<2 ^ 30 by omega),by decide,by decide,by omega,nx.onlyR [(3,18)] rfl ⟨rfl,by rw[List.length_append];rfl,rfl,trivial⟩ ⟨rfl,trivial⟩⟩
theorem q44:Held Tryd.prog G0 61 ct_rl:=by
 refine Held.of qqe (fn:=Tryd.f61) rfl rfl ⟨by decide,by decide⟩ ?_;rintro ⟨b,⟨⟩⟩ hp;obtain ⟨h2,hl⟩:q5i b:=hp;refine qae qqe (q36 b _ _) ?_;have e:GD 61 Tryd.f61 (IQ (rlF (b.length / 2) 0 b)) (hd Tryd.f61 0) ⟨[(0,.sl uB b),(3,.nils),(4,.int .i64 0)],[]⟩:=by
  refine qae qqe (q7y b 0 _ _) ?_;refine qap (fun h=>?_) (fun h=>?_)
  ·have h:0<b.length:=by have:=of_decide_eq_true h;omega
   obtain ⟨k,hk⟩:∃ k,b.length / 2=k+1:=⟨b.length / 2-1,by omega⟩;have nx:=q0a (rlF (b.length / 2) 0 b) k (b.drop 2) [rlN 0 b] (rlN 0 b) (by rw[List.length_drop];omega) (by simp;omega) (by rw[hk,rlF];rfl);exact ⟨(show 2<=b.length by omega),Nat.le_refl 1,(show 1<2 ^ 30 by decide),by decide,by decide,by omega,nx.onlyR [(3,18)] rfl ⟨rfl,rfl,rfl,trivial⟩ ⟨rfl,trivial⟩⟩
  ·have h:=of_decide_eq_false h;have e:b=[]:=List.eq_nil_of_length_eq_zero (by omega);subst e;exact ⟨_,_,rfl,.inr ⟨rfl,rfl⟩,rfl⟩
 exact (e.post fun rs blk hq=>QC.mt hq rfl).only ⟨rfl,rfl,rfl,trivial⟩ trivial
def pkF (l:List Bool):Nat->List Int
 | 0=>List.replicate ((l.length+7) / 8) 0
 | i+1=>if gtM l i=true then (pkF l i).set (i / 8) (bitI .or .u8 (gtB (pkF l i) (i / 8)) (IntKind.u8.wrap (1*2 ^ min (i % 8) IntKind.u8.bits))) else pkF l i
theorem qlf (l:List Bool):∀ i,(pkF l i).length=(l.length+7) / 8
 | 0=>by simp[pkF]
 | i+1=>by rw[pkF];split <;> simp[qlf l i]
def prePk (l:List Bool):Prop:=l.length<16777216
def ct_pk:Ctr:=⟨[.sl .bool],fun x=>prePk x.1,fun x=>[.win true uB 0 0 (pkF x.1 (List.length x.1)).length],fun x=>[.row 5 uB (pkF x.1 (List.length x.1))]⟩
theorem q5r (l:List Bool) (hl:l.length<16777216):∀ (k i:Nat),l.length-i=k->i<=l.length ->
  GD 45 Tryd.f45 (QC ct_pk (l,())) (hd Tryd.f45 0) ⟨[(3,.win true uB 3 0 (pkF l i).length),(10,.sl .bool l),(11,.int .i64 l.length),(12,.int .i64 (i:Nat))],[(3,.row 5 uB (pkF l i))]⟩:=by
 intro k
 induction k with
 | zero=>
  intro i hk hi;have hi:i=l.length:=by omega
  subst hi;refine qae cxMb (qsm l _ _ _ _) ?_;rw[decide_eq_false (by omega),bc_f];exact qid (e:=uB) (et:=5) (a:=3) (xs:=pkF l l.length) rfl rfl rfl rfl rfl
 | succ k ih=>
  intro i hk hi;have hil:i<l.length:=by omega
  have nx:=ih (i+1) (by omega) (by omega);have hlen:=qlf l i;have hd8:((i:Int)).tdiv 8=((i / 8:Nat):Int):=by rw[Int.tdiv_eq_ediv_of_nonneg (by omega)];omega
  have hm8:((i:Int)).tmod 8=((i % 8:Nat):Int):=by rw[Int.tmod_eq_emod_of_nonneg (by omega)];omega
  refine qae cxMb (qsm l (pkF l i) i _ _) ?_;rw[decide_eq_true (show (i:Int)<(l.length:Int) by omega),bc_t,hd8,hm8,IntWalk.i64_in ((i / 8:Nat):Int) (by omega),IntWalk.i64_in ((i:Int)+1) (by omega),Int.toNat_natCast,Int.toNat_natCast,Int.toNat_natCast,Nat.zero_add];refine ⟨by omega,by omega,qap (fun h=>?_) (fun h=>?_)⟩
  ·have h:gtM l i=true:=h;rw[pkF,if_pos h] at nx;refine ⟨by decide,by omega,by omega,by omega,by decide,by omega,by omega,by omega,by omega,?_⟩;exact nx.only ⟨by rw[List.length_set];rfl,rfl,rfl,rfl,trivial⟩ ⟨rfl,trivial⟩
  ·have h:gtM l i=false:=h;rw[pkF,if_neg (by rw[h];decide)] at nx;exact nx.only ⟨rfl,rfl,rfl,rfl,trivial⟩ ⟨rfl,trivial⟩
theorem q5s:Held Tryd.prog G0 45 ct_pk:=by
 refine Held.of cxMb (fn:=Tryd.f45) rfl rfl ⟨by decide,by decide⟩ ?_;rintro ⟨l,⟨⟩⟩ hp;replace hp:l.length<16777216:=hp;refine qae cxMb (q4a l _ _) ?_;have e1:((l.length:Int)+7) / 8=(((l.length+7) / 8:Nat):Int):=by omega
 show _/\0<=((l.length:Int)+7) / 8/\((l.length:Int)+7) / 8<=((l.length:Int)+7) / 8/\((l.length:Int)+7) / 8<_/\_*(((l.length:Int)+7) / 8)<=_/\_
 refine ⟨(show q5m l.length from ⟨by omega,by omega⟩),by omega,by omega,(show ((l.length:Int)+7) / 8<16777216 by omega),(show (1:Int)*(((l.length:Int)+7) / 8)<=281474976710656 by omega),?_⟩;have e2:(((l.length:Int)+7) / 8).toNat=(l.length+7) / 8:=by omega
 refine (q5r l hp _ 0 rfl (Nat.zero_le _)).onlyR [(3,9)] rfl ⟨?_,rfl,rfl,rfl,trivial⟩ ⟨?_,trivial⟩
 ·rw[qlf,<- e2];rfl
 ·show some (LB.row 5 uB (List.replicate (((l.length:Int)+7) / 8).toNat 0))=_
  rw[e2];rfl
open Go.IntKind(i64 u32 u8)
def CFo:CV:=[(44,.inr ctAn),(45,.inl ct_pk),(40,.inl ctBy)]
theorem cxFo:CxOK Tryd.prog tt G0 CFo:=((cx0.cons qnj (fn:=Tryd.f40) rfl rfl rfl).cons q5s (fn:=Tryd.f45) rfl rfl rfl).consI q7q (fn:=Tryd.f44) rfl rfl rfl
def CPa:CV:=[(58,.inl ctNumb),(59,.inl ctMb),(25,.inl ctWo),(60,.inl ctUn),(61,.inl ct_rl)]
theorem cxPa:CxOK Tryd.prog tt G0 CPa:=((((cx0.cons q44 (fn:=Tryd.f61) rfl rfl rfl).cons qzx (fn:=Tryd.f60) rfl rfl rfl).cons qmp (fn:=Tryd.f25) rfl rfl rfl).cons qxz (fn:=Tryd.f59) rfl rfl rfl).cons qpi (fn:=Tryd.f58) rfl rfl rfl
set_option maxRecDepth 100000
theorem q4l (w l:List Int) (m:List Bool) (Q:QT) (R:RT):sy tt G0 CFo Tryd.f19.ntmps Tryd.f19.results.toList Q (fun it S=>R it (qar [1,3,4,17,18,19] [1,1061440] S)) 1000 [.code (qaf Tryd.f19)] (entry [liS] ((w,m,l),())) =
  (ctAn.pre ([],(w.length:Int),()) /\
 List.length ([]++two (w.length:Int))=List.length ([]++two (w.length:Int)) /\
 ctAn.pre ([]++two (w.length:Int),(l.length:Int),()) /\
 R (hd Tryd.f19 0) { env:=[(1,.ptr 1 0),(3,.win true uB 1061440 0 4),(4,.int .i64 0),(17,.sl iI l),(18,.int .i64 (l.length:Int)),(19,.int .i64 0)],blk:=[(1,.var [.sl u4 w,.sl Sh.bool m,.sl iI l]),(1061440,.row 5 uB ([]++two (w.length:Int)++two (l.length:Int)))] }):=by kernel_rfl
theorem qsn (w l o:List Int) (m:List Bool) (a:Int) (i:Nat) (Q:QT) (R:RT):sy tt G0 CFo Tryd.f19.ntmps Tryd.f19.results.toList Q (fun it S=>R it (qar [1,3,4,17,18,19] [1,1114688] S)) 1000 (hd Tryd.f19 0) ⟨[(1,.ptr 1 0),(3,.win true uB 3 0 o.length),(4,.int .i64 a),(17,.sl iI l),(18,.int .i64 l.length),(19,.int .i64 (i:Nat))],[(1,.var [.sl u4 w,.sl .bool m,.sl iI l]),(3,.row 5 uB o)]⟩ =
  (bc (decide ((i:Int)<(l.length:Int))) ((0:Int)<=(i:Int) /\
 (i:Int)<(l.length:Int) /\
 (4:Int)≠0 /\
 o.length=o.length /\
 ctAn.pre (o,i64.wrap ((i64.wrap (gtI l (i:Int).toNat-a)).tdiv (4:Int)),()) /\
 R (hd Tryd.f19 0) { env:=[(1,.ptr 1 0),(3,.win true uB 1114688 0 (List.length (o++two (i64.wrap ((i64.wrap (gtI l (i:Int).toNat-a)).tdiv (4:Int)))))),(4,.int .i64 (gtI l (i:Int).toNat)),(17,.sl iI l),(18,.int .i64 (l.length:Int)),(19,.int .i64 (i64.wrap ((i:Int)+1)))],blk:=[(1,.var [.sl u4 w,.sl Sh.bool m,.sl iI l]),(1114688,.row 5 uB (o++two (i64.wrap ((i64.wrap (gtI l (i:Int).toNat-a)).tdiv (4:Int)))))] }) (ct_pk.pre (m,()) /\
 0+(pkF m m.length).length<=(pkF m m.length).length /\
 o.length=o.length /\
 0=0 /\
 o.length+(winL uB 0 (pkF m m.length).length (pkF m m.length)).length<2 ^ 30 /\
 1<=2 ^ 10 /\
 ctBy.pre (w,()) /\
 0+(qa1 w).length<=(qa1 w).length /\
 o.length+(winL uB 0 (pkF m m.length).length (pkF m m.length)).length=(o++winL uB 0 (pkF m m.length).length (pkF m m.length)).length /\
 0=0 /\
 o.length+(winL uB 0 (pkF m m.length).length (pkF m m.length)).length+(winL uB 0 (qa1 w).length (qa1 w)).length<2 ^ 30 /\
 1<=2 ^ 10 /\
 Q [.win true uB 40 0 (o.length+(winL uB 0 (pkF m m.length).length (pkF m m.length)).length+(winL uB 0 (qa1 w).length (qa1 w)).length)] [(1,.var [.sl u4 w,.sl Sh.bool m,.sl iI l]),(40,.row 5 uB (o++winL uB 0 (pkF m m.length).length (pkF m m.length)++winL uB 0 (qa1 w).length (qa1 w))),(1139264,.row 5 uB (pkF m m.length)),(1159744,.row 5 uB (qa1 w))])):=by kernel_rfl
theorem qzm (b:List Int) (Q:QT) (R:RT):sy tt G0 CPa Tryd.f41.ntmps Tryd.f41.results.toList Q R 1000 [.code (qaf Tryd.f41)] (entry [.sl uB] (b,())) =
  (bc (decide ((b.length:Int)<4)) (Q [.agg [.nils,.nils,.nils],.bool false] [(2,.var [.nils,.nils,.nils])]) (ctNumb.pre (b,()) /\
 (0:Int)<=2 /\
 (2:Int)<=(b.length:Int) /\
 ctNumb.pre (List.drop (2) b,()) /\
 ctMb.pre (qam b,()) /\
 bc (decide ((b.length:Int)≠i64.wrap (i64.wrap (i64.wrap ((4:Int)+i64.wrap ((2:Int)*qam (List.drop (2) b)))+((have this:=qam b;this)+7) / (8:Int))+i64.wrap ((4:Int)*qam b)))) (Q [.agg [.nils,.nils,.nils],.bool false] [(2,.var [.nils,.nils,.nils])]) (0<=i64.wrap (i64.wrap ((4:Int)+i64.wrap ((2:Int)*qam (List.drop (2) b)))+((have this:=qam b;this)+7) / (8:Int)) /\
 i64.wrap (i64.wrap ((4:Int)+i64.wrap ((2:Int)*qam (List.drop (2) b)))+((have this:=qam b;this)+7) / (8:Int))<=(b.length:Int) /\
 ctWo.pre (List.drop (i64.wrap (i64.wrap ((4:Int)+i64.wrap ((2:Int)*qam (List.drop (2) b)))+((have this:=qam b;this)+7) / (8:Int))).toNat b,()) /\
 0<=i64.wrap ((4:Int)+i64.wrap ((2:Int)*qam (List.drop (2) b))) /\
 i64.wrap ((4:Int)+i64.wrap ((2:Int)*qam (List.drop (2) b)))<=i64.wrap (i64.wrap ((4:Int)+i64.wrap ((2:Int)*qam (List.drop (2) b)))+((have this:=qam b;this)+7) / (8:Int)) /\
 i64.wrap (i64.wrap ((4:Int)+i64.wrap ((2:Int)*qam (List.drop (2) b)))+((have this:=qam b;this)+7) / (8:Int))<=(b.length:Int) /\
 ctUn.pre (Px.part b (some (i64.wrap ((4:Int)+i64.wrap ((2:Int)*qam (List.drop (2) b))))) (some (i64.wrap (i64.wrap ((4:Int)+i64.wrap ((2:Int)*qam (List.drop (2) b)))+((have this:=qam b;this)+7) / (8:Int)))),qam b,()) /\
 (0:Int)<=4 /\
 4<=i64.wrap ((4:Int)+i64.wrap ((2:Int)*qam (List.drop (2) b))) /\
 i64.wrap ((4:Int)+i64.wrap ((2:Int)*qam (List.drop (2) b)))<=(b.length:Int) /\
 ct_rl.pre (Px.part b (some (4:Int)) (some (i64.wrap ((4:Int)+i64.wrap ((2:Int)*qam (List.drop (2) b))))),()) /\
 Q [.agg [.win true u4 1159744 0 (qah (List.drop (i64.wrap (i64.wrap ((4:Int)+i64.wrap ((2:Int)*qam (List.drop (2) b)))+((have this:=qam b;this)+7) / (8:Int))).toNat b)).1.length,.win true Sh.bool 1192512 0 (unpF (Px.part b (some (i64.wrap ((4:Int)+i64.wrap ((2:Int)*qam (List.drop (2) b))))) (some (i64.wrap (i64.wrap ((4:Int)+i64.wrap ((2:Int)*qam (List.drop (2) b)))+((have this:=qam b;this)+7) / (8:Int))))) (qam b).toNat).length,.sl iI (rlF ((Px.part b (some (4:Int)) (some (i64.wrap ((4:Int)+i64.wrap ((2:Int)*qam (List.drop (2) b)))))).length / 2) (0:Int) (Px.part b (some (4:Int)) (some (i64.wrap ((4:Int)+i64.wrap ((2:Int)*qam (List.drop (2) b)))))))],.bool (decide ((qah (List.drop (i64.wrap (i64.wrap ((4:Int)+i64.wrap ((2:Int)*qam (List.drop (2) b)))+((have this:=qam b;this)+7) / (8:Int))).toNat b)).2=0))] [(2,.var [.win true u4 1159744 0 (qah (List.drop (i64.wrap (i64.wrap ((4:Int)+i64.wrap ((2:Int)*qam (List.drop (2) b)))+((have this:=qam b;this)+7) / (8:Int))).toNat b)).1.length,.win true Sh.bool 1192512 0 (unpF (Px.part b (some (i64.wrap ((4:Int)+i64.wrap ((2:Int)*qam (List.drop (2) b))))) (some (i64.wrap (i64.wrap ((4:Int)+i64.wrap ((2:Int)*qam (List.drop (2) b)))+((have this:=qam b;this)+7) / (8:Int))))) (qam b).toNat).length,.sl iI (rlF ((Px.part b (some (4:Int)) (some (i64.wrap ((4:Int)+i64.wrap ((2:Int)*qam (List.drop (2) b)))))).length / 2) (0:Int) (Px.part b (some (4:Int)) (some (i64.wrap ((4:Int)+i64.wrap ((2:Int)*qam (List.drop (2) b)))))))]),(1159744,.row 50 u4 (qah (List.drop (i64.wrap (i64.wrap ((4:Int)+i64.wrap ((2:Int)*qam (List.drop (2) b)))+((have this:=qam b;this)+7) / (8:Int))).toNat b)).1),(1192512,.row 4 Sh.bool (unpF (Px.part b (some (i64.wrap ((4:Int)+i64.wrap ((2:Int)*qam (List.drop (2) b))))) (some (i64.wrap (i64.wrap ((4:Int)+i64.wrap ((2:Int)*qam (List.drop (2) b)))+((have this:=qam b;this)+7) / (8:Int))))) (qam b).toNat))]))):=by kernel_rfl
def labF:Int->List Int->List Int
 | _,[]=>[]
 | a,x::l=>two (i64.wrap ((i64.wrap (x-a)).tdiv 4))++labF x l
def qdr (x:LiT):List Int:=two x.1.length++two x.2.2.length++labF 0 x.2.2++pkF x.2.1 x.2.1.length++qa1 x.1
theorem qtr:∀ (a:Int) (l:List Int),(labF a l).length=2*l.length
 | _,[]=>rfl
 | a,x::l=>by rw[labF,List.length_append,qtr x l,List.length_cons];show 2+_=_;omega
def qxf (x:LiT):Prop:=x.1.length<1000000/\x.2.1.length<1000000/\x.2.2.length<1000000
def ct_fo:Ctr:=⟨[liS],fun x=>qxf x.1,fun x=>[.win true uB 0 0 (qdr x.1).length],fun x=>[.row 5 uB (qdr x.1)]⟩
theorem q7a {α:Type} {l:List α} {i:Nat} (h:i<l.length):l.drop i=l[i]::l.drop (i+1):=List.drop_eq_getElem_cons h
theorem qyq (w l:List Int) (m:List Bool) (hw:w.length<1000000) (hm:m.length<1000000) (hl:l.length<1000000):∀ (k i:Nat) (a:Int) (o:List Int),l.length-i=k->i<=l.length->o.length=4+2*i->o++labF a (l.drop i)++pkF m m.length++qa1 w=qdr (w,m,l) ->
  GD 19 Tryd.f19 (QC ct_fo ((w,m,l),())) (hd Tryd.f19 0) ⟨[(1,.ptr 1 0),(3,.win true uB 3 0 o.length),(4,.int .i64 a),(17,.sl iI l),(18,.int .i64 l.length),(19,.int .i64 (i:Nat))],[(1,.var [.sl u4 w,.sl .bool m,.sl iI l]),(3,.row 5 uB o)]⟩:=by
 intro k
 induction k with
 | zero=>
  intro i a o hk hi ho hv;have hi:i=l.length:=by omega
  subst hi;rw[List.drop_length,labF,List.append_nil] at hv;refine qae cxFo (qsn w l o m a _ _ _) ?_;have w1:winL uB 0 (pkF m m.length).length (pkF m m.length)=pkF m m.length:=winA (e:=uB) _;have w2:winL uB 0 (qa1 w).length (qa1 w)=qa1 w:=winA (e:=uB) _;have p1:=qlf m m.length;have p2:=qjs w;rw[decide_eq_false (by omega),bc_f,w1,w2];refine ⟨(show m.length<16777216 by omega),by omega,rfl,rfl,by omega,by decide,(show w.length<4194304 by omega),by omega,by rw[List.length_append],rfl,by omega,by decide,?_⟩;refine qid (e:=uB) (et:=5) (a:=40) (xs:=o++pkF m m.length++qa1 w) (by show [SV.win true uB 0 0 (qdr (w,m,l)).length]=_;rw[hv]) (by show [LB.row 5 uB (qdr (w,m,l))]=_;rw[hv]) rfl (by rw[List.length_append,List.length_append]) rfl
 | succ k ih=>
  intro i a o hk hi ho hv;have hil:i<l.length:=by omega
  have nx:=ih (i+1) l[i] (o++two (i64.wrap ((i64.wrap (l[i]-a)).tdiv 4))) (by omega) (by omega) (by rw[List.length_append,ho];show _+2=_;omega) (by rw[<- hv,q7a hil,labF];simp only[List.append_assoc]);refine qae cxFo (qsn w l o m a i _ _) ?_;rw[decide_eq_true (show (i:Int)<(l.length:Int) by omega),bc_t,Int.toNat_natCast,qc9 hil,IntWalk.i64_in ((i:Int)+1) (by omega)];refine ⟨by omega,by omega,by decide,rfl,(show o.length<1000000000 by omega),?_⟩;exact nx.onlyR [(3,1114688)] rfl ⟨rfl,rfl,rfl,rfl,rfl,rfl,trivial⟩ ⟨rfl,rfl,trivial⟩
theorem qry:Held Tryd.prog G0 19 ct_fo:=by
 refine Held.of cxFo (fn:=Tryd.f19) rfl rfl ⟨by decide,by decide⟩ ?_;rintro ⟨⟨w,m,l⟩,⟨⟩⟩ hp;obtain ⟨p1,p2,p3⟩:qxf (w,m,l):=hp;refine qae cxFo (q4l w l m _ _) ⟨(show ([]:List Int).length<1000000000 by decide),rfl,(show ([]++two (w.length:Int)).length<1000000000 from (show 2<1000000000 by decide)),?_⟩;exact (qyq w l m p1 p2 p3 _ 0 0 ([]++two (w.length:Int)++two (l.length:Int)) rfl (Nat.zero_le _) rfl rfl).onlyR [(3,1061440)] rfl ⟨rfl,rfl,rfl,rfl,rfl,rfl,trivial⟩ ⟨rfl,rfl,trivial⟩
theorem qxp {b:List Int} (h:u8L b):qam b=gtB b 0*256+gtB b 1:=by
 have h0:=h 0;have h1:=h 1;obtain ⟨a0,a1⟩:=h0;obtain ⟨b0,b1⟩:=h1;unfold qam;have p8:(2:Int) ^ min 8 i64.bits=256:=by decide
 rw[p8,IntWalk.i64_in (gtB b 0) (by omega),IntWalk.i64_in (gtB b 0*256) (by omega),IntWalk.i64_in (gtB b 1) (by omega)];generalize gtB b 0=x at *;generalize gtB b 1=y at *;obtain ⟨X,rfl⟩:=Int.eq_ofNat_of_zero_le a0;obtain ⟨Y,rfl⟩:=Int.eq_ofNat_of_zero_le b0;have e:∀ n:Nat,n<65536->(BitVec.ofInt i64.bits (n:Int)).toNat=n:=fun n hn=>by
  show (BitVec.ofInt 64 (n:Int)).toNat=_
  rw[BitVec.toNat_ofInt];omega
 have e2:((X:Int)*256)=((X*256:Nat):Int):=by omega
 unfold bitI;rw[e2];simp only[BitVec.toNat_or,e (X*256) (by omega),e Y (by omega)];have:=Nat.two_pow_add_eq_or_of_lt (i:=8) (b:=Y) (by omega) X;have e3:X*256 ||| Y=2 ^ 8*X+Y:=by rw[this];congr 1;omega
 rw[e3,IntWalk.i64_in _ (by omega)];omega
theorem qpj {b:List Int} (h:u8L b):0<=qam b/\qam b<65536:=by
 rw[qxp h];have h0:=h 0;have h1:=h 1;unfold u8R at h0 h1;omega
def wAt (b:List Int):Nat:=4+2*(qam (b.drop 2)).toNat+((qam b).toNat+7) / 8
def qrf (b:List Int):Prop:=4<=b.length/\b.length=wAt b+4*(qam b).toNat
instance (b:List Int):Decidable (qrf b):=by unfold qrf;infer_instance
def parV (b:List Int):LiT:=(qch (qam b).toNat (b.drop (wAt b)),unpF ((b.take (wAt b)).drop (4+2*(qam (b.drop 2)).toNat)) (qam b).toNat,rlF (qam (b.drop 2)).toNat 0 ((b.take (4+2*(qam (b.drop 2)).toNat)).drop 4))
def parX (b:List Int):LiT × Bool:=if qrf b then (parV b,true) else (([],[],[]),false)
def q82 (b:List Int):Prop:=u8L b/\b.length<33554432
def ct_pa:Ctr:=⟨[.sl uB],fun x=>q82 x.1,fun x=>[.agg [.win true u4 0 0 (parX x.1).1.1.length,.win true .bool 1 0 (parX x.1).1.2.1.length,.sl iI (parX x.1).1.2.2],.bool (parX x.1).2],fun x=>[.row 50 u4 (parX x.1).1.1,.row 4 .bool (parX x.1).1.2.1]⟩
theorem u8L.take {b:List Int} (h:u8L b) (n:Nat):u8L (b.take n):=fun j=>by
 by_cases hj:j<(b.take n).length
 ·rw[qpy hj,List.getElem_take];have hj2:j<b.length:=by rw[List.length_take] at hj;omega
  have:=h j;rw[qpy hj2] at this;exact this
 ·have:gtB (b.take n) j=0:=by
   show gt uB _ _=_
   unfold gt;rw[List.getElem?_eq_none (by omega)];rfl
  rw[this];exact ⟨by decide,by decide⟩
theorem qfw {α:Type} (l:List α) (a b:Nat):Px.part l (some (a:Int)) (some (b:Int))=(l.take b).drop a:=by
 simp[Px.part]
theorem q29 {b:List Int} (h:¬ qrf b) {blk:List (Nat × LB)}:QC ct_pa (b,()) [.agg [.nils,.nils,.nils],.bool false] blk:=by
 have hv:parX b=(([],[],[]),false):=if_neg h;have ho:ct_pa.out (b,())=[.agg [.win true u4 0 0 0,.win true .bool 1 0 0,.sl iI []],.bool false]:=by
  show [SV.agg [.win true u4 0 0 (parX b).1.1.length,.win true .bool 1 0 (parX b).1.2.1.length,.sl iI (parX b).1.2.2],.bool (parX b).2]=_
  rw[hv];rfl
 have hr:ct_pa.rows (b,())=[.row 50 u4 [],.row 4 .bool []]:=by
  show [LB.row 50 u4 (parX b).1.1,LB.row 4 .bool (parX b).1.2.1]=_
  rw[hv]
 refine ⟨fun _=>none,?_,?_,fun i j b h1 h2=>by simp at h1,by rw[hr];rfl⟩
 ·rw[ho];exact ⟨_,_,rfl,⟨_,rfl,_,_,rfl,.inr ⟨rfl,rfl,rfl,rfl⟩,_,_,rfl,.inr ⟨rfl,rfl,rfl,rfl⟩,_,_,rfl,.inr ⟨rfl,rfl⟩,rfl⟩,_,_,rfl,rfl,rfl⟩
 ·rw[hr];exact ⟨.inr ⟨rfl,_,_,rfl,by decide⟩,.inr ⟨rfl,_,_,rfl,by decide⟩,trivial⟩
theorem pa_ok {b:List Int} (h:qrf b) {blk:List (Nat × LB)} {i j k1 k2:Nat} (hij:i≠j) (h1:lk blk i=some (.row 50 u4 (parV b).1)) (h2:lk blk j=some (.row 4 .bool (parV b).2.1)) (hk1:k1=(parV b).1.length) (hk2:k2=(parV b).2.1.length) :
  QC ct_pa (b,()) [.agg [.win true u4 i 0 k1,.win true .bool j 0 k2,.sl iI (parV b).2.2],.bool true] blk:=by
 subst hk1;subst hk2;have hv:parX b=(parV b,true):=if_pos h;have ho:ct_pa.out (b,())=[.agg [.win true u4 0 0 (parV b).1.length,.win true .bool 1 0 (parV b).2.1.length,.sl iI (parV b).2.2],.bool true]:=by
  show [SV.agg [.win true u4 0 0 (parX b).1.1.length,.win true .bool 1 0 (parX b).1.2.1.length,.sl iI (parX b).1.2.2],.bool (parX b).2]=_
  rw[hv]
 have hr:ct_pa.rows (b,())=[.row 50 u4 (parV b).1,.row 4 .bool (parV b).2.1]:=by
  show [LB.row 50 u4 (parX b).1.1,LB.row 4 .bool (parX b).1.2.1]=_
  rw[hv]
 refine ⟨fun n=>if n=0 then some i else if n=1 then some j else none,?_,?_,fun a c x e1 e2=>?_,by rw[hr];rfl⟩
 ·rw[ho];exact ⟨_,_,rfl,⟨_,rfl,_,_,rfl,.inl ⟨true,i,rfl,rfl,fun h=>h⟩,_,_,rfl,.inl ⟨true,j,rfl,rfl,fun h=>h⟩,_,_,rfl,.inl rfl,rfl⟩,_,_,rfl,rfl,rfl⟩
 ·rw[hr];exact ⟨.inl ⟨i,rfl,h1⟩,.inl ⟨j,rfl,h2⟩,trivial⟩
 ·simp only at e1 e2;split at e1 <;> split at e2
  ·omega
  ·split at e2
   ·cases e1;cases e2;exact absurd rfl hij
   ·cases e2
  ·split at e1
   ·cases e1;cases e2;exact absurd rfl hij
   ·cases e1
  ·split at e1 <;> split at e2
   ·omega
   ·cases e2
   ·cases e1
   ·cases e1
theorem q9c (b:List Int) (hu:u8L b) (hl:b.length<33554432) (R:List Item->PS->Prop):sy tt G0 CPa Tryd.f41.ntmps Tryd.f41.results.toList (QC ct_pa (b,())) R 1000 [.code (qaf Tryd.f41)] (entry [.sl uB] (b,())):=by
 refine (qzm b _ _).mpr ?_;obtain ⟨n0,n1⟩:=qpj hu;obtain ⟨k0,k1⟩:=qpj (hu.drop 2);have en:qam b=((qam b).toNat:Int):=by omega
 have ek:qam (b.drop 2)=((qam (b.drop 2)).toNat:Int):=by omega
 have hw:wAt b=4+2*(qam (b.drop 2)).toNat+((qam b).toNat+7) / 8:=rfl;have hpv:parV b=(qch (qam b).toNat (b.drop (wAt b)),unpF ((b.take (wAt b)).drop (4+2*(qam (b.drop 2)).toNat)) (qam b).toNat,rlF (qam (b.drop 2)).toNat 0 ((b.take (4+2*(qam (b.drop 2)).toNat)).drop 4)):=rfl;have hok:qrf b↔4<=b.length/\b.length=wAt b+4*(qam b).toNat:=Iff.rfl;generalize (qam b).toNat=n at en hw hpv hok;generalize (qam (b.drop 2)).toNat=k at ek hw hpv;refine qap (fun h=>?_) (fun h=>?_)
 ·have h:(b.length:Int)<4:=of_decide_eq_true h;exact q29 fun q=>by have:=(hok.1 q).1;omega
 ·have h:¬ (b.length:Int)<4:=of_decide_eq_false h;have w1:i64.wrap (4+i64.wrap (2*(k:Int)))=((4+2*k:Nat):Int):=by rw[IntWalk.i64_in (2*(k:Int)) (by omega),IntWalk.i64_in _ (by omega)];omega
  have w2:i64.wrap (((4+2*k:Nat):Int)+((n:Int)+7) / 8)=(wAt b:Int):=by rw[IntWalk.i64_in _ (by omega)];omega
  have w3:i64.wrap ((wAt b:Int)+i64.wrap (4*(n:Int)))=((wAt b+4*n:Nat):Int):=by rw[IntWalk.i64_in (4*(n:Int)) (by omega),IntWalk.i64_in _ (by omega)];omega
  have hpre:q5m (qam b):=⟨by omega,by omega⟩;refine ⟨(show 2<=b.length by omega),by decide,by omega,(show 2<=(b.drop 2).length by rw[List.length_drop];omega),hpre,?_⟩
  show bc (decide ((b.length:Int)≠i64.wrap (i64.wrap (i64.wrap (4+i64.wrap (2*qam (b.drop 2)))+(qam b+7) / 8)+i64.wrap (4*qam b)))) _ _
  rw[en,ek,w1,w2,w3];refine qap (fun h2=>?_) (fun h2=>?_)
  ·have h2:(b.length:Int)≠((wAt b+4*n:Nat):Int):=of_decide_eq_true h2;exact q29 fun q=>by have:=(hok.1 q).2;omega
  ·have h2:¬ (b.length:Int)≠((wAt b+4*n:Nat):Int):=of_decide_eq_false h2;have h2:b.length=wAt b+4*n:=by omega
   have hp:qrf b:=hok.2 ⟨by omega,h2⟩;have hn:(b.drop (wAt b)).length=4*n:=by rw[List.length_drop];omega
   have ewo:qah (b.drop (wAt b))=(qch n (b.drop (wAt b)),0):=by
    unfold qah;rw[hn,if_pos (by omega)]
    congr 2;omega
   have e4:Px.part b (some 4) (some ((4+2*k:Nat):Int))=(b.take (4+2*k)).drop 4:=qfw b 4 (4+2*k);have el:((b.take (4+2*k)).drop 4).length=2*k:=by rw[List.length_drop,List.length_take];omega
   have em:((b.take (wAt b)).drop (4+2*k)).length=(n+7) / 8:=by rw[List.length_drop,List.length_take];omega
   have ed:2*k / 2=k:=by omega
   simp only[w2,Int.toNat_natCast,qfw,e4,ewo,el,ed];refine ⟨by omega,by omega,⟨hu.drop _,(show (b.drop (wAt b)).length<33554432 by omega)⟩,by omega,by omega,by omega,(show q5g ((b.take (wAt b)).drop (4+2*k)) (n:Int) from ⟨⟨by omega,by omega⟩,by omega⟩),by decide,by omega,by omega,(show q5i ((b.take (4+2*k)).drop 4) from ⟨by omega,by omega⟩),?_⟩;have f1:qch n (b.drop (wAt b))=(parV b).1:=by rw[hpv]
   have f2:unpF ((b.take (wAt b)).drop (4+2*k)) n=(parV b).2.1:=by rw[hpv]
   have f3:rlF k 0 ((b.take (4+2*k)).drop 4)=(parV b).2.2:=by rw[hpv]
   rw[f1,f2,f3,decide_eq_true trivial];exact pa_ok hp (by decide) rfl rfl rfl rfl
theorem q51:Held Tryd.prog G0 41 ct_pa:=
 Held.run cxPa (fn:=Tryd.f41) rfl rfl ⟨by decide,by decide⟩ fun ⟨b,_⟩ hp=>q9c b hp.1 hp.2 _
def CLk:CV:=(69,.inl ctEnc)::(51,.inl ctDb)::C7
theorem cxLk:CxOK Tryd.prog tt G0 CLk:=(cx7.cons qr5 (fn:=Tryd.f51) rfl rfl rfl).cons q1v (fn:=Tryd.f69) rfl rfl rfl
def CLi:CV:=(51,.inl ctDb)::C7
theorem cxLi:CxOK Tryd.prog tt G0 CLi:=cx7.cons qr5 (fn:=Tryd.f51) rfl rfl rfl
set_option maxRecDepth 100000
def qlr (w t:Int):List (Nat × LB):=[(8,.var [.int .i64 (opV w),.int .i64 (rg w (regs (opV w)) (0:Int)),.int .i64 (rg w (regs (opV w)) (1:Int)),.int .i64 (rg w (regs (opV w)) (2:Int)),.int .i64 (numN w t (kd (opV w)).2.2.1 (kd (opV w)).2.2.2.1 (kd (opV w)).2.2.2.2)])]
theorem q4g (w t:Int) (l:List Int) (Q:QT) (R:RT):sy tt G0 CLk Tryd.f54.ntmps Tryd.f54.results.toList Q R 1000 [.code (qaf Tryd.f54)] (entry [u4,iI,.sl iI] (w,t,l,())) =
  (ctDec.pre (w,t,()) /\
 ctDb.pre (opV w,()) /\
 bc (decide (dbV (opV w)=0)) (true=true /\
 Q [.int .u32 0,.int .i64 30] (qlr w t)) (bc (bif false then true else decide ((l.length:Int)<=i64.wrap (bitI BinOp.and u32 w (dbV (opV w))))) (Q [.int .u32 0,.int .i64 30] (qlr w t)) (0<=i64.wrap (bitI BinOp.and u32 w (dbV (opV w))) /\
 i64.wrap (bitI BinOp.and u32 w (dbV (opV w)))<(l.length:Int) /\
 ctEnc.pre ((opV w,rg w (regs (opV w)) (0:Int),rg w (regs (opV w)) (1:Int),rg w (regs (opV w)) (2:Int),gtI l (i64.wrap (bitI BinOp.and u32 w (dbV (opV w)))).toNat),t,()) /\
 Q [.int .u32 (encW (opV w) (rg w (regs (opV w)) (0:Int)) (rg w (regs (opV w)) (1:Int)) (rg w (regs (opV w)) (2:Int)) (gtI l (i64.wrap (bitI BinOp.and u32 w (dbV (opV w)))).toNat) t),.int .i64 (encE (opV w) (rg w (regs (opV w)) (0:Int)) (rg w (regs (opV w)) (1:Int)) (rg w (regs (opV w)) (2:Int)) (gtI l (i64.wrap (bitI BinOp.and u32 w (dbV (opV w)))).toNat) t)] [(8,.var [.int .i64 (opV w),.int .i64 (rg w (regs (opV w)) (0:Int)),.int .i64 (rg w (regs (opV w)) (1:Int)),.int .i64 (rg w (regs (opV w)) (2:Int)),.int .i64 (gtI l (i64.wrap (bitI BinOp.and u32 w (dbV (opV w)))).toNat)])]))):=by kernel_rfl
def lix (w:Int):Int:=bitI .and .u32 w (dbV (opV w))
theorem q6u (w:Int):0<=lix w/\lix w<4294967296:=qt8 .and w _
def lkC (w:Int) (l:List Int):Prop:=dbV (opV w)=0\/(l.length:Int)<=lix w
instance (w:Int) (l:List Int):Decidable (lkC w l):=by unfold lkC;infer_instance
def lkN (w:Int) (l:List Int):Int:=gtI l (lix w).toNat
def lkV (w t:Int) (l:List Int):Int × Int:=if lkC w l then (0,30) else (encW (opV w) (rg w (regs (opV w)) 0) (rg w (regs (opV w)) 1) (rg w (regs (opV w)) 2) (lkN w l) t,encE (opV w) (rg w (regs (opV w)) 0) (rg w (regs (opV w)) 1) (rg w (regs (opV w)) 2) (lkN w l) t)
def q06 (l:List Int):Prop:=∀ j,-4611686018427387904<=gtI l j/\gtI l j<=4611686018427387904
def q84 (w t:Int) (l:List Int):Prop:=qpa w t/\q06 l
def ct_lk:Ctr:=⟨[u4,iI,.sl iI],fun x=>q84 x.1 x.2.1 x.2.2.1,fun x=>[.int .u32 (lkV x.1 x.2.1 x.2.2.1).1,.int .i64 (lkV x.1 x.2.1 x.2.2.1).2],fun _=>[]⟩
theorem q9t (w t:Int) (l:List Int) (hd:qpa w t) (hl:q06 l) (R:List Item->PS->Prop):sy tt G0 CLk Tryd.f54.ntmps Tryd.f54.results.toList (QC ct_lk (w,t,l,())) R 1000 [.code (qaf Tryd.f54)] (entry [u4,iI,.sl iI] (w,t,l,())):=by
 have hr:=q6u w;have w1:IntKind.i64.wrap (bitI .and .u32 w (dbV (opV w)))=lix w:=IntWalk.i64_in _ (by unfold lix at hr;omega);have fin:∀ v blk,lkV w t l=v->QC ct_lk (w,t,l,()) [.int .u32 v.1,.int .i64 v.2] blk:=fun v blk h=>QC.flat (by show [SV.int .u32 (lkV w t l).1,.int .i64 (lkV w t l).2]=_;rw[h]) rfl rfl
 refine (q4g w t l _ _).mpr ?_;rw[w1];refine ⟨hd,trivial,qap (fun h=>⟨rfl,fin (0,30) _ (if_pos (.inl (of_decide_eq_true h)))⟩) (fun h=>qap (fun h2=>fin (0,30) _ (if_pos (.inr (of_decide_eq_true h2)))) (fun h2=>?_))⟩;have h:¬ dbV (opV w)=0:=of_decide_eq_false h;have h2:¬ (l.length:Int)<=lix w:=of_decide_eq_false h2;refine ⟨hr.1,by omega,(show qxg (gtI l (lix w).toNat) t from ⟨hl _,hd.2⟩),?_⟩;exact fin _ _ (if_neg (fun q=>by rcases q with q | q;exact h q;exact h2 q))
theorem q6s:Held Tryd.prog G0 54 ct_lk:=Held.run cxLk (fn:=Tryd.f54) rfl rfl ⟨by decide,by decide⟩ fun ⟨w,t,l,_⟩ hp=>q9t w t l hp.1 hp.2 _
abbrev InT:Type:=Int × Int × Int × Int × Int
def decT (w t:Int):InT:=(opV w,rg w (regs (opV w)) 0,rg w (regs (opV w)) 1,rg w (regs (opV w)) 2,numN w t (kd (opV w)).2.2.1 (kd (opV w)).2.2.2.1 (kd (opV w)).2.2.2.2)
def isLk (n:Nat) (w:Int) (i:Nat):Bool:=decide (dbV (opV w)≠0)&&(decide (0<=(decT w (4*i)).2.2.2.2)&&decide ((decT w (4*i)).2.2.2.2<4*n))
abbrev ySh:List Sh:=[iI,i5s]
def lnkF (n:Nat):Nat->List Int->List (Nat × InT)
 | _,[]=>[]
 | i,w::l=>if isLk n w i=true then (i,decT w (4*i))::lnkF n (i+1) l else lnkF n (i+1) l
def lnk (l:List Int):List (Nat × InT):=lnkF l.length 0 l
def yL:List (Nat × InT)->List (DL ySh)
 | []=>[]
 | r::rs=>((r.1:Int),r.2,())::yL rs
abbrev capK:List AK:=[.ptr [.dat (.sl u4)]]
set_option maxRecDepth 100000
theorem q75 (l:List Int) (lp:Nat) (ys:List (DL ySh)) (Q:AExit->Nat × Bool->PS->Prop) (R:List Item->Nat × Bool->PS->Prop):syE tt G0 CLi Tryd.f65.ntmps ⟨lp,ySh,ys⟩ Q R .fn 1000 [.code (qaf Tryd.f65)] (0,false) (qqc lp capK ((l,()),())) =
  (R (hd Tryd.f65 0) (0,false) { env:=[(0,.yl lp),(1,.ptr BIG 0),(7,.sl u4 l),(8,.int .i64 (l.length:Int)),(9,.int .i64 0)],blk:=[(BIG,.var [.sl u4 l])] }):=by kernel_rfl
theorem qv7 (l:List Int) (i j:Nat) (q:Bool) (lp:Nat) (ys:List (DL ySh)) (Q:AExit->Nat × Bool->PS->Prop) (R:List Item->Nat × Bool->PS->Prop):syE tt G0 CLi Tryd.f65.ntmps ⟨lp,ySh,ys⟩ Q (fun it g S=>R it g (qar [0,1,7,8,9] [BIG] S)) .fn 1000 (hd Tryd.f65 0) (j,q) (⟨[(0,.yl lp),(1,.ptr BIG 0),(7,.sl u4 l),(8,.int .i64 l.length),(9,.int .i64 (i:Nat))],[(BIG,.var [.sl u4 l])]⟩) =
  (bc (decide ((i:Int)<(l.length:Int))) ((0:Int)<=(i:Int) /\
 (i:Int)<(l.length:Int) /\
 ctDec.pre (gtW l (i:Int).toNat,i64.wrap ((4:Int)*(i:Int)),()) /\
 bc (decide (0<=numN (gtW l (i:Int).toNat) (i64.wrap ((4:Int)*(i:Int))) (kd (opV (gtW l (i:Int).toNat))).2.2.1 (kd (opV (gtW l (i:Int).toNat))).2.2.2.1 (kd (opV (gtW l (i:Int).toNat))).2.2.2.2)) (ctDb.pre (opV (gtW l (i:Int).toNat),()) /\
 bc (decide (dbV (opV (gtW l (i:Int).toNat))≠0)) (bc (bif true then bif true then decide (numN (gtW l (i:Int).toNat) (i64.wrap ((4:Int)*(i:Int))) (kd (opV (gtW l (i:Int).toNat))).2.2.1 (kd (opV (gtW l (i:Int).toNat))).2.2.2.1 (kd (opV (gtW l (i:Int).toNat))).2.2.2.2<i64.wrap ((4:Int)*(l.length:Int))) else false else false) (lp=(Yp.mk lp ySh ys).l /\
 q=false /\
 (Yp.mk lp ySh ys).ys[j]?=some ((i:Int),(opV (gtW l (i:Int).toNat),rg (gtW l (i:Int).toNat) (regs (opV (gtW l (i:Int).toNat))) (0:Int),rg (gtW l (i:Int).toNat) (regs (opV (gtW l (i:Int).toNat))) (1:Int),rg (gtW l (i:Int).toNat) (regs (opV (gtW l (i:Int).toNat))) (2:Int),numN (gtW l (i:Int).toNat) (i64.wrap ((4:Int)*(i:Int))) (kd (opV (gtW l (i:Int).toNat))).2.2.1 (kd (opV (gtW l (i:Int).toNat))).2.2.2.1 (kd (opV (gtW l (i:Int).toNat))).2.2.2.2),()) /\
 ∀ (r:Bool),bc (bif true then !r else false) (Q AExit.ret (j+1,!r) { env:=[(0,.yl lp),(1,.ptr BIG 0),(3,.int .i64 (i:Int)),(4,.int .u32 (gtW l (i:Int).toNat)),(5,.ptr 5 0),(6,.bool (decide (numN (gtW l (i:Int).toNat) (i64.wrap ((4:Int)*(i:Int))) (kd (opV (gtW l (i:Int).toNat))).2.2.1 (kd (opV (gtW l (i:Int).toNat))).2.2.2.1 (kd (opV (gtW l (i:Int).toNat))).2.2.2.2<i64.wrap ((4:Int)*(l.length:Int))))),(7,.sl u4 l),(8,.int .i64 (l.length:Int)),(9,.int .i64 (i:Int)),(10,.bool (decide ((i:Int)<(l.length:Int)))),(11,.int .i64 (i:Int)),(12,.elv u4 (gtW l (i:Int).toNat)),(13,.int .u32 (gtW l (i:Int).toNat)),(14,.int .u32 (gtW l (i:Int).toNat)),(15,.int .i64 (i:Int)),(16,.int .i64 (i64.wrap ((4:Int)*(i:Int)))),(17,.agg [.int .i64 (opV (gtW l (i:Int).toNat)),.int .i64 (rg (gtW l (i:Int).toNat) (regs (opV (gtW l (i:Int).toNat))) (0:Int)),.int .i64 (rg (gtW l (i:Int).toNat) (regs (opV (gtW l (i:Int).toNat))) (1:Int)),.int .i64 (rg (gtW l (i:Int).toNat) (regs (opV (gtW l (i:Int).toNat))) (2:Int)),.int .i64 (numN (gtW l (i:Int).toNat) (i64.wrap ((4:Int)*(i:Int))) (kd (opV (gtW l (i:Int).toNat))).2.2.1 (kd (opV (gtW l (i:Int).toNat))).2.2.2.1 (kd (opV (gtW l (i:Int).toNat))).2.2.2.2)]),(18,.ptr 5 4),(19,.int .i64 (numN (gtW l (i:Int).toNat) (i64.wrap ((4:Int)*(i:Int))) (kd (opV (gtW l (i:Int).toNat))).2.2.1 (kd (opV (gtW l (i:Int).toNat))).2.2.2.1 (kd (opV (gtW l (i:Int).toNat))).2.2.2.2)),(20,.bool (decide (0<=numN (gtW l (i:Int).toNat) (i64.wrap ((4:Int)*(i:Int))) (kd (opV (gtW l (i:Int).toNat))).2.2.1 (kd (opV (gtW l (i:Int).toNat))).2.2.2.1 (kd (opV (gtW l (i:Int).toNat))).2.2.2.2))),(21,.bool true),(22,.ptr 5 4),(23,.int .i64 (numN (gtW l (i:Int).toNat) (i64.wrap ((4:Int)*(i:Int))) (kd (opV (gtW l (i:Int).toNat))).2.2.1 (kd (opV (gtW l (i:Int).toNat))).2.2.2.1 (kd (opV (gtW l (i:Int).toNat))).2.2.2.2)),(24,.sl u4 l),(25,.int .i64 (l.length:Int)),(26,.int .i64 (i64.wrap ((4:Int)*(l.length:Int)))),(27,.bool (decide (numN (gtW l (i:Int).toNat) (i64.wrap ((4:Int)*(i:Int))) (kd (opV (gtW l (i:Int).toNat))).2.2.1 (kd (opV (gtW l (i:Int).toNat))).2.2.2.1 (kd (opV (gtW l (i:Int).toNat))).2.2.2.2<i64.wrap ((4:Int)*(l.length:Int))))),(28,.bool (decide (numN (gtW l (i:Int).toNat) (i64.wrap ((4:Int)*(i:Int))) (kd (opV (gtW l (i:Int).toNat))).2.2.1 (kd (opV (gtW l (i:Int).toNat))).2.2.2.1 (kd (opV (gtW l (i:Int).toNat))).2.2.2.2<i64.wrap ((4:Int)*(l.length:Int))))),(29,.ptr 5 0),(30,.int .i64 (opV (gtW l (i:Int).toNat))),(31,.int .u32 (dbV (opV (gtW l (i:Int).toNat)))),(32,.bool (decide (dbV (opV (gtW l (i:Int).toNat))≠0))),(33,.bool true),(34,.bool (decide (numN (gtW l (i:Int).toNat) (i64.wrap ((4:Int)*(i:Int))) (kd (opV (gtW l (i:Int).toNat))).2.2.1 (kd (opV (gtW l (i:Int).toNat))).2.2.2.1 (kd (opV (gtW l (i:Int).toNat))).2.2.2.2<i64.wrap ((4:Int)*(l.length:Int))))),(35,.bool (bif true then bif true then decide (numN (gtW l (i:Int).toNat) (i64.wrap ((4:Int)*(i:Int))) (kd (opV (gtW l (i:Int).toNat))).2.2.1 (kd (opV (gtW l (i:Int).toNat))).2.2.2.1 (kd (opV (gtW l (i:Int).toNat))).2.2.2.2<i64.wrap ((4:Int)*(l.length:Int))) else false else false)),(36,.bool true),(37,.yl lp),(38,.int .i64 (i:Int)),(39,.agg [.int .i64 (opV (gtW l (i:Int).toNat)),.int .i64 (rg (gtW l (i:Int).toNat) (regs (opV (gtW l (i:Int).toNat))) (0:Int)),.int .i64 (rg (gtW l (i:Int).toNat) (regs (opV (gtW l (i:Int).toNat))) (1:Int)),.int .i64 (rg (gtW l (i:Int).toNat) (regs (opV (gtW l (i:Int).toNat))) (2:Int)),.int .i64 (numN (gtW l (i:Int).toNat) (i64.wrap ((4:Int)*(i:Int))) (kd (opV (gtW l (i:Int).toNat))).2.2.1 (kd (opV (gtW l (i:Int).toNat))).2.2.2.1 (kd (opV (gtW l (i:Int).toNat))).2.2.2.2)]),(40,.bool r),(41,.bool !r),(42,.bool (bif true then !r else false))],blk:=[(5,.var [.int .i64 (opV (gtW l (i:Int).toNat)),.int .i64 (rg (gtW l (i:Int).toNat) (regs (opV (gtW l (i:Int).toNat))) (0:Int)),.int .i64 (rg (gtW l (i:Int).toNat) (regs (opV (gtW l (i:Int).toNat))) (1:Int)),.int .i64 (rg (gtW l (i:Int).toNat) (regs (opV (gtW l (i:Int).toNat))) (2:Int)),.int .i64 (numN (gtW l (i:Int).toNat) (i64.wrap ((4:Int)*(i:Int))) (kd (opV (gtW l (i:Int).toNat))).2.2.1 (kd (opV (gtW l (i:Int).toNat))).2.2.2.1 (kd (opV (gtW l (i:Int).toNat))).2.2.2.2)]),(BIG,.var [.sl u4 l])] }) (R (hd Tryd.f65 0) (j+1,!r) { env:=[(0,.yl lp),(1,.ptr BIG 0),(7,.sl u4 l),(8,.int .i64 (l.length:Int)),(9,.int .i64 (i64.wrap ((i:Int)+1)))],blk:=[(BIG,.var [.sl u4 l])] })) (false=false /\
 R (hd Tryd.f65 0) (j,q) { env:=[(0,.yl lp),(1,.ptr BIG 0),(7,.sl u4 l),(8,.int .i64 (l.length:Int)),(9,.int .i64 (i64.wrap ((i:Int)+1)))],blk:=[(BIG,.var [.sl u4 l])] })) (false=false /\
 false=false /\
 R (hd Tryd.f65 0) (j,q) { env:=[(0,.yl lp),(1,.ptr BIG 0),(7,.sl u4 l),(8,.int .i64 (l.length:Int)),(9,.int .i64 (i64.wrap ((i:Int)+1)))],blk:=[(BIG,.var [.sl u4 l])] })) (false=false /\
 ctDb.pre (opV (gtW l (i:Int).toNat),()) /\
 bc (decide (dbV (opV (gtW l (i:Int).toNat))≠0)) (false=false /\
 R (hd Tryd.f65 0) (j,q) { env:=[(0,.yl lp),(1,.ptr BIG 0),(7,.sl u4 l),(8,.int .i64 (l.length:Int)),(9,.int .i64 (i64.wrap ((i:Int)+1)))],blk:=[(BIG,.var [.sl u4 l])] }) (false=false /\
 false=false /\
 R (hd Tryd.f65 0) (j,q) { env:=[(0,.yl lp),(1,.ptr BIG 0),(7,.sl u4 l),(8,.int .i64 (l.length:Int)),(9,.int .i64 (i64.wrap ((i:Int)+1)))],blk:=[(BIG,.var [.sl u4 l])] }))) (Q AExit.normal (j,q) { env:=[(0,.yl lp),(1,.ptr BIG 0),(7,.sl u4 l),(8,.int .i64 (l.length:Int)),(9,.int .i64 (i:Int)),(10,.bool (decide ((i:Int)<(l.length:Int))))],blk:=[(BIG,.var [.sl u4 l])] })):=by kernel_rfl
theorem q76 (l:List Int) (Q:QT) (R:RT):sy tt G0 [] Tryd.f50.ntmps Tryd.f50.results.toList Q R 1000 [.code (qaf Tryd.f50)] (entry [.sl u4] (l,())) =
  (Q [.fn 65 [] [.ptr 1 0]] [(1,.var [.sl u4 l])]):=by kernel_rfl
abbrev GE (f:Nat) (fn:Func) (Y:Yp) (K:AExit->Nat × Bool->PS->Prop) (it:List Item) (g:Nat × Bool) (S:PS):Prop:=Px.GoodE Tryd.prog G0 f fn.ntmps .fn Y K it g S
def wdL (l:List Int):Prop:=(∀ w∈l,0<=w/\w<4294967296)/\l.length<=16384
def ctIt:CtrY:=⟨capK,fun x=>wdL x.1.1,ySh,fun x=>yL (lnk x.1.1)⟩
abbrev itS (l:List Int) (i lp:Nat):PS:=⟨[(0,.yl lp),(1,.ptr BIG 0),(7,.sl u4 l),(8,.int .i64 l.length),(9,.int .i64 (i:Nat))],[(BIG,.var [.sl u4 l])]⟩
theorem q6y {l:List Int} (hl:wdL l) (lp:Nat) (ys:List (DL ySh)):∀ (k i j:Nat),l.length-i<=k->i<=l.length->j<=ys.length->ys.drop j=yL (lnkF l.length i (l.drop i)) ->
  GE 65 Tryd.f65 ⟨lp,ySh,ys⟩ (endY ys.length) (hd Tryd.f65 0) (j,false) (itS l i lp):=by
 obtain ⟨hw,hn⟩:=hl;have hend:∀ (i j:Nat),¬ i<l.length->j<=ys.length->ys.drop j=yL (lnkF l.length i (l.drop i))->j=ys.length:=by
  intro i j hi hj hy;rw[List.drop_eq_nil_of_le (show l.length<=i by omega)] at hy;have:=congrArg List.length hy;simp only[List.length_drop,lnkF,yL,List.length_nil] at this;omega
 intro k
 induction k with
 | zero=>
  intro i j hk hil hj hy;refine qwf cxLi (qv7 l i j false lp ys _ _) ?_;rw[decide_eq_false (by omega),bc_f];exact .inr (hend i j (by omega) hj hy)
 | succ k ih=>
  intro i j hk hil hj hy;refine qwf cxLi (qv7 l i j false lp ys _ _) ?_;by_cases hlt:i<l.length
  ·rw[decide_eq_true (show (i:Int)<(l.length:Int) by omega),bc_t];have hwi:=hw l[i] (List.getElem_mem hlt);rw[<- qha hlt] at hwi;have w2:IntKind.i64.wrap (4*(i:Int))=4*i:=IntWalk.i64_in _ (by omega);have w3:IntKind.i64.wrap (4*(l.length:Int))=4*l.length:=IntWalk.i64_in _ (by omega);have w4:IntKind.i64.wrap ((i:Int)+1)=((i+1:Nat):Int):=by rw[IntWalk.i64_in _ (by omega)];omega
   rw[w2,w3,w4];simp only[Int.toNat_natCast];rw[q7a hlt,lnkF,<- qha hlt] at hy;have no:isLk l.length (gtW l i) i=false->GE 65 Tryd.f65 ⟨lp,ySh,ys⟩ (endY ys.length) (hd Tryd.f65 0) (j,false) (itS l (i+1) lp):=fun h=>by
    rw[if_neg (by rw[h];decide)] at hy;exact ih (i+1) j (by omega) (by omega) hj hy
   refine ⟨by omega,by omega,(show qpa (gtW l i) (4*i) from ⟨hwi,by omega,by omega⟩),qap (fun h0=>⟨trivial,qap (fun h1=>qap (fun h2=>?_) (fun h2=>?_)) (fun h1=>?_)⟩) (fun h0=>?_)⟩
   ·have hk2:isLk l.length (gtW l i) i=true:=by
     unfold isLk;rw[show decide (dbV (opV (gtW l i))≠0)=true from h1,show decide (0<=(decT (gtW l i) (4*i)).2.2.2.2)=true from h0,show decide ((decT (gtW l i) (4*i)).2.2.2.2<4*(l.length:Int))=true from h2];rfl
    rw[if_pos hk2,yL] at hy;have hjl:j<ys.length:=by
     rcases Nat.lt_or_ge j ys.length with q | q
     ·exact q
     ·rw[List.drop_eq_nil_of_le q] at hy;cases hy
    rw[q7a hjl] at hy;have hget:ys[j]?=some ((i:Int),decT (gtW l i) (4*i),()):=by
     rw[List.getElem?_eq_getElem hjl];exact congrArg some (List.cons.inj hy).1
    have nx:=ih (i+1) (j+1) (by omega) (by omega) (by omega) (List.cons.inj hy).2;refine ⟨trivial,trivial,hget,fun r=>?_⟩
    cases r with
    | false=>exact .inl rfl
    | true=>exact nx
   ·exact ⟨trivial,no (by unfold isLk;rw[show decide ((decT (gtW l i) (4*i)).2.2.2.2<4*(l.length:Int))=false from h2,Bool.and_false,Bool.and_false])⟩
   ·exact ⟨trivial,trivial,no (by unfold isLk;rw[h1,Bool.false_and])⟩
   ·have n0:=no (by unfold isLk;rw[show decide (0<=(decT (gtW l i) (4*i)).2.2.2.2)=false from h0,Bool.false_and,Bool.and_false]);exact ⟨trivial,trivial,qap (fun _=>⟨trivial,n0⟩) (fun _=>⟨trivial,trivial,n0⟩)⟩
  ·rw[decide_eq_false (by omega),bc_f];exact .inr (hend i j hlt hj hy)
theorem q9v {l:List Int} (hl:wdL l) (lp:Nat):GE 65 Tryd.f65 ⟨lp,ySh,yL (lnk l)⟩ (endY (yL (lnk l)).length) [.code (qaf Tryd.f65)] (0,false) (qqc lp capK ((l,()),())):=
 qo0 cxLi (q75 l lp _ _ _) (q6y hl lp _ l.length 0 0 (by omega) (Nat.zero_le _) (Nat.zero_le _) rfl)
theorem qyj:HeldY Tryd.prog G0 65 ctIt:=HeldY.of (fn:=Tryd.f65) rfl rfl rfl ⟨by decide,by decide⟩ fun x hp lp=>q9v hp lp
theorem qhs {π:Nat->Option Nat}:MtL π [] []:=by simp only[MtL]
theorem qio {π:Nat->Option Nat} {s t:SV} {l r:List SV} (h1:Mt π s t) (h2:MtL π l r):MtL π (s::l) (t::r):=by simp only[MtL];exact ⟨t,r,rfl,h1,h2⟩
theorem q9l {π:Nat->Option Nat} {i j o:Nat} (h:π i=some j):Mt π (.ptr i o) (.ptr j o):=by simp only[Mt];exact ⟨j,rfl,h⟩
theorem mt_fn {π:Nat->Option Nat} {f:Nat} {a a' c c':List SV} (h1:MtL π a a') (h2:MtL π c c'):Mt π (.fn f a c) (.fn f a' c'):=by simp only[Mt];exact ⟨a',c',rfl,h1,h2⟩
def ctLkd:CtrI:=⟨[.dat (.sl u4)],fun _=>True,fun _=>[.fn 65 [] [.ptr 0 0]],fun x=>[(0,.var [.sl u4 x.1])]⟩
theorem q6q (l:List Int) (R:List Item->PS->Prop):sy tt G0 [] Tryd.f50.ntmps Tryd.f50.results.toList (QI ctLkd (l,())) R 1000 [.code (qaf Tryd.f50)] (qao [.dat (.sl u4)] (l,())):=by
 refine (q76 l _ _).mpr ?_;refine ⟨[(0,1)],?_,?_,by decide,fun p hp=>?_⟩
 rotate_left 2
 ·simp only[List.mem_cons,List.not_mem_nil,or_false] at hp;rcases hp with rfl;decide
 all_goals have p0:piOf [(0,1)] 0=some 1:=by decide
 ·exact qio (mt_fn qhs (qio (q9l p0) qhs)) qhs
 ·exact ⟨.inl ⟨1,_,p0,rfl,_,rfl,qe4 _ _ rfl⟩,trivial⟩
theorem qtn:HeldI Tryd.prog G0 50 ctLkd:=HeldI.run cx0 (fn:=Tryd.f50) rfl rfl ⟨by decide,by decide⟩ fun x _=>q6q x.1 _
abbrev capX:List AK:=[.ptr [.dat (.sl iI)],.ptr [.dat iI]]
abbrev KX1:List AK:=.dat iI::capX
abbrev KSe:List AK:=[.dat iI,.fn 68 [] capX]
set_option maxRecDepth 100000
theorem q78 (i:Int) (l:List Int) (t:Int) (Q:QT) (R:RT):sy tt G0 [] Tryd.f68.ntmps Tryd.f68.results.toList Q R 1000 [.code (qaf Tryd.f68)] (qao KX1 (i,(l,()),(t,()),())) =
  (0<=i /\
 i<(l.length:Int) /\
 Q [.bool (decide (t<=gtI l i.toNat))] [(BIG,.var [.sl iI l]),(1099511627777,.var [.int .i64 t])]):=by kernel_rfl
def qxd (i:Int) (l:List Int):Prop:=0<=i/\i<l.length
def ctIx1:CtrI:=⟨KX1,fun x=>qxd x.1 x.2.1.1,fun x=>[.bool (decide (gtI x.2.1.1 x.1.toNat ≥ x.2.2.1.1))],fun x=>bkKL 0 KX1 x⟩
theorem q6x (i:Int) (l:List Int) (t:Int) (hp:qxd i l) (R:List Item->PS->Prop):sy tt G0 [] Tryd.f68.ntmps Tryd.f68.results.toList (QI ctIx1 (i,(l,()),(t,()),())) R 1000 [.code (qaf Tryd.f68)] (qao KX1 (i,(l,()),(t,()),())):=by
 refine (q78 _ _ _ _ _).mpr ⟨hp.1,hp.2,?_⟩;refine QI.self rfl rfl rfl ?_;intro p hp;simp only[ctIx1,bkKL,bkK,cnt,cntL,List.append_nil,List.nil_append,List.mem_append,List.mem_cons,List.mem_singleton,List.not_mem_nil,or_false] at hp;rcases hp with rfl | rfl <;> rfl
theorem q1b:HeldI Tryd.prog G0 68 ctIx1:=HeldI.run cx0 (fn:=Tryd.f68) rfl rfl ⟨by decide,by decide⟩ fun x hp=>q6x x.1 x.2.1.1 x.2.2.1.1 hp _
def CIx:CV:=[(68,.inr ctIx1)]
theorem cxIx:CxOK Tryd.prog tt G0 CIx:=cx0.consI q1b (fn:=Tryd.f68) rfl rfl rfl
theorem q7v (n:Int) (l:List Int) (t:Int) (Q:QT) (R:RT):sy tt G0 CIx Tryd.f67.ntmps Tryd.f67.results.toList Q R 1000 [.code (qaf Tryd.f67)] (qao KSe (n,((),((l,()),(t,()),())),())) =
  (R (hd Tryd.f67 0) { env:=[(0,.int .i64 n),(1,.fn 68 [] [.ptr BIG 0,.ptr 1099511627777 0]),(4,.int .i64 0),(5,.int .i64 0),(6,.int .i64 n),(8,.int .i64 n)],blk:=[(BIG,.var [.sl iI l]),(1099511627777,.var [.int .i64 t])] }):=by kernel_rfl
theorem qvz (i j:Int) (l:List Int) (t:Int) (Q:QT) (R:RT):sy tt G0 CIx Tryd.f67.ntmps Tryd.f67.results.toList Q (fun it S=>R it (qar [1,5,6] [BIG,1099511627777] S)) 1000 (hd Tryd.f67 0) ⟨[(1,.fn 68 [] [.ptr BIG 0,.ptr 1099511627777 0]),(5,.int .i64 i),(6,.int .i64 j)],[(BIG,.var [.sl iI l]),(1099511627777,.var [.int .i64 t])]⟩ =
  (bc (decide (i<j)) ((0:Int)<=1 /\
 ctIx1.pre (i64.wrap ((IntKind.u64.wrap (i64.wrap (i+j))).fdiv ((2:Int) ^ min (1) IntKind.u64.bits)),(l,()),(t,()),()) /\
 bc (!decide (gtI l (i64.wrap ((IntKind.u64.wrap (i64.wrap (i+j))).fdiv ((2:Int) ^ min (1) IntKind.u64.bits))).toNat ≥ t)) (R (hd Tryd.f67 0) { env:=[(1,.fn 68 [] [.ptr BIG 0,.ptr 1099511627777 0]),(5,.int .i64 (i64.wrap (i64.wrap ((IntKind.u64.wrap (i64.wrap (i+j))).fdiv ((2:Int) ^ min (1) IntKind.u64.bits))+1))),(6,.int .i64 j)],blk:=[(BIG,.var [.sl iI l]),(1099511627777,.var [.int .i64 t])] }) (R (hd Tryd.f67 0) { env:=[(1,.fn 68 [] [.ptr BIG 0,.ptr 1099511627777 0]),(5,.int .i64 i),(6,.int .i64 (i64.wrap ((IntKind.u64.wrap (i64.wrap (i+j))).fdiv ((2:Int) ^ min (1) IntKind.u64.bits))))],blk:=[(BIG,.var [.sl iI l]),(1099511627777,.var [.int .i64 t])] })) (Q [.int .i64 i] [(BIG,.var [.sl iI l]),(1099511627777,.var [.int .i64 t])])):=by kernel_rfl
def seaF (l:List Int) (t:Int):Nat->Nat->Nat->Nat
 | 0,i,_=>i
 | k+1,i,j=>if i<j then (if gtI l ((i+j) / 2) ≥ t then seaF l t k i ((i+j) / 2) else seaF l t k ((i+j) / 2+1) j) else i
abbrev GDs (f:Nat) (fn:Func) (Q:List SV->List (Nat × LB)->Prop) (it:List Item) (S:PS):Prop:=Px.Good Tryd.prog tt G0 f fn.ntmps fn.results.toList Q it S
abbrev QS (l:List Int) (t r:Int):List SV->List (Nat × LB)->Prop:=fun rs blk=>rs=[.int .i64 r]/\blk=[(1099511627776,.var [.sl iI l]),(1099511627777,.var [.int .i64 t])]
abbrev seS (l:List Int) (t i j:Int):PS:=⟨[(1,.fn 68 [] [.ptr 1099511627776 0,.ptr 1099511627777 0]),(5,.int .i64 i),(6,.int .i64 j)],[(1099511627776,.var [.sl iI l]),(1099511627777,.var [.int .i64 t])]⟩
theorem qqu {x:Int} (h0:0<=x) (h1:x<18446744073709551616):IntKind.u64.wrap x=x:=by
 rw[show IntKind.u64.wrap x=x % 18446744073709551616 from rfl];omega
theorem q1j {i j:Nat} (h:i+j<1099511627776):IntKind.i64.wrap ((IntKind.u64.wrap (IntKind.i64.wrap ((i:Int)+(j:Int)))).fdiv ((2:Int) ^ min (1) IntKind.u64.bits))=(((i+j) / 2:Nat):Int):=by
 rw[IntWalk.i64_in ((i:Int)+j) (by omega)];rw[show IntKind.u64.wrap ((i:Int)+j)=(i:Int)+j from qqu (by omega) (by omega)];rw[show ((2:Int) ^ min 1 IntKind.u64.bits)=2 from rfl,Int.fdiv_eq_ediv_of_nonneg _ (by omega),IntWalk.i64_in _ (by omega)];omega
theorem qz6 {l:List Int} {t:Int} (hl:l.length<1073741824):∀ (k i j:Nat),j-i<=k->i<=j->j<=l.length ->
  GDs 67 Tryd.f67 (QS l t (seaF l t k i j:Nat)) (hd Tryd.f67 0) (seS l t i j):=by
 intro k
 induction k with
 | zero=>
  intro i j hk hij hj;refine qae cxIx (qvz i j l t _ _) ?_;rw[decide_eq_false (by omega),bc_f];exact ⟨rfl,rfl⟩
 | succ k ih=>
  intro i j hk hij hj;refine qae cxIx (qvz i j l t _ _) ?_;by_cases hlt:i<j
  ·rw[decide_eq_true (show (i:Int)<(j:Int) by omega),bc_t,q1j (by omega),Int.toNat_natCast];refine ⟨by decide,(show qxd _ l from ⟨by omega,by omega⟩),qap (fun h=>?_) (fun h=>?_)⟩
   ·have h:¬ gtI l ((i+j) / 2) ≥ t:=of_decide_eq_false (by simpa using h);rw[show IntKind.i64.wrap ((((i+j) / 2:Nat):Int)+1)=(((i+j) / 2+1:Nat):Int) from by rw[IntWalk.i64_in _ (by omega)];omega];rw[seaF,if_pos hlt,if_neg h];exact ih ((i+j) / 2+1) j (by omega) (by omega) hj
   ·have h:gtI l ((i+j) / 2) ≥ t:=of_decide_eq_true (by simpa using h);rw[seaF,if_pos hlt,if_pos h];exact ih i ((i+j) / 2) (by omega) (by omega) (by omega)
  ·rw[decide_eq_false (by omega),bc_f,seaF,if_neg hlt];exact ⟨rfl,rfl⟩
def q5h (n:Int) (l:List Int):Prop:=0<=n/\n<=l.length/\l.length<1073741824
def ctSe:CtrI:=⟨KSe,fun x=>q5h x.1 x.2.1.2.1.1,fun x=>[.int .i64 (seaF x.2.1.2.1.1 x.2.1.2.2.1.1 x.1.toNat 0 x.1.toNat:Nat)],fun x=>bkKL 0 KSe x⟩
theorem q40 (n:Nat) (l:List Int) (t:Int) (hn:n<=l.length) (hl:l.length<1073741824):sy tt G0 CIx Tryd.f67.ntmps Tryd.f67.results.toList (QI ctSe ((n:Int),((),((l,()),(t,()),())),())) (Px.Good Tryd.prog tt G0 67 Tryd.f67.ntmps Tryd.f67.results.toList (QI ctSe ((n:Int),((),((l,()),(t,()),())),()))) 1000 [.code (qaf Tryd.f67)] (qao KSe ((n:Int),((),((l,()),(t,()),())),())):=by
 rw[q7v];refine ((qz6 hl n 0 n (by omega) (by omega) hn).post fun rs blk hq=>?_).only ⟨rfl,rfl,rfl,trivial⟩ ⟨rfl,rfl,trivial⟩;obtain ⟨rfl,rfl⟩:=hq;refine QI.self rfl rfl rfl ?_;intro b hb;simp only[ctSe,bkKL,bkK,cnt,cntL,List.append_nil,List.nil_append,List.mem_append,List.mem_cons,List.mem_singleton,List.not_mem_nil,or_false] at hb;rcases hb with rfl | rfl <;> rfl
theorem qz5 (n:Int) (l:List Int) (t:Int) (hp:q5h n l):sy tt G0 CIx Tryd.f67.ntmps Tryd.f67.results.toList (QI ctSe (n,((),((l,()),(t,()),())),())) (Px.Good Tryd.prog tt G0 67 Tryd.f67.ntmps Tryd.f67.results.toList (QI ctSe (n,((),((l,()),(t,()),())),()))) 1000 [.code (qaf Tryd.f67)] (qao KSe (n,((),((l,()),(t,()),())),())):=by
 obtain ⟨h1,h2,h3⟩:=hp;obtain ⟨n,rfl⟩:=Int.eq_ofNat_of_zero_le h1;exact q40 n l t (by omega) h3
theorem qz7:HeldI Tryd.prog G0 67 ctSe:=HeldI.run cxIx (fn:=Tryd.f67) rfl rfl ⟨by decide,by decide⟩ fun x hp=>qz5 x.1 x.2.1.2.1.1 x.2.1.2.2.1.1 hp
def CSe:CV:=(67,.inr ctSe)::CIx
theorem cxSe:CxOK Tryd.prog tt G0 CSe:=cxIx.consI qz7 (fn:=Tryd.f67) rfl rfl rfl
set_option maxRecDepth 100000
theorem q79 (l:List Int) (t:Int) (Q:QT) (R:RT):sy tt G0 CSe Tryd.f52.ntmps Tryd.f52.results.toList Q R 1000 [.code (qaf Tryd.f52)] (entry [.sl iI,iI] (l,t,())) =
  (ctSe.pre ((l.length:Int),((),(l,()),(t,()),()),()) /\
 Q [.int .i64 (↑(seaF l t (l.length:Int).toNat 0 (l.length:Int).toNat):Int)] [(2,.var [.sl iI l]),(3,.var [.int .i64 t])]):=by kernel_rfl
def iofV (l:List Int) (t:Int):Nat:=seaF l t l.length 0 l.length
def qte (l:List Int):Prop:=l.length<1073741824
def ctIof:Ctr:=⟨[.sl iI,iI],fun x=>qte x.1,fun x=>[.int .i64 (iofV x.1 x.2.1:Nat)],fun _=>[]⟩
theorem q6z (l:List Int) (t:Int) (hl:qte l) (R:List Item->PS->Prop):sy tt G0 CSe Tryd.f52.ntmps Tryd.f52.results.toList (QC ctIof (l,t,())) R 1000 [.code (qaf Tryd.f52)] (entry [.sl iI,iI] (l,t,())):=by
 refine (q79 l t _ _).mpr ⟨(show q5h _ l from ⟨by omega,Int.le_refl _,hl⟩),?_⟩;exact QC.flat (by show [SV.int .i64 (iofV l t:Nat)]=_;rw[Int.toNat_natCast];rfl) rfl rfl
theorem q1c:Held Tryd.prog G0 52 ctIof:=Held.run cxSe (fn:=Tryd.f52) rfl rfl ⟨by decide,by decide⟩ fun x hp=>q6z x.1 x.2.1 hp _
abbrev rI:AK:=.row 3 iI
abbrev Kins:List AK:=[rI,.dat iI,.dat iI]
set_option maxRecDepth 100000
theorem qzq (a:Int) (Q:QT) (R:RT):sy tt G0 [] Tryd.f94.ntmps Tryd.f94.results.toList Q R 1000 [.code (qaf Tryd.f94)] (entry [iI] (a,())) =
  (Q [.bool (decide (a≠a))] []):=by kernel_rfl
def ctNan:Ctr:=⟨[iI],fun _=>True,fun _=>[.bool false],fun _=>[]⟩
theorem q0s:Held Tryd.prog G0 94 ctNan:=Held.run cx0 (fn:=Tryd.f94) rfl rfl ⟨by decide,by decide⟩ fun x _=>by
 refine (qzq x.1 _ _).mpr ?_;rw[decide_eq_false (by simp)];exact QC.flat rfl rfl rfl
def CNan:CV:=[(94,.inl ctNan)]
theorem cxNan:CxOK Tryd.prog tt G0 CNan:=cx0.cons q0s (fn:=Tryd.f94) rfl rfl rfl
theorem q4k (a b:Int) (Q:QT) (R:RT):sy tt G0 CNan Tryd.f82.ntmps Tryd.f82.results.toList Q R 1000 [.code (qaf Tryd.f82)] (entry [iI,iI] (a,b,())) =
  (ctNan.pre (a,()) /\
 false=false /\
 Q [.bool (bif false then true else decide (a<b))] []):=by kernel_rfl
def ctLess:Ctr:=⟨[iI,iI],fun _=>True,fun x=>[.bool (decide ((show Int from x.1)<x.2.1))],fun _=>[]⟩
theorem q05 (a b:Int) (R:List Item->PS->Prop):sy tt G0 CNan Tryd.f82.ntmps Tryd.f82.results.toList (QC ctLess (a,b,())) R 1000 [.code (qaf Tryd.f82)] (entry [iI,iI] (a,b,())):=by
 refine (q4k a b _ _).mpr ?_;exact ⟨trivial,rfl,QC.flat rfl rfl rfl⟩
theorem qye:Held Tryd.prog G0 82 ctLess:=Held.run cxNan (fn:=Tryd.f82) rfl rfl ⟨by decide,by decide⟩ fun x _=>q05 x.1 x.2.1 _
def qdf:CV:=(82,.inl ctLess)::CNan
theorem cxLess:CxOK Tryd.prog tt G0 qdf:=cxNan.cons qye (fn:=Tryd.f82) rfl rfl rfl
abbrev sw2 (l:List Int) (i j:Nat):List Int:=(l.set i (gtI l j)).set j (gtI l i)
theorem qdq {l:List Int} {i k:Nat} {v:Int} (h:i<l.length):gtI (l.set i v) k=if k=i then v else gtI l k:=by
 show gt iI _ k=if k=i then v else gt iI l k
 unfold gt;rw[List.getElem?_set];by_cases e:i=k
 ·rw[if_pos e,if_pos e.symm,if_pos h];rfl
 ·rw[if_neg e,if_neg fun q=>e q.symm]
theorem qb4 (l:List Int) (i j:Nat):(sw2 l i j).length=l.length:=by rw[List.length_set,List.length_set]
theorem qe9 {l:List Int} {i j:Nat} (hi:i<l.length) (hj:j<l.length) (k:Nat):gtI (sw2 l i j) k=if k=j then gtI l i else if k=i then gtI l j else gtI l k:=by
 show gtI ((l.set i (gtI l j)).set j (gtI l i)) k=_
 rw[qdq (by rw[List.length_set];exact hj),qdq hi]
inductive Swp (a b:Nat) (l:List Int):List Int->Prop
 | refl:Swp a b l l
 | step {m:List Int} (i j:Nat):Swp a b l m->a<=i->i<b->a<=j->j<b->Swp a b l (sw2 m i j)
namespace Swp
variable {a b:Nat} {l m:List Int}
theorem len (h:Swp a b l m):m.length=l.length:=by
 induction h with
 | refl=>rfl
 | step i j _ _ _ _ _ ih=>rw[qb4,ih]
theorem trans {n:List Int} (h:Swp a b l m) (k:Swp a b m n):Swp a b l n:=by
 induction k with
 | refl=>exact h
 | step i j _ h1 h2 h3 h4 ih=>exact .step i j ih h1 h2 h3 h4
theorem one (i j:Nat) (h1:a<=i) (h2:i<b) (h3:a<=j) (h4:j<b):Swp a b l (sw2 l i j):=.step i j .refl h1 h2 h3 h4
theorem mono {a' b':Nat} (ha:a'<=a) (hb:b<=b') (h:Swp a b l m):Swp a' b' l m:=by
 induction h with
 | refl=>exact .refl
 | step i j _ h1 h2 h3 h4 ih=>exact .step i j ih (by omega) (by omega) (by omega) (by omega)
theorem out (hb:b<=l.length) (h:Swp a b l m) {k:Nat} (hk:k<a\/b<=k):gtI m k=gtI l k:=by
 induction h with
 | refl=>rfl
 | step i j q h1 h2 h3 h4 ih=>
  rw[qe9 (by rw[q.len];omega) (by rw[q.len];omega),if_neg (by omega),if_neg (by omega),ih]
theorem all (hb:b<=l.length) (h:Swp a b l m) {P:Int->Prop} (hP:∀ k,a<=k->k<b->P (gtI l k)):∀ k,a<=k->k<b->P (gtI m k):=by
 induction h with
 | refl=>exact hP
 | step i j q h1 h2 h3 h4 ih=>
  intro k k1 k2;rw[qe9 (by rw[q.len];omega) (by rw[q.len];omega)];split
  ·exact ih i h1 h2
  ·split
   ·exact ih j h3 h4
   ·exact ih k k1 k2
theorem perm (hb:b<=l.length) (h:Swp a b l m):m.Perm l:=by
 induction h with
 | refl=>exact List.Perm.refl _
 | @step m i j q h1 h2 h3 h4 ih=>
  refine List.Perm.trans ?_ ih;have hl:=q.len;have e:sw2 m i j=(m.set i m[j]).set j m[i]:=by
   show (m.set i (gtI m j)).set j (gtI m i)=_
   rw[qc9 (l:=m) (i:=j) (by omega),qc9 (l:=m) (i:=i) (by omega)]
  rw[e];exact List.set_set_perm (by omega) (by omega)
end Swp
def Inc (l:List Int) (a b:Nat):Prop:=∀ i,a<=i->i+1<b->gtI l i<=gtI l (i+1)
theorem Inc.le {l:List Int} {a b:Nat} (h:Inc l a b):∀ (d i:Nat),a<=i->i+d<b->gtI l i<=gtI l (i+d)
 | 0,i,_,_=>Int.le_refl _
 | d+1,i,h1,h2=>Int.le_trans (Inc.le h d i h1 (by omega)) (h (i+d) (by omega) (by omega))
theorem Inc.le2 {l:List Int} {a b:Nat} (h:Inc l a b) {i j:Nat} (h1:a<=i) (h2:i<=j) (h3:j<b):gtI l i<=gtI l j:=by
 have:=h.le (j-i) i h1 (by omega);rwa[show i+(j-i)=j by omega] at this
theorem qc3 {C:CV} (cx:CxOK Tryd.prog tt G0 C) {Y:Type} {f:FuncId} {fn:Func} {K:List AK} {pre:DI K->Prop} (Sp:DI K->Y->Prop) (out:Y->List SV) (dat:DI K->Y->DI K)
  (hf:Tryd.prog.funcs[f]?=some fn) (hb:fn.body=some (qaf fn)) (hn:K.length<=fn.ntmps/\K.length<1000) (hs:∀ y,qg7 (out y)=true) (hs2:∀ x,(bkKL 0 K x).all (fun p=>decide (BIG<=p.1)&&q4z p.2)=true)
  (h:∀ x,pre x->∃ y,Sp x y/\GD f fn (fun rs blk=>rs=out y/\∀ p∈bkKL 0 K (dat x y),lk blk p.1=some p.2) [.code (qaf fn)] (qao K x)) :
  ∃ F:DI K->Option Y,(∀ x,pre x->∃ y,F x=some y/\Sp x y)/\HeldI Tryd.prog G0 f ⟨K,pre,fun x=>(F x).elim [] out,fun x=>(F x).elim [] fun y=>bkKL 0 K (dat x y)⟩:=by
 classical
 refine ⟨fun x=>if q:pre x then some (Classical.choose (h x q)) else none,fun x hp=>?_,?_⟩
 ·simp only[dif_pos hp];exact ⟨_,rfl,(Classical.choose_spec (h x hp)).1⟩
 ·refine HeldI.of cx hf hb hn fun x hp=>?_
  have hp:pre x:=hp;have g:=(Classical.choose_spec (h x hp)).2;refine g.post fun rs blk hq=>?_
  obtain ⟨h1,h2⟩:=hq;refine QI.self ?_ (by rw[h1];exact hs _) ?_ ?_
  ·show ((if q:pre x then some (Classical.choose (h x q)) else none):Option Y).elim [] out=rs
   rw[dif_pos hp,h1];rfl
  ·show (((if q:pre x then some (Classical.choose (h x q)) else none):Option Y).elim [] fun y=>bkKL 0 K (dat x y)).all _=true
   rw[dif_pos hp];exact hs2 _
  ·show ∀ p∈((if q:pre x then some (Classical.choose (h x q)) else none):Option Y).elim [] fun y=>bkKL 0 K (dat x y),_
   rw[dif_pos hp];exact h2
end Go.Proofs.YthejkhpeokeccaaDoor
namespace Go.Proofs.YthejkhpeokeccaaDoor
open Go.Px Go.Ax
set_option maxRecDepth 100000
abbrev Ko2:List AK:=[rI,.dat iI,.dat iI,.ptr [.dat iI]]
abbrev K3p:List AK:=[rI,.dat iI,.dat iI,.dat iI,.ptr [.dat iI]]
abbrev K2i:List AK:=[rI,.dat iI,.dat iI]
abbrev K3i:List AK:=[rI,.dat iI,.dat iI,.dat iI]
set_option maxRecDepth 100000
theorem vc_o2 (l:List Int) (a b s:Int) (Q:QT) (R:RT):sy tt G0 qdf Tryd.f95.ntmps Tryd.f95.results.toList Q R 1000 [.code (qaf Tryd.f95)] (qao Ko2 (l,a,b,(s,()),())) =
  (0<=b /\
 b<(l.length:Int) /\
 0+b.toNat<l.length /\
 0<=a /\
 a<(l.length:Int) /\
 0+a.toNat<l.length /\
 ctLess.pre (gtI l (0+b.toNat),gtI l (0+a.toNat),()) /\
 bc (decide ((have this:=gtI l (0+b.toNat);this)<gtI l (0+a.toNat))) (Q [.int .i64 b,.int .i64 a] [(BIG,.row 3 iI l),(1099511627777,.var [.int .i64 (IntKind.i64.wrap (s+1))])]) (Q [.int .i64 a,.int .i64 b] [(BIG,.row 3 iI l),(1099511627777,.var [.int .i64 s])])):=by kernel_rfl
end Go.Proofs.YthejkhpeokeccaaDoor
namespace Go.Proofs.YthejkhpeokeccaaDoor
open Go.Px Go.Ax
set_option maxRecDepth 100000
attribute [local irreducible] Go.Px.sy Go.Px.syE
def o2V (l:List Int) (a b:Int):Int × Int × Int:=if gtI l b.toNat<gtI l a.toNat then (b,a,1) else (a,b,0)
def inL (l:List Int) (a:Int):Prop:=0<=a/\a<l.length
def qxa (l:List Int) (a b s:Int):Prop:=inL l a/\inL l b/\0<=s/\s<100
def ctO2:CtrI:=⟨Ko2,fun x=>qxa x.1 x.2.1 x.2.2.1 x.2.2.2.1.1,fun x=>[.int .i64 (o2V x.1 x.2.1 x.2.2.1).1,.int .i64 (o2V x.1 x.2.1 x.2.2.1).2.1],fun x=>bkKL 0 Ko2 (x.1,x.2.1,x.2.2.1,(x.2.2.2.1.1+(o2V x.1 x.2.1 x.2.2.1).2.2,()),())⟩
theorem q3d {l:List Int} {a b s:Int} {r:Int × Int × Int} (h:o2V l a b=r) {blk:List (Nat × LB)} (h1:lk blk BIG=some (.row 3 iI l)) (h2:lk blk (BIG+1)=some (.var [.int .i64 (s+r.2.2)])):QI ctO2 (l,a,b,(s,()),()) [.int .i64 r.1,.int .i64 r.2.1] blk:=by
 subst h;refine QI.self rfl rfl rfl ?_;intro b hb;simp only[ctO2,bkKL,bkK,cnt,cntL,List.append_nil,List.nil_append,List.mem_append,List.mem_cons,List.mem_singleton,List.not_mem_nil,or_false] at hb;rcases hb with rfl | rfl
 ·exact h1
 ·exact h2
theorem q9e (l:List Int) (a b s:Int) (hp:qxa l a b s) (R:List Item->PS->Prop):sy tt G0 qdf Tryd.f95.ntmps Tryd.f95.results.toList (QI ctO2 (l,a,b,(s,()),())) R 1000 [.code (qaf Tryd.f95)] (qao Ko2 (l,a,b,(s,()),())):=by
 obtain ⟨⟨a0,a1⟩,⟨b0,b1⟩,s0,s1⟩:=hp;refine (vc_o2 l a b s _ _).mpr ?_;have ws:IntKind.i64.wrap (s+1)=s+1:=IntWalk.i64_in _ (by omega);simp only[Nat.zero_add];refine ⟨b0,b1,by omega,a0,a1,by omega,trivial,qap (fun h=>?_) (fun h=>?_)⟩
 ·have h:gtI l b.toNat<gtI l a.toNat:=of_decide_eq_true h;refine q3d (r:=(b,a,1)) (if_pos h) rfl ?_
  show some (LB.var [SV.int .i64 (IntKind.i64.wrap (s+1))])=_
  rw[ws]
 ·have h:¬ gtI l b.toNat<gtI l a.toNat:=of_decide_eq_false h;refine q3d (r:=(a,b,0)) (if_neg h) rfl ?_;rw[Int.add_zero];rfl
theorem q57:HeldI Tryd.prog G0 95 ctO2:=HeldI.run cxLess (fn:=Tryd.f95) rfl rfl ⟨by decide,by decide⟩ fun x hp=>q9e x.1 x.2.1 x.2.2.1 x.2.2.2.1.1 hp _
theorem qph {l:List Int} {a b:Int} {P:Int->Prop} (ha:P a) (hb:P b):P (o2V l a b).1/\P (o2V l a b).2.1/\0<=(o2V l a b).2.2/\(o2V l a b).2.2<=1:=by
 unfold o2V;split
 ·exact ⟨hb,ha,(show (0:Int)<=1 by decide),(show (1:Int)<=1 by decide)⟩
 ·exact ⟨ha,hb,(show (0:Int)<=0 by decide),(show (0:Int)<=1 by decide)⟩
end Go.Proofs.YthejkhpeokeccaaDoor
namespace Go.Proofs.YthejkhpeokeccaaDoor
open Go.Px Go.Ax
open Go.IntKind(i64 u32 u8)
set_option maxRecDepth 100000
set_option maxRecDepth 100000
theorem q2w (l:List Int) (a b:Int) (Q:QT) (R:RT):sy tt G0 qdf Tryd.f76.ntmps Tryd.f76.results.toList Q R 1000 [.code (qaf Tryd.f76)] (qao Kins (l,a,b,())) =
  (R (hd Tryd.f76 0) { env:=[(0,.win true iI BIG 0 l.length),(1,.int .i64 a),(2,.int .i64 b),(6,.int .i64 (i64.wrap (a+1))),(8,.int .i64 a),(9,.int .i64 (i64.wrap (a+1)))],blk:=[(BIG,.row 3 iI l)] }):=by kernel_rfl
theorem qky (l:List Int) (a b i:Int) (Q:QT) (R:RT):sy tt G0 qdf Tryd.f76.ntmps Tryd.f76.results.toList Q R 1000 (hd Tryd.f76 0) ⟨[(0,.win true iI BIG 0 l.length),(1,.int .i64 a),(2,.int .i64 b),(6,.int .i64 i)],[(BIG,.row 3 iI l)]⟩ =
  (bc (decide (i<b)) (R (hd Tryd.f76 1) { env:=[(0,.win true iI BIG 0 l.length),(1,.int .i64 a),(2,.int .i64 b),(6,.int .i64 i),(7,.int .i64 i),(10,.int .i64 i),(11,.int .i64 b),(12,.bool (decide (i<b))),(15,.int .i64 i)],blk:=[(BIG,.row 3 iI l)] }) (Q [] [(BIG,.row 3 iI l)])):=by kernel_rfl
theorem qjd (l:List Int) (a b i j:Int) (Q:QT) (R:RT):sy tt G0 qdf Tryd.f76.ntmps Tryd.f76.results.toList Q (fun it S=>R it (qar [0,1,2,6,7] [BIG] S)) 1000 (hd Tryd.f76 1) ⟨[(0,.win true iI BIG 0 l.length),(1,.int .i64 a),(2,.int .i64 b),(6,.int .i64 i),(7,.int .i64 j)],[(BIG,.row 3 iI l)]⟩ =
  (bc (decide (a<j)) (0<=j /\
 j<(l.length:Int) /\
 0+j.toNat<l.length /\
 0<=i64.wrap (j-1) /\
 i64.wrap (j-1)<(l.length:Int) /\
 0+(i64.wrap (j-1)).toNat<l.length /\
 ctLess.pre (gtI l (0+j.toNat),gtI l (0+(i64.wrap (j-1)).toNat),()) /\
 bc (decide ((have this:=gtI l (0+j.toNat);this)<gtI l (0+(i64.wrap (j-1)).toNat))) (0<=i64.wrap (j-1) /\
 i64.wrap (j-1)<(l.length:Int) /\
 0+(i64.wrap (j-1)).toNat<l.length /\
 0<=j /\
 j<(l.length:Int) /\
 0+j.toNat<l.length /\
 0<=j /\
 j<(l.length:Int) /\
 0+j.toNat<l.length /\
 0<=i64.wrap (j-1) /\
 i64.wrap (j-1)<(l.length:Int) /\
 0+(i64.wrap (j-1)).toNat<(l.set (0+j.toNat) (gtI l (0+(i64.wrap (j-1)).toNat))).length /\
 R (hd Tryd.f76 1) { env:=[(0,.win true iI BIG 0 l.length),(1,.int .i64 a),(2,.int .i64 b),(6,.int .i64 i),(7,.int .i64 (i64.wrap (j-1)))],blk:=[(BIG,.row 3 iI ((l.set (0+j.toNat) (gtI l (0+(i64.wrap (j-1)).toNat))).set (0+(i64.wrap (j-1)).toNat) (gtI l (0+j.toNat))))] }) (R (hd Tryd.f76 0) { env:=[(0,.win true iI BIG 0 l.length),(1,.int .i64 a),(2,.int .i64 b),(6,.int .i64 (i64.wrap (i+1))),(7,.int .i64 j)],blk:=[(BIG,.row 3 iI l)] })) (false=false /\
 R (hd Tryd.f76 0) { env:=[(0,.win true iI BIG 0 l.length),(1,.int .i64 a),(2,.int .i64 b),(6,.int .i64 (i64.wrap (i+1))),(7,.int .i64 j)],blk:=[(BIG,.row 3 iI l)] })):=by kernel_rfl
end Go.Proofs.YthejkhpeokeccaaDoor
namespace Go.Proofs.YthejkhpeokeccaaDoor
open Go.Px Go.Ax
set_option maxRecDepth 100000
attribute [local irreducible] Go.Px.sy Go.Px.syE
def swp (l:List Int) (j:Nat):List Int:=(l.set (j+1) (gtI l j)).set j (gtI l (j+1))
def qhh:Nat->List Int->List Int
 | 0,l=>l
 | j+1,l=>if gtI l (j+1)<gtI l j then qhh j (swp l j) else l
def insF:Nat->Nat->List Int->List Int
 | 0,_,l=>l
 | k+1,i,l=>insF k (i+1) (qhh i l)
def qdj (l:List Int):List Int:=insF (l.length-1) 1 l
theorem qk3 (l:List Int) (j:Nat):(swp l j).length=l.length:=by unfold swp;rw[List.length_set,List.length_set]
theorem qfp:∀ (j:Nat) (l:List Int),(qhh j l).length=l.length
 | 0,_=>rfl
 | j+1,l=>by
  rw[qhh];split
  ·rw[qfp j,qk3]
  ·rfl
theorem qtt:∀ (k i:Nat) (l:List Int),(insF k i l).length=l.length
 | 0,_,_=>rfl
 | k+1,i,l=>by rw[insF,qtt k,qfp]
theorem qfo (l:List Int):(qdj l).length=l.length:=qtt _ _ _
abbrev QB3 (l:List Int):List SV->List (Nat × LB)->Prop:=fun rs blk=>rs=[]/\blk=[(1099511627776,.row 3 iI l)]
abbrev inI (l:List Int) (n i:Int):PS:=⟨[(0,.win true iI 1099511627776 0 l.length),(1,.int .i64 0),(2,.int .i64 n),(6,.int .i64 i)],[(1099511627776,.row 3 iI l)]⟩
abbrev inJ (l:List Int) (n i j:Int):PS:=⟨[(0,.win true iI 1099511627776 0 l.length),(1,.int .i64 0),(2,.int .i64 n),(6,.int .i64 i),(7,.int .i64 j)],[(1099511627776,.row 3 iI l)]⟩
theorem qqv {a b:Nat} (h:a=b):some (SV.win true iI 1099511627776 0 a)=some (SV.win true iI 1099511627776 0 b):=by rw[h]
theorem qym {Q:List SV->List (Nat × LB)->Prop} {n i:Nat} (hn:n<1073741824) (hi:i<n):∀ (j:Nat) (l:List Int),l.length=n->j<=i ->
  GD 76 Tryd.f76 Q (hd Tryd.f76 0) (inI (qhh j l) n (i+1:Nat))->GD 76 Tryd.f76 Q (hd Tryd.f76 1) (inJ l n i j):=by
 have w1:IntKind.i64.wrap ((i:Int)+1)=((i+1:Nat):Int):=by rw[IntWalk.i64_in _ (by omega)];omega
 intro j
 induction j with
 | zero=>
  intro l hl hj K;refine qae cxLess (qjd l 0 n i (0:Nat) _ _) ?_;rw[decide_eq_false (by omega),bc_f,w1];exact ⟨rfl,K.only ⟨rfl,rfl,rfl,rfl,trivial⟩ ⟨rfl,trivial⟩⟩
 | succ j ih=>
  intro l hl hj K;refine qae cxLess (qjd l 0 n i (j+1:Nat) _ _) ?_;have w2:IntKind.i64.wrap (((j+1:Nat):Int)-1)=(j:Int):=by rw[IntWalk.i64_in _ (by omega)];omega
  rw[decide_eq_true (by omega),bc_t,w1,w2];simp only[Int.toNat_natCast,Nat.zero_add,List.length_set];refine ⟨by omega,by omega,by omega,by omega,by omega,by omega,trivial,qap (fun h=>?_) (fun h=>?_)⟩
  ·have h:gtI l (j+1)<gtI l j:=of_decide_eq_true h;rw[qhh,if_pos h] at K;refine ⟨by omega,by omega,by omega,by omega,by omega,by omega,by omega,by omega,by omega,by omega,by omega,by omega,?_⟩;have nx:=ih (swp l j) (by rw[qk3];exact hl) (by omega) K;exact nx.only ⟨qqv (qk3 l j).symm,rfl,rfl,rfl,rfl,trivial⟩ ⟨rfl,trivial⟩
  ·have h:¬ gtI l (j+1)<gtI l j:=of_decide_eq_false h;rw[qhh,if_neg h] at K;exact K.only ⟨rfl,rfl,rfl,rfl,trivial⟩ ⟨rfl,trivial⟩
theorem qyn {n:Nat} (hn:n<1073741824):∀ (k i:Nat) (l:List Int),l.length=n->n-i=k ->
  GD 76 Tryd.f76 (QB3 (insF k i l)) (hd Tryd.f76 0) (inI l n i):=by
 intro k
 induction k with
 | zero=>
  intro i l hl hk;refine qfh cxLess (qky l 0 n i _ _) ?_;rw[decide_eq_false (by omega),bc_f];exact ⟨rfl,rfl⟩
 | succ k ih=>
  intro i l hl hk;refine qfh cxLess (qky l 0 n i _ _) ?_;rw[decide_eq_true (by omega),bc_t,insF];refine (qym hn (i:=i) (by omega) i l hl (Nat.le_refl _) (ih (i+1) (qhh i l) (by rw[qfp];exact hl) (by omega))).only ⟨rfl,rfl,rfl,rfl,rfl,trivial⟩ ⟨rfl,trivial⟩
def qxe (l:List Int) (a b:Int):Prop:=a=0/\b=l.length/\l.length<1073741824
def ctIns:CtrI:=⟨Kins,fun x=>qxe x.1 x.2.1 x.2.2.1,fun _=>[],fun x=>bkKL 0 Kins (qdj x.1,x.2)⟩
theorem q60 (l:List Int) (a b:Int) (hp:qxe l a b):sy tt G0 qdf Tryd.f76.ntmps Tryd.f76.results.toList (QI ctIns (l,a,b,())) (Px.Good Tryd.prog tt G0 76 Tryd.f76.ntmps Tryd.f76.results.toList (QI ctIns (l,a,b,()))) 1000 [.code (qaf Tryd.f76)] (qao Kins (l,a,b,())):=by
 obtain ⟨rfl,rfl,hl⟩:=hp;rw[q2w];refine ((qyn hl (l.length-1) 1 l rfl rfl).post fun rs blk hq=>?_).only ⟨rfl,rfl,rfl,rfl,trivial⟩ ⟨rfl,trivial⟩;obtain ⟨rfl,rfl⟩:=hq;refine QI.self rfl rfl rfl ?_;intro b hb;simp only[ctIns,bkKL,bkK,cnt,cntL,List.append_nil,List.nil_append,List.mem_append,List.mem_cons,List.mem_singleton,List.not_mem_nil,or_false] at hb;rcases hb with rfl
 rfl
theorem q1d:HeldI Tryd.prog G0 76 ctIns:=HeldI.run cxLess (fn:=Tryd.f76) rfl rfl ⟨by decide,by decide⟩ fun x hp=>q60 x.1 x.2.1 x.2.2.1 hp
def CIns:CV:=(76,.inr ctIns)::qdf
theorem q99:CxOK Tryd.prog tt G0 CIns:=cxLess.consI q1d (fn:=Tryd.f76) rfl rfl rfl
end Go.Proofs.YthejkhpeokeccaaDoor
namespace Go.Proofs.YthejkhpeokeccaaDoor
open Go.Px Go.Ax
open Go.IntKind(i64 u32 u8)
set_option maxRecDepth 100000
def L8:List UInt8:=[0,1]++List.replicate 2 2++List.replicate 4 3++List.replicate 8 4++List.replicate 16 5++List.replicate 32 6++List.replicate 64 7++List.replicate 128 8
abbrev Kpdq:List AK:=[rI,.dat iI,.dat iI,.dat iI]
set_option maxRecDepth 100000
theorem qzp (a:Int) (Q:QT) (R:RT):sy tt G0 [] Tryd.f86.ntmps Tryd.f86.results.toList Q R 1000 [.code (qaf Tryd.f86)] (entry [.int .u64] (a,())) =
  (bc (decide (4294967296<=a)) ((0:Int)<=32 /\
 bc (decide (65536<=a.fdiv ((2:Int) ^ min (32) IntKind.u64.bits))) ((0:Int)<=16 /\
 bc (decide ((256:Int)<=(a.fdiv ((2:Int) ^ min (32) IntKind.u64.bits)).fdiv ((2:Int) ^ min (16) IntKind.u64.bits))) ((0:Int)<=8 /\
 0<=u8.wrap (((a.fdiv ((2:Int) ^ min (32) IntKind.u64.bits)).fdiv ((2:Int) ^ min (16) IntKind.u64.bits)).fdiv ((2:Int) ^ min (8) IntKind.u64.bits)) /\
 u8.wrap (((a.fdiv ((2:Int) ^ min (32) IntKind.u64.bits)).fdiv ((2:Int) ^ min (16) IntKind.u64.bits)).fdiv ((2:Int) ^ min (8) IntKind.u64.bits))<(L8.length:Int) /\
 Q [.int .i64 (i64.wrap (i64.wrap (i64.wrap ((32:Int)+16)+8)+i64.wrap (↑(L8[(u8.wrap (((a.fdiv ((2:Int) ^ min (32) IntKind.u64.bits)).fdiv ((2:Int) ^ min (16) IntKind.u64.bits)).fdiv ((2:Int) ^ min (8) IntKind.u64.bits))).toNat]?.getD (0:UInt8)).toNat:Int)))] []) (0<=u8.wrap ((a.fdiv ((2:Int) ^ min (32) IntKind.u64.bits)).fdiv ((2:Int) ^ min (16) IntKind.u64.bits)) /\
 u8.wrap ((a.fdiv ((2:Int) ^ min (32) IntKind.u64.bits)).fdiv ((2:Int) ^ min (16) IntKind.u64.bits))<(L8.length:Int) /\
 Q [.int .i64 (i64.wrap (i64.wrap ((32:Int)+16)+i64.wrap (↑(L8[(u8.wrap ((a.fdiv ((2:Int) ^ min (32) IntKind.u64.bits)).fdiv ((2:Int) ^ min (16) IntKind.u64.bits))).toNat]?.getD (0:UInt8)).toNat:Int)))] [])) (bc (decide (256<=a.fdiv ((2:Int) ^ min (32) IntKind.u64.bits))) ((0:Int)<=8 /\
 0<=u8.wrap ((a.fdiv ((2:Int) ^ min (32) IntKind.u64.bits)).fdiv ((2:Int) ^ min (8) IntKind.u64.bits)) /\
 u8.wrap ((a.fdiv ((2:Int) ^ min (32) IntKind.u64.bits)).fdiv ((2:Int) ^ min (8) IntKind.u64.bits))<(L8.length:Int) /\
 Q [.int .i64 (i64.wrap (i64.wrap ((32:Int)+8)+i64.wrap (↑(L8[(u8.wrap ((a.fdiv ((2:Int) ^ min (32) IntKind.u64.bits)).fdiv ((2:Int) ^ min (8) IntKind.u64.bits))).toNat]?.getD (0:UInt8)).toNat:Int)))] []) (0<=u8.wrap (a.fdiv ((2:Int) ^ min (32) IntKind.u64.bits)) /\
 u8.wrap (a.fdiv ((2:Int) ^ min (32) IntKind.u64.bits))<(L8.length:Int) /\
 Q [.int .i64 (i64.wrap ((32:Int)+i64.wrap (↑(L8[(u8.wrap (a.fdiv ((2:Int) ^ min (32) IntKind.u64.bits))).toNat]?.getD (0:UInt8)).toNat:Int)))] []))) (bc (decide (65536<=a)) ((0:Int)<=16 /\
 bc (decide (256<=a.fdiv ((2:Int) ^ min (16) IntKind.u64.bits))) ((0:Int)<=8 /\
 0<=u8.wrap ((a.fdiv ((2:Int) ^ min (16) IntKind.u64.bits)).fdiv ((2:Int) ^ min (8) IntKind.u64.bits)) /\
 u8.wrap ((a.fdiv ((2:Int) ^ min (16) IntKind.u64.bits)).fdiv ((2:Int) ^ min (8) IntKind.u64.bits))<(L8.length:Int) /\
 Q [.int .i64 (i64.wrap (i64.wrap (i64.wrap ((0:Int)+16)+8)+i64.wrap (↑(L8[(u8.wrap ((a.fdiv ((2:Int) ^ min (16) IntKind.u64.bits)).fdiv ((2:Int) ^ min (8) IntKind.u64.bits))).toNat]?.getD (0:UInt8)).toNat:Int)))] []) (0<=u8.wrap (a.fdiv ((2:Int) ^ min (16) IntKind.u64.bits)) /\
 u8.wrap (a.fdiv ((2:Int) ^ min (16) IntKind.u64.bits))<(L8.length:Int) /\
 Q [.int .i64 (i64.wrap (i64.wrap ((0:Int)+16)+i64.wrap (↑(L8[(u8.wrap (a.fdiv ((2:Int) ^ min (16) IntKind.u64.bits))).toNat]?.getD (0:UInt8)).toNat:Int)))] [])) (bc (decide (256<=a)) ((0:Int)<=8 /\
 0<=u8.wrap (a.fdiv ((2:Int) ^ min (8) IntKind.u64.bits)) /\
 u8.wrap (a.fdiv ((2:Int) ^ min (8) IntKind.u64.bits))<(L8.length:Int) /\
 Q [.int .i64 (i64.wrap (i64.wrap ((0:Int)+8)+i64.wrap (↑(L8[(u8.wrap (a.fdiv ((2:Int) ^ min (8) IntKind.u64.bits))).toNat]?.getD (0:UInt8)).toNat:Int)))] []) (0<=u8.wrap a /\
 u8.wrap a<(L8.length:Int) /\
 Q [.int .i64 (i64.wrap ((0:Int)+i64.wrap (↑(L8[(u8.wrap a).toNat]?.getD (0:UInt8)).toNat:Int)))] [])))):=by kernel_rfl
theorem q39 (l:List Int) (a b m:Int) (Q:QT) (R:RT):sy tt G0 CIns Tryd.f70.ntmps Tryd.f70.results.toList Q R 1000 (hd Tryd.f70 0) ⟨[(0,.win true iI BIG 0 l.length),(1,.int .i64 a),(2,.int .i64 b),(3,.int .i64 m),(8,.bool true),(9,.bool true)],[(BIG,.row 3 iI l)]⟩ =
  (bc (decide (i64.wrap (b-a)<=12)) (l.length=l.length /\
 ctIns.pre (l,a,b,()) /\
 Q [] [(BIG,.row 3 iI (qdj l))]) (bc (decide (m=0)) False False)):=by kernel_rfl
theorem q71 (l:List Int) (a b m:Int) (Q:QT) (R:RT):sy tt G0 CIns Tryd.f70.ntmps Tryd.f70.results.toList Q R 1000 [.code (qaf Tryd.f70)] (qao Kpdq (l,a,b,m,())) =
  (R (hd Tryd.f70 0) { env:=[(0,.win true iI BIG 0 l.length),(1,.int .i64 a),(2,.int .i64 b),(3,.int .i64 m),(8,.bool true),(9,.bool true)],blk:=[(BIG,.row 3 iI l)] }):=by kernel_rfl
end Go.Proofs.YthejkhpeokeccaaDoor
namespace Go.Proofs.YthejkhpeokeccaaDoor
open Go.Px Go.Ax
set_option maxRecDepth 100000
attribute [local irreducible] Go.Px.sy Go.Px.syE
def lenV (a:Int):Int:=((L8[a.toNat]?.getD 0).toNat:Nat)
def qxc (a:Int):Prop:=0<=a/\a<256
def ctL64:Ctr:=⟨[.int .u64],fun x=>qxc x.1,fun x=>[.int .i64 (lenV x.1)],fun _=>[]⟩
theorem qsp (b:UInt8):IntKind.i64.wrap ((b.toNat:Nat):Int)=((b.toNat:Nat):Int):=by
 have:=b.toNat_lt;exact IntWalk.i64_in _ (by omega)
theorem q6v (a:Int) (h:qxc a) (R:List Item->PS->Prop):sy tt G0 [] Tryd.f86.ntmps Tryd.f86.results.toList (QC ctL64 (a,())) R 1000 [.code (qaf Tryd.f86)] (entry [.int .u64] (a,())):=by
 obtain ⟨h0,h1⟩:=h;refine (qzp a _ _).mpr ?_;rw[decide_eq_false (show ¬ (4294967296:Int)<=a by omega),bc_f,decide_eq_false (show ¬ (65536:Int)<=a by omega),bc_f,decide_eq_false (show ¬ (256:Int)<=a by omega),bc_f];have e:IntKind.u8.wrap a=a:=by rw[IntKind.wrap_u8];omega
 rw[e];refine ⟨h0,(show a<((256:Nat):Int) by omega),?_⟩;refine QC.flat ?_ rfl rfl
 show [SV.int .i64 (lenV a)]=_
 rw[qsp,Int.zero_add,qsp];rfl
theorem q07:Held Tryd.prog G0 86 ctL64:=Held.run cx0 (fn:=Tryd.f86) rfl rfl ⟨by decide,by decide⟩ fun x hp=>q6v x.1 hp _
def q26 (l:List Int) (a b:Int):Prop:=a=0/\b=l.length/\l.length<=12
def qy2:CtrI:=⟨Kpdq,fun x=>q26 x.1 x.2.1 x.2.2.1,fun _=>[],fun x=>bkKL 0 Kpdq (qdj x.1,x.2)⟩
theorem q50 (l:List Int) (a b m:Int) (hp:q26 l a b):sy tt G0 CIns Tryd.f70.ntmps Tryd.f70.results.toList (QI qy2 (l,a,b,m,())) (Px.Good Tryd.prog tt G0 70 Tryd.f70.ntmps Tryd.f70.results.toList (QI qy2 (l,a,b,m,()))) 1000 [.code (qaf Tryd.f70)] (qao Kpdq (l,a,b,m,())):=by
 obtain ⟨rfl,rfl,hl⟩:=hp;rw[q71];refine qfh q99 (q39 l 0 l.length m _ _) ?_;rw[show IntKind.i64.wrap ((l.length:Int)-0)=l.length from IntWalk.i64_in _ (by omega),decide_eq_true (by omega),bc_t];refine ⟨rfl,(show qxe l 0 l.length from ⟨rfl,rfl,by omega⟩),?_⟩;refine QI.self rfl rfl rfl ?_;intro b hb;simp only[qy2,bkKL,bkK,cnt,cntL,List.append_nil,List.nil_append,List.mem_append,List.mem_cons,List.mem_singleton,List.not_mem_nil,or_false] at hb;rcases hb with rfl
 rfl
theorem q0l:HeldI Tryd.prog G0 70 qy2:=HeldI.run q99 (fn:=Tryd.f70) rfl rfl ⟨by decide,by decide⟩ fun x hp=>q50 x.1 x.2.1 x.2.2.1 x.2.2.2.1 hp
def CPdq:CV:=[(70,.inr qy2),(86,.inl ctL64)]
theorem cxPdq:CxOK Tryd.prog tt G0 CPdq:=(cx0.cons q07 (fn:=Tryd.f86) rfl rfl rfl).consI q0l (fn:=Tryd.f70) rfl rfl rfl
end Go.Proofs.YthejkhpeokeccaaDoor
namespace Go.Proofs.YthejkhpeokeccaaDoor
open Go.Px Go.Ax
set_option maxRecDepth 100000
set_option maxRecDepth 100000
theorem q4m (a:Int) (Q:QT) (R:RT):sy tt G0 CPdq Tryd.f71.ntmps Tryd.f71.results.toList Q R 1000 [.code (qaf Tryd.f71)] (entry [.int .u64] (a,())) =
  (ctL64.pre (a,()) /\
 Q [.int .i64 (lenV a)] []):=by kernel_rfl
end Go.Proofs.YthejkhpeokeccaaDoor
namespace Go.Proofs.YthejkhpeokeccaaDoor
open Go.Px Go.Ax
set_option maxRecDepth 100000
attribute [local irreducible] Go.Px.sy Go.Px.syE
theorem qqh:Held Tryd.prog G0 71 ctL64:=Held.run cxPdq (fn:=Tryd.f71) rfl rfl ⟨by decide,by decide⟩ fun x hp=>by
 refine (q4m x.1 _ _).mpr ⟨hp,?_⟩;exact QC.flat rfl rfl rfl
end Go.Proofs.YthejkhpeokeccaaDoor
namespace Go.Proofs.YthejkhpeokeccaaDoor
open Go.Px Go.Ax
open Go.IntKind(i64 u32 u8)
set_option maxRecDepth 100000
def CO2:CV:=[(95,.inr ctO2)]
theorem cxO2:CxOK Tryd.prog tt G0 CO2:=cx0.consI q57 (fn:=Tryd.f95) rfl rfl rfl
def CNp:CV:=(71,.inl ctL64)::CPdq
set_option maxRecDepth 100000
theorem vc_md (l:List Int) (a b c s:Int) (Q:QT) (R:RT):sy tt G0 CO2 Tryd.f93.ntmps Tryd.f93.results.toList Q R 1000 [.code (qaf Tryd.f93)] (qao K3p (l,a,b,c,(s,()),())) =
  (l.length=l.length /\
 ctO2.pre (l,a,b,(s,()),()) /\
 l.length=l.length /\
 ctO2.pre (l,(o2V l a b).2.1,c,(s+(o2V l a b).2.2,()),()) /\
 l.length=l.length /\
 ctO2.pre (l,(o2V l a b).1,(o2V l (o2V l a b).2.1 c).1,(s+(o2V l a b).2.2+(o2V l (o2V l a b).2.1 c).2.2,()),()) /\
 Q [.int .i64 (o2V l (o2V l a b).1 (o2V l (o2V l a b).2.1 c).1).2.1] [(BIG,.row 3 iI l),(1099511627777,.var [.int .i64 (s+(o2V l a b).2.2+(o2V l (o2V l a b).2.1 c).2.2+(o2V l (o2V l a b).1 (o2V l (o2V l a b).2.1 c).1).2.2)])]):=by kernel_rfl
theorem vc_rv (l:List Int) (a b:Int) (Q:QT) (R:RT):sy tt G0 [] Tryd.f80.ntmps Tryd.f80.results.toList Q R 1000 [.code (qaf Tryd.f80)] (qao K2i (l,a,b,())) =
  (R (hd Tryd.f80 0) { env:=[(0,.win true iI BIG 0 l.length),(1,.int .i64 a),(2,.int .i64 b),(6,.int .i64 a),(7,.int .i64 (i64.wrap (b-1))),(8,.int .i64 a),(9,.int .i64 b),(10,.int .i64 (i64.wrap (b-1)))],blk:=[(BIG,.row 3 iI l)] }):=by kernel_rfl
theorem qv0 (l:List Int) (i j:Int) (Q:QT) (R:RT):sy tt G0 [] Tryd.f80.ntmps Tryd.f80.results.toList Q R 1000 (hd Tryd.f80 0) ⟨[(0,.win true iI BIG 0 l.length),(6,.int .i64 i),(7,.int .i64 j)],[(BIG,.row 3 iI l)]⟩ =
  (bc (decide (i<j)) (0<=j /\
 j<(l.length:Int) /\
 0+j.toNat<l.length /\
 0<=i /\
 i<(l.length:Int) /\
 0+i.toNat<l.length /\
 0<=i /\
 i<(l.length:Int) /\
 0+i.toNat<l.length /\
 0<=j /\
 j<(l.length:Int) /\
 0+j.toNat<(l.set (0+i.toNat) (gtI l (0+j.toNat))).length /\
 R (hd Tryd.f80 0) { env:=[(0,.win true iI BIG 0 l.length),(6,.int .i64 (i64.wrap (i+1))),(7,.int .i64 (i64.wrap (j-1))),(11,.int .i64 i),(12,.int .i64 j),(13,.bool (decide (i<j))),(14,.win true iI BIG 0 l.length),(15,.int .i64 i),(16,.win true iI BIG 0 l.length),(17,.int .i64 j),(18,.win true iI BIG 0 l.length),(19,.int .i64 j),(20,.elp iI BIG (0+j.toNat) 0),(21,.int .i64 (gtI l (0+j.toNat))),(22,.win true iI BIG 0 l.length),(23,.int .i64 i),(24,.elp iI BIG (0+i.toNat) 0),(25,.int .i64 (gtI l (0+i.toNat))),(26,.elp iI BIG (0+i.toNat) 0),(27,.elp iI BIG (0+j.toNat) 0),(28,.int .i64 i),(29,.int .i64 (i64.wrap (i+1))),(30,.int .i64 j),(31,.int .i64 (i64.wrap (j-1)))],blk:=[(BIG,.row 3 iI ((l.set (0+i.toNat) (gtI l (0+j.toNat))).set (0+j.toNat) (gtI l (0+i.toNat))))] }) (Q [] [(BIG,.row 3 iI l)])):=by kernel_rfl
theorem vc_pi (l:List Int) (a b:Int) (Q:QT) (R:RT):sy tt G0 qdf Tryd.f81.ntmps Tryd.f81.results.toList Q R 1000 [.code (qaf Tryd.f81)] (qao K2i (l,a,b,())) =
  (R (hd Tryd.f81 0) { env:=[(0,.win true iI BIG 0 l.length),(1,.int .i64 a),(2,.int .i64 b),(6,.bool false),(7,.int .i64 (i64.wrap (a+1))),(8,.int .i64 0),(11,.int .i64 a),(12,.int .i64 (i64.wrap (a+1)))],blk:=[(BIG,.row 3 iI l)] }):=by kernel_rfl
theorem q4b (r:Int) (Q:QT) (R:RT):sy tt G0 [] Tryd.f91.ntmps Tryd.f91.results.toList Q R 1000 [.code (qaf Tryd.f91)] (qao [.ptr [.dat (.int .u64)]] ((r,()),())) =
  ((0:Int)<=13 /\
 (0:Int)<=7 /\
 (0:Int)<=17 /\
 Q [.int .u64 (bitI BinOp.xor IntKind.u64 (bitI BinOp.xor IntKind.u64 (bitI BinOp.xor IntKind.u64 r (IntKind.u64.wrap (r*2 ^ min (13) IntKind.u64.bits))) ((bitI BinOp.xor IntKind.u64 r (IntKind.u64.wrap (r*2 ^ min (13) IntKind.u64.bits))).fdiv ((2:Int) ^ min (7) IntKind.u64.bits))) (IntKind.u64.wrap (bitI BinOp.xor IntKind.u64 (bitI BinOp.xor IntKind.u64 r (IntKind.u64.wrap (r*2 ^ min (13) IntKind.u64.bits))) ((bitI BinOp.xor IntKind.u64 r (IntKind.u64.wrap (r*2 ^ min (13) IntKind.u64.bits))).fdiv ((2:Int) ^ min (7) IntKind.u64.bits))*2 ^ min (17) IntKind.u64.bits)))] [(BIG,.var [.int .u64 (bitI BinOp.xor IntKind.u64 (bitI BinOp.xor IntKind.u64 (bitI BinOp.xor IntKind.u64 r (IntKind.u64.wrap (r*2 ^ min (13) IntKind.u64.bits))) ((bitI BinOp.xor IntKind.u64 r (IntKind.u64.wrap (r*2 ^ min (13) IntKind.u64.bits))).fdiv ((2:Int) ^ min (7) IntKind.u64.bits))) (IntKind.u64.wrap (bitI BinOp.xor IntKind.u64 (bitI BinOp.xor IntKind.u64 r (IntKind.u64.wrap (r*2 ^ min (13) IntKind.u64.bits))) ((bitI BinOp.xor IntKind.u64 r (IntKind.u64.wrap (r*2 ^ min (13) IntKind.u64.bits))).fdiv ((2:Int) ^ min (7) IntKind.u64.bits))*2 ^ min (17) IntKind.u64.bits)))])]):=by kernel_rfl
theorem vc_np (r:Int) (Q:QT) (R:RT):sy tt G0 CNp Tryd.f90.ntmps Tryd.f90.results.toList Q R 1000 [.code (qaf Tryd.f90)] (entry [iI] (r,())) =
  (ctL64.pre (IntKind.u64.wrap r,()) /\
 0<=lenV (IntKind.u64.wrap r) /\
 Q [.int .u64 (IntKind.u64.wrap ((1:Int)*2 ^ min (lenV (IntKind.u64.wrap r)).toNat IntKind.u64.bits))] []):=by kernel_rfl
end Go.Proofs.YthejkhpeokeccaaDoor
namespace Go.Proofs.YthejkhpeokeccaaDoor
open Go.Px Go.Ax
set_option maxRecDepth 100000
attribute [local irreducible] Go.Px.sy Go.Px.syE
def mdV (l:List Int) (a b c:Int):Int:=(o2V l (o2V l a b).1 (o2V l (o2V l a b).2.1 c).1).2.1
def mdS (l:List Int) (a b c:Int):Int:=(o2V l a b).2.2+(o2V l (o2V l a b).2.1 c).2.2+(o2V l (o2V l a b).1 (o2V l (o2V l a b).2.1 c).1).2.2
theorem q9n {l:List Int} {a b c:Int} {P:Int->Prop} (ha:P a) (hb:P b) (hc:P c):P (mdV l a b c)/\0<=mdS l a b c/\mdS l a b c<=3:=by
 obtain ⟨p1,p2,p3,p4⟩:=qph (l:=l) ha hb;obtain ⟨q1,q2,q3,q4⟩:=qph (l:=l) p2 hc;obtain ⟨r1,r2,r3,r4⟩:=qph (l:=l) p1 q1;exact ⟨r2,by unfold mdS;omega,by unfold mdS;omega⟩
def q5l (l:List Int) (a b c s:Int):Prop:=inL l a/\inL l b/\inL l c/\0<=s/\s<50
def ctMd:CtrI:=⟨K3p,fun x=>q5l x.1 x.2.1 x.2.2.1 x.2.2.2.1 x.2.2.2.2.1.1,fun x=>[.int .i64 (mdV x.1 x.2.1 x.2.2.1 x.2.2.2.1)],fun x=>bkKL 0 K3p (x.1,x.2.1,x.2.2.1,x.2.2.2.1,(x.2.2.2.2.1.1+mdS x.1 x.2.1 x.2.2.1 x.2.2.2.1,()),())⟩
theorem q9m (l:List Int) (a b c s:Int) (hp:q5l l a b c s) (R:List Item->PS->Prop):sy tt G0 CO2 Tryd.f93.ntmps Tryd.f93.results.toList (QI ctMd (l,a,b,c,(s,()),())) R 1000 [.code (qaf Tryd.f93)] (qao K3p (l,a,b,c,(s,()),())):=by
 obtain ⟨ha,hb,hc,s0,s1⟩:=hp;obtain ⟨p1,p2,p3,p4⟩:=qph (l:=l) ha hb;obtain ⟨q1,q2,q3,q4⟩:=qph (l:=l) p2 hc;refine (vc_md l a b c s _ _).mpr ⟨rfl,(show qxa l a b s from ⟨ha,hb,s0,by omega⟩),rfl,(show qxa l (o2V l a b).2.1 c (s+(o2V l a b).2.2) from ⟨p2,hc,by omega,by omega⟩),rfl,(show qxa l (o2V l a b).1 (o2V l (o2V l a b).2.1 c).1 (s+(o2V l a b).2.2+(o2V l (o2V l a b).2.1 c).2.2) from ⟨p1,q1,by omega,by omega⟩),?_⟩;refine QI.self rfl rfl rfl ?_;intro b' hb;simp only[ctMd,bkKL,bkK,cnt,cntL,List.append_nil,List.nil_append,List.mem_append,List.mem_cons,List.mem_singleton,List.not_mem_nil,or_false] at hb;rcases hb with rfl | rfl
 ·rfl
 ·show some (LB.var [SV.int .i64 (s+(o2V l a b).2.2+(o2V l (o2V l a b).2.1 c).2.2+(o2V l (o2V l a b).1 (o2V l (o2V l a b).2.1 c).1).2.2)])=some (LB.var [SV.int .i64 (s+mdS l a b c)])
  unfold mdS;rw[show s+(o2V l a b).2.2+(o2V l (o2V l a b).2.1 c).2.2+(o2V l (o2V l a b).1 (o2V l (o2V l a b).2.1 c).1).2.2=s+((o2V l a b).2.2+(o2V l (o2V l a b).2.1 c).2.2+(o2V l (o2V l a b).1 (o2V l (o2V l a b).2.1 c).1).2.2) by omega]
theorem q6l:HeldI Tryd.prog G0 93 ctMd:=HeldI.run cxO2 (fn:=Tryd.f93) rfl rfl ⟨by decide,by decide⟩ fun x hp=>q9m x.1 x.2.1 x.2.2.1 x.2.2.2.1 x.2.2.2.2.1.1 hp _
theorem q41 (l0:List Int) (a b:Nat) (hb:b<=l0.length) (hl:l0.length<1073741824):∀ (k:Nat) (i j:Int) (l:List Int),(j-i).toNat<=k->(a:Int)<=i->j<(b:Int) -> -1<=j->Swp a b l0 l ->
  ∃ m,Swp a b l0 m/\GD 80 Tryd.f80 (fun rs blk=>rs=[]/\lk blk BIG=some (.row 3 iI m)) (hd Tryd.f80 0) ⟨[(0,.win true iI 1099511627776 0 l.length),(6,.int .i64 i),(7,.int .i64 j)],[(1099511627776,.row 3 iI l)]⟩:=by
 intro k
 induction k with
 | zero=>
  intro i j l hk hi hj hj0 hs;refine ⟨l,hs,qfh cx0 (qv0 l i j _ _) ?_⟩;rw[decide_eq_false (by omega),bc_f];exact ⟨rfl,rfl⟩
 | succ k ih=>
  intro i j l hk hi hj hj0 hs;by_cases h:i<j
  ·have hlen:=hs.len;obtain ⟨m,h1,h2⟩:=ih (i+1) (j-1) (sw2 l i.toNat j.toNat) (by omega) (by omega) (by omega) (by omega) (.step _ _ hs (by omega) (by omega) (by omega) (by omega));refine ⟨m,h1,qfh cx0 (qv0 l i j _ _) ?_⟩;rw[decide_eq_true h,bc_t,IntWalk.i64_in (i+1) (by omega),IntWalk.i64_in (j-1) (by omega)];simp only[Nat.zero_add,List.length_set];refine ⟨by omega,by omega,by omega,by omega,by omega,by omega,by omega,by omega,by omega,by omega,by omega,by omega,?_⟩;refine h2.only ⟨?_,rfl,rfl,trivial⟩ ⟨rfl,trivial⟩
   show some (SV.win true iI 1099511627776 0 l.length)=some (SV.win true iI 1099511627776 0 (sw2 l i.toNat j.toNat).length)
   rw[qb4]
  ·refine ⟨l,hs,qfh cx0 (qv0 l i j _ _) ?_⟩;rw[decide_eq_false h,bc_f];exact ⟨rfl,rfl⟩
def qhn (l:List Int) (a b:Int):Prop:=0<=a/\a<=b/\b<=l.length/\l.length<1073741824
theorem bk2 (x:DI K2i) (m:List Int) {blk:List (Nat × LB)} (h:lk blk BIG=some (.row 3 iI m)):∀ p∈bkKL 0 K2i (m,x.2),lk blk p.1=some p.2:=by
 intro p hp;simp only[bkKL,bkK,List.append_nil,List.mem_cons,List.not_mem_nil,or_false] at hp;subst hp;exact h
theorem q8x (l:List Int) (a b:Int) (hp:qhn l a b):∃ m,Swp a.toNat b.toNat l m/\GD 80 Tryd.f80 (fun rs blk=>rs=[]/\∀ p∈bkKL 0 K2i (m,a,b,()),lk blk p.1=some p.2) [.code (qaf Tryd.f80)] (qao K2i (l,a,b,())):=by
 obtain ⟨h0,h1,h2,h3⟩:=hp;obtain ⟨m,m1,m2⟩:=q41 l a.toNat b.toNat (by omega) h3 _ a (b-1) l (Nat.le_refl _) (by omega) (by omega) (by omega) .refl;refine ⟨m,m1,?_⟩;refine qfh cx0 (vc_rv l a b _ _) ?_;rw[IntWalk.i64_in (b-1) (by omega)];refine (m2.post fun rs blk hq=>⟨hq.1,bk2 (l,a,b,()) m hq.2⟩).only ⟨rfl,rfl,rfl,trivial⟩ ⟨rfl,trivial⟩
theorem q43:∃ F:DI K2i->Option (List Int),(∀ x,qhn x.1 x.2.1 x.2.2.1->∃ y,F x=some y/\Swp x.2.1.toNat x.2.2.1.toNat x.1 y)/\HeldI Tryd.prog G0 80 ⟨K2i,fun x=>qhn x.1 x.2.1 x.2.2.1,fun x=>(F x).elim [] fun _=>[],fun x=>(F x).elim [] fun y=>bkKL 0 K2i (y,x.2)⟩:=
 qc3 (K:=K2i) (Y:=List Int) (pre:=fun x=>qhn x.1 x.2.1 x.2.2.1) cx0 (fn:=Tryd.f80) (fun x y=>Swp x.2.1.toNat x.2.2.1.toNat x.1 y) (fun _=>[]) (fun x y=>(y,x.2)) rfl rfl ⟨by decide,by decide⟩ (fun _=>rfl) (fun _=>rfl) fun x hp=>q8x x.1 x.2.1 x.2.2.1 hp
end Go.Proofs.YthejkhpeokeccaaDoor
