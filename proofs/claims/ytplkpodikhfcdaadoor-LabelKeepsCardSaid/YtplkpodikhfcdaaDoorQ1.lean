/-
  A part of the proof: what pieces of the program give; conditions: those of each theorem.
-/
import Derived.Test.YtplkpodikhfcdaaDoorQ0
import Derived.Test.YtplkpodikhfcdaaDoorHD
set_option linter.unusedVariables false
set_option linter.unusedSimpArgs false
namespace Go.Proofs.YtplkpodikhfcdaaDoor
open Go.Px Go.Ax
set_option maxRecDepth 100000
attribute [local irreducible] Go.Px.sy Go.Px.syE
def qwt (x:LiT):Prop:=x.1.length<1099511627776/\x.2.1.length<1099511627776/\x.2.2.length<1099511627776
def ct_same:Ctr:=⟨[liS,liS],fun x=>qwt x.1,fun x=>[.bool (decide ((show LiT from x.1)=x.2.1))],fun _=>[]⟩
theorem qwb:Held Tryd.prog G0 43 ct_same:=by
 refine Held.run cxQe (fn:=Tryd.f43) rfl rfl ⟨by decide,by decide⟩ ?_;rintro ⟨⟨w1,m1,l1⟩,⟨w2,m2,l2⟩,⟨⟩⟩ hp;obtain ⟨p1,p2,p3⟩:qwt (w1,m1,l1):=hp;have fin:∀ (b:Bool) blk,decide ((w1,m1,l1)=(w2,m2,l2))=b->QC ct_same ((w1,m1,l1),(w2,m2,l2),()) [SV.bool b] blk:=fun b blk h=>QC.flat (by show [SV.bool (decide ((w1,m1,l1)=(w2,m2,l2)))]=_;rw[h]) rfl rfl
 refine (q3p w1 w2 m1 m2 l1 l2 _ _).mpr ⟨p1,qav (fun h=>⟨p2,qav (fun h2=>⟨p3,fin _ _ ?_⟩) (fun h2=>⟨rfl,fin _ _ ?_⟩)⟩) (fun h=>⟨rfl,rfl,fin _ _ ?_⟩)⟩
 ·have h:w1=w2:=of_decide_eq_true h;have h2:m1=m2:=of_decide_eq_true h2
  show decide _=decide (l1=l2)
  simp[h,h2]
 ·have h2:¬ m1=m2:=of_decide_eq_false h2;simp[h2]
 ·have h:¬ w1=w2:=of_decide_eq_false h;simp[h]
def putF {α:Type} (l:List α) (a b:Nat) (z:α):List α:=l.take a++List.replicate b z++l.drop a
theorem quf {α:Type} (p q:List α) (b:Nat) (z:α):setRow (p++List.replicate (q.length+b) z) (p.length+b) q=p++List.replicate b z++q:=by
 unfold setRow;have e1:List.take (p.length+b) (p++List.replicate (q.length+b) z)=p++List.replicate b z:=by
  rw[List.take_append,List.take_of_length_le (Nat.le_add_right _ _),List.take_replicate]
  congr 2;omega
 have e2:List.drop (p.length+b+q.length) (p++List.replicate (q.length+b) z)=[]:=List.drop_of_length_le (by simp;omega);rw[e1,e2,List.append_nil]
theorem qm0 {α:Type} (l:List α) (a b:Nat) (z:α) (ha:a<=l.length):setRow (setRow (List.replicate (l.length+b) z) 0 (List.take (l.length+b) (List.take a l))) (a+b) (List.take (l.length+b-(a+b)) (List.drop a l))=putF l a b z:=by
 have e1:List.take (l.length+b) (List.take a l)=List.take a l:=List.take_of_length_le (by rw[List.length_take];omega);have e2:List.take (l.length+b-(a+b)) (List.drop a l)=List.drop a l:=List.take_of_length_le (by rw[List.length_drop];omega);rw[e1,e2];have l1:(List.take a l).length=a:=by rw[List.length_take];omega
 have l2:(List.drop a l).length=l.length-a:=List.length_drop;have f:setRow (List.replicate (l.length+b) z) 0 (List.take a l)=List.take a l++List.replicate ((List.drop a l).length+b) z:=by
  unfold setRow;rw[l1,l2,List.take_zero,List.nil_append,Nat.zero_add,List.drop_replicate]
  congr 2;omega
 rw[f];have:=quf (List.take a l) (List.drop a l) b z;rw[l1] at this;exact this
theorem qh4 {α:Type} (l:List α) (a b:Nat) (z:α) (ha:a<=l.length):(putF l a b z).length=l.length+b:=by
 unfold putF;simp;omega
def qul {α:Type} (l:List α) (a b:Int):Prop:=(0<=a/\a<=l.length)/\0<=b/\l.length+b<16777216
def ct_putW:Ctr:=⟨[.sl u4,iI,iI],fun x=>qul (show List Int from x.1) x.2.1 x.2.2.1,fun x=>[.win true u4 0 0 (putF (show List Int from x.1) x.2.1.toNat x.2.2.1.toNat 0).length],fun x=>[.row 53 u4 (putF (show List Int from x.1) x.2.1.toNat x.2.2.1.toNat 0)]⟩
def ct_putM:Ctr:=⟨[.sl .bool,iI,iI],fun x=>qul (show List Bool from x.1) x.2.1 x.2.2.1,fun x=>[.win true .bool 0 0 (putF (show List Bool from x.1) x.2.1.toNat x.2.2.1.toNat false).length],fun x=>[.row 4 .bool (putF (show List Bool from x.1) x.2.1.toNat x.2.2.1.toNat false)]⟩
theorem qz3 (l:List Int) (a b:Nat) (ha:a<=l.length) (hb:l.length+b<16777216) (R:List Item->PS->Prop):sy tt G0 [] Tryd.f39.ntmps Tryd.f39.results.toList (QC ct_putW (l,(a:Int),(b:Int),())) R 1000 [.code (qah Tryd.f39)] (entry [.sl u4,iI,iI] (l,(a:Int),(b:Int),())):=by
 refine (q3r l a b _ _).mpr ?_;have w1:IntKind.i64.wrap ((l.length:Int)+(b:Int))=((l.length+b:Nat):Int):=by rw[IntWalk.i64_in _ (by omega)];omega
 have w2:IntKind.i64.wrap ((a:Int)+(b:Int))=((a+b:Nat):Int):=by rw[IntWalk.i64_in _ (by omega)];omega
 have sl1:(setRow (List.replicate (l.length+b) ((0:Int))) 0 (List.take (l.length+b) (List.take a l))).length=l.length+b:=by
  unfold setRow;simp;omega
 rw[w1,w2];simp only[Int.toNat_natCast];refine ⟨by omega,by omega,(show ((l.length+b:Nat):Int)<16777216 by omega),(show (_:Int)*((l.length+b:Nat):Int)<=281474976710656 by omega),by omega,by omega,(show 0+(l.length+b)<=(List.replicate (l.length+b) ((0:Int))).length by simp),by omega,by omega,(show 0+(l.length+b)<=(setRow (List.replicate (l.length+b) ((0:Int))) 0 (List.take (l.length+b) (List.take a l))).length by omega),by omega,by omega,(show 0+(a+b)+(l.length+b-(a+b))<=(setRow (List.replicate (l.length+b) ((0:Int))) 0 (List.take (l.length+b) (List.take a l))).length by omega),?_⟩;have e:=qm0 l a b ((0:Int)) ha;refine qgy (e:=u4) (et:=53) (a:=12) (xs:=putF l a b ((0:Int))) rfl rfl rfl (by rw[qh4 l a b _ ha]) ?_;rw[Nat.zero_add]
 show some (LB.row 53 u4 _)=_
 rw[<- e];rfl
theorem qwn:Held Tryd.prog G0 39 ct_putW:=by
 refine Held.run cx0 (fn:=Tryd.f39) rfl rfl ⟨by decide,by decide⟩ ?_;rintro ⟨l,a,b,⟨⟩⟩ hp;obtain ⟨⟨a0,a1⟩,b0,b1⟩:qul (show List Int from l) a b:=hp;obtain ⟨A,rfl⟩:=Int.eq_ofNat_of_zero_le a0;obtain ⟨B,rfl⟩:=Int.eq_ofNat_of_zero_le b0;have a1:(A:Int)<=(List.length l:Int):=a1;have b1:(List.length l:Int)+(B:Int)<16777216:=b1;exact qz3 l A B (by omega) (by omega) _
theorem qz4 (l:List Bool) (a b:Nat) (ha:a<=l.length) (hb:l.length+b<16777216) (R:List Item->PS->Prop):sy tt G0 [] Tryd.f40.ntmps Tryd.f40.results.toList (QC ct_putM (l,(a:Int),(b:Int),())) R 1000 [.code (qah Tryd.f40)] (entry [.sl .bool,iI,iI] (l,(a:Int),(b:Int),())):=by
 refine (q3s l a b _ _).mpr ?_;have w1:IntKind.i64.wrap ((l.length:Int)+(b:Int))=((l.length+b:Nat):Int):=by rw[IntWalk.i64_in _ (by omega)];omega
 have w2:IntKind.i64.wrap ((a:Int)+(b:Int))=((a+b:Nat):Int):=by rw[IntWalk.i64_in _ (by omega)];omega
 have sl1:(setRow (List.replicate (l.length+b) (false)) 0 (List.take (l.length+b) (List.take a l))).length=l.length+b:=by
  unfold setRow;simp;omega
 rw[w1,w2];simp only[Int.toNat_natCast];refine ⟨by omega,by omega,(show ((l.length+b:Nat):Int)<16777216 by omega),(show (_:Int)*((l.length+b:Nat):Int)<=281474976710656 by omega),by omega,by omega,(show 0+(l.length+b)<=(List.replicate (l.length+b) (false)).length by simp),by omega,by omega,(show 0+(l.length+b)<=(setRow (List.replicate (l.length+b) (false)) 0 (List.take (l.length+b) (List.take a l))).length by omega),by omega,by omega,(show 0+(a+b)+(l.length+b-(a+b))<=(setRow (List.replicate (l.length+b) (false)) 0 (List.take (l.length+b) (List.take a l))).length by omega),?_⟩;have e:=qm0 l a b (false) ha;refine qgy (e:=.bool) (et:=4) (a:=12) (xs:=putF l a b (false)) rfl rfl rfl (by rw[qh4 l a b _ ha]) ?_;rw[Nat.zero_add]
 show some (LB.row 4 .bool _)=_
 rw[<- e];rfl
theorem qwo:Held Tryd.prog G0 40 ct_putM:=by
 refine Held.run cx0 (fn:=Tryd.f40) rfl rfl ⟨by decide,by decide⟩ ?_;rintro ⟨l,a,b,⟨⟩⟩ hp;obtain ⟨⟨a0,a1⟩,b0,b1⟩:qul (show List Bool from l) a b:=hp;obtain ⟨A,rfl⟩:=Int.eq_ofNat_of_zero_le a0;obtain ⟨B,rfl⟩:=Int.eq_ofNat_of_zero_le b0;have a1:(A:Int)<=(List.length l:Int):=a1;have b1:(List.length l:Int)+(B:Int)<16777216:=b1;exact qz4 l A B (by omega) (by omega) _
def mvF (f b x:Int):Int:=if f<=x then IntKind.i64.wrap (x+b) else x
def q4t (l:List Int):Prop:=l.length<16777216
abbrev IQ (x:List Int):List SV->List (Nat × LB)->Prop:=fun rs _=>MtL (fun _=>none) [.sl iI x] rs
section
variable (l:List Int) (f b:Int)
end
end Go.Proofs.YtplkpodikhfcdaaDoor
namespace Go.Proofs.YtplkpodikhfcdaaDoor
open Go.Px Go.Ax
set_option maxRecDepth 100000
attribute [local irreducible] Go.Px.sy Go.Px.syE
theorem qqp:CxOK Tryd.prog tt G0 [(65,.inl ctNumb)]:=cx0.cons qpq (fn:=Tryd.f65) rfl rfl rfl
theorem cxMb:CxOK Tryd.prog tt G0 [(66,.inl ctMb)]:=cx0.cons qxb (fn:=Tryd.f66) rfl rfl rfl
def rlN (a:Int) (b:List Int):Int:=IntKind.i64.wrap (a+IntKind.i64.wrap (4*qaq b))
def rlF:Nat->Int->List Int->List Int
 | 0,_,_=>[]
 | k+1,a,b=>rlN a b::rlF k (rlN a b) (b.drop 2)
def q4s (b:List Int):Prop:=b.length % 2=0/\b.length<1000000000
def ct_rl:Ctr:=⟨[.sl uB],fun x=>q4s x.1,fun x=>[.sl iI (rlF (List.length x.1 / 2) 0 x.1)],fun _=>[]⟩
theorem qzw (r:List Int):∀ (k:Nat) (b o:List Int) (a:Int),b.length=2*k->o.length+k<1000000000->o++rlF k a b=r ->
  GD 68 Tryd.f68 (IQ r) (hd Tryd.f68 0) ⟨[(0,.sl uB b),(3,.win true iI 3 0 o.length),(4,.int .i64 a)],[(3,.row 3 iI o)]⟩:=by
 intro k
 induction k with
 | zero=>
  intro b o a hb ho hr;rw[rlF,List.append_nil] at hr;subst hr;refine frzG (i:=3) (e:=iI) (et:=3) (xs:=o) rfl rfl ?_;have e:GD 68 Tryd.f68 (IQ o) (hd Tryd.f68 0) ⟨[(0,.sl uB b),(3,.sl iI (winL iI 0 o.length o)),(4,.int .i64 a)],[]⟩:=by
   refine qap qqp (q6u b _ a _ _) ?_;rw[decide_eq_false (by omega),bc_f,winA (e:=iI)];exact ⟨_,_,rfl,.inl rfl,rfl⟩
  exact e.only ⟨rfl,rfl,rfl,trivial⟩ trivial
 | succ k ih=>
  intro b o a hb ho hr;have nx:=ih (b.drop 2) (o++[rlN a b]) (rlN a b) (by rw[List.length_drop];omega) (by rw[List.length_append,List.length_singleton];omega) (by rw[<- hr,rlF,List.append_assoc];rfl);refine qap qqp (q6v b o a _ _) ?_;rw[decide_eq_true (show (0:Int)<(b.length:Int) by omega),bc_t];exact ⟨(show 2<=b.length by omega),Nat.le_refl 1,rfl,rfl,(show o.length+1<2 ^ 30 by omega),by decide,by decide,by omega,nx.onlyR [(3,18)] rfl ⟨rfl,by rw[List.length_append];rfl,rfl,trivial⟩ ⟨rfl,trivial⟩⟩
theorem q4j:Held Tryd.prog G0 68 ct_rl:=by
 refine Held.of qqp (fn:=Tryd.f68) rfl rfl ⟨by decide,by decide⟩ ?_;rintro ⟨b,⟨⟩⟩ hp;obtain ⟨h2,hl⟩:q4s b:=hp;refine qap qqp (q3q b _ _) ?_;have e:GD 68 Tryd.f68 (IQ (rlF (b.length / 2) 0 b)) (hd Tryd.f68 0) ⟨[(0,.sl uB b),(3,.nils),(4,.int .i64 0)],[]⟩:=by
  refine qap qqp (q6w b 0 _ _) ?_;refine qav (fun h=>?_) (fun h=>?_)
  ·have h:0<b.length:=by have:=of_decide_eq_true h;omega
   obtain ⟨k,hk⟩:∃ k,b.length / 2=k+1:=⟨b.length / 2-1,by omega⟩;have nx:=qzw (rlF (b.length / 2) 0 b) k (b.drop 2) [rlN 0 b] (rlN 0 b) (by rw[List.length_drop];omega) (by simp;omega) (by rw[hk,rlF];rfl);exact ⟨(show 2<=b.length by omega),Nat.le_refl 1,(show 1<2 ^ 30 by decide),by decide,by decide,by omega,nx.onlyR [(3,18)] rfl ⟨rfl,rfl,rfl,trivial⟩ ⟨rfl,trivial⟩⟩
  ·have h:=of_decide_eq_false h;have e:b=[]:=List.eq_nil_of_length_eq_zero (by omega);subst e;exact ⟨_,_,rfl,.inr ⟨rfl,rfl⟩,rfl⟩
 exact (e.post fun rs blk hq=>QC.mt hq rfl).only ⟨rfl,rfl,rfl,trivial⟩ trivial
def pkF (l:List Bool):Nat->List Int
 | 0=>List.replicate ((l.length+7) / 8) 0
 | i+1=>if gtM l i=true then (pkF l i).set (i / 8) (bitI .or .u8 (gtB (pkF l i) (i / 8)) (IntKind.u8.wrap (1*2 ^ min (i % 8) IntKind.u8.bits))) else pkF l i
theorem qn8 (l:List Bool):∀ i,(pkF l i).length=(l.length+7) / 8
 | 0=>by simp[pkF]
 | i+1=>by rw[pkF];split <;> simp[qn8 l i]
def prePk (l:List Bool):Prop:=l.length<16777216
def ct_pk:Ctr:=⟨[.sl .bool],fun x=>prePk x.1,fun x=>[.win true uB 0 0 (pkF x.1 (List.length x.1)).length],fun x=>[.row 5 uB (pkF x.1 (List.length x.1))]⟩
theorem q4w (l:List Bool) (hl:l.length<16777216):∀ (k i:Nat),l.length-i=k->i<=l.length ->
  GD 49 Tryd.f49 (QC ct_pk (l,())) (hd Tryd.f49 0) ⟨[(3,.win true uB 3 0 (pkF l i).length),(10,.sl .bool l),(11,.int .i64 l.length),(12,.int .i64 (i:Nat))],[(3,.row 5 uB (pkF l i))]⟩:=by
 intro k
 induction k with
 | zero=>
  intro i hk hi;have hi:i=l.length:=by omega
  subst hi;refine qap cxMb (qso l _ _ _ _) ?_;rw[decide_eq_false (by omega),bc_f];exact qgy (e:=uB) (et:=5) (a:=3) (xs:=pkF l l.length) rfl rfl rfl rfl rfl
 | succ k ih=>
  intro i hk hi;have hil:i<l.length:=by omega
  have nx:=ih (i+1) (by omega) (by omega);have hlen:=qn8 l i;have hd8:((i:Int)).tdiv 8=((i / 8:Nat):Int):=by rw[Int.tdiv_eq_ediv_of_nonneg (by omega)];omega
  have hm8:((i:Int)).tmod 8=((i % 8:Nat):Int):=by rw[Int.tmod_eq_emod_of_nonneg (by omega)];omega
  refine qap cxMb (qso l (pkF l i) i _ _) ?_;rw[decide_eq_true (show (i:Int)<(l.length:Int) by omega),bc_t,hd8,hm8,IntWalk.i64_in ((i / 8:Nat):Int) (by omega),IntWalk.i64_in ((i:Int)+1) (by omega),Int.toNat_natCast,Int.toNat_natCast,Int.toNat_natCast,Nat.zero_add];refine ⟨by omega,by omega,qav (fun h=>?_) (fun h=>?_)⟩
  ·have h:gtM l i=true:=h;rw[pkF,if_pos h] at nx;refine ⟨by decide,by omega,by omega,by omega,by decide,by omega,by omega,by omega,by omega,?_⟩;exact nx.only ⟨by rw[List.length_set];rfl,rfl,rfl,rfl,trivial⟩ ⟨rfl,trivial⟩
  ·have h:gtM l i=false:=h;rw[pkF,if_neg (by rw[h];decide)] at nx;exact nx.only ⟨rfl,rfl,rfl,rfl,trivial⟩ ⟨rfl,trivial⟩
theorem q4x:Held Tryd.prog G0 49 ct_pk:=by
 refine Held.of cxMb (fn:=Tryd.f49) rfl rfl ⟨by decide,by decide⟩ ?_;rintro ⟨l,⟨⟩⟩ hp;replace hp:l.length<16777216:=hp;refine qap cxMb (q3u l _ _) ?_;have e1:((l.length:Int)+7) / 8=(((l.length+7) / 8:Nat):Int):=by omega
 show _/\0<=((l.length:Int)+7) / 8/\((l.length:Int)+7) / 8<=((l.length:Int)+7) / 8/\((l.length:Int)+7) / 8<_/\_*(((l.length:Int)+7) / 8)<=_/\_
 refine ⟨(show q4u l.length from ⟨by omega,by omega⟩),by omega,by omega,(show ((l.length:Int)+7) / 8<16777216 by omega),(show (1:Int)*(((l.length:Int)+7) / 8)<=281474976710656 by omega),?_⟩;have e2:(((l.length:Int)+7) / 8).toNat=(l.length+7) / 8:=by omega
 refine (q4w l hp _ 0 rfl (Nat.zero_le _)).onlyR [(3,9)] rfl ⟨?_,rfl,rfl,rfl,trivial⟩ ⟨?_,trivial⟩
 ·rw[qn8,<- e2];rfl
 ·show some (LB.row 5 uB (List.replicate (((l.length:Int)+7) / 8).toNat 0))=_
  rw[e2];rfl
end Go.Proofs.YtplkpodikhfcdaaDoor
namespace Go.Proofs.YtplkpodikhfcdaaDoor
open Go.Px Go.Ax
open Go.IntKind(i64 u32 u8)
set_option maxRecDepth 100000
def CFo:CV:=[(48,.inr ctAn),(49,.inl ct_pk),(44,.inl ctBy)]
theorem cxFo:CxOK Tryd.prog tt G0 CFo:=((cx0.cons qno (fn:=Tryd.f44) rfl rfl rfl).cons q4x (fn:=Tryd.f49) rfl rfl rfl).consI q6m (fn:=Tryd.f48) rfl rfl rfl
def CPa:CV:=[(65,.inl ctNumb),(66,.inl ctMb),(24,.inl ctWo),(67,.inl ctUn),(68,.inl ct_rl)]
theorem cxPa:CxOK Tryd.prog tt G0 CPa:=((((cx0.cons q4j (fn:=Tryd.f68) rfl rfl rfl).cons qzi (fn:=Tryd.f67) rfl rfl rfl).cons qi7 (fn:=Tryd.f24) rfl rfl rfl).cons qxb (fn:=Tryd.f66) rfl rfl rfl).cons qpq (fn:=Tryd.f65) rfl rfl rfl
set_option maxRecDepth 100000
theorem q34 (w l:List Int) (m:List Bool) (Q:QT) (R:RT):sy tt G0 CFo Tryd.f22.ntmps Tryd.f22.results.toList Q (fun it S=>R it (qbe [1,3,4,17,18,19] [1,1061440] S)) 1000 [.code (qah Tryd.f22)] (entry [liS] ((w,m,l),())) =
  (ctAn.pre ([],(w.length:Int),()) /\
 List.length ([]++two (w.length:Int))=List.length ([]++two (w.length:Int)) /\
 ctAn.pre ([]++two (w.length:Int),(l.length:Int),()) /\
 R (hd Tryd.f22 0) { env:=[(1,.ptr 1 0),(3,.win true uB 1061440 0 (4:Nat)),(4,.int .i64 0),(17,.sl iI l),(18,.int .i64 (l.length:Int)),(19,.int .i64 0)],blk:=[(1,.var [.sl u4 w,.sl Sh.bool m,.sl iI l]),(1061440,.row 5 uB ([]++two (w.length:Int)++two (l.length:Int)))] }):=by kernel_rfl
theorem qsp (w l o:List Int) (m:List Bool) (a:Int) (i:Nat) (Q:QT) (R:RT):sy tt G0 CFo Tryd.f22.ntmps Tryd.f22.results.toList Q (fun it S=>R it (qbe [1,3,4,17,18,19] [1,1114688] S)) 1000 (hd Tryd.f22 0) ⟨[(1,.ptr 1 0),(3,.win true uB 3 0 o.length),(4,.int .i64 a),(17,.sl iI l),(18,.int .i64 l.length),(19,.int .i64 (i:Nat))],[(1,.var [.sl u4 w,.sl .bool m,.sl iI l]),(3,.row 5 uB o)]⟩ =
  (bc (decide ((i:Int)<(l.length:Int))) ((0:Int)<=(i:Int) /\
 (i:Int)<(l.length:Int) /\
 (4:Int)≠0 /\
 o.length=o.length /\
 ctAn.pre (o,i64.wrap ((i64.wrap (gtI l (i:Int).toNat-a)).tdiv (4:Int)),()) /\
 R (hd Tryd.f22 0) { env:=[(1,.ptr 1 0),(3,.win true uB 1114688 0 (List.length (o++two (i64.wrap ((i64.wrap (gtI l (i:Int).toNat-a)).tdiv (4:Int)))))),(4,.int .i64 (gtI l (i:Int).toNat)),(17,.sl iI l),(18,.int .i64 (l.length:Int)),(19,.int .i64 (i64.wrap ((i:Int)+1)))],blk:=[(1,.var [.sl u4 w,.sl Sh.bool m,.sl iI l]),(1114688,.row 5 uB (o++two (i64.wrap ((i64.wrap (gtI l (i:Int).toNat-a)).tdiv (4:Int)))))] }) (ct_pk.pre (m,()) /\
 (0:Nat)+(pkF m m.length).length<=(pkF m m.length).length /\
 o.length=o.length /\
 (0:Nat)=(0:Nat) /\
 o.length+(winL uB 0 (pkF m m.length).length (pkF m m.length)).length<2 ^ 30 /\
 (1:Nat)<=2 ^ 10 /\
 ctBy.pre (w,()) /\
 (0:Nat)+(qat w).length<=(qat w).length /\
 o.length+(winL uB 0 (pkF m m.length).length (pkF m m.length)).length=(o++winL uB 0 (pkF m m.length).length (pkF m m.length)).length /\
 (0:Nat)=(0:Nat) /\
 o.length+(winL uB 0 (pkF m m.length).length (pkF m m.length)).length+(winL uB 0 (qat w).length (qat w)).length<2 ^ 30 /\
 (1:Nat)<=2 ^ 10 /\
 Q [.win true uB 40 0 (o.length+(winL uB 0 (pkF m m.length).length (pkF m m.length)).length+(winL uB 0 (qat w).length (qat w)).length)] [(1,.var [.sl u4 w,.sl Sh.bool m,.sl iI l]),(40,.row 5 uB (o++winL uB 0 (pkF m m.length).length (pkF m m.length)++winL uB 0 (qat w).length (qat w))),(1139264,.row 5 uB (pkF m m.length)),(1159744,.row 5 uB (qat w))])):=by kernel_rfl
theorem qy7 (b:List Int) (Q:QT) (R:RT):sy tt G0 CPa Tryd.f45.ntmps Tryd.f45.results.toList Q R 1000 [.code (qah Tryd.f45)] (entry [.sl uB] (b,())) =
  (bc (decide ((b.length:Int)<4)) (Q [.agg [.nils,.nils,.nils],.bool false] [(2,.var [.nils,.nils,.nils])]) (ctNumb.pre (b,()) /\
 (0:Int)<=2 /\
 (2:Int)<=(b.length:Int) /\
 ctNumb.pre (List.drop (2) b,()) /\
 ctMb.pre (qaq b,()) /\
 bc (decide ((b.length:Int)≠i64.wrap (i64.wrap (i64.wrap ((4:Int)+i64.wrap ((2:Int)*qaq (List.drop (2) b)))+((have this:=qaq b;this)+7) / (8:Int))+i64.wrap ((4:Int)*qaq b)))) (Q [.agg [.nils,.nils,.nils],.bool false] [(2,.var [.nils,.nils,.nils])]) ((0:Int)<=i64.wrap (i64.wrap ((4:Int)+i64.wrap ((2:Int)*qaq (List.drop (2) b)))+((have this:=qaq b;this)+7) / (8:Int)) /\
 i64.wrap (i64.wrap ((4:Int)+i64.wrap ((2:Int)*qaq (List.drop (2) b)))+((have this:=qaq b;this)+7) / (8:Int))<=(b.length:Int) /\
 ctWo.pre (List.drop (i64.wrap (i64.wrap ((4:Int)+i64.wrap ((2:Int)*qaq (List.drop (2) b)))+((have this:=qaq b;this)+7) / (8:Int))).toNat b,()) /\
 (0:Int)<=i64.wrap ((4:Int)+i64.wrap ((2:Int)*qaq (List.drop (2) b))) /\
 i64.wrap ((4:Int)+i64.wrap ((2:Int)*qaq (List.drop (2) b)))<=i64.wrap (i64.wrap ((4:Int)+i64.wrap ((2:Int)*qaq (List.drop (2) b)))+((have this:=qaq b;this)+7) / (8:Int)) /\
 i64.wrap (i64.wrap ((4:Int)+i64.wrap ((2:Int)*qaq (List.drop (2) b)))+((have this:=qaq b;this)+7) / (8:Int))<=(b.length:Int) /\
 ctUn.pre (Px.part b (some (i64.wrap ((4:Int)+i64.wrap ((2:Int)*qaq (List.drop (2) b))))) (some (i64.wrap (i64.wrap ((4:Int)+i64.wrap ((2:Int)*qaq (List.drop (2) b)))+((have this:=qaq b;this)+7) / (8:Int)))),qaq b,()) /\
 (0:Int)<=4 /\
 (4:Int)<=i64.wrap ((4:Int)+i64.wrap ((2:Int)*qaq (List.drop (2) b))) /\
 i64.wrap ((4:Int)+i64.wrap ((2:Int)*qaq (List.drop (2) b)))<=(b.length:Int) /\
 ct_rl.pre (Px.part b (some (4:Int)) (some (i64.wrap ((4:Int)+i64.wrap ((2:Int)*qaq (List.drop (2) b))))),()) /\
 Q [.agg [.win true u4 1159744 0 (qae (List.drop (i64.wrap (i64.wrap ((4:Int)+i64.wrap ((2:Int)*qaq (List.drop (2) b)))+((have this:=qaq b;this)+7) / (8:Int))).toNat b)).1.length,.win true Sh.bool (1192512:Nat) (0:Nat) (unpF (Px.part b (some (i64.wrap ((4:Int)+i64.wrap ((2:Int)*qaq (List.drop (2) b))))) (some (i64.wrap (i64.wrap ((4:Int)+i64.wrap ((2:Int)*qaq (List.drop (2) b)))+((have this:=qaq b;this)+7) / (8:Int))))) (qaq b).toNat).length,.sl iI (rlF ((Px.part b (some (4:Int)) (some (i64.wrap ((4:Int)+i64.wrap ((2:Int)*qaq (List.drop (2) b)))))).length / (2:Nat)) (0:Int) (Px.part b (some (4:Int)) (some (i64.wrap ((4:Int)+i64.wrap ((2:Int)*qaq (List.drop (2) b)))))))],.bool (decide ((qae (List.drop (i64.wrap (i64.wrap ((4:Int)+i64.wrap ((2:Int)*qaq (List.drop (2) b)))+((have this:=qaq b;this)+7) / (8:Int))).toNat b)).2=(0:Int)))] [(2,.var [.win true u4 1159744 0 (qae (List.drop (i64.wrap (i64.wrap ((4:Int)+i64.wrap ((2:Int)*qaq (List.drop (2) b)))+((have this:=qaq b;this)+7) / (8:Int))).toNat b)).1.length,.win true Sh.bool (1192512:Nat) (0:Nat) (unpF (Px.part b (some (i64.wrap ((4:Int)+i64.wrap ((2:Int)*qaq (List.drop (2) b))))) (some (i64.wrap (i64.wrap ((4:Int)+i64.wrap ((2:Int)*qaq (List.drop (2) b)))+((have this:=qaq b;this)+7) / (8:Int))))) (qaq b).toNat).length,.sl iI (rlF ((Px.part b (some (4:Int)) (some (i64.wrap ((4:Int)+i64.wrap ((2:Int)*qaq (List.drop (2) b)))))).length / (2:Nat)) (0:Int) (Px.part b (some (4:Int)) (some (i64.wrap ((4:Int)+i64.wrap ((2:Int)*qaq (List.drop (2) b)))))))]),(1159744,.row 53 u4 (qae (List.drop (i64.wrap (i64.wrap ((4:Int)+i64.wrap ((2:Int)*qaq (List.drop (2) b)))+((have this:=qaq b;this)+7) / (8:Int))).toNat b)).1),(1192512,.row 4 Sh.bool (unpF (Px.part b (some (i64.wrap ((4:Int)+i64.wrap ((2:Int)*qaq (List.drop (2) b))))) (some (i64.wrap (i64.wrap ((4:Int)+i64.wrap ((2:Int)*qaq (List.drop (2) b)))+((have this:=qaq b;this)+7) / (8:Int))))) (qaq b).toNat))]))):=by kernel_rfl
end Go.Proofs.YtplkpodikhfcdaaDoor
namespace Go.Proofs.YtplkpodikhfcdaaDoor
open Go.Px Go.Ax
open Go.IntKind(i64 u32 u8)
set_option maxRecDepth 100000
attribute [local irreducible] Go.Px.sy Go.Px.syE
def labF:Int->List Int->List Int
 | _,[]=>[]
 | a,x::l=>two (i64.wrap ((i64.wrap (x-a)).tdiv 4))++labF x l
def qa8 (x:LiT):List Int:=two x.1.length++two x.2.2.length++labF 0 x.2.2++pkF x.2.1 x.2.1.length++qat x.1
def qz6 (x:LiT):Prop:=x.1.length<1000000/\x.2.1.length<1000000/\x.2.2.length<1000000
def ct_fo:Ctr:=⟨[liS],fun x=>qz6 x.1,fun x=>[.win true uB 0 0 (qa8 x.1).length],fun x=>[.row 5 uB (qa8 x.1)]⟩
theorem q6c {α:Type} {l:List α} {i:Nat} (h:i<l.length):l.drop i=l[i]::l.drop (i+1):=List.drop_eq_getElem_cons h
theorem qx6 (w l:List Int) (m:List Bool) (hw:w.length<1000000) (hm:m.length<1000000) (hl:l.length<1000000):∀ (k i:Nat) (a:Int) (o:List Int),l.length-i=k->i<=l.length->o.length=4+2*i->o++labF a (l.drop i)++pkF m m.length++qat w=qa8 (w,m,l) ->
  GD 22 Tryd.f22 (QC ct_fo ((w,m,l),())) (hd Tryd.f22 0) ⟨[(1,.ptr 1 0),(3,.win true uB 3 0 o.length),(4,.int .i64 a),(17,.sl iI l),(18,.int .i64 l.length),(19,.int .i64 (i:Nat))],[(1,.var [.sl u4 w,.sl .bool m,.sl iI l]),(3,.row 5 uB o)]⟩:=by
 intro k
 induction k with
 | zero=>
  intro i a o hk hi ho hv;have hi:i=l.length:=by omega
  subst hi;rw[List.drop_length,labF,List.append_nil] at hv;refine qap cxFo (qsp w l o m a _ _ _) ?_;have w1:winL uB 0 (pkF m m.length).length (pkF m m.length)=pkF m m.length:=winA (e:=uB) _;have w2:winL uB 0 (qat w).length (qat w)=qat w:=winA (e:=uB) _;have p1:=qn8 m m.length;have p2:=qgq w;rw[decide_eq_false (by omega),bc_f,w1,w2];refine ⟨(show m.length<16777216 by omega),by omega,rfl,rfl,by omega,by decide,(show w.length<4194304 by omega),by omega,by rw[List.length_append],rfl,by omega,by decide,?_⟩;refine qgy (e:=uB) (et:=5) (a:=40) (xs:=o++pkF m m.length++qat w) (by show [SV.win true uB 0 0 (qa8 (w,m,l)).length]=_;rw[hv]) (by show [LB.row 5 uB (qa8 (w,m,l))]=_;rw[hv]) rfl (by rw[List.length_append,List.length_append]) rfl
 | succ k ih=>
  intro i a o hk hi ho hv;have hil:i<l.length:=by omega
  have nx:=ih (i+1) l[i] (o++two (i64.wrap ((i64.wrap (l[i]-a)).tdiv 4))) (by omega) (by omega) (by rw[List.length_append,ho];show _+2=_;omega) (by rw[<- hv,q6c hil,labF];simp only[List.append_assoc]);refine qap cxFo (qsp w l o m a i _ _) ?_;rw[decide_eq_true (show (i:Int)<(l.length:Int) by omega),bc_t,Int.toNat_natCast,qel hil,IntWalk.i64_in ((i:Int)+1) (by omega)];refine ⟨by omega,by omega,by decide,rfl,(show o.length<1000000000 by omega),?_⟩;exact nx.onlyR [(3,1114688)] rfl ⟨rfl,rfl,rfl,rfl,rfl,rfl,trivial⟩ ⟨rfl,rfl,trivial⟩
theorem qx7:Held Tryd.prog G0 22 ct_fo:=by
 refine Held.of cxFo (fn:=Tryd.f22) rfl rfl ⟨by decide,by decide⟩ ?_;rintro ⟨⟨w,m,l⟩,⟨⟩⟩ hp;obtain ⟨p1,p2,p3⟩:qz6 (w,m,l):=hp;refine qap cxFo (q34 w l m _ _) ⟨(show ([]:List Int).length<1000000000 by decide),rfl,(show ([]++two (w.length:Int)).length<1000000000 from (show 2<1000000000 by decide)),?_⟩;exact (qx6 w l m p1 p2 p3 _ 0 0 ([]++two (w.length:Int)++two (l.length:Int)) rfl (Nat.zero_le _) rfl rfl).onlyR [(3,1061440)] rfl ⟨rfl,rfl,rfl,rfl,rfl,rfl,trivial⟩ ⟨rfl,rfl,trivial⟩
theorem qw3 {b:List Int} (h:u8L b):qaq b=gtB b 0*256+gtB b 1:=by
 have h0:=h 0;have h1:=h 1;obtain ⟨a0,a1⟩:=h0;obtain ⟨b0,b1⟩:=h1;unfold qaq;have p8:(2:Int) ^ min 8 i64.bits=256:=by decide
 rw[p8,IntWalk.i64_in (gtB b 0) (by omega),IntWalk.i64_in (gtB b 0*256) (by omega),IntWalk.i64_in (gtB b 1) (by omega)];generalize gtB b 0=x at *;generalize gtB b 1=y at *;obtain ⟨X,rfl⟩:=Int.eq_ofNat_of_zero_le a0;obtain ⟨Y,rfl⟩:=Int.eq_ofNat_of_zero_le b0;have e:∀ n:Nat,n<65536->(BitVec.ofInt i64.bits (n:Int)).toNat=n:=fun n hn=>by
  show (BitVec.ofInt 64 (n:Int)).toNat=_
  rw[BitVec.toNat_ofInt];omega
 have e2:((X:Int)*256)=((X*256:Nat):Int):=by omega
 unfold bitI;rw[e2];simp only[BitVec.toNat_or,e (X*256) (by omega),e Y (by omega)];have:=Nat.two_pow_add_eq_or_of_lt (i:=8) (b:=Y) (by omega) X;have e3:X*256 ||| Y=2 ^ 8*X+Y:=by rw[this];congr 1;omega
 rw[e3,IntWalk.i64_in _ (by omega)];omega
theorem qpr {b:List Int} (h:u8L b):0<=qaq b/\qaq b<65536:=by
 rw[qw3 h];have h0:=h 0;have h1:=h 1;unfold u8R at h0 h1;omega
def wAt (b:List Int):Nat:=4+2*(qaq (b.drop 2)).toNat+((qaq b).toNat+7) / 8
def qrk (b:List Int):Prop:=4<=b.length/\b.length=wAt b+4*(qaq b).toNat
instance (b:List Int):Decidable (qrk b):=by unfold qrk;infer_instance
def parV (b:List Int):LiT:=(qbz (qaq b).toNat (b.drop (wAt b)),unpF ((b.take (wAt b)).drop (4+2*(qaq (b.drop 2)).toNat)) (qaq b).toNat,rlF (qaq (b.drop 2)).toNat 0 ((b.take (4+2*(qaq (b.drop 2)).toNat)).drop 4))
def parX (b:List Int):LiT × Bool:=if qrk b then (parV b,true) else (([],[],[]),false)
def q7u (b:List Int):Prop:=u8L b/\b.length<33554432
def ct_pa:Ctr:=⟨[.sl uB],fun x=>q7u x.1,fun x=>[.agg [.win true u4 0 0 (parX x.1).1.1.length,.win true .bool 1 0 (parX x.1).1.2.1.length,.sl iI (parX x.1).1.2.2],.bool (parX x.1).2],fun x=>[.row 53 u4 (parX x.1).1.1,.row 4 .bool (parX x.1).1.2.1]⟩
theorem u8L.take {b:List Int} (h:u8L b) (n:Nat):u8L (b.take n):=fun j=>by
 by_cases hj:j<(b.take n).length
 ·rw[qp9 hj,List.getElem_take];have hj2:j<b.length:=by rw[List.length_take] at hj;omega
  have:=h j;rw[qp9 hj2] at this;exact this
 ·have:gtB (b.take n) j=0:=by
   show gt uB _ _=_
   unfold gt;rw[List.getElem?_eq_none (by omega)];rfl
  rw[this];exact ⟨by decide,by decide⟩
theorem qfq {α:Type} (l:List α) (a b:Nat):Px.part l (some (a:Int)) (some (b:Int))=(l.take b).drop a:=by
 simp[Px.part]
end Go.Proofs.YtplkpodikhfcdaaDoor
namespace Go.Proofs.YtplkpodikhfcdaaDoor
open Go.Px Go.Ax
open Go.IntKind(i64 u32 u8)
set_option maxRecDepth 100000
attribute [local irreducible] Go.Px.sy Go.Px.syE
theorem q2s {b:List Int} (h:¬ qrk b) {blk:List (Nat × LB)}:QC ct_pa (b,()) [.agg [.nils,.nils,.nils],.bool false] blk:=by
 have hv:parX b=(([],[],[]),false):=if_neg h;have ho:ct_pa.out (b,())=[.agg [.win true u4 0 0 0,.win true .bool 1 0 0,.sl iI []],.bool false]:=by
  show [SV.agg [.win true u4 0 0 (parX b).1.1.length,.win true .bool 1 0 (parX b).1.2.1.length,.sl iI (parX b).1.2.2],.bool (parX b).2]=_
  rw[hv];rfl
 have hr:ct_pa.rows (b,())=[.row 53 u4 [],.row 4 .bool []]:=by
  show [LB.row 53 u4 (parX b).1.1,LB.row 4 .bool (parX b).1.2.1]=_
  rw[hv]
 refine ⟨fun _=>none,?_,?_,fun i j b h1 h2=>by simp at h1,by rw[hr];rfl⟩
 ·rw[ho];exact ⟨_,_,rfl,⟨_,rfl,_,_,rfl,.inr ⟨rfl,rfl,rfl,rfl⟩,_,_,rfl,.inr ⟨rfl,rfl,rfl,rfl⟩,_,_,rfl,.inr ⟨rfl,rfl⟩,rfl⟩,_,_,rfl,rfl,rfl⟩
 ·rw[hr];exact ⟨.inr ⟨rfl,_,_,rfl,by decide⟩,.inr ⟨rfl,_,_,rfl,by decide⟩,trivial⟩
theorem pa_ok {b:List Int} (h:qrk b) {blk:List (Nat × LB)} {i j k1 k2:Nat} (hij:i≠j) (h1:lk blk i=some (.row 53 u4 (parV b).1)) (h2:lk blk j=some (.row 4 .bool (parV b).2.1)) (hk1:k1=(parV b).1.length) (hk2:k2=(parV b).2.1.length) :
  QC ct_pa (b,()) [.agg [.win true u4 i 0 k1,.win true .bool j 0 k2,.sl iI (parV b).2.2],.bool true] blk:=by
 subst hk1;subst hk2;have hv:parX b=(parV b,true):=if_pos h;have ho:ct_pa.out (b,())=[.agg [.win true u4 0 0 (parV b).1.length,.win true .bool 1 0 (parV b).2.1.length,.sl iI (parV b).2.2],.bool true]:=by
  show [SV.agg [.win true u4 0 0 (parX b).1.1.length,.win true .bool 1 0 (parX b).1.2.1.length,.sl iI (parX b).1.2.2],.bool (parX b).2]=_
  rw[hv]
 have hr:ct_pa.rows (b,())=[.row 53 u4 (parV b).1,.row 4 .bool (parV b).2.1]:=by
  show [LB.row 53 u4 (parX b).1.1,LB.row 4 .bool (parX b).1.2.1]=_
  rw[hv]
 refine ⟨fun n=>if n=0 then some i else if n=1 then some j else none,?_,?_,fun a c x e1 e2=>?_,by rw[hr];rfl⟩
 ·rw[ho];exact ⟨_,_,rfl,⟨_,rfl,_,_,rfl,.inl ⟨true,i,rfl,rfl,fun h=>h⟩,_,_,rfl,.inl ⟨true,j,rfl,rfl,fun h=>h⟩,_,_,rfl,.inl rfl,rfl⟩,_,_,rfl,rfl,rfl⟩
 ·rw[hr];exact ⟨.inl ⟨i,rfl,h1⟩,.inl ⟨j,rfl,h2⟩,trivial⟩
 ·simp only at e1 e2;split at e1 <;> split at e2
  ·omega
  ·split at e2
   ·cases e1;cases e2;exact absurd rfl hij
   ·cases e2
  ·split at e1
   ·cases e1;cases e2;exact absurd rfl hij
   ·cases e1
  ·split at e1 <;> split at e2
   ·omega
   ·cases e2
   ·cases e1
   ·cases e1
theorem q7x (b:List Int) (hu:u8L b) (hl:b.length<33554432) (R:List Item->PS->Prop):sy tt G0 CPa Tryd.f45.ntmps Tryd.f45.results.toList (QC ct_pa (b,())) R 1000 [.code (qah Tryd.f45)] (entry [.sl uB] (b,())):=by
 refine (qy7 b _ _).mpr ?_;obtain ⟨n0,n1⟩:=qpr hu;obtain ⟨k0,k1⟩:=qpr (hu.drop 2);have en:qaq b=((qaq b).toNat:Int):=by omega
 have ek:qaq (b.drop 2)=((qaq (b.drop 2)).toNat:Int):=by omega
 have hw:wAt b=4+2*(qaq (b.drop 2)).toNat+((qaq b).toNat+7) / 8:=rfl;have hpv:parV b=(qbz (qaq b).toNat (b.drop (wAt b)),unpF ((b.take (wAt b)).drop (4+2*(qaq (b.drop 2)).toNat)) (qaq b).toNat,rlF (qaq (b.drop 2)).toNat 0 ((b.take (4+2*(qaq (b.drop 2)).toNat)).drop 4)):=rfl;have hok:qrk b↔4<=b.length/\b.length=wAt b+4*(qaq b).toNat:=Iff.rfl;generalize (qaq b).toNat=n at en hw hpv hok;generalize (qaq (b.drop 2)).toNat=k at ek hw hpv;refine qav (fun h=>?_) (fun h=>?_)
 ·have h:(b.length:Int)<4:=of_decide_eq_true h;exact q2s fun q=>by have:=(hok.1 q).1;omega
 ·have h:¬ (b.length:Int)<4:=of_decide_eq_false h;have w1:i64.wrap (4+i64.wrap (2*(k:Int)))=((4+2*k:Nat):Int):=by rw[IntWalk.i64_in (2*(k:Int)) (by omega),IntWalk.i64_in _ (by omega)];omega
  have w2:i64.wrap (((4+2*k:Nat):Int)+((n:Int)+7) / 8)=(wAt b:Int):=by rw[IntWalk.i64_in _ (by omega)];omega
  have w3:i64.wrap ((wAt b:Int)+i64.wrap (4*(n:Int)))=((wAt b+4*n:Nat):Int):=by rw[IntWalk.i64_in (4*(n:Int)) (by omega),IntWalk.i64_in _ (by omega)];omega
  have hpre:q4u (qaq b):=⟨by omega,by omega⟩;refine ⟨(show 2<=b.length by omega),by decide,by omega,(show 2<=(b.drop 2).length by rw[List.length_drop];omega),hpre,?_⟩
  show bc (decide ((b.length:Int)≠i64.wrap (i64.wrap (i64.wrap (4+i64.wrap (2*qaq (b.drop 2)))+(qaq b+7) / 8)+i64.wrap (4*qaq b)))) _ _
  rw[en,ek,w1,w2,w3];refine qav (fun h2=>?_) (fun h2=>?_)
  ·have h2:(b.length:Int)≠((wAt b+4*n:Nat):Int):=of_decide_eq_true h2;exact q2s fun q=>by have:=(hok.1 q).2;omega
  ·have h2:¬ (b.length:Int)≠((wAt b+4*n:Nat):Int):=of_decide_eq_false h2;have h2:b.length=wAt b+4*n:=by omega
   have hp:qrk b:=hok.2 ⟨by omega,h2⟩;have hn:(b.drop (wAt b)).length=4*n:=by rw[List.length_drop];omega
   have ewo:qae (b.drop (wAt b))=(qbz n (b.drop (wAt b)),0):=by
    unfold qae;rw[hn,if_pos (by omega)]
    congr 2;omega
   have e4:Px.part b (some 4) (some ((4+2*k:Nat):Int))=(b.take (4+2*k)).drop 4:=qfq b 4 (4+2*k);have el:((b.take (4+2*k)).drop 4).length=2*k:=by rw[List.length_drop,List.length_take];omega
   have em:((b.take (wAt b)).drop (4+2*k)).length=(n+7) / 8:=by rw[List.length_drop,List.length_take];omega
   have ed:2*k / 2=k:=by omega
   simp only[w2,Int.toNat_natCast,qfq,e4,ewo,el,ed];refine ⟨by omega,by omega,⟨hu.drop _,(show (b.drop (wAt b)).length<33554432 by omega)⟩,by omega,by omega,by omega,(show q4q ((b.take (wAt b)).drop (4+2*k)) (n:Int) from ⟨⟨by omega,by omega⟩,by omega⟩),by decide,by omega,by omega,(show q4s ((b.take (4+2*k)).drop 4) from ⟨by omega,by omega⟩),?_⟩;have f1:qbz n (b.drop (wAt b))=(parV b).1:=by rw[hpv]
   have f2:unpF ((b.take (wAt b)).drop (4+2*k)) n=(parV b).2.1:=by rw[hpv]
   have f3:rlF k 0 ((b.take (4+2*k)).drop 4)=(parV b).2.2:=by rw[hpv]
   rw[f1,f2,f3,decide_eq_true trivial];exact pa_ok hp (by decide) rfl rfl rfl rfl
theorem q4z:Held Tryd.prog G0 45 ct_pa:=
 Held.run cxPa (fn:=Tryd.f45) rfl rfl ⟨by decide,by decide⟩ fun ⟨b,_⟩ hp=>q7x b hp.1 hp.2 _
end Go.Proofs.YtplkpodikhfcdaaDoor
namespace Go.Proofs.YtplkpodikhfcdaaDoor
open Go.Px Go.Ax
open Go.IntKind(i64 u32 u8)
set_option maxRecDepth 100000
def CLk:CV:=(77,.inl ctEnc)::(58,.inl ctDb)::C7
theorem cxLk:CxOK Tryd.prog tt G0 CLk:=(cx7.cons qr9 (fn:=Tryd.f58) rfl rfl rfl).cons q1h (fn:=Tryd.f77) rfl rfl rfl
def CLi:CV:=(58,.inl ctDb)::C7
theorem cxLi:CxOK Tryd.prog tt G0 CLi:=cx7.cons qr9 (fn:=Tryd.f58) rfl rfl rfl
set_option maxRecDepth 100000
def qlw (w t:Int):List (Nat × LB):=[(8,.var [.int .i64 (opV w),.int .i64 (rg w (regs (opV w)) (0:Int)),.int .i64 (rg w (regs (opV w)) (1:Int)),.int .i64 (rg w (regs (opV w)) (2:Int)),.int .i64 (numN w t (kd (opV w)).2.2.1 (kd (opV w)).2.2.2.1 (kd (opV w)).2.2.2.2)])]
theorem q3z (w t:Int) (l:List Int) (Q:QT) (R:RT):sy tt G0 CLk Tryd.f61.ntmps Tryd.f61.results.toList Q R 1000 [.code (qah Tryd.f61)] (entry [u4,iI,.sl iI] (w,t,l,())) =
  (ctDec.pre (w,t,()) /\
 ctDb.pre (opV w,()) /\
 bc (decide (dbV (opV w)=(0:Int))) (true=true /\
 Q [.int .u32 0,.int .i64 30] (qlw w t)) (bc (bif false then true else decide ((l.length:Int)<=i64.wrap (bitI BinOp.and u32 w (dbV (opV w))))) (Q [.int .u32 0,.int .i64 30] (qlw w t)) ((0:Int)<=i64.wrap (bitI BinOp.and u32 w (dbV (opV w))) /\
 i64.wrap (bitI BinOp.and u32 w (dbV (opV w)))<(l.length:Int) /\
 ctEnc.pre ((opV w,rg w (regs (opV w)) (0:Int),rg w (regs (opV w)) (1:Int),rg w (regs (opV w)) (2:Int),gtI l (i64.wrap (bitI BinOp.and u32 w (dbV (opV w)))).toNat),t,()) /\
 Q [.int .u32 (encW (opV w) (rg w (regs (opV w)) (0:Int)) (rg w (regs (opV w)) (1:Int)) (rg w (regs (opV w)) (2:Int)) (gtI l (i64.wrap (bitI BinOp.and u32 w (dbV (opV w)))).toNat) t),.int .i64 (encE (opV w) (rg w (regs (opV w)) (0:Int)) (rg w (regs (opV w)) (1:Int)) (rg w (regs (opV w)) (2:Int)) (gtI l (i64.wrap (bitI BinOp.and u32 w (dbV (opV w)))).toNat) t)] [(8,.var [.int .i64 (opV w),.int .i64 (rg w (regs (opV w)) (0:Int)),.int .i64 (rg w (regs (opV w)) (1:Int)),.int .i64 (rg w (regs (opV w)) (2:Int)),.int .i64 (gtI l (i64.wrap (bitI BinOp.and u32 w (dbV (opV w)))).toNat)])]))):=by kernel_rfl
end Go.Proofs.YtplkpodikhfcdaaDoor
namespace Go.Proofs.YtplkpodikhfcdaaDoor
open Go.Px Go.Ax
set_option maxRecDepth 100000
attribute [local irreducible] Go.Px.sy Go.Px.syE
def lix (w:Int):Int:=bitI .and .u32 w (dbV (opV w))
theorem q5s (w:Int):0<=lix w/\lix w<4294967296:=qky .and w _
def lkC (w:Int) (l:List Int):Prop:=dbV (opV w)=0\/(l.length:Int)<=lix w
instance (w:Int) (l:List Int):Decidable (lkC w l):=by unfold lkC;infer_instance
def lkN (w:Int) (l:List Int):Int:=gtI l (lix w).toNat
def lkV (w t:Int) (l:List Int):Int × Int:=if lkC w l then (0,30) else (encW (opV w) (rg w (regs (opV w)) 0) (rg w (regs (opV w)) 1) (rg w (regs (opV w)) 2) (lkN w l) t,encE (opV w) (rg w (regs (opV w)) 0) (rg w (regs (opV w)) 1) (rg w (regs (opV w)) 2) (lkN w l) t)
def q0u (l:List Int):Prop:=∀ j,-4611686018427387904<=gtI l j/\gtI l j<=4611686018427387904
def q7w (w t:Int) (l:List Int):Prop:=qph w t/\q0u l
def ct_lk:Ctr:=⟨[u4,iI,.sl iI],fun x=>q7w x.1 x.2.1 x.2.2.1,fun x=>[.int .u32 (lkV x.1 x.2.1 x.2.2.1).1,.int .i64 (lkV x.1 x.2.1 x.2.2.1).2],fun _=>[]⟩
theorem q79 (w t:Int) (l:List Int) (hd:qph w t) (hl:q0u l) (R:List Item->PS->Prop):sy tt G0 CLk Tryd.f61.ntmps Tryd.f61.results.toList (QC ct_lk (w,t,l,())) R 1000 [.code (qah Tryd.f61)] (entry [u4,iI,.sl iI] (w,t,l,())):=by
 have hr:=q5s w;have w1:IntKind.i64.wrap (bitI .and .u32 w (dbV (opV w)))=lix w:=IntWalk.i64_in _ (by unfold lix at hr;omega);have fin:∀ v blk,lkV w t l=v->QC ct_lk (w,t,l,()) [.int .u32 v.1,.int .i64 v.2] blk:=fun v blk h=>QC.flat (by show [SV.int .u32 (lkV w t l).1,.int .i64 (lkV w t l).2]=_;rw[h]) rfl rfl
 refine (q3z w t l _ _).mpr ?_;rw[w1];refine ⟨hd,trivial,qav (fun h=>⟨rfl,fin (0,30) _ (if_pos (.inl (of_decide_eq_true h)))⟩) (fun h=>qav (fun h2=>fin (0,30) _ (if_pos (.inr (of_decide_eq_true h2)))) (fun h2=>?_))⟩;have h:¬ dbV (opV w)=0:=of_decide_eq_false h;have h2:¬ (l.length:Int)<=lix w:=of_decide_eq_false h2;refine ⟨hr.1,by omega,(show qwx (gtI l (lix w).toNat) t from ⟨hl _,hd.2⟩),?_⟩;exact fin _ _ (if_neg (fun q=>by rcases q with q | q;exact h q;exact h2 q))
theorem q5q:Held Tryd.prog G0 61 ct_lk:=Held.run cxLk (fn:=Tryd.f61) rfl rfl ⟨by decide,by decide⟩ fun ⟨w,t,l,_⟩ hp=>q79 w t l hp.1 hp.2 _
abbrev InT:Type:=Int × Int × Int × Int × Int
def decT (w t:Int):InT:=(opV w,rg w (regs (opV w)) 0,rg w (regs (opV w)) 1,rg w (regs (opV w)) 2,numN w t (kd (opV w)).2.2.1 (kd (opV w)).2.2.2.1 (kd (opV w)).2.2.2.2)
def isLk (n:Nat) (w:Int) (i:Nat):Bool:=decide (dbV (opV w)≠0)&&(decide (0<=(decT w (4*i)).2.2.2.2)&&decide ((decT w (4*i)).2.2.2.2<4*n))
abbrev ySh:List Sh:=[iI,i5s]
def lnkF (n:Nat):Nat->List Int->List (Nat × InT)
 | _,[]=>[]
 | i,w::l=>if isLk n w i=true then (i,decT w (4*i))::lnkF n (i+1) l else lnkF n (i+1) l
def lnk (l:List Int):List (Nat × InT):=lnkF l.length 0 l
def yL:List (Nat × InT)->List (DL ySh)
 | []=>[]
 | r::rs=>((r.1:Int),r.2,())::yL rs
end Go.Proofs.YtplkpodikhfcdaaDoor
namespace Go.Proofs.YtplkpodikhfcdaaDoor
open Go.Px Go.Ax
open Go.IntKind(i64 u32 u8)
set_option maxRecDepth 100000
abbrev capK:List AK:=[.ptr [.dat (.sl u4)]]
set_option maxRecDepth 100000
theorem q60 (l:List Int) (lp:Nat) (ys:List (DL ySh)) (Q:AExit->Nat × Bool->PS->Prop) (R:List Item->Nat × Bool->PS->Prop):syE tt G0 CLi Tryd.f74.ntmps ⟨lp,ySh,ys⟩ Q R .fn 1000 [.code (qah Tryd.f74)] (0,false) (qqn lp capK ((l,()),())) =
  (R (hd Tryd.f74 0) ((0:Nat),false) { env:=[(0,.yl lp),(1,.ptr 1099511627776 0),(7,.sl u4 l),(8,.int .i64 (l.length:Int)),(9,.int .i64 0)],blk:=[(1099511627776,.var [.sl u4 l])] }):=by kernel_rfl
theorem qvp (l:List Int) (i j:Nat) (q:Bool) (lp:Nat) (ys:List (DL ySh)) (Q:AExit->Nat × Bool->PS->Prop) (R:List Item->Nat × Bool->PS->Prop):syE tt G0 CLi Tryd.f74.ntmps ⟨lp,ySh,ys⟩ Q (fun it g S=>R it g (qbe [0,1,7,8,9] [BIG] S)) .fn 1000 (hd Tryd.f74 0) (j,q) (⟨[(0,.yl lp),(1,.ptr BIG 0),(7,.sl u4 l),(8,.int .i64 l.length),(9,.int .i64 (i:Nat))],[(BIG,.var [.sl u4 l])]⟩) =
  (bc (decide ((i:Int)<(l.length:Int))) ((0:Int)<=(i:Int) /\
 (i:Int)<(l.length:Int) /\
 ctDec.pre (gtW l (i:Int).toNat,i64.wrap ((4:Int)*(i:Int)),()) /\
 bc (decide ((0:Int)<=numN (gtW l (i:Int).toNat) (i64.wrap ((4:Int)*(i:Int))) (kd (opV (gtW l (i:Int).toNat))).2.2.1 (kd (opV (gtW l (i:Int).toNat))).2.2.2.1 (kd (opV (gtW l (i:Int).toNat))).2.2.2.2)) (ctDb.pre (opV (gtW l (i:Int).toNat),()) /\
 bc (decide (dbV (opV (gtW l (i:Int).toNat))≠0)) (bc (bif true then bif true then decide (numN (gtW l (i:Int).toNat) (i64.wrap ((4:Int)*(i:Int))) (kd (opV (gtW l (i:Int).toNat))).2.2.1 (kd (opV (gtW l (i:Int).toNat))).2.2.2.1 (kd (opV (gtW l (i:Int).toNat))).2.2.2.2<i64.wrap ((4:Int)*(l.length:Int))) else false else false) (lp=(Yp.mk lp ySh ys).l /\
 q=false /\
 (Yp.mk lp ySh ys).ys[j]?=some ((i:Int),(opV (gtW l (i:Int).toNat),rg (gtW l (i:Int).toNat) (regs (opV (gtW l (i:Int).toNat))) (0:Int),rg (gtW l (i:Int).toNat) (regs (opV (gtW l (i:Int).toNat))) (1:Int),rg (gtW l (i:Int).toNat) (regs (opV (gtW l (i:Int).toNat))) (2:Int),numN (gtW l (i:Int).toNat) (i64.wrap ((4:Int)*(i:Int))) (kd (opV (gtW l (i:Int).toNat))).2.2.1 (kd (opV (gtW l (i:Int).toNat))).2.2.2.1 (kd (opV (gtW l (i:Int).toNat))).2.2.2.2),()) /\
 ∀ (r:Bool),bc (bif true then !r else false) (Q AExit.ret (j+1,!r) { env:=[(0,.yl lp),(1,.ptr 1099511627776 0),(3,.int .i64 (i:Int)),(4,.int .u32 (gtW l (i:Int).toNat)),(5,.ptr 5 0),(6,.bool (decide (numN (gtW l (i:Int).toNat) (i64.wrap ((4:Int)*(i:Int))) (kd (opV (gtW l (i:Int).toNat))).2.2.1 (kd (opV (gtW l (i:Int).toNat))).2.2.2.1 (kd (opV (gtW l (i:Int).toNat))).2.2.2.2<i64.wrap ((4:Int)*(l.length:Int))))),(7,.sl u4 l),(8,.int .i64 (l.length:Int)),(9,.int .i64 (i:Int)),(10,.bool (decide ((i:Int)<(l.length:Int)))),(11,.int .i64 (i:Int)),(12,.elv u4 (gtW l (i:Int).toNat)),(13,.int .u32 (gtW l (i:Int).toNat)),(14,.int .u32 (gtW l (i:Int).toNat)),(15,.int .i64 (i:Int)),(16,.int .i64 (i64.wrap ((4:Int)*(i:Int)))),(17,.agg [.int .i64 (opV (gtW l (i:Int).toNat)),.int .i64 (rg (gtW l (i:Int).toNat) (regs (opV (gtW l (i:Int).toNat))) (0:Int)),.int .i64 (rg (gtW l (i:Int).toNat) (regs (opV (gtW l (i:Int).toNat))) (1:Int)),.int .i64 (rg (gtW l (i:Int).toNat) (regs (opV (gtW l (i:Int).toNat))) (2:Int)),.int .i64 (numN (gtW l (i:Int).toNat) (i64.wrap ((4:Int)*(i:Int))) (kd (opV (gtW l (i:Int).toNat))).2.2.1 (kd (opV (gtW l (i:Int).toNat))).2.2.2.1 (kd (opV (gtW l (i:Int).toNat))).2.2.2.2)]),(18,.ptr 5 4),(19,.int .i64 (numN (gtW l (i:Int).toNat) (i64.wrap ((4:Int)*(i:Int))) (kd (opV (gtW l (i:Int).toNat))).2.2.1 (kd (opV (gtW l (i:Int).toNat))).2.2.2.1 (kd (opV (gtW l (i:Int).toNat))).2.2.2.2)),(20,.bool (decide ((0:Int)<=numN (gtW l (i:Int).toNat) (i64.wrap ((4:Int)*(i:Int))) (kd (opV (gtW l (i:Int).toNat))).2.2.1 (kd (opV (gtW l (i:Int).toNat))).2.2.2.1 (kd (opV (gtW l (i:Int).toNat))).2.2.2.2))),(21,.bool true),(22,.ptr 5 4),(23,.int .i64 (numN (gtW l (i:Int).toNat) (i64.wrap ((4:Int)*(i:Int))) (kd (opV (gtW l (i:Int).toNat))).2.2.1 (kd (opV (gtW l (i:Int).toNat))).2.2.2.1 (kd (opV (gtW l (i:Int).toNat))).2.2.2.2)),(24,.sl u4 l),(25,.int .i64 (l.length:Int)),(26,.int .i64 (i64.wrap ((4:Int)*(l.length:Int)))),(27,.bool (decide (numN (gtW l (i:Int).toNat) (i64.wrap ((4:Int)*(i:Int))) (kd (opV (gtW l (i:Int).toNat))).2.2.1 (kd (opV (gtW l (i:Int).toNat))).2.2.2.1 (kd (opV (gtW l (i:Int).toNat))).2.2.2.2<i64.wrap ((4:Int)*(l.length:Int))))),(28,.bool (decide (numN (gtW l (i:Int).toNat) (i64.wrap ((4:Int)*(i:Int))) (kd (opV (gtW l (i:Int).toNat))).2.2.1 (kd (opV (gtW l (i:Int).toNat))).2.2.2.1 (kd (opV (gtW l (i:Int).toNat))).2.2.2.2<i64.wrap ((4:Int)*(l.length:Int))))),(29,.ptr 5 0),(30,.int .i64 (opV (gtW l (i:Int).toNat))),(31,.int .u32 (dbV (opV (gtW l (i:Int).toNat)))),(32,.bool (decide (dbV (opV (gtW l (i:Int).toNat))≠0))),(33,.bool true),(34,.bool (decide (numN (gtW l (i:Int).toNat) (i64.wrap ((4:Int)*(i:Int))) (kd (opV (gtW l (i:Int).toNat))).2.2.1 (kd (opV (gtW l (i:Int).toNat))).2.2.2.1 (kd (opV (gtW l (i:Int).toNat))).2.2.2.2<i64.wrap ((4:Int)*(l.length:Int))))),(35,.bool (bif true then bif true then decide (numN (gtW l (i:Int).toNat) (i64.wrap ((4:Int)*(i:Int))) (kd (opV (gtW l (i:Int).toNat))).2.2.1 (kd (opV (gtW l (i:Int).toNat))).2.2.2.1 (kd (opV (gtW l (i:Int).toNat))).2.2.2.2<i64.wrap ((4:Int)*(l.length:Int))) else false else false)),(36,.bool true),(37,.yl lp),(38,.int .i64 (i:Int)),(39,.agg [.int .i64 (opV (gtW l (i:Int).toNat)),.int .i64 (rg (gtW l (i:Int).toNat) (regs (opV (gtW l (i:Int).toNat))) (0:Int)),.int .i64 (rg (gtW l (i:Int).toNat) (regs (opV (gtW l (i:Int).toNat))) (1:Int)),.int .i64 (rg (gtW l (i:Int).toNat) (regs (opV (gtW l (i:Int).toNat))) (2:Int)),.int .i64 (numN (gtW l (i:Int).toNat) (i64.wrap ((4:Int)*(i:Int))) (kd (opV (gtW l (i:Int).toNat))).2.2.1 (kd (opV (gtW l (i:Int).toNat))).2.2.2.1 (kd (opV (gtW l (i:Int).toNat))).2.2.2.2)]),(40,.bool r),(41,.bool !r),(42,.bool (bif true then !r else false))],blk:=[(5,.var [.int .i64 (opV (gtW l (i:Int).toNat)),.int .i64 (rg (gtW l (i:Int).toNat) (regs (opV (gtW l (i:Int).toNat))) (0:Int)),.int .i64 (rg (gtW l (i:Int).toNat) (regs (opV (gtW l (i:Int).toNat))) (1:Int)),.int .i64 (rg (gtW l (i:Int).toNat) (regs (opV (gtW l (i:Int).toNat))) (2:Int)),.int .i64 (numN (gtW l (i:Int).toNat) (i64.wrap ((4:Int)*(i:Int))) (kd (opV (gtW l (i:Int).toNat))).2.2.1 (kd (opV (gtW l (i:Int).toNat))).2.2.2.1 (kd (opV (gtW l (i:Int).toNat))).2.2.2.2)]),(1099511627776,.var [.sl u4 l])] }) (R (hd Tryd.f74 0) (j+1,!r) { env:=[(0,.yl lp),(1,.ptr 1099511627776 0),(7,.sl u4 l),(8,.int .i64 (l.length:Int)),(9,.int .i64 (i64.wrap ((i:Int)+1)))],blk:=[(1099511627776,.var [.sl u4 l])] })) (false=false /\
 R (hd Tryd.f74 0) (j,q) { env:=[(0,.yl lp),(1,.ptr 1099511627776 0),(7,.sl u4 l),(8,.int .i64 (l.length:Int)),(9,.int .i64 (i64.wrap ((i:Int)+1)))],blk:=[(1099511627776,.var [.sl u4 l])] })) (false=false /\
 false=false /\
 R (hd Tryd.f74 0) (j,q) { env:=[(0,.yl lp),(1,.ptr 1099511627776 0),(7,.sl u4 l),(8,.int .i64 (l.length:Int)),(9,.int .i64 (i64.wrap ((i:Int)+1)))],blk:=[(1099511627776,.var [.sl u4 l])] })) (false=false /\
 ctDb.pre (opV (gtW l (i:Int).toNat),()) /\
 bc (decide (dbV (opV (gtW l (i:Int).toNat))≠0)) (false=false /\
 R (hd Tryd.f74 0) (j,q) { env:=[(0,.yl lp),(1,.ptr 1099511627776 0),(7,.sl u4 l),(8,.int .i64 (l.length:Int)),(9,.int .i64 (i64.wrap ((i:Int)+1)))],blk:=[(1099511627776,.var [.sl u4 l])] }) (false=false /\
 false=false /\
 R (hd Tryd.f74 0) (j,q) { env:=[(0,.yl lp),(1,.ptr 1099511627776 0),(7,.sl u4 l),(8,.int .i64 (l.length:Int)),(9,.int .i64 (i64.wrap ((i:Int)+1)))],blk:=[(1099511627776,.var [.sl u4 l])] }))) (Q AExit.normal (j,q) { env:=[(0,.yl lp),(1,.ptr 1099511627776 0),(7,.sl u4 l),(8,.int .i64 (l.length:Int)),(9,.int .i64 (i:Int)),(10,.bool (decide ((i:Int)<(l.length:Int))))],blk:=[(1099511627776,.var [.sl u4 l])] })):=by kernel_rfl
theorem q61 (l:List Int) (Q:QT) (R:RT):sy tt G0 [] Tryd.f57.ntmps Tryd.f57.results.toList Q R 1000 [.code (qah Tryd.f57)] (entry [.sl u4] (l,())) =
  (Q [.fn (74:Nat) [] [.ptr 1 0]] [(1,.var [.sl u4 l])]):=by kernel_rfl
end Go.Proofs.YtplkpodikhfcdaaDoor
namespace Go.Proofs.YtplkpodikhfcdaaDoor
open Go.Px Go.Ax
set_option maxRecDepth 100000
attribute [local irreducible] Go.Px.sy Go.Px.syE
abbrev GE (f:Nat) (fn:Func) (Y:Yp) (K:AExit->Nat × Bool->PS->Prop) (it:List Item) (g:Nat × Bool) (S:PS):Prop:=Px.GoodE Tryd.prog G0 f fn.ntmps .fn Y K it g S
def wdL (l:List Int):Prop:=(∀ w∈l,0<=w/\w<4294967296)/\l.length<=16384
def ctIt:CtrY:=⟨capK,fun x=>wdL x.1.1,ySh,fun x=>yL (lnk x.1.1)⟩
abbrev itS (l:List Int) (i lp:Nat):PS:=⟨[(0,.yl lp),(1,.ptr BIG 0),(7,.sl u4 l),(8,.int .i64 l.length),(9,.int .i64 (i:Nat))],[(BIG,.var [.sl u4 l])]⟩
theorem q5y {l:List Int} (hl:wdL l) (lp:Nat) (ys:List (DL ySh)):∀ (k i j:Nat),l.length-i<=k->i<=l.length->j<=ys.length->ys.drop j=yL (lnkF l.length i (l.drop i)) ->
  GE 74 Tryd.f74 ⟨lp,ySh,ys⟩ (endY ys.length) (hd Tryd.f74 0) (j,false) (itS l i lp):=by
 obtain ⟨hw,hn⟩:=hl;have hend:∀ (i j:Nat),¬ i<l.length->j<=ys.length->ys.drop j=yL (lnkF l.length i (l.drop i))->j=ys.length:=by
  intro i j hi hj hy;rw[List.drop_eq_nil_of_le (show l.length<=i by omega)] at hy;have:=congrArg List.length hy;simp only[List.length_drop,lnkF,yL,List.length_nil] at this;omega
 intro k
 induction k with
 | zero=>
  intro i j hk hil hj hy;refine qv1 cxLi (qvp l i j false lp ys _ _) ?_;rw[decide_eq_false (by omega),bc_f];exact .inr (hend i j (by omega) hj hy)
 | succ k ih=>
  intro i j hk hil hj hy;refine qv1 cxLi (qvp l i j false lp ys _ _) ?_;by_cases hlt:i<l.length
  ·rw[decide_eq_true (show (i:Int)<(l.length:Int) by omega),bc_t];have hwi:=hw l[i] (List.getElem_mem hlt);rw[<- qcl hlt] at hwi;have w2:IntKind.i64.wrap (4*(i:Int))=4*i:=IntWalk.i64_in _ (by omega);have w3:IntKind.i64.wrap (4*(l.length:Int))=4*l.length:=IntWalk.i64_in _ (by omega);have w4:IntKind.i64.wrap ((i:Int)+1)=((i+1:Nat):Int):=by rw[IntWalk.i64_in _ (by omega)];omega
   rw[w2,w3,w4];simp only[Int.toNat_natCast];rw[q6c hlt,lnkF,<- qcl hlt] at hy;have no:isLk l.length (gtW l i) i=false->GE 74 Tryd.f74 ⟨lp,ySh,ys⟩ (endY ys.length) (hd Tryd.f74 0) (j,false) (itS l (i+1) lp):=fun h=>by
    rw[if_neg (by rw[h];decide)] at hy;exact ih (i+1) j (by omega) (by omega) hj hy
   refine ⟨by omega,by omega,(show qph (gtW l i) (4*i) from ⟨hwi,by omega,by omega⟩),qav (fun h0=>⟨trivial,qav (fun h1=>qav (fun h2=>?_) (fun h2=>?_)) (fun h1=>?_)⟩) (fun h0=>?_)⟩
   ·have hk2:isLk l.length (gtW l i) i=true:=by
     unfold isLk;rw[show decide (dbV (opV (gtW l i))≠0)=true from h1,show decide (0<=(decT (gtW l i) (4*i)).2.2.2.2)=true from h0,show decide ((decT (gtW l i) (4*i)).2.2.2.2<4*(l.length:Int))=true from h2];rfl
    rw[if_pos hk2,yL] at hy;have hjl:j<ys.length:=by
     rcases Nat.lt_or_ge j ys.length with q | q
     ·exact q
     ·rw[List.drop_eq_nil_of_le q] at hy;cases hy
    rw[q6c hjl] at hy;have hget:ys[j]?=some ((i:Int),decT (gtW l i) (4*i),()):=by
     rw[List.getElem?_eq_getElem hjl];exact congrArg some (List.cons.inj hy).1
    have nx:=ih (i+1) (j+1) (by omega) (by omega) (by omega) (List.cons.inj hy).2;refine ⟨trivial,trivial,hget,fun r=>?_⟩
    cases r with
    | false=>exact .inl rfl
    | true=>exact nx
   ·exact ⟨trivial,no (by unfold isLk;rw[show decide ((decT (gtW l i) (4*i)).2.2.2.2<4*(l.length:Int))=false from h2,Bool.and_false,Bool.and_false])⟩
   ·exact ⟨trivial,trivial,no (by unfold isLk;rw[h1,Bool.false_and])⟩
   ·have n0:=no (by unfold isLk;rw[show decide (0<=(decT (gtW l i) (4*i)).2.2.2.2)=false from h0,Bool.false_and,Bool.and_false]);exact ⟨trivial,trivial,qav (fun _=>⟨trivial,n0⟩) (fun _=>⟨trivial,trivial,n0⟩)⟩
  ·rw[decide_eq_false (by omega),bc_f];exact .inr (hend i j hlt hj hy)
theorem q8b {l:List Int} (hl:wdL l) (lp:Nat):GE 74 Tryd.f74 ⟨lp,ySh,yL (lnk l)⟩ (endY (yL (lnk l)).length) [.code (qah Tryd.f74)] (0,false) (qqn lp capK ((l,()),())):=
 qo8 cxLi (q60 l lp _ _ _) (q5y hl lp _ l.length 0 0 (by omega) (Nat.zero_le _) (Nat.zero_le _) rfl)
theorem qxz:HeldY Tryd.prog G0 74 ctIt:=HeldY.of (fn:=Tryd.f74) rfl rfl rfl ⟨by decide,by decide⟩ fun x hp lp=>q8b hp lp
theorem qhi {π:Nat->Option Nat}:MtL π [] []:=by simp only[MtL]
theorem qif {π:Nat->Option Nat} {s t:SV} {l r:List SV} (h1:Mt π s t) (h2:MtL π l r):MtL π (s::l) (t::r):=by simp only[MtL];exact ⟨t,r,rfl,h1,h2⟩
theorem q71 {π:Nat->Option Nat} {i j o:Nat} (h:π i=some j):Mt π (.ptr i o) (.ptr j o):=by simp only[Mt];exact ⟨j,rfl,h⟩
theorem mt_fn {π:Nat->Option Nat} {f:Nat} {a a' c c':List SV} (h1:MtL π a a') (h2:MtL π c c'):Mt π (.fn f a c) (.fn f a' c'):=by simp only[Mt];exact ⟨a',c',rfl,h1,h2⟩
def ctLkd:CtrI:=⟨[.dat (.sl u4)],fun _=>True,fun _=>[.fn 74 [] [.ptr 0 0]],fun x=>[(0,.var [.sl u4 x.1])]⟩
theorem q5o (l:List Int) (R:List Item->PS->Prop):sy tt G0 [] Tryd.f57.ntmps Tryd.f57.results.toList (QI ctLkd (l,())) R 1000 [.code (qah Tryd.f57)] (qct [.dat (.sl u4)] (l,())):=by
 refine (q61 l _ _).mpr ?_;refine ⟨[(0,1)],?_,?_,by decide,fun p hp=>?_⟩
 rotate_left 2
 ·simp only[List.mem_cons,List.not_mem_nil,or_false] at hp;rcases hp with rfl;decide
 all_goals have p0:piOf [(0,1)] 0=some 1:=by decide
 ·exact qif (mt_fn qhi (qif (q71 p0) qhi)) qhi
 ·exact ⟨.inl ⟨1,_,p0,rfl,_,rfl,qe4 _ _ rfl⟩,trivial⟩
theorem qtg:HeldI Tryd.prog G0 57 ctLkd:=HeldI.run cx0 (fn:=Tryd.f57) rfl rfl ⟨by decide,by decide⟩ fun x _=>q5o x.1 _
end Go.Proofs.YtplkpodikhfcdaaDoor
namespace Go.Proofs.YtplkpodikhfcdaaDoor
open Go.Px Go.Ax
set_option maxRecDepth 100000
abbrev capX:List AK:=[.ptr [.dat (.sl iI)],.ptr [.dat iI]]
abbrev KX1:List AK:=.dat iI::capX
abbrev KSe:List AK:=[.dat iI,.fn 76 [] capX]
set_option maxRecDepth 100000
theorem q64 (i:Int) (l:List Int) (t:Int) (Q:QT) (R:RT):sy tt G0 [] Tryd.f76.ntmps Tryd.f76.results.toList Q R 1000 [.code (qah Tryd.f76)] (qct KX1 (i,(l,()),(t,()),())) =
  ((0:Int)<=i /\
 i<(l.length:Int) /\
 Q [.bool (decide (t<=gtI l i.toNat))] [(1099511627776,.var [.sl iI l]),(1099511627777,.var [.int .i64 t])]):=by kernel_rfl
end Go.Proofs.YtplkpodikhfcdaaDoor
namespace Go.Proofs.YtplkpodikhfcdaaDoor
open Go.Px Go.Ax
set_option maxRecDepth 100000
attribute [local irreducible] Go.Px.sy Go.Px.syE
def qwv (i:Int) (l:List Int):Prop:=0<=i/\i<l.length
def ctIx1:CtrI:=⟨KX1,fun x=>qwv x.1 x.2.1.1,fun x=>[.bool (decide (gtI x.2.1.1 x.1.toNat ≥ x.2.2.1.1))],fun x=>bkKL 0 KX1 x⟩
theorem q5x (i:Int) (l:List Int) (t:Int) (hp:qwv i l) (R:List Item->PS->Prop):sy tt G0 [] Tryd.f76.ntmps Tryd.f76.results.toList (QI ctIx1 (i,(l,()),(t,()),())) R 1000 [.code (qah Tryd.f76)] (qct KX1 (i,(l,()),(t,()),())):=by
 refine (q64 _ _ _ _ _).mpr ⟨hp.1,hp.2,?_⟩;refine QI.self rfl rfl rfl ?_;intro p hp;simp only[ctIx1,bkKL,bkK,cnt,cntL,List.append_nil,List.nil_append,List.mem_append,List.mem_cons,List.mem_singleton,List.not_mem_nil,or_false] at hp;rcases hp with rfl | rfl <;> rfl
theorem q0z:HeldI Tryd.prog G0 76 ctIx1:=HeldI.run cx0 (fn:=Tryd.f76) rfl rfl ⟨by decide,by decide⟩ fun x hp=>q5x x.1 x.2.1.1 x.2.2.1.1 hp _
def CIx:CV:=[(76,.inr ctIx1)]
theorem cxIx:CxOK Tryd.prog tt G0 CIx:=cx0.consI q0z (fn:=Tryd.f76) rfl rfl rfl
end Go.Proofs.YtplkpodikhfcdaaDoor
namespace Go.Proofs.YtplkpodikhfcdaaDoor
open Go.Px Go.Ax
open Go.IntKind(i64 u32 u8)
set_option maxRecDepth 100000
set_option maxRecDepth 100000
theorem q6t (n:Int) (l:List Int) (t:Int) (Q:QT) (R:RT):sy tt G0 CIx Tryd.f75.ntmps Tryd.f75.results.toList Q R 1000 [.code (qah Tryd.f75)] (qct KSe (n,((),((l,()),(t,()),())),())) =
  (R (hd Tryd.f75 0) { env:=[(0,.int .i64 n),(1,.fn (76:Nat) [] [.ptr (1099511627776:Nat) 0,.ptr 1099511627777 0]),(4,.int .i64 0),(5,.int .i64 0),(6,.int .i64 n),(8,.int .i64 n)],blk:=[(1099511627776,.var [.sl iI l]),(1099511627777,.var [.int .i64 t])] }):=by kernel_rfl
theorem qvi (i j:Int) (l:List Int) (t:Int) (Q:QT) (R:RT):sy tt G0 CIx Tryd.f75.ntmps Tryd.f75.results.toList Q (fun it S=>R it (qbe [1,5,6] [1099511627776,1099511627777] S)) 1000 (hd Tryd.f75 0) ⟨[(1,.fn 76 [] [.ptr 1099511627776 0,.ptr 1099511627777 0]),(5,.int .i64 i),(6,.int .i64 j)],[(1099511627776,.var [.sl iI l]),(1099511627777,.var [.int .i64 t])]⟩ =
  (bc (decide (i<j)) ((0:Int)<=1 /\
 ctIx1.pre (i64.wrap ((IntKind.u64.wrap (i64.wrap (i+j))).fdiv ((2:Int) ^ min (1) IntKind.u64.bits)),(l,()),(t,()),()) /\
 bc (!decide (gtI l (i64.wrap ((IntKind.u64.wrap (i64.wrap (i+j))).fdiv ((2:Int) ^ min (1) IntKind.u64.bits))).toNat ≥ t)) (R (hd Tryd.f75 0) { env:=[(1,.fn (76:Nat) [] [.ptr (1099511627776:Nat) 0,.ptr 1099511627777 0]),(5,.int .i64 (i64.wrap (i64.wrap ((IntKind.u64.wrap (i64.wrap (i+j))).fdiv ((2:Int) ^ min (1) IntKind.u64.bits))+1))),(6,.int .i64 j)],blk:=[(1099511627776,.var [.sl iI l]),(1099511627777,.var [.int .i64 t])] }) (R (hd Tryd.f75 0) { env:=[(1,.fn (76:Nat) [] [.ptr (1099511627776:Nat) 0,.ptr 1099511627777 0]),(5,.int .i64 i),(6,.int .i64 (i64.wrap ((IntKind.u64.wrap (i64.wrap (i+j))).fdiv ((2:Int) ^ min (1) IntKind.u64.bits))))],blk:=[(1099511627776,.var [.sl iI l]),(1099511627777,.var [.int .i64 t])] })) (Q [.int .i64 i] [(1099511627776,.var [.sl iI l]),(1099511627777,.var [.int .i64 t])])):=by kernel_rfl
end Go.Proofs.YtplkpodikhfcdaaDoor
namespace Go.Proofs.YtplkpodikhfcdaaDoor
open Go.Px Go.Ax
set_option maxRecDepth 100000
attribute [local irreducible] Go.Px.sy Go.Px.syE
def seaF (l:List Int) (t:Int):Nat->Nat->Nat->Nat
 | 0,i,_=>i
 | k+1,i,j=>if i<j then (if gtI l ((i+j) / 2) ≥ t then seaF l t k i ((i+j) / 2) else seaF l t k ((i+j) / 2+1) j) else i
abbrev GDs (f:Nat) (fn:Func) (Q:List SV->List (Nat × LB)->Prop) (it:List Item) (S:PS):Prop:=Px.Good Tryd.prog tt G0 f fn.ntmps fn.results.toList Q it S
abbrev QS (l:List Int) (t r:Int):List SV->List (Nat × LB)->Prop:=fun rs blk=>rs=[.int .i64 r]/\blk=[(1099511627776,.var [.sl iI l]),(1099511627777,.var [.int .i64 t])]
abbrev seS (l:List Int) (t i j:Int):PS:=⟨[(1,.fn 76 [] [.ptr 1099511627776 0,.ptr 1099511627777 0]),(5,.int .i64 i),(6,.int .i64 j)],[(1099511627776,.var [.sl iI l]),(1099511627777,.var [.int .i64 t])]⟩
theorem qq3 {x:Int} (h0:0<=x) (h1:x<18446744073709551616):IntKind.u64.wrap x=x:=by
 rw[show IntKind.u64.wrap x=x % 18446744073709551616 from rfl];omega
theorem q05 {i j:Nat} (h:i+j<1099511627776):IntKind.i64.wrap ((IntKind.u64.wrap (IntKind.i64.wrap ((i:Int)+(j:Int)))).fdiv ((2:Int) ^ min (1) IntKind.u64.bits))=(((i+j) / 2:Nat):Int):=by
 rw[IntWalk.i64_in ((i:Int)+j) (by omega)];rw[show IntKind.u64.wrap ((i:Int)+j)=(i:Int)+j from qq3 (by omega) (by omega)];rw[show ((2:Int) ^ min 1 IntKind.u64.bits)=2 from rfl,Int.fdiv_eq_ediv_of_nonneg _ (by omega),IntWalk.i64_in _ (by omega)];omega
theorem qzt {l:List Int} {t:Int} (hl:l.length<1073741824):∀ (k i j:Nat),j-i<=k->i<=j->j<=l.length ->
  GDs 75 Tryd.f75 (QS l t (seaF l t k i j:Nat)) (hd Tryd.f75 0) (seS l t i j):=by
 intro k
 induction k with
 | zero=>
  intro i j hk hij hj;refine qap cxIx (qvi i j l t _ _) ?_;rw[decide_eq_false (by omega),bc_f];exact ⟨rfl,rfl⟩
 | succ k ih=>
  intro i j hk hij hj;refine qap cxIx (qvi i j l t _ _) ?_;by_cases hlt:i<j
  ·rw[decide_eq_true (show (i:Int)<(j:Int) by omega),bc_t,q05 (by omega),Int.toNat_natCast];refine ⟨by decide,(show qwv _ l from ⟨by omega,by omega⟩),qav (fun h=>?_) (fun h=>?_)⟩
   ·have h:¬ gtI l ((i+j) / 2) ≥ t:=of_decide_eq_false (by simpa using h);rw[show IntKind.i64.wrap ((((i+j) / 2:Nat):Int)+1)=(((i+j) / 2+1:Nat):Int) from by rw[IntWalk.i64_in _ (by omega)];omega];rw[seaF,if_pos hlt,if_neg h];exact ih ((i+j) / 2+1) j (by omega) (by omega) hj
   ·have h:gtI l ((i+j) / 2) ≥ t:=of_decide_eq_true (by simpa using h);rw[seaF,if_pos hlt,if_pos h];exact ih i ((i+j) / 2) (by omega) (by omega) (by omega)
  ·rw[decide_eq_false (by omega),bc_f,seaF,if_neg hlt];exact ⟨rfl,rfl⟩
def q4r (n:Int) (l:List Int):Prop:=0<=n/\n<=l.length/\l.length<1073741824
def ctSe:CtrI:=⟨KSe,fun x=>q4r x.1 x.2.1.2.1.1,fun x=>[.int .i64 (seaF x.2.1.2.1.1 x.2.1.2.2.1.1 x.1.toNat 0 x.1.toNat:Nat)],fun x=>bkKL 0 KSe x⟩
theorem q4h (n:Nat) (l:List Int) (t:Int) (hn:n<=l.length) (hl:l.length<1073741824):sy tt G0 CIx Tryd.f75.ntmps Tryd.f75.results.toList (QI ctSe ((n:Int),((),((l,()),(t,()),())),())) (Px.Good Tryd.prog tt G0 75 Tryd.f75.ntmps Tryd.f75.results.toList (QI ctSe ((n:Int),((),((l,()),(t,()),())),()))) 1000 [.code (qah Tryd.f75)] (qct KSe ((n:Int),((),((l,()),(t,()),())),())):=by
 rw[q6t];refine ((qzt hl n 0 n (by omega) (by omega) hn).post fun rs blk hq=>?_).only ⟨rfl,rfl,rfl,trivial⟩ ⟨rfl,rfl,trivial⟩;obtain ⟨rfl,rfl⟩:=hq;refine QI.self rfl rfl rfl ?_;intro b hb;simp only[ctSe,bkKL,bkK,cnt,cntL,List.append_nil,List.nil_append,List.mem_append,List.mem_cons,List.mem_singleton,List.not_mem_nil,or_false] at hb;rcases hb with rfl | rfl <;> rfl
theorem qzs (n:Int) (l:List Int) (t:Int) (hp:q4r n l):sy tt G0 CIx Tryd.f75.ntmps Tryd.f75.results.toList (QI ctSe (n,((),((l,()),(t,()),())),())) (Px.Good Tryd.prog tt G0 75 Tryd.f75.ntmps Tryd.f75.results.toList (QI ctSe (n,((),((l,()),(t,()),())),()))) 1000 [.code (qah Tryd.f75)] (qct KSe (n,((),((l,()),(t,()),())),())):=by
 obtain ⟨h1,h2,h3⟩:=hp;obtain ⟨n,rfl⟩:=Int.eq_ofNat_of_zero_le h1;exact q4h n l t (by omega) h3
theorem qzu:HeldI Tryd.prog G0 75 ctSe:=HeldI.run cxIx (fn:=Tryd.f75) rfl rfl ⟨by decide,by decide⟩ fun x hp=>qzs x.1 x.2.1.2.1.1 x.2.1.2.2.1.1 hp
end Go.Proofs.YtplkpodikhfcdaaDoor
namespace Go.Proofs.YtplkpodikhfcdaaDoor
open Go.Px Go.Ax
set_option maxRecDepth 100000
def CSe:CV:=(75,.inr ctSe)::CIx
theorem cxSe:CxOK Tryd.prog tt G0 CSe:=cxIx.consI qzu (fn:=Tryd.f75) rfl rfl rfl
set_option maxRecDepth 100000
theorem q65 (l:List Int) (t:Int) (Q:QT) (R:RT):sy tt G0 CSe Tryd.f59.ntmps Tryd.f59.results.toList Q R 1000 [.code (qah Tryd.f59)] (entry [.sl iI,iI] (l,t,())) =
  (ctSe.pre ((l.length:Int),((),(l,()),(t,()),()),()) /\
 Q [.int .i64 (↑(seaF l t (l.length:Int).toNat (0:Nat) (l.length:Int).toNat):Int)] [(2,.var [.sl iI l]),(3,.var [.int .i64 t])]):=by kernel_rfl
end Go.Proofs.YtplkpodikhfcdaaDoor
namespace Go.Proofs.YtplkpodikhfcdaaDoor
open Go.Px Go.Ax
set_option maxRecDepth 100000
attribute [local irreducible] Go.Px.sy Go.Px.syE
def iofV (l:List Int) (t:Int):Nat:=seaF l t l.length 0 l.length
def qs8 (l:List Int):Prop:=l.length<1073741824
def ctIof:Ctr:=⟨[.sl iI,iI],fun x=>qs8 x.1,fun x=>[.int .i64 (iofV x.1 x.2.1:Nat)],fun _=>[]⟩
theorem q5z (l:List Int) (t:Int) (hl:qs8 l) (R:List Item->PS->Prop):sy tt G0 CSe Tryd.f59.ntmps Tryd.f59.results.toList (QC ctIof (l,t,())) R 1000 [.code (qah Tryd.f59)] (entry [.sl iI,iI] (l,t,())):=by
 refine (q65 l t _ _).mpr ⟨(show q4r _ l from ⟨by omega,Int.le_refl _,hl⟩),?_⟩;exact QC.flat (by show [SV.int .i64 (iofV l t:Nat)]=_;rw[Int.toNat_natCast];rfl) rfl rfl
theorem q00:Held Tryd.prog G0 59 ctIof:=Held.run cxSe (fn:=Tryd.f59) rfl rfl ⟨by decide,by decide⟩ fun x hp=>q5z x.1 x.2.1 hp _
end Go.Proofs.YtplkpodikhfcdaaDoor
namespace Go.Proofs.YtplkpodikhfcdaaDoor
open Go.Px Go.Ax
set_option maxRecDepth 100000
abbrev rI:AK:=.row 3 iI
abbrev Kins:List AK:=[rI,.dat iI,.dat iI]
set_option maxRecDepth 100000
theorem qzb (a:Int) (Q:QT) (R:RT):sy tt G0 [] Tryd.f97.ntmps Tryd.f97.results.toList Q R 1000 [.code (qah Tryd.f97)] (entry [iI] (a,())) =
  (Q [.bool (decide (a≠a))] []):=by kernel_rfl
end Go.Proofs.YtplkpodikhfcdaaDoor
namespace Go.Proofs.YtplkpodikhfcdaaDoor
open Go.Px Go.Ax
set_option maxRecDepth 100000
attribute [local irreducible] Go.Px.sy Go.Px.syE
def ctNan:Ctr:=⟨[iI],fun _=>True,fun _=>[.bool false],fun _=>[]⟩
theorem q0e:Held Tryd.prog G0 97 ctNan:=Held.run cx0 (fn:=Tryd.f97) rfl rfl ⟨by decide,by decide⟩ fun x _=>by
 refine (qzb x.1 _ _).mpr ?_;rw[decide_eq_false (by simp)];exact QC.flat rfl rfl rfl
def CNan:CV:=[(97,.inl ctNan)]
theorem cxNan:CxOK Tryd.prog tt G0 CNan:=cx0.cons q0e (fn:=Tryd.f97) rfl rfl rfl
end Go.Proofs.YtplkpodikhfcdaaDoor
namespace Go.Proofs.YtplkpodikhfcdaaDoor
open Go.Px Go.Ax
set_option maxRecDepth 100000
set_option maxRecDepth 100000
theorem q33 (a b:Int) (Q:QT) (R:RT):sy tt G0 CNan Tryd.f87.ntmps Tryd.f87.results.toList Q R 1000 [.code (qah Tryd.f87)] (entry [iI,iI] (a,b,())) =
  (ctNan.pre (a,()) /\
 false=false /\
 Q [.bool (bif false then true else decide (a<b))] []):=by kernel_rfl
end Go.Proofs.YtplkpodikhfcdaaDoor
namespace Go.Proofs.YtplkpodikhfcdaaDoor
open Go.Px Go.Ax
set_option maxRecDepth 100000
attribute [local irreducible] Go.Px.sy Go.Px.syE
def ctLess:Ctr:=⟨[iI,iI],fun _=>True,fun x=>[.bool (decide ((show Int from x.1)<x.2.1))],fun _=>[]⟩
theorem q0t (a b:Int) (R:List Item->PS->Prop):sy tt G0 CNan Tryd.f87.ntmps Tryd.f87.results.toList (QC ctLess (a,b,())) R 1000 [.code (qah Tryd.f87)] (entry [iI,iI] (a,b,())):=by
 refine (q33 a b _ _).mpr ?_;exact ⟨trivial,rfl,QC.flat rfl rfl rfl⟩
theorem qxu:Held Tryd.prog G0 87 ctLess:=Held.run cxNan (fn:=Tryd.f87) rfl rfl ⟨by decide,by decide⟩ fun x _=>q0t x.1 x.2.1 _
def qve:CV:=(87,.inl ctLess)::CNan
theorem cxLess:CxOK Tryd.prog tt G0 qve:=cxNan.cons qxu (fn:=Tryd.f87) rfl rfl rfl
end Go.Proofs.YtplkpodikhfcdaaDoor
namespace Go.Proofs.YtplkpodikhfcdaaDoor
open Go.Px Go.Ax
open Go.IntKind(i64 u32 u8)
set_option maxRecDepth 100000
set_option maxRecDepth 100000
theorem q66 (l:List Int) (a b:Int) (Q:QT) (R:RT):sy tt G0 qve Tryd.f81.ntmps Tryd.f81.results.toList Q R 1000 [.code (qah Tryd.f81)] (qct Kins (l,a,b,())) =
  (R (hd Tryd.f81 0) { env:=[(0,.win true iI 1099511627776 0 l.length),(1,.int .i64 a),(2,.int .i64 b),(6,.int .i64 (i64.wrap (a+1))),(8,.int .i64 a),(9,.int .i64 (i64.wrap (a+1)))],blk:=[(1099511627776,.row 3 iI l)] }):=by kernel_rfl
theorem qvr (l:List Int) (a b i:Int) (Q:QT) (R:RT):sy tt G0 qve Tryd.f81.ntmps Tryd.f81.results.toList Q R 1000 (hd Tryd.f81 0) ⟨[(0,.win true iI 1099511627776 0 l.length),(1,.int .i64 a),(2,.int .i64 b),(6,.int .i64 i)],[(1099511627776,.row 3 iI l)]⟩ =
  (bc (decide (i<b)) (R (hd Tryd.f81 1) { env:=[(0,.win true iI 1099511627776 0 l.length),(1,.int .i64 a),(2,.int .i64 b),(6,.int .i64 i),(7,.int .i64 i),(10,.int .i64 i),(11,.int .i64 b),(12,.bool (decide (i<b))),(15,.int .i64 i)],blk:=[(1099511627776,.row 3 iI l)] }) (Q [] [(1099511627776,.row 3 iI l)])):=by kernel_rfl
theorem qvq (l:List Int) (a b i j:Int) (Q:QT) (R:RT):sy tt G0 qve Tryd.f81.ntmps Tryd.f81.results.toList Q (fun it S=>R it (qbe [0,1,2,6,7] [1099511627776] S)) 1000 (hd Tryd.f81 1) ⟨[(0,.win true iI 1099511627776 0 l.length),(1,.int .i64 a),(2,.int .i64 b),(6,.int .i64 i),(7,.int .i64 j)],[(1099511627776,.row 3 iI l)]⟩ =
  (bc (decide (a<j)) ((0:Int)<=j /\
 j<(l.length:Int) /\
 (0:Nat)+j.toNat<l.length /\
 (0:Int)<=i64.wrap (j-1) /\
 i64.wrap (j-1)<(l.length:Int) /\
 (0:Nat)+(i64.wrap (j-1)).toNat<l.length /\
 ctLess.pre (gtI l ((0:Nat)+j.toNat),gtI l ((0:Nat)+(i64.wrap (j-1)).toNat),()) /\
 bc (decide ((have this:=gtI l ((0:Nat)+j.toNat);this)<gtI l ((0:Nat)+(i64.wrap (j-1)).toNat))) ((0:Int)<=i64.wrap (j-1) /\
 i64.wrap (j-1)<(l.length:Int) /\
 (0:Nat)+(i64.wrap (j-1)).toNat<l.length /\
 (0:Int)<=j /\
 j<(l.length:Int) /\
 (0:Nat)+j.toNat<l.length /\
 (0:Int)<=j /\
 j<(l.length:Int) /\
 (0:Nat)+j.toNat<l.length /\
 (0:Int)<=i64.wrap (j-1) /\
 i64.wrap (j-1)<(l.length:Int) /\
 (0:Nat)+(i64.wrap (j-1)).toNat<(l.set ((0:Nat)+j.toNat) (gtI l ((0:Nat)+(i64.wrap (j-1)).toNat))).length /\
 R (hd Tryd.f81 1) { env:=[(0,.win true iI 1099511627776 0 l.length),(1,.int .i64 a),(2,.int .i64 b),(6,.int .i64 i),(7,.int .i64 (i64.wrap (j-1)))],blk:=[(1099511627776,.row 3 iI ((l.set ((0:Nat)+j.toNat) (gtI l ((0:Nat)+(i64.wrap (j-1)).toNat))).set ((0:Nat)+(i64.wrap (j-1)).toNat) (gtI l ((0:Nat)+j.toNat))))] }) (R (hd Tryd.f81 0) { env:=[(0,.win true iI 1099511627776 0 l.length),(1,.int .i64 a),(2,.int .i64 b),(6,.int .i64 (i64.wrap (i+1))),(7,.int .i64 j)],blk:=[(1099511627776,.row 3 iI l)] })) (false=false /\
 R (hd Tryd.f81 0) { env:=[(0,.win true iI 1099511627776 0 l.length),(1,.int .i64 a),(2,.int .i64 b),(6,.int .i64 (i64.wrap (i+1))),(7,.int .i64 j)],blk:=[(1099511627776,.row 3 iI l)] })):=by kernel_rfl
end Go.Proofs.YtplkpodikhfcdaaDoor
namespace Go.Proofs.YtplkpodikhfcdaaDoor
open Go.Px Go.Ax
set_option maxRecDepth 100000
attribute [local irreducible] Go.Px.sy Go.Px.syE
def swp (l:List Int) (j:Nat):List Int:=(l.set (j+1) (gtI l j)).set j (gtI l (j+1))
def qi9:Nat->List Int->List Int
 | 0,l=>l
 | j+1,l=>if gtI l (j+1)<gtI l j then qi9 j (swp l j) else l
def insF:Nat->Nat->List Int->List Int
 | 0,_,l=>l
 | k+1,i,l=>insF k (i+1) (qi9 i l)
def qec (l:List Int):List Int:=insF (l.length-1) 1 l
theorem qk7 (l:List Int) (j:Nat):(swp l j).length=l.length:=by unfold swp;rw[List.length_set,List.length_set]
theorem qfk:∀ (j:Nat) (l:List Int),(qi9 j l).length=l.length
 | 0,_=>rfl
 | j+1,l=>by
  rw[qi9];split
  ·rw[qfk j,qk7]
  ·rfl
theorem qtk:∀ (k i:Nat) (l:List Int),(insF k i l).length=l.length
 | 0,_,_=>rfl
 | k+1,i,l=>by rw[insF,qtk k,qfk]
theorem qhy (l:List Int):(qec l).length=l.length:=qtk _ _ _
abbrev QB3 (l:List Int):List SV->List (Nat × LB)->Prop:=fun rs blk=>rs=[]/\blk=[(1099511627776,.row 3 iI l)]
abbrev inI (l:List Int) (n i:Int):PS:=⟨[(0,.win true iI 1099511627776 0 l.length),(1,.int .i64 0),(2,.int .i64 n),(6,.int .i64 i)],[(1099511627776,.row 3 iI l)]⟩
abbrev inJ (l:List Int) (n i j:Int):PS:=⟨[(0,.win true iI 1099511627776 0 l.length),(1,.int .i64 0),(2,.int .i64 n),(6,.int .i64 i),(7,.int .i64 j)],[(1099511627776,.row 3 iI l)]⟩
theorem qvg {a b:Nat} (h:a=b):some (SV.win true iI 1099511627776 0 a)=some (SV.win true iI 1099511627776 0 b):=by rw[h]
theorem qx1 {Q:List SV->List (Nat × LB)->Prop} {n i:Nat} (hn:n<1073741824) (hi:i<n):∀ (j:Nat) (l:List Int),l.length=n->j<=i ->
  GD 81 Tryd.f81 Q (hd Tryd.f81 0) (inI (qi9 j l) n (i+1:Nat))->GD 81 Tryd.f81 Q (hd Tryd.f81 1) (inJ l n i j):=by
 have w1:IntKind.i64.wrap ((i:Int)+1)=((i+1:Nat):Int):=by rw[IntWalk.i64_in _ (by omega)];omega
 intro j
 induction j with
 | zero=>
  intro l hl hj K;refine qap cxLess (qvq l 0 n i (0:Nat) _ _) ?_;rw[decide_eq_false (by omega),bc_f,w1];exact ⟨rfl,K.only ⟨rfl,rfl,rfl,rfl,trivial⟩ ⟨rfl,trivial⟩⟩
 | succ j ih=>
  intro l hl hj K;refine qap cxLess (qvq l 0 n i (j+1:Nat) _ _) ?_;have w2:IntKind.i64.wrap (((j+1:Nat):Int)-1)=(j:Int):=by rw[IntWalk.i64_in _ (by omega)];omega
  rw[decide_eq_true (by omega),bc_t,w1,w2];simp only[Int.toNat_natCast,Nat.zero_add,List.length_set];refine ⟨by omega,by omega,by omega,by omega,by omega,by omega,trivial,qav (fun h=>?_) (fun h=>?_)⟩
  ·have h:gtI l (j+1)<gtI l j:=of_decide_eq_true h;rw[qi9,if_pos h] at K;refine ⟨by omega,by omega,by omega,by omega,by omega,by omega,by omega,by omega,by omega,by omega,by omega,by omega,?_⟩;have nx:=ih (swp l j) (by rw[qk7];exact hl) (by omega) K;exact nx.only ⟨qvg (qk7 l j).symm,rfl,rfl,rfl,rfl,trivial⟩ ⟨rfl,trivial⟩
  ·have h:¬ gtI l (j+1)<gtI l j:=of_decide_eq_false h;rw[qi9,if_neg h] at K;exact K.only ⟨rfl,rfl,rfl,rfl,trivial⟩ ⟨rfl,trivial⟩
theorem qx2 {n:Nat} (hn:n<1073741824):∀ (k i:Nat) (l:List Int),l.length=n->n-i=k ->
  GD 81 Tryd.f81 (QB3 (insF k i l)) (hd Tryd.f81 0) (inI l n i):=by
 intro k
 induction k with
 | zero=>
  intro i l hl hk;refine qml cxLess (qvr l 0 n i _ _) ?_;rw[decide_eq_false (by omega),bc_f];exact ⟨rfl,rfl⟩
 | succ k ih=>
  intro i l hl hk;refine qml cxLess (qvr l 0 n i _ _) ?_;rw[decide_eq_true (by omega),bc_t,insF];refine (qx1 hn (i:=i) (by omega) i l hl (Nat.le_refl _) (ih (i+1) (qi9 i l) (by rw[qfk];exact hl) (by omega))).only ⟨rfl,rfl,rfl,rfl,rfl,trivial⟩ ⟨rfl,trivial⟩
def qww (l:List Int) (a b:Int):Prop:=a=0/\b=l.length/\l.length<1073741824
def ctIns:CtrI:=⟨Kins,fun x=>qww x.1 x.2.1 x.2.2.1,fun _=>[],fun x=>bkKL 0 Kins (qec x.1,x.2)⟩
theorem q50 (l:List Int) (a b:Int) (hp:qww l a b):sy tt G0 qve Tryd.f81.ntmps Tryd.f81.results.toList (QI ctIns (l,a,b,())) (Px.Good Tryd.prog tt G0 81 Tryd.f81.ntmps Tryd.f81.results.toList (QI ctIns (l,a,b,()))) 1000 [.code (qah Tryd.f81)] (qct Kins (l,a,b,())):=by
 obtain ⟨rfl,rfl,hl⟩:=hp;rw[q66];refine ((qx2 hl (l.length-1) 1 l rfl rfl).post fun rs blk hq=>?_).only ⟨rfl,rfl,rfl,rfl,trivial⟩ ⟨rfl,trivial⟩;obtain ⟨rfl,rfl⟩:=hq;refine QI.self rfl rfl rfl ?_;intro b hb;simp only[ctIns,bkKL,bkK,cnt,cntL,List.append_nil,List.nil_append,List.mem_append,List.mem_cons,List.mem_singleton,List.not_mem_nil,or_false] at hb;rcases hb with rfl
 rfl
theorem q01:HeldI Tryd.prog G0 81 ctIns:=HeldI.run cxLess (fn:=Tryd.f81) rfl rfl ⟨by decide,by decide⟩ fun x hp=>q50 x.1 x.2.1 x.2.2.1 hp
def CIns:CV:=(81,.inr ctIns)::qve
theorem q8p:CxOK Tryd.prog tt G0 CIns:=cxLess.consI q01 (fn:=Tryd.f81) rfl rfl rfl
end Go.Proofs.YtplkpodikhfcdaaDoor
namespace Go.Proofs.YtplkpodikhfcdaaDoor
open Go.Px Go.Ax
open Go.IntKind(i64 u32 u8)
set_option maxRecDepth 100000
def L8:List UInt8:=[0,1]++List.replicate 2 2++List.replicate 4 3++List.replicate 8 4++List.replicate 16 5++List.replicate 32 6++List.replicate 64 7++List.replicate 128 8
abbrev Kpdq:List AK:=[rI,.dat iI,.dat iI,.dat iI]
set_option maxRecDepth 100000
theorem qza (a:Int) (Q:QT) (R:RT):sy tt G0 [] Tryd.f91.ntmps Tryd.f91.results.toList Q R 1000 [.code (qah Tryd.f91)] (entry [.int .u64] (a,())) =
  (bc (decide ((4294967296:Int)<=a)) ((0:Int)<=32 /\
 bc (decide ((65536:Int)<=a.fdiv ((2:Int) ^ min (32) IntKind.u64.bits))) ((0:Int)<=16 /\
 bc (decide ((256:Int)<=(a.fdiv ((2:Int) ^ min (32) IntKind.u64.bits)).fdiv ((2:Int) ^ min (16) IntKind.u64.bits))) ((0:Int)<=8 /\
 (0:Int)<=u8.wrap (((a.fdiv ((2:Int) ^ min (32) IntKind.u64.bits)).fdiv ((2:Int) ^ min (16) IntKind.u64.bits)).fdiv ((2:Int) ^ min (8) IntKind.u64.bits)) /\
 u8.wrap (((a.fdiv ((2:Int) ^ min (32) IntKind.u64.bits)).fdiv ((2:Int) ^ min (16) IntKind.u64.bits)).fdiv ((2:Int) ^ min (8) IntKind.u64.bits))<(L8.length:Int) /\
 Q [.int .i64 (i64.wrap (i64.wrap (i64.wrap ((32:Int)+16)+8)+i64.wrap (↑(L8[(u8.wrap (((a.fdiv ((2:Int) ^ min (32) IntKind.u64.bits)).fdiv ((2:Int) ^ min (16) IntKind.u64.bits)).fdiv ((2:Int) ^ min (8) IntKind.u64.bits))).toNat]?.getD (0:UInt8)).toNat:Int)))] []) ((0:Int)<=u8.wrap ((a.fdiv ((2:Int) ^ min (32) IntKind.u64.bits)).fdiv ((2:Int) ^ min (16) IntKind.u64.bits)) /\
 u8.wrap ((a.fdiv ((2:Int) ^ min (32) IntKind.u64.bits)).fdiv ((2:Int) ^ min (16) IntKind.u64.bits))<(L8.length:Int) /\
 Q [.int .i64 (i64.wrap (i64.wrap ((32:Int)+16)+i64.wrap (↑(L8[(u8.wrap ((a.fdiv ((2:Int) ^ min (32) IntKind.u64.bits)).fdiv ((2:Int) ^ min (16) IntKind.u64.bits))).toNat]?.getD (0:UInt8)).toNat:Int)))] [])) (bc (decide ((256:Int)<=a.fdiv ((2:Int) ^ min (32) IntKind.u64.bits))) ((0:Int)<=8 /\
 (0:Int)<=u8.wrap ((a.fdiv ((2:Int) ^ min (32) IntKind.u64.bits)).fdiv ((2:Int) ^ min (8) IntKind.u64.bits)) /\
 u8.wrap ((a.fdiv ((2:Int) ^ min (32) IntKind.u64.bits)).fdiv ((2:Int) ^ min (8) IntKind.u64.bits))<(L8.length:Int) /\
 Q [.int .i64 (i64.wrap (i64.wrap ((32:Int)+8)+i64.wrap (↑(L8[(u8.wrap ((a.fdiv ((2:Int) ^ min (32) IntKind.u64.bits)).fdiv ((2:Int) ^ min (8) IntKind.u64.bits))).toNat]?.getD (0:UInt8)).toNat:Int)))] []) ((0:Int)<=u8.wrap (a.fdiv ((2:Int) ^ min (32) IntKind.u64.bits)) /\
 u8.wrap (a.fdiv ((2:Int) ^ min (32) IntKind.u64.bits))<(L8.length:Int) /\
 Q [.int .i64 (i64.wrap ((32:Int)+i64.wrap (↑(L8[(u8.wrap (a.fdiv ((2:Int) ^ min (32) IntKind.u64.bits))).toNat]?.getD (0:UInt8)).toNat:Int)))] []))) (bc (decide ((65536:Int)<=a)) ((0:Int)<=16 /\
 bc (decide ((256:Int)<=a.fdiv ((2:Int) ^ min (16) IntKind.u64.bits))) ((0:Int)<=8 /\
 (0:Int)<=u8.wrap ((a.fdiv ((2:Int) ^ min (16) IntKind.u64.bits)).fdiv ((2:Int) ^ min (8) IntKind.u64.bits)) /\
 u8.wrap ((a.fdiv ((2:Int) ^ min (16) IntKind.u64.bits)).fdiv ((2:Int) ^ min (8) IntKind.u64.bits))<(L8.length:Int) /\
 Q [.int .i64 (i64.wrap (i64.wrap (i64.wrap ((0:Int)+16)+8)+i64.wrap (↑(L8[(u8.wrap ((a.fdiv ((2:Int) ^ min (16) IntKind.u64.bits)).fdiv ((2:Int) ^ min (8) IntKind.u64.bits))).toNat]?.getD (0:UInt8)).toNat:Int)))] []) ((0:Int)<=u8.wrap (a.fdiv ((2:Int) ^ min (16) IntKind.u64.bits)) /\
 u8.wrap (a.fdiv ((2:Int) ^ min (16) IntKind.u64.bits))<(L8.length:Int) /\
 Q [.int .i64 (i64.wrap (i64.wrap ((0:Int)+16)+i64.wrap (↑(L8[(u8.wrap (a.fdiv ((2:Int) ^ min (16) IntKind.u64.bits))).toNat]?.getD (0:UInt8)).toNat:Int)))] [])) (bc (decide ((256:Int)<=a)) ((0:Int)<=8 /\
 (0:Int)<=u8.wrap (a.fdiv ((2:Int) ^ min (8) IntKind.u64.bits)) /\
 u8.wrap (a.fdiv ((2:Int) ^ min (8) IntKind.u64.bits))<(L8.length:Int) /\
 Q [.int .i64 (i64.wrap (i64.wrap ((0:Int)+8)+i64.wrap (↑(L8[(u8.wrap (a.fdiv ((2:Int) ^ min (8) IntKind.u64.bits))).toNat]?.getD (0:UInt8)).toNat:Int)))] []) ((0:Int)<=u8.wrap a /\
 u8.wrap a<(L8.length:Int) /\
 Q [.int .i64 (i64.wrap ((0:Int)+i64.wrap (↑(L8[(u8.wrap a).toNat]?.getD (0:UInt8)).toNat:Int)))] [])))):=by kernel_rfl
theorem q3t (l:List Int) (a b m:Int) (Q:QT) (R:RT):sy tt G0 CIns Tryd.f78.ntmps Tryd.f78.results.toList Q R 1000 (hd Tryd.f78 0) ⟨[(0,.win true iI 1099511627776 0 l.length),(1,.int .i64 a),(2,.int .i64 b),(3,.int .i64 m),(8,.bool true),(9,.bool true)],[(1099511627776,.row 3 iI l)]⟩ =
  (bc (decide (i64.wrap (b-a)<=12)) (l.length=l.length /\
 ctIns.pre (l,a,b,()) /\
 Q [] [(1099511627776,.row 3 iI (qec l))]) (bc (decide (m=(0:Int))) False False)):=by kernel_rfl
theorem q6x (l:List Int) (a b m:Int) (Q:QT) (R:RT):sy tt G0 CIns Tryd.f78.ntmps Tryd.f78.results.toList Q R 1000 [.code (qah Tryd.f78)] (qct Kpdq (l,a,b,m,())) =
  (R (hd Tryd.f78 0) { env:=[(0,.win true iI 1099511627776 0 l.length),(1,.int .i64 a),(2,.int .i64 b),(3,.int .i64 m),(8,.bool true),(9,.bool true)],blk:=[(1099511627776,.row 3 iI l)] }):=by kernel_rfl
end Go.Proofs.YtplkpodikhfcdaaDoor
namespace Go.Proofs.YtplkpodikhfcdaaDoor
open Go.Px Go.Ax
set_option maxRecDepth 100000
attribute [local irreducible] Go.Px.sy Go.Px.syE
def lenV (a:Int):Int:=((L8[a.toNat]?.getD 0).toNat:Nat)
def qwu (a:Int):Prop:=0<=a/\a<256
def ctL64:Ctr:=⟨[.int .u64],fun x=>qwu x.1,fun x=>[.int .i64 (lenV x.1)],fun _=>[]⟩
theorem qsq (b:UInt8):IntKind.i64.wrap ((b.toNat:Nat):Int)=((b.toNat:Nat):Int):=by
 have:=b.toNat_lt;exact IntWalk.i64_in _ (by omega)
theorem q5u (a:Int) (h:qwu a) (R:List Item->PS->Prop):sy tt G0 [] Tryd.f91.ntmps Tryd.f91.results.toList (QC ctL64 (a,())) R 1000 [.code (qah Tryd.f91)] (entry [.int .u64] (a,())):=by
 obtain ⟨h0,h1⟩:=h;refine (qza a _ _).mpr ?_;rw[decide_eq_false (show ¬ (4294967296:Int)<=a by omega),bc_f,decide_eq_false (show ¬ (65536:Int)<=a by omega),bc_f,decide_eq_false (show ¬ (256:Int)<=a by omega),bc_f];have e:IntKind.u8.wrap a=a:=by rw[IntKind.wrap_u8];omega
 rw[e];refine ⟨h0,(show a<((256:Nat):Int) by omega),?_⟩;refine QC.flat ?_ rfl rfl
 show [SV.int .i64 (lenV a)]=_
 rw[qsq,Int.zero_add,qsq];rfl
theorem q0v:Held Tryd.prog G0 91 ctL64:=Held.run cx0 (fn:=Tryd.f91) rfl rfl ⟨by decide,by decide⟩ fun x hp=>q5u x.1 hp _
def qws (l:List Int) (a b:Int):Prop:=a=0/\b=l.length/\l.length<=12
def ctPdq:CtrI:=⟨Kpdq,fun x=>qws x.1 x.2.1 x.2.2.1,fun _=>[],fun x=>bkKL 0 Kpdq (qec x.1,x.2)⟩
theorem q4y (l:List Int) (a b m:Int) (hp:qws l a b):sy tt G0 CIns Tryd.f78.ntmps Tryd.f78.results.toList (QI ctPdq (l,a,b,m,())) (Px.Good Tryd.prog tt G0 78 Tryd.f78.ntmps Tryd.f78.results.toList (QI ctPdq (l,a,b,m,()))) 1000 [.code (qah Tryd.f78)] (qct Kpdq (l,a,b,m,())):=by
 obtain ⟨rfl,rfl,hl⟩:=hp;rw[q6x];refine qml q8p (q3t l 0 l.length m _ _) ?_;rw[show IntKind.i64.wrap ((l.length:Int)-0)=l.length from IntWalk.i64_in _ (by omega),decide_eq_true (by omega),bc_t];refine ⟨rfl,(show qww l 0 l.length from ⟨rfl,rfl,by omega⟩),?_⟩;refine QI.self rfl rfl rfl ?_;intro b hb;simp only[ctPdq,bkKL,bkK,cnt,cntL,List.append_nil,List.nil_append,List.mem_append,List.mem_cons,List.mem_singleton,List.not_mem_nil,or_false] at hb;rcases hb with rfl
 rfl
theorem qz8:HeldI Tryd.prog G0 78 ctPdq:=HeldI.run q8p (fn:=Tryd.f78) rfl rfl ⟨by decide,by decide⟩ fun x hp=>q4y x.1 x.2.1 x.2.2.1 x.2.2.2.1 hp
def CPdq:CV:=[(78,.inr ctPdq),(91,.inl ctL64)]
theorem cxPdq:CxOK Tryd.prog tt G0 CPdq:=(cx0.cons q0v (fn:=Tryd.f91) rfl rfl rfl).consI qz8 (fn:=Tryd.f78) rfl rfl rfl
end Go.Proofs.YtplkpodikhfcdaaDoor
namespace Go.Proofs.YtplkpodikhfcdaaDoor
open Go.Px Go.Ax
set_option maxRecDepth 100000
set_option maxRecDepth 100000
theorem q35 (a:Int) (Q:QT) (R:RT):sy tt G0 CPdq Tryd.f79.ntmps Tryd.f79.results.toList Q R 1000 [.code (qah Tryd.f79)] (entry [.int .u64] (a,())) =
  (ctL64.pre (a,()) /\
 Q [.int .i64 (lenV a)] []):=by kernel_rfl
end Go.Proofs.YtplkpodikhfcdaaDoor
namespace Go.Proofs.YtplkpodikhfcdaaDoor
open Go.Px Go.Ax
set_option maxRecDepth 100000
attribute [local irreducible] Go.Px.sy Go.Px.syE
theorem qyr:Held Tryd.prog G0 79 ctL64:=Held.run cxPdq (fn:=Tryd.f79) rfl rfl ⟨by decide,by decide⟩ fun x hp=>by
 refine (q35 x.1 _ _).mpr ⟨hp,?_⟩;exact QC.flat rfl rfl rfl
def CBl:CV:=(79,.inl ctL64)::CPdq
theorem cxBl:CxOK Tryd.prog tt G0 CBl:=cxPdq.cons qyr (fn:=Tryd.f79) rfl rfl rfl
end Go.Proofs.YtplkpodikhfcdaaDoor
namespace Go.Proofs.YtplkpodikhfcdaaDoor
open Go.Px Go.Ax
set_option maxRecDepth 100000
set_option maxRecDepth 100000
theorem q3o (l:List Int) (Q:QT) (R:RT):sy tt G0 CBl Tryd.f72.ntmps Tryd.f72.results.toList Q R 1000 [.code (qah Tryd.f72)] (qct [rI] (l,())) =
  (ctL64.pre (IntKind.u64.wrap (l.length:Int),()) /\
 l.length=l.length /\
 ctPdq.pre (l,(0:Int),(l.length:Int),lenV (IntKind.u64.wrap (l.length:Int)),()) /\
 Q [] [(1099511627776,.row 3 iI (qec l))]):=by kernel_rfl
theorem q7c (l:List Int) (Q:QT) (R:RT):sy tt G0 [] Tryd.f73.ntmps Tryd.f73.results.toList Q R 1000 [.code (qah Tryd.f73)] (qct [rI] (l,())) =
  (bc (decide ((l.length:Int)<2)) (Q [.win true iI 1099511627776 0 l.length] [(1099511627776,.row 3 iI l)]) (R (hd Tryd.f73 0) { env:=[(0,.win true iI 1099511627776 0 l.length),(2,.nils),(3,.int .i64 1),(6,.win true iI 1099511627776 0 l.length),(7,.int .i64 (l.length:Int)),(8,.bool (decide ((l.length:Int)<2)))],blk:=[(1099511627776,.row 3 iI l)] })):=by kernel_rfl
end Go.Proofs.YtplkpodikhfcdaaDoor
namespace Go.Proofs.YtplkpodikhfcdaaDoor
open Go.Px Go.Ax
set_option maxRecDepth 100000
attribute [local irreducible] Go.Px.sy Go.Px.syE
def q2q (l:List Int):Prop:=l.length<=12
def ctSrt:CtrI:=⟨[rI],fun x=>q2q x.1,fun _=>[],fun x=>bkKL 0 [rI] (qec x.1,())⟩
theorem q4e (l:List Int) (hl:q2q l) (R:List Item->PS->Prop):sy tt G0 CBl Tryd.f72.ntmps Tryd.f72.results.toList (QI ctSrt (l,())) R 1000 [.code (qah Tryd.f72)] (qct [rI] (l,())):=by
 have hl':l.length<=12:=hl;have e:IntKind.u64.wrap (l.length:Int)=l.length:=IntWalk.u64_in _ (by omega);refine (q3o l _ _).mpr ?_;rw[e];refine ⟨(show qwu l.length from ⟨by omega,by omega⟩),rfl,(show qws l 0 l.length from ⟨rfl,rfl,hl'⟩),?_⟩;refine QI.self rfl rfl rfl ?_;intro b hb;simp only[ctSrt,bkKL,bkK,cnt,cntL,List.append_nil,List.nil_append,List.mem_append,List.mem_cons,List.mem_singleton,List.not_mem_nil,or_false] at hb;rcases hb with rfl
 rfl
theorem qzo:HeldI Tryd.prog G0 72 ctSrt:=HeldI.run cxBl (fn:=Tryd.f72) rfl rfl ⟨by decide,by decide⟩ fun x hp=>q4e x.1 hp _
end Go.Proofs.YtplkpodikhfcdaaDoor
namespace Go.Proofs.YtplkpodikhfcdaaDoor
open Go.Px Go.Ax
open Go.IntKind(i64 u32 u8)
set_option maxRecDepth 100000
set_option maxRecDepth 100000
theorem qvx (l:List Int) (k:Int) (Q:QT) (R:RT):sy tt G0 [] Tryd.f73.ntmps Tryd.f73.results.toList Q R 1000 (hd Tryd.f73 0) ⟨[(0,.win true iI 1099511627776 0 l.length),(3,.int .i64 k)],[(1099511627776,.row 3 iI l)]⟩ =
  (bc (decide (k<(l.length:Int))) ((0:Int)<=k /\
 k<(l.length:Int) /\
 (0:Nat)+k.toNat<l.length /\
 (0:Int)<=i64.wrap (k-1) /\
 i64.wrap (k-1)<(l.length:Int) /\
 (0:Nat)+(i64.wrap (k-1)).toNat<l.length /\
 bc (decide (gtI l ((0:Nat)+k.toNat)=gtI l ((0:Nat)+(i64.wrap (k-1)).toNat))) ((0:Int)<=k /\
 k<=(l.length:Int) /\
 (0:Nat)+l.length<=l.length /\
 R (hd Tryd.f73 1) { env:=[(0,.win true iI 1099511627776 0 l.length),(3,.int .i64 k),(4,.win false iI (1099511627776:Nat) ((0:Nat)+k.toNat) (l.length-k.toNat)),(5,.int .i64 1),(10,.int .i64 k),(11,.win true iI 1099511627776 0 l.length),(12,.int .i64 (l.length:Int)),(13,.bool (decide (k<(l.length:Int)))),(16,.win true iI 1099511627776 0 l.length),(17,.int .i64 k),(18,.elp iI (1099511627776:Nat) ((0:Nat)+k.toNat) (0:Nat)),(19,.int .i64 (gtI l ((0:Nat)+k.toNat))),(20,.win true iI 1099511627776 0 l.length),(21,.int .i64 k),(22,.int .i64 (i64.wrap (k-1))),(23,.elp iI (1099511627776:Nat) ((0:Nat)+(i64.wrap (k-1)).toNat) (0:Nat)),(24,.int .i64 (gtI l ((0:Nat)+(i64.wrap (k-1)).toNat))),(25,.bool (decide (gtI l ((0:Nat)+k.toNat)=gtI l ((0:Nat)+(i64.wrap (k-1)).toNat)))),(26,.win true iI 1099511627776 0 l.length),(27,.int .i64 k),(28,.win false iI (1099511627776:Nat) ((0:Nat)+k.toNat) (l.length-k.toNat))],blk:=[(1099511627776,.row 3 iI l)] }) (R (hd Tryd.f73 0) { env:=[(0,.win true iI 1099511627776 0 l.length),(3,.int .i64 (i64.wrap (k+1))),(10,.int .i64 k),(11,.win true iI 1099511627776 0 l.length),(12,.int .i64 (l.length:Int)),(13,.bool (decide (k<(l.length:Int)))),(14,.int .i64 k),(15,.int .i64 (i64.wrap (k+1))),(16,.win true iI 1099511627776 0 l.length),(17,.int .i64 k),(18,.elp iI (1099511627776:Nat) ((0:Nat)+k.toNat) (0:Nat)),(19,.int .i64 (gtI l ((0:Nat)+k.toNat))),(20,.win true iI 1099511627776 0 l.length),(21,.int .i64 k),(22,.int .i64 (i64.wrap (k-1))),(23,.elp iI (1099511627776:Nat) ((0:Nat)+(i64.wrap (k-1)).toNat) (0:Nat)),(24,.int .i64 (gtI l ((0:Nat)+(i64.wrap (k-1)).toNat))),(25,.bool (decide (gtI l ((0:Nat)+k.toNat)=gtI l ((0:Nat)+(i64.wrap (k-1)).toNat))))],blk:=[(1099511627776,.row 3 iI l)] })) (Q [.win true iI 1099511627776 0 l.length] [(1099511627776,.row 3 iI l)])):=by kernel_rfl
theorem qvw (l:List Int) (lo n:Nat) (k m:Int) (Q:QT) (R:RT):sy tt G0 [] Tryd.f73.ntmps Tryd.f73.results.toList Q R 1000 (hd Tryd.f73 1) ⟨[(0,.win true iI 1099511627776 0 l.length),(3,.int .i64 k),(4,.win false iI 1099511627776 lo n),(5,.int .i64 m)],[(1099511627776,.row 3 iI l)]⟩ =
  (bc (decide (m<(n:Int))) ((0:Int)<=m /\
 m<(n:Int) /\
 lo+m.toNat<l.length /\
 (0:Int)<=i64.wrap (m-1) /\
 i64.wrap (m-1)<(n:Int) /\
 lo+(i64.wrap (m-1)).toNat<l.length /\
 bc (decide (gtI l (lo+m.toNat)≠gtI l (lo+(i64.wrap (m-1)).toNat))) ((0:Int)<=m /\
 m<(n:Int) /\
 lo+m.toNat<l.length /\
 (0:Int)<=k /\
 k<(l.length:Int) /\
 (0:Nat)+k.toNat<l.length /\
 R (hd Tryd.f73 1) { env:=[(0,.win true iI 1099511627776 0 l.length),(3,.int .i64 (i64.wrap (k+1))),(4,.win false iI (1099511627776:Nat) lo n),(5,.int .i64 (i64.wrap (m+1))),(29,.int .i64 m),(30,.win false iI (1099511627776:Nat) lo n),(31,.int .i64 (n:Int)),(32,.bool (decide (m<(n:Int)))),(33,.int .i64 m),(34,.int .i64 (i64.wrap (m+1))),(35,.win false iI (1099511627776:Nat) lo n),(36,.int .i64 m),(37,.elp iI (1099511627776:Nat) (lo+m.toNat) (0:Nat)),(38,.int .i64 (gtI l (lo+m.toNat))),(39,.win false iI (1099511627776:Nat) lo n),(40,.int .i64 m),(41,.int .i64 (i64.wrap (m-1))),(42,.elp iI (1099511627776:Nat) (lo+(i64.wrap (m-1)).toNat) (0:Nat)),(43,.int .i64 (gtI l (lo+(i64.wrap (m-1)).toNat))),(44,.bool (decide (gtI l (lo+m.toNat)≠gtI l (lo+(i64.wrap (m-1)).toNat)))),(45,.win true iI 1099511627776 0 l.length),(46,.int .i64 k),(47,.win false iI (1099511627776:Nat) lo n),(48,.int .i64 m),(49,.elp iI (1099511627776:Nat) (lo+m.toNat) (0:Nat)),(50,.int .i64 (gtI l (lo+m.toNat))),(51,.elp iI (1099511627776:Nat) ((0:Nat)+k.toNat) (0:Nat)),(52,.int .i64 k),(53,.int .i64 (i64.wrap (k+1)))],blk:=[(1099511627776,.row 3 iI (l.set ((0:Nat)+k.toNat) (gtI l (lo+m.toNat))))] }) (R (hd Tryd.f73 1) { env:=[(0,.win true iI 1099511627776 0 l.length),(3,.int .i64 k),(4,.win false iI (1099511627776:Nat) lo n),(5,.int .i64 (i64.wrap (m+1))),(29,.int .i64 m),(30,.win false iI (1099511627776:Nat) lo n),(31,.int .i64 (n:Int)),(32,.bool (decide (m<(n:Int)))),(33,.int .i64 m),(34,.int .i64 (i64.wrap (m+1))),(35,.win false iI (1099511627776:Nat) lo n),(36,.int .i64 m),(37,.elp iI (1099511627776:Nat) (lo+m.toNat) (0:Nat)),(38,.int .i64 (gtI l (lo+m.toNat))),(39,.win false iI (1099511627776:Nat) lo n),(40,.int .i64 m),(41,.int .i64 (i64.wrap (m-1))),(42,.elp iI (1099511627776:Nat) (lo+(i64.wrap (m-1)).toNat) (0:Nat)),(43,.int .i64 (gtI l (lo+(i64.wrap (m-1)).toNat))),(44,.bool (decide (gtI l (lo+m.toNat)≠gtI l (lo+(i64.wrap (m-1)).toNat))))],blk:=[(1099511627776,.row 3 iI l)] })) ((0:Int)<=k /\
 k<=(l.length:Int) /\
 (0:Nat)+l.length<=l.length /\
 (0:Nat)+k.toNat+(l.length-k.toNat)<=l.length /\
 (0:Int)<=k /\
 k<=(l.length:Int) /\
 (0:Nat)+l.length<=(setRow l ((0:Nat)+k.toNat) (List.replicate (l.length-k.toNat) iI.dflt)).length /\
 Q [.win false iI 1099511627776 0 (k.toNat-0)] [(1099511627776,.row 3 iI (setRow l ((0:Nat)+k.toNat) (List.replicate (l.length-k.toNat) iI.dflt)))])):=by kernel_rfl
end Go.Proofs.YtplkpodikhfcdaaDoor
namespace Go.Proofs.YtplkpodikhfcdaaDoor
open Go.Px Go.Ax
set_option maxRecDepth 100000
attribute [local irreducible] Go.Px.sy Go.Px.syE
def cpJ (lo:Nat):Nat->Nat->Nat->List Int->Nat × List Int
 | 0,_,k,l=>(k,l)
 | f+1,m,k,l=>if gtI l (lo+m)≠gtI l (lo+(m-1)) then cpJ lo f (m+1) (k+1) (l.set k (gtI l (lo+m))) else cpJ lo f (m+1) k l
def cpZ (r:Nat × List Int):Bool × Nat × List Int:=(false,r.1,setRow r.2 r.1 (List.replicate (r.2.length-r.1) 0))
def cpI:Nat->Nat->List Int->Bool × Nat × List Int
 | 0,_,l=>(true,l.length,l)
 | f+1,k,l=>if gtI l k=gtI l (k-1) then cpZ (cpJ k (l.length-k-1) 1 k l) else cpI f (k+1) l
def cptV (l:List Int):Bool × Nat × List Int:=cpI (l.length-1) 1 l
abbrev QBc (r:Bool × Nat × List Int):List SV->List (Nat × LB)->Prop:=fun rs blk=>rs=[.win r.1 iI 1099511627776 0 r.2.1]/\blk=[(1099511627776,.row 3 iI r.2.2)]
abbrev cpSI (l:List Int) (k:Int):PS:=⟨[(0,.win true iI 1099511627776 0 l.length),(3,.int .i64 k)],[(1099511627776,.row 3 iI l)]⟩
abbrev cpSJ (l:List Int) (lo n:Nat) (k m:Int):PS:=⟨[(0,.win true iI 1099511627776 0 l.length),(3,.int .i64 k),(4,.win false iI 1099511627776 lo n),(5,.int .i64 m)],[(1099511627776,.row 3 iI l)]⟩
theorem q1l {lo n N:Nat} (hN:N<1073741824) (hlo:lo+n=N):∀ (f m k:Nat) (l:List Int),l.length=N->n-m=f->1<=m->k+1<=lo+m->k<=N ->
  GD 73 Tryd.f73 (QBc (cpZ (cpJ lo f m k l))) (hd Tryd.f73 1) (cpSJ l lo n k m):=by
 intro f
 induction f with
 | zero=>
  intro m k l hl hf hm hk hkN;refine qml cx0 (qvw l lo n k m _ _) ?_;rw[decide_eq_false (by omega),bc_f];have w0:∀ a:Nat,(0:Nat)+a=a:=Nat.zero_add;simp only[Int.toNat_natCast,Nat.zero_add,Nat.sub_zero];have hs:(setRow l k (List.replicate (l.length-k) (0:Int))).length=l.length:=by
   unfold setRow;simp only[List.length_append,List.length_take,List.length_replicate,List.length_drop];omega
  have hs':l.length<=(setRow l k (List.replicate (l.length-k) iI.dflt)).length:=Nat.le_of_eq hs.symm;exact ⟨by omega,by omega,by omega,by omega,by omega,by omega,hs',rfl,rfl⟩
 | succ f ih=>
  intro m k l hl hf hm hk hkN;refine qml cx0 (qvw l lo n k m _ _) ?_;rw[decide_eq_true (by omega),bc_t];have w1:IntKind.i64.wrap ((k:Int)+1)=((k+1:Nat):Int):=by rw[IntWalk.i64_in _ (by omega)];omega
  have w2:IntKind.i64.wrap ((m:Int)+1)=((m+1:Nat):Int):=by rw[IntWalk.i64_in _ (by omega)];omega
  have w3:IntKind.i64.wrap ((m:Int)-1)=((m-1:Nat):Int):=by rw[IntWalk.i64_in _ (by omega)];omega
  rw[w1,w2,w3];simp only[Int.toNat_natCast,Nat.zero_add];refine ⟨by omega,by omega,by omega,by omega,by omega,by omega,qav (fun h=>?_) (fun h=>?_)⟩
  ·have h:gtI l (lo+m)≠gtI l (lo+(m-1)):=of_decide_eq_true h;refine ⟨by omega,by omega,by omega,by omega,by omega,by omega,?_⟩;have nx:=ih (m+1) (k+1) (l.set k (gtI l (lo+m))) (by rw[List.length_set];exact hl) (by omega) (by omega) (by omega) (by omega);rw[cpJ,if_pos h];exact nx.only ⟨qvg List.length_set.symm,rfl,rfl,rfl,trivial⟩ ⟨rfl,trivial⟩
  ·have h:¬ gtI l (lo+m)≠gtI l (lo+(m-1)):=of_decide_eq_false h;rw[cpJ,if_neg h];exact (ih (m+1) k l hl (by omega) (by omega) (by omega) hkN).only ⟨rfl,rfl,rfl,rfl,trivial⟩ ⟨rfl,trivial⟩
theorem q1m {N:Nat} (hN:N<1073741824):∀ (f k:Nat) (l:List Int),l.length=N->N-k=f->1<=k->k<=N ->
  GD 73 Tryd.f73 (QBc (cpI f k l)) (hd Tryd.f73 0) (cpSI l k):=by
 intro f
 induction f with
 | zero=>
  intro k l hl hf h1 hk;refine qml cx0 (qvx l k _ _) ?_;rw[decide_eq_false (by omega),bc_f];exact ⟨rfl,rfl⟩
 | succ f ih=>
  intro k l hl hf h1 hk;refine qml cx0 (qvx l k _ _) ?_;rw[decide_eq_true (by omega),bc_t];have w1:IntKind.i64.wrap ((k:Int)+1)=((k+1:Nat):Int):=by rw[IntWalk.i64_in _ (by omega)];omega
  have w3:IntKind.i64.wrap ((k:Int)-1)=((k-1:Nat):Int):=by rw[IntWalk.i64_in _ (by omega)];omega
  rw[w1,w3];simp only[Int.toNat_natCast,Nat.zero_add];refine ⟨by omega,by omega,by omega,by omega,by omega,by omega,qav (fun h=>?_) (fun h=>?_)⟩
  ·have h:gtI l k=gtI l (k-1):=of_decide_eq_true h;refine ⟨by omega,by omega,by omega,?_⟩;rw[cpI,if_pos h];exact (q1l hN (lo:=k) (n:=l.length-k) (by omega) (l.length-k-1) 1 k l hl rfl (Nat.le_refl _) (Nat.le_refl _) hk).only ⟨rfl,rfl,rfl,rfl,trivial⟩ ⟨rfl,trivial⟩
  ·have h:¬ gtI l k=gtI l (k-1):=of_decide_eq_false h;rw[cpI,if_neg h];exact (ih (k+1) l hl (by omega) (by omega) (by omega)).only ⟨rfl,rfl,trivial⟩ ⟨rfl,trivial⟩
def q2r (l:List Int):Prop:=l.length<1073741824
def ctCpt:CtrI:=⟨[rI],fun x=>q2r x.1,fun x=>[.win (cptV x.1).1 iI 1099511627776 0 (cptV x.1).2.1],fun x=>bkKL 0 [rI] ((cptV x.1).2.2,())⟩
theorem q6f (l:List Int) (hl:q2r l):sy tt G0 [] Tryd.f73.ntmps Tryd.f73.results.toList (QI ctCpt (l,())) (Px.Good Tryd.prog tt G0 73 Tryd.f73.ntmps Tryd.f73.results.toList (QI ctCpt (l,()))) 1000 [.code (qah Tryd.f73)] (qct [rI] (l,())):=by
 rw[q7c];have fin:∀ r,cptV l=r->QI ctCpt (l,()) [.win r.1 iI 1099511627776 0 r.2.1] [(1099511627776,.row 3 iI r.2.2)]:=by
  rintro r rfl;refine QI.self rfl rfl rfl ?_;intro b hb;simp only[ctCpt,bkKL,bkK,cnt,cntL,List.append_nil,List.nil_append,List.mem_append,List.mem_cons,List.mem_singleton,List.not_mem_nil,or_false] at hb;rcases hb with rfl
  rfl
 refine qav (fun h=>?_) (fun h=>?_)
 ·have h:(l.length:Int)<2:=of_decide_eq_true h;refine fin (true,l.length,l) ?_;unfold cptV;rw[show l.length-1=0 by omega];rfl
 ·have h:¬ (l.length:Int)<2:=of_decide_eq_false h;refine ((q1m hl (l.length-1) 1 l rfl rfl (Nat.le_refl _) (by omega)).post fun rs blk hq=>?_).only ⟨rfl,rfl,trivial⟩ ⟨rfl,trivial⟩;obtain ⟨rfl,rfl⟩:=hq;exact fin _ rfl
theorem q1k:HeldI Tryd.prog G0 73 ctCpt:=HeldI.run cx0 (fn:=Tryd.f73) rfl rfl ⟨by decide,by decide⟩ fun x hp=>q6f x.1 hp
end Go.Proofs.YtplkpodikhfcdaaDoor
namespace Go.Proofs.YtplkpodikhfcdaaDoor
open Go.Px Go.Ax
set_option maxRecDepth 100000
def CTg:CV:=[(73,.inr ctCpt),(72,.inr ctSrt),(57,.inr ctLkd)]
theorem cxTg:CxOK Tryd.prog tt G0 CTg:=((cx0.consI qtg (fn:=Tryd.f57) rfl rfl rfl).consI qzo (fn:=Tryd.f72) rfl rfl rfl).consI q1k (fn:=Tryd.f73) rfl rfl rfl
abbrev KT:List AK:=[.ptr [rI]]
set_option maxRecDepth 100000
theorem q6s (l:List Int) (Q:QT) (R:RT):sy tt G0 CTg Tryd.f56.ntmps Tryd.f56.results.toList Q R 1000 [.code (qah Tryd.f56)] (entry [.sl u4] (l,())) =
  (ctLkd.pre (l,()) /\
 R (hd Tryd.f56 0) { env:=[(0,.sl u4 l),(2,.nils),(3,.ptr 3 0),(6,.sl u4 l),(7,.fn (74:Nat) [] [.ptr 1028672 0])],blk:=[(3,.var [.nils]),(1028672,.var [.sl u4 l])] }):=by kernel_rfl
theorem q3m (o:List Int) (i:Int) (r:InT) (j:Nat) (q:Bool) (Q:AExit->Nat × Bool->PS->Prop) (R:List Item->Nat × Bool->PS->Prop):syE tt G0 CTg Tryd.f56.ntmps Y0 Q R .ready 1000 (rnd Tryd.f56 0) (j,q) (qmb [3] [8,9] KT ySh ((o,()),()) (i,r,())) =
  ((0:Nat)+1<=((List.replicate (1:Nat) iI.dflt).set (0:Nat) r.2.2.2.2).length /\
 o.length=o.length /\
 (0:Nat)=(0:Nat) /\
 o.length+(([r.2.2.2.2]:List Int)).length<2 ^ 30 /\
 (8:Nat)<=2 ^ 10 /\
 Q AExit.normal (j,q) { env:=[(5,.ptr 5 0),(8,.int .i64 i),(9,.agg [.int .i64 r.1,.int .i64 r.2.1,.int .i64 r.2.2.1,.int .i64 r.2.2.2.1,.int .i64 r.2.2.2.2]),(3,.ptr 1099511627776 0),(10,.dead),(11,.ptr 5 4),(12,.int .i64 r.2.2.2.2),(13,.win true iI 13 0 (1:Nat)),(14,.win true iI 14 0 (o.length+(([r.2.2.2.2]:List Int)).length))],blk:=[(5,.var [.int .i64 r.1,.int .i64 r.2.1,.int .i64 r.2.2.1,.int .i64 r.2.2.2.1,.int .i64 r.2.2.2.2]),(13,.row 3 iI ((List.replicate (1:Nat) iI.dflt).set (0:Nat) r.2.2.2.2)),(14,.row 3 iI (o++([r.2.2.2.2]:List Int))),(1099511627776,.var [.win true iI 14 0 (o.length+(([r.2.2.2.2]:List Int)).length)])] }):=by kernel_rfl
theorem q3n (o:List Int) (j:Nat) (q:Bool) (Q:AExit->Nat × Bool->PS->Prop) (R:List Item->Nat × Bool->PS->Prop):syE tt G0 CTg Tryd.f56.ntmps Y0 Q R .fn 1000 (rfK Tryd.f56 0) (j,q) (⟨[(3,.ptr 3 0)],[(3,.var [.win true iI 1077824 0 o.length]),(1077824,.row 3 iI o)]⟩) =
  (o.length=o.length /\
 ctSrt.pre (o,()) /\
 o.length=(qec o).length /\
 ctCpt.pre (qec o,()) /\
 Q AExit.ret (j,q) { env:=[(2,.win (cptV (qec o)).1 iI (1077824:Nat) (0:Nat) (cptV (qec o)).2.1),(3,.ptr 3 0),(15,.win true iI 1077824 0 o.length),(16,SV.tup []),(17,.win true iI 1077824 0 o.length),(18,.win (cptV (qec o)).1 iI (1077824:Nat) (0:Nat) (cptV (qec o)).2.1)],blk:=[(3,.var [.win true iI 1077824 0 o.length]),(1077824,.row 3 iI (cptV (qec o)).2.2)] }):=by kernel_rfl
end Go.Proofs.YtplkpodikhfcdaaDoor
namespace Go.Proofs.YtplkpodikhfcdaaDoor
open Go.Px Go.Ax
set_option maxRecDepth 100000
attribute [local irreducible] Go.Px.sy Go.Px.syE
theorem hdT:hd Tryd.f56 0=.code (.rangeFunc (.tmp 7) #[8,9] (rfA Tryd.f56 0) (rfB Tryd.f56 0))::rfK Tryd.f56 0:=by kernel_rfl
theorem rndT:rnd Tryd.f56 0=[.code (rfA Tryd.f56 0),.beginRound,.code (rfB Tryd.f56 0)]:=by kernel_rfl
def tgO (rs:List (Nat × InT)):List Int:=rs.map fun r=>r.2.2.2.2.2
def tgV (l:List Int):Bool × Nat × List Int:=cptV (qec (tgO (lnk l)))
def qrh (l:List Int):Prop:=wdL l/\(lnk l).length<=12
def ctTg:Ctr:=⟨[.sl u4],fun x=>qrh x.1,fun x=>[.win false iI 0 0 (tgV x.1).2.1],fun x=>[.row 3 iI (tgV x.1).2.2]⟩
theorem qo6 {QL:AExit->Nat × Bool->DI KT->Prop} {g:Nat × Bool}:∀ (rs:List (Nat × InT)) (o:List Int),o.length+rs.length<2 ^ 30->QL .normal g ((o++tgO rs,()),()) ->
  qvc Tryd.prog G0 56 Tryd.f56.ntmps Y0 [3] [8,9] KT ySh (rfA Tryd.f56 0) (rfB Tryd.f56 0) QL (yL rs) g ((o,()),())
 | [],o,_,h=>by
  rw[tgO,List.map_nil,List.append_nil] at h;exact h
 | r::rs,o,hl,h=>by
  rw[List.length_cons] at hl
  show GoodE Tryd.prog G0 56 Tryd.f56.ntmps .ready Y0 _ [.code (rfA Tryd.f56 0),.beginRound,.code (rfB Tryd.f56 0)] g (qmb [3] [8,9] KT ySh ((o,()),()) ((r.1:Int),(r.2,())))
  rw[<- rndT];refine qo8 cxTg (q3m o r.1 r.2 g.1 g.2 _ _) ⟨Nat.le_refl _,rfl,rfl,?_,by decide,?_⟩
  ·show o.length+1<2 ^ 30
   omega
  ·have k:=qo6 rs (o++[r.2.2.2.2.2]) (by rw[List.length_append,List.length_singleton];omega) (by rw[List.append_assoc];exact h);refine ⟨[(BIG+1,14)],((o++[r.2.2.2.2.2],()),()),⟨?_,rfl,rfl⟩,k⟩;have e:SV.win true iI 14 0 (o++[r.2.2.2.2.2]).length=SV.win true iI 14 0 (o.length+1):=by rw[List.length_append,List.length_singleton]
   refine ⟨?_,rfl,trivial⟩
   show some (LB.var [SV.win true iI 14 0 (o.length+1)])=some (LB.var [SV.win true iI 14 0 (o++[r.2.2.2.2.2]).length])
   rw[e]
theorem q4n {ct:Ctr} {x:DL ct.args} {rs:List SV} {blk:List (Nat × LB)} {e:Sh} {et:TypeId} {a k:Nat} {b:Bool} {xs:List e.D} (h:ct.out x=[.win false e 0 0 k]) (hr:ct.rows x=[.row et e xs]) (hs:rs=[.win b e a 0 k]) (hb:lk blk a=some (.row et e xs)):QC ct x rs blk:=by
 subst hs;refine ⟨fun i=>if i=0 then some a else none,?_,?_,fun i j b h1 h2=>?_,by rw[hr];rfl⟩
 ·rw[h];exact ⟨_,_,rfl,.inl ⟨b,a,rfl,rfl,fun h=>by cases h⟩,rfl⟩
 ·rw[hr];exact ⟨.inl ⟨a,rfl,hb⟩,trivial⟩
 ·simp only at h1 h2;split at h1
  ·split at h2
   ·omega
   ·cases h2
  ·cases h1
theorem q7i {l o:List Int} {g:Nat × Bool} (ho:o=tgO (lnk l)) (hl:o.length<=12) :
  GoodE Tryd.prog G0 56 Tryd.f56.ntmps .fn Y0 (endK tt G0 Tryd.f56.results.toList (QC ctTg (l,()))) (rfK Tryd.f56 0) g ⟨[(3,.ptr 3 0)],[(3,.var [.win true iI 1077824 0 o.length]),(1077824,.row 3 iI o)]⟩:=by
 refine qo8 cxTg (q3n o g.1 g.2 _ _) ⟨rfl,hl,(qhy o).symm,(show (qec o).length<1073741824 by rw[qhy];omega),?_⟩;subst ho;exact q4n rfl rfl rfl rfl
def bkFT (x:DI KT):List (Nat × LB):=[(BIG,.var [.win true iI 0 0 x.1.1.length]),(0,.row 3 iI x.1.1)]
theorem q7h (l:List Int) (hp:qrh l):sy tt G0 CTg Tryd.f56.ntmps Tryd.f56.results.toList (QC ctTg (l,())) (Px.Good Tryd.prog tt G0 56 Tryd.f56.ntmps Tryd.f56.results.toList (QC ctTg (l,()))) 1000 [.code (qah Tryd.f56)] (entry [.sl u4] (l,())):=by
 obtain ⟨hp1,hp2⟩:=hp;rw[q6s];refine ⟨trivial,?_⟩
 show GoodE Tryd.prog G0 56 Tryd.f56.ntmps .fn Y0 (endK tt G0 Tryd.f56.results.toList (QC ctTg (l,()))) (hd Tryd.f56 0) (0,false) _
 rw[hdT];refine GoodE.rangeF (gf:=74) (ct:=ctIt) (Ko:=KT) (xi:=((l,()),())) (x0:=(([],()),())) (ns1:=[some 1028672]) (ns2:=[some 3,none]) (tl:=[(3,.ptr 3 0)]) (bkF:=bkFT) (rF:=[(0,BIG+1)]) (d:=19) (m:=1)
  (by simp) ?_ qxz rfl rfl rfl ?_ hp1 ⟨rfl,trivial⟩ rfl ?_ (by decide) ⟨by decide,by decide,rfl⟩ rfl ?_ (by decide) ?_
 ·exact fun args w=>qc7 (fn:=Tryd.f74) rfl rfl rfl args w
 ·exact fun c hc=>by cases hc
 ·exact fun c hc=>by cases hc
 ·exact fun x hx=>⟨⟨rfl,rfl,trivial⟩,by simp[bkFT,rho,lk,BIG],fun p hp hb=>(by
   simp only[bkFT,List.mem_cons,List.not_mem_nil,or_false] at hp;rcases hp with rfl | rfl
   ·exact ⟨rfl,rfl⟩
   ·exact absurd hb (show ¬ BIG<=0 by decide)),by kernel_rfl⟩
 ·refine qo6 _ [] ?_ ?_
  ·show 0+(lnk l).length<2 ^ 30
   omega
  ·exact (q7i (o:=tgO (lnk l)) rfl (by rw[tgO,List.length_map];exact hp2)).only ⟨by kernel_rfl,trivial⟩ ⟨by kernel_rfl,by kernel_rfl,trivial⟩
theorem q38:Held Tryd.prog G0 56 ctTg:=Held.run cxTg (fn:=Tryd.f56) rfl rfl ⟨by decide,by decide⟩ fun x hp=>q7h x.1 hp
end Go.Proofs.YtplkpodikhfcdaaDoor
namespace Go.Proofs.YtplkpodikhfcdaaDoor
open Go.Px Go.Ax
open Go.IntKind(i64 u32 u8)
set_option maxRecDepth 100000
def CLw:CV:=[(55,.inl ct_clone),(56,.inl ctTg),(59,.inl ctIof),(58,.inl ctDb),(57,.inr ctLkd)]
theorem cxLw:CxOK Tryd.prog tt G0 CLw:=((((cx0.consI qtg (fn:=Tryd.f57) rfl rfl rfl).cons qr9 (fn:=Tryd.f58) rfl rfl rfl).cons q00 (fn:=Tryd.f59) rfl rfl rfl).cons q38 (fn:=Tryd.f56) rfl rfl rfl).cons qnn (fn:=Tryd.f55) rfl rfl rfl
abbrev KLw:List AK:=[.ptr [.dat (.sl u4)],.ptr [.row 53 u4,.row 4 .bool,.win 3 iI]]
set_option maxRecDepth 100000
theorem q63 (l:List Int) (Q:QT) (R:RT):sy tt G0 CLw Tryd.f31.ntmps Tryd.f31.results.toList Q R 1000 [.code (qah Tryd.f31)] (entry [.sl u4] (l,())) =
  (ct_clone.pre (l,()) /\
 (0:Int)<=(l.length:Int) /\
 (l.length:Int)<=(l.length:Int) /\
 (l.length:Int)<2 ^ 24 /\
 (↑(1:Nat):Int)*(l.length:Int)<=2 ^ 48 /\
 ctTg.pre (l,()) /\
 ctLkd.pre (l,()) /\
 R (hd Tryd.f31 0) { env:=[(0,.sl u4 l),(1,.ptr 1 0),(2,.ptr 2 0),(3,.ptr 3 0),(6,.sl u4 l),(7,.win true u4 1028672 0 l.length),(8,.sl u4 l),(9,.int .i64 (l.length:Int)),(10,.win true Sh.bool (10:Nat) (0:Nat) (l.length:Int).toNat),(11,.sl u4 l),(12,.win false iI 1049152 0 (tgV l).2.1),(13,.agg [.win true u4 1028672 0 l.length,.win true Sh.bool (10:Nat) (0:Nat) (l.length:Int).toNat,.win false iI 1049152 0 (tgV l).2.1]),(14,.sl u4 l),(15,.fn (74:Nat) [] [.ptr 1061440 0])],blk:=[(1,.var [.sl u4 l]),(2,.var [.nils,.nils,.nils]),(3,.var [.win true u4 1028672 0 l.length,.win true Sh.bool (10:Nat) (0:Nat) (l.length:Int).toNat,.win false iI 1049152 0 (tgV l).2.1]),(10,.row 4 Sh.bool (List.replicate (l.length:Int).toNat Sh.bool.dflt)),(1028672,.row 53 u4 l),(1049152,.row 3 iI (tgV l).2.2),(1061440,.var [.sl u4 l])] }):=by kernel_rfl
theorem q31 (l w:List Int) (m:List Bool) (k:Nat) (t:List Int) (i:Int) (r:InT) (j:Nat) (q:Bool) (Q:AExit->Nat × Bool->PS->Prop) (R:List Item->Nat × Bool->PS->Prop):syE tt G0 CLw Tryd.f31.ntmps Y0 Q R .ready 1000 (rnd Tryd.f31 0) (j,q) (qmb [1,3] [16,17] KLw ySh ((l,()),((w,m,(0,k,t),()),())) (i,r,())) =
  ((0:Int)<=i /\
 i<(l.length:Int) /\
 ctDb.pre (r.1,()) /\
 (0:Nat)+k<=t.length /\
 ctIof.pre (winL iI 0 k t,r.2.2.2.2,()) /\
 (0:Int)<=i /\
 i<(w.length:Int) /\
 (0:Nat)+i.toNat<w.length /\
 (0:Int)<=i /\
 i<(m.length:Int) /\
 (0:Nat)+i.toNat<m.length /\
 Q AExit.normal (j,q) { env:=[(4,.int .i64 i),(5,.ptr 5 0),(16,.int .i64 i),(17,.agg [.int .i64 r.1,.int .i64 r.2.1,.int .i64 r.2.2.1,.int .i64 r.2.2.2.1,.int .i64 r.2.2.2.2]),(1,.ptr 1099511627776 0),(3,.ptr 1099511627777 0),(18,.ptr 1099511627777 0),(19,.win true u4 1099511627778 0 w.length),(20,.int .i64 i),(21,.sl u4 l),(22,.int .i64 i),(23,.elv u4 (gtW l i.toNat)),(24,.int .u32 (gtW l i.toNat)),(25,.ptr 5 0),(26,.int .i64 r.1),(27,.int .u32 (dbV r.1)),(28,.int .u32 (bitI BinOp.andNot u32 (gtW l i.toNat) (dbV r.1))),(29,.ptr 1099511627777 2),(30,.win false iI 1099511627780 0 k),(31,.ptr 5 4),(32,.int .i64 r.2.2.2.2),(33,.int .i64 (↑(iofV (winL iI 0 k t) r.2.2.2.2):Int)),(34,.int .u32 (u32.wrap (↑(iofV (winL iI 0 k t) r.2.2.2.2):Int))),(35,.int .u32 (bitI BinOp.or u32 (bitI BinOp.andNot u32 (gtW l i.toNat) (dbV r.1)) (u32.wrap (↑(iofV (winL iI 0 k t) r.2.2.2.2):Int)))),(36,.elp u4 (1099511627778:Nat) ((0:Nat)+i.toNat) (0:Nat)),(37,.ptr 1099511627777 1),(38,.win true Sh.bool (1099511627779:Nat) (0:Nat) m.length),(39,.int .i64 i),(40,.elp Sh.bool (1099511627779:Nat) ((0:Nat)+i.toNat) (0:Nat))],blk:=[(5,.var [.int .i64 r.1,.int .i64 r.2.1,.int .i64 r.2.2.1,.int .i64 r.2.2.2.1,.int .i64 r.2.2.2.2]),(1099511627776,.var [.sl u4 l]),(1099511627777,.var [.win true u4 1099511627778 0 w.length,.win true Sh.bool (1099511627779:Nat) (0:Nat) m.length,.win false iI 1099511627780 0 k]),(1099511627778,.row 53 u4 (w.set ((0:Nat)+i.toNat) (bitI BinOp.or u32 (bitI BinOp.andNot u32 (gtW l i.toNat) (dbV r.1)) (u32.wrap (↑(iofV (winL iI 0 k t) r.2.2.2.2):Int))))),(1099511627779,.row 4 Sh.bool (m.set ((0:Nat)+i.toNat) true)),(1099511627780,.row 3 iI t)] }):=by kernel_rfl
theorem q32 (w:List Int) (m:List Bool) (k:Nat) (t:List Int) (j:Nat) (q:Bool) (Q:AExit->Nat × Bool->PS->Prop) (R:List Item->Nat × Bool->PS->Prop):syE tt G0 CLw Tryd.f31.ntmps Y0 Q R .fn 1000 (rfK Tryd.f31 0) (j,q) (⟨[(2,.ptr 2 0),(3,.ptr 3 0)],[(2,.var [.nils,.nils,.nils]),(3,.var [.win true u4 1172032 0 w.length,.win true .bool 1172033 0 m.length,.win false iI 1172034 0 k]),(1172032,.row 53 u4 w),(1172033,.row 4 .bool m),(1172034,.row 3 iI t)]⟩) =
  (Q AExit.ret (j,q) { env:=[(2,.ptr 2 0),(3,.ptr 3 0),(41,.agg [.win true u4 1172032 0 w.length,.win true Sh.bool (1172033:Nat) (0:Nat) m.length,.win false iI 1172034 0 k])],blk:=[(2,.var [.win true u4 1172032 0 w.length,.win true Sh.bool (1172033:Nat) (0:Nat) m.length,.win false iI 1172034 0 k]),(3,.var [.win true u4 1172032 0 w.length,.win true Sh.bool (1172033:Nat) (0:Nat) m.length,.win false iI 1172034 0 k]),(1172032,.row 53 u4 w),(1172033,.row 4 Sh.bool m),(1172034,.row 3 iI t)] }):=by kernel_rfl
end Go.Proofs.YtplkpodikhfcdaaDoor
