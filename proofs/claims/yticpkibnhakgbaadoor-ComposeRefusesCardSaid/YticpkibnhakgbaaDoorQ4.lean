/-
  A part of the proof: what pieces of the program give; conditions: those of each theorem.
-/
import Derived.Test.YticpkibnhakgbaaDoorQ3
set_option linter.unusedVariables false
set_option linter.unusedSimpArgs false
namespace Go.Proofs.YticpkibnhakgbaaDoor
open Go.Px Go.Ax
set_option maxRecDepth 100000
attribute [local irreducible] Go.Px.sy Go.Px.syE
def ctL8c:Ctr:=⟨[.arr 2 raS,w3B,.int .i8],fun x=>preM6 (gtR x.1 0).1 (gtR x.1 0).2∧preM6 (gtR x.1 1).1 (gtR x.1 1).2∧List.length x.2.1=3∧(-128≤x.2.2.1∧(show Int from x.2.2.1)<128),fun _=>[.bool true],fun _=>[]⟩
theorem l8_true {x:List RaT} {m:List Bool} {k:Int} {bl:List (Nat × LB)}:QC ctL8c (x,m,k,()) [.bool true] bl:=QC.flat rfl rfl rfl
theorem t8 {A:List SyT} (hA:A.length=9) {k:Int} (hk : -128≤k∧k<128):(thV A [(false,0,1),(true,IntKind.i64.wrap k,0)]).2=if 0≤k∧k<9 then 0 else 61:=by
 rw[IntWalk.i64_in k (by omega)]
 unfold thV
 rw[hA]
 by_cases h:0≤k∧k<9
 ·rw[if_pos h,if_pos (by simp[thOK];omega)]
 ·rw[if_neg h,if_neg (by simp[thOK];omega)]
theorem l8_000 (x:List RaT) (k:Int) (hx0:preM6 (gtR x 0).1 (gtR x 0).2) (hx1:preM6 (gtR x 1).1 (gtR x 1).2) (hk : -128≤k∧k<128) (R:List Item→PS→Prop):sy tt G0 CL8 Tryd.f8.ntmps Tryd.f8.results.toList (QC ctL8c (x,[false,false,false],k,())) R 1000 [.code (bodyOf Tryd.f8)] (entry [.arr 2 raS,w3B,.int .i8] (x,[false,false,false],k,())):=by
 have hm:0≤(gtR x 0).1 % 13∧(gtR x 0).1 % 13≤12:=by omega
 have so:=szV_out (m:=(gtR x 0).1 % 13) hx0.2.1 hm.1
 obtain ⟨s1,s2,s3,s4⟩:=szV_ok (m:=(gtR x 0).1 % 13) hx0.2.1 hm.1 (by omega)
 have ww:IntKind.i64.wrap ((szV (gtR x 0).2 ((gtR x 0).1 % 13)).2.2.1+1)=(szV (gtR x 0).2 ((gtR x 0).1 % 13)).2.2.1+1:=IntWalk.i64_in _ (by omega)
 have hs0:preSz (gtR x 1).2 (szV (gtR x 0).2 ((gtR x 0).1 % 13)).2.2.1:=⟨hx1.2.1,⟨so.1,by omega⟩,hx1.2.2⟩
 have hs1:preSz (gtR x 1).2 (IntKind.i64.wrap ((szV (gtR x 0).2 ((gtR x 0).1 % 13)).2.2.1+1)):=by rw[ww];exact ⟨hx1.2.1,⟨by omega,by omega⟩,hx1.2.2⟩
 have hls:lenS (szV (gtR x 0).2 ((gtR x 0).1 % 13)).2.2.2=(szV (gtR x 0).2 ((gtR x 0).1 % 13)).2.2.1:=rfl
 obtain ⟨t1,t2,t3,t4⟩:=szV_ok (l:=(gtR x 1).2) (m:=(szV (gtR x 0).2 ((gtR x 0).1 % 13)).2.2.1) hx1.2.1 (by omega) (by omega)
 have ha:(coV (szV (gtR x 0).2 ((gtR x 0).1 % 13)) (szV (gtR x 1).2 ((szV (gtR x 0).2 ((gtR x 0).1 % 13)).2.2.1))).2=0:=by
  rw[co_w (p:=(szV (gtR x 0).2 ((gtR x 0).1 % 13))) (q:=(szV (gtR x 1).2 ((szV (gtR x 0).2 ((gtR x 0).1 % 13)).2.2.1))) s1 t1 (Int.le_trans t2 (by decide))];unfold wtV;rw[if_neg (by show ¬ (false≠false);simp),if_neg (by show ¬ ((szV (gtR x 0).2 ((gtR x 0).1 % 13)).2.2.1≠(szV (gtR x 0).2 ((gtR x 0).1 % 13)).2.2.1);simp)]
 have hb:(allV [(szV (gtR x 0).2 ((gtR x 0).1 % 13)),(szV (gtR x 1).2 ((szV (gtR x 0).2 ((gtR x 0).1 % 13)).2.2.1))]).2=0:=by
  rw[al_w (p:=(szV (gtR x 0).2 ((gtR x 0).1 % 13))) (q:=(szV (gtR x 1).2 ((szV (gtR x 0).2 ((gtR x 0).1 % 13)).2.2.1))) s1 t1 (Int.le_trans s2 (by decide)) (Int.le_trans t2 (by decide))];unfold wtV;rw[if_neg (by show ¬ (false≠false);simp),if_neg (by show ¬ ((szV (gtR x 0).2 ((gtR x 0).1 % 13)).2.2.1≠(szV (gtR x 0).2 ((gtR x 0).1 % 13)).2.2.1);simp)]
 have ht:=t8 (A:=List.replicate 9 syS.dflt) rfl hk
 refine (vc_l8_000 x k _ _).mpr ⟨trivial,by decide,by decide,by decide,hx0,by decide,by decide,by decide,hs0,by decide,by decide,by decide,by decide,by decide,by decide,by decide,by decide,by decide,trivial,Nat.le_refl _,(show (2:Nat)<1099511627776 by decide),by decide,by decide,by decide,by decide,Nat.le_refl _,Nat.le_refl _,(show (2:Nat)<16777216 by decide),?_⟩
 refine bc_of (fun _=>?_) (fun h=>absurd ha (of_decide_eq_false h))
 refine bc_of (fun _=>?_) (fun h=>absurd hb (of_decide_eq_false h))
 refine bc_of (fun h=>?_) (fun h=>⟨rfl,?_⟩)
 ·have h:0≤k:=of_decide_eq_true h
  refine bc_of (fun _=>bc_of (fun _=>⟨rfl,l8_true⟩) (fun h0=>bc_of (fun _=>l8_true) (fun h1=>?_))) (fun h2=>?_)
  ·have h0:=of_decide_eq_false h0
   have h1:=of_decide_eq_false h1
   by_cases h9:0≤k∧k<9
   ·rw[if_pos h9] at ht;exact absurd ht h0
   ·rw[if_neg h9] at ht;exact absurd ht h1
  ·refine absurd (Eq.trans (Eq.symm ?_) h2) (by decide:¬ true=false)
   show (decide ((thV (List.replicate 9 syS.dflt) [(false,0,1),(true,IntKind.i64.wrap k,0)]).2=(0:Int)) == decide (k<9))=true
   by_cases h9:k<9
   ·rw[if_pos ⟨h,h9⟩] at ht
    rw[decide_eq_true h9,decide_eq_true ht];rfl
   ·rw[if_neg (fun e=>h9 e.2)] at ht
    rw[decide_eq_false h9,decide_eq_false (fun e=>absurd (e.symm.trans ht) (by decide:¬ (0:Int)=61))];rfl
 ·have h:¬ 0≤k:=of_decide_eq_false h
  rw[if_neg (fun e=>h e.1)] at ht
  refine bc_of (fun _=>bc_of (fun h0=>?_) (fun h0=>bc_of (fun _=>l8_true) (fun h1=>?_))) (fun h2=>?_)
  ·exact absurd ((of_decide_eq_true h0).symm.trans ht) (by decide:¬ (0:Int)=61)
  ·exact absurd ht (of_decide_eq_false h1)
  ·refine absurd (Eq.trans (Eq.symm ?_) h2) (by decide:¬ true=false)
   show (decide ((thV (List.replicate 9 syS.dflt) [(false,0,1),(true,IntKind.i64.wrap k,0)]).2=(0:Int)) == false)=true
   rw[decide_eq_false (fun e=>absurd (e.symm.trans ht) (by decide:¬ (0:Int)=61))];rfl
theorem l8_001 (x:List RaT) (k:Int) (hx0:preM6 (gtR x 0).1 (gtR x 0).2) (hx1:preM6 (gtR x 1).1 (gtR x 1).2) (hk : -128≤k∧k<128) (R:List Item→PS→Prop):sy tt G0 CL8 Tryd.f8.ntmps Tryd.f8.results.toList (QC ctL8c (x,[false,false,true],k,())) R 1000 [.code (bodyOf Tryd.f8)] (entry [.arr 2 raS,w3B,.int .i8] (x,[false,false,true],k,())):=by
 have hm:0≤(gtR x 0).1 % 13∧(gtR x 0).1 % 13≤12:=by omega
 have so:=szV_out (m:=(gtR x 0).1 % 13) hx0.2.1 hm.1
 obtain ⟨s1,s2,s3,s4⟩:=szV_ok (m:=(gtR x 0).1 % 13) hx0.2.1 hm.1 (by omega)
 have ww:IntKind.i64.wrap ((szV (gtR x 0).2 ((gtR x 0).1 % 13)).2.2.1+1)=(szV (gtR x 0).2 ((gtR x 0).1 % 13)).2.2.1+1:=IntWalk.i64_in _ (by omega)
 have hs0:preSz (gtR x 1).2 (szV (gtR x 0).2 ((gtR x 0).1 % 13)).2.2.1:=⟨hx1.2.1,⟨so.1,by omega⟩,hx1.2.2⟩
 have hs1:preSz (gtR x 1).2 (IntKind.i64.wrap ((szV (gtR x 0).2 ((gtR x 0).1 % 13)).2.2.1+1)):=by rw[ww];exact ⟨hx1.2.1,⟨by omega,by omega⟩,hx1.2.2⟩
 have hls:lenS (szV (gtR x 0).2 ((gtR x 0).1 % 13)).2.2.2=(szV (gtR x 0).2 ((gtR x 0).1 % 13)).2.2.1:=rfl
 obtain ⟨t1,t2,t3,t4⟩:=szV_ok (l:=(gtR x 1).2) (m:=(szV (gtR x 0).2 ((gtR x 0).1 % 13)).2.2.1+1) hx1.2.1 (by omega) (by omega)
 have ha:(coV (szV (gtR x 0).2 ((gtR x 0).1 % 13)) (szV (gtR x 1).2 (IntKind.i64.wrap ((szV (gtR x 0).2 ((gtR x 0).1 % 13)).2.2.1+1)))).2=61:=by
  rw[ww];rw[co_w (p:=(szV (gtR x 0).2 ((gtR x 0).1 % 13))) (q:=(szV (gtR x 1).2 ((szV (gtR x 0).2 ((gtR x 0).1 % 13)).2.2.1+1))) s1 t1 (Int.le_trans t2 (by decide))];unfold wtV;rw[if_neg (by show ¬ (false≠false);simp),if_pos (by show (szV (gtR x 0).2 ((gtR x 0).1 % 13)).2.2.1≠(szV (gtR x 0).2 ((gtR x 0).1 % 13)).2.2.1+1;omega)]
 have hb:(allV [(szV (gtR x 0).2 ((gtR x 0).1 % 13)),(szV (gtR x 1).2 (IntKind.i64.wrap ((szV (gtR x 0).2 ((gtR x 0).1 % 13)).2.2.1+1)))]).2=61:=by
  rw[ww];rw[al_w (p:=(szV (gtR x 0).2 ((gtR x 0).1 % 13))) (q:=(szV (gtR x 1).2 ((szV (gtR x 0).2 ((gtR x 0).1 % 13)).2.2.1+1))) s1 t1 (Int.le_trans s2 (by decide)) (Int.le_trans t2 (by decide))];unfold wtV;rw[if_neg (by show ¬ (false≠false);simp),if_pos (by show (szV (gtR x 0).2 ((gtR x 0).1 % 13)).2.2.1≠(szV (gtR x 0).2 ((gtR x 0).1 % 13)).2.2.1+1;omega)]
 have ht:=t8 (A:=List.replicate 9 syS.dflt) rfl hk
 refine (vc_l8_001 x k _ _).mpr ⟨trivial,by decide,by decide,by decide,hx0,by decide,by decide,by decide,hs0,by decide,by decide,by decide,by decide,by decide,by decide,hs1,by decide,by decide,by decide,by decide,by decide,by decide,trivial,Nat.le_refl _,(show (2:Nat)<1099511627776 by decide),by decide,by decide,by decide,by decide,Nat.le_refl _,Nat.le_refl _,(show (2:Nat)<16777216 by decide),?_⟩
 refine bc_of (fun _=>?_) (fun h=>absurd ha (of_decide_eq_false h))
 refine bc_of (fun _=>?_) (fun h=>absurd hb (of_decide_eq_false h))
 refine bc_of (fun h=>?_) (fun h=>⟨rfl,?_⟩)
 ·have h:0≤k:=of_decide_eq_true h
  refine bc_of (fun _=>bc_of (fun _=>⟨rfl,l8_true⟩) (fun h0=>bc_of (fun _=>l8_true) (fun h1=>?_))) (fun h2=>?_)
  ·have h0:=of_decide_eq_false h0
   have h1:=of_decide_eq_false h1
   by_cases h9:0≤k∧k<9
   ·rw[if_pos h9] at ht;exact absurd ht h0
   ·rw[if_neg h9] at ht;exact absurd ht h1
  ·refine absurd (Eq.trans (Eq.symm ?_) h2) (by decide:¬ true=false)
   show (decide ((thV (List.replicate 9 syS.dflt) [(false,0,1),(true,IntKind.i64.wrap k,0)]).2=(0:Int)) == decide (k<9))=true
   by_cases h9:k<9
   ·rw[if_pos ⟨h,h9⟩] at ht
    rw[decide_eq_true h9,decide_eq_true ht];rfl
   ·rw[if_neg (fun e=>h9 e.2)] at ht
    rw[decide_eq_false h9,decide_eq_false (fun e=>absurd (e.symm.trans ht) (by decide:¬ (0:Int)=61))];rfl
 ·have h:¬ 0≤k:=of_decide_eq_false h
  rw[if_neg (fun e=>h e.1)] at ht
  refine bc_of (fun _=>bc_of (fun h0=>?_) (fun h0=>bc_of (fun _=>l8_true) (fun h1=>?_))) (fun h2=>?_)
  ·exact absurd ((of_decide_eq_true h0).symm.trans ht) (by decide:¬ (0:Int)=61)
  ·exact absurd ht (of_decide_eq_false h1)
  ·refine absurd (Eq.trans (Eq.symm ?_) h2) (by decide:¬ true=false)
   show (decide ((thV (List.replicate 9 syS.dflt) [(false,0,1),(true,IntKind.i64.wrap k,0)]).2=(0:Int)) == false)=true
   rw[decide_eq_false (fun e=>absurd (e.symm.trans ht) (by decide:¬ (0:Int)=61))];rfl
theorem l8_010 (x:List RaT) (k:Int) (hx0:preM6 (gtR x 0).1 (gtR x 0).2) (hx1:preM6 (gtR x 1).1 (gtR x 1).2) (hk : -128≤k∧k<128) (R:List Item→PS→Prop):sy tt G0 CL8 Tryd.f8.ntmps Tryd.f8.results.toList (QC ctL8c (x,[false,true,false],k,())) R 1000 [.code (bodyOf Tryd.f8)] (entry [.arr 2 raS,w3B,.int .i8] (x,[false,true,false],k,())):=by
 have hm:0≤(gtR x 0).1 % 13∧(gtR x 0).1 % 13≤12:=by omega
 have so:=szV_out (m:=(gtR x 0).1 % 13) hx0.2.1 hm.1
 obtain ⟨s1,s2,s3,s4⟩:=szV_ok (m:=(gtR x 0).1 % 13) hx0.2.1 hm.1 (by omega)
 have ww:IntKind.i64.wrap ((szV (gtR x 0).2 ((gtR x 0).1 % 13)).2.2.1+1)=(szV (gtR x 0).2 ((gtR x 0).1 % 13)).2.2.1+1:=IntWalk.i64_in _ (by omega)
 have hs0:preSz (gtR x 1).2 (szV (gtR x 0).2 ((gtR x 0).1 % 13)).2.2.1:=⟨hx1.2.1,⟨so.1,by omega⟩,hx1.2.2⟩
 have hs1:preSz (gtR x 1).2 (IntKind.i64.wrap ((szV (gtR x 0).2 ((gtR x 0).1 % 13)).2.2.1+1)):=by rw[ww];exact ⟨hx1.2.1,⟨by omega,by omega⟩,hx1.2.2⟩
 have hls:lenS (szV (gtR x 0).2 ((gtR x 0).1 % 13)).2.2.2=(szV (gtR x 0).2 ((gtR x 0).1 % 13)).2.2.1:=rfl
 obtain ⟨t1,t2,t3,t4⟩:=szV_ok (l:=(gtR x 1).2) (m:=(szV (gtR x 0).2 ((gtR x 0).1 % 13)).2.2.1) hx1.2.1 (by omega) (by omega)
 have ha:(coV (szV (gtR x 0).2 ((gtR x 0).1 % 13)) (true,(szV (gtR x 1).2 ((szV (gtR x 0).2 ((gtR x 0).1 % 13)).2.2.1)).2.1,(szV (gtR x 1).2 ((szV (gtR x 0).2 ((gtR x 0).1 % 13)).2.2.1)).2.2.1,(szV (gtR x 1).2 ((szV (gtR x 0).2 ((gtR x 0).1 % 13)).2.2.1)).2.2.2)).2=62:=by
  rw[co_w (p:=(szV (gtR x 0).2 ((gtR x 0).1 % 13))) (q:=(true,(szV (gtR x 1).2 ((szV (gtR x 0).2 ((gtR x 0).1 % 13)).2.2.1)).2.1,(szV (gtR x 1).2 ((szV (gtR x 0).2 ((gtR x 0).1 % 13)).2.2.1)).2.2.1,(szV (gtR x 1).2 ((szV (gtR x 0).2 ((gtR x 0).1 % 13)).2.2.1)).2.2.2)) s1 t1 (Int.le_trans t2 (by decide))];unfold wtV;rw[if_pos (by show ¬ (false=true);simp)]
 have hb:(allV [(szV (gtR x 0).2 ((gtR x 0).1 % 13)),(true,(szV (gtR x 1).2 ((szV (gtR x 0).2 ((gtR x 0).1 % 13)).2.2.1)).2.1,(szV (gtR x 1).2 ((szV (gtR x 0).2 ((gtR x 0).1 % 13)).2.2.1)).2.2.1,(szV (gtR x 1).2 ((szV (gtR x 0).2 ((gtR x 0).1 % 13)).2.2.1)).2.2.2)]).2=62:=by
  rw[al_w (p:=(szV (gtR x 0).2 ((gtR x 0).1 % 13))) (q:=(true,(szV (gtR x 1).2 ((szV (gtR x 0).2 ((gtR x 0).1 % 13)).2.2.1)).2.1,(szV (gtR x 1).2 ((szV (gtR x 0).2 ((gtR x 0).1 % 13)).2.2.1)).2.2.1,(szV (gtR x 1).2 ((szV (gtR x 0).2 ((gtR x 0).1 % 13)).2.2.1)).2.2.2)) s1 t1 (Int.le_trans s2 (by decide)) (Int.le_trans t2 (by decide))];unfold wtV;rw[if_pos (by show ¬ (false=true);simp)]
 have ht:=t8 (A:=List.replicate 9 syS.dflt) rfl hk
 refine (vc_l8_010 x k _ _).mpr ⟨trivial,by decide,by decide,by decide,hx0,by decide,by decide,by decide,hs0,by decide,by decide,by decide,by decide,by decide,by decide,by decide,by decide,by decide,trivial,Nat.le_refl _,(show (2:Nat)<1099511627776 by decide),by decide,by decide,by decide,by decide,Nat.le_refl _,Nat.le_refl _,(show (2:Nat)<16777216 by decide),?_⟩
 refine bc_of (fun _=>?_) (fun h=>absurd ha (of_decide_eq_false h))
 refine bc_of (fun _=>?_) (fun h=>absurd hb (of_decide_eq_false h))
 refine bc_of (fun h=>?_) (fun h=>⟨rfl,?_⟩)
 ·have h:0≤k:=of_decide_eq_true h
  refine bc_of (fun _=>bc_of (fun _=>⟨rfl,l8_true⟩) (fun h0=>bc_of (fun _=>l8_true) (fun h1=>?_))) (fun h2=>?_)
  ·have h0:=of_decide_eq_false h0
   have h1:=of_decide_eq_false h1
   by_cases h9:0≤k∧k<9
   ·rw[if_pos h9] at ht;exact absurd ht h0
   ·rw[if_neg h9] at ht;exact absurd ht h1
  ·refine absurd (Eq.trans (Eq.symm ?_) h2) (by decide:¬ true=false)
   show (decide ((thV (List.replicate 9 syS.dflt) [(false,0,1),(true,IntKind.i64.wrap k,0)]).2=(0:Int)) == decide (k<9))=true
   by_cases h9:k<9
   ·rw[if_pos ⟨h,h9⟩] at ht
    rw[decide_eq_true h9,decide_eq_true ht];rfl
   ·rw[if_neg (fun e=>h9 e.2)] at ht
    rw[decide_eq_false h9,decide_eq_false (fun e=>absurd (e.symm.trans ht) (by decide:¬ (0:Int)=61))];rfl
 ·have h:¬ 0≤k:=of_decide_eq_false h
  rw[if_neg (fun e=>h e.1)] at ht
  refine bc_of (fun _=>bc_of (fun h0=>?_) (fun h0=>bc_of (fun _=>l8_true) (fun h1=>?_))) (fun h2=>?_)
  ·exact absurd ((of_decide_eq_true h0).symm.trans ht) (by decide:¬ (0:Int)=61)
  ·exact absurd ht (of_decide_eq_false h1)
  ·refine absurd (Eq.trans (Eq.symm ?_) h2) (by decide:¬ true=false)
   show (decide ((thV (List.replicate 9 syS.dflt) [(false,0,1),(true,IntKind.i64.wrap k,0)]).2=(0:Int)) == false)=true
   rw[decide_eq_false (fun e=>absurd (e.symm.trans ht) (by decide:¬ (0:Int)=61))];rfl
theorem l8_011 (x:List RaT) (k:Int) (hx0:preM6 (gtR x 0).1 (gtR x 0).2) (hx1:preM6 (gtR x 1).1 (gtR x 1).2) (hk : -128≤k∧k<128) (R:List Item→PS→Prop):sy tt G0 CL8 Tryd.f8.ntmps Tryd.f8.results.toList (QC ctL8c (x,[false,true,true],k,())) R 1000 [.code (bodyOf Tryd.f8)] (entry [.arr 2 raS,w3B,.int .i8] (x,[false,true,true],k,())):=by
 have hm:0≤(gtR x 0).1 % 13∧(gtR x 0).1 % 13≤12:=by omega
 have so:=szV_out (m:=(gtR x 0).1 % 13) hx0.2.1 hm.1
 obtain ⟨s1,s2,s3,s4⟩:=szV_ok (m:=(gtR x 0).1 % 13) hx0.2.1 hm.1 (by omega)
 have ww:IntKind.i64.wrap ((szV (gtR x 0).2 ((gtR x 0).1 % 13)).2.2.1+1)=(szV (gtR x 0).2 ((gtR x 0).1 % 13)).2.2.1+1:=IntWalk.i64_in _ (by omega)
 have hs0:preSz (gtR x 1).2 (szV (gtR x 0).2 ((gtR x 0).1 % 13)).2.2.1:=⟨hx1.2.1,⟨so.1,by omega⟩,hx1.2.2⟩
 have hs1:preSz (gtR x 1).2 (IntKind.i64.wrap ((szV (gtR x 0).2 ((gtR x 0).1 % 13)).2.2.1+1)):=by rw[ww];exact ⟨hx1.2.1,⟨by omega,by omega⟩,hx1.2.2⟩
 have hls:lenS (szV (gtR x 0).2 ((gtR x 0).1 % 13)).2.2.2=(szV (gtR x 0).2 ((gtR x 0).1 % 13)).2.2.1:=rfl
 obtain ⟨t1,t2,t3,t4⟩:=szV_ok (l:=(gtR x 1).2) (m:=(szV (gtR x 0).2 ((gtR x 0).1 % 13)).2.2.1+1) hx1.2.1 (by omega) (by omega)
 have ha:(coV (szV (gtR x 0).2 ((gtR x 0).1 % 13)) (true,(szV (gtR x 1).2 (IntKind.i64.wrap ((szV (gtR x 0).2 ((gtR x 0).1 % 13)).2.2.1+1))).2.1,(szV (gtR x 1).2 (IntKind.i64.wrap ((szV (gtR x 0).2 ((gtR x 0).1 % 13)).2.2.1+1))).2.2.1,(szV (gtR x 1).2 (IntKind.i64.wrap ((szV (gtR x 0).2 ((gtR x 0).1 % 13)).2.2.1+1))).2.2.2)).2=62:=by
  rw[ww];rw[co_w (p:=(szV (gtR x 0).2 ((gtR x 0).1 % 13))) (q:=(true,(szV (gtR x 1).2 ((szV (gtR x 0).2 ((gtR x 0).1 % 13)).2.2.1+1)).2.1,(szV (gtR x 1).2 ((szV (gtR x 0).2 ((gtR x 0).1 % 13)).2.2.1+1)).2.2.1,(szV (gtR x 1).2 ((szV (gtR x 0).2 ((gtR x 0).1 % 13)).2.2.1+1)).2.2.2)) s1 t1 (Int.le_trans t2 (by decide))];unfold wtV;rw[if_pos (by show ¬ (false=true);simp)]
 have hb:(allV [(szV (gtR x 0).2 ((gtR x 0).1 % 13)),(true,(szV (gtR x 1).2 (IntKind.i64.wrap ((szV (gtR x 0).2 ((gtR x 0).1 % 13)).2.2.1+1))).2.1,(szV (gtR x 1).2 (IntKind.i64.wrap ((szV (gtR x 0).2 ((gtR x 0).1 % 13)).2.2.1+1))).2.2.1,(szV (gtR x 1).2 (IntKind.i64.wrap ((szV (gtR x 0).2 ((gtR x 0).1 % 13)).2.2.1+1))).2.2.2)]).2=62:=by
  rw[ww];rw[al_w (p:=(szV (gtR x 0).2 ((gtR x 0).1 % 13))) (q:=(true,(szV (gtR x 1).2 ((szV (gtR x 0).2 ((gtR x 0).1 % 13)).2.2.1+1)).2.1,(szV (gtR x 1).2 ((szV (gtR x 0).2 ((gtR x 0).1 % 13)).2.2.1+1)).2.2.1,(szV (gtR x 1).2 ((szV (gtR x 0).2 ((gtR x 0).1 % 13)).2.2.1+1)).2.2.2)) s1 t1 (Int.le_trans s2 (by decide)) (Int.le_trans t2 (by decide))];unfold wtV;rw[if_pos (by show ¬ (false=true);simp)]
 have ht:=t8 (A:=List.replicate 9 syS.dflt) rfl hk
 refine (vc_l8_011 x k _ _).mpr ⟨trivial,by decide,by decide,by decide,hx0,by decide,by decide,by decide,hs0,by decide,by decide,by decide,by decide,by decide,by decide,hs1,by decide,by decide,by decide,by decide,by decide,by decide,trivial,Nat.le_refl _,(show (2:Nat)<1099511627776 by decide),by decide,by decide,by decide,by decide,Nat.le_refl _,Nat.le_refl _,(show (2:Nat)<16777216 by decide),?_⟩
 refine bc_of (fun _=>?_) (fun h=>absurd ha (of_decide_eq_false h))
 refine bc_of (fun _=>?_) (fun h=>absurd hb (of_decide_eq_false h))
 refine bc_of (fun h=>?_) (fun h=>⟨rfl,?_⟩)
 ·have h:0≤k:=of_decide_eq_true h
  refine bc_of (fun _=>bc_of (fun _=>⟨rfl,l8_true⟩) (fun h0=>bc_of (fun _=>l8_true) (fun h1=>?_))) (fun h2=>?_)
  ·have h0:=of_decide_eq_false h0
   have h1:=of_decide_eq_false h1
   by_cases h9:0≤k∧k<9
   ·rw[if_pos h9] at ht;exact absurd ht h0
   ·rw[if_neg h9] at ht;exact absurd ht h1
  ·refine absurd (Eq.trans (Eq.symm ?_) h2) (by decide:¬ true=false)
   show (decide ((thV (List.replicate 9 syS.dflt) [(false,0,1),(true,IntKind.i64.wrap k,0)]).2=(0:Int)) == decide (k<9))=true
   by_cases h9:k<9
   ·rw[if_pos ⟨h,h9⟩] at ht
    rw[decide_eq_true h9,decide_eq_true ht];rfl
   ·rw[if_neg (fun e=>h9 e.2)] at ht
    rw[decide_eq_false h9,decide_eq_false (fun e=>absurd (e.symm.trans ht) (by decide:¬ (0:Int)=61))];rfl
 ·have h:¬ 0≤k:=of_decide_eq_false h
  rw[if_neg (fun e=>h e.1)] at ht
  refine bc_of (fun _=>bc_of (fun h0=>?_) (fun h0=>bc_of (fun _=>l8_true) (fun h1=>?_))) (fun h2=>?_)
  ·exact absurd ((of_decide_eq_true h0).symm.trans ht) (by decide:¬ (0:Int)=61)
  ·exact absurd ht (of_decide_eq_false h1)
  ·refine absurd (Eq.trans (Eq.symm ?_) h2) (by decide:¬ true=false)
   show (decide ((thV (List.replicate 9 syS.dflt) [(false,0,1),(true,IntKind.i64.wrap k,0)]).2=(0:Int)) == false)=true
   rw[decide_eq_false (fun e=>absurd (e.symm.trans ht) (by decide:¬ (0:Int)=61))];rfl
theorem l8_100 (x:List RaT) (k:Int) (hx0:preM6 (gtR x 0).1 (gtR x 0).2) (hx1:preM6 (gtR x 1).1 (gtR x 1).2) (hk : -128≤k∧k<128) (R:List Item→PS→Prop):sy tt G0 CL8 Tryd.f8.ntmps Tryd.f8.results.toList (QC ctL8c (x,[true,false,false],k,())) R 1000 [.code (bodyOf Tryd.f8)] (entry [.arr 2 raS,w3B,.int .i8] (x,[true,false,false],k,())):=by
 have hm:0≤(gtR x 0).1 % 13∧(gtR x 0).1 % 13≤12:=by omega
 have so:=szV_out (m:=(gtR x 0).1 % 13) hx0.2.1 hm.1
 obtain ⟨s1,s2,s3,s4⟩:=szV_ok (m:=(gtR x 0).1 % 13) hx0.2.1 hm.1 (by omega)
 have ww:IntKind.i64.wrap ((szV (gtR x 0).2 ((gtR x 0).1 % 13)).2.2.1+1)=(szV (gtR x 0).2 ((gtR x 0).1 % 13)).2.2.1+1:=IntWalk.i64_in _ (by omega)
 have hs0:preSz (gtR x 1).2 (szV (gtR x 0).2 ((gtR x 0).1 % 13)).2.2.1:=⟨hx1.2.1,⟨so.1,by omega⟩,hx1.2.2⟩
 have hs1:preSz (gtR x 1).2 (IntKind.i64.wrap ((szV (gtR x 0).2 ((gtR x 0).1 % 13)).2.2.1+1)):=by rw[ww];exact ⟨hx1.2.1,⟨by omega,by omega⟩,hx1.2.2⟩
 have hls:lenS (szV (gtR x 0).2 ((gtR x 0).1 % 13)).2.2.2=(szV (gtR x 0).2 ((gtR x 0).1 % 13)).2.2.1:=rfl
 obtain ⟨t1,t2,t3,t4⟩:=szV_ok (l:=(gtR x 1).2) (m:=(szV (gtR x 0).2 ((gtR x 0).1 % 13)).2.2.1) hx1.2.1 (by omega) (by omega)
 have ha:(coV ((szV (gtR x 0).2 ((gtR x 0).1 % 13)).1,(szV (gtR x 0).2 ((gtR x 0).1 % 13)).2.1,IntKind.i64.wrap ((szV (gtR x 0).2 ((gtR x 0).1 % 13)).2.2.1+1),(szV (gtR x 0).2 ((gtR x 0).1 % 13)).2.2.2) (szV (gtR x 1).2 ((szV (gtR x 0).2 ((gtR x 0).1 % 13)).2.2.1))).2=60:=by
  exact co_b (by show lenS (szV (gtR x 0).2 ((gtR x 0).1 % 13)).2.2.2≠IntKind.i64.wrap ((szV (gtR x 0).2 ((gtR x 0).1 % 13)).2.2.1+1);rw[hls,ww];omega)
 have hb:(allV [((szV (gtR x 0).2 ((gtR x 0).1 % 13)).1,(szV (gtR x 0).2 ((gtR x 0).1 % 13)).2.1,IntKind.i64.wrap ((szV (gtR x 0).2 ((gtR x 0).1 % 13)).2.2.1+1),(szV (gtR x 0).2 ((gtR x 0).1 % 13)).2.2.2),(szV (gtR x 1).2 ((szV (gtR x 0).2 ((gtR x 0).1 % 13)).2.2.1))]).2=60:=by
  exact al_b (by show lenS (szV (gtR x 0).2 ((gtR x 0).1 % 13)).2.2.2≠IntKind.i64.wrap ((szV (gtR x 0).2 ((gtR x 0).1 % 13)).2.2.1+1);rw[hls,ww];omega)
 have ht:=t8 (A:=List.replicate 9 syS.dflt) rfl hk
 refine (vc_l8_100 x k _ _).mpr ⟨trivial,by decide,by decide,by decide,hx0,by decide,by decide,by decide,hs0,by decide,by decide,by decide,by decide,by decide,by decide,by decide,by decide,by decide,trivial,Nat.le_refl _,(show (2:Nat)<1099511627776 by decide),by decide,by decide,by decide,by decide,Nat.le_refl _,Nat.le_refl _,(show (2:Nat)<16777216 by decide),?_⟩
 refine bc_of (fun _=>?_) (fun h=>absurd ha (of_decide_eq_false h))
 refine bc_of (fun _=>?_) (fun h=>absurd hb (of_decide_eq_false h))
 refine bc_of (fun h=>?_) (fun h=>⟨rfl,?_⟩)
 ·have h:0≤k:=of_decide_eq_true h
  refine bc_of (fun _=>bc_of (fun _=>⟨rfl,l8_true⟩) (fun h0=>bc_of (fun _=>l8_true) (fun h1=>?_))) (fun h2=>?_)
  ·have h0:=of_decide_eq_false h0
   have h1:=of_decide_eq_false h1
   by_cases h9:0≤k∧k<9
   ·rw[if_pos h9] at ht;exact absurd ht h0
   ·rw[if_neg h9] at ht;exact absurd ht h1
  ·refine absurd (Eq.trans (Eq.symm ?_) h2) (by decide:¬ true=false)
   show (decide ((thV (List.replicate 9 syS.dflt) [(false,0,1),(true,IntKind.i64.wrap k,0)]).2=(0:Int)) == decide (k<9))=true
   by_cases h9:k<9
   ·rw[if_pos ⟨h,h9⟩] at ht
    rw[decide_eq_true h9,decide_eq_true ht];rfl
   ·rw[if_neg (fun e=>h9 e.2)] at ht
    rw[decide_eq_false h9,decide_eq_false (fun e=>absurd (e.symm.trans ht) (by decide:¬ (0:Int)=61))];rfl
 ·have h:¬ 0≤k:=of_decide_eq_false h
  rw[if_neg (fun e=>h e.1)] at ht
  refine bc_of (fun _=>bc_of (fun h0=>?_) (fun h0=>bc_of (fun _=>l8_true) (fun h1=>?_))) (fun h2=>?_)
  ·exact absurd ((of_decide_eq_true h0).symm.trans ht) (by decide:¬ (0:Int)=61)
  ·exact absurd ht (of_decide_eq_false h1)
  ·refine absurd (Eq.trans (Eq.symm ?_) h2) (by decide:¬ true=false)
   show (decide ((thV (List.replicate 9 syS.dflt) [(false,0,1),(true,IntKind.i64.wrap k,0)]).2=(0:Int)) == false)=true
   rw[decide_eq_false (fun e=>absurd (e.symm.trans ht) (by decide:¬ (0:Int)=61))];rfl
theorem l8_101 (x:List RaT) (k:Int) (hx0:preM6 (gtR x 0).1 (gtR x 0).2) (hx1:preM6 (gtR x 1).1 (gtR x 1).2) (hk : -128≤k∧k<128) (R:List Item→PS→Prop):sy tt G0 CL8 Tryd.f8.ntmps Tryd.f8.results.toList (QC ctL8c (x,[true,false,true],k,())) R 1000 [.code (bodyOf Tryd.f8)] (entry [.arr 2 raS,w3B,.int .i8] (x,[true,false,true],k,())):=by
 have hm:0≤(gtR x 0).1 % 13∧(gtR x 0).1 % 13≤12:=by omega
 have so:=szV_out (m:=(gtR x 0).1 % 13) hx0.2.1 hm.1
 obtain ⟨s1,s2,s3,s4⟩:=szV_ok (m:=(gtR x 0).1 % 13) hx0.2.1 hm.1 (by omega)
 have ww:IntKind.i64.wrap ((szV (gtR x 0).2 ((gtR x 0).1 % 13)).2.2.1+1)=(szV (gtR x 0).2 ((gtR x 0).1 % 13)).2.2.1+1:=IntWalk.i64_in _ (by omega)
 have hs0:preSz (gtR x 1).2 (szV (gtR x 0).2 ((gtR x 0).1 % 13)).2.2.1:=⟨hx1.2.1,⟨so.1,by omega⟩,hx1.2.2⟩
 have hs1:preSz (gtR x 1).2 (IntKind.i64.wrap ((szV (gtR x 0).2 ((gtR x 0).1 % 13)).2.2.1+1)):=by rw[ww];exact ⟨hx1.2.1,⟨by omega,by omega⟩,hx1.2.2⟩
 have hls:lenS (szV (gtR x 0).2 ((gtR x 0).1 % 13)).2.2.2=(szV (gtR x 0).2 ((gtR x 0).1 % 13)).2.2.1:=rfl
 obtain ⟨t1,t2,t3,t4⟩:=szV_ok (l:=(gtR x 1).2) (m:=(szV (gtR x 0).2 ((gtR x 0).1 % 13)).2.2.1+1) hx1.2.1 (by omega) (by omega)
 have ha:(coV ((szV (gtR x 0).2 ((gtR x 0).1 % 13)).1,(szV (gtR x 0).2 ((gtR x 0).1 % 13)).2.1,IntKind.i64.wrap ((szV (gtR x 0).2 ((gtR x 0).1 % 13)).2.2.1+1),(szV (gtR x 0).2 ((gtR x 0).1 % 13)).2.2.2) (szV (gtR x 1).2 (IntKind.i64.wrap ((szV (gtR x 0).2 ((gtR x 0).1 % 13)).2.2.1+1)))).2=60:=by
  exact co_b (by show lenS (szV (gtR x 0).2 ((gtR x 0).1 % 13)).2.2.2≠IntKind.i64.wrap ((szV (gtR x 0).2 ((gtR x 0).1 % 13)).2.2.1+1);rw[hls,ww];omega)
 have hb:(allV [((szV (gtR x 0).2 ((gtR x 0).1 % 13)).1,(szV (gtR x 0).2 ((gtR x 0).1 % 13)).2.1,IntKind.i64.wrap ((szV (gtR x 0).2 ((gtR x 0).1 % 13)).2.2.1+1),(szV (gtR x 0).2 ((gtR x 0).1 % 13)).2.2.2),(szV (gtR x 1).2 (IntKind.i64.wrap ((szV (gtR x 0).2 ((gtR x 0).1 % 13)).2.2.1+1)))]).2=60:=by
  exact al_b (by show lenS (szV (gtR x 0).2 ((gtR x 0).1 % 13)).2.2.2≠IntKind.i64.wrap ((szV (gtR x 0).2 ((gtR x 0).1 % 13)).2.2.1+1);rw[hls,ww];omega)
 have ht:=t8 (A:=List.replicate 9 syS.dflt) rfl hk
 refine (vc_l8_101 x k _ _).mpr ⟨trivial,by decide,by decide,by decide,hx0,by decide,by decide,by decide,hs0,by decide,by decide,by decide,by decide,by decide,by decide,hs1,by decide,by decide,by decide,by decide,by decide,by decide,trivial,Nat.le_refl _,(show (2:Nat)<1099511627776 by decide),by decide,by decide,by decide,by decide,Nat.le_refl _,Nat.le_refl _,(show (2:Nat)<16777216 by decide),?_⟩
 refine bc_of (fun _=>?_) (fun h=>absurd ha (of_decide_eq_false h))
 refine bc_of (fun _=>?_) (fun h=>absurd hb (of_decide_eq_false h))
 refine bc_of (fun h=>?_) (fun h=>⟨rfl,?_⟩)
 ·have h:0≤k:=of_decide_eq_true h
  refine bc_of (fun _=>bc_of (fun _=>⟨rfl,l8_true⟩) (fun h0=>bc_of (fun _=>l8_true) (fun h1=>?_))) (fun h2=>?_)
  ·have h0:=of_decide_eq_false h0
   have h1:=of_decide_eq_false h1
   by_cases h9:0≤k∧k<9
   ·rw[if_pos h9] at ht;exact absurd ht h0
   ·rw[if_neg h9] at ht;exact absurd ht h1
  ·refine absurd (Eq.trans (Eq.symm ?_) h2) (by decide:¬ true=false)
   show (decide ((thV (List.replicate 9 syS.dflt) [(false,0,1),(true,IntKind.i64.wrap k,0)]).2=(0:Int)) == decide (k<9))=true
   by_cases h9:k<9
   ·rw[if_pos ⟨h,h9⟩] at ht
    rw[decide_eq_true h9,decide_eq_true ht];rfl
   ·rw[if_neg (fun e=>h9 e.2)] at ht
    rw[decide_eq_false h9,decide_eq_false (fun e=>absurd (e.symm.trans ht) (by decide:¬ (0:Int)=61))];rfl
 ·have h:¬ 0≤k:=of_decide_eq_false h
  rw[if_neg (fun e=>h e.1)] at ht
  refine bc_of (fun _=>bc_of (fun h0=>?_) (fun h0=>bc_of (fun _=>l8_true) (fun h1=>?_))) (fun h2=>?_)
  ·exact absurd ((of_decide_eq_true h0).symm.trans ht) (by decide:¬ (0:Int)=61)
  ·exact absurd ht (of_decide_eq_false h1)
  ·refine absurd (Eq.trans (Eq.symm ?_) h2) (by decide:¬ true=false)
   show (decide ((thV (List.replicate 9 syS.dflt) [(false,0,1),(true,IntKind.i64.wrap k,0)]).2=(0:Int)) == false)=true
   rw[decide_eq_false (fun e=>absurd (e.symm.trans ht) (by decide:¬ (0:Int)=61))];rfl
theorem l8_110 (x:List RaT) (k:Int) (hx0:preM6 (gtR x 0).1 (gtR x 0).2) (hx1:preM6 (gtR x 1).1 (gtR x 1).2) (hk : -128≤k∧k<128) (R:List Item→PS→Prop):sy tt G0 CL8 Tryd.f8.ntmps Tryd.f8.results.toList (QC ctL8c (x,[true,true,false],k,())) R 1000 [.code (bodyOf Tryd.f8)] (entry [.arr 2 raS,w3B,.int .i8] (x,[true,true,false],k,())):=by
 have hm:0≤(gtR x 0).1 % 13∧(gtR x 0).1 % 13≤12:=by omega
 have so:=szV_out (m:=(gtR x 0).1 % 13) hx0.2.1 hm.1
 obtain ⟨s1,s2,s3,s4⟩:=szV_ok (m:=(gtR x 0).1 % 13) hx0.2.1 hm.1 (by omega)
 have ww:IntKind.i64.wrap ((szV (gtR x 0).2 ((gtR x 0).1 % 13)).2.2.1+1)=(szV (gtR x 0).2 ((gtR x 0).1 % 13)).2.2.1+1:=IntWalk.i64_in _ (by omega)
 have hs0:preSz (gtR x 1).2 (szV (gtR x 0).2 ((gtR x 0).1 % 13)).2.2.1:=⟨hx1.2.1,⟨so.1,by omega⟩,hx1.2.2⟩
 have hs1:preSz (gtR x 1).2 (IntKind.i64.wrap ((szV (gtR x 0).2 ((gtR x 0).1 % 13)).2.2.1+1)):=by rw[ww];exact ⟨hx1.2.1,⟨by omega,by omega⟩,hx1.2.2⟩
 have hls:lenS (szV (gtR x 0).2 ((gtR x 0).1 % 13)).2.2.2=(szV (gtR x 0).2 ((gtR x 0).1 % 13)).2.2.1:=rfl
 obtain ⟨t1,t2,t3,t4⟩:=szV_ok (l:=(gtR x 1).2) (m:=(szV (gtR x 0).2 ((gtR x 0).1 % 13)).2.2.1) hx1.2.1 (by omega) (by omega)
 have ha:(coV ((szV (gtR x 0).2 ((gtR x 0).1 % 13)).1,(szV (gtR x 0).2 ((gtR x 0).1 % 13)).2.1,IntKind.i64.wrap ((szV (gtR x 0).2 ((gtR x 0).1 % 13)).2.2.1+1),(szV (gtR x 0).2 ((gtR x 0).1 % 13)).2.2.2) (true,(szV (gtR x 1).2 ((szV (gtR x 0).2 ((gtR x 0).1 % 13)).2.2.1)).2.1,(szV (gtR x 1).2 ((szV (gtR x 0).2 ((gtR x 0).1 % 13)).2.2.1)).2.2.1,(szV (gtR x 1).2 ((szV (gtR x 0).2 ((gtR x 0).1 % 13)).2.2.1)).2.2.2)).2=60:=by
  exact co_b (by show lenS (szV (gtR x 0).2 ((gtR x 0).1 % 13)).2.2.2≠IntKind.i64.wrap ((szV (gtR x 0).2 ((gtR x 0).1 % 13)).2.2.1+1);rw[hls,ww];omega)
 have hb:(allV [((szV (gtR x 0).2 ((gtR x 0).1 % 13)).1,(szV (gtR x 0).2 ((gtR x 0).1 % 13)).2.1,IntKind.i64.wrap ((szV (gtR x 0).2 ((gtR x 0).1 % 13)).2.2.1+1),(szV (gtR x 0).2 ((gtR x 0).1 % 13)).2.2.2),(true,(szV (gtR x 1).2 ((szV (gtR x 0).2 ((gtR x 0).1 % 13)).2.2.1)).2.1,(szV (gtR x 1).2 ((szV (gtR x 0).2 ((gtR x 0).1 % 13)).2.2.1)).2.2.1,(szV (gtR x 1).2 ((szV (gtR x 0).2 ((gtR x 0).1 % 13)).2.2.1)).2.2.2)]).2=60:=by
  exact al_b (by show lenS (szV (gtR x 0).2 ((gtR x 0).1 % 13)).2.2.2≠IntKind.i64.wrap ((szV (gtR x 0).2 ((gtR x 0).1 % 13)).2.2.1+1);rw[hls,ww];omega)
 have ht:=t8 (A:=List.replicate 9 syS.dflt) rfl hk
 refine (vc_l8_110 x k _ _).mpr ⟨trivial,by decide,by decide,by decide,hx0,by decide,by decide,by decide,hs0,by decide,by decide,by decide,by decide,by decide,by decide,by decide,by decide,by decide,trivial,Nat.le_refl _,(show (2:Nat)<1099511627776 by decide),by decide,by decide,by decide,by decide,Nat.le_refl _,Nat.le_refl _,(show (2:Nat)<16777216 by decide),?_⟩
 refine bc_of (fun _=>?_) (fun h=>absurd ha (of_decide_eq_false h))
 refine bc_of (fun _=>?_) (fun h=>absurd hb (of_decide_eq_false h))
 refine bc_of (fun h=>?_) (fun h=>⟨rfl,?_⟩)
 ·have h:0≤k:=of_decide_eq_true h
  refine bc_of (fun _=>bc_of (fun _=>⟨rfl,l8_true⟩) (fun h0=>bc_of (fun _=>l8_true) (fun h1=>?_))) (fun h2=>?_)
  ·have h0:=of_decide_eq_false h0
   have h1:=of_decide_eq_false h1
   by_cases h9:0≤k∧k<9
   ·rw[if_pos h9] at ht;exact absurd ht h0
   ·rw[if_neg h9] at ht;exact absurd ht h1
  ·refine absurd (Eq.trans (Eq.symm ?_) h2) (by decide:¬ true=false)
   show (decide ((thV (List.replicate 9 syS.dflt) [(false,0,1),(true,IntKind.i64.wrap k,0)]).2=(0:Int)) == decide (k<9))=true
   by_cases h9:k<9
   ·rw[if_pos ⟨h,h9⟩] at ht
    rw[decide_eq_true h9,decide_eq_true ht];rfl
   ·rw[if_neg (fun e=>h9 e.2)] at ht
    rw[decide_eq_false h9,decide_eq_false (fun e=>absurd (e.symm.trans ht) (by decide:¬ (0:Int)=61))];rfl
 ·have h:¬ 0≤k:=of_decide_eq_false h
  rw[if_neg (fun e=>h e.1)] at ht
  refine bc_of (fun _=>bc_of (fun h0=>?_) (fun h0=>bc_of (fun _=>l8_true) (fun h1=>?_))) (fun h2=>?_)
  ·exact absurd ((of_decide_eq_true h0).symm.trans ht) (by decide:¬ (0:Int)=61)
  ·exact absurd ht (of_decide_eq_false h1)
  ·refine absurd (Eq.trans (Eq.symm ?_) h2) (by decide:¬ true=false)
   show (decide ((thV (List.replicate 9 syS.dflt) [(false,0,1),(true,IntKind.i64.wrap k,0)]).2=(0:Int)) == false)=true
   rw[decide_eq_false (fun e=>absurd (e.symm.trans ht) (by decide:¬ (0:Int)=61))];rfl
theorem l8_111 (x:List RaT) (k:Int) (hx0:preM6 (gtR x 0).1 (gtR x 0).2) (hx1:preM6 (gtR x 1).1 (gtR x 1).2) (hk : -128≤k∧k<128) (R:List Item→PS→Prop):sy tt G0 CL8 Tryd.f8.ntmps Tryd.f8.results.toList (QC ctL8c (x,[true,true,true],k,())) R 1000 [.code (bodyOf Tryd.f8)] (entry [.arr 2 raS,w3B,.int .i8] (x,[true,true,true],k,())):=by
 have hm:0≤(gtR x 0).1 % 13∧(gtR x 0).1 % 13≤12:=by omega
 have so:=szV_out (m:=(gtR x 0).1 % 13) hx0.2.1 hm.1
 obtain ⟨s1,s2,s3,s4⟩:=szV_ok (m:=(gtR x 0).1 % 13) hx0.2.1 hm.1 (by omega)
 have ww:IntKind.i64.wrap ((szV (gtR x 0).2 ((gtR x 0).1 % 13)).2.2.1+1)=(szV (gtR x 0).2 ((gtR x 0).1 % 13)).2.2.1+1:=IntWalk.i64_in _ (by omega)
 have hs0:preSz (gtR x 1).2 (szV (gtR x 0).2 ((gtR x 0).1 % 13)).2.2.1:=⟨hx1.2.1,⟨so.1,by omega⟩,hx1.2.2⟩
 have hs1:preSz (gtR x 1).2 (IntKind.i64.wrap ((szV (gtR x 0).2 ((gtR x 0).1 % 13)).2.2.1+1)):=by rw[ww];exact ⟨hx1.2.1,⟨by omega,by omega⟩,hx1.2.2⟩
 have hls:lenS (szV (gtR x 0).2 ((gtR x 0).1 % 13)).2.2.2=(szV (gtR x 0).2 ((gtR x 0).1 % 13)).2.2.1:=rfl
 obtain ⟨t1,t2,t3,t4⟩:=szV_ok (l:=(gtR x 1).2) (m:=(szV (gtR x 0).2 ((gtR x 0).1 % 13)).2.2.1+1) hx1.2.1 (by omega) (by omega)
 have ha:(coV ((szV (gtR x 0).2 ((gtR x 0).1 % 13)).1,(szV (gtR x 0).2 ((gtR x 0).1 % 13)).2.1,IntKind.i64.wrap ((szV (gtR x 0).2 ((gtR x 0).1 % 13)).2.2.1+1),(szV (gtR x 0).2 ((gtR x 0).1 % 13)).2.2.2) (true,(szV (gtR x 1).2 (IntKind.i64.wrap ((szV (gtR x 0).2 ((gtR x 0).1 % 13)).2.2.1+1))).2.1,(szV (gtR x 1).2 (IntKind.i64.wrap ((szV (gtR x 0).2 ((gtR x 0).1 % 13)).2.2.1+1))).2.2.1,(szV (gtR x 1).2 (IntKind.i64.wrap ((szV (gtR x 0).2 ((gtR x 0).1 % 13)).2.2.1+1))).2.2.2)).2=60:=by
  exact co_b (by show lenS (szV (gtR x 0).2 ((gtR x 0).1 % 13)).2.2.2≠IntKind.i64.wrap ((szV (gtR x 0).2 ((gtR x 0).1 % 13)).2.2.1+1);rw[hls,ww];omega)
 have hb:(allV [((szV (gtR x 0).2 ((gtR x 0).1 % 13)).1,(szV (gtR x 0).2 ((gtR x 0).1 % 13)).2.1,IntKind.i64.wrap ((szV (gtR x 0).2 ((gtR x 0).1 % 13)).2.2.1+1),(szV (gtR x 0).2 ((gtR x 0).1 % 13)).2.2.2),(true,(szV (gtR x 1).2 (IntKind.i64.wrap ((szV (gtR x 0).2 ((gtR x 0).1 % 13)).2.2.1+1))).2.1,(szV (gtR x 1).2 (IntKind.i64.wrap ((szV (gtR x 0).2 ((gtR x 0).1 % 13)).2.2.1+1))).2.2.1,(szV (gtR x 1).2 (IntKind.i64.wrap ((szV (gtR x 0).2 ((gtR x 0).1 % 13)).2.2.1+1))).2.2.2)]).2=60:=by
  exact al_b (by show lenS (szV (gtR x 0).2 ((gtR x 0).1 % 13)).2.2.2≠IntKind.i64.wrap ((szV (gtR x 0).2 ((gtR x 0).1 % 13)).2.2.1+1);rw[hls,ww];omega)
 have ht:=t8 (A:=List.replicate 9 syS.dflt) rfl hk
 refine (vc_l8_111 x k _ _).mpr ⟨trivial,by decide,by decide,by decide,hx0,by decide,by decide,by decide,hs0,by decide,by decide,by decide,by decide,by decide,by decide,hs1,by decide,by decide,by decide,by decide,by decide,by decide,trivial,Nat.le_refl _,(show (2:Nat)<1099511627776 by decide),by decide,by decide,by decide,by decide,Nat.le_refl _,Nat.le_refl _,(show (2:Nat)<16777216 by decide),?_⟩
 refine bc_of (fun _=>?_) (fun h=>absurd ha (of_decide_eq_false h))
 refine bc_of (fun _=>?_) (fun h=>absurd hb (of_decide_eq_false h))
 refine bc_of (fun h=>?_) (fun h=>⟨rfl,?_⟩)
 ·have h:0≤k:=of_decide_eq_true h
  refine bc_of (fun _=>bc_of (fun _=>⟨rfl,l8_true⟩) (fun h0=>bc_of (fun _=>l8_true) (fun h1=>?_))) (fun h2=>?_)
  ·have h0:=of_decide_eq_false h0
   have h1:=of_decide_eq_false h1
   by_cases h9:0≤k∧k<9
   ·rw[if_pos h9] at ht;exact absurd ht h0
   ·rw[if_neg h9] at ht;exact absurd ht h1
  ·refine absurd (Eq.trans (Eq.symm ?_) h2) (by decide:¬ true=false)
   show (decide ((thV (List.replicate 9 syS.dflt) [(false,0,1),(true,IntKind.i64.wrap k,0)]).2=(0:Int)) == decide (k<9))=true
   by_cases h9:k<9
   ·rw[if_pos ⟨h,h9⟩] at ht
    rw[decide_eq_true h9,decide_eq_true ht];rfl
   ·rw[if_neg (fun e=>h9 e.2)] at ht
    rw[decide_eq_false h9,decide_eq_false (fun e=>absurd (e.symm.trans ht) (by decide:¬ (0:Int)=61))];rfl
 ·have h:¬ 0≤k:=of_decide_eq_false h
  rw[if_neg (fun e=>h e.1)] at ht
  refine bc_of (fun _=>bc_of (fun h0=>?_) (fun h0=>bc_of (fun _=>l8_true) (fun h1=>?_))) (fun h2=>?_)
  ·exact absurd ((of_decide_eq_true h0).symm.trans ht) (by decide:¬ (0:Int)=61)
  ·exact absurd ht (of_decide_eq_false h1)
  ·refine absurd (Eq.trans (Eq.symm ?_) h2) (by decide:¬ true=false)
   show (decide ((thV (List.replicate 9 syS.dflt) [(false,0,1),(true,IntKind.i64.wrap k,0)]).2=(0:Int)) == false)=true
   rw[decide_eq_false (fun e=>absurd (e.symm.trans ht) (by decide:¬ (0:Int)=61))];rfl
theorem l8_run (x:List RaT) (m:List Bool) (k:Int) (hx0:preM6 (gtR x 0).1 (gtR x 0).2) (hx1:preM6 (gtR x 1).1 (gtR x 1).2) (hm:m.length=3) (hk : -128≤k∧k<128) (R:List Item→PS→Prop):sy tt G0 CL8 Tryd.f8.ntmps Tryd.f8.results.toList (QC ctL8c (x,m,k,())) R 1000 [.code (bodyOf Tryd.f8)] (entry [.arr 2 raS,w3B,.int .i8] (x,m,k,())):=by
 match m,hm with
 | [a,b,c],_=>
  cases a <;> cases b <;> cases c
  ·exact l8_000 x k hx0 hx1 hk R
  ·exact l8_001 x k hx0 hx1 hk R
  ·exact l8_010 x k hx0 hx1 hk R
  ·exact l8_011 x k hx0 hx1 hk R
  ·exact l8_100 x k hx0 hx1 hk R
  ·exact l8_101 x k hx0 hx1 hk R
  ·exact l8_110 x k hx0 hx1 hk R
  ·exact l8_111 x k hx0 hx1 hk R
theorem l8_held:Held Tryd.prog G0 8 ctL8c:=Held.run cxL8 (fn:=Tryd.f8) rfl rfl ⟨by decide,by decide⟩ fun ⟨x,m,k,_⟩ hp=>l8_run x m k hp.1 hp.2.1 hp.2.2.1 hp.2.2.2 _
theorem raA_at {s:List RaT} (h:wfD (.arr 2 raS) s) {i:Nat} (hi:i<2):preM6 (gtR s i).1 (gtR s i).2:=by
 have h1:s.length=2:=h.1
 rw[gtR_at (show i<s.length by omega)]
 exact m6_of (h.2 _ (List.getElem_mem _))
theorem i8_wf {n:Int} (h:wfD (.int .i8) n) : -128≤n∧n<128:=by
 have h:(Lit.int IntKind.i8 n).wf=true:=h
 simp[Lit.wf,IntKind.min,IntKind.max,IntKind.signed,IntKind.bits] at h
 omega
end Go.Proofs.YticpkibnhakgbaaDoor
