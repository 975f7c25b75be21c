/-
  A part of the proof: what pieces of the program give; conditions: those of each theorem.
-/
import Derived.Test.YtncocpjkaggnjaaGreatDoorQ1
import Derived.Test.YtncocpjkaggnjaaGreatDoorQ0
import Derived.Test.YtncocpjkaggnjaaGreatDoorHD
set_option linter.unusedVariables false
set_option linter.unusedSimpArgs false
namespace Go.Proofs.YtncocpjkaggnjaaGreatDoor
open Go.Px Go.Ax
set_option maxRecDepth 100000
attribute [local irreducible] Go.Px.sy Go.Px.syE
def preM6 (z:Int) (l:List (List Int)):Prop:=(0≤z∧z<256)∧preL4 l∧l.length<9223372036854775808
def ctM6:Ctr:=⟨[raS],fun x=>preM6 x.1.1 x.1.2,fun x=>[paV (szV x.1.2 (x.1.1 % 13))],fun _=>[]⟩
theorem made6_run (z:Int) (l:List (List Int)) (hz:0≤z∧z<256) (hl:preL4 l) (hn:l.length<9223372036854775808):GD 11 Tryz.f11 (QC ctM6 ((z,l),())) [.code (bodyOf Tryz.f11)] (entry [raS] ((z,l),())):=by
 refine sy_sound cx30 _ _ _ ((vc_made6 z l _ _).mpr ?_)
 have w:(IntKind.i64.wrap z).tmod 13=z % 13:=by rw[IntWalk.i64_in z (by omega),Int.tmod_eq_emod_of_nonneg hz.1]
 rw[w]
 exact ⟨by decide,⟨hl,(show preN (z % 13) from ⟨by omega,by omega⟩),hn⟩,QC.flat rfl rfl rfl⟩
theorem made6_held:Held Tryz.prog G0 11 ctM6:=
 Held.of cx30 (fn:=Tryz.f11) rfl rfl ⟨by decide,by decide⟩ fun ⟨⟨z,l⟩,_⟩ hp=>made6_run z l hp.1 hp.2.1 hp.2.2
end Go.Proofs.YtncocpjkaggnjaaGreatDoor
namespace Go.Proofs.YtncocpjkaggnjaaGreatDoor
open Go.Px Go.Ax
theorem gen_get (el:Nat→SyT):∀ n i k,k<n→(gen el n i)[k]?=some (el (i+k))
 | 0,_,_,h=>by omega
 | n+1,i,0,_=>by rw[gen];rfl
 | n+1,i,k+1,h=>by
  rw[gen,List.getElem?_cons_succ,gen_get el n (i+1) k (by omega)]
  congr 2;omega
theorem gen_mem (el:Nat→SyT):∀ n i s,s∈gen el n i→∃ k,k<n∧s=el (i+k)
 | 0,_,_,h=>by cases h
 | n+1,i,s,h=>by
  rw[gen] at h
  rcases List.mem_cons.1 h with h | h
  ·exact ⟨0,by omega,h⟩
  ·obtain ⟨k,h1,h2⟩:=gen_mem el n (i+1) s h
   exact ⟨k+1,by omega,by rw[h2];congr 1;omega⟩
theorem datO_len (x:List Int) {k n:Int} (hk:k=2∨k=4) (hn:0≤n):((datO x k n).length:Int)=n:=by
 unfold datO;rw[if_pos hk,datA_len];omega
theorem datO_nil (x:List Int) {k n:Int} (hk:¬ (k=2∨k=4)):datO x k n=[]:=if_neg hk
theorem opV_right {x:List Int} {m:Int} (hx:preB4 x) (h0:0≤m) (h1:m<16777216):isRB (opV x m) m=true:=by
 have hl:=opV_len hx h0
 have m0:=tm_pos (hx 0).1 (b:=4) (by decide)
 have m2:=tm_pos (hx 2).1 (b:=5) (by decide)
 have kR:kR (opV x m) m=true:=by
  unfold opV kR
  split
  ·rename_i hk
   split
   ·rw[if_neg (show ¬ ((4:Int)=1) by decide),if_neg (show ¬ ((4:Int)=2) by decide),if_neg (show ¬ ((4:Int)=3) by decide),if_pos (show (4:Int)=4 by decide)]
    simp only[rB,Bool.and_eq_true,decide_eq_true_eq]
    exact ⟨trivial,trivial,datO_len x (.inr rfl) (by omega)⟩
   ·rename_i hm
    have m1:=tm_pos (hx 1).1 (b:=m) (by omega)
    have m3:=tm_pos (hx 2).1 (b:=m-(gtB x 1).tmod m) (by omega)
    have e5:=Int.tmod_eq_emod_of_nonneg (b:=5) m3.1
    generalize (gtB x 1).tmod m=f at *
    generalize (gtB x 2).tmod (m-f)=g at *
    rw[e5]
    have wp:IntKind.i64.wrap (m-(1+g % 5))=m-(1+g % 5):=IntWalk.i64_in _ (by omega)
    rcases (show 1+(gtB x 0).tmod 4=1∨1+(gtB x 0).tmod 4=2 by omega) with e | e
    ·rw[e]
     simp only[rB,isPartB,wp,Bool.and_eq_true,decide_eq_true_eq,if_true]
     rw[datO_nil x (by decide)]
     exact ⟨⟨by omega,by omega⟩,trivial,rfl⟩
    ·rw[e]
     simp only[rB,isPartB,wp,Bool.and_eq_true,decide_eq_true_eq,if_true]
     rw[if_neg (by decide)]
     simp only[Bool.and_eq_true,decide_eq_true_eq]
     exact ⟨⟨by omega,by omega⟩,trivial,datO_len x (.inl rfl) (by omega)⟩
  ·rename_i hk
   rcases (show 1+(gtB x 0).tmod 4=3∨1+(gtB x 0).tmod 4=4 by omega) with e | e
   ·rw[e,datO_nil x (by decide)]
    rfl
   ·rw[e]
    rw[if_neg (show ¬ ((4:Int)=1) by decide),if_neg (show ¬ ((4:Int)=2) by decide),if_neg (show ¬ ((4:Int)=3) by decide),if_pos (show (4:Int)=4 by decide)]
    simp only[rB,Bool.and_eq_true,decide_eq_true_eq]
    exact ⟨trivial,if_neg (by decide),datO_len x (.inr rfl) (by omega)⟩
 unfold isRB
 rw[decide_eq_true (show 1≤(opV x m).2.2.1 by omega),decide_eq_true (show (opV x m).2.2.1≤65536 by omega),kR]
 rfl
theorem chk_of {m N:Int}:∀ {l:List OpT} {left i:Int},(∀ x∈l,isRB x m=true)→lenS l=left→chkF m N l left i=(N,0)
 | [],left,i,_,h=>by
  have h:(0:Int)=left:=h
  rw[chkF,if_neg (by omega)]
 | x::l,left,i,hr,h=>by
  have h1:=hr x (by simp)
  have h2:=isRB_len h1
  have h3:=lenS_pos (l:=l) fun y hy=>hr y (by simp[hy])
  rw[lenS_cons] at h
  rw[chkF,if_neg (by rw[h1];decide),if_neg (by omega)]
  exact chk_of (fun y hy=>hr y (by simp[hy])) (by omega)
theorem chkV_of {li:Bool} {m o:Int} {l:List OpT} (h0:0≤m) (h1:m≤65536) (ho:o≤65536) (hl:l.length≤4096) (hr:∀ x∈l,isRB x m=true) (hs:lenS l=o):chkV (li,m,o,l)=((l.length:Int),(0:Int)):=by
 have:=lenS_pos hr
 unfold chkV
 rw[if_pos ⟨by simp[szB];omega,by simp[szB];omega,hl⟩]
 exact chk_of hr hs
theorem sym_mem {m:Int}:∀ {l:List OpT},(∀ x∈l,isRB x m=true)→∀ s∈symF l,∃ x∈l,∃ k:Nat,(k:Int)<x.2.2.1∧s=elO x.1.toNat x k
 | [],_,s,h=>by cases h
 | x::l,hr,s,h=>by
  rw[symF] at h
  rcases List.mem_append.1 h with h | h
  ·obtain ⟨k,h1,h2⟩:=gen_mem _ _ _ _ h
   have:=(isRB_kind (hr x (by simp))).2
   exact ⟨x,by simp,k,by omega,by rw[h2,Nat.zero_add]⟩
  ·obtain ⟨y,hy,k,h1,h2⟩:=sym_mem (fun y hy=>hr y (by simp[hy])) s h
   exact ⟨y,by simp[hy],k,h1,h2⟩
theorem isRB_part {x:OpT} {m:Int} (h:isRB x m=true) (hm:0≤m∧m<16777216) (hk:x.1=1∨x.1=2):0≤x.2.1∧x.2.1+x.2.2.1≤m:=by
 unfold isRB kR at h
 simp only[Bool.and_eq_true,decide_eq_true_eq] at h
 obtain ⟨h1,h2,h3⟩:=h
 have w:IntKind.i64.wrap (m-x.2.2.1)=m-x.2.2.1:=IntWalk.i64_in _ (by omega)
 rcases hk with e | e
 ·rw[if_pos e] at h3
  simp only[rB,isPartB,w,Bool.and_eq_true,decide_eq_true_eq] at h3
  omega
 ·rw[if_neg (by omega),if_pos e] at h3
  simp only[rB,isPartB,w,Bool.and_eq_true,decide_eq_true_eq] at h3
  omega
theorem szO_right {l:List (List Int)} {m:Int} (hl:preL4 l) (h0:0≤m) (h1:m≤65536):∀ x∈szO l m,isRB x m=true:=fun x hx=>by
 unfold szO szL at hx
 obtain ⟨j,_,rfl⟩:=List.mem_map.1 hx
 exact opV_right (hl j) h0 (by omega)
theorem szO_len (l:List (List Int)) (m:Int):(szO l m).length≤6:=by
 unfold szO szK;rw[szL_len];omega
theorem szO_sum {l:List (List Int)} {m:Int} (hl:preL4 l) (h0:0≤m):0≤lenS (szO l m)∧lenS (szO l m)≤30:=by
 have:=szL_sum hl h0 (szK l)
 have h6:szK l≤6:=by unfold szK;omega
 unfold szO
 omega
theorem szV_chk {l:List (List Int)} {m:Int} (hl:preL4 l) (h0:0≤m) (h1:m≤65536):chkV (szV l m)=(((szO l m).length:Int),(0:Int)):=by
 have h30:=szO_sum hl h0
 have h6:=szO_len l m
 exact chkV_of h0 h1 (by omega) (by omega) (szO_right hl h0 h1) rfl
end Go.Proofs.YtncocpjkaggnjaaGreatDoor
namespace Go.Proofs.YtncocpjkaggnjaaGreatDoor
open Go.Px Go.Ax
theorem symF_app:∀ (a b:List OpT),symF (a++b)=symF a++symF b
 | [],b=>rfl
 | x::a,b=>by rw[List.cons_append,symF,symF,symF_app a b,List.append_assoc]
def costS:List OpT→Int
 | []=>0
 | x::l=>cN x.1.toNat x+costS l
end Go.Proofs.YtncocpjkaggnjaaGreatDoor
namespace Go.Proofs.YtncocpjkaggnjaaGreatDoor
open Go.Px Go.Ax
theorem sOK_t {m:Int} {s:SyT} (h:sOK m s=true) (ho:s.1=true):0≤s.2.1∧s.2.1<m:=by
 unfold sOK at h;rw[if_pos ho] at h;simpa using h
theorem sOK_f {m:Int} {s:SyT} (h:sOK m s=true) (ho:s.1=false):s.2.1=0:=by
 unfold sOK at h;rw[if_neg (by rw[ho];decide)] at h;simpa using h
section
variable {l:List SyT} {m:Int} (hr:∀ s∈l,sOK m s=true) (hm:m<16777216)
include hr hm
end
end Go.Proofs.YtncocpjkaggnjaaGreatDoor
namespace Go.Proofs.YtncocpjkaggnjaaGreatDoor
open Go.Px Go.Ax
set_option maxRecDepth 100000
def ctOps0:Ctr:=⟨[.sl syS],fun x=>List.length x.1=0,fun x=>[.sl opS (opsL x.1)],fun _=>[]⟩
def ctOpsA:Ctr:=⟨[.sl syS],fun x=>List.length x.1<16777216,fun x=>[.sl opS (opsL x.1)],fun _=>[]⟩
set_option maxRecDepth 100000
theorem vc_rop53 (k f n b m:Int) (d:List Int) (Q:QT) (R:RT):sy tt G0 [(42,.inl ctIn)] Tryz.f43.ntmps Tryz.f43.results.toList Q R 1000 [.code (bodyOf Tryz.f43)] (entry [opS,iI] ((k,f,n,b,d),m,())) =
  (ctIn.pre (n,(1:Int),(65536:Int),()) ∧
 bc (!(decide ((1:Int)≤n)&&decide (n≤(65536:Int)))) (Q [.bool false] [(2,.var [.int .i64 k,.int .i64 f,.int .i64 n,.int .u8 b,.sl uB d])]) (ctIn.pre (f,(0:Int),IntKind.i64.wrap (m-n),()) ∧
 bc (decide (k=(1:Int))) (bc (decide ((0:Int)≤f)&&decide (f≤IntKind.i64.wrap (m-n))) (bc (decide (b=(0:Int))) (Q [.bool (decide ((d.length:Int)=(0:Int)))] [(2,.var [.int .i64 k,.int .i64 f,.int .i64 n,.int .u8 b,.sl uB d])]) (false=false ∧
 Q [.bool false] [(2,.var [.int .i64 k,.int .i64 f,.int .i64 n,.int .u8 b,.sl uB d])])) (false=false ∧
 false=false ∧
 Q [.bool false] [(2,.var [.int .i64 k,.int .i64 f,.int .i64 n,.int .u8 b,.sl uB d])])) (bc (decide (k=(2:Int))) (bc (decide ((0:Int)≤f)&&decide (f≤IntKind.i64.wrap (m-n))) (bc (decide (b=(0:Int))) (Q [.bool (decide ((d.length:Int)=n))] [(2,.var [.int .i64 k,.int .i64 f,.int .i64 n,.int .u8 b,.sl uB d])]) (false=false ∧
 Q [.bool false] [(2,.var [.int .i64 k,.int .i64 f,.int .i64 n,.int .u8 b,.sl uB d])])) (false=false ∧
 false=false ∧
 Q [.bool false] [(2,.var [.int .i64 k,.int .i64 f,.int .i64 n,.int .u8 b,.sl uB d])])) (bc (decide (k=(3:Int))) (bc (decide (f=(0:Int))) (Q [.bool (decide ((d.length:Int)=(0:Int)))] [(2,.var [.int .i64 k,.int .i64 f,.int .i64 n,.int .u8 b,.sl uB d])]) (false=false ∧
 Q [.bool false] [(2,.var [.int .i64 k,.int .i64 f,.int .i64 n,.int .u8 b,.sl uB d])])) (bc (decide (k=(4:Int))) (bc (decide (f=(0:Int))) (bc (decide (b=(0:Int))) (Q [.bool (decide ((d.length:Int)=n))] [(2,.var [.int .i64 k,.int .i64 f,.int .i64 n,.int .u8 b,.sl uB d])]) (false=false ∧
 Q [.bool false] [(2,.var [.int .i64 k,.int .i64 f,.int .i64 n,.int .u8 b,.sl uB d])])) (false=false ∧
 false=false ∧
 Q [.bool false] [(2,.var [.int .i64 k,.int .i64 f,.int .i64 n,.int .u8 b,.sl uB d])])) (Q [.bool false] [(2,.var [.int .i64 k,.int .i64 f,.int .i64 n,.int .u8 b,.sl uB d])])))))):=by kernel_rfl
theorem vc_of2 (l:List SyT) (m:Int) (Q:QT) (R:RT):sy tt G0 ((73,.inl ctOpsA)::(72,.inl ctAre)::C1) Tryz.f35.ntmps Tryz.f35.results.toList Q R 1000 [.code (bodyOf Tryz.f35)] (entry [.sl syS,iI] (l,m,())) =
  (ctSize.pre (m,()) ∧
 bc (!(decide ((0:iI.D)≤m)&&decide (m≤(65536:iI.D)))) (true=true ∧
 true=true ∧
 Q [.agg [.bool false,.int .i64 0,.int .i64 0,.nils],.int .i64 60] [(4,.var [.bool false,.int .i64 0,.int .i64 0,.nils])]) (ctSize.pre ((l.length:Int),()) ∧
 bc (bif false then true else !(decide ((0:iI.D)≤(l.length:Int))&&decide ((l.length:Int)≤(65536:iI.D)))) (true=true ∧
 Q [.agg [.bool false,.int .i64 0,.int .i64 0,.nils],.int .i64 60] [(4,.var [.bool false,.int .i64 0,.int .i64 0,.nils])]) (ctAre.pre (l,m,()) ∧
 bc (bif false then true else !l.all (sOK m)) (Q [.agg [.bool false,.int .i64 0,.int .i64 0,.nils],.int .i64 60] [(4,.var [.bool false,.int .i64 0,.int .i64 0,.nils])]) (ctOpsA.pre (l,()) ∧
 bc (decide ((4096:Int)<(↑(opsL l).length:Int))) (Q [.agg [.bool false,.int .i64 0,.int .i64 0,.nils],.int .i64 2] [(4,.var [.bool false,.int .i64 0,.int .i64 0,.nils])]) (Q [.agg [.bool false,.int .i64 m,.int .i64 (l.length:Int),.sl opS (opsL l)],.int .i64 0] [(4,.var [.bool false,.int .i64 m,.int .i64 (l.length:Int),.sl opS (opsL l)])]))))):=by kernel_rfl
end Go.Proofs.YtncocpjkaggnjaaGreatDoor
namespace Go.Proofs.YtncocpjkaggnjaaGreatDoor
open Go.Px Go.Ax
set_option maxRecDepth 100000
attribute [local irreducible] Go.Px.sy Go.Px.syE
def ctRop:Ctr:=⟨[opS,iI],fun _=>True,fun x=>[.bool (isRB x.1 x.2.1)],fun _=>[]⟩
theorem rop_run (k f n b m:Int) (d:List Int):sy tt G0 [(42,.inl ctIn)] Tryz.f43.ntmps Tryz.f43.results.toList (QC ctRop ((k,f,n,b,d),m,())) (Px.Good Tryz.prog tt G0 43 Tryz.f43.ntmps Tryz.f43.results.toList (QC ctRop ((k,f,n,b,d),m,()))) 1000 [.code (bodyOf Tryz.f43)] (entry [opS,iI] ((k,f,n,b,d),m,())):=by
 have fin:∀ (v:Bool) (blk:List (Nat × LB)),isRB (k,f,n,b,d) m=v→QC ctRop ((k,f,n,b,d),m,()) [SV.bool v] blk:=fun v blk h=>QC.flat (by show [SV.bool (isRB _ _)]=_;rw[h]) rfl rfl
 refine (vc_rop53 k f n b m d _ _).mpr ⟨trivial,bc_of (fun h=>?_) (fun h=>?_)⟩
 ·have h:(!(decide (1≤n)&&decide (n≤65536)))=true:=h
  refine fin _ _ ?_
  show (decide (1≤n)&&(decide (n≤65536)&&kR _ m))=false
  rw[Bool.not_eq_true'] at h
  rw[← Bool.and_assoc,h];rfl
 ·have h:(!(decide (1≤n)&&decide (n≤65536)))=false:=h
  rw[Bool.not_eq_false'] at h
  have hk:isRB (k,f,n,b,d) m=kR (k,f,n,b,d) m:=by
   show (decide (1≤n)&&(decide (n≤65536)&&kR _ m))=_
   rw[← Bool.and_assoc,h,Bool.true_and]
  refine ⟨trivial,bc_of (fun h1=>?_) (fun h1=>bc_of (fun h2=>?_) (fun h2=>bc_of (fun h3=>?_) (fun h3=>bc_of (fun h4=>?_) (fun h4=>?_))))⟩
  ·have h1:k=1:=of_decide_eq_true h1
   have e:kR (k,f,n,b,d) m=(isPartB f n m&&(decide (b=0)&&decide ((d.length:Int)=0))):=by subst h1;rfl
   rw[e] at hk
   refine bc_of (fun a=>bc_of (fun c=>?_) (fun c=>⟨rfl,?_⟩)) (fun a=>⟨rfl,rfl,?_⟩)
   ·exact fin _ _ (by rw[hk,show isPartB f n m=true from a,c];rfl)
   ·exact fin _ _ (by rw[hk,show isPartB f n m=true from a,c];rfl)
   ·exact fin _ _ (by rw[hk,show isPartB f n m=false from a];rfl)
  ·have h2:k=2:=of_decide_eq_true h2
   have e:kR (k,f,n,b,d) m=(isPartB f n m&&(decide (b=0)&&decide ((d.length:Int)=n))):=by subst h2;rfl
   rw[e] at hk
   refine bc_of (fun a=>bc_of (fun c=>?_) (fun c=>⟨rfl,?_⟩)) (fun a=>⟨rfl,rfl,?_⟩)
   ·exact fin _ _ (by rw[hk,show isPartB f n m=true from a,c];rfl)
   ·exact fin _ _ (by rw[hk,show isPartB f n m=true from a,c];rfl)
   ·exact fin _ _ (by rw[hk,show isPartB f n m=false from a];rfl)
  ·have h3:k=3:=of_decide_eq_true h3
   have e:kR (k,f,n,b,d) m=(decide (f=0)&&decide ((d.length:Int)=0)):=by subst h3;rfl
   rw[e] at hk
   refine bc_of (fun a=>?_) (fun a=>⟨rfl,?_⟩)
   ·exact fin _ _ (by rw[hk,a];rfl)
   ·exact fin _ _ (by rw[hk,a];rfl)
  ·have h4:k=4:=of_decide_eq_true h4
   have e:kR (k,f,n,b,d) m=(decide (f=0)&&(decide (b=0)&&decide ((d.length:Int)=n))):=by subst h4;rfl
   rw[e] at hk
   refine bc_of (fun a=>bc_of (fun c=>?_) (fun c=>⟨rfl,?_⟩)) (fun a=>⟨rfl,rfl,?_⟩)
   ·exact fin _ _ (by rw[hk,a,c];rfl)
   ·exact fin _ _ (by rw[hk,a,c];rfl)
   ·exact fin _ _ (by rw[hk,a];rfl)
  ·have h1:¬ k=1:=of_decide_eq_false h1
   have h2:¬ k=2:=of_decide_eq_false h2
   have h3:¬ k=3:=of_decide_eq_false h3
   have h4:¬ k=4:=of_decide_eq_false h4
   refine fin _ _ ?_
   rw[hk]
   show (if k=1 then _ else if k=2 then _ else if k=3 then _ else if k=4 then _ else false)=false
   rw[if_neg h1,if_neg h2,if_neg h3,if_neg h4]
theorem rop_held:Held Tryz.prog G0 43 ctRop:=
 Held.run (cx0.cons in_held (fn:=Tryz.f42) rfl rfl rfl) (fn:=Tryz.f43) rfl rfl ⟨by decide,by decide⟩ fun ⟨⟨k,f,n,b,d⟩,m,_⟩ _=>rop_run k f n b m d
theorem ops0_held:Held Tryz.prog G0 73 ctOps0:=by
 refine Held.run dxO (fn:=Tryz.f73) rfl rfl ⟨by decide,by decide⟩ ?_
 rintro ⟨l,⟨⟩⟩ hp
 replace hp:l.length=0:=hp
 have e:l=[]:=List.eq_nil_of_length_eq_zero hp
 subst e
 refine (vc_ops [] _ _).mpr ?_
 refine Good.only (S':=⟨[(0,.sl syS []),(3,.nils),(4,.int .i64 ((0:Nat):Int)),(5,.int .i64 ((1:Nat):Int))],[]⟩) (sy_sound dxO _ _ _ ((vc_opsA [] 0 1 _ _).mpr ?_)) ⟨rfl,rfl,rfl,rfl,trivial⟩ trivial
 rw[decide_eq_false (by decide),bc_f]
 exact QC.mt ⟨_,_,rfl,.inr ⟨rfl,rfl⟩,rfl⟩ rfl
theorem opsA_held:Held Tryz.prog G0 73 ctOpsA:=fun x hp=>by
 by_cases h:List.length x.1=0
 ·exact ops0_held x h
 ·exact ops_held x ⟨Nat.pos_of_ne_zero h,hp⟩
def ctOfA:Ctr:=⟨[.sl syS,iI],fun x=>List.length x.1<16777216,fun x=>[paV (ofV x.1 x.2.1).1,.int .i64 (ofV x.1 x.2.1).2],fun _=>[]⟩
theorem ofA_held:Held Tryz.prog G0 35 ctOfA:=by
 refine Held.run ((cx1.cons are_held (fn:=Tryz.f72) rfl rfl rfl).cons opsA_held (fn:=Tryz.f73) rfl rfl rfl) (fn:=Tryz.f35) rfl rfl ⟨by decide,by decide⟩ ?_
 rintro ⟨l,m,⟨⟩⟩ hp
 replace hp:l.length<16777216:=hp
 have bad:¬ (szB m=true∧szB l.length=true∧l.all (sOK m)=true)→ofV l m=((false,0,0,[]),60):=fun q=>if_neg q
 refine (vc_of2 l m _ _).mpr ⟨trivial,bc_of (fun h=>⟨rfl,rfl,?_⟩) (fun h=>⟨trivial,bc_of (fun h2=>⟨rfl,?_⟩) (fun h2=>⟨(show l.length<1099511627776 by omega),bc_of (fun h3=>?_) (fun h3=>⟨hp,bc_of (fun h4=>?_) (fun h4=>?_)⟩)⟩)⟩)⟩
 ·have h:(!szB m)=true:=h
  have hv:=bad fun q=>by rw[q.1] at h;cases h
  exact QC.mt (by show MtL _ [paV (ofV l m).1,.int .i64 (ofV l m).2] _;rw[hv];exact ⟨_,_,rfl,⟨_,rfl,_,_,rfl,rfl,_,_,rfl,rfl,_,_,rfl,rfl,_,_,rfl,.inr ⟨rfl,rfl⟩,rfl⟩,_,_,rfl,rfl,rfl⟩) rfl
 ·have h2:(!szB l.length)=true:=h2
  have hv:=bad fun q=>by rw[q.2.1] at h2;cases h2
  exact QC.mt (by show MtL _ [paV (ofV l m).1,.int .i64 (ofV l m).2] _;rw[hv];exact ⟨_,_,rfl,⟨_,rfl,_,_,rfl,rfl,_,_,rfl,rfl,_,_,rfl,rfl,_,_,rfl,.inr ⟨rfl,rfl⟩,rfl⟩,_,_,rfl,rfl,rfl⟩) rfl
 ·have h3:(!l.all (sOK m))=true:=h3
  have hv:=bad fun q=>by rw[q.2.2] at h3;cases h3
  exact QC.mt (by show MtL _ [paV (ofV l m).1,.int .i64 (ofV l m).2] _;rw[hv];exact ⟨_,_,rfl,⟨_,rfl,_,_,rfl,rfl,_,_,rfl,rfl,_,_,rfl,rfl,_,_,rfl,.inr ⟨rfl,rfl⟩,rfl⟩,_,_,rfl,rfl,rfl⟩) rfl
 all_goals
  have h:(!szB m)=false:=h
  have h2:(!szB l.length)=false:=h2
  have h3:(!l.all (sOK m))=false:=h3
  have hg:szB m=true∧szB l.length=true∧l.all (sOK m)=true:=⟨by simpa using h,by simpa using h2,by simpa using h3⟩
 ·have h4:(4096:Int)<((opsL l).length:Int):=of_decide_eq_true h4
  have hv:ofV l m=((false,0,0,[]),2):=by unfold ofV;rw[if_pos hg,if_pos (by omega)]
  exact QC.mt (by show MtL _ [paV (ofV l m).1,.int .i64 (ofV l m).2] _;rw[hv];exact ⟨_,_,rfl,⟨_,rfl,_,_,rfl,rfl,_,_,rfl,rfl,_,_,rfl,rfl,_,_,rfl,.inr ⟨rfl,rfl⟩,rfl⟩,_,_,rfl,rfl,rfl⟩) rfl
 ·have h4:¬ (4096:Int)<((opsL l).length:Int):=of_decide_eq_false h4
  have hv:ofV l m=(((false,m,(l.length:Int),opsL l):PaT),(0:Int)):=by unfold ofV;rw[if_pos hg,if_neg (by omega)]
  exact QC.flat (by show [paV (ofV l m).1,.int .i64 (ofV l m).2]=_;rw[hv];rfl) rfl rfl
end Go.Proofs.YtncocpjkaggnjaaGreatDoor
namespace Go.Proofs.YtncocpjkaggnjaaGreatDoor
open Go.Px Go.Ax
set_option maxRecDepth 100000
def CRc:CV:=[(43,.inl ctRop),(42,.inl ctIn)]
theorem cxRc:CxOK Tryz.prog tt G0 CRc:=(cx0.cons in_held (fn:=Tryz.f42) rfl rfl rfl).cons rop_held (fn:=Tryz.f43) rfl rfl rfl
set_option maxRecDepth 100000
theorem vc_rchk (li:Bool) (m o:Int) (l:List OpT) (Q:QT) (R:RT):sy tt G0 CRc Tryz.f13.ntmps Tryz.f13.results.toList Q (fun it S=>R it (keepS [1,4,5] [1] S)) 1000 [.code (bodyOf Tryz.f13)] (entry [paS] ((li,m,o,l),())) =
  (ctIn.pre (m,(0:Int),(65536:Int),()) ∧
 bc (!(decide ((0:Int)≤m)&&decide (m≤(65536:Int)))) (true=true ∧
 true=true ∧
 Q [.int .i64 (-1:Int),.int .i64 60] [(1,.var [.bool li,.int .i64 m,.int .i64 o,.sl opS l])]) (ctIn.pre (o,(0:Int),(65536:Int),()) ∧
 bc (bif false then true else !(decide ((0:Int)≤o)&&decide (o≤(65536:Int)))) (true=true ∧
 Q [.int .i64 (-1:Int),.int .i64 60] [(1,.var [.bool li,.int .i64 m,.int .i64 o,.sl opS l])]) (bc (bif false then true else decide ((4096:Int)<(l.length:Int))) (Q [.int .i64 (-1:Int),.int .i64 60] [(1,.var [.bool li,.int .i64 m,.int .i64 o,.sl opS l])]) (R (hd Tryz.f13 0) { env:=[(1,.ptr 1 0),(4,.int .i64 0),(5,.int .i64 0)],blk:=[(1,.var [.bool li,.int .i64 m,.int .i64 o,.sl opS l])] })))):=by kernel_rfl
theorem vc_rchkL (li:Bool) (m o s:Int) (l:List OpT) (i:Nat) (Q:QT) (R:RT):sy tt G0 CRc Tryz.f13.ntmps Tryz.f13.results.toList Q (fun it S=>R it (keepS [1,4,5] [1] S)) 1000 (hd Tryz.f13 0) ⟨[(1,.ptr 1 0),(4,.int .i64 s),(5,.int .i64 (i:Nat))],[(1,.var [.bool li,.int .i64 m,.int .i64 o,.sl opS l])]⟩ =
  (bc (decide ((i:Int)<(l.length:Int))) ((0:Int)≤(i:Int) ∧
 (i:Int)<(l.length:Int) ∧
 ctRop.pre ((gtO l (i:Int).toNat),m,()) ∧
 bc (!isRB (gtO l (i:Int).toNat) m) (true=true ∧
 Q [.int .i64 (i:Int),.int .i64 60] [(1,.var [.bool li,.int .i64 m,.int .i64 o,.sl opS l])]) ((0:Int)≤(i:Int) ∧
 (i:Int)<(l.length:Int) ∧
 bc (bif false then true else decide (o<IntKind.i64.wrap (s+(gtO l (i:Int).toNat).2.2.1))) (Q [.int .i64 (i:Int),.int .i64 60] [(1,.var [.bool li,.int .i64 m,.int .i64 o,.sl opS l])]) ((0:Int)≤(i:Int) ∧
 (i:Int)<(l.length:Int) ∧
 R (hd Tryz.f13 0) { env:=[(1,.ptr 1 0),(4,.int .i64 (IntKind.i64.wrap (s+(gtO l (i:Int).toNat).2.2.1))),(5,.int .i64 (IntKind.i64.wrap ((i:Int)+(1:Int))))],blk:=[(1,.var [.bool li,.int .i64 m,.int .i64 o,.sl opS l])] }))) (bc (decide (s≠o)) (Q [.int .i64 (l.length:Int),.int .i64 60] [(1,.var [.bool li,.int .i64 m,.int .i64 o,.sl opS l])]) (Q [.int .i64 (l.length:Int),.int .i64 0] [(1,.var [.bool li,.int .i64 m,.int .i64 o,.sl opS l])]))):=by kernel_rfl
theorem vc_right (li:Bool) (m o:Int) (l:List OpT) (Q:QT) (R:RT):sy tt G0 [(13,.inl ctChk)] Tryz.f31.ntmps Tryz.f31.results.toList Q R 1000 [.code (bodyOf Tryz.f31)] (entry [paS] ((li,m,o,l),())) =
  (ctChk.pre ((li,m,o,l),()) ∧
 Q [.bool (decide ((chkV (li,m,o,l)).2=(0:Int)))] [(1,.var [.bool li,.int .i64 m,.int .i64 o,.sl opS l])]):=by kernel_rfl
end Go.Proofs.YtncocpjkaggnjaaGreatDoor
namespace Go.Proofs.YtncocpjkaggnjaaGreatDoor
open Go.Px Go.Ax
set_option maxRecDepth 100000
attribute [local irreducible] Go.Px.sy Go.Px.syE
abbrev ChQ (a b:Int):List SV→List (Nat × LB)→Prop:=fun rs _=>rs=[.int .i64 a,.int .i64 b]
theorem rchk_loop (li:Bool) (m o:Int) (l:List OpT) (ho:0≤o∧o≤65536) (hl:l.length≤4096):∀ (k i:Nat) (s:Int),l.length-i=k→i≤l.length→0≤s→s≤o →
  GD 13 Tryz.f13 (ChQ (chkF m l.length (l.drop i) (o-s) i).1 (chkF m l.length (l.drop i) (o-s) i).2) (hd Tryz.f13 0) ⟨[(1,.ptr 1 0),(4,.int .i64 s),(5,.int .i64 (i:Nat))],[(1,.var [.bool li,.int .i64 m,.int .i64 o,.sl opS l])]⟩:=by
 intro k
 induction k with
 | zero=>
  intro i s hk hi h0 hs
  have hi:i=l.length:=by omega
  subst hi
  refine sy_goK cxRc (vc_rchkL li m o s l _ _ _) ?_
  rw[decide_eq_false (by omega),bc_f,List.drop_length]
  simp only[chkF]
  refine bc_of (fun h=>?_) (fun h=>?_)
  ·have h:s≠o:=of_decide_eq_true h
   rw[if_pos (by omega)]
  ·have h:¬ s≠o:=of_decide_eq_false h
   rw[if_neg (by omega)]
 | succ k ih=>
  intro i s hk hi h0 hs
  have hil:i<l.length:=by omega
  refine sy_goK cxRc (vc_rchkL li m o s l i _ _) ?_
  rw[decide_eq_true (show (i:Int)<(l.length:Int) by omega),bc_t,Int.toNat_natCast,gtO_at hil,IntWalk.i64_in ((i:Int)+1) (by omega),dropc hil]
  simp only[chkF]
  refine ⟨by omega,by omega,trivial,bc_of (fun h=>⟨trivial,?_⟩) (fun h=>⟨by omega,by omega,?_⟩)⟩
  ·have h:isRB l[i] m=false:=by simpa using h
   rw[if_pos h]
  ·have h:isRB l[i] m=true:=by simpa using h
   have hx:=isRB_len h
   have w:IntKind.i64.wrap (s+l[i].2.2.1)=s+l[i].2.2.1:=IntWalk.i64_in _ (by omega)
   have h2:¬ isRB l[i] m=false:=by rw[h];decide
   rw[w,if_neg h2]
   refine bc_of (fun h3=>?_) (fun h3=>?_)
   ·have h3:o<s+l[i].2.2.1:=of_decide_eq_true h3
    rw[if_pos (by omega)]
   ·have h3:¬ o<s+l[i].2.2.1:=of_decide_eq_false h3
    have nx:=ih (i+1) (s+l[i].2.2.1) (by omega) (by omega) (by omega) (by omega)
    have e:o-(s+l[i].2.2.1)=o-s-l[i].2.2.1:=by omega
    rw[e] at nx
    rw[if_neg (by omega)]
    exact ⟨by omega,by omega,nx.only ⟨rfl,rfl,rfl,trivial⟩ ⟨rfl,trivial⟩⟩
theorem rchk_run (li:Bool) (m o:Int) (l:List OpT):GD 13 Tryz.f13 (ChQ (chkV (li,m,o,l)).1 (chkV (li,m,o,l)).2) [.code (bodyOf Tryz.f13)] (entry [paS] ((li,m,o,l),())):=by
 have bad:¬ (szB m=true∧szB o=true∧l.length≤4096)→chkV (li,m,o,l)=(-1,60):=fun q=>if_neg q
 refine sy_goK cxRc (vc_rchk li m o l _ _) ⟨trivial,bc_of (fun h=>⟨rfl,rfl,?_⟩) (fun h=>⟨trivial,bc_of (fun h2=>⟨rfl,?_⟩) (fun h2=>bc_of (fun h3=>?_) (fun h3=>?_))⟩)⟩
 ·have h:(!szB m)=true:=h
  rw[bad fun q=>by rw[q.1] at h;cases h]
 ·have h2:(!szB o)=true:=h2
  rw[bad fun q=>by rw[q.2.1] at h2;cases h2]
 ·have h3:(4096:Int)<(l.length:Int):=of_decide_eq_true h3
  rw[bad fun q=>by omega]
 ·have h:(!szB m)=false:=h
  have h2:(!szB o)=false:=h2
  have h3:¬ (4096:Int)<(l.length:Int):=of_decide_eq_false h3
  have hg:szB m=true∧szB o=true∧l.length≤4096:=⟨by simpa using h,by simpa using h2,by omega⟩
  have ho:0≤o∧o≤65536:=by
   have:=hg.2.1
   simpa [szB] using this
  have hv:chkV (li,m,o,l)=chkF m l.length (l.drop 0) (o-0) ((0:Nat):Int):=by
   unfold chkV;rw[if_pos hg,Int.sub_zero];rfl
  rw[hv]
  exact (rchk_loop li m o l ho hg.2.2 _ 0 0 rfl (by omega) (by omega) ho.1).only ⟨rfl,rfl,rfl,trivial⟩ ⟨rfl,trivial⟩
theorem rchk_held:Held Tryz.prog G0 13 ctChk:=
 Held.of cxRc (fn:=Tryz.f13) rfl rfl ⟨by decide,by decide⟩ fun ⟨⟨li,m,o,l⟩,_⟩ _=>
  (rchk_run li m o l).post fun rs blk hq=>QC.flat (by rw[hq];rfl) rfl (by rw[hq];rfl)
def ctRi:Ctr:=⟨[paS],fun _=>True,fun x=>[.bool (decide ((chkV x.1).2=0))],fun _=>[]⟩
theorem right_held:Held Tryz.prog G0 31 ctRi:=
 Held.run (cx0.cons rchk_held (fn:=Tryz.f13) rfl rfl rfl) (fn:=Tryz.f31) rfl rfl ⟨by decide,by decide⟩ fun ⟨⟨li,m,o,l⟩,_⟩ _=>
  (vc_right li m o l _ _).mpr ⟨trivial,QC.flat rfl rfl rfl⟩
end Go.Proofs.YtncocpjkaggnjaaGreatDoor
namespace Go.Proofs.YtncocpjkaggnjaaGreatDoor
open Go.Px Go.Ax
abbrev LiT:Type:=Int × Int × Int × Int
def zLi:LiT:=(0,0,0,0)
def canB (k:Int) (s:SyT):Bool:=if k=1 then s.1&&decide (s.2.2=0) else if k=2 then s.1 else !s.1
def goK (k:Int) (s t:SyT):Bool:=if k=1∨k=2 then decide (t.2.1=IntKind.i64.wrap (s.2.1+1)) else if k=3 then decide (t.2.2=s.2.2) else true
def hdC (k:Int):Int:=if k=4 then 2 else 4
def eaC (k:Int):Int:=if k=2∨k=4 then 1 else 0
def betB (a b:LiT):Bool:=
 if a.2.1=0∨b.2.1=0 then decide (0<a.2.1)&&decide (b.2.1=0)
 else if a.2.2.1≠b.2.2.1 then decide (a.2.2.1<b.2.2.1)
 else if a.2.2.2≠b.2.2.2 then decide (a.2.2.2<b.2.2.2)
 else if a.1≠b.1 then decide (a.1<b.1)
 else decide (b.2.1<a.2.1)
def oneF (k:Int) (w:Int × Int):LiT:=(k,1,w.1+hdC k+eaC k,w.2+1)
def moreF (k:Int) (g:LiT):LiT:=(k,g.2.1+1,g.2.2.1+eaC k,g.2.2.2)
def begF (k:Int) (s t:SyT) (w:Int × Int) (g:LiT):LiT:=
 if canB k s=false then zLi
 else if g.2.1=0∨goK k s t=false then oneF k w
 else if betB (oneF k w) (moreF k g)=true then oneF k w else moreF k g
def upd (b g:LiT):LiT:=if betB g b=true then g else b
def pickF (g:Int→LiT):LiT:=upd (upd (upd (upd zLi (g 1)) (g 2)) (g 3)) (g 4)
def tb:List SyT→(Int→LiT) × LiT
 | []=>(fun _=>zLi,zLi)
 | s::r=>(fun k=>begF k s (gtY r 0) (tb r).2.2.2 ((tb r).1 k),pickF fun k=>begF k s (gtY r 0) (tb r).2.2.2 ((tb r).1 k))
def bst (l:List SyT):LiT:=(tb l).2
def beg (l:List SyT) (k:Int):LiT:=(tb l).1 k
theorem beg_cons (s:SyT) (r:List SyT) (k:Int):beg (s::r) k=begF k s (gtY r 0) (bst r).2.2 (beg r k):=rfl
theorem bst_cons (s:SyT) (r:List SyT):bst (s::r)=pickF fun k=>beg (s::r) k:=rfl
def fitN (k:Int):List SyT→Nat
 | []=>0
 | s::r=>if canB k s=true then (if goK k s (gtY r 0)=true then 1+fitN k r else 1) else 0
theorem fitN_le (k:Int):∀ l,fitN k l≤l.length
 | []=>Nat.le_refl _
 | s::r=>by
  have:=fitN_le k r
  rw[fitN,List.length_cons]
  split
  ·split <;> omega
  ·omega
def keyT (b:LiT):Int:=((b.2.2.1*4294967296+b.2.2.2)*8+b.1)*1048576-b.2.1
def wB (b:LiT):Int:=b.2.2.1*4294967296+b.2.2.2
def keyL (k:Int) (n:Nat) (l:List SyT):Int:=(((hdC k+eaC k*(n:Int))*4294967296+1+wB (bst (l.drop n)))*8+k)*1048576-(n:Int)
def boL (m:Nat) (b:LiT):Prop:=0≤b.2.2.1∧b.2.2.1≤5*(m:Int)∧0≤b.2.2.2∧b.2.2.2≤(m:Int)
def okB (k:Int) (l:List SyT) (g:LiT):Prop:=
 (fitN k l=0∧g=zLi)∨(g.1=k∧∃ n:Nat,g.2.1=(n:Int)∧1≤n∧n≤fitN k l∧keyT g=keyL k n l∧(∀ m:Nat,1≤m→m≤fitN k l→keyL k n l≤keyL k m l)∧boL l.length g)
abbrev kOK (k:Int):Prop:=1≤k∧k≤4
def okL (l:List SyT) (b:LiT):Prop:=
 (l=[]∧b=zLi)∨(l≠[]∧kOK b.1∧∃ n:Nat,b.2.1=(n:Int)∧1≤n∧n≤fitN b.1 l∧keyT b=keyL b.1 n l∧(∀ k,kOK k→∀ m:Nat,1≤m→m≤fitN k l→keyL b.1 n l≤keyL k m l)∧boL l.length b)
theorem betB_key {a b:LiT} (ha:kOK a.1) (hb:kOK b.1) (a1:1≤a.2.1∧a.2.1<1048576) (b1:1≤b.2.1∧b.2.1<1048576) (a2:0≤a.2.2.2∧a.2.2.2<4294967296) (b2:0≤b.2.2.2∧b.2.2.2<4294967296) :
  (betB a b=true↔keyT a<keyT b):=by
 obtain ⟨k,n,c,o⟩:=a
 obtain ⟨k',n',c',o'⟩:=b
 simp only[kOK] at *
 unfold betB keyT
 simp only
 rw[if_neg (by omega)]
 by_cases h1:c=c'
 ·rw[if_neg (by simpa using h1)]
  by_cases h2:o=o'
  ·rw[if_neg (by simpa using h2)]
   by_cases h3:k=k'
   ·rw[if_neg (by simpa using h3)]
    simp only[decide_eq_true_eq]
    omega
   ·rw[if_pos h3]
    simp only[decide_eq_true_eq]
    omega
  ·rw[if_pos h2]
   simp only[decide_eq_true_eq]
   omega
 ·rw[if_pos h1]
  simp only[decide_eq_true_eq]
  omega
theorem hdC_b (k:Int):2≤hdC k∧hdC k≤4:=by unfold hdC;split <;> omega
theorem eaC_b (k:Int):0≤eaC k∧eaC k≤1:=by unfold eaC;split <;> omega
theorem keyL_one (k:Int) (s:SyT) (r:List SyT):keyL k 1 (s::r)=keyT (oneF k (bst r).2.2):=by
 have e:(s::r).drop 1=r:=rfl
 unfold keyL keyT oneF wB
 rw[e]
 simp only[Int.mul_one,Int.natCast_one]
 omega
theorem keyL_more (k:Int) (s:SyT) (r:List SyT) (n:Nat):keyL k (n+1) (s::r)=keyL k n r+eaC k*36028797018963968-1:=by
 have e:(s::r).drop (n+1)=r.drop n:=rfl
 unfold keyL
 rw[e,Int.natCast_add,Int.natCast_one,Int.mul_add,Int.mul_one]
 omega
theorem keyT_more (k:Int) (g:LiT) (hk:g.1=k):keyT (moreF k g)=keyT g+eaC k*36028797018963968-1:=by
 unfold keyT moreF
 simp only[hk]
 omega
theorem boL_z (m:Nat):boL m zLi:=by
 unfold boL zLi
 simp only
 omega
theorem okB_cons {k:Int} (hk:kOK k) {s:SyT} {r:List SyT} (hr:okB k r (beg r k)) (hb:boL r.length (bst r)) (hl:(s::r).length≤65536):okB k (s::r) (beg (s::r) k):=by
 rw[beg_cons]
 unfold begF
 have hh:=hdC_b k
 have he:=eaC_b k
 have hn:=fitN_le k r
 rw[List.length_cons] at hl
 by_cases hc:canB k s=false
 ·rw[if_pos hc]
  exact .inl ⟨by rw[fitN,if_neg (by rw[hc];decide)],rfl⟩
 ·rw[if_neg hc]
  have hc:canB k s=true:=by simpa using hc
  have hone:boL (s::r).length (oneF k (bst r).2.2):=by
   unfold boL oneF at *
   simp only[List.length_cons]
   omega
  by_cases hg:(beg r k).2.1=0∨goK k s (gtY r 0)=false
  ·rw[if_pos hg]
   have hf:fitN k (s::r)=1:=by
    rw[fitN,if_pos hc]
    split
    ·rename_i h
     rcases hg with hg | hg
     ·rcases hr with hr | ⟨_,n,h1,h2,_⟩
      ·rw[hr.1]
      ·omega
     ·rw[hg] at h;cases h
    ·rfl
   refine .inr ⟨rfl,1,rfl,Nat.le_refl _,by omega,(keyL_one k s r).symm,fun m h1 h2=>?_,hone⟩
   have:m=1:=by omega
   rw[this];exact Int.le_refl _
  ·rw[if_neg hg]
   have hg1:¬ (beg r k).2.1=0:=fun h=>hg (.inl h)
   have hg2:goK k s (gtY r 0)=true:=by
    have:¬ goK k s (gtY r 0)=false:=fun h=>hg (.inr h)
    simpa using this
   rcases hr with hr | ⟨e1,n,h1,h2,h3,h4,h5,h6⟩
   ·rw[hr.2] at hg1;exact absurd rfl hg1
   have hf:fitN k (s::r)=1+fitN k r:=by rw[fitN,if_pos hc,if_pos hg2]
   have hm:keyT (moreF k (beg r k))=keyL k (n+1) (s::r):=by rw[keyT_more k _ e1,keyL_more,h4]
   have hmb:boL (s::r).length (moreF k (beg r k)):=by
    unfold boL moreF at *
    simp only[List.length_cons]
    omega
   have ho:=keyL_one k s r
   have hmo:∀ m:Nat,1≤m→m≤fitN k (s::r)→m=1∨keyL k (n+1) (s::r)≤keyL k m (s::r):=fun m m1 m2=>by
    rcases Nat.lt_or_ge 1 m with h | h
    ·obtain ⟨q,hq⟩:∃ q,m=q+1:=⟨m-1,by omega⟩
     subst hq
     have:=h5 q (by omega) (by omega)
     rw[keyL_more,keyL_more]
     exact .inr (by omega)
    ·exact .inl (by omega)
   have hkey:=betB_key (a:=oneF k (bst r).2.2) (b:=moreF k (beg r k)) hk hk (show 1≤(1:Int)∧(1:Int)<1048576 by omega) (show 1≤(beg r k).2.1+1∧(beg r k).2.1+1<1048576 by omega) (show 0≤(bst r).2.2.2+1∧(bst r).2.2.2+1<4294967296 by unfold boL at hb;omega) (show 0≤(beg r k).2.2.2∧(beg r k).2.2.2<4294967296 by unfold boL at h6;omega)
   split
   ·rename_i hbt
    have hlt:=hkey.1 hbt
    rw[← ho,hm] at hlt
    refine .inr ⟨rfl,1,rfl,Nat.le_refl _,by omega,ho.symm,fun m m1 m2=>?_,hone⟩
    rcases hmo m m1 m2 with h | h
    ·rw[h];exact Int.le_refl _
    ·omega
   ·rename_i hbt
    have hlt:¬ keyT (oneF k (bst r).2.2)<keyT (moreF k (beg r k)):=fun h=>hbt (hkey.2 h)
    rw[← ho,hm] at hlt
    refine .inr ⟨rfl,n+1,by rw[Int.natCast_add,← h1];rfl,by omega,by omega,hm,fun m m1 m2=>?_,hmb⟩
    rcases hmo m m1 m2 with h | h
    ·rw[h];omega
    ·omega
def okU (m:Int) (l:List SyT) (b:LiT):Prop:=
 (b=zLi∧∀ k,1≤k→k≤m→fitN k l=0)∨(kOK b.1∧b.1≤m∧∃ n:Nat,b.2.1=(n:Int)∧1≤n∧n≤fitN b.1 l∧keyT b=keyL b.1 n l∧(∀ k,1≤k→k≤m→∀ q:Nat,1≤q→q≤fitN k l→keyL b.1 n l≤keyL k q l)∧boL l.length b)
theorem okU_step {m:Int} {l:List SyT} {b g:LiT} (hm:0≤m∧m<4) (hl:l.length≤65536) (hb:okU m l b) (hg:okB (m+1) l g):okU (m+1) l (upd b g):=by
 have fle:=fun k=>fitN_le k l
 unfold upd
 rcases hg with ⟨h1,h2⟩ | ⟨e1,n,h1,h2,h3,h4,h5,h6⟩
 ·have hx:betB g b=false:=by
   subst h2
   unfold betB zLi
   simp
  rw[hx,if_neg (by decide)]
  rcases hb with ⟨q1,q2⟩ | ⟨q1,q2,q,q3,q4,q5,q6,q7,q8⟩
  ·refine .inl ⟨q1,fun k k1 k2=>?_⟩
   rcases Int.lt_or_le k (m+1) with h | h
   ·exact q2 k k1 (by omega)
   ·have:k=m+1:=by omega
    rw[this];exact h1
  ·refine .inr ⟨q1,by omega,q,q3,q4,q5,q6,fun k k1 k2 p p1 p2=>?_,q8⟩
   rcases Int.lt_or_le k (m+1) with h | h
   ·exact q7 k k1 (by omega) p p1 p2
   ·have:k=m+1:=by omega
    rw[this,h1] at p2;omega
 ·have gk:kOK g.1:=by rw[e1];unfold kOK;omega
  have f1:=fle (m+1)
  rcases hb with ⟨q1,q2⟩ | ⟨q1,q2,q,q3,q4,q5,q6,q7,q8⟩
  ·have hx:betB g b=true:=by
    subst q1
    unfold betB zLi
    rw[if_pos (.inr rfl)]
    simp;omega
   rw[hx,if_pos rfl]
   refine .inr ⟨gk,by omega,n,h1,h2,by rw[e1];exact h3,by rw[e1];exact h4,fun k k1 k2 p p1 p2=>?_,h6⟩
   rcases Int.lt_or_le k (m+1) with h | h
   ·rw[q2 k k1 (by omega)] at p2;omega
   ·have hk:k=m+1:=by omega
    subst hk
    rw[e1];exact h5 p p1 p2
  ·have f2:=fle b.1
   have hkey:=betB_key (a:=g) (b:=b) gk q1 (by omega) (by omega) (by unfold boL at h6;omega) (by unfold boL at q8;omega)
   have e2:keyL g.1 n l=keyL (m+1) n l:=by rw[e1]
   split
   ·rename_i hx
    have hlt:=hkey.1 hx
    refine .inr ⟨gk,by omega,n,h1,h2,by rw[e1];exact h3,by rw[e1];exact h4,fun k k1 k2 p p1 p2=>?_,h6⟩
    rcases Int.lt_or_le k (m+1) with h | h
    ·have:=q7 k k1 (by omega) p p1 p2
     omega
    ·have hk:k=m+1:=by omega
     subst hk
     rw[e2];exact h5 p p1 p2
   ·rename_i hx
    have hlt:¬ keyT g<keyT b:=fun h=>hx (hkey.2 h)
    refine .inr ⟨q1,by omega,q,q3,q4,q5,q6,fun k k1 k2 p p1 p2=>?_,q8⟩
    rcases Int.lt_or_le k (m+1) with h | h
    ·exact q7 k k1 (by omega) p p1 p2
    ·have hk:k=m+1:=by omega
     subst hk
     have:=h5 p p1 p2
     omega
theorem fit_some (s:SyT) (r:List SyT):(1:Nat)≤fitN 2 (s::r)∨(1:Nat)≤fitN 4 (s::r):=by
 cases h:s.1
 ·right
  rw[fitN,if_pos (by simp[canB,h])]
  split <;> omega
 ·left
  rw[fitN,if_pos (by simp[canB,h])]
  split <;> omega
theorem ok_all:∀ l:List SyT,l.length≤65536→(∀ k,kOK k→okB k l (beg l k))∧okL l (bst l)
 | [],_=>⟨fun k _=>.inl ⟨rfl,rfl⟩,.inl ⟨rfl,rfl⟩⟩
 | s::r,hl=>by
  have hr:=ok_all r (by rw[List.length_cons] at hl;omega)
  have hb:boL r.length (bst r):=by
   rcases hr.2 with h | ⟨_,_,n,_,_,_,_,_,h⟩
   ·rw[h.2];exact boL_z _
   ·exact h
  have hg:∀ k,kOK k→okB k (s::r) (beg (s::r) k):=fun k hk=>okB_cons hk (hr.1 k hk) hb hl
  refine ⟨hg,?_⟩
  have h0:okU 0 (s::r) zLi:=.inl ⟨rfl,fun k k1 k2=>by omega⟩
  have h1:=okU_step (m:=0) (by omega) hl h0 (hg 1 (by unfold kOK;omega))
  have h2:=okU_step (m:=1) (by omega) hl h1 (hg 2 (by unfold kOK;omega))
  have h3:=okU_step (m:=2) (by omega) hl h2 (hg 3 (by unfold kOK;omega))
  have h4:=okU_step (m:=3) (by omega) hl h3 (hg 4 (by unfold kOK;omega))
  rw[bst_cons]
  rcases h4 with ⟨q1,q2⟩ | ⟨q1,q2,q,q3,q4,q5,q6,q7,q8⟩
  ·exfalso
   have a:=q2 2 (by omega) (by omega)
   have b:=q2 4 (by omega) (by omega)
   rcases fit_some s r with h | h <;> omega
  ·exact .inr ⟨by simp,q1,q,q3,q4,q5,q6,fun k hk p p1 p2=>q7 k hk.1 hk.2 p p1 p2,q8⟩
theorem bst_bo (l:List SyT) (hl:l.length≤65536):boL l.length (bst l):=by
 rcases (ok_all l hl).2 with h | ⟨_,_,n,_,_,_,_,_,h⟩
 ·rw[h.2];exact boL_z _
 ·exact h
end Go.Proofs.YtncocpjkaggnjaaGreatDoor
namespace Go.Proofs.YtncocpjkaggnjaaGreatDoor
open Go.Px Go.Ax
set_option maxRecDepth 100000
abbrev suS:Sh:=.pair iI iI
abbrev liS:Sh:=.pair iI (.pair iI suS)
set_option maxRecDepth 100000
theorem vc_isnan (a:Int) (Q:QT) (R:RT):sy tt G0 [] Tryz.f155.ntmps Tryz.f155.results.toList Q R 1000 [.code (bodyOf Tryz.f155)] (entry [iI] (a,())) =
  (Q [.bool (decide (a≠a))] []):=by kernel_rfl
theorem vc_canh (k:Int) (s:SyT) (Q:QT) (R:RT):sy tt G0 [] Tryz.f156.ntmps Tryz.f156.results.toList Q R 1000 [.code (bodyOf Tryz.f156)] (entry [iI,syS] (k,s,())) =
  (bc (decide (k=(1:Int))) (bc s.1 (Q [.bool (decide (s.2.2=(0:Int)))] [(3,.var [.bool s.1,.int .i64 s.2.1,.int .u8 s.2.2])]) (false=false ∧
 Q [.bool false] [(3,.var [.bool s.1,.int .i64 s.2.1,.int .u8 s.2.2])])) (bc (decide (k=(2:Int))) (Q [.bool s.1] [(3,.var [.bool s.1,.int .i64 s.2.1,.int .u8 s.2.2])]) (Q [.bool !s.1] [(3,.var [.bool s.1,.int .i64 s.2.1,.int .u8 s.2.2])]))):=by kernel_rfl
def mem_goes_m0 (s t:SyT):List (Nat × LB):=[(4,.var [.bool s.1,.int .i64 s.2.1,.int .u8 s.2.2]),(5,.var [.bool t.1,.int .i64 t.2.1,.int .u8 t.2.2])]
theorem vc_goes (k:Int) (s t:SyT) (Q:QT) (R:RT):sy tt G0 [] Tryz.f157.ntmps Tryz.f157.results.toList Q R 1000 [.code (bodyOf Tryz.f157)] (entry [iI,syS,syS] (k,s,t,())) =
  (bc (decide (k=(1:Int))) (bc (decide (k=(1:Int))) (Q [.bool (decide (t.2.1=IntKind.i64.wrap (s.2.1+(1:Int))))] (mem_goes_m0 s t)) (bc (decide (k=(3:Int))) (Q [.bool (decide (t.2.2=s.2.2))] (mem_goes_m0 s t)) (Q [.bool true] (mem_goes_m0 s t)))) (bc (decide (k=(2:Int))) (Q [.bool (decide (t.2.1=IntKind.i64.wrap (s.2.1+(1:Int))))] (mem_goes_m0 s t)) (bc (decide (k=(3:Int))) (Q [.bool (decide (t.2.2=s.2.2))] (mem_goes_m0 s t)) (Q [.bool true] (mem_goes_m0 s t))))):=by kernel_rfl
theorem vc_or (x:List Int) (Q:QT) (R:RT):sy tt G0 [] Tryz.f158.ntmps Tryz.f158.results.toList Q R 1000 [.code (bodyOf Tryz.f158)] (entry [.sl iI] (x,())) =
  (R (hd Tryz.f158 0) { env:=[(0,.sl iI x),(2,.int .i64 0),(3,.int .i64 0),(6,.sl iI x),(7,.int .i64 (x.length:Int)),(8,.int .i64 0)],blk:=[] }):=by kernel_rfl
theorem vc_orL (x:List Int) (i:Nat) (Q:QT) (R:RT):sy tt G0 [] Tryz.f158.ntmps Tryz.f158.results.toList Q R 1000 (hd Tryz.f158 0) ⟨[(3,.int .i64 0),(6,.sl iI x),(7,.int .i64 x.length),(8,.int .i64 (i:Nat))],[]⟩ =
  (bc (decide ((i:Int)<(x.length:Int))) ((0:Int)≤(i:Int) ∧
 (i:Int)<(x.length:Int) ∧
 bc (decide (gt iI x (i:Int).toNat≠(0:Int))) (Q [.int .i64 (gt iI x (i:Int).toNat)] []) (R (hd Tryz.f158 0) { env:=[(3,.int .i64 0),(5,.int .i64 (gt iI x (i:Int).toNat)),(6,.sl iI x),(7,.int .i64 (x.length:Int)),(8,.int .i64 (IntKind.i64.wrap ((i:Int)+(1:Int)))),(9,.bool (decide ((i:Int)<(x.length:Int)))),(10,.elv iI (gt iI x (i:Int).toNat)),(11,.int .i64 (gt iI x (i:Int).toNat)),(12,.int .i64 (gt iI x (i:Int).toNat)),(13,.int .i64 0),(14,.bool (decide (gt iI x (i:Int).toNat≠(0:Int)))),(16,.int .i64 (IntKind.i64.wrap ((i:Int)+(1:Int))))],blk:=[] })) (Q [.int .i64 0] [])):=by kernel_rfl
end Go.Proofs.YtncocpjkaggnjaaGreatDoor
namespace Go.Proofs.YtncocpjkaggnjaaGreatDoor
open Go.Px Go.Ax
set_option maxRecDepth 100000
attribute [local irreducible] Go.Px.sy Go.Px.syE
def ctNan:Ctr:=⟨[iI],fun _=>True,fun _=>[.bool false],fun _=>[]⟩
theorem nan_held:Held Tryz.prog G0 155 ctNan:=Held.run cx0 (fn:=Tryz.f155) rfl rfl ⟨by decide,by decide⟩ fun x _=>by
 refine (vc_isnan x.1 _ _).mpr ?_
 rw[decide_eq_false (by simp)]
 exact QC.flat rfl rfl rfl
def CNan:CV:=[(155,.inl ctNan)]
theorem cxNan:CxOK Tryz.prog tt G0 CNan:=cx0.cons nan_held (fn:=Tryz.f155) rfl rfl rfl
def ctCan:Ctr:=⟨[iI,syS],fun _=>True,fun x=>[.bool (canB x.1 x.2.1)],fun _=>[]⟩
theorem can_run (k:Int) (o:Bool) (a b:Int) (R:List Item→PS→Prop):sy tt G0 [] Tryz.f156.ntmps Tryz.f156.results.toList (QC ctCan (k,(o,a,b),())) R 1000 [.code (bodyOf Tryz.f156)] (entry [iI,syS] (k,(o,a,b),())):=by
 refine (vc_canh k (o,a,b) _ _).mpr ?_
 refine bc_of (fun h=>?_) (fun h=>bc_of (fun h2=>?_) (fun h2=>?_))
 ·have h:=of_decide_eq_true h
  subst h
  refine bc_of (fun h=>?_) (fun h=>⟨rfl,?_⟩)
  ·have h:o=true:=h
   subst h
   exact QC.flat rfl rfl rfl
  ·have h:o=false:=h
   subst h
   exact QC.flat rfl rfl rfl
 ·have h2:=of_decide_eq_true h2
  subst h2
  exact QC.flat rfl rfl rfl
 ·have h:=of_decide_eq_false h
  have h2:=of_decide_eq_false h2
  refine QC.flat ?_ rfl rfl
  show [SV.bool (canB k (o,a,b))]=_
  unfold canB
  rw[if_neg h,if_neg h2]
theorem can_held:Held Tryz.prog G0 156 ctCan:=Held.run cx0 (fn:=Tryz.f156) rfl rfl ⟨by decide,by decide⟩ fun ⟨k,⟨o,a,b⟩,_⟩ _=>can_run k o a b _
def ctGoe:Ctr:=⟨[iI,syS,syS],fun _=>True,fun x=>[.bool (goK x.1 x.2.1 x.2.2.1)],fun _=>[]⟩
theorem goe_run (k:Int) (s t:SyT) (R:List Item→PS→Prop):sy tt G0 [] Tryz.f157.ntmps Tryz.f157.results.toList (QC ctGoe (k,s,t,())) R 1000 [.code (bodyOf Tryz.f157)] (entry [iI,syS,syS] (k,s,t,())):=by
 refine (vc_goes k s t _ _).mpr ?_
 have out:∀ b,goK k s t=b→ctGoe.out (k,s,t,())=[SV.bool b]:=fun b e=>congrArg (fun b=>[SV.bool b]) e
 refine bc_of (fun h=>?_) (fun h=>bc_of (fun h2=>?_) (fun h2=>bc_of (fun h3=>?_) (fun h3=>?_)))
 ·have h:=of_decide_eq_true h
  subst h
  exact QC.flat (out _ rfl) rfl rfl
 ·have h2:=of_decide_eq_true h2
  subst h2
  exact QC.flat (out _ rfl) rfl rfl
 ·have h3:=of_decide_eq_true h3
  subst h3
  exact QC.flat (out _ rfl) rfl rfl
 ·have h:=of_decide_eq_false h
  have h2:=of_decide_eq_false h2
  have h3:=of_decide_eq_false h3
  exact QC.flat (out _ (by unfold goK;rw[if_neg (by omega),if_neg h3])) rfl rfl
theorem goe_held:Held Tryz.prog G0 157 ctGoe:=Held.run cx0 (fn:=Tryz.f157) rfl rfl ⟨by decide,by decide⟩ fun ⟨k,s,t,_⟩ _=>goe_run k s t _
def orF:List Int→Int
 | []=>0
 | a::l=>if a≠0 then a else orF l
def ctOr:Ctr:=⟨[.sl iI],fun x=>List.length x.1<1000000,fun x=>[.int .i64 (orF x.1)],fun _=>[]⟩
theorem or_loop (x:List Int) (hl:x.length<1000000):∀ (c i:Nat),x.length-i=c→i≤x.length →
  GD 158 Tryz.f158 (fun rs _=>rs=[.int .i64 (orF (x.drop i))]) (hd Tryz.f158 0) ⟨[(3,.int .i64 0),(6,.sl iI x),(7,.int .i64 x.length),(8,.int .i64 (i:Nat))],[]⟩:=by
 intro c
 induction c with
 | zero=>
  intro i hc hi
  refine sy_go cx0 (vc_orL x i _ _) ?_
  rw[decide_eq_false (by omega),bc_f,List.drop_eq_nil_of_le (by omega)]
  rfl
 | succ c ih=>
  intro i hc hi
  have hil:i<x.length:=by omega
  have nx:=ih (i+1) (by omega) (by omega)
  have e:gt iI x i=x[i]:=gtE (e:=iI) hil
  refine sy_go cx0 (vc_orL x i _ _) ?_
  rw[decide_eq_true (show (i:Int)<(x.length:Int) by omega),bc_t,Int.toNat_natCast,IntWalk.i64_in ((i:Int)+1) (by omega),e]
  rw[List.drop_eq_getElem_cons hil]
  refine ⟨by omega,by omega,bc_of (fun h=>?_) (fun h=>?_)⟩
  ·have h:x[i]≠0:=of_decide_eq_true h
   show _=_
   rw[orF,if_pos h]
  ·have h:¬ x[i]≠0:=of_decide_eq_false h
   rw[orF,if_neg h]
   exact nx.only ⟨rfl,rfl,rfl,rfl,trivial⟩ trivial
theorem or_held:Held Tryz.prog G0 158 ctOr:=
 Held.of cx0 (fn:=Tryz.f158) rfl rfl ⟨by decide,by decide⟩ fun ⟨x,_⟩ hp=>
  sy_go cx0 (vc_or x _ _) (((or_loop x hp _ 0 rfl (by omega)).post fun rs blk hq=>QC.flat (by rw[hq];rfl) rfl (by rw[hq];rfl)).only ⟨rfl,rfl,rfl,rfl,trivial⟩ trivial)
end Go.Proofs.YtncocpjkaggnjaaGreatDoor
namespace Go.Proofs.YtncocpjkaggnjaaGreatDoor
open Go.Px Go.Ax
set_option maxRecDepth 100000
def cmF (a b:Int):Int:=if a<b then -1 else if b<a then 1 else 0
def ctCmp:Ctr:=⟨[iI,iI],fun _=>True,fun x=>[.int .i64 (cmF x.1 x.2.1)],fun _=>[]⟩
set_option maxRecDepth 100000
theorem vc_cmp (a b:Int) (Q:QT) (R:RT):sy tt G0 CNan Tryz.f159.ntmps Tryz.f159.results.toList Q R 1000 [.code (bodyOf Tryz.f159)] (entry [iI,iI] (a,b,())) =
  (ctNan.pre (a,()) ∧
 ctNan.pre (b,()) ∧
 bc (decide (a<b)) (Q [.int .i64 (-1:Int)] []) (bc (decide (b<a)) (Q [.int .i64 1] []) (Q [.int .i64 0] []))):=by kernel_rfl
def mem_isB_m0 (a b:LiT):List (Nat × LB):=[(2,.var [.int .i64 a.1,.int .i64 a.2.1,.int .i64 a.2.2.1,.int .i64 a.2.2.2]),(3,.var [.int .i64 b.1,.int .i64 b.2.1,.int .i64 b.2.2.1,.int .i64 b.2.2.2])]
theorem vc_isB (a b:LiT) (Q:QT) (R:RT):sy tt G0 [(159,.inl ctCmp),(158,.inl ctOr)] Tryz.f148.ntmps Tryz.f148.results.toList Q R 1000 [.code (bodyOf Tryz.f148)] (entry [liS,liS] (a,b,())) =
  (bc (decide (a.2.1=(0:Int))) (true=true ∧
 bc (decide ((0:Int)<a.2.1)) (Q [.bool (decide (b.2.1=(0:Int)))] (mem_isB_m0 a b)) (false=false ∧
 Q [.bool false] (mem_isB_m0 a b))) (bc (bif false then true else decide (b.2.1=(0:Int))) (bc (decide ((0:Int)<a.2.1)) (Q [.bool (decide (b.2.1=(0:Int)))] (mem_isB_m0 a b)) (false=false ∧
 Q [.bool false] (mem_isB_m0 a b))) (bc (!decide ([a.2.2.1,a.2.2.2]=[b.2.2.1,b.2.2.2])) (ctCmp.pre (a.2.2.1,b.2.2.1,()) ∧
 ctCmp.pre (a.2.2.2,b.2.2.2,()) ∧
 0+(2:Nat)≤(((List.replicate (2:Nat) iI.dflt).set (0:Nat) (cmF a.2.2.1 b.2.2.1)).set (1:Nat) (cmF a.2.2.2 b.2.2.2)).length ∧
 ctOr.pre (winL iI (0:Nat) (2:Nat) (((List.replicate (2:Nat) iI.dflt).set (0:Nat) (cmF a.2.2.1 b.2.2.1)).set (1:Nat) (cmF a.2.2.2 b.2.2.2)),()) ∧
 Q [.bool (decide (orF (winL iI (0:Nat) (2:Nat) (((List.replicate (2:Nat) iI.dflt).set (0:Nat) (cmF a.2.2.1 b.2.2.1)).set (1:Nat) (cmF a.2.2.2 b.2.2.2)))<(0:Int)))] [(2,.var [.int .i64 a.1,.int .i64 a.2.1,.int .i64 a.2.2.1,.int .i64 a.2.2.2]),(3,.var [.int .i64 b.1,.int .i64 b.2.1,.int .i64 b.2.2.1,.int .i64 b.2.2.2]),(42,.row 3 iI (((List.replicate (2:Nat) iI.dflt).set (0:Nat) (cmF a.2.2.1 b.2.2.1)).set (1:Nat) (cmF a.2.2.2 b.2.2.2)))]) (bc (decide (a.1≠b.1)) (Q [.bool (decide (a.1<b.1))] (mem_isB_m0 a b)) (Q [.bool (decide (b.2.1<a.2.1))] (mem_isB_m0 a b)))))):=by kernel_rfl
end Go.Proofs.YtncocpjkaggnjaaGreatDoor
namespace Go.Proofs.YtncocpjkaggnjaaGreatDoor
open Go.Px Go.Ax
set_option maxRecDepth 100000
attribute [local irreducible] Go.Px.sy Go.Px.syE
theorem cmp_run (a b:Int) (R:List Item→PS→Prop):sy tt G0 CNan Tryz.f159.ntmps Tryz.f159.results.toList (QC ctCmp (a,b,())) R 1000 [.code (bodyOf Tryz.f159)] (entry [iI,iI] (a,b,())):=by
 refine (vc_cmp a b _ _).mpr ⟨trivial,trivial,?_⟩
 have out:∀ n,cmF a b=n→ctCmp.out (a,b,())=[SV.int .i64 n]:=fun b e=>congrArg (fun b=>[SV.int .i64 b]) e
 refine bc_of (fun h=>?_) (fun h=>bc_of (fun h2=>?_) (fun h2=>?_))
 ·exact QC.flat (out _ (by unfold cmF;rw[if_pos (of_decide_eq_true h)])) rfl rfl
 ·exact QC.flat (out _ (by unfold cmF;rw[if_neg (of_decide_eq_false h),if_pos (of_decide_eq_true h2)])) rfl rfl
 ·exact QC.flat (out _ (by unfold cmF;rw[if_neg (of_decide_eq_false h),if_neg (of_decide_eq_false h2)])) rfl rfl
theorem cmp_held:Held Tryz.prog G0 159 ctCmp:=Held.run cxNan (fn:=Tryz.f159) rfl rfl ⟨by decide,by decide⟩ fun ⟨a,b,_⟩ _=>cmp_run a b _
def ctBet:Ctr:=⟨[liS,liS],fun _=>True,fun x=>[.bool (betB x.1 x.2.1)],fun _=>[]⟩
theorem cx_isB:CxOK Tryz.prog tt G0 [(159,.inl ctCmp),(158,.inl ctOr)]:=(cx0.cons or_held (fn:=Tryz.f158) rfl rfl rfl).cons cmp_held (fn:=Tryz.f159) rfl rfl rfl
theorem isB_run (k n c o k' n' c' o':Int) (R:List Item→PS→Prop):sy tt G0 [(159,.inl ctCmp),(158,.inl ctOr)] Tryz.f148.ntmps Tryz.f148.results.toList (QC ctBet ((k,n,c,o),(k',n',c',o'),())) R 1000 [.code (bodyOf Tryz.f148)] (entry [liS,liS] ((k,n,c,o),(k',n',c',o'),())):=by
 refine (vc_isB (k,n,c,o) (k',n',c',o') _ _).mpr ?_
 have out:∀ b,betB (k,n,c,o) (k',n',c',o')=b→ctBet.out ((k,n,c,o),(k',n',c',o'),())=[SV.bool b]:=fun b e=>congrArg (fun b=>[SV.bool b]) e
 refine bc_of (fun h=>⟨rfl,?_⟩) (fun h=>bc_of (fun h2=>?_) (fun h2=>?_))
 ·have h:n=0:=of_decide_eq_true h
  refine bc_of (fun h2=>?_) (fun h2=>⟨rfl,?_⟩)
  ·have h2:0<n:=of_decide_eq_true h2
   exact QC.flat (out _ (by unfold betB;rw[if_pos (.inl h)];simp[h2])) rfl rfl
  ·have h2:¬ 0<n:=of_decide_eq_false h2
   exact QC.flat (out _ (by unfold betB;rw[if_pos (.inl h)];simp[h2])) rfl rfl
 ·have h2:decide (n'=0)=true:=h2
  have h2:n'=0:=of_decide_eq_true h2
  refine bc_of (fun h3=>?_) (fun h3=>⟨rfl,?_⟩)
  ·have h3:0<n:=of_decide_eq_true h3
   exact QC.flat (out _ (by unfold betB;rw[if_pos (.inr h2)];simp[h3])) rfl rfl
  ·have h3:¬ 0<n:=of_decide_eq_false h3
   exact QC.flat (out _ (by unfold betB;rw[if_pos (.inr h2)];simp[h3])) rfl rfl
 ·have h:¬ n=0:=of_decide_eq_false h
  have h2:decide (n'=0)=false:=h2
  have h2:¬ n'=0:=of_decide_eq_false h2
  have hz:¬ (n=0∨n'=0):=by omega
  refine bc_of (fun h3=>⟨trivial,trivial,Nat.le_refl 2,(show (2:Nat)<1000000 by decide),?_⟩) (fun h3=>bc_of (fun h4=>?_) (fun h4=>?_))
  ·have h3:¬ (c=c'∧o=o'):=by
    intro e
    rw[e.1,e.2] at h3
    simp at h3
   have ev:orF (winL iI 0 2 (((List.replicate 2 iI.dflt).set 0 (cmF c c')).set 1 (cmF o o')))=orF [cmF c c',cmF o o']:=rfl
   refine QC.flat (out _ ?_) rfl rfl
   show betB (k,n,c,o) (k',n',c',o')=decide (orF (winL iI 0 2 (((List.replicate 2 iI.dflt).set 0 (cmF c c')).set 1 (cmF o o')))<0)
   rw[ev]
   unfold betB
   simp only[if_neg hz]
   by_cases hc:c=c'
   ·have ho:o≠o':=fun e=>h3 ⟨hc,e⟩
    rw[if_neg (by simpa using hc),if_pos ho]
    refine decide_eq_decide.2 ?_
    have e1:cmF c c'=0:=by unfold cmF;rw[if_neg (by omega),if_neg (by omega)]
    rw[orF,if_neg (by simpa using e1)]
    unfold cmF
    simp only[orF]
    split
    ·simp;omega
    ·split
     ·simp;omega
     ·omega
   ·rw[if_pos hc]
    refine decide_eq_decide.2 ?_
    unfold cmF
    simp only[orF]
    split
    ·simp;omega
    ·split
     ·simp;omega
     ·omega
  ·have h3:c=c'∧o=o':=by simpa using h3
   have h4:k≠k':=of_decide_eq_true h4
   exact QC.flat (out _ (by unfold betB;simp only[if_neg hz];rw[if_neg (by simpa using h3.1),if_neg (by simpa using h3.2),if_pos h4])) rfl rfl
  ·have h3:c=c'∧o=o':=by simpa using h3
   have h4:¬ k≠k':=of_decide_eq_false h4
   exact QC.flat (out _ (by unfold betB;simp only[if_neg hz];rw[if_neg (by simpa using h3.1),if_neg (by simpa using h3.2),if_neg h4])) rfl rfl
theorem isB_held:Held Tryz.prog G0 148 ctBet:=Held.run cx_isB (fn:=Tryz.f148) rfl rfl ⟨by decide,by decide⟩ fun ⟨⟨k,n,c,o⟩,⟨k',n',c',o'⟩,_⟩ _=>isB_run k n c o k' n' c' o' _
end Go.Proofs.YtncocpjkaggnjaaGreatDoor
namespace Go.Proofs.YtncocpjkaggnjaaGreatDoor
open Go.Px Go.Ax
def mdK (k:Int) (l:List SyT):OpT:=(k,(gtY l 0).2.1,(l.length:Int),if k=3 then (gtY l 0).2.2 else 0,if k=2∨k=4 then l.map fun s=>s.2.2 else [])
def isK (k:Int) (l:List SyT) (n:Nat):Prop:=∀ j,j<n→canB k (gtY l j)=true∧(k=1∨k=2→(gtY l j).2.1=(gtY l 0).2.1+j)∧(k=3→(gtY l j).2.2=(gtY l 0).2.2)
theorem canB_old {k:Int} {s:SyT} (hk:k=1∨k=2) (h:canB k s=true):s.1=true:=by
 unfold canB at h
 rcases hk with e | e
 ·subst e
  rw[if_pos rfl] at h
  simp at h;exact h.1
 ·subst e
  rw[if_neg (by decide),if_pos rfl] at h
  exact h
theorem gtY_s (s:SyT) (r:List SyT) (j:Nat):gtY (s::r) (j+1)=gtY r j:=by
 simp[gt]
theorem gtY_z (s:SyT) (r:List SyT):gtY (s::r) 0=s:=by
 simp[gt]
section
variable {m:Int} (hm:m<16777216)
include hm
theorem fit_is {k:Int}:∀ {l:List SyT},(∀ s∈l,sOK m s=true)→isK k l (fitN k l)
 | [],_=>fun j h=>by rw[fitN] at h;omega
 | s::r,hr=>by
  have ih:=fit_is (k:=k) (l:=r) fun x hx=>hr x (by simp[hx])
  have hs:=hr s (by simp)
  intro j hj
  rw[fitN] at hj
  by_cases hc:canB k s=true
  ·rw[if_pos hc] at hj
   rcases j with _ | j
   ·rw[gtY_z]
    exact ⟨hc,fun _=>by simp,fun _=>rfl⟩
   ·rw[gtY_s,gtY_z]
    by_cases hg:goK k s (gtY r 0)=true
    ·rw[if_pos hg] at hj
     obtain ⟨h1,h2,h3⟩:=ih j (by omega)
     refine ⟨h1,fun hk=>?_,fun hk=>?_⟩
     ·have b:=sOK_t hs (canB_old hk hc)
      unfold goK at hg
      rw[if_pos hk,decide_eq_true_eq,IntWalk.i64_in _ (by omega)] at hg
      rw[h2 hk,hg]
      omega
     ·unfold goK at hg
      rw[if_neg (by omega),if_pos hk,decide_eq_true_eq] at hg
      rw[h3 hk,hg]
    ·rw[if_neg hg] at hj;omega
  ·rw[if_neg hc] at hj;omega
theorem mdK_sym {k:Int} {l:List SyT} (hk:kOK k) (hr:∀ s∈l,sOK m s=true) (hi:isK k l l.length):symsO k.toNat (mdK k l)=l:=by
 have key:∀ (el:Nat→SyT),(∀ j,j<l.length→el j=gtY l j)→gen el l.length 0=l:=fun el h=>by
  refine List.ext_getElem? fun j=>?_
  by_cases hj:j<l.length
  ·rw[gen_get _ _ _ _ (by omega),Nat.zero_add,h j hj,List.getElem?_eq_getElem (by omega),← gtY_at (by omega)]
  ·rw[List.getElem?_eq_none (by rw[gen_len];omega),List.getElem?_eq_none (by omega)]
 have dat:∀ j,j<l.length→gtB (l.map fun s=>s.2.2) j=(gtY l j).2.2:=fun j hj=>by
  rw[gtB_at (by rw[List.length_map];omega),List.getElem_map,← gtY_at (by omega)]
 have ext3:∀ (s:SyT) (x:Bool) (y z:Int),s.1=x→s.2.1=y→s.2.2=z→(x,y,z)=s:=fun s x y z h1 h2 h3=>by subst h1;subst h2;subst h3;rfl
 have ok:∀ j,j<l.length→sOK m (gtY l j)=true:=fun j hj=>by rw[gtY_at hj];exact hr _ (List.getElem_mem hj)
 have at':k=1∨k=2→∀ j,j<l.length→(gtY l j).1=true∧IntKind.i64.wrap ((gtY l 0).2.1+(j:Int))=(gtY l j).2.1:=fun hk j hj=>by
  have h:=hi j hj
  have o:=canB_old hk h.1
  have b:=sOK_t (ok j hj) o
  have e:=h.2.1 hk
  have h0:=hi 0 (by omega)
  have b0:=sOK_t (ok 0 (by omega)) (canB_old hk h0.1)
  exact ⟨o,by rw[IntWalk.i64_in _ (by omega),e]⟩
 have lit:¬ (k=1∨k=2)→∀ j,j<l.length→(gtY l j).1=false∧(gtY l j).2.1=0:=fun hk j hj=>by
  have h:=(hi j hj).1
  unfold canB at h
  rw[if_neg (by omega),if_neg (by omega)] at h
  have o:(gtY l j).1=false:=by simpa using h
  exact ⟨o,sOK_f (ok j hj) o⟩
 rcases (show k=1∨k=2∨k=3∨k=4 by unfold kOK at hk;omega) with e | e | e | e
 ·subst e
  have c:cntO 1 (mdK 1 l)=l.length:=by show ((l.length:Int)).toNat=_;omega
  show gen _ (cntO 1 _) 0=_
  rw[c]
  refine key _ fun j hj=>?_
  obtain ⟨o,w⟩:=at' (.inl rfl) j hj
  have h:=(hi j hj).1
  unfold canB at h
  rw[if_pos rfl] at h
  simp at h
  exact ext3 _ _ _ _ o w.symm h.2
 ·subst e
  have c:cntO 2 (mdK 2 l)=l.length:=by show (l.map fun s=>s.2.2).length=_;rw[List.length_map]
  show gen _ (cntO 2 _) 0=_
  rw[c]
  refine key _ fun j hj=>?_
  obtain ⟨o,w⟩:=at' (.inr rfl) j hj
  exact ext3 _ _ _ _ o w.symm (dat j hj).symm
 ·subst e
  have c:cntO 3 (mdK 3 l)=l.length:=by show ((l.length:Int)).toNat=_;omega
  show gen _ (cntO 3 _) 0=_
  rw[c]
  refine key _ fun j hj=>?_
  obtain ⟨o,w⟩:=lit (by decide) j hj
  exact ext3 _ _ _ _ o w ((hi j hj).2.2 rfl)
 ·subst e
  have c:cntO 4 (mdK 4 l)=l.length:=by show (l.map fun s=>s.2.2).length=_;rw[List.length_map]
  show gen _ (cntO 4 _) 0=_
  rw[c]
  refine key _ fun j hj=>?_
  obtain ⟨o,w⟩:=lit (by decide) j hj
  exact ext3 _ _ _ _ o w (dat j hj).symm
theorem mdK_right {k:Int} {l:List SyT} (hk:kOK k) (hr:∀ s∈l,sOK m s=true) (hi:isK k l l.length) (h1:1≤l.length) (hl:l.length≤65536):isRB (mdK k l) m=true:=by
 have ok:∀ j,j<l.length→sOK m (gtY l j)=true:=fun j hj=>by rw[gtY_at hj];exact hr _ (List.getElem_mem hj)
 have part:k=1∨k=2→isPartB (gtY l 0).2.1 l.length m=true:=fun hk=>by
  have h0:=hi 0 (by omega)
  have b0:=sOK_t (ok 0 (by omega)) (canB_old hk h0.1)
  have h9:=hi (l.length-1) (by omega)
  have b9:=sOK_t (ok (l.length-1) (by omega)) (canB_old hk h9.1)
  have e:=h9.2.1 hk
  have w:IntKind.i64.wrap (m-(l.length:Int))=m-l.length:=IntWalk.i64_in _ (by omega)
  unfold isPartB
  rw[w]
  simp only[Bool.and_eq_true,decide_eq_true_eq]
  omega
 have lens:decide (1≤(mdK k l).2.2.1)=true∧decide ((mdK k l).2.2.1≤65536)=true:=by
  show decide (1≤(l.length:Int))=true∧decide ((l.length:Int)≤65536)=true
  simp only[decide_eq_true_eq]
  omega
 have lit:¬ (k=1∨k=2)→(gtY l 0).2.1=0:=fun hk=>by
  have h:=(hi 0 (by omega)).1
  unfold canB at h
  rw[if_neg (by omega),if_neg (by omega)] at h
  have o:(gtY l 0).1=false:=by simpa using h
  exact sOK_f (ok 0 (by omega)) o
 unfold isRB
 rw[lens.1,lens.2]
 unfold mdK kR
 rcases (show k=1∨k=2∨k=3∨k=4 by unfold kOK at hk;omega) with e | e | e | e
 ·subst e
  simp[rB,part (.inl rfl)]
 ·subst e
  simp[rB,part (.inr rfl)]
 ·subst e
  simp[rB,lit (by decide)]
 ·subst e
  simp[rB,lit (by decide)]
end
theorem mdK_cost {k:Int} {l:List SyT} (hk:kOK k) (hl:l.length≤65536):cN k.toNat (mdK k l)=hdC k+eaC k*(l.length:Int):=by
 rcases (show k=1∨k=2∨k=3∨k=4 by unfold kOK at hk;omega) with e | e | e | e
 ·subst e;show (4:Int)=hdC 1+eaC 1*_;simp[hdC,eaC]
 ·subst e
  show IntKind.i64.wrap (4+(l.length:Int))=_
  rw[IntWalk.i64_in _ (by omega)]
  simp[hdC,eaC]
 ·subst e;show (4:Int)=hdC 3+eaC 3*_;simp[hdC,eaC]
 ·subst e
  show IntKind.i64.wrap (2+(l.length:Int))=_
  rw[IntWalk.i64_in _ (by omega)]
  simp[hdC,eaC]
def cst (l:List SyT):Int:=(bst l).2.2.1
def oct (l:List SyT):Int:=(bst l).2.2.2
theorem eaN (k:Int) (n:Nat):0≤eaC k*(n:Int)∧eaC k*(n:Int)≤n:=by
 unfold eaC
 split
 ·omega
 ·omega
theorem bst_ne {l:List SyT} (hl:l.length≤65536) (h0:l≠[]):kOK (bst l).1∧∃ n:Nat,(bst l).2.1=(n:Int)∧1≤n∧n≤fitN (bst l).1 l∧(∀ k,kOK k→∀ m:Nat,1≤m→m≤fitN k l→keyL (bst l).1 n l≤keyL k m l) ∧
  cst l=hdC (bst l).1+eaC (bst l).1*(n:Int)+cst (l.drop n)∧oct l=1+oct (l.drop n):=by
 rcases (ok_all l hl).2 with ⟨h,_⟩ | ⟨_,hk,n,h1,h2,h3,h4,h5,h6⟩
 ·exact absurd h h0
 refine ⟨hk,n,h1,h2,h3,h5,?_⟩
 have hd:(l.drop n).length≤65536:=by rw[List.length_drop];omega
 have hb:=bst_bo (l.drop n) hd
 have hf:=fitN_le (bst l).1 l
 unfold keyT keyL wB at h4
 unfold boL at hb h6
 unfold cst oct
 have e1:=eaN (bst l).1 n
 generalize eaC (bst l).1*(n:Int)=e at *
 generalize (bst (l.drop n))=b at *
 rw[List.length_drop] at hb
 omega
def chF:Nat→List SyT→List OpT
 | 0,_=>[]
 | f+1,l=>if l=[] then [] else mdK (bst l).1 (l.take (bst l).2.1.toNat)::chF f (l.drop (bst l).2.1.toNat)
def chL (l:List SyT):List OpT:=chF l.length l
theorem isK_take {k:Int} {l:List SyT} {n q:Nat} (hq:n≤q) (h:isK k l q):isK k (l.take n) n:=fun j hj=>by
 have e:∀ j,j<n→gtY (l.take n) j=gtY l j:=fun j hj=>by simp[gt,hj]
 rw[e j hj,e 0 (by omega)]
 exact h j (by omega)
theorem ch_ok {m:Int} (hm:m<16777216):∀ (f:Nat) (l:List SyT),l.length≤f→l.length≤65536→(∀ s∈l,sOK m s=true) →
  symF (chF f l)=l∧(∀ x∈chF f l,isRB x m=true)∧costS (chF f l)=cst l∧((chF f l).length:Int)=oct l:=by
 intro f
 induction f with
 | zero=>
  intro l hf hl hr
  have e:l=[]:=List.eq_nil_of_length_eq_zero (by omega)
  subst e
  exact ⟨rfl,(fun x hx=>by cases hx),rfl,rfl⟩
 | succ f ih=>
  intro l hf hl hr
  by_cases h0:l=[]
  ·subst h0
   exact ⟨rfl,(fun x hx=>by cases hx),rfl,rfl⟩
  ·obtain ⟨hb,q,q1,q2,q3,q4,q5,q6⟩:=bst_ne hl h0
   have hq:=fitN_le (bst l).1 l
   have e:chF (f+1) l=mdK (bst l).1 (l.take q)::chF f (l.drop q):=by rw[chF,if_neg h0,q1,Int.toNat_natCast]
   rw[e]
   have tl:(l.take q).length=q:=by rw[List.length_take];omega
   have dl:(l.drop q).length=l.length-q:=List.length_drop ..
   obtain ⟨i1,i2,i3,i4⟩:=ih (l.drop q) (by omega) (by omega) fun s hs=>hr s (List.mem_of_mem_drop hs)
   have tr:∀ s∈l.take q,sOK m s=true:=fun s hs=>hr s (List.mem_of_mem_take hs)
   have ti:isK (bst l).1 (l.take q) (l.take q).length:=by rw[tl];exact isK_take q3 (fit_is hm hr)
   refine ⟨?_,fun x hx=>?_,?_,?_⟩
   ·rw[symF,i1]
    show symsO (bst l).1.toNat _++_=_
    rw[mdK_sym hm hb tr ti,List.take_append_drop]
   ·rcases List.mem_cons.1 hx with h | h
    ·subst h;exact mdK_right hm hb tr ti (by omega) (by omega)
    ·exact i2 x h
   ·rw[costS,i3]
    show cN (bst l).1.toNat _+_=_
    rw[mdK_cost hb (by omega),q5,tl]
   ·rw[List.length_cons,q6]
    omega
end Go.Proofs.YtncocpjkaggnjaaGreatDoor
namespace Go.Proofs.YtncocpjkaggnjaaGreatDoor
open Go.Px Go.Ax
set_option maxRecDepth 100000
def CBe:CV:=[(156,.inl ctCan),(157,.inl ctGoe),(148,.inl ctBet)]
theorem cxBe:CxOK Tryz.prog tt G0 CBe:=((cx0.cons isB_held (fn:=Tryz.f148) rfl rfl rfl).cons goe_held (fn:=Tryz.f157) rfl rfl rfl).cons can_held (fn:=Tryz.f156) rfl rfl rfl
def preBg (k:Int) (l:List SyT) (g:LiT):Prop:=kOK k∧1≤l.length∧(g.2.1=0∨2≤l.length)
def begL (k:Int) (l:List SyT) (w:Int × Int) (g:LiT):LiT:=begF k (gtY l 0) (gtY l 1) w g
def boB (w:Int × Int) (g:LiT):Prop:=(0≤w.1∧w.1<16777216∧0≤w.2∧w.2<16777216)∧0≤g.2.1∧g.2.1<16777216∧0≤g.2.2.1∧g.2.2.1<16777216
def ctBg:Ctr:=⟨[iI,.sl syS,suS,liS],fun x=>preBg x.1 x.2.1 x.2.2.2.1∧boB x.2.2.1 x.2.2.2.1,fun x=>[.agg [.int .i64 (begL x.1 x.2.1 x.2.2.1 x.2.2.2.1).1,.int .i64 (begL x.1 x.2.1 x.2.2.1 x.2.2.2.1).2.1,.int .i64 (begL x.1 x.2.1 x.2.2.1 x.2.2.2.1).2.2.1,.int .i64 (begL x.1 x.2.1 x.2.2.1 x.2.2.2.1).2.2.2]],fun _=>[]⟩
def preMk (k:Int) (l:List SyT):Prop:=kOK k∧1≤l.length∧l.length<16777216
def ctMk:Ctr:=⟨[iI,.sl syS],fun x=>preMk x.1 x.2.1,fun x=>mdV (mdK x.1 x.2.1),fun _=>[]⟩
set_option maxRecDepth 100000
def mem_beg_m0 (k:Int) (w:Int × Int) (g:LiT):List (Nat × LB):=[(6,.var [.int .i64 w.1,.int .i64 w.2]),(7,.var [.int .i64 g.1,.int .i64 g.2.1,.int .i64 g.2.2.1,.int .i64 g.2.2.2]),(8,.var [.int .i64 k,.int .i64 1,.int .i64 (IntKind.i64.wrap (IntKind.i64.wrap (w.1+(gt (iI.pair iI) costsL k.toNat).1)+(gt (iI.pair iI) costsL k.toNat).2)),.int .i64 (IntKind.i64.wrap (w.2+(1:Int)))]),(9,.var [.int .i64 (gt (iI.pair iI) costsL k.toNat).1,.int .i64 (gt (iI.pair iI) costsL k.toNat).2]),(10,.var [.int .i64 k,.int .i64 1,.int .i64 (IntKind.i64.wrap (IntKind.i64.wrap (w.1+(gt (iI.pair iI) costsL k.toNat).1)+(gt (iI.pair iI) costsL k.toNat).2)),.int .i64 (IntKind.i64.wrap (w.2+(1:Int)))])]
theorem vc_beg (k:Int) (l:List SyT) (w:Int × Int) (g:LiT) (Q:QT) (R:RT):sy tt G0 CBe Tryz.f147.ntmps Tryz.f147.results.toList Q R 1000 [.code (bodyOf Tryz.f147)] (entry [iI,.sl syS,suS,liS] (k,l,w,g,())) =
  ((0:Int)≤(0:Int) ∧
 (0:Int)<(l.length:Int) ∧
 ctCan.pre (k,(gtY l (0)),()) ∧
 bc (!canB k (gtY l (0))) (Q [.agg [.int .i64 0,.int .i64 0,.int .i64 0,.int .i64 0]] [(6,.var [.int .i64 w.1,.int .i64 w.2]),(7,.var [.int .i64 g.1,.int .i64 g.2.1,.int .i64 g.2.2.1,.int .i64 g.2.2.2]),(8,.var [.int .i64 0,.int .i64 0,.int .i64 0,.int .i64 0])]) ((0:Int)≤k ∧
 k<(↑(5:Nat):Int) ∧
 bc (decide (g.2.1=(0:Int))) (true=true ∧
 Q [.agg [.int .i64 k,.int .i64 1,.int .i64 (IntKind.i64.wrap (IntKind.i64.wrap (w.1+(gt (iI.pair iI) costsL k.toNat).1)+(gt (iI.pair iI) costsL k.toNat).2)),.int .i64 (IntKind.i64.wrap (w.2+(1:Int)))]] (mem_beg_m0 k w g)) ((0:Int)≤(0:Int) ∧
 (0:Int)<(l.length:Int) ∧
 (0:Int)≤(1:Int) ∧
 (1:Int)<(l.length:Int) ∧
 ctGoe.pre (k,(gtY l (0)),(gtY l (1)),()) ∧
 bc (bif false then true else !goK k (gtY l (0)) (gtY l (1))) (Q [.agg [.int .i64 k,.int .i64 1,.int .i64 (IntKind.i64.wrap (IntKind.i64.wrap (w.1+(gt (iI.pair iI) costsL k.toNat).1)+(gt (iI.pair iI) costsL k.toNat).2)),.int .i64 (IntKind.i64.wrap (w.2+(1:Int)))]] (mem_beg_m0 k w g)) (ctBet.pre ((k,(1:Int),IntKind.i64.wrap (IntKind.i64.wrap (w.1+(gt (iI.pair iI) costsL k.toNat).1)+(gt (iI.pair iI) costsL k.toNat).2),IntKind.i64.wrap (w.2+(1:Int))),(k,IntKind.i64.wrap (g.2.1+(1:Int)),IntKind.i64.wrap (g.2.2.1+(gt (iI.pair iI) costsL k.toNat).2),g.2.2.2),()) ∧
 bc (betB (k,(1:Int),IntKind.i64.wrap (IntKind.i64.wrap (w.1+(gt (iI.pair iI) costsL k.toNat).1)+(gt (iI.pair iI) costsL k.toNat).2),IntKind.i64.wrap (w.2+(1:Int))) (k,IntKind.i64.wrap (g.2.1+(1:Int)),IntKind.i64.wrap (g.2.2.1+(gt (iI.pair iI) costsL k.toNat).2),g.2.2.2)) (Q [.agg [.int .i64 k,.int .i64 1,.int .i64 (IntKind.i64.wrap (IntKind.i64.wrap (w.1+(gt (iI.pair iI) costsL k.toNat).1)+(gt (iI.pair iI) costsL k.toNat).2)),.int .i64 (IntKind.i64.wrap (w.2+(1:Int)))]] [(6,.var [.int .i64 w.1,.int .i64 w.2]),(7,.var [.int .i64 g.1,.int .i64 g.2.1,.int .i64 g.2.2.1,.int .i64 g.2.2.2]),(8,.var [.int .i64 k,.int .i64 1,.int .i64 (IntKind.i64.wrap (IntKind.i64.wrap (w.1+(gt (iI.pair iI) costsL k.toNat).1)+(gt (iI.pair iI) costsL k.toNat).2)),.int .i64 (IntKind.i64.wrap (w.2+(1:Int)))]),(9,.var [.int .i64 (gt (iI.pair iI) costsL k.toNat).1,.int .i64 (gt (iI.pair iI) costsL k.toNat).2]),(10,.var [.int .i64 k,.int .i64 1,.int .i64 (IntKind.i64.wrap (IntKind.i64.wrap (w.1+(gt (iI.pair iI) costsL k.toNat).1)+(gt (iI.pair iI) costsL k.toNat).2)),.int .i64 (IntKind.i64.wrap (w.2+(1:Int)))]),(11,.var [.int .i64 k,.int .i64 (IntKind.i64.wrap (g.2.1+(1:Int))),.int .i64 (IntKind.i64.wrap (g.2.2.1+(gt (iI.pair iI) costsL k.toNat).2)),.int .i64 g.2.2.2])]) (Q [.agg [.int .i64 k,.int .i64 (IntKind.i64.wrap (g.2.1+(1:Int))),.int .i64 (IntKind.i64.wrap (g.2.2.1+(gt (iI.pair iI) costsL k.toNat).2)),.int .i64 g.2.2.2]] [(6,.var [.int .i64 w.1,.int .i64 w.2]),(7,.var [.int .i64 g.1,.int .i64 g.2.1,.int .i64 g.2.2.1,.int .i64 g.2.2.2]),(8,.var [.int .i64 k,.int .i64 (IntKind.i64.wrap (g.2.1+(1:Int))),.int .i64 (IntKind.i64.wrap (g.2.2.1+(gt (iI.pair iI) costsL k.toNat).2)),.int .i64 g.2.2.2]),(9,.var [.int .i64 (gt (iI.pair iI) costsL k.toNat).1,.int .i64 (gt (iI.pair iI) costsL k.toNat).2]),(10,.var [.int .i64 k,.int .i64 1,.int .i64 (IntKind.i64.wrap (IntKind.i64.wrap (w.1+(gt (iI.pair iI) costsL k.toNat).1)+(gt (iI.pair iI) costsL k.toNat).2)),.int .i64 (IntKind.i64.wrap (w.2+(1:Int)))]),(11,.var [.int .i64 k,.int .i64 (IntKind.i64.wrap (g.2.1+(1:Int))),.int .i64 (IntKind.i64.wrap (g.2.2.1+(gt (iI.pair iI) costsL k.toNat).2)),.int .i64 g.2.2.2])]))))):=by kernel_rfl
def mem_mk_m0 (k:Int) (l:List SyT):List (Nat × LB):=[(4,.var [.int .i64 k,.int .i64 (gtY l (0)).2.1,.int .i64 (l.length:Int),.int .u8 0,.nils]),(5,.var [.int .i64 k,.int .i64 (gtY l (0)).2.1,.int .i64 (l.length:Int),.int .u8 0,.nils])]
theorem vc_mk (k:Int) (l:List SyT) (Q:QT) (R:RT):sy tt G0 [] Tryz.f131.ntmps Tryz.f131.results.toList Q (fun it S=>R it (keepS [4,5,31,32,33] [4,5,29] S)) 1000 [.code (bodyOf Tryz.f131)] (entry [iI,.sl syS] (k,l,())) =
  ((0:Int)≤(0:Int) ∧
 (0:Int)<(l.length:Int) ∧
 bc (decide (k=(3:Int))) ((0:Int)≤(0:Int) ∧
 (0:Int)<(l.length:Int) ∧
 Q [.agg [.int .i64 k,.int .i64 (gtY l (0)).2.1,.int .i64 (l.length:Int),.int .u8 (gtY l (0)).2.2,.nils]] [(4,.var [.int .i64 k,.int .i64 (gtY l (0)).2.1,.int .i64 (l.length:Int),.int .u8 (gtY l (0)).2.2,.nils]),(5,.var [.int .i64 k,.int .i64 (gtY l (0)).2.1,.int .i64 (l.length:Int),.int .u8 (gtY l (0)).2.2,.nils])]) (bc (decide (k=(2:Int))) (bc (decide (k=(2:Int))) ((0:Int)≤(l.length:Int) ∧
 (l.length:Int)≤(l.length:Int) ∧
 (l.length:Int)<(2:Int) ^ (24:Nat) ∧
 (↑(1:Nat):Int)*(l.length:Int)≤(2:Int) ^ (48:Nat) ∧
 R (hd Tryz.f131 0) { env:=[(4,.ptr 4 0),(5,.ptr 5 0),(31,.sl syS l),(32,.int .i64 (l.length:Int)),(33,.int .i64 0)],blk:=[(4,.var [.int .i64 0,.int .i64 0,.int .i64 0,.int .u8 0,.nils]),(5,.var [.int .i64 k,.int .i64 (gtY l (0)).2.1,.int .i64 (l.length:Int),.int .u8 0,.win true uB 29 0 (l.length:Int).toNat]),(29,.row 5 uB (List.replicate (l.length:Int).toNat uB.dflt))] }) (Q [.agg [.int .i64 k,.int .i64 (gtY l (0)).2.1,.int .i64 (l.length:Int),.int .u8 0,.nils]] (mem_mk_m0 k l))) (bc (decide (k=(4:Int))) ((0:Int)≤(l.length:Int) ∧
 (l.length:Int)≤(l.length:Int) ∧
 (l.length:Int)<(2:Int) ^ (24:Nat) ∧
 (↑(1:Nat):Int)*(l.length:Int)≤(2:Int) ^ (48:Nat) ∧
 R (hd Tryz.f131 0) { env:=[(4,.ptr 4 0),(5,.ptr 5 0),(31,.sl syS l),(32,.int .i64 (l.length:Int)),(33,.int .i64 0)],blk:=[(4,.var [.int .i64 0,.int .i64 0,.int .i64 0,.int .u8 0,.nils]),(5,.var [.int .i64 k,.int .i64 (gtY l (0)).2.1,.int .i64 (l.length:Int),.int .u8 0,.win true uB 29 0 (l.length:Int).toNat]),(29,.row 5 uB (List.replicate (l.length:Int).toNat uB.dflt))] }) (Q [.agg [.int .i64 k,.int .i64 (gtY l (0)).2.1,.int .i64 (l.length:Int),.int .u8 0,.nils]] (mem_mk_m0 k l))))):=by kernel_rfl
end Go.Proofs.YtncocpjkaggnjaaGreatDoor
namespace Go.Proofs.YtncocpjkaggnjaaGreatDoor
open Go.Px Go.Ax
set_option maxRecDepth 100000
set_option maxRecDepth 100000
theorem vc_mkL (k a:Int) (b:List Int) (l:List SyT) (i:Nat) (Q:QT) (R:RT):sy tt G0 [] Tryz.f131.ntmps Tryz.f131.results.toList Q (fun it S=>R it (keepS [4,5,31,32,33] [4,5,29] S)) 1000 (hd Tryz.f131 0) ⟨[(4,.ptr 4 0),(5,.ptr 5 0),(31,.sl syS l),(32,.int .i64 l.length),(33,.int .i64 (i:Nat))],[(4,.var [.int .i64 0,.int .i64 0,.int .i64 0,.int .u8 0,.nils]),(5,.var [.int .i64 k,.int .i64 a,.int .i64 l.length,.int .u8 0,.win true uB 29 0 b.length]),(29,.row 5 uB b)]⟩ =
  (bc (decide ((i:Int)<(l.length:Int))) ((0:Int)≤(i:Int) ∧
 (i:Int)<(l.length:Int) ∧
 (0:Int)≤(i:Int) ∧
 (i:Int)<(b.length:Int) ∧
 0+(i:Int).toNat<b.length ∧
 R (hd Tryz.f131 0) { env:=[(4,.ptr 4 0),(5,.ptr 5 0),(31,.sl syS l),(32,.int .i64 (l.length:Int)),(33,.int .i64 (IntKind.i64.wrap ((i:Int)+(1:Int))))],blk:=[(4,.var [.int .i64 0,.int .i64 0,.int .i64 0,.int .u8 0,.nils]),(5,.var [.int .i64 k,.int .i64 a,.int .i64 (l.length:Int),.int .u8 0,.win true uB 29 0 b.length]),(29,.row 5 uB (b.set (0+(i:Int).toNat) (gtY l (i:Int).toNat).2.2))] }) (Q [.agg [.int .i64 k,.int .i64 a,.int .i64 (l.length:Int),.int .u8 0,.win true uB 29 0 b.length]] [(4,.var [.int .i64 k,.int .i64 a,.int .i64 (l.length:Int),.int .u8 0,.win true uB 29 0 b.length]),(5,.var [.int .i64 k,.int .i64 a,.int .i64 (l.length:Int),.int .u8 0,.win true uB 29 0 b.length]),(29,.row 5 uB b)])):=by kernel_rfl
theorem vc_mkE (k a:Int) (d:List Int) (l:List SyT) (i:Nat) (Q:QT) (R:RT):sy tt G0 [] Tryz.f131.ntmps Tryz.f131.results.toList Q (fun it S=>R it (keepS [4,5,31,32,33] [4,5,29] S)) 1000 (hd Tryz.f131 0) ⟨[(4,.ptr 4 0),(5,.ptr 5 0),(31,.sl syS l),(32,.int .i64 l.length),(33,.int .i64 (i:Nat))],[(4,.var [.int .i64 0,.int .i64 0,.int .i64 0,.int .u8 0,.nils]),(5,.var [.int .i64 k,.int .i64 a,.int .i64 l.length,.int .u8 0,.sl uB d])]⟩ =
  (bc (decide ((i:Int)<(l.length:Int))) ((0:Int)≤(i:Int) ∧
 (i:Int)<(l.length:Int) ∧
 (0:Int)≤(i:Int) ∧
 (i:Int)<(d.length:Int) ∧
 False) (Q [.agg [.int .i64 k,.int .i64 a,.int .i64 (l.length:Int),.int .u8 0,.sl uB d]] [(4,.var [.int .i64 k,.int .i64 a,.int .i64 (l.length:Int),.int .u8 0,.sl uB d]),(5,.var [.int .i64 k,.int .i64 a,.int .i64 (l.length:Int),.int .u8 0,.sl uB d])])):=by kernel_rfl
end Go.Proofs.YtncocpjkaggnjaaGreatDoor
namespace Go.Proofs.YtncocpjkaggnjaaGreatDoor
open Go.Px Go.Ax
set_option maxRecDepth 100000
attribute [local irreducible] Go.Px.sy Go.Px.syE
theorem cost_at {k:Int} (hk:kOK k):gt (iI.pair iI) costsL k.toNat=(hdC k,eaC k):=by
 rcases (show k=1∨k=2∨k=3∨k=4 by unfold kOK at hk;omega) with e | e | e | e <;> subst e <;> rfl
theorem beg_run (k:Int) (l:List SyT) (c o gk gn gc go:Int) (hp:preBg k l (gk,gn,gc,go)) (hb:boB (c,o) (gk,gn,gc,go)) (R:List Item→PS→Prop):sy tt G0 CBe Tryz.f147.ntmps Tryz.f147.results.toList (QC ctBg (k,l,(c,o),(gk,gn,gc,go),())) R 1000 [.code (bodyOf Tryz.f147)] (entry [iI,.sl syS,suS,liS] (k,l,(c,o),(gk,gn,gc,go),())):=by
 refine (vc_beg k l (c,o) (gk,gn,gc,go) _ _).mpr ?_
 have out:∀ a b d e,begL k l (c,o) (gk,gn,gc,go)=(a,b,d,e)→ctBg.out (k,l,(c,o),(gk,gn,gc,go),())=[SV.agg [.int .i64 a,.int .i64 b,.int .i64 d,.int .i64 e]]:=fun a b d e q=>congrArg (fun x:LiT=>[SV.agg [.int .i64 x.1,.int .i64 x.2.1,.int .i64 x.2.2.1,.int .i64 x.2.2.2]]) q
 obtain ⟨hk,h1,h2⟩:=hp
 obtain ⟨⟨b1,b2,b3,b4⟩,b5,b6,b7,b8⟩:=hb
 simp only at b1 b2 b3 b4 b5 b6 b7 b8 h2
 have hh:=hdC_b k
 have he:=eaC_b k
 have hk':0≤k∧k<5:=by unfold kOK at hk;omega
 rw[cost_at hk]
 simp only
 have w1:IntKind.i64.wrap (c+hdC k)=c+hdC k:=IntWalk.i64_in _ (by omega)
 have w2:IntKind.i64.wrap (c+hdC k+eaC k)=c+hdC k+eaC k:=IntWalk.i64_in _ (by omega)
 have w3:IntKind.i64.wrap (o+1)=o+1:=IntWalk.i64_in _ (by omega)
 have w4:IntKind.i64.wrap (gn+1)=gn+1:=IntWalk.i64_in _ (by omega)
 have w5:IntKind.i64.wrap (gc+eaC k)=gc+eaC k:=IntWalk.i64_in _ (by omega)
 rw[w1,w2,w3,w4,w5]
 refine ⟨by omega,by omega,trivial,bc_of (fun h=>?_) (fun h=>⟨hk'.1,hk'.2,bc_of (fun h3=>⟨by trivial,?_⟩) (fun h3=>⟨by omega,by omega,by omega,?_,trivial,bc_of (fun h4=>?_) (fun h4=>⟨trivial,bc_of (fun h5=>?_) (fun h5=>?_)⟩)⟩)⟩)⟩
 ·have h:canB k (gtY l 0)=false:=by simpa using h
  exact QC.flat (out _ _ _ _ (by unfold begL begF;rw[if_pos h];rfl)) rfl rfl
 ·have h:¬ canB k (gtY l 0)=false:=by
   have:(!canB k (gtY l 0))=false:=h
   simpa using this
  have h3:gn=0:=of_decide_eq_true h3
  exact QC.flat (out _ _ _ _ (by unfold begL begF;rw[if_neg h,if_pos (.inl h3)];rfl)) rfl rfl
 ·have h3:¬ gn=0:=of_decide_eq_false h3
  omega
 ·have h:¬ canB k (gtY l 0)=false:=by
   have:(!canB k (gtY l 0))=false:=h
   simpa using this
  have h4:(!goK k (gtY l 0) (gtY l 1))=true:=h4
  have h4:goK k (gtY l 0) (gtY l 1)=false:=by simpa using h4
  exact QC.flat (out _ _ _ _ (by unfold begL begF;rw[if_neg h,if_pos (.inr h4)];rfl)) rfl rfl
 ·have h:¬ canB k (gtY l 0)=false:=by
   have:(!canB k (gtY l 0))=false:=h
   simpa using this
  have h3:¬ gn=0:=of_decide_eq_false h3
  have h4:(!goK k (gtY l 0) (gtY l 1))=false:=h4
  have h4:goK k (gtY l 0) (gtY l 1)=true:=by simpa using h4
  have hz:¬ ((gk,gn,gc,go).2.1=0∨goK k (gtY l 0) (gtY l 1)=false):=by
   rw[h4];intro q;rcases q with q | q
   ·exact h3 q
   ·cases q
  have h5:betB (oneF k (c,o)) (moreF k (gk,gn,gc,go))=true:=h5
  exact QC.flat (out _ _ _ _ (by unfold begL begF;rw[if_neg h,if_neg hz,if_pos h5];rfl)) rfl rfl
 ·have h:¬ canB k (gtY l 0)=false:=by
   have:(!canB k (gtY l 0))=false:=h
   simpa using this
  have h3:¬ gn=0:=of_decide_eq_false h3
  have h4:(!goK k (gtY l 0) (gtY l 1))=false:=h4
  have h4:goK k (gtY l 0) (gtY l 1)=true:=by simpa using h4
  have hz:¬ ((gk,gn,gc,go).2.1=0∨goK k (gtY l 0) (gtY l 1)=false):=by
   rw[h4];intro q;rcases q with q | q
   ·exact h3 q
   ·cases q
  have h5:betB (oneF k (c,o)) (moreF k (gk,gn,gc,go))=false:=h5
  exact QC.flat (out _ _ _ _ (by unfold begL begF;rw[if_neg h,if_neg hz,if_neg (by rw[h5];decide)];rfl)) rfl rfl
theorem beg_held:Held Tryz.prog G0 147 ctBg:=Held.run cxBe (fn:=Tryz.f147) rfl rfl ⟨by decide,by decide⟩ fun ⟨k,l,⟨c,o⟩,⟨gk,gn,gc,go⟩,_⟩ hp=>beg_run k l c o gk gn gc go hp.1 hp.2 _
theorem mk_loop (k a:Int) (l:List SyT) (hl:l.length<16777216):∀ (n i:Nat) (b:List Int),l.length-i=n→i≤l.length→b.length=l.length→(∀ j,j<i→b[j]?=(l.map fun s=>s.2.2)[j]?) →
  GD 131 Tryz.f131 (fun rs _=>rs=[.agg [.int .i64 k,.int .i64 a,.int .i64 l.length,.int .u8 0,.sl uB (l.map fun s=>s.2.2)]]) (hd Tryz.f131 0) ⟨[(4,.ptr 4 0),(5,.ptr 5 0),(31,.sl syS l),(32,.int .i64 l.length),(33,.int .i64 (i:Nat))],[(4,.var [.int .i64 0,.int .i64 0,.int .i64 0,.int .u8 0,.nils]),(5,.var [.int .i64 k,.int .i64 a,.int .i64 l.length,.int .u8 0,.win true uB 29 0 b.length]),(29,.row 5 uB b)]⟩:=by
 intro n
 induction n with
 | zero=>
  intro i b hk hi hb hj
  have hi:i=l.length:=by omega
  subst hi
  have hbl:b=l.map fun s=>s.2.2:=by
   refine List.ext_getElem? fun j=>?_
   by_cases h:j<l.length
   ·exact hj j h
   ·rw[List.getElem?_eq_none (by omega),List.getElem?_eq_none (by rw[List.length_map];omega)]
  refine Good.frz (i:=29) (e:=uB) (et:=5) (xs:=b) rfl (fun c hc=>?_) ?_
  ·have hc:c∈[0+b.length≤b.length]:=hc
   rw[List.mem_singleton] at hc;subst hc;omega
  ·have e:GD 131 Tryz.f131 (fun rs _=>rs=[.agg [.int .i64 k,.int .i64 a,.int .i64 l.length,.int .u8 0,.sl uB (l.map fun s=>s.2.2)]]) (hd Tryz.f131 0) ⟨[(4,.ptr 4 0),(5,.ptr 5 0),(31,.sl syS l),(32,.int .i64 l.length),(33,.int .i64 (l.length:Nat))],[(4,.var [.int .i64 0,.int .i64 0,.int .i64 0,.int .u8 0,.nils]),(5,.var [.int .i64 k,.int .i64 a,.int .i64 l.length,.int .u8 0,.sl uB (winL uB 0 b.length b)])]⟩:=by
    refine sy_goK cx0 (vc_mkE k a (winL uB 0 b.length b) l l.length _ _) ?_
    rw[decide_eq_false (by omega),bc_f,winA,hbl]
   exact e.only ⟨rfl,rfl,rfl,rfl,rfl,trivial⟩ ⟨rfl,rfl,trivial⟩
 | succ n ih=>
  intro i b hk hi hb hj
  have hil:i<l.length:=by omega
  refine sy_goK cx0 (vc_mkL k a b l i _ _) ?_
  rw[decide_eq_true (show (i:Int)<(l.length:Int) by omega),bc_t,Int.toNat_natCast,gtY_at hil,IntWalk.i64_in ((i:Int)+1) (by omega),Nat.zero_add]
  refine ⟨by omega,by omega,by omega,by omega,by omega,?_⟩
  refine (ih (i+1) (b.set i l[i].2.2) (by omega) (by omega) (by rw[List.length_set];exact hb) (fun j h=>?_)).only ⟨rfl,rfl,rfl,rfl,rfl,trivial⟩ ⟨rfl,?_,rfl,trivial⟩
  ·rw[List.getElem?_set]
   by_cases hji:i=j
   ·subst hji
    rw[if_pos rfl,if_pos (by omega),List.getElem?_map,List.getElem?_eq_getElem hil];rfl
   ·rw[if_neg hji];exact hj j (by omega)
  ·rw[List.length_set];rfl
theorem mk_run (k:Int) (l:List SyT) (hp:preMk k l):GD 131 Tryz.f131 (QC ctMk (k,l,())) [.code (bodyOf Tryz.f131)] (entry [iI,.sl syS] (k,l,())):=by
 obtain ⟨hk,h0,h1⟩:=hp
 have dat:k=2∨k=4→GD 131 Tryz.f131 (QC ctMk (k,l,())) (hd Tryz.f131 0) ⟨[(4,.ptr 4 0),(5,.ptr 5 0),(31,.sl syS l),(32,.int .i64 l.length),(33,.int .i64 ((0:Nat):Int))],[(4,.var [.int .i64 0,.int .i64 0,.int .i64 0,.int .u8 0,.nils]),(5,.var [.int .i64 k,.int .i64 (gtY l 0).2.1,.int .i64 l.length,.int .u8 0,.win true uB 29 0 (List.replicate (l.length:Int).toNat (0:Int)).length]),(29,.row 5 uB (List.replicate (l.length:Int).toNat (0:Int)))]⟩:=fun hk2=>by
  refine (mk_loop k (gtY l 0).2.1 l h1 _ 0 (List.replicate (l.length:Int).toNat 0) rfl (by omega) (by rw[List.length_replicate,Int.toNat_natCast]) (fun j h=>by omega)).post fun rs blk hq=>QC.flat ?_ rfl (by rw[hq];rfl)
  rw[hq]
  show mdV (mdK k l)=_
  unfold mdK
  rw[if_neg (show ¬ k=3 by omega),if_pos hk2];rfl
 have room:(0:Int)≤(l.length:Int)∧(l.length:Int)≤(l.length:Int)∧(l.length:Int)<(2:Int) ^ (24:Nat)∧((1:Nat):Int)*(l.length:Int)≤(2:Int) ^ (48:Nat):=by
  refine ⟨by omega,by omega,?_,?_⟩
  ·show (l.length:Int)<16777216
   omega
  ·show (1:Int)*(l.length:Int)≤281474976710656
   omega
 refine sy_goK cx0 (vc_mk k l _ _) ⟨by omega,by omega,bc_of (fun h=>⟨by omega,by omega,?_⟩) (fun h=>bc_of (fun h2=>?_) (fun h2=>bc_of (fun h3=>?_) (fun h3=>?_)))⟩
 ·have h:=of_decide_eq_true h
  subst h
  refine QC.mt ?_ rfl
  show MtL _ (mdV (mdK 3 l)) _
  exact ⟨_,_,rfl,⟨_,rfl,_,_,rfl,rfl,_,_,rfl,rfl,_,_,rfl,rfl,_,_,rfl,rfl,_,_,rfl,.inr ⟨rfl,rfl⟩,rfl⟩,rfl⟩
 ·have h2':=of_decide_eq_true h2
  rw[h2,bc_t]
  refine ⟨room.1,room.2.1,room.2.2.1,room.2.2.2,(dat (.inl h2')).only ⟨rfl,rfl,rfl,rfl,rfl,trivial⟩ ⟨rfl,?_,rfl,trivial⟩⟩
  rw[List.length_replicate];rfl
 ·have h3':=of_decide_eq_true h3
  refine ⟨room.1,room.2.1,room.2.2.1,room.2.2.2,(dat (.inr h3')).only ⟨rfl,rfl,rfl,rfl,rfl,trivial⟩ ⟨rfl,?_,rfl,trivial⟩⟩
  rw[List.length_replicate];rfl
 ·have h:=of_decide_eq_false h
  have h2:=of_decide_eq_false h2
  have h3:=of_decide_eq_false h3
  unfold kOK at hk
  have hk1:k=1:=by omega
  subst hk1
  refine QC.mt ?_ rfl
  show MtL _ (mdV (mdK 1 l)) _
  exact ⟨_,_,rfl,⟨_,rfl,_,_,rfl,rfl,_,_,rfl,rfl,_,_,rfl,rfl,_,_,rfl,rfl,_,_,rfl,.inr ⟨rfl,rfl⟩,rfl⟩,rfl⟩
theorem mk_held:Held Tryz.prog G0 131 ctMk:=Held.of cx0 (fn:=Tryz.f131) rfl rfl ⟨by decide,by decide⟩ fun ⟨k,l,_⟩ hp=>mk_run k l hp
end Go.Proofs.YtncocpjkaggnjaaGreatDoor
namespace Go.Proofs.YtncocpjkaggnjaaGreatDoor
open Go.Px Go.Ax
set_option maxRecDepth 100000
def CBs:CV:=[(147,.inl ctBg),(148,.inl ctBet)]
theorem cxBs:CxOK Tryz.prog tt G0 CBs:=(cx0.cons isB_held (fn:=Tryz.f148) rfl rfl rfl).cons beg_held (fn:=Tryz.f147) rfl rfl rfl
abbrev gtL (l:List LiT) (i:Nat):LiT:=gt liS l i
set_option maxRecDepth 100000
theorem vc_bs (l:List SyT) (Q:QT) (R:RT):sy tt G0 CBs Tryz.f130.ntmps Tryz.f130.results.toList Q (fun it S=>R it (keepS [0,3,4,5,6] [4,10] S)) 1000 [.code (bodyOf Tryz.f130)] (entry [.sl syS] (l,())) =
  ((0:Int)≤IntKind.i64.wrap ((l.length:Int)+(1:Int)) ∧
 IntKind.i64.wrap ((l.length:Int)+(1:Int))≤IntKind.i64.wrap ((l.length:Int)+(1:Int)) ∧
 IntKind.i64.wrap ((l.length:Int)+(1:Int))<(2:Int) ^ (24:Nat) ∧
 (↑(32:Nat):Int)*IntKind.i64.wrap ((l.length:Int)+(1:Int))≤(2:Int) ^ (48:Nat) ∧
 R (hd Tryz.f130 0) { env:=[(0,.sl syS l),(3,.win true liS 10 0 (IntKind.i64.wrap ((l.length:Int)+(1:Int))).toNat),(4,.ptr 4 0),(5,.int .i64 (IntKind.i64.wrap ((l.length:Int)-(1:Int))))],blk:=[(4,.var [.arr (5:Nat) liS (Sh.arr (5:Nat) liS).dflt]),(10,.row 189 liS (List.replicate (IntKind.i64.wrap ((l.length:Int)+(1:Int))).toNat liS.dflt))] }):=by kernel_rfl
theorem vc_bsO (l:List SyT) (b bg:List LiT) (i:Int) (Q:QT) (R:RT):sy tt G0 CBs Tryz.f130.ntmps Tryz.f130.results.toList Q (fun it S=>R it (keepS [0,3,4,5,6] [4,10] S)) 1000 (hd Tryz.f130 0) ⟨[(0,.sl syS l),(3,.win true liS 10 0 b.length),(4,.ptr 4 0),(5,.int .i64 i)],[(4,.var [.arr 5 liS bg]),(10,.row 189 liS b)]⟩ =
  (bc (decide ((0:Int)≤i)) (R (hd Tryz.f130 1) { env:=[(0,.sl syS l),(3,.win true liS 10 0 b.length),(4,.ptr 4 0),(5,.int .i64 i),(6,.int .i64 1)],blk:=[(4,.var [.arr (5:Nat) liS bg]),(10,.row 189 liS b)] }) (Q [.win true liS 10 0 b.length] [(4,.var [.arr (5:Nat) liS bg]),(10,.row 189 liS b)])):=by kernel_rfl
theorem vc_bsI (l:List SyT) (b bg:List LiT) (i k:Int) (Q:QT) (R:RT):sy tt G0 CBs Tryz.f130.ntmps Tryz.f130.results.toList Q (fun it S=>R it (keepS [0,3,4,5,6] [4,10] S)) 1000 (hd Tryz.f130 1) ⟨[(0,.sl syS l),(3,.win true liS 10 0 b.length),(4,.ptr 4 0),(5,.int .i64 i),(6,.int .i64 k)],[(4,.var [.arr 5 liS bg]),(10,.row 189 liS b)]⟩ =
  (bc (decide (k≤(4:Int))) ((0:Int)≤i ∧
 i≤(l.length:Int) ∧
 (0:Int)≤IntKind.i64.wrap (i+(1:Int)) ∧
 IntKind.i64.wrap (i+(1:Int))<(b.length:Int) ∧
 0+(IntKind.i64.wrap (i+(1:Int))).toNat<b.length ∧
 (0:Int)≤k ∧
 k<(↑(5:Nat):Int) ∧
 k.toNat<(5:Nat) ∧
 ctBg.pre (k,List.drop i.toNat l,((gtL b (0+(IntKind.i64.wrap (i+(1:Int))).toNat)).2.2),(gtL bg k.toNat),()) ∧
 (0:Int)≤k ∧
 k<(↑(5:Nat):Int) ∧
 k.toNat<(5:Nat) ∧
 (0:Int)≤k ∧
 k<(↑(5:Nat):Int) ∧
 k.toNat<(5:Nat) ∧
 (0:Int)≤i ∧
 i<(b.length:Int) ∧
 0+i.toNat<b.length ∧
 ctBet.pre ((gtL (bg.set k.toNat (begL k (List.drop i.toNat l) ((gtL b (0+(IntKind.i64.wrap (i+(1:Int))).toNat)).2.2) (gtL bg k.toNat))) k.toNat),(gtL b (0+i.toNat)),()) ∧
 bc (betB (gtL (bg.set k.toNat (begL k (List.drop i.toNat l) ((gtL b (0+(IntKind.i64.wrap (i+(1:Int))).toNat)).2.2) (gtL bg k.toNat))) k.toNat) (gtL b (0+i.toNat))) ((0:Int)≤k ∧
 k<(↑(5:Nat):Int) ∧
 k.toNat<(5:Nat) ∧
 (0:Int)≤i ∧
 i<(b.length:Int) ∧
 0+i.toNat<b.length ∧
 R (hd Tryz.f130 1) { env:=[(0,.sl syS l),(3,.win true liS 10 0 b.length),(4,.ptr 4 0),(5,.int .i64 i),(6,.int .i64 (IntKind.i64.wrap (k+(1:Int))))],blk:=[(4,.var [.arr (5:Nat) liS (bg.set k.toNat (begL k (List.drop i.toNat l) ((gtL b (0+(IntKind.i64.wrap (i+(1:Int))).toNat)).2.2) (gtL bg k.toNat)))]),(10,.row 189 liS (b.set (0+i.toNat) (gtL (bg.set k.toNat (begL k (List.drop i.toNat l) ((gtL b (0+(IntKind.i64.wrap (i+(1:Int))).toNat)).2.2) (gtL bg k.toNat))) k.toNat)))] }) (R (hd Tryz.f130 1) { env:=[(0,.sl syS l),(3,.win true liS 10 0 b.length),(4,.ptr 4 0),(5,.int .i64 i),(6,.int .i64 (IntKind.i64.wrap (k+(1:Int))))],blk:=[(4,.var [.arr (5:Nat) liS (bg.set k.toNat (begL k (List.drop i.toNat l) ((gtL b (0+(IntKind.i64.wrap (i+(1:Int))).toNat)).2.2) (gtL bg k.toNat)))]),(10,.row 189 liS b)] })) (R (hd Tryz.f130 0) { env:=[(0,.sl syS l),(3,.win true liS 10 0 b.length),(4,.ptr 4 0),(5,.int .i64 (IntKind.i64.wrap (i-(1:Int)))),(6,.int .i64 k)],blk:=[(4,.var [.arr (5:Nat) liS bg]),(10,.row 189 liS b)] })):=by kernel_rfl
end Go.Proofs.YtncocpjkaggnjaaGreatDoor
namespace Go.Proofs.YtncocpjkaggnjaaGreatDoor
open Go.Px Go.Ax
set_option maxRecDepth 100000
attribute [local irreducible] Go.Px.sy Go.Px.syE
def bT (l:List SyT) (m:Nat):List LiT:=(List.range (l.length+1)).map fun j=>if m≤j then bst (l.drop j) else zLi
theorem bT_len (l:List SyT) (m:Nat):(bT l m).length=l.length+1:=by simp[bT]
theorem bT_set (l:List SyT) (i:Nat) (hi:i≤l.length):bT l i=(bT l (i+1)).set i (bst (l.drop i)):=by
 refine List.ext_getElem? fun j=>?_
 rw[List.getElem?_set]
 by_cases h:i=j
 ·subst h
  rw[if_pos rfl,if_pos (by rw[bT_len];omega)]
  simp[bT,show i<l.length+1 by omega]
 ·rw[if_neg h]
  unfold bT
  by_cases hj:j<l.length+1
  ·simp only[List.getElem?_map,List.getElem?_range hj,Option.map_some]
   by_cases h2:i≤j
   ·rw[if_pos h2,if_pos (by omega)]
   ·rw[if_neg h2,if_neg (by omega)]
  ·simp[show l.length+1≤j by omega]
theorem bT_z (l:List SyT) (i:Nat) (hi:i≤l.length):(bT l (i+1)).set i zLi=bT l (i+1):=by
 refine List.ext_getElem? fun j=>?_
 rw[List.getElem?_set]
 by_cases h:i=j
 ·subst h
  rw[if_pos rfl,if_pos (by rw[bT_len];omega)]
  simp[bT,show i<l.length+1 by omega,show ¬ (i+1≤i) by omega]
 ·rw[if_neg h]
theorem bT_get (l:List SyT) (m j:Nat) (hj:j≤l.length) (hm:m≤j):gtL (bT l m) j=bst (l.drop j):=by
 show ((bT l m)[j]?).getD _=_
 simp[bT,show j<l.length+1 by omega,hm]
theorem bT_rep (l:List SyT):List.replicate (l.length+1) (liS.dflt:LiT)=bT l l.length:=by
 refine List.ext_getElem? fun j=>?_
 by_cases hj:j<l.length+1
 ·simp only[bT,List.getElem?_replicate,List.getElem?_map,List.getElem?_range hj,Option.map_some,if_pos hj]
  by_cases h:l.length≤j
  ·rw[if_pos h,List.drop_eq_nil_of_le h];rfl
  ·rw[if_neg h];rfl
 ·simp[bT,show l.length+1≤j by omega]
def bgL (r:List SyT):List LiT:=[zLi,beg r 1,beg r 2,beg r 3,beg r 4]
def bestsL (l:List SyT):List LiT:=bT l 0
def preBs (l:List SyT):Prop:=l.length≤65536
def ctBs:Ctr:=⟨[.sl syS],fun x=>preBs x.1,fun x=>[.win true liS 0 0 (bestsL x.1).length],fun x=>[.row 189 liS (bestsL x.1)]⟩
section
variable (l:List SyT) (hl:l.length≤65536)
abbrev BQ:List SV→List (Nat × LB)→Prop:=QC ctBs (l,())
abbrev bsO (b bg:List LiT) (i:Int):PS:=⟨[(0,.sl syS l),(3,.win true liS 10 0 b.length),(4,.ptr 4 0),(5,.int .i64 i)],[(4,.var [.arr 5 liS bg]),(10,.row 189 liS b)]⟩
abbrev bsI (b bg:List LiT) (i k:Int):PS:=⟨[(0,.sl syS l),(3,.win true liS 10 0 b.length),(4,.ptr 4 0),(5,.int .i64 i),(6,.int .i64 k)],[(4,.var [.arr 5 liS bg]),(10,.row 189 liS b)]⟩
include hl
theorem bs_step (i:Nat) (hi:i<l.length) (k:Nat) (hk:1≤k∧k≤4) (b bg:List LiT) (hb:b.length=l.length+1) (hbg:bg.length=5) (c:LiT) (h1:gtL b (i+1)=bst (l.drop (i+1))) (hg:gtL bg k=beg (l.drop (i+1)) k)
  (nx:GD 130 Tryz.f130 (BQ l) (hd Tryz.f130 1) (bsI l (b.set i (upd c (beg (l.drop i) k))) (bg.set k (beg (l.drop i) k)) i ((k+1:Nat):Int))) :
  GD 130 Tryz.f130 (BQ l) (hd Tryz.f130 1) (bsI l (b.set i c) bg i (k:Nat)):=by
 have kk:kOK (k:Int):=by unfold kOK;omega
 have hd:l.drop i=l[i]::l.drop (i+1):=List.drop_eq_getElem_cons hi
 have rl:(l.drop (i+1)).length=l.length-(i+1):=List.length_drop ..
 have ra:=ok_all (l.drop (i+1)) (by omega)
 have rb:=bst_bo (l.drop (i+1)) (by omega)
 have eb:begL k (l.drop i) (bst (l.drop (i+1))).2.2 (beg (l.drop (i+1)) k)=beg (l.drop i) k:=by
  rw[hd,beg_cons]
  unfold begL
  rw[gtY_z,gtY_s l[i] (l.drop (i+1)) 0]
 refine sy_goK cxBs (vc_bsI l (b.set i c) bg i k _ _) ?_
 have w1:IntKind.i64.wrap ((i:Int)+1)=((i+1:Nat):Int):=by rw[IntWalk.i64_in _ (by omega)];omega
 have w2:IntKind.i64.wrap ((k:Int)+1)=((k+1:Nat):Int):=by rw[IntWalk.i64_in _ (by omega)];omega
 have g1:gtL (b.set i c) (0+(i+1))=bst (l.drop (i+1)):=by
  rw[← h1,Nat.zero_add]
  show ((b.set i c)[i+1]?).getD _=(b[i+1]?).getD _
  rw[List.getElem?_set_ne (by omega)]
 have g2:∀ x,gtL (bg.set k x) k=x:=fun x=>by
  show ((bg.set k x)[k]?).getD _=_
  rw[List.getElem?_set_self (by omega)];rfl
 have g3:gtL (b.set i c) (0+i)=c:=by
  rw[Nat.zero_add]
  show ((b.set i c)[i]?).getD _=_
  rw[List.getElem?_set_self (by omega)];rfl
 rw[w1,w2,decide_eq_true (show (k:Int)≤4 by omega),bc_t]
 simp only[Int.toNat_natCast]
 rw[g1,hg,eb,g2,g3]
 have pl:(l.drop i).length=l.length-i:=List.length_drop ..
 have pre1:preBg k (l.drop i) (beg (l.drop (i+1)) k):=by
  refine ⟨kk,by omega,?_⟩
  rcases ra.1 k kk with h | ⟨_,n,n1,n2,n3,_⟩
  ·left;rw[h.2];rfl
  ·right
   have:=fitN_le k (l.drop (i+1))
   omega
 have pre2:boB (bst (l.drop (i+1))).2.2 (beg (l.drop (i+1)) k):=by
  unfold boL at rb
  refine ⟨by omega,?_⟩
  rcases ra.1 k kk with h | ⟨_,n,n1,n2,n3,_,_,h⟩
  ·rw[h.2];exact (show 0≤(0:Int)∧(0:Int)<16777216∧0≤(0:Int)∧(0:Int)<16777216 by decide)
  ·have:=fitN_le k (l.drop (i+1))
   unfold boL at h
   omega
 have bl:(b.set i c).length=l.length+1:=by rw[List.length_set];exact hb
 refine ⟨by omega,by omega,by omega,by omega,by omega,by omega,by omega,by omega,⟨pre1,pre2⟩,by omega,by omega,by omega,by omega,by omega,by omega,by omega,by omega,by omega,trivial,bc_of (fun h=>?_) (fun h=>?_)⟩
 ·have eu:upd c (beg (l.drop i) k)=beg (l.drop i) k:=by unfold upd;rw[if_pos h]
  rw[eu] at nx
  refine ⟨by omega,by omega,by omega,by omega,by omega,by omega,?_⟩
  rw[Nat.zero_add,List.set_set]
  exact nx.only ⟨rfl,by simp only[List.length_set];rfl,rfl,rfl,rfl,trivial⟩ ⟨rfl,rfl,trivial⟩
 ·have eu:upd c (beg (l.drop i) k)=c:=by unfold upd;rw[if_neg (by rw[h];decide)]
  rw[eu] at nx
  exact nx.only ⟨rfl,rfl,rfl,rfl,rfl,trivial⟩ ⟨rfl,rfl,trivial⟩
theorem bs_loop:∀ (n:Nat),n≤l.length→GD 130 Tryz.f130 (BQ l) (hd Tryz.f130 0) (bsO l (bT l n) (bgL (l.drop n)) ((n:Int)-1)):=by
 intro n
 induction n with
 | zero=>
  intro hn
  refine sy_goK cxBs (vc_bsO l (bT l 0) (bgL (l.drop 0)) (((0:Nat):Int)-1) _ _) ?_
  rw[decide_eq_false (by omega),bc_f]
  exact qc_row (e:=liS) (et:=189) (a:=10) (xs:=bestsL l) rfl rfl rfl rfl rfl
 | succ n ih=>
  intro hn
  have e:((n+1:Nat):Int)-1=(n:Int):=by omega
  rw[e]
  refine sy_goK cxBs (vc_bsO l (bT l (n+1)) (bgL (l.drop (n+1))) n _ _) ?_
  rw[decide_eq_true (show (0:Int)≤(n:Int) by omega),bc_t]
  have fin:GD 130 Tryz.f130 (BQ l) (hd Tryz.f130 1) (bsI l (bT l n) (bgL (l.drop n)) n 5):=by
   refine sy_goK cxBs (vc_bsI l (bT l n) (bgL (l.drop n)) n 5 _ _) ?_
   rw[decide_eq_false (by omega),bc_f,IntWalk.i64_in ((n:Int)-1) (by omega)]
   exact (ih (by omega)).only ⟨rfl,rfl,rfl,rfl,trivial⟩ ⟨rfl,rfl,trivial⟩
  have hb:=bT_len l (n+1)
  have h1:=bT_get l (n+1) (n+1) (by omega) (Nat.le_refl _)
  rw[bT_set l n (by omega)] at fin
  have hd:l.drop n=l[n]::l.drop (n+1):=List.drop_eq_getElem_cons hn
  have up:bst (l.drop n)=upd (upd (upd (upd zLi (beg (l.drop n) 1)) (beg (l.drop n) 2)) (beg (l.drop n) 3)) (beg (l.drop n) 4):=by rw[hd];rfl
  rw[up] at fin
  have s4:=bs_step l hl n hn 4 ⟨by omega,by omega⟩ (bT l (n+1)) [zLi,beg (l.drop n) 1,beg (l.drop n) 2,beg (l.drop n) 3,beg (l.drop (n+1)) 4] hb rfl _ h1 rfl (fin.only ⟨rfl,by simp only[List.length_set];rfl,rfl,rfl,rfl,trivial⟩ ⟨rfl,rfl,trivial⟩)
  have s3:=bs_step l hl n hn 3 ⟨by omega,by omega⟩ (bT l (n+1)) [zLi,beg (l.drop n) 1,beg (l.drop n) 2,beg (l.drop (n+1)) 3,beg (l.drop (n+1)) 4] hb rfl _ h1 rfl (s4.only ⟨rfl,by simp only[List.length_set];rfl,rfl,rfl,rfl,trivial⟩ ⟨rfl,rfl,trivial⟩)
  have s2:=bs_step l hl n hn 2 ⟨by omega,by omega⟩ (bT l (n+1)) [zLi,beg (l.drop n) 1,beg (l.drop (n+1)) 2,beg (l.drop (n+1)) 3,beg (l.drop (n+1)) 4] hb rfl _ h1 rfl (s3.only ⟨rfl,by simp only[List.length_set];rfl,rfl,rfl,rfl,trivial⟩ ⟨rfl,rfl,trivial⟩)
  have s1:=bs_step l hl n hn 1 ⟨by omega,by omega⟩ (bT l (n+1)) [zLi,beg (l.drop (n+1)) 1,beg (l.drop (n+1)) 2,beg (l.drop (n+1)) 3,beg (l.drop (n+1)) 4] hb rfl zLi h1 rfl (s2.only ⟨rfl,by simp only[List.length_set];rfl,rfl,rfl,rfl,trivial⟩ ⟨rfl,rfl,trivial⟩)
  rw[bT_z l n (by omega)] at s1
  exact s1.only ⟨rfl,rfl,rfl,rfl,rfl,trivial⟩ ⟨rfl,rfl,trivial⟩
theorem bs_run:GD 130 Tryz.f130 (BQ l) [.code (bodyOf Tryz.f130)] (entry [.sl syS] (l,())):=by
 refine sy_goK cxBs (vc_bs l _ _) ?_
 rw[IntWalk.i64_in ((l.length:Int)+1) (by omega),IntWalk.i64_in ((l.length:Int)-1) (by omega)]
 have e:((l.length:Int)+1).toNat=l.length+1:=by omega
 rw[e]
 refine ⟨by omega,by omega,?_,?_,?_⟩
 ·show (l.length:Int)+1<16777216
  omega
 ·show (32:Int)*((l.length:Int)+1)≤281474976710656
  omega
 ·have h:=bs_loop l hl l.length (Nat.le_refl _)
  rw[List.drop_length] at h
  rw[bT_rep l]
  exact h.only ⟨rfl,by rw[bT_len];rfl,rfl,rfl,trivial⟩ ⟨rfl,rfl,trivial⟩
end
theorem bs_held:Held Tryz.prog G0 130 ctBs:=Held.of cxBs (fn:=Tryz.f130) rfl rfl ⟨by decide,by decide⟩ fun ⟨l,_⟩ hp=>bs_run l hp
end Go.Proofs.YtncocpjkaggnjaaGreatDoor
namespace Go.Proofs.YtncocpjkaggnjaaGreatDoor
open Go.Px Go.Ax
set_option maxRecDepth 100000
def CCh:CV:=[(130,.inl ctBs),(131,.inl ctMk)]
theorem cxCh:CxOK Tryz.prog tt G0 CCh:=(cx0.cons mk_held (fn:=Tryz.f131) rfl rfl rfl).cons bs_held (fn:=Tryz.f130) rfl rfl rfl
set_option maxRecDepth 100000
theorem vc_ch (l:List SyT) (Q:QT) (R:RT):sy tt G0 CCh Tryz.f113.ntmps Tryz.f113.results.toList Q (fun it S=>R it (keepS [0,3,4,5] [3,8,14,1032768] S)) 1000 [.code (bodyOf Tryz.f113)] (entry [.sl syS] (l,())) =
  (ctBs.pre (l,()) ∧
 (0:Int)≤(0:Int) ∧
 (0:Int)<(↑(bestsL l).length:Int) ∧
 0+0<(bestsL l).length ∧
 (0:Int)≤(0:Int) ∧
 (0:Int)≤(gtL (bestsL l) (0+0)).2.2.2 ∧
 (gtL (bestsL l) (0+0)).2.2.2<(2:Int) ^ (24:Nat) ∧
 (↑(56:Nat):Int)*(gtL (bestsL l) (0+0)).2.2.2≤(2:Int) ^ (48:Nat) ∧
 R (hd Tryz.f113 0) { env:=[(0,.sl syS l),(3,.win true liS 1032768 0 (bestsL l).length),(4,.win true opS 14 0 (0:Nat)),(5,.int .i64 0)],blk:=[(14,.row 35 opS (List.replicate (0) opS.dflt)),(1032768,.row 189 liS (bestsL l))] }):=by kernel_rfl
theorem vc_chL (l:List SyT) (b:List LiT) (o:List OpT) (a:Nat) (Q:QT) (R:RT):sy tt G0 CCh Tryz.f113.ntmps Tryz.f113.results.toList Q (fun it S=>R it (keepS [0,3,4,5] [14,46,1032768] S)) 1000 (hd Tryz.f113 0) ⟨[(0,.sl syS l),(3,.win true liS 1032768 0 b.length),(4,.win true opS 14 0 o.length),(5,.int .i64 (a:Nat))],[(14,.row 35 opS o),(1032768,.row 189 liS b)]⟩ =
  (bc (decide ((a:Int)<(l.length:Int))) ((0:Int)≤(a:Int) ∧
 (a:Int)<(b.length:Int) ∧
 0+(a:Int).toNat<b.length ∧
 (0:Int)≤(a:Int) ∧
 (a:Int)<(b.length:Int) ∧
 0+(a:Int).toNat<b.length ∧
 (0:Int)≤(a:Int) ∧
 (a:Int)<IntKind.i64.wrap ((a:Int)+(gtL b (0+(a:Int).toNat)).2.1) ∧
 IntKind.i64.wrap ((a:Int)+(gtL b (0+(a:Int).toNat)).2.1)≤IntKind.i64.wrap ((a:Int)+(gtL b (0+(a:Int).toNat)).2.1) ∧
 IntKind.i64.wrap ((a:Int)+(gtL b (0+(a:Int).toNat)).2.1)≤(l.length:Int) ∧
 IntKind.i64.wrap ((a:Int)+(gtL b (0+(a:Int).toNat)).2.1)<(1099511627776:Int) ∧
 ctMk.pre ((gtL b (0+(a:Int).toNat)).1,Px.part l (some (a:Int)) (some (IntKind.i64.wrap ((a:Int)+(gtL b (0+(a:Int).toNat)).2.1))),()) ∧
 0+(1:Nat)≤([(mdK (gtL b (0+(a:Int).toNat)).1 (Px.part l (some (a:Int)) (some (IntKind.i64.wrap ((a:Int)+(gtL b (0+(a:Int).toNat)).2.1)))))]:List opS.D).length ∧
 o.length=o.length ∧
 (0:Nat)=(0:Nat) ∧
 o.length+(([(mdK (gtL b (0+(a:Int).toNat)).1 (Px.part l (some (a:Int)) (some (IntKind.i64.wrap ((a:Int)+(gtL b (0+(a:Int).toNat)).2.1)))))]:List opS.D)).length<(2:Nat) ^ (30:Nat) ∧
 (56:Nat)≤(2:Nat) ^ (10:Nat) ∧
 (0:Int)≤(a:Int) ∧
 (a:Int)<(b.length:Int) ∧
 0+(a:Int).toNat<b.length ∧
 R (hd Tryz.f113 0) { env:=[(0,.sl syS l),(3,.win true liS 1032768 0 b.length),(4,.win true opS 46 0 (o.length+(([(mdK (gtL b (0+(a:Int).toNat)).1 (Px.part l (some (a:Int)) (some (IntKind.i64.wrap ((a:Int)+(gtL b (0+(a:Int).toNat)).2.1)))))]:List opS.D)).length)),(5,.int .i64 (IntKind.i64.wrap ((a:Int)+(gtL b (0+(a:Int).toNat)).2.1)))],blk:=[(46,.row 35 opS (o++([(mdK (gtL b (0+(a:Int).toNat)).1 (Px.part l (some (a:Int)) (some (IntKind.i64.wrap ((a:Int)+(gtL b (0+(a:Int).toNat)).2.1)))))]:List opS.D))),(1032768,.row 189 liS b)] }) (Q [.win true opS 14 0 o.length] [(14,.row 35 opS o),(1032768,.row 189 liS b)])):=by kernel_rfl
theorem vc_chE (l:List SyT) (b:List LiT) (o:List OpT) (a:Nat) (Q:QT) (R:RT):sy tt G0 CCh Tryz.f113.ntmps Tryz.f113.results.toList Q (fun it S=>R it (keepS [0,3,4,5] [14,1032768] S)) 1000 (hd Tryz.f113 0) ⟨[(0,.sl syS l),(4,.sl opS o),(5,.int .i64 (a:Nat))],[]⟩ =
  (bc (decide ((a:Int)<(l.length:Int))) False (Q [.sl opS o] [])):=by kernel_rfl
end Go.Proofs.YtncocpjkaggnjaaGreatDoor
namespace Go.Proofs.YtncocpjkaggnjaaGreatDoor
open Go.Px Go.Ax
set_option maxRecDepth 100000
attribute [local irreducible] Go.Px.sy Go.Px.syE
def ctCh:Ctr:=⟨[.sl syS],fun x=>preBs x.1,fun x=>[.sl opS (chL x.1)],fun _=>[]⟩
theorem part_at (l:List SyT) (a n:Nat):Px.part l (some (a:Int)) (some ((a+n:Nat):Int))=(l.drop a).take n:=by
 simp only[Px.part,Int.toNat_natCast]
 first
  | (rw[List.drop_take];congr 1;omega)
  | (rw[List.take_drop];done)
  | simp[List.drop_take]
section
variable (l:List SyT) (hl:l.length≤65536)
include hl
theorem ch_end (o:List OpT) (a:Nat) (ha:a=l.length):GD 113 Tryz.f113 (OQ o) (hd Tryz.f113 0) ⟨[(0,.sl syS l),(3,.win true liS 1032768 0 (bestsL l).length),(4,.win true opS 14 0 o.length),(5,.int .i64 (a:Nat))],[(14,.row 35 opS o),(1032768,.row 189 liS (bestsL l))]⟩:=by
 have _:=hl
 subst ha
 refine Good.frz (i:=14) (e:=opS) (et:=35) (xs:=o) rfl (fun c hc=>?_) ?_
 ·have hc:c∈[0+o.length≤o.length]:=hc
  rw[List.mem_singleton] at hc;subst hc;omega
 ·have e:GD 113 Tryz.f113 (OQ o) (hd Tryz.f113 0) ⟨[(0,.sl syS l),(4,.sl opS (winL opS 0 o.length o)),(5,.int .i64 (l.length:Nat))],[]⟩:=by
   refine sy_goK cxCh (vc_chE l [] (winL opS 0 o.length o) l.length _ _) ?_
   rw[decide_eq_false (by omega),bc_f,winA]
  exact e.only ⟨rfl,rfl,rfl,trivial⟩ trivial
theorem ch_loop:∀ (f a:Nat) (o:List OpT),l.length-a≤f→a≤l.length→o.length≤a →
  GD 113 Tryz.f113 (OQ (o++chF f (l.drop a))) (hd Tryz.f113 0) ⟨[(0,.sl syS l),(3,.win true liS 1032768 0 (bestsL l).length),(4,.win true opS 14 0 o.length),(5,.int .i64 (a:Nat))],[(14,.row 35 opS o),(1032768,.row 189 liS (bestsL l))]⟩:=by
 intro f
 induction f with
 | zero=>
  intro a o hf ha ho
  rw[chF,List.append_nil]
  exact ch_end l hl o a (by omega)
 | succ f ih=>
  intro a o hf ha ho
  by_cases he:a=l.length
  ·rw[chF,if_pos (List.drop_eq_nil_of_le (by omega)),List.append_nil]
   exact ch_end l hl o a he
  ·have dl:(l.drop a).length=l.length-a:=List.length_drop ..
   have hne:l.drop a≠[]:=fun h=>by rw[h] at dl;simp at dl;omega
   obtain ⟨hb,n,n1,n2,n3,_⟩:=bst_ne (l:=l.drop a) (by omega) hne
   have hfit:=fitN_le (bst (l.drop a)).1 (l.drop a)
   have bl:(bestsL l).length=l.length+1:=bT_len l 0
   have nx:=ih (a+n) (o++[mdK (bst (l.drop a)).1 ((l.drop a).take n)]) (by omega) (by omega) (by rw[List.length_append,List.length_singleton];omega)
   have ec:chF (f+1) (l.drop a)=mdK (bst (l.drop a)).1 ((l.drop a).take n)::chF f (l.drop (a+n)):=by rw[chF,if_neg hne,n1,Int.toNat_natCast,List.drop_drop]
   rw[ec]
   rw[List.append_assoc,List.singleton_append] at nx
   refine sy_goK cxCh (vc_chL l (bestsL l) o a _ _) ?_
   have g1:gtL (bestsL l) (0+a)=bst (l.drop a):=by rw[Nat.zero_add];exact bT_get l 0 a ha (Nat.zero_le _)
   have w:IntKind.i64.wrap ((a:Int)+(n:Int))=((a+n:Nat):Int):=by rw[IntWalk.i64_in _ (by omega)];omega
   rw[decide_eq_true (show (a:Int)<(l.length:Int) by omega),bc_t,Int.toNat_natCast,g1,n1,w,part_at l a n]
   have tl:((l.drop a).take n).length=n:=by rw[List.length_take];omega
   refine ⟨by omega,by omega,by omega,by omega,by omega,by omega,by omega,by omega,by omega,by omega,by omega,(show preMk (bst (l.drop a)).1 ((l.drop a).take n) from ⟨hb,by omega,by omega⟩),Nat.le_refl 1,rfl,rfl,?_,by decide,by omega,by omega,by omega,?_⟩
   ·show o.length+1<2 ^ 30
    omega
   ·exact nx.onlyR [(14,46)] rfl ⟨rfl,rfl,by rw[List.length_append];rfl,rfl,trivial⟩ ⟨rfl,rfl,trivial⟩
theorem ch_run:GD 113 Tryz.f113 (QC ctCh (l,())) [.code (bodyOf Tryz.f113)] (entry [.sl syS] (l,())):=by
 refine sy_goK cxCh (vc_ch l _ _) ?_
 have bl:(bestsL l).length=l.length+1:=bT_len l 0
 have g0:gtL (bestsL l) (0+0)=bst l:=by
  have:=bT_get l 0 0 (Nat.zero_le _) (Nat.le_refl _)
  rw[List.drop_zero] at this
  exact this
 have hb:=bst_bo l hl
 unfold boL at hb
 rw[g0]
 refine ⟨hl,by omega,by omega,by omega,by omega,hb.2.2.1,?_,?_,?_⟩
 ·show (bst l).2.2.2<16777216
  omega
 ·show (56:Int)*(bst l).2.2.2≤281474976710656
  omega
 ·have h:=ch_loop l hl l.length 0 [] (by omega) (Nat.zero_le _) (Nat.zero_le _)
  rw[List.drop_zero,List.nil_append] at h
  exact (h.post fun rs blk hq=>QC.flat (by rw[hq];rfl) rfl (by rw[hq];rfl)).only ⟨rfl,rfl,rfl,rfl,trivial⟩ ⟨rfl,rfl,trivial⟩
end
theorem ch_held:Held Tryz.prog G0 113 ctCh:=Held.of cxCh (fn:=Tryz.f113) rfl rfl ⟨by decide,by decide⟩ fun ⟨l,_⟩ hp=>ch_run l hp
end Go.Proofs.YtncocpjkaggnjaaGreatDoor
namespace Go.Proofs.YtncocpjkaggnjaaGreatDoor
open Go.Px Go.Ax
set_option maxRecDepth 100000
def poV (l:List SyT) (m:Int):PaT × Int:=if 4096<(chL l).length then ((false,0,0,[]),2) else ((false,m,l.length,chL l),0)
def ctPo:Ctr:=⟨[.sl syS,iI],fun x=>preBs x.1,fun x=>[paV (poV x.1 x.2.1).1,.int .i64 (poV x.1 x.2.1).2],fun _=>[]⟩
def cpV (l:List SyT) (m:Int):PaT × Int:=if (ofV l m).2=60 then ((false,0,0,[]),60) else poV l m
def ctCp:Ctr:=⟨[.sl syS,iI],fun x=>List.length x.1<16777216,fun x=>[paV (cpV x.1 x.2.1).1,.int .i64 (cpV x.1 x.2.1).2],fun _=>[]⟩
def CPo:CV:=[(113,.inl ctCh)]
theorem cxPo:CxOK Tryz.prog tt G0 CPo:=cx0.cons ch_held (fn:=Tryz.f113) rfl rfl rfl
set_option maxRecDepth 100000
theorem vc_po (l:List SyT) (m:Int) (Q:QT) (R:RT):sy tt G0 CPo Tryz.f93.ntmps Tryz.f93.results.toList Q R 1000 [.code (bodyOf Tryz.f93)] (entry [.sl syS,iI] (l,m,())) =
  (ctCh.pre (l,()) ∧
 bc (decide ((4096:Int)<(↑(chL l).length:Int))) (Q [.agg [.bool false,.int .i64 0,.int .i64 0,.nils],.int .i64 2] [(4,.var [.bool false,.int .i64 0,.int .i64 0,.nils])]) (Q [.agg [.bool false,.int .i64 m,.int .i64 (l.length:Int),.sl opS (chL l)],.int .i64 0] [(4,.var [.bool false,.int .i64 m,.int .i64 (l.length:Int),.sl opS (chL l)])])):=by kernel_rfl
theorem vc_cp (l:List SyT) (m:Int) (Q:QT) (R:RT):sy tt G0 [(35,.inl ctOfA),(93,.inl ctPo)] Tryz.f58.ntmps Tryz.f58.results.toList Q R 1000 [.code (bodyOf Tryz.f58)] (entry [.sl syS,iI] (l,m,())) =
  (ctOfA.pre (l,m,()) ∧
 bc (decide ((ofV l m).2=(60:Int))) (Q [.agg [.bool false,.int .i64 0,.int .i64 0,.nils],.int .i64 (ofV l m).2] [(4,.var [.bool false,.int .i64 0,.int .i64 0,.nils]),(6,.var [.bool (ofV l m).1.1,.int .i64 (ofV l m).1.2.1,.int .i64 (ofV l m).1.2.2.1,.sl opS (ofV l m).1.2.2.2])]) (ctPo.pre (l,m,()) ∧
 Q [.agg [.bool (poV l m).1.1,.int .i64 (poV l m).1.2.1,.int .i64 (poV l m).1.2.2.1,.sl opS (poV l m).1.2.2.2],.int .i64 (poV l m).2] [(4,.var [.bool (poV l m).1.1,.int .i64 (poV l m).1.2.1,.int .i64 (poV l m).1.2.2.1,.sl opS (poV l m).1.2.2.2]),(6,.var [.bool (ofV l m).1.1,.int .i64 (ofV l m).1.2.1,.int .i64 (ofV l m).1.2.2.1,.sl opS (ofV l m).1.2.2.2])])):=by kernel_rfl
end Go.Proofs.YtncocpjkaggnjaaGreatDoor
namespace Go.Proofs.YtncocpjkaggnjaaGreatDoor
open Go.Px Go.Ax
set_option maxRecDepth 100000
attribute [local irreducible] Go.Px.sy Go.Px.syE
theorem zero_mt (z:Int):MtL (fun _=>none) [paV (false,0,0,[]),.int .i64 z] [.agg [.bool false,.int .i64 0,.int .i64 0,.nils],.int .i64 z]:=
 ⟨_,_,rfl,⟨_,rfl,_,_,rfl,rfl,_,_,rfl,rfl,_,_,rfl,rfl,_,_,rfl,.inr ⟨rfl,rfl⟩,rfl⟩,_,_,rfl,rfl,rfl⟩
theorem po_run (l:List SyT) (m:Int) (hp:l.length≤65536) (R:List Item→PS→Prop):sy tt G0 CPo Tryz.f93.ntmps Tryz.f93.results.toList (QC ctPo (l,m,())) R 1000 [.code (bodyOf Tryz.f93)] (entry [.sl syS,iI] (l,m,())):=by
 refine (vc_po l m _ _).mpr ⟨hp,bc_of (fun h=>?_) (fun h=>?_)⟩
 ·have h:(4096:Int)<((chL l).length:Int):=of_decide_eq_true h
  have hv:poV l m=((false,0,0,[]),2):=by unfold poV;rw[if_pos (by omega)]
  exact QC.mt (by show MtL _ [paV (poV l m).1,.int .i64 (poV l m).2] _;rw[hv];exact zero_mt _) rfl
 ·have h:¬ (4096:Int)<((chL l).length:Int):=of_decide_eq_false h
  have hv:poV l m=(((false,m,(l.length:Int),chL l):PaT),(0:Int)):=by unfold poV;rw[if_neg (by omega)]
  exact QC.flat (by show [paV (poV l m).1,.int .i64 (poV l m).2]=_;rw[hv];rfl) rfl rfl
theorem po_held:Held Tryz.prog G0 93 ctPo:=Held.run cxPo (fn:=Tryz.f93) rfl rfl ⟨by decide,by decide⟩ fun ⟨l,m,_⟩ hp=>po_run l m hp _
theorem ofV_60 {l:List SyT} {m:Int} (h:(ofV l m).2≠60):szB m=true∧szB l.length=true∧l.all (sOK m)=true:=by
 unfold ofV at h
 split at h
 ·assumption
 ·exact absurd rfl h
theorem ofV_60' {l:List SyT} {m:Int} (h:szB m=true∧szB l.length=true∧l.all (sOK m)=true):(ofV l m).2≠60:=by
 unfold ofV
 rw[if_pos h]
 split
 ·exact (show (2:Int)≠60 by decide)
 ·exact (show (0:Int)≠60 by decide)
theorem szB_le {n:Int} (h:szB n=true):0≤n∧n≤65536:=by simpa [szB] using h
theorem cxCp:CxOK Tryz.prog tt G0 [(35,.inl ctOfA),(93,.inl ctPo)]:=(cx0.cons po_held (fn:=Tryz.f93) rfl rfl rfl).cons ofA_held (fn:=Tryz.f35) rfl rfl rfl
theorem cp_run (l:List SyT) (m:Int) (hp:l.length<16777216) (R:List Item→PS→Prop):sy tt G0 [(35,.inl ctOfA),(93,.inl ctPo)] Tryz.f58.ntmps Tryz.f58.results.toList (QC ctCp (l,m,())) R 1000 [.code (bodyOf Tryz.f58)] (entry [.sl syS,iI] (l,m,())):=by
 refine (vc_cp l m _ _).mpr ⟨hp,bc_of (fun h=>?_) (fun h=>?_)⟩
 ·have h:(ofV l m).2=60:=of_decide_eq_true h
  have hv:cpV l m=((false,0,0,[]),60):=by unfold cpV;rw[if_pos h]
  rw[h]
  exact QC.mt (by show MtL _ [paV (cpV l m).1,.int .i64 (cpV l m).2] _;rw[hv];exact zero_mt _) rfl
 ·have h:¬ (ofV l m).2=60:=of_decide_eq_false h
  have hz:=szB_le (ofV_60 h).2.1
  have hv:cpV l m=poV l m:=by unfold cpV;rw[if_neg h]
  exact ⟨(show l.length≤65536 by omega),QC.flat (by show [paV (cpV l m).1,.int .i64 (cpV l m).2]=_;rw[hv];rfl) rfl rfl⟩
theorem cp_held:Held Tryz.prog G0 58 ctCp:=Held.run cxCp (fn:=Tryz.f58) rfl rfl ⟨by decide,by decide⟩ fun ⟨l,m,_⟩ hp=>cp_run l m hp _
theorem symV_le (p:PaT):(symV p).1.length≤65536:=by
 unfold symV
 split
 ·rename_i h
  obtain ⟨h1,h2,h3,_⟩:=chkV_ok h
  have:=symF_len h1
  show (symF p.2.2.2).length≤65536
  omega
 ·exact Nat.zero_le _
end Go.Proofs.YtncocpjkaggnjaaGreatDoor
namespace Go.Proofs.YtncocpjkaggnjaaGreatDoor
open Go.Px Go.Ax
set_option maxRecDepth 100000
set_option maxRecDepth 100000
end Go.Proofs.YtncocpjkaggnjaaGreatDoor
namespace Go.Proofs.YtncocpjkaggnjaaGreatDoor
open Go.Px Go.Ax
set_option maxRecDepth 100000
attribute [local irreducible] Go.Px.sy Go.Px.syE
end Go.Proofs.YtncocpjkaggnjaaGreatDoor
namespace Go.Proofs.YtncocpjkaggnjaaGreatDoor
open Go.Px Go.Ax
set_option maxRecDepth 100000
set_option maxRecDepth 100000
end Go.Proofs.YtncocpjkaggnjaaGreatDoor
namespace Go.Proofs.YtncocpjkaggnjaaGreatDoor
end Go.Proofs.YtncocpjkaggnjaaGreatDoor
namespace Go.Proofs.YtncocpjkaggnjaaGreatDoor
open Go.Px Go.Ax
set_option maxRecDepth 100000
set_option maxRecDepth 100000
end Go.Proofs.YtncocpjkaggnjaaGreatDoor
namespace Go.Proofs.YtncocpjkaggnjaaGreatDoor
open Go.Px Go.Ax
set_option maxRecDepth 100000
attribute [local irreducible] Go.Px.sy Go.Px.syE
abbrev gI3 (w:List Int) (i:Nat):Int:=gt (Sh.int .i32) w i
def preW (w:List Int):Prop:=∀ j,-2147483648≤gI3 w j∧gI3 w j<2147483648
theorem chk60 {m N:Int}:∀ {l:List OpT} {left i:Int},(chkF m N l left i).2=0∨(chkF m N l left i).2=60
 | [],left,i=>by
  simp only[chkF]
  split
  ·exact .inr rfl
  ·exact .inl rfl
 | x::l,left,i=>by
  simp only[chkF]
  split
  ·exact .inr rfl
  ·split
   ·exact .inr rfl
   ·exact chk60
theorem chkV60 (p:PaT):(chkV p).2=0∨(chkV p).2=60:=by
 unfold chkV
 split
 ·exact chk60
 ·exact .inr rfl
section
variable (z:Int) (l4:List (List Int)) (w:List Int) (h6:preM6 z l4) (hw:preW w)
include h6 hw
end
end Go.Proofs.YtncocpjkaggnjaaGreatDoor
namespace Go.Proofs.YtncocpjkaggnjaaGreatDoor
open Go.Px Go.Ax
set_option maxRecDepth 100000
set_option maxRecDepth 100000
end Go.Proofs.YtncocpjkaggnjaaGreatDoor
namespace Go.Proofs.YtncocpjkaggnjaaGreatDoor
open Go.Px Go.Ax
set_option maxRecDepth 100000
attribute [local irreducible] Go.Px.sy Go.Px.syE
theorem poV_ok {s:List SyT} {m:Int} (hr:∀ x∈s,sOK m x=true) (h0:0≤m) (h1:m≤65536) (hl:s.length≤4096):poV s m=((false,m,(s.length:Int),chL s),0)∧symF (chL s)=s∧(∀ x∈chL s,isRB x m=true)∧costS (chL s)=cst s∧(chL s).length≤4096 ∧
  (chkV (false,m,(s.length:Int),chL s)).2=0:=by
 obtain ⟨c1,c2,c3,c4⟩:=ch_ok (m:=m) (by omega) s.length s (Nat.le_refl _) (by omega) hr
 have hb:=bst_bo s (by omega)
 unfold boL at hb
 have hlen:(chL s).length≤4096:=by
  show (chF s.length s).length≤4096
  have:oct s=(bst s).2.2.2:=rfl
  omega
 have hs:=symF_len c2
 rw[c1] at hs
 refine ⟨?_,c1,c2,c3,hlen,?_⟩
 ·unfold poV
  rw[if_neg (by omega)]
 ·have:=chkV_of (li:=false) (o:=(s.length:Int)) h0 h1 (by omega) hlen c2 hs.symm
  rw[this]
theorem cpV_ok {s:List SyT} {m:Int} (hr:∀ x∈s,sOK m x=true) (h0:0≤m) (h1:m≤65536) (hl:s.length≤4096):cpV s m=((false,m,(s.length:Int),chL s),0):=by
 unfold cpV
 rw[if_neg (ofV_60' ⟨by simp[szB];omega,by simp[szB];omega,by rw[List.all_eq_true];exact hr⟩)]
 exact (poV_ok hr h0 h1 hl).1
end Go.Proofs.YtncocpjkaggnjaaGreatDoor
namespace Go.Proofs.YtncocpjkaggnjaaGreatDoor
open Go.Px Go.Ax
end Go.Proofs.YtncocpjkaggnjaaGreatDoor
namespace Go.Proofs.YtncocpjkaggnjaaGreatDoor
open Go.Px Go.Ax
set_option maxRecDepth 100000
set_option maxRecDepth 100000
end Go.Proofs.YtncocpjkaggnjaaGreatDoor
namespace Go.Proofs.YtncocpjkaggnjaaGreatDoor
open Go.Px Go.Ax
set_option maxRecDepth 100000
attribute [local irreducible] Go.Px.sy Go.Px.syE
end Go.Proofs.YtncocpjkaggnjaaGreatDoor
namespace Go.Proofs.YtncocpjkaggnjaaGreatDoor
open Go.Px Go.Ax
set_option maxRecDepth 100000
set_option maxRecDepth 100000
end Go.Proofs.YtncocpjkaggnjaaGreatDoor
namespace Go.Proofs.YtncocpjkaggnjaaGreatDoor
open Go.Px Go.Ax
set_option maxRecDepth 100000
attribute [local irreducible] Go.Px.sy Go.Px.syE
section
variable (a b:Int) (l:List SyT) (hl:l.length<16777216)
include hl
end
end Go.Proofs.YtncocpjkaggnjaaGreatDoor
namespace Go.Proofs.YtncocpjkaggnjaaGreatDoor
open Go.Px Go.Ax
set_option maxRecDepth 100000
set_option maxRecDepth 100000
end Go.Proofs.YtncocpjkaggnjaaGreatDoor
namespace Go.Proofs.YtncocpjkaggnjaaGreatDoor
open Go.Px Go.Ax
set_option maxRecDepth 100000
attribute [local irreducible] Go.Px.sy Go.Px.syE
def preLi (l:List SyT):Prop:=l.length≤65536∧∃ m:Int,m<16777216∧∀ s∈l,sOK m s=true
section
variable (l:List SyT) (hp:preLi l)
include hp
end
end Go.Proofs.YtncocpjkaggnjaaGreatDoor
