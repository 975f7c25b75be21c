/-
  A part of the proof: what pieces of the program give; conditions: those of each theorem.
-/
import Derived.Test.YtdeacfammdjajaaDoorQ0
import Derived.Test.YtdeacfammdjajaaDoorHD
set_option linter.unusedVariables false
set_option linter.unusedSimpArgs false
namespace Go.Proofs.YtdeacfammdjajaaDoor
open Go.Px Go.Ax
open Go.IntKind(i64 u32 u8)
set_option maxRecDepth 100000
def CA:CV:=(109,.inr (ctA 4))::(106,.inr (ctA 3))::(103,.inr (ctA 2))::(99,.inr (ctA 1))::(46,.inl ctChk)::C1
theorem cxA:CxOK Tryd.prog tt G0 CA:=((((cx1.k qs9 (fn:=Tryd.f46)).consI quz (fn:=Tryd.f99) rfl rfl rfl).consI quv (fn:=Tryd.f103) rfl rfl rfl).consI qws (fn:=Tryd.f106) rfl rfl rfl).consI qx8 (fn:=Tryd.f109) rfl rfl rfl
def E1:CV:=(55,.inl (ctO 1 117))::CA
def E2:CV:=(55,.inl (ctO 2 118))::CA
def E3:CV:=(55,.inl (ctO 3 119))::CA
def E4:CV:=(55,.inl (ctO 4 120))::CA
theorem ex1:CxOK Tryd.prog tt G0 E1:=cxA.k qxt (fn:=Tryd.f55)
theorem ex2:CxOK Tryd.prog tt G0 E2:=cxA.k qxs (fn:=Tryd.f55)
theorem ex3:CxOK Tryd.prog tt G0 E3:=cxA.k qxr (fn:=Tryd.f55)
theorem ex4:CxOK Tryd.prog tt G0 E4:=cxA.k qxq (fn:=Tryd.f55)
set_option maxRecDepth 100000
theorem q49 (li:Bool) (m o:Int) (l:List OpT) (Q:QT) (R:RT):sA CA Tryd.f37 Q R [.code (qad Tryd.f37)] (entry [paS] ((li,m,o,l),())) =
  (ctChk.pre ((li,m,o,l),())/\bc (decide ((chkV (li,m,o,l)).2≠0)) (Q [.nils,.i (chkV (li,m,o,l)).2] [(1,.var [.bool li,.i m,.i o,.sl opS l])]) ((0:Int)<=0/\(0:Int)<=o/\o<2 ^ 24/\(↑(24:Nat):Int)*o<=2 ^ 48/\R (hd Tryd.f37 0) { env:=[(0,.agg [.bool li,.i m,.i o,.sl opS l]),(1,.ptr 1 0),(2,.nils),(3,.i 0),(4,.i (chkV (li,m,o,l)).1),(5,.i (chkV (li,m,o,l)).2),(6,.win true syS 19 0 (0:Nat)),(9,SV.tup [.i (chkV (li,m,o,l)).1,.i (chkV (li,m,o,l)).2]),(10,.agg [.bool li,.i m,.i o,.sl opS l]),(11,SV.tup [.i (chkV (li,m,o,l)).1,.i (chkV (li,m,o,l)).2]),(12,.i (chkV (li,m,o,l)).1),(13,.i (chkV (li,m,o,l)).2),(14,.i (chkV (li,m,o,l)).2),(15,.bool (decide ((chkV (li,m,o,l)).2≠0))),(17,.ptr 1 2),(18,.i o),(19,.win true syS 19 0 (0:Nat)),(20,.ptr 1 3),(21,.sl opS l),(22,.i (l.length:Int)),(23,.i 0)],blk:=[(1,.var [.bool li,.i m,.i o,.sl opS l]),(19,.row 82 syS (List.replicate (0) syS.dflt))] })):=by kernel_rfl
theorem qoa (li:Bool) (m o:Int) (l:List OpT) (s:List SyT) (i:Nat) (Q:QT) (R:RT):sA E1 Tryd.f37 Q R (hd Tryd.f37 0) ⟨[(1,.ptr 1 0),(6,.win true syS 19 0 s.length),(21,.sl opS l),(22,.i l.length),(23,.i (i:Nat))],[(1,.var [.bool li,.i m,.i o,.sl opS l]),(19,.row 82 syS s)]⟩ =
  (bc (decide ((i:Int)<(l.length:Int))) ((0:Int)<=(i:Int)/\(i:Int)<(l.length:Int)/\(ctO (1:Int) (117:Nat)).pre ((gtO l (i:Int).toNat),())/\s.length=s.length/\(ctA (1:Nat)).pre ((gtO l (i:Int).toNat),s,())/\R (hd Tryd.f37 0) { env:=[(1,.ptr 1 0),(6,.win true syS 1122880 0 (List.length (s++qaz (1:Nat) (gtO l (i:Int).toNat)))),(8,.ptr 8 0),(21,.sl opS l),(22,.i (l.length:Int)),(23,.i (i64.wrap ((i:Int)+1))),(24,.bool (decide ((i:Int)<(l.length:Int)))),(25,.elv opS (gtO l (i:Int).toNat)),(26,.agg (oI (gtO l (i:Int).toNat))),(27,.agg (oI (gtO l (i:Int).toNat))),(28,.ifc (117:Nat) true (oI (gtO l (i:Int).toNat))),(29,.dead),(30,.win true syS 1122880 0 (List.length (s++qaz (1:Nat) (gtO l (i:Int).toNat)))),(31,.i (i64.wrap ((i:Int)+1)))],blk:=[(1,.var [.bool li,.i m,.i o,.sl opS l]),(8,.var (oI (gtO l (i:Int).toNat))),(1122880,.row 82 syS (s++qaz (1:Nat) (gtO l (i:Int).toNat)))] }) (Q [.win true syS 19 0 s.length,.i 0] [(1,.var [.bool li,.i m,.i o,.sl opS l]),(19,.row 82 syS s)])):=by kernel_rfl
theorem qva (li:Bool) (m o:Int) (l:List OpT) (s:List SyT) (i:Nat) (Q:QT) (R:RT):sA E2 Tryd.f37 Q R (hd Tryd.f37 0) ⟨[(1,.ptr 1 0),(6,.win true syS 19 0 s.length),(21,.sl opS l),(22,.i l.length),(23,.i (i:Nat))],[(1,.var [.bool li,.i m,.i o,.sl opS l]),(19,.row 82 syS s)]⟩ =
  (bc (decide ((i:Int)<(l.length:Int))) ((0:Int)<=(i:Int)/\(i:Int)<(l.length:Int)/\(ctO (2:Int) (118:Nat)).pre ((gtO l (i:Int).toNat),())/\s.length=s.length/\(ctA (2:Nat)).pre ((gtO l (i:Int).toNat),s,())/\R (hd Tryd.f37 0) { env:=[(1,.ptr 1 0),(6,.win true syS 1122880 0 (List.length (s++qaz (2:Nat) (gtO l (i:Int).toNat)))),(8,.ptr 8 0),(21,.sl opS l),(22,.i (l.length:Int)),(23,.i (i64.wrap ((i:Int)+1))),(24,.bool (decide ((i:Int)<(l.length:Int)))),(25,.elv opS (gtO l (i:Int).toNat)),(26,.agg (oI (gtO l (i:Int).toNat))),(27,.agg (oI (gtO l (i:Int).toNat))),(28,.ifc (118:Nat) true (oI (gtO l (i:Int).toNat))),(29,.dead),(30,.win true syS 1122880 0 (List.length (s++qaz (2:Nat) (gtO l (i:Int).toNat)))),(31,.i (i64.wrap ((i:Int)+1)))],blk:=[(1,.var [.bool li,.i m,.i o,.sl opS l]),(8,.var (oI (gtO l (i:Int).toNat))),(1122880,.row 82 syS (s++qaz (2:Nat) (gtO l (i:Int).toNat)))] }) (Q [.win true syS 19 0 s.length,.i 0] [(1,.var [.bool li,.i m,.i o,.sl opS l]),(19,.row 82 syS s)])):=by kernel_rfl
theorem qu9 (li:Bool) (m o:Int) (l:List OpT) (s:List SyT) (i:Nat) (Q:QT) (R:RT):sA E3 Tryd.f37 Q R (hd Tryd.f37 0) ⟨[(1,.ptr 1 0),(6,.win true syS 19 0 s.length),(21,.sl opS l),(22,.i l.length),(23,.i (i:Nat))],[(1,.var [.bool li,.i m,.i o,.sl opS l]),(19,.row 82 syS s)]⟩ =
  (bc (decide ((i:Int)<(l.length:Int))) ((0:Int)<=(i:Int)/\(i:Int)<(l.length:Int)/\(ctO (3:Int) (119:Nat)).pre ((gtO l (i:Int).toNat),())/\s.length=s.length/\(ctA (3:Nat)).pre ((gtO l (i:Int).toNat),s,())/\R (hd Tryd.f37 0) { env:=[(1,.ptr 1 0),(6,.win true syS 1122880 0 (List.length (s++qaz (3:Nat) (gtO l (i:Int).toNat)))),(8,.ptr 8 0),(21,.sl opS l),(22,.i (l.length:Int)),(23,.i (i64.wrap ((i:Int)+1))),(24,.bool (decide ((i:Int)<(l.length:Int)))),(25,.elv opS (gtO l (i:Int).toNat)),(26,.agg (oI (gtO l (i:Int).toNat))),(27,.agg (oI (gtO l (i:Int).toNat))),(28,.ifc (119:Nat) true (oI (gtO l (i:Int).toNat))),(29,.dead),(30,.win true syS 1122880 0 (List.length (s++qaz (3:Nat) (gtO l (i:Int).toNat)))),(31,.i (i64.wrap ((i:Int)+1)))],blk:=[(1,.var [.bool li,.i m,.i o,.sl opS l]),(8,.var (oI (gtO l (i:Int).toNat))),(1122880,.row 82 syS (s++qaz (3:Nat) (gtO l (i:Int).toNat)))] }) (Q [.win true syS 19 0 s.length,.i 0] [(1,.var [.bool li,.i m,.i o,.sl opS l]),(19,.row 82 syS s)])):=by kernel_rfl
theorem qu8 (li:Bool) (m o:Int) (l:List OpT) (s:List SyT) (i:Nat) (Q:QT) (R:RT):sA E4 Tryd.f37 Q R (hd Tryd.f37 0) ⟨[(1,.ptr 1 0),(6,.win true syS 19 0 s.length),(21,.sl opS l),(22,.i l.length),(23,.i (i:Nat))],[(1,.var [.bool li,.i m,.i o,.sl opS l]),(19,.row 82 syS s)]⟩ =
  (bc (decide ((i:Int)<(l.length:Int))) ((0:Int)<=(i:Int)/\(i:Int)<(l.length:Int)/\(ctO (4:Int) (120:Nat)).pre ((gtO l (i:Int).toNat),())/\s.length=s.length/\(ctA (4:Nat)).pre ((gtO l (i:Int).toNat),s,())/\R (hd Tryd.f37 0) { env:=[(1,.ptr 1 0),(6,.win true syS 1122880 0 (List.length (s++qaz (4:Nat) (gtO l (i:Int).toNat)))),(8,.ptr 8 0),(21,.sl opS l),(22,.i (l.length:Int)),(23,.i (i64.wrap ((i:Int)+1))),(24,.bool (decide ((i:Int)<(l.length:Int)))),(25,.elv opS (gtO l (i:Int).toNat)),(26,.agg (oI (gtO l (i:Int).toNat))),(27,.agg (oI (gtO l (i:Int).toNat))),(28,.ifc (120:Nat) true (oI (gtO l (i:Int).toNat))),(29,.dead),(30,.win true syS 1122880 0 (List.length (s++qaz (4:Nat) (gtO l (i:Int).toNat)))),(31,.i (i64.wrap ((i:Int)+1)))],blk:=[(1,.var [.bool li,.i m,.i o,.sl opS l]),(8,.var (oI (gtO l (i:Int).toNat))),(1122880,.row 82 syS (s++qaz (4:Nat) (gtO l (i:Int).toNat)))] }) (Q [.win true syS 19 0 s.length,.i 0] [(1,.var [.bool li,.i m,.i o,.sl opS l]),(19,.row 82 syS s)])):=by kernel_rfl
theorem qob (n:Int) (Q:QT) (R:RT):sA [] Tryd.f20 Q R [.code (qad Tryd.f20)] (entry [iI] (n,())) =
  (bc (decide (n=(0:Int))) (Q [.agg [.bool false,.i 0,.i 0,.nils]] [(2,.var [.bool false,.i 0,.i 0,.nils])]) (Q [.agg [.bool false,.i n,.i n,.win true opS 10 0 (1:Nat)]] [(2,.var [.bool false,.i n,.i n,.win true opS 10 0 (1:Nat)]),(10,.row 55 opS ([((1:Int),(0:Int),n,(0:Int),[])]:List opS.D))])):=by kernel_rfl
def qch (x y:OpT):List (Nat × LB):=[(2,.var [.i x.1,.i x.2.1,.i x.2.2.1,.u x.2.2.2.1,.sl uB x.2.2.2.2]),(3,.var [.i y.1,.i y.2.1,.i y.2.2.1,.u y.2.2.2.1,.sl uB y.2.2.2.2])]
theorem qvc (x y:OpT) (Q:QT) (R:RT):sA [] Tryd.f35 Q R [.code (qad Tryd.f35)] (entry [opS,opS] (x,y,())) =
  (bc (decide (x.1=y.1)) (bc (decide (x.2.1=y.2.1)) (bc (decide (x.2.2.1=y.2.2.1)) (bc (decide (x.2.2.2.1=y.2.2.2.1)) (Q [.bool (decide (List.map toB x.2.2.2.2=List.map toB y.2.2.2.2))] (qch x y)) (false=false/\Q [.bool false] (qch x y))) (false=false/\false=false/\Q [.bool false] (qch x y))) (false=false/\false=false/\false=false/\Q [.bool false] (qch x y))) (false=false/\false=false/\false=false/\false=false/\Q [.bool false] (qch x y))):=by kernel_rfl
attribute [local irreducible] Go.Px.sy Go.Px.syE
theorem zb6 {l:List Int} {i:Nat} (h:i<l.length):gtB l i=l[i]:=gtE (e:=uB) h
theorem qff {ct:Ctr} {x:DL ct.args} {rs:List SV} {blk:List (Nat × LB)} {e:Sh} {et:TypeId} {a k:Nat} {z:Int} {xs:List e.D} (h:ct.out x=[.win true e 0 0 xs.length,.i z]) (hr:ct.rows x=[.row et e xs]) (hs:rs=[.win true e a 0 k,.i z]) (hk:k=xs.length) (hb:lk blk a=some (.row et e xs)):QC ct x rs blk:=by
 subst hs;subst hk;refine ⟨λ i=>if i=0 then some a else none,?_,?_,λ i j b h1 h2=>?_,by rw[hr];rfl⟩
 ·rw[h];exact ⟨_,_,rfl,.inl ⟨true,a,rfl,rfl,λ h=>h⟩,_,_,rfl,rfl,rfl⟩
 ·rw[hr];exact ⟨.inl ⟨a,rfl,hb⟩,trivial⟩
 ·simp only at h1 h2;split at h1
  ·split at h2
   ·omega
   ·cases h2
  ·cases h1
theorem qc5 {ct:Ctr} {x:DL ct.args} {rs:List SV} {blk:List (Nat × LB)} {e:Sh} {et:TypeId} {z:Int} (h:ct.out x=[.win true e 0 0 0,.i z]) (hr:ct.rows x=[.row et e []]) (hs:rs=[.nils,.i z]) (he:0<e.size):QC ct x rs blk:=by
 subst hs;refine ⟨λ _=>none,?_,?_,λ i j b h1 h2=>?_,by rw[hr];rfl⟩
 ·rw[h];exact ⟨_,_,rfl,.inr ⟨rfl,rfl,rfl,rfl⟩,_,_,rfl,rfl,rfl⟩
 ·rw[hr];exact ⟨.inr ⟨rfl,_,_,rfl,he⟩,trivial⟩
 ·simp at h1
def soB (x y:OpT):Bool:=decide (x.1=y.1)&&(decide (x.2.1=y.2.1)&&(decide (x.2.2.1=y.2.2.1)&&(decide (x.2.2.2.1=y.2.2.2.1)&&decide (x.2.2.2.2.map toB=y.2.2.2.2.map toB))))
def ctSO:Ctr:=⟨[opS,opS],λ _=>True,λ x=>[.bool (soB x.1 x.2.1)],λ _=>[]⟩
theorem q6m:Held Tryd.prog G0 35 ctSO:=by
 refine Held.run cx0 (fn:=Tryd.f35) rfl rfl ⟨by decide,by decide⟩ ?_;rintro ⟨x,y,⟨⟩⟩ _;refine (qvc x y _ _).mpr ?_
 cases e1:decide (x.1=y.1) <;> cases e2:decide (x.2.1=y.2.1) <;> cases e3:decide (x.2.2.1=y.2.2.1) <;> cases e4:decide (x.2.2.2.1=y.2.2.2.1) <;>
  simp only[bc_t,bc_f,cond_true,cond_false,true_and] <;> exact QC.flat (by simp only[ctSO,soB,e1,e2,e3,e4];rfl) rfl rfl
def ofV (l:List SyT) (m:Int):PaT × Int:=if szB m=true/\szB l.length=true/\l.all (sOK m)=true then (if 4096<(opsL l).length then ((false,0,0,[]),2) else ((false,m,l.length,opsL l),0)) else ((false,0,0,[]),60)
def paV (p:PaT):SV:=.agg [.bool p.1,.i p.2.1,.i p.2.2.1,.sl opS p.2.2.2]
def lenS (l:List OpT):Int:=(l.map λ x=>x.2.2.1).sum
theorem q4x {m N:Int}:∀ {l:List OpT} {left i:Int},(chkF m N l left i).2=0->0<=left->(∀ x∈l,isRB x m=true)/\lenS l=left
 | [],left,i,h,h0=>by
  refine ⟨λ x hx=>by simp at hx,?_⟩;simp only[chkF] at h;split at h
  ·cases h
  ·show (0:Int)=left;omega
 | x::l,left,i,h,h0=>by
  simp only[chkF] at h;split at h
  ·cases h
  next h1=>
   split at h
   ·cases h
   next h2=>
    have hr:isRB x m=true:=by simpa using h1
    have hx:=qdy hr;obtain ⟨k1,k2⟩:=q4x h (by omega);refine ⟨λ y hy=>?_,?_⟩
    ·rcases List.mem_cons.1 hy with rfl | hy
     ·exact hr
     ·exact k1 y hy
    ·simp only[lenS,List.map_cons,List.sum_cons] at k2 |-;omega
theorem qfq {x:OpT} {m:Int} (h:isRB x m=true):(x.1=1\/x.1=2\/x.1=3\/x.1=4)/\(cntO x.1.toNat x:Int)=x.2.2.1:=by
 have hl:=qdy h;unfold isRB kR at h;simp only[Bool.and_eq_true,decide_eq_true_eq] at h;obtain ⟨_,_,h⟩:=h;obtain ⟨k,f,n,b,d⟩:=x;simp only at h hl |-;split at h
 next e=>subst e;exact ⟨.inl rfl,by show (n.toNat:Int)=n;omega⟩
 ·split at h
  next e=>subst e;simp only[rB,Bool.and_eq_true,decide_eq_true_eq] at h;exact ⟨.inr (.inl rfl),h.2.2⟩
  ·split at h
   next e=>subst e;exact ⟨.inr (.inr (.inl rfl)),by show (n.toNat:Int)=n;omega⟩
   ·split at h
    next e=>subst e;simp only[rB,Bool.and_eq_true,decide_eq_true_eq] at h;exact ⟨.inr (.inr (.inr rfl)),h.2.2⟩
    ·cases h
theorem qkz (x:OpT) (l:List OpT):lenS (x::l)=x.2.2.1+lenS l:=by simp only[lenS,List.map_cons,List.sum_cons]
theorem qh0 {m:Int}:∀ {l:List OpT},(∀ x∈l,isRB x m=true)->0<=lenS l
 | [],_=>Int.le_refl 0
 | x::l,h=>by
  have h1:=qdy (h x (by simp));have h2:=qh0 (l:=l) λ y hy=>h y (by simp[hy])
  simp only[lenS,List.map_cons,List.sum_cons] at h2 |-;omega
def symF:List OpT->List SyT
 | []=>[]
 | x::l=>qaz x.1.toNat x++symF l
def symV (p:PaT):List SyT × Int:=if (chkV p).2=0 then (symF p.2.2.2,0) else ([],(chkV p).2)
def ctSym:Ctr:=⟨[paS],λ _=>True,λ x=>[.win true syS 0 0 (symV x.1).1.length,.i (symV x.1).2],λ x=>[.row 82 syS (symV x.1).1]⟩
abbrev SQ (p:PaT):List SV->List (Nat × LB)->Prop:=QC ctSym (p,())
theorem qe2 {p:PaT} (h:(chkV p).2=0):(∀ x∈p.2.2.2,isRB x p.2.1=true)/\lenS p.2.2.2=p.2.2.1/\(0<=p.2.2.1/\p.2.2.1<=65536)/\p.2.2.2.length<=4096:=by
 unfold chkV at h;split at h
 next hg=>
  have hs:0<=p.2.2.1/\p.2.2.1<=65536:=by
   have:=hg.2.1;unfold szB at this;simpa only[Bool.and_eq_true,decide_eq_true_eq] using this
  obtain ⟨h1,h2⟩:=q4x h hs.1;exact ⟨h1,h2,hs,hg.2.2⟩
 ·cases h
theorem qz7 (li:Bool) (m o:Int) (l:List OpT) (hc:(chkV (li,m,o,l)).2=0):∀ (k i:Nat) (s:List SyT),l.length-i=k->i<=l.length->(s.length:Int)+lenS (l.drop i)<=65536->s++symF (l.drop i)=symF l ->
  GD 37 Tryd.f37 (SQ (li,m,o,l)) (hd Tryd.f37 0) ⟨[(1,.ptr 1 0),(6,.win true syS 19 0 s.length),(21,.sl opS l),(22,.i l.length),(23,.i (i:Nat))],[(1,.var [.bool li,.i m,.i o,.sl opS l]),(19,.row 82 syS s)]⟩:=by
 obtain ⟨hr,hsum,hob,hlen⟩:=qe2 hc;simp only at hr hsum hob hlen;intro k
 induction k with
 | zero=>
  intro i s hk hi hb hs;have hi:i=l.length:=by omega
  subst hi;refine qak ex1 _ _ _ ((qoa li m o l s _ _ _).mpr ?_);rw[decide_eq_false (by omega),bc_f];rw[List.drop_length,symF,List.append_nil] at hs;have hv:symV (li,m,o,l)=(s,0):=by unfold symV;rw[if_pos hc,hs]
  refine qff (e:=syS) (et:=82) (a:=19) (z:=0) (xs:=s) ?_ ?_ rfl rfl rfl
  ·show [_,_]=_;rw[hv]
  ·show [_]=_;rw[hv]
 | succ k ih=>
  intro i s hk hi hb hs;have hil:i<l.length:=by omega
  have hx:=hr l[i] (List.getElem_mem hil);have hk2:=qfq hx;have hl2:=qdy hx;rw[qlf hil] at hb hs;rw[qkz] at hb;have hb2:(s.length:Int)+(l[i].2.2.1+lenS (l.drop (i+1)))<=65536:=hb;have hpos:0<=lenS (l.drop (i+1)):=qh0 λ y hy=>hr y (List.mem_of_mem_drop hy)
  have hcl:(qaz l[i].1.toNat l[i]).length=cntO l[i].1.toNat l[i]:=by unfold qaz;exact qns _ _ _
  have hpre:preA l[i].1.toNat l[i] s:=⟨by omega,by omega,by omega⟩;have nx:GD 37 Tryd.f37 (SQ (li,m,o,l)) (hd Tryd.f37 0) ⟨[(1,.ptr 1 0),(6,.win true syS 19 0 (s++qaz l[i].1.toNat l[i]).length),(21,.sl opS l),(22,.i l.length),(23,.i ((i+1:Nat):Int))],[(1,.var [.bool li,.i m,.i o,.sl opS l]),(19,.row 82 syS (s++qaz l[i].1.toNat l[i]))]⟩:=
   ih (i+1) _ (by omega) (by omega) (by rw[List.length_append];omega) (by rw[List.append_assoc];exact hs)
  have wi:IntKind.i64.wrap ((i:Int)+1)=((i+1:Nat):Int):=by rw[IntWalk.i64_in _ (by omega)];omega
  rcases hk2.1 with e | e | e | e
  ·rw[e] at hpre nx;refine qak ex1 _ _ _ ((qoa li m o l s i _ _).mpr ?_);rw[decide_eq_true (show (i:Int)<(l.length:Int) by omega),bc_t,Int.toNat_natCast,qgs hil,wi];exact ⟨by omega,by omega,e,rfl,hpre,nx.onlyR [(19,1122880)] rfl ⟨rfl,rfl,rfl,rfl,rfl,trivial⟩ ⟨rfl,rfl,trivial⟩⟩
  ·rw[e] at hpre nx;refine qak ex2 _ _ _ ((qva li m o l s i _ _).mpr ?_);rw[decide_eq_true (show (i:Int)<(l.length:Int) by omega),bc_t,Int.toNat_natCast,qgs hil,wi];exact ⟨by omega,by omega,e,rfl,hpre,nx.onlyR [(19,1122880)] rfl ⟨rfl,rfl,rfl,rfl,rfl,trivial⟩ ⟨rfl,rfl,trivial⟩⟩
  ·rw[e] at hpre nx;refine qak ex3 _ _ _ ((qu9 li m o l s i _ _).mpr ?_);rw[decide_eq_true (show (i:Int)<(l.length:Int) by omega),bc_t,Int.toNat_natCast,qgs hil,wi];exact ⟨by omega,by omega,e,rfl,hpre,nx.onlyR [(19,1122880)] rfl ⟨rfl,rfl,rfl,rfl,rfl,trivial⟩ ⟨rfl,rfl,trivial⟩⟩
  ·rw[e] at hpre nx;refine qak ex4 _ _ _ ((qu8 li m o l s i _ _).mpr ?_);rw[decide_eq_true (show (i:Int)<(l.length:Int) by omega),bc_t,Int.toNat_natCast,qgs hil,wi];exact ⟨by omega,by omega,e,rfl,hpre,nx.onlyR [(19,1122880)] rfl ⟨rfl,rfl,rfl,rfl,rfl,trivial⟩ ⟨rfl,rfl,trivial⟩⟩
theorem sym_held:Held Tryd.prog G0 37 ctSym:=by
 refine Held.run cxA (fn:=Tryd.f37) rfl rfl ⟨by decide,by decide⟩ ?_;rintro ⟨⟨li,m,o,l⟩,⟨⟩⟩ _;refine (q49 li m o l _ _).mpr ⟨trivial,qaf (λ h=>?_) (λ h=>?_)⟩
 ·have h:(chkV (li,m,o,l)).2≠0:=of_decide_eq_true h;have hv:symV (li,m,o,l)=([],(chkV (li,m,o,l)).2):=by unfold symV;rw[if_neg h]
  refine qc5 (e:=syS) (et:=82) (z:=(chkV (li,m,o,l)).2) ?_ ?_ rfl (by decide)
  ·show [_,_]=_;rw[hv];rfl
  ·show [_]=_;rw[hv]
 ·have h:¬ (chkV (li,m,o,l)).2≠0:=of_decide_eq_false h;have h:(chkV (li,m,o,l)).2=0:=by simpa using h
  obtain ⟨hr,hsum,hob,hlen⟩:=qe2 h;simp only at hr hsum hob hlen;refine ⟨Int.le_refl 0,hob.1,?_,?_,?_⟩
  ·exact Int.lt_of_le_of_lt hob.2 (by decide)
  ·exact Int.le_trans (Int.mul_le_mul_of_nonneg_left hob.2 (by decide)) (by decide)
  ·exact (qz7 li m o l h _ 0 [] rfl (by omega) (by rw[List.drop_zero,hsum];simpa using hob.2) rfl).only ⟨rfl,rfl,rfl,rfl,rfl,trivial⟩ ⟨rfl,rfl,trivial⟩
def k14 (x:OpT):Prop:=x.1=1\/x.1=2\/x.1=3\/x.1=4
def CS:CV:=[(35,.inl ctSO)]
theorem cxS:CxOK Tryd.prog tt G0 CS:=cx0.k q6m (fn:=Tryd.f35)
set_option maxRecDepth 100000
def qes (li li2:Bool) (m o m2 o2:Int) (l l2:List OpT):List (Nat × LB):=[(2,.var [.bool li,.i m,.i o,.sl opS l]),(3,.var [.bool li2,.i m2,.i o2,.sl opS l2])]
theorem q5b (li li2:Bool) (m o m2 o2:Int) (l l2:List OpT) (Q:QT) (R:RT):sA CS Tryd.f16 Q R [.code (qad Tryd.f16)] (entry [paS,paS] ((li,m,o,l),(li2,m2,o2,l2),())) =
  (bc (!li == li2) (true=true/\true=true/\true=true/\Q [.bool false] (qes li li2 m o m2 o2 l l2)) (bc (bif false then true else decide (m≠m2)) (true=true/\true=true/\Q [.bool false] (qes li li2 m o m2 o2 l l2)) (bc (bif false then true else decide (o≠o2)) (true=true/\Q [.bool false] (qes li li2 m o m2 o2 l l2)) (bc (bif false then true else decide ((l.length:Int)≠(l2.length:Int))) (Q [.bool false] (qes li li2 m o m2 o2 l l2)) (R (hd Tryd.f16 0) { env:=[(0,.agg [.bool li,.i m,.i o,.sl opS l]),(1,.agg [.bool li2,.i m2,.i o2,.sl opS l2]),(2,.ptr 2 0),(3,.ptr 3 0),(4,.bool false),(5,.i 0),(6,.ptr 2 0),(7,.bool li),(8,.ptr 3 0),(9,.bool li2),(10,.bool !li == li2),(11,.bool false),(12,.ptr 2 1),(13,.i m),(14,.ptr 3 1),(15,.i m2),(16,.bool (decide (m≠m2))),(17,.bool (bif false then true else decide (m≠m2))),(18,.bool false),(19,.ptr 2 2),(20,.i o),(21,.ptr 3 2),(22,.i o2),(23,.bool (decide (o≠o2))),(24,.bool (bif false then true else decide (o≠o2))),(25,.bool false),(26,.ptr 2 3),(27,.sl opS l),(28,.i (l.length:Int)),(29,.ptr 3 3),(30,.sl opS l2),(31,.i (l2.length:Int)),(32,.bool (decide ((l.length:Int)≠(l2.length:Int)))),(33,.bool (bif false then true else decide ((l.length:Int)≠(l2.length:Int))))],blk:=[(2,.var [.bool li,.i m,.i o,.sl opS l]),(3,.var [.bool li2,.i m2,.i o2,.sl opS l2])] }))))):=by kernel_rfl
def qja (li li2:Bool) (m o m2 o2:Int) (l l2:List OpT):List (Nat × LB):=[(2,.var [.bool li,.i m,.i o,.sl opS l]),(3,.var [.bool li2,.i m2,.i o2,.sl opS l2])]
theorem qre (li li2:Bool) (m o m2 o2:Int) (l l2:List OpT) (i:Nat) (Q:QT) (R:RT):sA CS Tryd.f16 Q R (hd Tryd.f16 0) ⟨[(2,.ptr 2 0),(3,.ptr 3 0),(5,.i (i:Nat))],[(2,.var [.bool li,.i m,.i o,.sl opS l]),(3,.var [.bool li2,.i m2,.i o2,.sl opS l2])]⟩ =
  (bc (decide ((i:Int)<(l.length:Int))) ((0:Int)<=(i:Int)/\(i:Int)<(l.length:Int)/\(0:Int)<=(i:Int)/\(i:Int)<(l2.length:Int)/\ctSO.pre ((gtO l (i:Int).toNat),(gtO l2 (i:Int).toNat),())/\bc (!soB (gtO l (i:Int).toNat) (gtO l2 (i:Int).toNat)) (Q [.bool false] (qja li li2 m o m2 o2 l l2)) (R (hd Tryd.f16 0) { env:=[(2,.ptr 2 0),(3,.ptr 3 0),(5,.i (IntKind.i64.wrap ((i:Int)+1))),(34,.i (i:Int)),(35,.ptr 2 3),(36,.sl opS l),(37,.i (l.length:Int)),(38,.bool (decide ((i:Int)<(l.length:Int)))),(39,.i (i:Int)),(40,.i (IntKind.i64.wrap ((i:Int)+1))),(41,.ptr 2 3),(42,.sl opS l),(43,.i (i:Int)),(44,.elv opS (gtO l (i:Int).toNat)),(45,.agg (oI (gtO l (i:Int).toNat))),(46,.ptr 3 3),(47,.sl opS l2),(48,.i (i:Int)),(49,.elv opS (gtO l2 (i:Int).toNat)),(50,.agg (oI (gtO l2 (i:Int).toNat))),(51,.bool (soB (gtO l (i:Int).toNat) (gtO l2 (i:Int).toNat))),(52,.bool !soB (gtO l (i:Int).toNat) (gtO l2 (i:Int).toNat))],blk:=[(2,.var [.bool li,.i m,.i o,.sl opS l]),(3,.var [.bool li2,.i m2,.i o2,.sl opS l2])] })) (Q [.bool true] (qja li li2 m o m2 o2 l l2))):=by kernel_rfl
theorem qm0 {m:Int}:∀ {l:List OpT},(∀ x∈l,isRB x m=true)->((symF l).length:Int)=lenS l
 | [],_=>rfl
 | x::l,h=>by
  have h1:=qfq (h x (by simp));have h2:=qm0 (l:=l) λ y hy=>h y (by simp[hy])
  have hcl:(qaz x.1.toNat x).length=cntO x.1.toNat x:=by unfold qaz;exact qns _ _ _
  rw[qkz,symF,List.length_append,hcl];omega
def smL:List OpT->List OpT->Bool
 | [],[]=>true
 | x::l,y::m=>soB x y&&smL l m
 | _,_=>false
def smB (p q:PaT):Bool:=(p.1 == q.1)&&(decide (p.2.1=q.2.1)&&(decide (p.2.2.1=q.2.2.1)&&(decide (p.2.2.2.length=q.2.2.2.length)&&smL p.2.2.2 q.2.2.2)))
def ctSm:Ctr:=⟨[paS,paS],λ x=>List.length x.1.2.2.2<1099511627776,λ x=>[.bool (smB x.1 x.2.1)],λ _=>[]⟩
theorem q6o (li li2:Bool) (m o m2 o2:Int) (l l2:List OpT) (hl:l.length<1099511627776) (he:l.length=l2.length):∀ (k i:Nat),l.length-i=k->i<=l.length ->
  GD 16 Tryd.f16 (λ rs _=>rs=[.bool (smL (l.drop i) (l2.drop i))]) (hd Tryd.f16 0) ⟨[(2,.ptr 2 0),(3,.ptr 3 0),(5,.i (i:Nat))],[(2,.var [.bool li,.i m,.i o,.sl opS l]),(3,.var [.bool li2,.i m2,.i o2,.sl opS l2])]⟩:=by
 intro k
 induction k with
 | zero=>
  intro i hk hi;have hi:i=l.length:=by omega
  subst hi;refine qak cxS _ _ _ ((qre li li2 m o m2 o2 l l2 _ _ _).mpr ?_);rw[decide_eq_false (by omega),bc_f,List.drop_length,he,List.drop_length];rfl
 | succ k ih=>
  intro i hk hi;have hx:i<l.length:=by omega
  have hy:i<l2.length:=by omega
  refine qak cxS _ _ _ ((qre li li2 m o m2 o2 l l2 i _ _).mpr ?_);rw[decide_eq_true (show (i:Int)<(l.length:Int) by omega),bc_t,Int.toNat_natCast,qgs hx,qgs hy,IntWalk.i64_in ((i:Int)+1) (by omega),qlf hx,qlf hy,smL];refine ⟨by omega,by omega,by omega,by omega,trivial,qaf (λ h=>?_) (λ h=>?_)⟩
  ·have h:soB l[i] l2[i]=false:=by simpa using h
   rw[h];rfl
  ·have h:soB l[i] l2[i]=true:=by simpa using h
   rw[h];exact (ih (i+1) (by omega) (by omega)).only ⟨rfl,rfl,rfl,trivial⟩ ⟨rfl,rfl,trivial⟩
theorem qp5:Held Tryd.prog G0 16 ctSm:=by
 refine Held.run cxS (fn:=Tryd.f16) rfl rfl ⟨by decide,by decide⟩ ?_;rintro ⟨⟨li,m,o,l⟩,⟨li2,m2,o2,l2⟩,⟨⟩⟩ hp;replace hp:l.length<1099511627776:=hp;refine (q5b li li2 m o m2 o2 l l2 _ _).mpr ?_
 cases e0:(li == li2)
 ·exact ⟨rfl,rfl,rfl,QC.flat (by show [SV.bool (smB _ _)]=_;simp only[smB,e0];rfl) rfl rfl⟩
 ·rw[Bool.not_true,bc_f];refine qaf (λ h=>⟨rfl,rfl,?_⟩) (λ h=>qaf (λ h2=>⟨rfl,?_⟩) (λ h2=>qaf (λ h3=>?_) (λ h3=>?_)))
  ·have h:m≠m2:=of_decide_eq_true h;exact QC.flat (by show [SV.bool (smB _ _)]=_;simp only[smB,e0,decide_eq_false h];rfl) rfl rfl
  ·have h2:o≠o2:=of_decide_eq_true h2;exact QC.flat (by show [SV.bool (smB _ _)]=_;simp only[smB,e0,decide_eq_false h2,Bool.false_and,Bool.and_false]) rfl rfl
  ·have h3:(l.length:Int)≠l2.length:=of_decide_eq_true h3;have h3:¬ l.length=l2.length:=by omega
   exact QC.flat (by show [SV.bool (smB _ _)]=_;simp only[smB,e0,decide_eq_false h3,Bool.false_and,Bool.and_false]) rfl rfl
  ·have h:m=m2:=by
    have h:¬ m≠m2:=of_decide_eq_false h;simpa using h
   have h2:o=o2:=by
    have h2:¬ o≠o2:=of_decide_eq_false h2;simpa using h2
   have h3:l.length=l2.length:=by
    have h3:¬ (l.length:Int)≠l2.length:=of_decide_eq_false h3;omega
   refine ((q6o li li2 m o m2 o2 l l2 hp h3 _ 0 rfl (by omega)).post λ rs blk hq=>QC.flat ?_ rfl (by rw[hq];rfl)).only ⟨rfl,rfl,rfl,trivial⟩ ⟨rfl,rfl,trivial⟩;rw[hq]
   show [SV.bool (smB _ _)]=_
   simp only[smB,e0,decide_eq_true h,decide_eq_true h2,decide_eq_true h3,Bool.true_and];rfl
def rwV (n:Int):PaT:=if n=0 then (false,0,0,[]) else (false,n,n,[((1,0,n,0,[]):OpT)])
def ctRw:Ctr:=⟨[iI],λ _=>True,λ x=>[paV (rwV x.1)],λ _=>[]⟩
def ctRw1:Ctr:=⟨[iI],λ x=>x.1≠0,λ x=>[.agg [.bool false,.i x.1,.i x.1,.win true opS 0 0 1]],λ x=>[.row 55 opS [((1,0,x.1,0,[]):OpT)]]⟩
def ctRw0:Ctr:=⟨[iI],λ x=>¬ x.1≠0,λ x=>[paV (rwV x.1)],λ _=>[]⟩
theorem rw1_held:Held Tryd.prog G0 20 ctRw1:=by
 refine Held.run cx0 (fn:=Tryd.f20) rfl rfl ⟨by decide,by decide⟩ ?_;rintro ⟨n,⟨⟩⟩ hp;replace hp:n≠0:=hp;refine (qob n _ _).mpr ?_;rw[decide_eq_false hp,bc_f];refine ⟨λ i=>if i=0 then some 10 else none,?_,?_,λ i j b h1 h2=>?_,rfl⟩
 ·exact ⟨_,_,rfl,⟨_,rfl,_,_,rfl,rfl,_,_,rfl,rfl,_,_,rfl,rfl,_,_,rfl,.inl ⟨true,10,rfl,rfl,λ h=>h⟩,rfl⟩,rfl⟩
 ·exact ⟨.inl ⟨10,rfl,rfl⟩,trivial⟩
 ·simp only at h1 h2;split at h1
  ·split at h2
   ·omega
   ·cases h2
  ·cases h1
theorem q0k:Held Tryd.prog G0 20 ctRw0:=by
 refine Held.run cx0 (fn:=Tryd.f20) rfl rfl ⟨by decide,by decide⟩ ?_;rintro ⟨n,⟨⟩⟩ hp;replace hp:¬ n≠0:=hp;have hp:n=0:=by simpa using hp
 refine (qob n _ _).mpr ?_;rw[decide_eq_true hp,bc_t];refine QC.mt ?_ rfl
 show MtL _ [paV (rwV n)] _
 unfold rwV;rw[if_pos hp];exact ⟨_,_,rfl,⟨_,rfl,_,_,rfl,rfl,_,_,rfl,rfl,_,_,rfl,rfl,_,_,rfl,.inr ⟨rfl,rfl⟩,rfl⟩,rfl⟩
theorem q6v:Held Tryd.prog G0 20 ctRw:=λ x _=>by
 by_cases h:x.1≠0
 ·have e:=(rw1_held.frz (λ x hp=>⟨by simp[ctRw1,inL,inS],trivial⟩)) x h;have hv:[paV (rwV x.1)]=qul 0 (ctRw1.rows x) (ctRw1.out x):=by
   unfold rwV;rw[if_neg h];rfl
  intro base M args args' w cs Z H h1 h2 h3 h4 h5;have:=e base M args args' w cs Z H h1 h2 h3 h4 h5;simp only[Ctr.frz,ctRw] at this |-;rw[hv];exact this
 ·exact q0k x h
theorem q9r (n a b:Int) (Q:QT) (R:RT):sA [] Tryd.f58 Q R [.code (qad Tryd.f58)] (entry [iI,iI,iI] (n,a,b,())) =
  (bc (decide (a<=n)) (Q [.bool (decide (n<=b))] []) (false=false/\Q [.bool false] [])):=by kernel_rfl
theorem qsa {ct:Ctr} {x:DL ct.args} {rs:List SV} {blk:List (Nat × LB)} {e:Sh} {et:TypeId} {a k:Nat} {xs:List e.D} (h:ct.out x=[.win true e 0 0 xs.length]) (hr:ct.rows x=[.row et e xs]) (hs:rs=[.win true e a 0 k]) (hk:k=xs.length) (hb:lk blk a=some (.row et e xs)):QC ct x rs blk:=by
 subst hs;subst hk;refine ⟨λ i=>if i=0 then some a else none,?_,?_,λ i j b h1 h2=>?_,by rw[hr];rfl⟩
 ·rw[h];exact ⟨_,_,rfl,.inl ⟨true,a,rfl,rfl,λ h=>h⟩,rfl⟩
 ·rw[hr];exact ⟨.inl ⟨a,rfl,hb⟩,trivial⟩
 ·simp only at h1 h2;split at h1
  ·split at h2
   ·omega
   ·cases h2
  ·cases h1
def ctIn:Ctr:=⟨[iI,iI,iI],λ _=>True,λ x=>[.bool (decide (x.2.1<=x.1)&&decide (x.1<=x.2.2.1))],λ _=>[]⟩
theorem qqs:Held Tryd.prog G0 58 ctIn:=by
 refine Held.run cx0 (fn:=Tryd.f58) rfl rfl ⟨by decide,by decide⟩ ?_;rintro ⟨n,a,b,⟨⟩⟩ _;refine (q9r n a b _ _).mpr (qaf (λ h=>?_) (λ h=>⟨rfl,?_⟩))
 ·exact QC.flat (by simp only[ctIn,h];rfl) rfl rfl
 ·exact QC.flat (by simp only[ctIn,h];rfl) rfl rfl
def inB (x:List Int) (i:Nat):Int:=if i<x.length then gtB x i else IntKind.u8.wrap (IntKind.i64.wrap (7*(i:Int)))
end Go.Proofs.YtdeacfammdjajaaDoor
namespace Go.Proofs.YtdeacfammdjajaaDoor.Im
open Go.Px Go.Ax
open Go.IntKind(i64 u32 u8)
set_option maxRecDepth 100000
abbrev seS:Sh:=.pair .str (.pair (.int .i64) (.pair (.int .i64) .bool))
abbrev rwS:Sh:=.pair (.int .u8) (.pair (.int .u8) (.pair (.int .u8) .bool))
set_option maxRecDepth 100000
theorem q5m (l:List (rwS.D)) (n:Int) (Q:QT) (R:RT):sA [] Tryd.f8 Q R [.code (qad Tryd.f8)] (entry [.sl rwS,iI] (l,n,())) =
  (R (hd Tryd.f8 0) { env:=[(0,.sl ((Sh.int u8).pair ((Sh.int u8).pair ((Sh.int u8).pair Sh.bool))) l),(1,.i n),(4,.nils),(5,.win true Sh.str (10:Nat) (0:Nat) (8:Nat)),(6,.win true (Sh.str.pair ((Sh.int i64).pair ((Sh.int i64).pair Sh.bool))) (11:Nat) (0:Nat) (0:Nat)),(7,.i 0),(8,.i 0),(10,.win true Sh.str (10:Nat) (0:Nat) (8:Nat)),(11,.win true (Sh.str.pair ((Sh.int i64).pair ((Sh.int i64).pair Sh.bool))) (11:Nat) (0:Nat) (0:Nat))],blk:=[(10,.row 9 Sh.str (((((((((List.replicate (8:Nat) Sh.str.dflt).set (0:Nat) (ByteArray.mk #[(98:UInt8),(111:UInt8),(111:UInt8),(116:UInt8)]).data.toList).set (1:Nat) (ByteArray.mk #[(97:UInt8),(112:UInt8),(112:UInt8)]).data.toList).set (2:Nat) (ByteArray.mk #[(68:UInt8),(97:UInt8),(116:UInt8),(97:UInt8)]).data.toList).set (3:Nat) (ByteArray.mk #[(120:UInt8),(49:UInt8)]).data.toList).set (4:Nat) (ByteArray.mk #[(116:UInt8),(97:UInt8),(105:UInt8),(108:UInt8)]).data.toList).set (5:Nat) (ByteArray.mk #[(99:UInt8),(102:UInt8),(103:UInt8)]).data.toList).set (6:Nat) (ByteArray.mk #[(65:UInt8)]).data.toList).set (7:Nat) (ByteArray.mk #[(116:UInt8),(119:UInt8),(101:UInt8),(108:UInt8),(118:UInt8),(101:UInt8),(108:UInt8),(101:UInt8),(116:UInt8),(116:UInt8),(101:UInt8),(114:UInt8)]).data.toList)),(11,.row 59 (Sh.str.pair ((Sh.int i64).pair ((Sh.int i64).pair Sh.bool))) (List.replicate (0:Nat) (Sh.str.pair ((Sh.int i64).pair ((Sh.int i64).pair Sh.bool))).dflt))] }):=by kernel_rfl
theorem qrl (l:List (rwS.D)) (n at_ i:Int) (nm:List (List UInt8)) (o:List seS.D) (Q:QT) (R:RT):sA [] Tryd.f8 Q (λ it S=>R it (qaj [0,1,5,6,7,8] [10,11,90] S)) (hd Tryd.f8 0) ⟨[(0,.sl rwS l),(1,.i n),(5,.win true .str 10 0 nm.length),(6,.win true seS 11 0 o.length),(7,.i at_),(8,.i i)],[(10,.row 9 .str nm),(11,.row 59 seS o)]⟩ =
  (bc (decide (i<(l.length:Int))) (bc (bif true then decide (i<8) else false) ((0:Int)<=i/\i<(nm.length:Int)/\(0:Nat)+i.toNat<nm.length/\(0:Int)<=i/\i<(l.length:Int)/\(8:Int)≠0/\(0:Int)<=i/\i<(l.length:Int)/\bc (gt ((Sh.int u8).pair ((Sh.int u8).pair ((Sh.int u8).pair Sh.bool))) l i.toNat).2.2.2 ((4:Int)≠0/\(0:Int)<=i/\i<(l.length:Int)/\(8:Int)≠0/\bc (decide (n<i64.wrap (i64.wrap (i64.wrap (i64.wrap ((i64.wrap (i64.wrap (at_+i64.wrap (Int.tmod (gt ((Sh.int u8).pair ((Sh.int u8).pair ((Sh.int u8).pair Sh.bool))) l i.toNat).1 (8:Int)))+3)).tdiv (4:Int))*(4:Int))+4)+i64.wrap ((4:Int)*i64.wrap (Int.tmod (gt ((Sh.int u8).pair ((Sh.int u8).pair ((Sh.int u8).pair Sh.bool))) l i.toNat).2.1 (8:Int)))))) (Q [.win true (Sh.str.pair ((Sh.int i64).pair ((Sh.int i64).pair Sh.bool))) (11:Nat) (0:Nat) o.length] [(9,.var [.str (gt Sh.str nm ((0:Nat)+i.toNat)),.i (i64.wrap (i64.wrap ((i64.wrap (i64.wrap (at_+i64.wrap (Int.tmod (gt ((Sh.int u8).pair ((Sh.int u8).pair ((Sh.int u8).pair Sh.bool))) l i.toNat).1 (8:Int)))+3)).tdiv (4:Int))*(4:Int))),.i (i64.wrap (i64.wrap (i64.wrap (i64.wrap ((i64.wrap (i64.wrap (at_+i64.wrap (Int.tmod (gt ((Sh.int u8).pair ((Sh.int u8).pair ((Sh.int u8).pair Sh.bool))) l i.toNat).1 (8:Int)))+3)).tdiv (4:Int))*(4:Int))+4)+i64.wrap ((4:Int)*i64.wrap (Int.tmod (gt ((Sh.int u8).pair ((Sh.int u8).pair ((Sh.int u8).pair Sh.bool))) l i.toNat).2.1 (8:Int))))),.bool (gt ((Sh.int u8).pair ((Sh.int u8).pair ((Sh.int u8).pair Sh.bool))) l i.toNat).2.2.2]),(10,.row 9 Sh.str nm),(11,.row 59 (Sh.str.pair ((Sh.int i64).pair ((Sh.int i64).pair Sh.bool))) o)]) ((0:Nat)+1<=((List.replicate (1:Nat) (Sh.str.pair ((Sh.int i64).pair ((Sh.int i64).pair Sh.bool))).dflt).set (0:Nat) (gt Sh.str nm ((0:Nat)+i.toNat),i64.wrap (i64.wrap ((i64.wrap (i64.wrap (at_+i64.wrap (Int.tmod (gt ((Sh.int u8).pair ((Sh.int u8).pair ((Sh.int u8).pair Sh.bool))) l i.toNat).1 (8:Int)))+3)).tdiv (4:Int))*(4:Int)),i64.wrap (i64.wrap (i64.wrap (i64.wrap ((i64.wrap (i64.wrap (at_+i64.wrap (Int.tmod (gt ((Sh.int u8).pair ((Sh.int u8).pair ((Sh.int u8).pair Sh.bool))) l i.toNat).1 (8:Int)))+3)).tdiv (4:Int))*(4:Int))+4)+i64.wrap ((4:Int)*i64.wrap (Int.tmod (gt ((Sh.int u8).pair ((Sh.int u8).pair ((Sh.int u8).pair Sh.bool))) l i.toNat).2.1 (8:Int)))),(gt ((Sh.int u8).pair ((Sh.int u8).pair ((Sh.int u8).pair Sh.bool))) l i.toNat).2.2.2)).length/\o.length=o.length/\(0:Nat)=(0:Nat)/\o.length+(winL seS 0 1 ((List.replicate (1:Nat) (Sh.str.pair ((Sh.int i64).pair ((Sh.int i64).pair Sh.bool))).dflt).set (0:Nat) (gt Sh.str nm ((0:Nat)+i.toNat),i64.wrap (i64.wrap ((i64.wrap (i64.wrap (at_+i64.wrap (Int.tmod (gt ((Sh.int u8).pair ((Sh.int u8).pair ((Sh.int u8).pair Sh.bool))) l i.toNat).1 (8:Int)))+3)).tdiv (4:Int))*(4:Int)),i64.wrap (i64.wrap (i64.wrap (i64.wrap ((i64.wrap (i64.wrap (at_+i64.wrap (Int.tmod (gt ((Sh.int u8).pair ((Sh.int u8).pair ((Sh.int u8).pair Sh.bool))) l i.toNat).1 (8:Int)))+3)).tdiv (4:Int))*(4:Int))+4)+i64.wrap ((4:Int)*i64.wrap (Int.tmod (gt ((Sh.int u8).pair ((Sh.int u8).pair ((Sh.int u8).pair Sh.bool))) l i.toNat).2.1 (8:Int)))),(gt ((Sh.int u8).pair ((Sh.int u8).pair ((Sh.int u8).pair Sh.bool))) l i.toNat).2.2.2))).length<2 ^ 30/\(40:Nat)<=2 ^ 10/\R (hd Tryd.f8 0) { env:=[(0,.sl ((Sh.int u8).pair ((Sh.int u8).pair ((Sh.int u8).pair Sh.bool))) l),(1,.i n),(5,.win true Sh.str (10:Nat) (0:Nat) nm.length),(6,.win true (Sh.str.pair ((Sh.int i64).pair ((Sh.int i64).pair Sh.bool))) (90:Nat) (0:Nat) (o.length+(winL seS 0 1 ((List.replicate (1:Nat) (Sh.str.pair ((Sh.int i64).pair ((Sh.int i64).pair Sh.bool))).dflt).set (0:Nat) (gt Sh.str nm ((0:Nat)+i.toNat),i64.wrap (i64.wrap ((i64.wrap (i64.wrap (at_+i64.wrap (Int.tmod (gt ((Sh.int u8).pair ((Sh.int u8).pair ((Sh.int u8).pair Sh.bool))) l i.toNat).1 (8:Int)))+3)).tdiv (4:Int))*(4:Int)),i64.wrap (i64.wrap (i64.wrap (i64.wrap ((i64.wrap (i64.wrap (at_+i64.wrap (Int.tmod (gt ((Sh.int u8).pair ((Sh.int u8).pair ((Sh.int u8).pair Sh.bool))) l i.toNat).1 (8:Int)))+3)).tdiv (4:Int))*(4:Int))+4)+i64.wrap ((4:Int)*i64.wrap (Int.tmod (gt ((Sh.int u8).pair ((Sh.int u8).pair ((Sh.int u8).pair Sh.bool))) l i.toNat).2.1 (8:Int)))),(gt ((Sh.int u8).pair ((Sh.int u8).pair ((Sh.int u8).pair Sh.bool))) l i.toNat).2.2.2))).length)),(7,.i (i64.wrap (i64.wrap (i64.wrap (i64.wrap ((i64.wrap (i64.wrap (at_+i64.wrap (Int.tmod (gt ((Sh.int u8).pair ((Sh.int u8).pair ((Sh.int u8).pair Sh.bool))) l i.toNat).1 (8:Int)))+3)).tdiv (4:Int))*(4:Int))+4)+i64.wrap ((4:Int)*i64.wrap (Int.tmod (gt ((Sh.int u8).pair ((Sh.int u8).pair ((Sh.int u8).pair Sh.bool))) l i.toNat).2.1 (8:Int)))))),(8,.i (i64.wrap (i+1)))],blk:=[(10,.row 9 Sh.str nm),(90,.row 59 (Sh.str.pair ((Sh.int i64).pair ((Sh.int i64).pair Sh.bool))) (o++winL (Sh.str.pair ((Sh.int i64).pair ((Sh.int i64).pair Sh.bool))) (0:Nat) (1:Nat) ((List.replicate (1:Nat) (Sh.str.pair ((Sh.int i64).pair ((Sh.int i64).pair Sh.bool))).dflt).set (0:Nat) (gt Sh.str nm ((0:Nat)+i.toNat),i64.wrap (i64.wrap ((i64.wrap (i64.wrap (at_+i64.wrap (Int.tmod (gt ((Sh.int u8).pair ((Sh.int u8).pair ((Sh.int u8).pair Sh.bool))) l i.toNat).1 (8:Int)))+3)).tdiv (4:Int))*(4:Int)),i64.wrap (i64.wrap (i64.wrap (i64.wrap ((i64.wrap (i64.wrap (at_+i64.wrap (Int.tmod (gt ((Sh.int u8).pair ((Sh.int u8).pair ((Sh.int u8).pair Sh.bool))) l i.toNat).1 (8:Int)))+3)).tdiv (4:Int))*(4:Int))+4)+i64.wrap ((4:Int)*i64.wrap (Int.tmod (gt ((Sh.int u8).pair ((Sh.int u8).pair ((Sh.int u8).pair Sh.bool))) l i.toNat).2.1 (8:Int)))),(gt ((Sh.int u8).pair ((Sh.int u8).pair ((Sh.int u8).pair Sh.bool))) l i.toNat).2.2.2))))] })) ((0:Int)<=i/\i<(l.length:Int)/\(8:Int)≠0/\(0:Int)<=i/\i<(l.length:Int)/\(4:Int)≠0/\bc (decide (n<i64.wrap (i64.wrap (i64.wrap (i64.wrap (at_+i64.wrap (Int.tmod (gt ((Sh.int u8).pair ((Sh.int u8).pair ((Sh.int u8).pair Sh.bool))) l i.toNat).1 (8:Int)))+1)+i64.wrap ((4:Int)*i64.wrap (Int.tmod (gt ((Sh.int u8).pair ((Sh.int u8).pair ((Sh.int u8).pair Sh.bool))) l i.toNat).2.1 (8:Int))))+i64.wrap (Int.tmod (gt ((Sh.int u8).pair ((Sh.int u8).pair ((Sh.int u8).pair Sh.bool))) l i.toNat).2.2.1 (4:Int))))) (Q [.win true (Sh.str.pair ((Sh.int i64).pair ((Sh.int i64).pair Sh.bool))) (11:Nat) (0:Nat) o.length] [(9,.var [.str (gt Sh.str nm ((0:Nat)+i.toNat)),.i (i64.wrap (at_+i64.wrap (Int.tmod (gt ((Sh.int u8).pair ((Sh.int u8).pair ((Sh.int u8).pair Sh.bool))) l i.toNat).1 (8:Int)))),.i (i64.wrap (i64.wrap (i64.wrap (i64.wrap (at_+i64.wrap (Int.tmod (gt ((Sh.int u8).pair ((Sh.int u8).pair ((Sh.int u8).pair Sh.bool))) l i.toNat).1 (8:Int)))+1)+i64.wrap ((4:Int)*i64.wrap (Int.tmod (gt ((Sh.int u8).pair ((Sh.int u8).pair ((Sh.int u8).pair Sh.bool))) l i.toNat).2.1 (8:Int))))+i64.wrap (Int.tmod (gt ((Sh.int u8).pair ((Sh.int u8).pair ((Sh.int u8).pair Sh.bool))) l i.toNat).2.2.1 (4:Int)))),.bool (gt ((Sh.int u8).pair ((Sh.int u8).pair ((Sh.int u8).pair Sh.bool))) l i.toNat).2.2.2]),(10,.row 9 Sh.str nm),(11,.row 59 (Sh.str.pair ((Sh.int i64).pair ((Sh.int i64).pair Sh.bool))) o)]) ((0:Nat)+1<=((List.replicate (1:Nat) (Sh.str.pair ((Sh.int i64).pair ((Sh.int i64).pair Sh.bool))).dflt).set (0:Nat) (gt Sh.str nm ((0:Nat)+i.toNat),i64.wrap (at_+i64.wrap (Int.tmod (gt ((Sh.int u8).pair ((Sh.int u8).pair ((Sh.int u8).pair Sh.bool))) l i.toNat).1 (8:Int))),i64.wrap (i64.wrap (i64.wrap (i64.wrap (at_+i64.wrap (Int.tmod (gt ((Sh.int u8).pair ((Sh.int u8).pair ((Sh.int u8).pair Sh.bool))) l i.toNat).1 (8:Int)))+1)+i64.wrap ((4:Int)*i64.wrap (Int.tmod (gt ((Sh.int u8).pair ((Sh.int u8).pair ((Sh.int u8).pair Sh.bool))) l i.toNat).2.1 (8:Int))))+i64.wrap (Int.tmod (gt ((Sh.int u8).pair ((Sh.int u8).pair ((Sh.int u8).pair Sh.bool))) l i.toNat).2.2.1 (4:Int))),(gt ((Sh.int u8).pair ((Sh.int u8).pair ((Sh.int u8).pair Sh.bool))) l i.toNat).2.2.2)).length/\o.length=o.length/\(0:Nat)=(0:Nat)/\o.length+(winL seS 0 1 ((List.replicate (1:Nat) (Sh.str.pair ((Sh.int i64).pair ((Sh.int i64).pair Sh.bool))).dflt).set (0:Nat) (gt Sh.str nm ((0:Nat)+i.toNat),i64.wrap (at_+i64.wrap (Int.tmod (gt ((Sh.int u8).pair ((Sh.int u8).pair ((Sh.int u8).pair Sh.bool))) l i.toNat).1 (8:Int))),i64.wrap (i64.wrap (i64.wrap (i64.wrap (at_+i64.wrap (Int.tmod (gt ((Sh.int u8).pair ((Sh.int u8).pair ((Sh.int u8).pair Sh.bool))) l i.toNat).1 (8:Int)))+1)+i64.wrap ((4:Int)*i64.wrap (Int.tmod (gt ((Sh.int u8).pair ((Sh.int u8).pair ((Sh.int u8).pair Sh.bool))) l i.toNat).2.1 (8:Int))))+i64.wrap (Int.tmod (gt ((Sh.int u8).pair ((Sh.int u8).pair ((Sh.int u8).pair Sh.bool))) l i.toNat).2.2.1 (4:Int))),(gt ((Sh.int u8).pair ((Sh.int u8).pair ((Sh.int u8).pair Sh.bool))) l i.toNat).2.2.2))).length<2 ^ 30/\(40:Nat)<=2 ^ 10/\R (hd Tryd.f8 0) { env:=[(0,.sl ((Sh.int u8).pair ((Sh.int u8).pair ((Sh.int u8).pair Sh.bool))) l),(1,.i n),(5,.win true Sh.str (10:Nat) (0:Nat) nm.length),(6,.win true (Sh.str.pair ((Sh.int i64).pair ((Sh.int i64).pair Sh.bool))) (90:Nat) (0:Nat) (o.length+(winL seS 0 1 ((List.replicate (1:Nat) (Sh.str.pair ((Sh.int i64).pair ((Sh.int i64).pair Sh.bool))).dflt).set (0:Nat) (gt Sh.str nm ((0:Nat)+i.toNat),i64.wrap (at_+i64.wrap (Int.tmod (gt ((Sh.int u8).pair ((Sh.int u8).pair ((Sh.int u8).pair Sh.bool))) l i.toNat).1 (8:Int))),i64.wrap (i64.wrap (i64.wrap (i64.wrap (at_+i64.wrap (Int.tmod (gt ((Sh.int u8).pair ((Sh.int u8).pair ((Sh.int u8).pair Sh.bool))) l i.toNat).1 (8:Int)))+1)+i64.wrap ((4:Int)*i64.wrap (Int.tmod (gt ((Sh.int u8).pair ((Sh.int u8).pair ((Sh.int u8).pair Sh.bool))) l i.toNat).2.1 (8:Int))))+i64.wrap (Int.tmod (gt ((Sh.int u8).pair ((Sh.int u8).pair ((Sh.int u8).pair Sh.bool))) l i.toNat).2.2.1 (4:Int))),(gt ((Sh.int u8).pair ((Sh.int u8).pair ((Sh.int u8).pair Sh.bool))) l i.toNat).2.2.2))).length)),(7,.i (i64.wrap (i64.wrap (i64.wrap (i64.wrap (at_+i64.wrap (Int.tmod (gt ((Sh.int u8).pair ((Sh.int u8).pair ((Sh.int u8).pair Sh.bool))) l i.toNat).1 (8:Int)))+1)+i64.wrap ((4:Int)*i64.wrap (Int.tmod (gt ((Sh.int u8).pair ((Sh.int u8).pair ((Sh.int u8).pair Sh.bool))) l i.toNat).2.1 (8:Int))))+i64.wrap (Int.tmod (gt ((Sh.int u8).pair ((Sh.int u8).pair ((Sh.int u8).pair Sh.bool))) l i.toNat).2.2.1 (4:Int))))),(8,.i (i64.wrap (i+1)))],blk:=[(10,.row 9 Sh.str nm),(90,.row 59 (Sh.str.pair ((Sh.int i64).pair ((Sh.int i64).pair Sh.bool))) (o++winL (Sh.str.pair ((Sh.int i64).pair ((Sh.int i64).pair Sh.bool))) (0:Nat) (1:Nat) ((List.replicate (1:Nat) (Sh.str.pair ((Sh.int i64).pair ((Sh.int i64).pair Sh.bool))).dflt).set (0:Nat) (gt Sh.str nm ((0:Nat)+i.toNat),i64.wrap (at_+i64.wrap (Int.tmod (gt ((Sh.int u8).pair ((Sh.int u8).pair ((Sh.int u8).pair Sh.bool))) l i.toNat).1 (8:Int))),i64.wrap (i64.wrap (i64.wrap (i64.wrap (at_+i64.wrap (Int.tmod (gt ((Sh.int u8).pair ((Sh.int u8).pair ((Sh.int u8).pair Sh.bool))) l i.toNat).1 (8:Int)))+1)+i64.wrap ((4:Int)*i64.wrap (Int.tmod (gt ((Sh.int u8).pair ((Sh.int u8).pair ((Sh.int u8).pair Sh.bool))) l i.toNat).2.1 (8:Int))))+i64.wrap (Int.tmod (gt ((Sh.int u8).pair ((Sh.int u8).pair ((Sh.int u8).pair Sh.bool))) l i.toNat).2.2.1 (4:Int))),(gt ((Sh.int u8).pair ((Sh.int u8).pair ((Sh.int u8).pair Sh.bool))) l i.toNat).2.2.2))))] }))) (Q [.win true (Sh.str.pair ((Sh.int i64).pair ((Sh.int i64).pair Sh.bool))) (11:Nat) (0:Nat) o.length] [(10,.row 9 Sh.str nm),(11,.row 59 (Sh.str.pair ((Sh.int i64).pair ((Sh.int i64).pair Sh.bool))) o)])) (false=false/\Q [.win true (Sh.str.pair ((Sh.int i64).pair ((Sh.int i64).pair Sh.bool))) (11:Nat) (0:Nat) o.length] [(10,.row 9 Sh.str nm),(11,.row 59 (Sh.str.pair ((Sh.int i64).pair ((Sh.int i64).pair Sh.bool))) o)])):=by kernel_rfl
attribute [local irreducible] Go.Px.sy Go.Px.syE
abbrev Sec:Type:=List UInt8 × Int × Int × Bool
abbrev Raw:Type:=Int × Int × Int × Bool
def rawOK (r:Raw):Prop:=(0<=r.1/\r.1<256)/\(0<=r.2.1/\r.2.1<256)/\(0<=r.2.2.1/\r.2.2.1<256)
def qtx (nm:List UInt8) (at_:Int) (r:Raw):Sec:=match r.2.2.2 with
 | true=>(nm,(at_+r.1 % 8+3) / 4*4,(at_+r.1 % 8+3) / 4*4+4+4*(r.2.1 % 8),true)
 | false=>(nm,at_+r.1 % 8,at_+r.1 % 8+1+4*(r.2.1 % 8)+r.2.2.1 % 4,false)
def mkF (n:Int):List (List UInt8)->Int->List Raw->List Sec
 | nm::nms,at_,r::rs=>if n<(qtx nm at_ r).2.2.1 then [] else qtx nm at_ r::mkF n nms (qtx nm at_ r).2.2.1 rs
 | _,_,_=>[]
def nmL:List (List UInt8):=[[98,111,111,116],[97,112,112],[68,97,116,97],[120,49],[116,97,105,108],[99,102,103],[65],[116,119,101,108,118,101,108,101,116,116,101,114]]
def preMk (l:List Raw) (n:Int):Prop:=(∀ r∈l,rawOK r)/\0<=n/\n<100000
def mk (l:List Raw) (n:Int):List Sec:=mkF n nmL 0 l
def ctMk:Ctr:=⟨[.sl rwS,iI],λ x=>preMk x.1 x.2.1,λ x=>[.win true seS 0 0 (List.length (mk x.1 x.2.1))],λ x=>[.row 59 seS (mk x.1 x.2.1)]⟩
theorem qqm {l:List Raw} {n:Int} (hp:preMk l n) {nm:List (List UInt8)} (hnm:nm.length=8) {x:List Sec} (hx:x=mk l n):∀ (k i:Nat) (at_:Int) (o:List Sec),8-i<=k->i<=8->0<=at_->at_<=n->o.length=i->o++mkF n (nm.drop i) at_ (l.drop i)=x ->
  GD 8 Tryd.f8 (QC ctMk (l,n,())) (hd Tryd.f8 0) ⟨[(0,.sl rwS l),(1,.i n),(5,.win true .str 10 0 nm.length),(6,.win true seS 11 0 o.length),(7,.i at_),(8,.i (i:Nat))],[(10,.row 9 .str nm),(11,.row 59 seS o)]⟩:=by
 obtain ⟨hr,hn1,hn2⟩:=hp;have fin:∀ (o:List Sec) (blk:List (Nat × LB)),o=x->lk blk 11=some (.row 59 seS o)->QC ctMk (l,n,()) [.win true seS 11 0 o.length] blk:=by
  intro o blk ho hb;rw[hx] at ho;subst ho;exact qsa rfl rfl rfl rfl hb
 intro k
 induction k with
 | zero=>
  intro i at_ o hk hi h1 h2 ho hx;refine qah cx0 (qrl l n at_ i nm o _ _) ?_;have hf:∀ h:i<l.length,False->False:=λ _ h=>h
  rw[List.drop_eq_nil_of_le (show nm.length<=i by omega)] at hx;simp only[mkF,List.append_nil] at hx;refine qaf (λ h=>?_) (λ h=>⟨rfl,fin o _ hx rfl⟩);rw[decide_eq_false (show ¬ ((i:Int)<8) by omega),cond_true,bc_f];exact fin o _ hx rfl
 | succ k ih=>
  intro i at_ o hk hi h1 h2 ho hx;by_cases h8:i<8
  ·refine qah cx0 (qrl l n at_ i nm o _ _) ?_;by_cases hl:i<l.length
   ·have e1:gt rwS l (i:Int).toNat=l[i]:=gtE hl;have e2:gt .str nm (0+(i:Int).toNat)=nm[i]:=by rw[Nat.zero_add];exact gtE (by omega)
    have hro:=hr l[i] (List.getElem_mem hl);have k2:=λ a o=>ih (i+1) a o (by omega) (by omega)
    rw[qlf (show i<nm.length by omega),qlf hl] at hx;rw[decide_eq_true (show (i:Int)<(l.length:Int) by omega),bc_t,decide_eq_true (show (i:Int)<8 by omega),cond_true,bc_t,e1,e2];generalize l[i]=r at hx hro;generalize nm[i]=nmi at hx;obtain ⟨g,w,od,c⟩:=r;obtain ⟨⟨g1,g2⟩,⟨w1,w2⟩,⟨d1,d2⟩⟩:=hro;have g1:0<=g:=g1;have g2:g<256:=g2;have w1:0<=w:=w1;have w2:w<256:=w2;have d1:0<=od:=d1;have d2:od<256:=d2;have tg:g.tmod 8=g % 8:=Int.tmod_eq_emod_of_nonneg g1;have tw:w.tmod 8=w % 8:=Int.tmod_eq_emod_of_nonneg w1;have td:od.tmod 4=od % 4:=Int.tmod_eq_emod_of_nonneg d1;have q1:i64.wrap (g % 8)=g % 8:=IntWalk.i64_in _ (by omega);have q2:i64.wrap (at_+g % 8)=at_+g % 8:=IntWalk.i64_in _ (by omega);have q3:i64.wrap (w % 8)=w % 8:=IntWalk.i64_in _ (by omega);have q4:i64.wrap (4*(w % 8))=4*(w % 8):=IntWalk.i64_in _ (by omega);have q5:i64.wrap (od % 4)=od % 4:=IntWalk.i64_in _ (by omega);have q0:i64.wrap ((i:Int)+1)=((i+1:Nat):Int):=by rw[IntWalk.i64_in _ (by omega)];rfl
    cases c with
    | true=>
     have q6:i64.wrap (at_+g % 8+3)=at_+g % 8+3:=IntWalk.i64_in _ (by omega);have q7:(at_+g % 8+3).tdiv 4=(at_+g % 8+3) / 4:=Int.tdiv_eq_ediv_of_nonneg (by omega);have q7b:i64.wrap ((at_+g % 8+3) / 4)=(at_+g % 8+3) / 4:=IntWalk.i64_in _ (by omega);have q8:i64.wrap ((at_+g % 8+3) / 4*4)=(at_+g % 8+3) / 4*4:=IntWalk.i64_in _ (by omega);have q9:i64.wrap ((at_+g % 8+3) / 4*4+4)=(at_+g % 8+3) / 4*4+4:=IntWalk.i64_in _ (by omega);have q10:i64.wrap ((at_+g % 8+3) / 4*4+4+4*(w % 8))=(at_+g % 8+3) / 4*4+4+4*(w % 8):=IntWalk.i64_in _ (by omega);have hsec:qtx nmi at_ (g,w,od,true)=(nmi,(at_+g % 8+3) / 4*4,(at_+g % 8+3) / 4*4+4+4*(w % 8),true):=rfl;simp only[tg,tw,td,q1,q2,q3,q4,q5,q6,q7,q7b,q8,q9,q10,q0,bc_t];rw[mkF,hsec] at hx;simp only at hx;refine ⟨by omega,by omega,by omega,by omega,by omega,by decide,by omega,by omega,by decide,by omega,by omega,by decide,qaf (λ h=>?_) (λ h=>?_)⟩
     ·have h:=of_decide_eq_true h;rw[if_pos h,List.append_nil] at hx;exact fin o _ hx rfl
     ·have h:=of_decide_eq_false h;rw[if_neg h] at hx;refine ⟨by simp,trivial,trivial,?_,by decide,?_⟩
      ·show o.length+1<2 ^ 30
       omega
      ·refine Good.onlyR (k2 _ (o++[(nmi,(at_+g % 8+3) / 4*4,(at_+g % 8+3) / 4*4+4+4*(w % 8),true)]) (by omega) (by omega) (by simp[ho]) (by rw[List.append_assoc];exact hx)) [(11,90)] rfl ⟨rfl,rfl,rfl,?_,rfl,rfl,trivial⟩ ⟨rfl,rfl,trivial⟩
       show some (SV.win true seS 90 0 (o.length+1))=some (SV.win true seS 90 0 (o++[_]).length)
       rw[List.length_append,List.length_singleton]
    | false=>
     have q6:i64.wrap (at_+g % 8+1)=at_+g % 8+1:=IntWalk.i64_in _ (by omega);have q7:i64.wrap (at_+g % 8+1+4*(w % 8))=at_+g % 8+1+4*(w % 8):=IntWalk.i64_in _ (by omega);have q8:i64.wrap (at_+g % 8+1+4*(w % 8)+od % 4)=at_+g % 8+1+4*(w % 8)+od % 4:=IntWalk.i64_in _ (by omega);have hsec:qtx nmi at_ (g,w,od,false)=(nmi,at_+g % 8,at_+g % 8+1+4*(w % 8)+od % 4,false):=rfl;simp only[tg,tw,td,q1,q2,q3,q4,q5,q6,q7,q8,q0,bc_f];rw[mkF,hsec] at hx;simp only at hx;refine ⟨by omega,by omega,by omega,by omega,by omega,by decide,by omega,by omega,by omega,by omega,by decide,by omega,by omega,by decide,qaf (λ h=>?_) (λ h=>?_)⟩
     ·have h:=of_decide_eq_true h;rw[if_pos h,List.append_nil] at hx;exact fin o _ hx rfl
     ·have h:=of_decide_eq_false h;rw[if_neg h] at hx;refine ⟨by simp,trivial,trivial,?_,by decide,?_⟩
      ·show o.length+1<2 ^ 30
       omega
      ·refine Good.onlyR (k2 _ (o++[(nmi,at_+g % 8,at_+g % 8+1+4*(w % 8)+od % 4,false)]) (by omega) (by omega) (by simp[ho]) (by rw[List.append_assoc];exact hx)) [(11,90)] rfl ⟨rfl,rfl,rfl,?_,rfl,rfl,trivial⟩ ⟨rfl,rfl,trivial⟩
       show some (SV.win true seS 90 0 (o.length+1))=some (SV.win true seS 90 0 (o++[_]).length)
       rw[List.length_append,List.length_singleton]
   ·have e0:mkF n (nm.drop i) at_ (l.drop i)=[]:=by
     rw[List.drop_eq_nil_of_le (show l.length<=i by omega)]
     cases nm.drop i <;> rfl
    rw[e0,List.append_nil] at hx;rw[decide_eq_false (by omega),bc_f];exact ⟨rfl,fin o _ hx rfl⟩
  ·exact ih i at_ o (by omega) hi h1 h2 ho hx
theorem qxz (l:List Raw) (n:Int) (hp:preMk l n):sA [] Tryd.f8 (QC ctMk (l,n,())) (Px.Good Tryd.prog tt G0 8 Tryd.f8.ntmps Tryd.f8.results.toList (QC ctMk (l,n,()))) [.code (qad Tryd.f8)] (entry [.sl rwS,iI] (l,n,())):=by
 rw[q5m];exact (qqm hp (nm:=nmL) rfl rfl _ 0 0 [] (Nat.le_refl _) (Nat.zero_le _) (by omega) hp.2.1 rfl rfl).only ⟨rfl,rfl,rfl,rfl,rfl,rfl,trivial⟩ ⟨rfl,rfl,trivial⟩
theorem mk_held:Held Tryd.prog G0 8 ctMk:=Held.run cx0 (fn:=Tryd.f8) rfl rfl ⟨by decide,by decide⟩ λ x hp=>qxz x.1 x.2.1 hp
abbrev D1:CV:=[(8,.inl ctMk)]
theorem dx1:CxOK Tryd.prog tt G0 D1:=cx0.k mk_held (fn:=Tryd.f8)
set_option maxRecDepth 100000
theorem zaj (c:Int) (Q:QT) (R:RT):sA D1 Tryd.f56 Q R [.code (qad Tryd.f56)] (entry [.int .i32] (c,())) =
  (bc (decide ((97:Int)<=c)) (bc (bif true then decide (c<=122) else false) (true=true/\Q [.bool true] []) (bc (decide ((65:Int)<=c)) (Q [.bool (bif false then true else bif true then decide (c<=90) else false)] []) (false=false/\Q [.bool (bif false then true else false)] []))) (false=false/\bc (decide ((65:Int)<=c)) (Q [.bool (bif false then true else bif true then decide (c<=90) else false)] []) (false=false/\Q [.bool (bif false then true else false)] []))):=by kernel_rfl
theorem zar (c:Int) (Q:QT) (R:RT):sA D1 Tryd.f57 Q R [.code (qad Tryd.f57)] (entry [.int .i32] (c,())) =
  (bc (decide ((48:Int)<=c)) (Q [.bool (bif true then decide (c<=57) else false)] []) (false=false/\Q [.bool false] [])):=by kernel_rfl
theorem zap (l:List Sec) (s:List UInt8) (Q:QT) (R:RT):sA D1 Tryd.f39 Q R [.code (qad Tryd.f39)] (entry [.sl seS,.str] (l,s,())) =
  (R (hd Tryd.f39 0) { env:=[(0,.sl (Sh.str.pair ((Sh.int i64).pair ((Sh.int i64).pair Sh.bool))) l),(1,.str s),(4,.bool false),(7,.sl (Sh.str.pair ((Sh.int i64).pair ((Sh.int i64).pair Sh.bool))) l),(8,.i (l.length:Int)),(9,.i 0)],blk:=[] }):=by kernel_rfl
theorem qvq (l:List Sec) (s:List UInt8) (i:Int) (Q:QT) (R:RT):sA D1 Tryd.f39 Q (λ it S=>R it (qaj [1,7,8,9] [] S)) (hd Tryd.f39 0) ⟨[(1,.str s),(7,.sl seS l),(8,.i l.length),(9,.i i)],[]⟩ =
  (bc (decide (i<(l.length:Int))) ((0:Int)<=i/\i<(l.length:Int)/\bc (decide ((gt (Sh.str.pair ((Sh.int i64).pair ((Sh.int i64).pair Sh.bool))) l i.toNat).1=s)) (Q [.bool true] [(6,.var [.str (gt (Sh.str.pair ((Sh.int i64).pair ((Sh.int i64).pair Sh.bool))) l i.toNat).1,.i (gt (Sh.str.pair ((Sh.int i64).pair ((Sh.int i64).pair Sh.bool))) l i.toNat).2.1,.i (gt (Sh.str.pair ((Sh.int i64).pair ((Sh.int i64).pair Sh.bool))) l i.toNat).2.2.1,.bool (gt (Sh.str.pair ((Sh.int i64).pair ((Sh.int i64).pair Sh.bool))) l i.toNat).2.2.2])]) (R (hd Tryd.f39 0) { env:=[(1,.str s),(7,.sl (Sh.str.pair ((Sh.int i64).pair ((Sh.int i64).pair Sh.bool))) l),(8,.i (l.length:Int)),(9,.i (i64.wrap (i+1)))],blk:=[] })) (Q [.bool false] [])):=by kernel_rfl
theorem q9w (x:Sec) (e n:Int) (Q:QT) (R:RT):sA D1 Tryd.f40 Q R [.code (qad Tryd.f40)] (entry [seS,iI,iI] (x,e,n,())) =
  (bc (decide (x.2.1<e)) (true=true/\true=true/\Q [.bool false] [(3,.var [.str x.1,.i x.2.1,.i x.2.2.1,.bool x.2.2.2])]) (bc (bif false then true else decide (x.2.2.1<=x.2.1)) (true=true/\Q [.bool false] [(3,.var [.str x.1,.i x.2.1,.i x.2.2.1,.bool x.2.2.2])]) (bc (bif false then true else decide (n<x.2.2.1)) (Q [.bool false] [(3,.var [.str x.1,.i x.2.1,.i x.2.2.1,.bool x.2.2.2])]) (bc (!x.2.2.2) (true=true/\Q [.bool true] [(3,.var [.str x.1,.i x.2.1,.i x.2.2.1,.bool x.2.2.2])]) ((4:Int)≠0/\bc (decide (Int.tmod x.2.1 (4:Int)=(0:Int))) ((4:Int)≠0/\Q [.bool (bif false then true else bif true then decide (Int.tmod x.2.2.1 (4:Int)=(0:Int)) else false)] [(3,.var [.str x.1,.i x.2.1,.i x.2.2.1,.bool x.2.2.2])]) (false=false/\Q [.bool (bif false then true else false)] [(3,.var [.str x.1,.i x.2.1,.i x.2.2.1,.bool x.2.2.2])])))))):=by kernel_rfl
def letB (c:Int):Bool:=decide (97<=c/\c<=122\/65<=c/\c<=90)
def digB (c:Int):Bool:=decide (48<=c/\c<=57)
def sgnB (c:Int):Bool:=letB c || digB c
theorem qgu {a b:Bool} (h:a=true↔b=true):[SV.bool a]=[SV.bool b]:=by
 cases a <;> cases b <;> simp at h |-
def ctLet:Ctr:=⟨[.int .i32],λ _=>True,λ x=>[.bool (letB x.1)],λ _=>[]⟩
def ctDig:Ctr:=⟨[.int .i32],λ _=>True,λ x=>[.bool (digB x.1)],λ _=>[]⟩
theorem q74 (c:Int) (R:List Item->PS->Prop):sA D1 Tryd.f56 (QC ctLet (c,())) R [.code (qad Tryd.f56)] (entry [.int .i32] (c,())):=by
 rw[zaj];simp only[qh9,cond_true,cond_false,decide_eq_true_eq,decide_eq_false_iff_not]
 repeat' first
  | exact trivial
  | exact rfl
  | (refine And.intro ?_ ?_)
  | (intro _)
  | (refine QC.flat (qgu ?_) rfl rfl;simp[letB];omega)
theorem q8r (c:Int) (R:List Item->PS->Prop):sA D1 Tryd.f57 (QC ctDig (c,())) R [.code (qad Tryd.f57)] (entry [.int .i32] (c,())):=by
 rw[zar];simp only[qh9,cond_true,cond_false,decide_eq_true_eq,decide_eq_false_iff_not]
 repeat' first
  | exact trivial
  | exact rfl
  | (refine And.intro ?_ ?_)
  | (intro _)
  | (refine QC.flat (qgu ?_) rfl rfl;simp[digB];omega)
theorem q1y:Held Tryd.prog G0 56 ctLet:=Held.run dx1 (fn:=Tryd.f56) rfl rfl ⟨by decide,by decide⟩ λ x _=>q74 x.1 _
theorem q2o:Held Tryd.prog G0 57 ctDig:=Held.run dx1 (fn:=Tryd.f57) rfl rfl ⟨by decide,by decide⟩ λ x _=>q8r x.1 _
def plcB (e n:Int) (s:Sec):Bool:=decide (e<=s.2.1/\s.2.1<s.2.2.1/\s.2.2.1<=n/\(s.2.2.2=true->s.2.1.tmod 4=0/\s.2.2.1.tmod 4=0))
def ctPlc:Ctr:=⟨[seS,iI,iI],λ _=>True,λ x=>[.bool (plcB x.2.1 x.2.2.1 x.1)],λ _=>[]⟩
theorem q69 (x:Sec) (e n:Int) (R:List Item->PS->Prop):sA D1 Tryd.f40 (QC ctPlc (x,e,n,())) R [.code (qad Tryd.f40)] (entry [seS,iI,iI] (x,e,n,())):=by
 rw[q9w];obtain ⟨nm,f,t,c⟩:=x;simp only[qh9,cond_true,cond_false,decide_eq_true_eq,decide_eq_false_iff_not]
 cases c <;>
 repeat' first
  | exact trivial
  | exact rfl
  | decide
  | (refine And.intro ?_ ?_)
  | (intro _)
  | (refine QC.flat (qgu ?_) rfl rfl;simp[plcB];omega)
  | (exfalso;simp at *;done)
theorem q07:Held Tryd.prog G0 40 ctPlc:=Held.run dx1 (fn:=Tryd.f40) rfl rfl ⟨by decide,by decide⟩ λ x _=>q69 x.1 x.2.1 x.2.2.1 _
def hasN (l:List Sec) (s:List UInt8):Bool:=l.any λ x=>decide (x.1=s)
def q05 (n:Nat):Prop:=n<2 ^ 62
def ctHas:Ctr:=⟨[.sl seS,.str],λ x=>q05 (List.length x.1),λ x=>[.bool (hasN x.1 x.2.1)],λ _=>[]⟩
theorem q2f {l:List Sec} {s:List UInt8} (hp:l.length<2 ^ 62):∀ (k i:Nat),l.length-i<=k->i<=l.length ->
  GD 39 Tryd.f39 (λ rs _=>rs=[.bool (hasN (l.drop i) s)]) (hd Tryd.f39 0) ⟨[(1,.str s),(7,.sl seS l),(8,.i l.length),(9,.i (i:Nat))],[]⟩:=by
 intro k
 induction k with
 | zero=>
  intro i h1 h2;refine qah dx1 (qvq l s i _ _) ?_;rw[decide_eq_false (by omega),bc_f,List.drop_eq_nil_of_le (by omega)];rfl
 | succ k ih=>
  intro i h1 h2;by_cases hi:i<l.length
  ·refine qah dx1 (qvq l s i _ _) ?_;have e1:gt seS l (i:Int).toNat=l[i]:=gtE hi;rw[decide_eq_true (show (i:Int)<(l.length:Int) by omega),bc_t,e1,IntWalk.i64_in ((i:Int)+1) (by omega),qlf hi];have k2:=ih (i+1) (by omega) (by omega);have hh:hasN (l[i]::l.drop (i+1)) s=(decide (l[i].1=s) || hasN (l.drop (i+1)) s):=rfl;rw[hh];refine ⟨by omega,by omega,qaf (λ ha=>?_) (λ ha=>?_)⟩
   ·have ha:decide (l[i].1=s)=true:=ha;rw[ha];rfl
   ·have ha:decide (l[i].1=s)=false:=ha;rw[ha,Bool.false_or];exact k2
  ·exact ih i (by omega) h2
theorem q8e (l:List Sec) (s:List UInt8) (hp:q05 l.length):sA D1 Tryd.f39 (QC ctHas (l,s,())) (Px.Good Tryd.prog tt G0 39 Tryd.f39.ntmps Tryd.f39.results.toList (QC ctHas (l,s,()))) [.code (qad Tryd.f39)] (entry [.sl seS,.str] (l,s,())):=by
 rw[zap];exact ((q2f hp _ 0 (Nat.le_refl _) (Nat.zero_le _)).post λ rs blk hq=>QC.flat (by rw[hq];rfl) rfl (by rw[hq];rfl)).only ⟨rfl,rfl,rfl,rfl,trivial⟩ trivial
theorem q2g:Held Tryd.prog G0 39 ctHas:=Held.run dx1 (fn:=Tryd.f39) rfl rfl ⟨by decide,by decide⟩ λ x hp=>q8e x.1 x.2.1 hp
abbrev D2:CV:=(39,.inl ctHas)::(40,.inl ctPlc)::(56,.inl ctLet)::(57,.inl ctDig)::D1
theorem dx2:CxOK Tryd.prog tt G0 D2:=((((dx1).k q2o (fn:=Tryd.f57)).k q1y (fn:=Tryd.f56)).k q07 (fn:=Tryd.f40)).k q2g (fn:=Tryd.f39)
theorem zag (s:List UInt8) (Q:QT) (R:RT):sA D2 Tryd.f38 Q R [.code (qad Tryd.f38)] (entry [.str] (s,())) =
  (bc (decide ((s.length:Int)<1)) (true=true/\Q [.bool false] []) (bc (bif false then true else decide ((12:Int)<(s.length:Int))) (Q [.bool false] []) (R (hd Tryd.f38 0) { env:=[(0,.str s),(2,.bool false),(5,.str s),(6,.i (s.length:Int)),(7,.bool (decide ((s.length:Int)<1))),(8,.bool false),(9,.str s),(10,.i (s.length:Int)),(11,.bool (decide ((12:Int)<(s.length:Int)))),(12,.bool (bif false then true else decide ((12:Int)<(s.length:Int)))),(13,.str s),(14,.ptr 14 0)],blk:=[(14,LB.iter s (0:Nat))] }))):=by kernel_rfl
theorem qvk (s:List UInt8) (p:Nat) (Q:QT) (R:RT):sA D2 Tryd.f38 Q (λ it S=>R it (qaj [14] [14] S)) (hd Tryd.f38 0) ⟨[(14,.ptr 14 0)],[(14,.iter s p)]⟩ =
  (bc (decide (p<s.length)) (ctLet.pre ((↑(qc7 s p).1:Int),())/\bc (!letB (↑(qc7 s p).1:Int)) (ctDig.pre ((↑(qc7 s p).1:Int),())/\bc (bif true then !digB (↑(qc7 s p).1:Int) else false) (Q [.bool false] [(14,LB.iter s (qks s p true))]) (R (hd Tryd.f38 0) { env:=[(14,.ptr 14 0)],blk:=[(14,LB.iter s (qks s p true))] })) (false=false/\R (hd Tryd.f38 0) { env:=[(14,.ptr 14 0)],blk:=[(14,LB.iter s (qks s p true))] })) (Q [.bool true] [(14,LB.iter s (qks s p false))])):=by kernel_rfl
def allS (s:List UInt8):Bool:=s.all λ c=>sgnB (c.toNat:Int)
def qgi (s:List UInt8):Bool:=decide (1<=s.length)&&decide (s.length<=12)&&allS s
theorem qpu {s:List UInt8} {i:Nat} (h:i<s.length):allS (s.drop i)=(sgnB (s[i].toNat:Int)&&allS (s.drop (i+1))):=by
 rw[qlf h];rfl
theorem q4b {c:Int} (h:128<=c):letB c=false/\digB c=false:=by
 constructor
 ·exact decide_eq_false (by omega)
 ·exact decide_eq_false (by omega)
theorem q1r (s:List UInt8):∀ (k i:Nat),s.length-i<=k ->
  GD 38 Tryd.f38 (λ rs _=>rs=[.bool (allS (s.drop i))]) (hd Tryd.f38 0) ⟨[(14,.ptr 14 0)],[(14,.iter s i)]⟩:=by
 have hend:∀ i:Nat,¬ i<s.length->GD 38 Tryd.f38 (λ rs _=>rs=[.bool (allS (s.drop i))]) (hd Tryd.f38 0) ⟨[(14,.ptr 14 0)],[(14,.iter s i)]⟩:=by
  intro i hi;refine qah dx2 (qvk s i _ _) ?_;rw[decide_eq_false hi,bc_f,List.drop_eq_nil_of_le (by omega)];rfl
 intro k
 induction k with
 | zero=>intro i h1;exact hend i (by omega)
 | succ k ih=>
  intro i h1;by_cases hi:i<s.length
  ·refine qah dx2 (qvk s i _ _) ?_;rw[decide_eq_true hi,bc_t,qpu hi,cond_true];by_cases hb:s[i].toNat<128
   ·have k2:=ih (i+1) (by omega);rw[qks,qwn hi hb,sgnB];refine ⟨trivial,qaf (λ h=>⟨trivial,qaf (λ h2=>?_) (λ h2=>?_)⟩) (λ h=>⟨rfl,?_⟩)⟩
    ·simp only[Bool.not_eq_true'] at h h2;simp only[h,h2,Bool.or_self,Bool.false_and]
    ·simp only[Bool.not_eq_false'] at h2;rw[h2,Bool.or_true,Bool.true_and];exact k2
    ·simp only[Bool.not_eq_false'] at h;rw[h,Bool.true_or,Bool.true_and];exact k2
   ·obtain ⟨r1,r2,_⟩:=qwo hi (by omega);obtain ⟨s1,s2⟩:=q4b (c:=((qc7 s i).1:Int)) (by omega);obtain ⟨s3,s4⟩:=q4b (c:=(s[i].toNat:Int)) (by omega);rw[s1,s2,sgnB,s3,s4];exact ⟨trivial,trivial,rfl⟩
  ·exact hend i hi
def ctNam:Ctr:=⟨[.str],λ _=>True,λ x=>[.bool (qgi x.1)],λ _=>[]⟩
theorem q7v (s:List UInt8):sA D2 Tryd.f38 (QC ctNam (s,())) (Px.Good Tryd.prog tt G0 38 Tryd.f38.ntmps Tryd.f38.results.toList (QC ctNam (s,()))) [.code (qad Tryd.f38)] (entry [.str] (s,())):=by
 rw[zag];refine qaf (λ h=>⟨rfl,?_⟩) (λ h=>?_)
 ·have h:=of_decide_eq_true h;refine QC.flat (qgu ?_) rfl rfl;simp[qgi];omega
 ·have h:=of_decide_eq_false h;rw[cond_false];refine qaf (λ h2=>?_) (λ h2=>?_)
  ·have h2:=of_decide_eq_true h2;refine QC.flat (qgu ?_) rfl rfl;simp[qgi];omega
  ·have h2:=of_decide_eq_false h2;have e:qgi s=allS (s.drop 0):=by
    unfold qgi;rw[decide_eq_true (by omega),decide_eq_true (by omega)];rfl
   refine ((q1r s _ 0 (Nat.le_refl _)).post λ rs blk hq=>QC.flat (by rw[hq,<- e];rfl) rfl (by rw[hq];rfl)).only ⟨rfl,trivial⟩ ⟨rfl,trivial⟩
theorem q1s:Held Tryd.prog G0 38 ctNam:=Held.run dx2 (fn:=Tryd.f38) rfl rfl ⟨by decide,by decide⟩ λ x _=>q7v x.1
abbrev D3:CV:=(38,.inl ctNam)::D2
theorem dx3:CxOK Tryd.prog tt G0 D3:=(dx2).k q1s (fn:=Tryd.f38)
theorem q9f (l:List Sec) (n:Int) (Q:QT) (R:RT):sA D3 Tryd.f22 Q R [.code (qad Tryd.f22)] (entry [.sl seS,iI] (l,n,())) =
  (bc (decide ((8:Int)<(l.length:Int))) (Q [.bool false] []) (R (hd Tryd.f22 0) { env:=[(0,.sl (Sh.str.pair ((Sh.int i64).pair ((Sh.int i64).pair Sh.bool))) l),(1,.i n),(4,.bool false),(5,.i 0),(8,.sl (Sh.str.pair ((Sh.int i64).pair ((Sh.int i64).pair Sh.bool))) l),(9,.i (l.length:Int)),(10,.bool (decide ((8:Int)<(l.length:Int)))),(11,.sl (Sh.str.pair ((Sh.int i64).pair ((Sh.int i64).pair Sh.bool))) l),(12,.i (l.length:Int)),(13,.i 0)],blk:=[] })):=by kernel_rfl
def qg1 (l:List Sec) (i:Int):List (Nat × LB):=[(7,.var [.str (gt (Sh.str.pair ((Sh.int i64).pair ((Sh.int i64).pair Sh.bool))) l i.toNat).1,.i (gt (Sh.str.pair ((Sh.int i64).pair ((Sh.int i64).pair Sh.bool))) l i.toNat).2.1,.i (gt (Sh.str.pair ((Sh.int i64).pair ((Sh.int i64).pair Sh.bool))) l i.toNat).2.2.1,.bool (gt (Sh.str.pair ((Sh.int i64).pair ((Sh.int i64).pair Sh.bool))) l i.toNat).2.2.2])]
theorem qu7 (l:List Sec) (n e i:Int) (Q:QT) (R:RT):sA D3 Tryd.f22 Q (λ it S=>R it (qaj [0,1,5,11,12,13] [] S)) (hd Tryd.f22 0) ⟨[(0,.sl seS l),(1,.i n),(5,.i e),(11,.sl seS l),(12,.i l.length),(13,.i i)],[]⟩ =
  (bc (decide (i<(l.length:Int))) ((0:Int)<=i/\i<(l.length:Int)/\ctNam.pre ((gt (Sh.str.pair ((Sh.int i64).pair ((Sh.int i64).pair Sh.bool))) l i.toNat).1,())/\bc (!qgi (gt (Sh.str.pair ((Sh.int i64).pair ((Sh.int i64).pair Sh.bool))) l i.toNat).1) (true=true/\true=true/\Q [.bool false] (qg1 l i)) ((0:Int)<=i/\i<=(l.length:Int)/\ctHas.pre (List.take i.toNat l,(gt (Sh.str.pair ((Sh.int i64).pair ((Sh.int i64).pair Sh.bool))) l i.toNat).1,())/\bc (bif false then true else hasN (List.take i.toNat l) (gt (Sh.str.pair ((Sh.int i64).pair ((Sh.int i64).pair Sh.bool))) l i.toNat).1) (true=true/\Q [.bool false] (qg1 l i)) (ctPlc.pre (((gt (Sh.str.pair ((Sh.int i64).pair ((Sh.int i64).pair Sh.bool))) l i.toNat).1,(gt (Sh.str.pair ((Sh.int i64).pair ((Sh.int i64).pair Sh.bool))) l i.toNat).2.1,(gt (Sh.str.pair ((Sh.int i64).pair ((Sh.int i64).pair Sh.bool))) l i.toNat).2.2.1,(gt (Sh.str.pair ((Sh.int i64).pair ((Sh.int i64).pair Sh.bool))) l i.toNat).2.2.2),e,n,())/\bc (bif false then true else !plcB e n ((gt (Sh.str.pair ((Sh.int i64).pair ((Sh.int i64).pair Sh.bool))) l i.toNat).1,(gt (Sh.str.pair ((Sh.int i64).pair ((Sh.int i64).pair Sh.bool))) l i.toNat).2.1,(gt (Sh.str.pair ((Sh.int i64).pair ((Sh.int i64).pair Sh.bool))) l i.toNat).2.2.1,(gt (Sh.str.pair ((Sh.int i64).pair ((Sh.int i64).pair Sh.bool))) l i.toNat).2.2.2)) (Q [.bool false] (qg1 l i)) (R (hd Tryd.f22 0) { env:=[(0,.sl (Sh.str.pair ((Sh.int i64).pair ((Sh.int i64).pair Sh.bool))) l),(1,.i n),(5,.i (gt (Sh.str.pair ((Sh.int i64).pair ((Sh.int i64).pair Sh.bool))) l i.toNat).2.2.1),(11,.sl (Sh.str.pair ((Sh.int i64).pair ((Sh.int i64).pair Sh.bool))) l),(12,.i (l.length:Int)),(13,.i (i64.wrap (i+1)))],blk:=[] })))) (Q [.bool true] [])):=by kernel_rfl
def valF (n:Int):List Sec->Int->List Sec->Bool
 | _,_,[]=>true
 | d,e,s::r=>qgi s.1 && !hasN d s.1&&plcB e n s&&valF n (d++[s]) s.2.2.1 r
def validB (l:List Sec) (n:Int):Bool:=decide (l.length<=8)&&valF n [] 0 l
theorem qof {n e:Int} {l:List Sec} {i:Nat} (h:i<l.length):valF n (l.take i) e (l.drop i)=(qgi l[i].1 && !hasN (l.take i) l[i].1&&plcB e n l[i]&&valF n (l.take (i+1)) l[i].2.2.1 (l.drop (i+1))):=by
 rw[qlf h,valF,List.take_succ_eq_append_getElem h]
def ctVal (p:Prop):Ctr:=⟨[.sl seS,iI],λ x=>p/\∀ s∈(x.1:List Sec),s.1.length<2 ^ 62,λ x=>[.bool (validB x.1 x.2.1)],λ _=>[]⟩
theorem qz3 {l:List Sec} {n:Int} (h8:l.length<=8):∀ (k i:Nat) (e:Int),l.length-i<=k->i<=l.length ->
  GD 22 Tryd.f22 (λ rs _=>rs=[.bool (valF n (l.take i) e (l.drop i))]) (hd Tryd.f22 0) ⟨[(0,.sl seS l),(1,.i n),(5,.i e),(11,.sl seS l),(12,.i l.length),(13,.i (i:Nat))],[]⟩:=by
 have hend:∀ (i:Nat) (e:Int),¬ i<l.length->GD 22 Tryd.f22 (λ rs _=>rs=[.bool (valF n (l.take i) e (l.drop i))]) (hd Tryd.f22 0) ⟨[(0,.sl seS l),(1,.i n),(5,.i e),(11,.sl seS l),(12,.i l.length),(13,.i (i:Nat))],[]⟩:=by
  intro i e hi;refine qah dx3 (qu7 l n e i _ _) ?_;rw[decide_eq_false (by omega),bc_f,List.drop_eq_nil_of_le (by omega)];rfl
 intro k
 induction k with
 | zero=>intro i e h1 _;exact hend i e (by omega)
 | succ k ih=>
  intro i e h1 h2;by_cases hi:i<l.length
  ·refine qah dx3 (qu7 l n e i _ _) ?_;have e1:gt seS l (i:Int).toNat=l[i]:=gtE hi;have k2:=ih (i+1) l[i].2.2.1 (by omega) (by omega);rw[decide_eq_true (show (i:Int)<(l.length:Int) by omega),bc_t,e1,qof hi,IntWalk.i64_in ((i:Int)+1) (by omega),Int.toNat_natCast];have hps:q05 (l.take i).length:=by unfold q05;rw[List.length_take];omega
   generalize l[i]=x at *;have ex:(x.1,x.2.1,x.2.2.1,x.2.2.2)=x:=rfl;rw[ex];refine ⟨by omega,by omega,trivial,qaf (λ h=>⟨rfl,rfl,?_⟩) (λ h=>⟨by omega,by omega,hps,?_⟩)⟩
   ·simp only[Bool.not_eq_true'] at h;rw[h];rfl
   ·simp only[Bool.not_eq_false'] at h;rw[h,cond_false];refine qaf (λ h3=>⟨rfl,?_⟩) (λ h3=>⟨trivial,?_⟩)
    ·rw[h3];rfl
    ·rw[h3,cond_false];refine qaf (λ h4=>?_) (λ h4=>?_)
     ·simp only[Bool.not_eq_true'] at h4;rw[h4];rfl
     ·simp only[Bool.not_eq_false'] at h4;rw[h4];exact k2
  ·exact hend i e hi
theorem q53 (l:List Sec) (n:Int):sA D3 Tryd.f22 (QC (ctVal True) (l,n,())) (Px.Good Tryd.prog tt G0 22 Tryd.f22.ntmps Tryd.f22.results.toList (QC (ctVal True) (l,n,()))) [.code (qad Tryd.f22)] (entry [.sl seS,iI] (l,n,())):=by
 rw[q9f];refine qaf (λ h=>?_) (λ h=>?_)
 ·have h:=of_decide_eq_true h;exact QC.flat (qgu (by simp[validB];omega)) rfl rfl
 ·have h:=of_decide_eq_false h;have e:validB l n=valF n (l.take 0) 0 (l.drop 0):=by
   unfold validB;rw[decide_eq_true (by omega)];rfl
  exact ((qz3 (by omega) _ 0 0 (Nat.le_refl _) (Nat.zero_le _)).post λ rs blk hq=>QC.flat (by rw[hq,<- e];rfl) rfl (by rw[hq];rfl)).only ⟨rfl,rfl,rfl,rfl,rfl,rfl,trivial⟩ trivial
theorem val_held:Held Tryd.prog G0 22 (ctVal True):=Held.run dx3 (fn:=Tryd.f22) rfl rfl ⟨by decide,by decide⟩ λ x _=>q53 x.1 x.2.1
def ctSgn:Ctr:=⟨[.int .u8],λ _=>True,λ x=>[.bool (sgnB x.1)],λ _=>[]⟩
def ctRnm:Ctr:=⟨[.str],λ x=>List.length x.1<2 ^ 62,λ x=>[.bool (qgi x.1)],λ _=>[]⟩
abbrev DN:CV:=[(60,.inl ctSgn)]
abbrev DV:CV:=[(44,.inl ctRnm)]
set_option maxRecDepth 100000
theorem q9m (c:Int) (Q:QT) (R:RT):sA [] Tryd.f60 Q R [.code (qad Tryd.f60)] (entry [.int .u8] (c,())) =
  (bc (decide ((97:Int)<=c)) (bc (bif true then decide (c<=122) else false) (true=true/\true=true/\Q [.bool true] []) (bc (decide ((65:Int)<=c)) (bc (bif false then true else bif true then decide (c<=90) else false) (true=true/\Q [.bool true] []) (bc (decide ((48:Int)<=c)) (Q [.bool (bif false then true else bif true then decide (c<=57) else false)] []) (false=false/\Q [.bool (bif false then true else false)] []))) (false=false/\bc (decide ((48:Int)<=c)) (Q [.bool (bif false then true else bif true then decide (c<=57) else false)] []) (false=false/\Q [.bool (bif false then true else false)] [])))) (false=false/\bc (decide ((65:Int)<=c)) (bc (bif false then true else bif true then decide (c<=90) else false) (true=true/\Q [.bool true] []) (bc (decide ((48:Int)<=c)) (Q [.bool (bif false then true else bif true then decide (c<=57) else false)] []) (false=false/\Q [.bool (bif false then true else false)] []))) (false=false/\bc (decide ((48:Int)<=c)) (Q [.bool (bif false then true else bif true then decide (c<=57) else false)] []) (false=false/\Q [.bool (bif false then true else false)] [])))):=by kernel_rfl
theorem q9p (s:List UInt8) (Q:QT) (R:RT):sA DN Tryd.f44 Q R [.code (qad Tryd.f44)] (entry [.str] (s,())) =
  (R (hd Tryd.f44 0) { env:=[(0,.str s),(2,.bool false),(3,.i 0)],blk:=[] }):=by kernel_rfl
theorem qve (s:List UInt8) (i:Nat) (Q:QT) (R:RT):sA DN Tryd.f44 Q R (hd Tryd.f44 0) ⟨[(0,.str s),(3,.i (i:Nat))],[]⟩ =
  (bc (decide ((i:Int)<(s.length:Int))) ((0:Int)<=(i:Int)/\(i:Int)<(s.length:Int)/\ctSgn.pre ((↑(s[(i:Int).toNat]?.getD (0:UInt8)).toNat:Int),())/\bc (!sgnB (↑(s[(i:Int).toNat]?.getD (0:UInt8)).toNat:Int)) (Q [.bool false] []) (R (hd Tryd.f44 0) { env:=[(0,.str s),(3,.i (i64.wrap ((i:Int)+1))),(4,.i (i:Int)),(5,.str s),(6,.i (s.length:Int)),(7,.bool (decide ((i:Int)<(s.length:Int)))),(8,.i (i:Int)),(9,.i (i64.wrap ((i:Int)+1))),(10,.str s),(11,.i (i:Int)),(12,.u (↑(s[(i:Int).toNat]?.getD (0:UInt8)).toNat:Int)),(13,.bool (sgnB (↑(s[(i:Int).toNat]?.getD (0:UInt8)).toNat:Int))),(14,.bool !sgnB (↑(s[(i:Int).toNat]?.getD (0:UInt8)).toNat:Int))],blk:=[] })) (bc (decide ((1:Int)<=(s.length:Int))) (Q [.bool (bif true then decide ((s.length:Int)<=12) else false)] []) (false=false/\Q [.bool false] []))):=by kernel_rfl
theorem q5c (l:List Sec) (n:Int) (Q:QT) (R:RT):sA DV Tryd.f27 Q R [.code (qad Tryd.f27)] (entry [.sl seS,iI] (l,n,())) =
  (bc (decide ((8:Int)<(l.length:Int))) (Q [.bool false] []) (R (hd Tryd.f27 0) { env:=[(0,.sl (Sh.str.pair ((Sh.int i64).pair ((Sh.int i64).pair Sh.bool))) l),(1,.i n),(4,.bool false),(5,.i 0),(6,.i 0),(9,.sl (Sh.str.pair ((Sh.int i64).pair ((Sh.int i64).pair Sh.bool))) l),(10,.i (l.length:Int)),(11,.bool (decide ((8:Int)<(l.length:Int))))],blk:=[] })):=by kernel_rfl
def qcd (l:List Sec) (i:Nat):List (Nat × LB):=[(7,.var [.str (gt (Sh.str.pair ((Sh.int i64).pair ((Sh.int i64).pair Sh.bool))) l (i:Int).toNat).1,.i (gt (Sh.str.pair ((Sh.int i64).pair ((Sh.int i64).pair Sh.bool))) l (i:Int).toNat).2.1,.i (gt (Sh.str.pair ((Sh.int i64).pair ((Sh.int i64).pair Sh.bool))) l (i:Int).toNat).2.2.1,.bool (gt (Sh.str.pair ((Sh.int i64).pair ((Sh.int i64).pair Sh.bool))) l (i:Int).toNat).2.2.2])]
theorem qrf (l:List Sec) (n e:Int) (i:Nat) (Q:QT) (R:RT):sA DV Tryd.f27 Q (λ it S=>R it (qaj [0,1,5,6,7,8] [7] S)) (hd Tryd.f27 0) ⟨[(0,.sl seS l),(1,.i n),(5,.i e),(6,.i (i:Nat))],[]⟩ =
  (bc (decide ((i:Int)<(l.length:Int))) ((0:Int)<=(i:Int)/\(i:Int)<(l.length:Int)/\ctRnm.pre ((gt (Sh.str.pair ((Sh.int i64).pair ((Sh.int i64).pair Sh.bool))) l (i:Int).toNat).1,())/\bc (!qgi (gt (Sh.str.pair ((Sh.int i64).pair ((Sh.int i64).pair Sh.bool))) l (i:Int).toNat).1) (true=true/\true=true/\true=true/\true=true/\Q [.bool false] (qcd l i)) (bc (bif false then true else decide ((gt (Sh.str.pair ((Sh.int i64).pair ((Sh.int i64).pair Sh.bool))) l (i:Int).toNat).2.1<e)) (true=true/\true=true/\true=true/\Q [.bool false] (qcd l i)) (bc (bif false then true else decide ((gt (Sh.str.pair ((Sh.int i64).pair ((Sh.int i64).pair Sh.bool))) l (i:Int).toNat).2.2.1<=(gt (Sh.str.pair ((Sh.int i64).pair ((Sh.int i64).pair Sh.bool))) l (i:Int).toNat).2.1)) (true=true/\true=true/\Q [.bool false] (qcd l i)) (bc (bif false then true else decide (n<(gt (Sh.str.pair ((Sh.int i64).pair ((Sh.int i64).pair Sh.bool))) l (i:Int).toNat).2.2.1)) (true=true/\Q [.bool false] (qcd l i)) (bc (gt (Sh.str.pair ((Sh.int i64).pair ((Sh.int i64).pair Sh.bool))) l (i:Int).toNat).2.2.2 ((4:Int)≠0/\bc (decide (Int.tmod (gt (Sh.str.pair ((Sh.int i64).pair ((Sh.int i64).pair Sh.bool))) l (i:Int).toNat).2.1 (4:Int)≠0)) (true=true/\Q [.bool false] (qcd l i)) ((4:Int)≠0/\bc (bif false then true else bif true then bif false then true else decide (Int.tmod (gt (Sh.str.pair ((Sh.int i64).pair ((Sh.int i64).pair Sh.bool))) l (i:Int).toNat).2.2.1 (4:Int)≠0) else false) (Q [.bool false] (qcd l i)) (R (hd Tryd.f27 1) { env:=[(0,.sl (Sh.str.pair ((Sh.int i64).pair ((Sh.int i64).pair Sh.bool))) l),(1,.i n),(5,.i e),(6,.i (i:Int)),(7,.ptr 7 0),(8,.i 0)],blk:=[(7,.var [.str (gt (Sh.str.pair ((Sh.int i64).pair ((Sh.int i64).pair Sh.bool))) l (i:Int).toNat).1,.i (gt (Sh.str.pair ((Sh.int i64).pair ((Sh.int i64).pair Sh.bool))) l (i:Int).toNat).2.1,.i (gt (Sh.str.pair ((Sh.int i64).pair ((Sh.int i64).pair Sh.bool))) l (i:Int).toNat).2.2.1,.bool (gt (Sh.str.pair ((Sh.int i64).pair ((Sh.int i64).pair Sh.bool))) l (i:Int).toNat).2.2.2])] }))) (false=false/\R (hd Tryd.f27 1) { env:=[(0,.sl (Sh.str.pair ((Sh.int i64).pair ((Sh.int i64).pair Sh.bool))) l),(1,.i n),(5,.i e),(6,.i (i:Int)),(7,.ptr 7 0),(8,.i 0)],blk:=[(7,.var [.str (gt (Sh.str.pair ((Sh.int i64).pair ((Sh.int i64).pair Sh.bool))) l (i:Int).toNat).1,.i (gt (Sh.str.pair ((Sh.int i64).pair ((Sh.int i64).pair Sh.bool))) l (i:Int).toNat).2.1,.i (gt (Sh.str.pair ((Sh.int i64).pair ((Sh.int i64).pair Sh.bool))) l (i:Int).toNat).2.2.1,.bool (gt (Sh.str.pair ((Sh.int i64).pair ((Sh.int i64).pair Sh.bool))) l (i:Int).toNat).2.2.2])] })))))) (Q [.bool true] [])):=by kernel_rfl
theorem qrg (l:List Sec) (n e:Int) (i:Nat) (x:Sec) (k:Nat) (Q:QT) (R:RT):sA DV Tryd.f27 Q (λ it S=>R it (qaj [0,1,5,6,7,8] [7] S)) (hd Tryd.f27 1) ⟨[(0,.sl seS l),(1,.i n),(5,.i e),(6,.i (i:Nat)),(7,.ptr 7 0),(8,.i (k:Nat))],[(7,.var [.str x.1,.i x.2.1,.i x.2.2.1,.bool x.2.2.2])]⟩ =
  (bc (decide ((k:Int)<(i:Int))) ((0:Int)<=(k:Int)/\(k:Int)<(l.length:Int)/\bc (decide ((gt (Sh.str.pair ((Sh.int i64).pair ((Sh.int i64).pair Sh.bool))) l (k:Int).toNat).1=x.1)) (Q [.bool false] [(7,.var [.str x.1,.i x.2.1,.i x.2.2.1,.bool x.2.2.2])]) (R (hd Tryd.f27 1) { env:=[(0,.sl (Sh.str.pair ((Sh.int i64).pair ((Sh.int i64).pair Sh.bool))) l),(1,.i n),(5,.i e),(6,.i (i:Int)),(7,.ptr 7 0),(8,.i (i64.wrap ((k:Int)+1)))],blk:=[(7,.var [.str x.1,.i x.2.1,.i x.2.2.1,.bool x.2.2.2])] })) (R (hd Tryd.f27 0) { env:=[(0,.sl (Sh.str.pair ((Sh.int i64).pair ((Sh.int i64).pair Sh.bool))) l),(1,.i n),(5,.i x.2.2.1),(6,.i (i64.wrap ((i:Int)+1))),(7,.ptr 7 0),(8,.i (k:Int))],blk:=[(7,.var [.str x.1,.i x.2.1,.i x.2.2.1,.bool x.2.2.2])] })):=by kernel_rfl
theorem q0o (c:Int) (R:List Item->PS->Prop):sA [] Tryd.f60 (QC ctSgn (c,())) R [.code (qad Tryd.f60)] (entry [.int .u8] (c,())):=by
 rw[q9m];simp only[qh9,cond_true,cond_false,decide_eq_true_eq,decide_eq_false_iff_not]
 repeat' first
  | exact trivial
  | exact rfl
  | (refine And.intro ?_ ?_)
  | (intro _)
  | (refine QC.flat (qgu ?_) rfl rfl;simp[sgnB,letB,digB];omega)
theorem qwv:Held Tryd.prog G0 60 ctSgn:=Held.run cx0 (fn:=Tryd.f60) rfl rfl ⟨by decide,by decide⟩ λ x _=>q0o x.1 _
theorem dxN:CxOK Tryd.prog tt G0 DN:=cx0.k qwv (fn:=Tryd.f60)
theorem q0v {s:List UInt8} (hs:s.length<2 ^ 62):∀ (k i:Nat),s.length-i=k->i<=s.length ->
  GD 44 Tryd.f44 (λ rs _=>rs=[.bool (decide (1<=s.length)&&decide (s.length<=12)&&allS (s.drop i))]) (hd Tryd.f44 0) ⟨[(0,.str s),(3,.i (i:Nat))],[]⟩:=by
 intro k
 induction k with
 | zero=>
  intro i hk hi;refine qe6 dxN (qve s i _ _) ?_;rw[decide_eq_false (by omega),bc_f,List.drop_eq_nil_of_le (by omega)];refine qaf (λ h=>qgu ?_) (λ h=>⟨rfl,qgu ?_⟩)
  ·have h:=of_decide_eq_true h;simp[allS];omega
  ·have h:=of_decide_eq_false h;simp[allS];omega
 | succ k ih=>
  intro i hk hi;have hil:i<s.length:=by omega
  refine qe6 dxN (qve s i _ _) ?_;have e1:s[i]?.getD 0=s[i]:=by rw[List.getElem?_eq_getElem hil];rfl
  rw[decide_eq_true (show (i:Int)<(s.length:Int) by omega),bc_t,IntWalk.i64_in ((i:Int)+1) (by omega),Int.toNat_natCast,qpu hil,e1];refine ⟨by omega,by omega,trivial,qaf (λ h=>?_) (λ h=>?_)⟩
  ·simp only[Bool.not_eq_true'] at h;rw[h,Bool.false_and,Bool.and_false]
  ·simp only[Bool.not_eq_false'] at h;rw[h,Bool.true_and];exact (ih (i+1) (by omega) (by omega)).only ⟨rfl,rfl,trivial⟩ trivial
theorem q0w:Held Tryd.prog G0 44 ctRnm:=Held.of dxN (fn:=Tryd.f44) rfl rfl ⟨by decide,by decide⟩ λ ⟨s,_⟩ hp=>by
 have hp:s.length<2 ^ 62:=hp;refine qe6 dxN (q9p s _ _) ?_;exact ((q0v hp _ 0 rfl (Nat.zero_le _)).post λ rs blk hq=>QC.flat (by rw[hq];rfl) rfl (by rw[hq];rfl)).only ⟨rfl,rfl,trivial⟩ trivial
theorem dxV:CxOK Tryd.prog tt G0 DV:=cx0.k q0w (fn:=Tryd.f44)
theorem qo9 {l:List Sec} {nm:List UInt8} {k:Nat} (h:k<l.length):hasN (l.take (k+1)) nm=(hasN (l.take k) nm || decide (l[k].1=nm)):=by
 unfold hasN;rw[List.take_succ_eq_append_getElem h,List.any_append,List.any_cons,List.any_nil,Bool.or_false]
theorem q8f {l:List Sec} {nm:List UInt8}:∀ {i k:Nat},k<=i->hasN (l.take k) nm=true->hasN (l.take i) nm=true:=by
 intro i k hk h;obtain ⟨x,hx,hn⟩:=List.any_eq_true.1 h;exact List.any_eq_true.2 ⟨x,(List.take_sublist_take_left hk).subset hx,hn⟩
abbrev GDv (l:List Sec) (n:Int) (v:Bool) (it:List Item) (S:PS):Prop:=GD 27 Tryd.f27 (λ rs _=>rs=[.bool v]) it S
theorem qty {l:List Sec} {n e:Int} {i:Nat} (h8:l.length<=8) (hi:i<l.length) {v:Bool} (no:hasN (l.take i) l[i].1=true->v=false)
  (nx:hasN (l.take i) l[i].1=false->GDv l n v (hd Tryd.f27 0) ⟨[(0,.sl seS l),(1,.i n),(5,.i l[i].2.2.1),(6,.i ((i+1:Nat):Int))],[]⟩) :
  ∀ (c k:Nat),i-k=c->k<=i->hasN (l.take k) l[i].1=false ->
  GDv l n v (hd Tryd.f27 1) ⟨[(0,.sl seS l),(1,.i n),(5,.i e),(6,.i (i:Nat)),(7,.ptr 7 0),(8,.i (k:Nat))],[(7,.var [.str l[i].1,.i l[i].2.1,.i l[i].2.2.1,.bool l[i].2.2.2])]⟩:=by
 intro c
 induction c with
 | zero=>
  intro k hk hk2 hh;have hk:k=i:=by omega
  subst hk;refine qah dxV (qrg l n e k l[k] k _ _) ?_;rw[decide_eq_false (by omega),bc_f,IntWalk.i64_in ((k:Int)+1) (by omega)];exact (nx hh).only ⟨rfl,rfl,rfl,rfl,trivial⟩ trivial
 | succ c ih=>
  intro k hk hk2 hh;have hkl:k<l.length:=by omega
  refine qah dxV (qrg l n e i l[i] k _ _) ?_;have e1:gt seS l (k:Int).toNat=l[k]:=gtE hkl;rw[decide_eq_true (show (k:Int)<(i:Int) by omega),bc_t,e1,IntWalk.i64_in ((k:Int)+1) (by omega)];refine ⟨by omega,by omega,qaf (λ h=>?_) (λ h=>?_)⟩
  ·rw[no (q8f (k:=k+1) (by omega) (by rw[qo9 hkl,h,Bool.or_true]))]
  ·exact (ih (k+1) (by omega) (by omega) (by rw[qo9 hkl,hh];exact h)).only ⟨rfl,rfl,rfl,rfl,rfl,rfl,trivial⟩ ⟨rfl,trivial⟩
theorem qwm {l:List Sec} {n:Int} (h8:l.length<=8) (hl:∀ s∈l,s.1.length<2 ^ 62):∀ (k i:Nat) (e:Int),l.length-i=k->i<=l.length ->
  GDv l n (valF n (l.take i) e (l.drop i)) (hd Tryd.f27 0) ⟨[(0,.sl seS l),(1,.i n),(5,.i e),(6,.i (i:Nat))],[]⟩:=by
 intro k
 induction k with
 | zero=>
  intro i e hk hi;refine qah dxV (qrf l n e i _ _) ?_;rw[decide_eq_false (by omega),bc_f,List.drop_eq_nil_of_le (by omega)];rfl
 | succ k ih=>
  intro i e hk hi;have hil:i<l.length:=by omega
  refine qah dxV (qrf l n e i _ _) ?_;have e1:gt seS l (i:Int).toNat=l[i]:=gtE hil;have nm:=hl _ (List.getElem_mem hil);have nx:=ih (i+1) l[i].2.2.1 (by omega) (by omega);rw[decide_eq_true (show (i:Int)<(l.length:Int) by omega),bc_t,e1,qof hil];have inn:∀ v,v=(qgi l[i].1 && !hasN (l.take i) l[i].1&&plcB e n l[i]&&valF n (l.take (i+1)) l[i].2.2.1 (l.drop (i+1)))->qgi l[i].1=true->plcB e n l[i]=true ->
    GDv l n v (hd Tryd.f27 1) ⟨[(0,.sl seS l),(1,.i n),(5,.i e),(6,.i (i:Nat)),(7,.ptr 7 0),(8,.i ((0:Nat):Int))],[(7,.var [.str l[i].1,.i l[i].2.1,.i l[i].2.2.1,.bool l[i].2.2.2])]⟩:=by
   intro v hv h1 h2;refine qty h8 hil (λ h=>?_) (λ h=>?_) _ 0 rfl (Nat.zero_le _) rfl
   ·rw[hv,h,Bool.not_true,Bool.and_false];rfl
   ·have:v=valF n (l.take (i+1)) l[i].2.2.1 (l.drop (i+1)):=by rw[hv,h1,h2,h];rfl
    rw[this];exact nx
  have inn:=inn _ rfl;generalize l[i]=x at *;obtain ⟨nm0,f,t,c⟩:=x;refine ⟨by omega,by omega,nm,qaf (λ h=>⟨rfl,rfl,rfl,rfl,?_⟩) (λ h=>?_)⟩
  ·have h:(!qgi nm0)=true:=h;simp only[Bool.not_eq_true'] at h
   show [SV.bool false]=[SV.bool (qgi nm0&&_&&_&&_)]
   rw[h];rfl
  have h:(!qgi nm0)=false:=h;simp only[Bool.not_eq_false'] at h;have no:plcB e n (nm0,f,t,c)=false->[SV.bool false]=[SV.bool (qgi nm0 && !hasN (l.take i) nm0&&plcB e n (nm0,f,t,c)&&valF n (l.take (i+1)) t (l.drop (i+1)))]:=by
   intro h2;rw[h2,Bool.and_false,Bool.false_and]
  have yes:plcB e n (nm0,f,t,c)=true->_:=inn h;refine qaf (λ h2=>⟨rfl,rfl,rfl,no ?_⟩) (λ h2=>qaf (λ h3=>⟨rfl,rfl,no ?_⟩) (λ h3=>qaf (λ h4=>⟨rfl,no ?_⟩) (λ h4=>?_)))
  ·have h2:f<e:=of_decide_eq_true h2;exact decide_eq_false λ q=>by have:e<=f:=q.1;omega
  ·have h3:t<=f:=of_decide_eq_true h3;exact decide_eq_false λ q=>by have:f<t:=q.2.1;omega
  ·have h4:n<t:=of_decide_eq_true h4;exact decide_eq_false λ q=>by have:t<=n:=q.2.2.1;omega
  have h2:¬ f<e:=of_decide_eq_false h2;have h3:¬ t<=f:=of_decide_eq_false h3;have h4:¬ n<t:=of_decide_eq_false h4
  cases c with
  | false=>
   refine ⟨rfl,(yes (decide_eq_true ⟨by show e<=f;omega,by show f<t;omega,by show t<=n;omega,λ q=>by cases q⟩)).only ⟨rfl,rfl,rfl,rfl,rfl,rfl,trivial⟩ ⟨rfl,trivial⟩⟩
  | true=>
   refine ⟨by decide,qaf (λ h5=>⟨rfl,no ?_⟩) (λ h5=>⟨by decide,qaf (λ h6=>no ?_) (λ h6=>?_)⟩)⟩
   ·have h5:f.tmod 4≠0:=of_decide_eq_true h5;exact decide_eq_false λ q=>h5 (q.2.2.2 rfl).1
   ·have h6:t.tmod 4≠0:=of_decide_eq_true h6;exact decide_eq_false λ q=>h6 (q.2.2.2 rfl).2
   ·have h5:¬ f.tmod 4≠0:=of_decide_eq_false h5;have h6:¬ t.tmod 4≠0:=of_decide_eq_false h6;exact (yes (decide_eq_true ⟨by show e<=f;omega,by show f<t;omega,by show t<=n;omega,λ _=>⟨Classical.not_not.1 h5,Classical.not_not.1 h6⟩⟩)).only ⟨rfl,rfl,rfl,rfl,rfl,rfl,trivial⟩ ⟨rfl,trivial⟩
theorem rval_held:Held Tryd.prog G0 27 (ctVal True):=Held.of dxV (fn:=Tryd.f27) rfl rfl ⟨by decide,by decide⟩ λ ⟨l,n,_⟩ hp=>by
 have hp:∀ s∈l,s.1.length<2 ^ 62:=hp.2;refine qe6 dxV (q5c l n _ _) (qaf (λ h=>?_) (λ h=>?_))
 ·have h:=of_decide_eq_true h;exact QC.flat (qgu (by simp[validB];omega)) rfl rfl
 ·have h:=of_decide_eq_false h;have e:validB l n=valF n (l.take 0) 0 (l.drop 0):=by
   unfold validB;rw[decide_eq_true (by omega)];rfl
  exact ((qwm (by omega) hp _ 0 0 rfl (Nat.zero_le _)).post λ rs blk hq=>QC.flat (by rw[hq,<- e];rfl) rfl (by rw[hq];rfl)).only ⟨rfl,rfl,rfl,rfl,trivial⟩ trivial
end Go.Proofs.YtdeacfammdjajaaDoor.Im
namespace Go.Proofs.YtdeacfammdjajaaDoor
open Go.Px Go.Ax
open Go.IntKind(i64 u32 u8)
set_option maxRecDepth 100000
set_option maxRecDepth 100000
theorem vc_op (x:List Int) (n:Int) (Q:QT) (R:RT):sA [] Tryd.f36 Q (λ it S=>R it (qaj [2,4,5,6] [2,4,5] S)) [.code (qad Tryd.f36)] (entry [.arr 4 uB,iI] (x,n,())) =
  ((0:Int)<=0/\(0:Int)<(↑(4:Nat):Int)/\0<4/\(4:Int)≠0/\(0:Int)<=2/\(2:Int)<(↑(4:Nat):Int)/\2<4/\(5:Int)≠0/\bc (decide (i64.wrap ((1:Int)+(i64.wrap (gtB x (0))).tmod (4:Int))<=2)) (bc (decide (n=(0:Int))) (R (hd Tryd.f36 0) { env:=[(2,.ptr 2 0),(4,.ptr 4 0),(5,.ptr 5 0),(6,.i 0)],blk:=[(2,.var [.arr (4:Nat) uB x]),(4,.var [.i 0,.i 0,.i 0,.u 0,.nils]),(5,.var [.i 4,.i 0,.i (i64.wrap ((1:Int)+(i64.wrap (gtB x (2))).tmod (5:Int))),.u 0,.nils])] }) ((0:Int)<=1/\(1:Int)<(↑(4:Nat):Int)/\1<4/\n≠0/\(0:Int)<=2/\(2:Int)<(↑(4:Nat):Int)/\2<4/\i64.wrap (n-(i64.wrap (gtB x (1))).tmod n)≠0/\(5:Int)≠0/\bc (decide (i64.wrap ((1:Int)+(i64.wrap (gtB x (0))).tmod (4:Int))=(3:Int))) ((0:Int)<=3/\(3:Int)<(↑(4:Nat):Int)/\3<4/\R (hd Tryd.f36 0) { env:=[(2,.ptr 2 0),(4,.ptr 4 0),(5,.ptr 5 0),(6,.i 0)],blk:=[(2,.var [.arr (4:Nat) uB x]),(4,.var [.i 0,.i 0,.i 0,.u 0,.nils]),(5,.var [.i (i64.wrap ((1:Int)+(i64.wrap (gtB x (0))).tmod (4:Int))),.i ((i64.wrap (gtB x (1))).tmod n),.i (i64.wrap ((1:Int)+((i64.wrap (gtB x (2))).tmod (i64.wrap (n-(i64.wrap (gtB x (1))).tmod n))).tmod (5:Int))),.u (gtB x (3)),.nils])] }) (R (hd Tryd.f36 0) { env:=[(2,.ptr 2 0),(4,.ptr 4 0),(5,.ptr 5 0),(6,.i 0)],blk:=[(2,.var [.arr (4:Nat) uB x]),(4,.var [.i 0,.i 0,.i 0,.u 0,.nils]),(5,.var [.i (i64.wrap ((1:Int)+(i64.wrap (gtB x (0))).tmod (4:Int))),.i ((i64.wrap (gtB x (1))).tmod n),.i (i64.wrap ((1:Int)+((i64.wrap (gtB x (2))).tmod (i64.wrap (n-(i64.wrap (gtB x (1))).tmod n))).tmod (5:Int))),.u 0,.nils])] }))) (bc (decide (i64.wrap ((1:Int)+(i64.wrap (gtB x (0))).tmod (4:Int))=(3:Int))) ((0:Int)<=3/\(3:Int)<(↑(4:Nat):Int)/\3<4/\R (hd Tryd.f36 0) { env:=[(2,.ptr 2 0),(4,.ptr 4 0),(5,.ptr 5 0),(6,.i 0)],blk:=[(2,.var [.arr (4:Nat) uB x]),(4,.var [.i 0,.i 0,.i 0,.u 0,.nils]),(5,.var [.i (i64.wrap ((1:Int)+(i64.wrap (gtB x (0))).tmod (4:Int))),.i 0,.i (i64.wrap ((1:Int)+(i64.wrap (gtB x (2))).tmod (5:Int))),.u (gtB x (3)),.nils])] }) (R (hd Tryd.f36 0) { env:=[(2,.ptr 2 0),(4,.ptr 4 0),(5,.ptr 5 0),(6,.i 0)],blk:=[(2,.var [.arr (4:Nat) uB x]),(4,.var [.i 0,.i 0,.i 0,.u 0,.nils]),(5,.var [.i (i64.wrap ((1:Int)+(i64.wrap (gtB x (0))).tmod (4:Int))),.i 0,.i (i64.wrap ((1:Int)+(i64.wrap (gtB x (2))).tmod (5:Int))),.u 0,.nils])] }))):=by kernel_rfl
def qmc (x:List Int) (k a n b:Int):List (Nat × LB):=[(2,.var [.arr (4:Nat) uB x]),(4,.var [.i k,.i a,.i n,.u b,.nils]),(5,.var [.i k,.i a,.i n,.u b,.nils])]
theorem q91 (x:List Int) (k a n b:Int) (i:Nat) (Q:QT) (R:RT):sA [] Tryd.f36 Q (λ it S=>R it (qaj [2,4,5,6] [2,4,5,76] S)) (hd Tryd.f36 0) ⟨[(2,.ptr 2 0),(4,.ptr 4 0),(5,.ptr 5 0),(6,.i (i:Nat))],[(2,.var [.arr 4 uB x]),(4,.var [.i 0,.i 0,.i 0,.u 0,.nils]),(5,.var [.i k,.i a,.i n,.u b,.nils])]⟩ =
  (bc (decide ((i:Int)<n)) (bc (decide (k=(2:Int))) (true=true/\(0:Int)<=3/\(3:Int)<(↑(4:Nat):Int)/\3<4/\(0:Int)<=0/\(0:Int)<(↑(4:Nat):Int)/\0<4/\(4:Int)≠0/\(0:Nat)+1<=([(u8.wrap (gtB x (3)*u8.wrap (i64.wrap ((i:Int)+i64.wrap ((i64.wrap (gtB x (0))).tdiv (4:Int))))))]:List uB.D).length/\(([(u8.wrap (gtB x (3)*u8.wrap (i64.wrap ((i:Int)+i64.wrap ((i64.wrap (gtB x (0))).tdiv (4:Int))))))]:List uB.D)).length<2 ^ 30/\(1:Nat)<=2 ^ 10/\R (hd Tryd.f36 0) { env:=[(2,.ptr 2 0),(4,.ptr 4 0),(5,.ptr 5 0),(6,.i (i64.wrap ((i:Int)+1)))],blk:=[(2,.var [.arr (4:Nat) uB x]),(4,.var [.i 0,.i 0,.i 0,.u 0,.nils]),(5,.var [.i k,.i a,.i n,.u b,.win true uB 76 0 (1:Nat)]),(76,.row 5 uB (([(u8.wrap (gtB x (3)*u8.wrap (i64.wrap ((i:Int)+i64.wrap ((i64.wrap (gtB x (0))).tdiv (4:Int))))))]:List uB.D)))] }) (bc (decide (k=(4:Int))) ((0:Int)<=3/\(3:Int)<(↑(4:Nat):Int)/\3<4/\(0:Int)<=0/\(0:Int)<(↑(4:Nat):Int)/\0<4/\(4:Int)≠0/\(0:Nat)+1<=([(u8.wrap (gtB x (3)*u8.wrap (i64.wrap ((i:Int)+i64.wrap ((i64.wrap (gtB x (0))).tdiv (4:Int))))))]:List uB.D).length/\(([(u8.wrap (gtB x (3)*u8.wrap (i64.wrap ((i:Int)+i64.wrap ((i64.wrap (gtB x (0))).tdiv (4:Int))))))]:List uB.D)).length<2 ^ 30/\(1:Nat)<=2 ^ 10/\R (hd Tryd.f36 0) { env:=[(2,.ptr 2 0),(4,.ptr 4 0),(5,.ptr 5 0),(6,.i (i64.wrap ((i:Int)+1)))],blk:=[(2,.var [.arr (4:Nat) uB x]),(4,.var [.i 0,.i 0,.i 0,.u 0,.nils]),(5,.var [.i k,.i a,.i n,.u b,.win true uB 76 0 (1:Nat)]),(76,.row 5 uB (([(u8.wrap (gtB x (3)*u8.wrap (i64.wrap ((i:Int)+i64.wrap ((i64.wrap (gtB x (0))).tdiv (4:Int))))))]:List uB.D)))] }) (Q [.agg [.i k,.i a,.i n,.u b,.nils]] (qmc x k a n b)))) (false=false/\Q [.agg [.i k,.i a,.i n,.u b,.nils]] (qmc x k a n b))):=by kernel_rfl
def qmb (x d:List Int) (k a n b:Int):List (Nat × LB):=[(2,.var [.arr (4:Nat) uB x]),(4,.var [.i k,.i a,.i n,.u b,.win true uB 76 0 d.length]),(5,.var [.i k,.i a,.i n,.u b,.win true uB 76 0 d.length]),(76,.row 5 uB d)]
theorem q90 (x d:List Int) (k a n b:Int) (i:Nat) (Q:QT) (R:RT):sA [] Tryd.f36 Q (λ it S=>R it (qaj [2,4,5,6] [2,4,5,76] S)) (hd Tryd.f36 0) ⟨[(2,.ptr 2 0),(4,.ptr 4 0),(5,.ptr 5 0),(6,.i (i:Nat))],[(2,.var [.arr 4 uB x]),(4,.var [.i 0,.i 0,.i 0,.u 0,.nils]),(5,.var [.i k,.i a,.i n,.u b,.win true uB 76 0 d.length]),(76,.row 5 uB d)]⟩ =
  (bc (decide ((i:Int)<n)) (bc (decide (k=(2:Int))) (true=true/\(0:Int)<=3/\(3:Int)<(↑(4:Nat):Int)/\3<4/\(0:Int)<=0/\(0:Int)<(↑(4:Nat):Int)/\0<4/\(4:Int)≠0/\(0:Nat)+1<=([(u8.wrap (gtB x (3)*u8.wrap (i64.wrap ((i:Int)+i64.wrap ((i64.wrap (gtB x (0))).tdiv (4:Int))))))]:List uB.D).length/\d.length=d.length/\(0:Nat)=(0:Nat)/\d.length+(([(u8.wrap (gtB x (3)*u8.wrap (i64.wrap ((i:Int)+i64.wrap ((i64.wrap (gtB x (0))).tdiv (4:Int))))))]:List uB.D)).length<2 ^ 30/\(1:Nat)<=2 ^ 10/\R (hd Tryd.f36 0) { env:=[(2,.ptr 2 0),(4,.ptr 4 0),(5,.ptr 5 0),(6,.i (i64.wrap ((i:Int)+1)))],blk:=[(2,.var [.arr (4:Nat) uB x]),(4,.var [.i 0,.i 0,.i 0,.u 0,.nils]),(5,.var [.i k,.i a,.i n,.u b,.win true uB 76 0 (d.length+(([(u8.wrap (gtB x (3)*u8.wrap (i64.wrap ((i:Int)+i64.wrap ((i64.wrap (gtB x (0))).tdiv (4:Int))))))]:List uB.D)).length)]),(76,.row 5 uB (d++([(u8.wrap (gtB x (3)*u8.wrap (i64.wrap ((i:Int)+i64.wrap ((i64.wrap (gtB x (0))).tdiv (4:Int))))))]:List uB.D)))] }) (bc (decide (k=(4:Int))) ((0:Int)<=3/\(3:Int)<(↑(4:Nat):Int)/\3<4/\(0:Int)<=0/\(0:Int)<(↑(4:Nat):Int)/\0<4/\(4:Int)≠0/\(0:Nat)+1<=([(u8.wrap (gtB x (3)*u8.wrap (i64.wrap ((i:Int)+i64.wrap ((i64.wrap (gtB x (0))).tdiv (4:Int))))))]:List uB.D).length/\d.length=d.length/\(0:Nat)=(0:Nat)/\d.length+(([(u8.wrap (gtB x (3)*u8.wrap (i64.wrap ((i:Int)+i64.wrap ((i64.wrap (gtB x (0))).tdiv (4:Int))))))]:List uB.D)).length<2 ^ 30/\(1:Nat)<=2 ^ 10/\R (hd Tryd.f36 0) { env:=[(2,.ptr 2 0),(4,.ptr 4 0),(5,.ptr 5 0),(6,.i (i64.wrap ((i:Int)+1)))],blk:=[(2,.var [.arr (4:Nat) uB x]),(4,.var [.i 0,.i 0,.i 0,.u 0,.nils]),(5,.var [.i k,.i a,.i n,.u b,.win true uB 76 0 (d.length+(([(u8.wrap (gtB x (3)*u8.wrap (i64.wrap ((i:Int)+i64.wrap ((i64.wrap (gtB x (0))).tdiv (4:Int))))))]:List uB.D)).length)]),(76,.row 5 uB (d++([(u8.wrap (gtB x (3)*u8.wrap (i64.wrap ((i:Int)+i64.wrap ((i64.wrap (gtB x (0))).tdiv (4:Int))))))]:List uB.D)))] }) (Q [.agg [.i k,.i a,.i n,.u b,.win true uB 76 0 d.length]] (qmb x d k a n b)))) (false=false/\Q [.agg [.i k,.i a,.i n,.u b,.win true uB 76 0 d.length]] (qmb x d k a n b))):=by kernel_rfl
def qma (x d:List Int) (k a n b:Int):List (Nat × LB):=[(2,.var [.arr (4:Nat) uB x]),(4,.var [.i k,.i a,.i n,.u b,.sl uB d]),(5,.var [.i k,.i a,.i n,.u b,.sl uB d])]
theorem q9z (x d:List Int) (k a n b:Int) (i:Nat) (Q:QT) (R:RT):sA [] Tryd.f36 Q (λ it S=>R it (qaj [2,4,5,6] [2,4,5,76] S)) (hd Tryd.f36 0) ⟨[(2,.ptr 2 0),(4,.ptr 4 0),(5,.ptr 5 0),(6,.i (i:Nat))],[(2,.var [.arr 4 uB x]),(4,.var [.i 0,.i 0,.i 0,.u 0,.nils]),(5,.var [.i k,.i a,.i n,.u b,.sl uB d])]⟩ =
  (bc (decide ((i:Int)<n)) (bc (decide (k=(2:Int))) (true=true/\(0:Int)<=3/\(3:Int)<(↑(4:Nat):Int)/\3<4/\(0:Int)<=0/\(0:Int)<(↑(4:Nat):Int)/\0<4/\(4:Int)≠0/\False) (bc (decide (k=(4:Int))) ((0:Int)<=3/\(3:Int)<(↑(4:Nat):Int)/\3<4/\(0:Int)<=0/\(0:Int)<(↑(4:Nat):Int)/\0<4/\(4:Int)≠0/\False) (Q [.agg [.i k,.i a,.i n,.u b,.sl uB d]] (qma x d k a n b)))) (false=false/\Q [.agg [.i k,.i a,.i n,.u b,.sl uB d]] (qma x d k a n b))):=by kernel_rfl
end Go.Proofs.YtdeacfammdjajaaDoor
