/-
  A part of the proof: what pieces of the program give; conditions: those of each theorem.
-/
import Derived.Test.YticpkibnhakgbaaDoorQ2
import Derived.Test.YticpkibnhakgbaaDoorQ1
import Derived.Test.YticpkibnhakgbaaDoorQ0
import Derived.Test.YticpkibnhakgbaaDoorHD
import Derived.KernelRfl
set_option linter.unusedVariables false
set_option linter.unusedSimpArgs false
namespace Go.Proofs.YticpkibnhakgbaaDoor
open Go.Px Go.Ax
set_option maxRecDepth 100000
set_option maxRecDepth 100000
theorem vc_ft (k:Int) (l:List SyT) (Q:QT) (R:RT):sy tt G0 [] Tryd.f44.ntmps Tryd.f44.results.toList Q (fun it S=>R it (keepS [0,1,5] [] S)) 1000 [.code (bodyOf Tryd.f44)] (entry [iI,.sl syS] (k,l,())) =
  (R (hd Tryd.f44 0) { env:=[(0,.int .i64 k),(1,.sl syS l),(5,.int .i64 0)],blk:=[] }):=by kernel_rfl
def mem_ftL1_m0 (l:List SyT) (n:Nat):List (Nat × LB):=[(6,.var [.bool (gtY l (0)).1,.int .i64 (gtY l (0)).2.1,.int .u8 (gtY l (0)).2.2]),(7,.var [.bool (gtY l (n:Int).toNat).1,.int .i64 (gtY l (n:Int).toNat).2.1,.int .u8 (gtY l (n:Int).toNat).2.2])]
theorem vc_ftL1 (l:List SyT) (n:Nat) (Q:QT) (R:RT):sy tt G0 [] Tryd.f44.ntmps Tryd.f44.results.toList Q (fun it S=>R it (keepS [0,1,5] [] S)) 1000 (hd Tryd.f44 0) ⟨[(0,.int .i64 1),(1,.sl syS l),(5,.int .i64 (n:Nat))],[]⟩ =
  (bc (decide ((n:Int)<(l.length:Int))) ((0:Int)≤(0:Int) ∧
 (0:Int)<(l.length:Int) ∧
 (0:Int)≤(n:Int) ∧
 (n:Int)<(l.length:Int) ∧
 bc (gtY l (0)).1 (bc (bif true then (gtY l (n:Int).toNat).1 else false) (bc (!bif true then decide ((gtY l (n:Int).toNat).2.1=IntKind.i64.wrap ((gtY l (0)).2.1+(n:Int))) else false) (true=true ∧
 Q [.int .i64 (n:Int)] (mem_ftL1_m0 l n)) (bc (decide ((gtY l (n:Int).toNat).2.2≠(0:Int))) (Q [.int .i64 (n:Int)] (mem_ftL1_m0 l n)) (false=false ∧
 false=false ∧
 false=false ∧
 R (hd Tryd.f44 0) { env:=[(0,.int .i64 1),(1,.sl syS l),(5,.int .i64 (IntKind.i64.wrap ((n:Int)+(1:Int))))],blk:=[] }))) (false=false ∧
 true=true ∧
 Q [.int .i64 (n:Int)] (mem_ftL1_m0 l n))) (false=false ∧
 false=false ∧
 true=true ∧
 Q [.int .i64 (n:Int)] (mem_ftL1_m0 l n))) (Q [.int .i64 (n:Int)] [])):=by kernel_rfl
def mem_ftL2_m0 (l:List SyT) (n:Nat):List (Nat × LB):=[(6,.var [.bool (gtY l (0)).1,.int .i64 (gtY l (0)).2.1,.int .u8 (gtY l (0)).2.2]),(7,.var [.bool (gtY l (n:Int).toNat).1,.int .i64 (gtY l (n:Int).toNat).2.1,.int .u8 (gtY l (n:Int).toNat).2.2])]
theorem vc_ftL2 (l:List SyT) (n:Nat) (Q:QT) (R:RT):sy tt G0 [] Tryd.f44.ntmps Tryd.f44.results.toList Q (fun it S=>R it (keepS [0,1,5] [] S)) 1000 (hd Tryd.f44 0) ⟨[(0,.int .i64 2),(1,.sl syS l),(5,.int .i64 (n:Nat))],[]⟩ =
  (bc (decide ((n:Int)<(l.length:Int))) ((0:Int)≤(0:Int) ∧
 (0:Int)<(l.length:Int) ∧
 (0:Int)≤(n:Int) ∧
 (n:Int)<(l.length:Int) ∧
 bc (gtY l (0)).1 (bc (bif true then (gtY l (n:Int).toNat).1 else false) (false=false ∧
 bc (bif true then !bif true then decide ((gtY l (n:Int).toNat).2.1=IntKind.i64.wrap ((gtY l (0)).2.1+(n:Int))) else false else false) (Q [.int .i64 (n:Int)] (mem_ftL2_m0 l n)) (false=false ∧
 false=false ∧
 R (hd Tryd.f44 0) { env:=[(0,.int .i64 2),(1,.sl syS l),(5,.int .i64 (IntKind.i64.wrap ((n:Int)+(1:Int))))],blk:=[] })) (false=false ∧
 false=false ∧
 Q [.int .i64 (n:Int)] (mem_ftL2_m0 l n))) (false=false ∧
 false=false ∧
 false=false ∧
 Q [.int .i64 (n:Int)] (mem_ftL2_m0 l n))) (Q [.int .i64 (n:Int)] [])):=by kernel_rfl
def mem_ftL3_m0 (l:List SyT) (n:Nat):List (Nat × LB):=[(6,.var [.bool (gtY l (0)).1,.int .i64 (gtY l (0)).2.1,.int .u8 (gtY l (0)).2.2]),(7,.var [.bool (gtY l (n:Int).toNat).1,.int .i64 (gtY l (n:Int).toNat).2.1,.int .u8 (gtY l (n:Int).toNat).2.2])]
theorem vc_ftL3 (l:List SyT) (n:Nat) (Q:QT) (R:RT):sy tt G0 [] Tryd.f44.ntmps Tryd.f44.results.toList Q (fun it S=>R it (keepS [0,1,5] [] S)) 1000 (hd Tryd.f44 0) ⟨[(0,.int .i64 3),(1,.sl syS l),(5,.int .i64 (n:Nat))],[]⟩ =
  (bc (decide ((n:Int)<(l.length:Int))) ((0:Int)≤(0:Int) ∧
 (0:Int)<(l.length:Int) ∧
 (0:Int)≤(n:Int) ∧
 (n:Int)<(l.length:Int) ∧
 bc (gtY l (0)).1 (bc (bif true then (gtY l (n:Int).toNat).1 else false) (false=false ∧
 false=false ∧
 bc (gtY l (0)).1 (true=true ∧
 true=true ∧
 Q [.int .i64 (n:Int)] (mem_ftL3_m0 l n)) (bc (bif false then true else (gtY l (n:Int).toNat).1) (true=true ∧
 Q [.int .i64 (n:Int)] (mem_ftL3_m0 l n)) (bc (decide ((gtY l (n:Int).toNat).2.2≠(gtY l (0)).2.2)) (Q [.int .i64 (n:Int)] (mem_ftL3_m0 l n)) (false=false ∧
 R (hd Tryd.f44 0) { env:=[(0,.int .i64 3),(1,.sl syS l),(5,.int .i64 (IntKind.i64.wrap ((n:Int)+(1:Int))))],blk:=[] })))) (false=false ∧
 false=false ∧
 false=false ∧
 bc (gtY l (0)).1 (true=true ∧
 true=true ∧
 Q [.int .i64 (n:Int)] (mem_ftL3_m0 l n)) (bc (bif false then true else (gtY l (n:Int).toNat).1) (true=true ∧
 Q [.int .i64 (n:Int)] (mem_ftL3_m0 l n)) (bc (decide ((gtY l (n:Int).toNat).2.2≠(gtY l (0)).2.2)) (Q [.int .i64 (n:Int)] (mem_ftL3_m0 l n)) (false=false ∧
 R (hd Tryd.f44 0) { env:=[(0,.int .i64 3),(1,.sl syS l),(5,.int .i64 (IntKind.i64.wrap ((n:Int)+(1:Int))))],blk:=[] }))))) (false=false ∧
 false=false ∧
 false=false ∧
 false=false ∧
 bc (gtY l (0)).1 (true=true ∧
 true=true ∧
 Q [.int .i64 (n:Int)] (mem_ftL3_m0 l n)) (bc (bif false then true else (gtY l (n:Int).toNat).1) (true=true ∧
 Q [.int .i64 (n:Int)] (mem_ftL3_m0 l n)) (bc (decide ((gtY l (n:Int).toNat).2.2≠(gtY l (0)).2.2)) (Q [.int .i64 (n:Int)] (mem_ftL3_m0 l n)) (false=false ∧
 R (hd Tryd.f44 0) { env:=[(0,.int .i64 3),(1,.sl syS l),(5,.int .i64 (IntKind.i64.wrap ((n:Int)+(1:Int))))],blk:=[] }))))) (Q [.int .i64 (n:Int)] [])):=by kernel_rfl
def mem_ftL4_m0 (l:List SyT) (n:Nat):List (Nat × LB):=[(6,.var [.bool (gtY l (0)).1,.int .i64 (gtY l (0)).2.1,.int .u8 (gtY l (0)).2.2]),(7,.var [.bool (gtY l (n:Int).toNat).1,.int .i64 (gtY l (n:Int).toNat).2.1,.int .u8 (gtY l (n:Int).toNat).2.2])]
theorem vc_ftL4 (l:List SyT) (n:Nat) (Q:QT) (R:RT):sy tt G0 [] Tryd.f44.ntmps Tryd.f44.results.toList Q (fun it S=>R it (keepS [0,1,5] [] S)) 1000 (hd Tryd.f44 0) ⟨[(0,.int .i64 4),(1,.sl syS l),(5,.int .i64 (n:Nat))],[]⟩ =
  (bc (decide ((n:Int)<(l.length:Int))) ((0:Int)≤(0:Int) ∧
 (0:Int)<(l.length:Int) ∧
 (0:Int)≤(n:Int) ∧
 (n:Int)<(l.length:Int) ∧
 bc (gtY l (0)).1 (bc (bif true then (gtY l (n:Int).toNat).1 else false) (false=false ∧
 false=false ∧
 false=false ∧
 bc (bif true then (gtY l (n:Int).toNat).1 else false) (Q [.int .i64 (n:Int)] (mem_ftL4_m0 l n)) (R (hd Tryd.f44 0) { env:=[(0,.int .i64 4),(1,.sl syS l),(5,.int .i64 (IntKind.i64.wrap ((n:Int)+(1:Int))))],blk:=[] })) (false=false ∧
 false=false ∧
 false=false ∧
 false=false ∧
 bc (bif true then (gtY l (n:Int).toNat).1 else false) (Q [.int .i64 (n:Int)] (mem_ftL4_m0 l n)) (R (hd Tryd.f44 0) { env:=[(0,.int .i64 4),(1,.sl syS l),(5,.int .i64 (IntKind.i64.wrap ((n:Int)+(1:Int))))],blk:=[] }))) (false=false ∧
 false=false ∧
 false=false ∧
 false=false ∧
 false=false ∧
 bc (bif true then (gtY l (n:Int).toNat).1 else false) (Q [.int .i64 (n:Int)] (mem_ftL4_m0 l n)) (R (hd Tryd.f44 0) { env:=[(0,.int .i64 4),(1,.sl syS l),(5,.int .i64 (IntKind.i64.wrap ((n:Int)+(1:Int))))],blk:=[] }))) (Q [.int .i64 (n:Int)] [])):=by kernel_rfl
theorem vc_pr (k n:Int) (Q:QT) (R:RT):sy tt G0 [(54,.inl ctOpc)] Tryd.f45.ntmps Tryd.f45.results.toList Q R 1000 [.code (bodyOf Tryd.f45)] (entry [iI,iI] (k,n,())) =
  (ctOpc.pre ((k,(0:Int),n,(0:Int),[]),()) ∧
 Q [.int .i64 (cN k.toNat (k,(0:Int),n,(0:Int),[]))] []):=by kernel_rfl
end Go.Proofs.YticpkibnhakgbaaDoor
namespace Go.Proofs.YticpkibnhakgbaaDoor
open Go.Px Go.Ax
set_option maxRecDepth 100000
attribute [local irreducible] Go.Px.sy Go.Px.syE
def preFt (k:Int) (l:List SyT):Prop:=kOK k∧l.length≤65536∧∃ m:Int,m<16777216∧∀ s∈l,sOK m s=true
def ctFt:Ctr:=⟨[iI,.sl syS],fun x=>preFt x.1 x.2.1,fun x=>[.int .i64 (fitN x.1 x.2.1:Nat)],fun _=>[]⟩
abbrev FtQ (n:Nat):List SV→List (Nat × LB)→Prop:=fun rs _=>rs=[.int .i64 (n:Nat)]
theorem ft_loop (k:Int) (hk:kOK k) (l:List SyT) (hl:l.length≤65536):∀ (f n:Nat),l.length-n=f→n≤l.length →
  GD 44 Tryd.f44 (FtQ (fitR k l f n)) (hd Tryd.f44 0) ⟨[(0,.int .i64 k),(1,.sl syS l),(5,.int .i64 (n:Nat))],[]⟩:=by
 intro f
 induction f with
 | zero=>
  intro n hf hn
  rw[fitR]
  have e:¬ (n:Int)<(l.length:Int):=by omega
  rcases (show k=1∨k=2∨k=3∨k=4 by unfold kOK at hk;omega) with h | h | h | h
  ·subst h;refine sy_goK cx0 (vc_ftL1 l n _ _) ?_;rw[decide_eq_false e,bc_f]
  ·subst h;refine sy_goK cx0 (vc_ftL2 l n _ _) ?_;rw[decide_eq_false e,bc_f]
  ·subst h;refine sy_goK cx0 (vc_ftL3 l n _ _) ?_;rw[decide_eq_false e,bc_f]
  ·subst h;refine sy_goK cx0 (vc_ftL4 l n _ _) ?_;rw[decide_eq_false e,bc_f]
 | succ f ih=>
  intro n hf hn
  have nx:=ih (n+1) (by omega) (by omega)
  have hlt:n<l.length:=by omega
  have w:IntKind.i64.wrap ((n:Int)+1)=((n+1:Nat):Int):=by rw[IntWalk.i64_in _ (by omega)];omega
  have stop:fokB k (gtY l 0) (gtY l n) n=false→[SV.int .i64 (n:Nat)]=[SV.int .i64 ((fitR k l (f+1) n:Nat):Int)]:=fun h=>by rw[fitR,if_neg (by rw[h];simp)]
  have go:fokB k (gtY l 0) (gtY l n) n=true→fitR k l (f+1) n=fitR k l f (n+1):=fun h=>by rw[fitR,if_pos ⟨hlt,h⟩]
  have e:decide ((n:Int)<(l.length:Int))=true:=decide_eq_true (by omega)
  have nk:fokB k (gtY l 0) (gtY l n) n=true→GD 44 Tryd.f44 (FtQ (fitR k l (f+1) n)) (hd Tryd.f44 0) ⟨[(0,.int .i64 k),(1,.sl syS l),(5,.int .i64 ((n+1:Nat):Int))],[]⟩:=fun h=>by rw[go h];exact nx
  generalize fitR k l (f+1) n=q at *
  clear nx ih go
  rcases (show k=1∨k=2∨k=3∨k=4 by unfold kOK at hk;omega) with h | h | h | h
  ·subst h
   refine sy_goK cx0 (vc_ftL1 l n _ _) ?_
   rw[e,bc_t,Int.toNat_natCast,w]
   generalize gtY l n=t at *
   generalize gtY l 0=s at *
   refine ⟨by omega,by omega,by omega,by omega,?_⟩
   repeat' first
    | exact stop (by simp_all [fokB])
    | exact (nk (by simp_all [fokB])).only ⟨rfl,rfl,rfl,trivial⟩ trivial
    | refine ⟨rfl,?_⟩
    | refine bc_of (fun h=>?_) (fun h=>?_)
  ·subst h
   refine sy_goK cx0 (vc_ftL2 l n _ _) ?_
   rw[e,bc_t,Int.toNat_natCast,w]
   generalize gtY l n=t at *
   generalize gtY l 0=s at *
   refine ⟨by omega,by omega,by omega,by omega,?_⟩
   repeat' first
    | exact stop (by simp_all [fokB])
    | exact (nk (by simp_all [fokB])).only ⟨rfl,rfl,rfl,trivial⟩ trivial
    | refine ⟨rfl,?_⟩
    | refine bc_of (fun h=>?_) (fun h=>?_)
  ·subst h
   refine sy_goK cx0 (vc_ftL3 l n _ _) ?_
   rw[e,bc_t,Int.toNat_natCast,w]
   generalize gtY l n=t at *
   generalize gtY l 0=s at *
   refine ⟨by omega,by omega,by omega,by omega,?_⟩
   repeat' first
    | exact stop (by simp_all [fokB])
    | exact (nk (by simp_all [fokB])).only ⟨rfl,rfl,rfl,trivial⟩ trivial
    | refine ⟨rfl,?_⟩
    | refine bc_of (fun h=>?_) (fun h=>?_)
  ·subst h
   refine sy_goK cx0 (vc_ftL4 l n _ _) ?_
   rw[e,bc_t,Int.toNat_natCast,w]
   generalize gtY l n=t at *
   generalize gtY l 0=s at *
   refine ⟨by omega,by omega,by omega,by omega,?_⟩
   repeat' first
    | exact stop (by simp_all [fokB])
    | exact (nk (by simp_all [fokB])).only ⟨rfl,rfl,rfl,trivial⟩ trivial
    | refine ⟨rfl,?_⟩
    | refine bc_of (fun h=>?_) (fun h=>?_)
theorem ft_run (k:Int) (l:List SyT) (hp:preFt k l):GD 44 Tryd.f44 (QC ctFt (k,l,())) [.code (bodyOf Tryd.f44)] (entry [iI,.sl syS] (k,l,())):=by
 obtain ⟨hk,hl,m,hm,hr⟩:=hp
 have h:=ft_loop k hk l hl l.length 0 (by omega) (Nat.zero_le _)
 rw[fitR_eq hm hk hr hl l.length 0 (by omega) (Nat.zero_le _)] at h
 exact sy_goK cx0 (vc_ft k l _ _) ((h.post fun rs blk hq=>QC.flat (by rw[hq];rfl) rfl (by rw[hq];rfl)).only ⟨rfl,rfl,rfl,trivial⟩ trivial)
theorem ft_held:Held Tryd.prog G0 44 ctFt:=Held.of cx0 (fn:=Tryd.f44) rfl rfl ⟨by decide,by decide⟩ fun ⟨k,l,_⟩ hp=>ft_run k l hp
def preKN (k n:Int):Prop:=kOK k∧0≤n∧n≤65536
def ctPr:Ctr:=⟨[iI,iI],fun x=>preKN x.1 x.2.1,fun x=>[.int .i64 (hdC x.1+eaC x.1*x.2.1)],fun _=>[]⟩
theorem pr_val {k n:Int} (h:preKN k n):cN k.toNat ((k,0,n,0,[]):OpT)=hdC k+eaC k*n:=by
 obtain ⟨hk,h0,h1⟩:=h
 rcases (show k=1∨k=2∨k=3∨k=4 by unfold kOK at hk;omega) with e | e | e | e
 ·subst e;show (4:Int)=hdC 1+eaC 1*_;simp[hdC,eaC]
 ·subst e
  show IntKind.i64.wrap (4+n)=_
  rw[IntWalk.i64_in _ (by omega)]
  simp[hdC,eaC]
 ·subst e;show (4:Int)=hdC 3+eaC 3*_;simp[hdC,eaC]
 ·subst e
  show IntKind.i64.wrap (2+n)=_
  rw[IntWalk.i64_in _ (by omega)]
  simp[hdC,eaC]
theorem pr_run (k n:Int) (h:preKN k n) (R:List Item→PS→Prop):sy tt G0 [(54,.inl ctOpc)] Tryd.f45.ntmps Tryd.f45.results.toList (QC ctPr (k,n,())) R 1000 [.code (bodyOf Tryd.f45)] (entry [iI,iI] (k,n,())):=by
 refine (vc_pr k n _ _).mpr ⟨trivial,?_⟩
 rw[pr_val h]
 exact QC.flat rfl rfl rfl
theorem pr_held:Held Tryd.prog G0 45 ctPr:=Held.run cxOpc (fn:=Tryd.f45) rfl rfl ⟨by decide,by decide⟩ fun ⟨k,n,_⟩ hp=>pr_run k n hp _
end Go.Proofs.YticpkibnhakgbaaDoor
namespace Go.Proofs.YticpkibnhakgbaaDoor
open Go.Px Go.Ax
set_option maxRecDepth 100000
set_option maxRecDepth 100000
end Go.Proofs.YticpkibnhakgbaaDoor
namespace Go.Proofs.YticpkibnhakgbaaDoor
open Go.Px Go.Ax
set_option maxRecDepth 100000
attribute [local irreducible] Go.Px.sy Go.Px.syE
section
variable (a b:Int) (l:List SyT) (hl:l.length<16777216)
include hl
end
end Go.Proofs.YticpkibnhakgbaaDoor
namespace Go.Proofs.YticpkibnhakgbaaDoor
open Go.Px Go.Ax
set_option maxRecDepth 100000
set_option maxRecDepth 100000
end Go.Proofs.YticpkibnhakgbaaDoor
namespace Go.Proofs.YticpkibnhakgbaaDoor
open Go.Px Go.Ax
set_option maxRecDepth 100000
attribute [local irreducible] Go.Px.sy Go.Px.syE
def preLi (l:List SyT):Prop:=l.length≤65536∧∃ m:Int,m<16777216∧∀ s∈l,sOK m s=true
section
variable (l:List SyT) (hp:preLi l)
include hp
end
end Go.Proofs.YticpkibnhakgbaaDoor
namespace Go.Proofs.YticpkibnhakgbaaDoor
open Go.Px Go.Ax
set_option maxRecDepth 100000
def preSb (x:OpT) (i:Int):Prop:=k14 x∧0≤i∧(x.1=2∨x.1=4→i<(x.2.2.2.2.length:Int))
def syV (s:SyT):SV:=.agg [.bool s.1,.int .i64 s.2.1,.int .u8 s.2.2]
def ctSb:Ctr:=⟨[opS,iI],fun x=>preSb x.1 x.2.1,fun x=>[syV (elO x.1.1.toNat x.1 (Int.toNat x.2.1))],fun _=>[]⟩
def CSm:CV:=[(42,.inl ctRi),(43,.inl ctSb)]
set_option maxRecDepth 100000
theorem vc_sb (x:OpT) (i:Int) (Q:QT) (R:RT):sy tt G0 [] Tryd.f43.ntmps Tryd.f43.results.toList Q R 1000 [.code (bodyOf Tryd.f43)] (entry [opS,iI] (x,i,())) =
  (bc (decide (x.1=(1:Int))) (Q [.agg [.bool true,.int .i64 (IntKind.i64.wrap (x.2.1+i)),.int .u8 0]] [(2,.var [.int .i64 x.1,.int .i64 x.2.1,.int .i64 x.2.2.1,.int .u8 x.2.2.2.1,.sl uB x.2.2.2.2]),(4,.var [.bool true,.int .i64 (IntKind.i64.wrap (x.2.1+i)),.int .u8 0])]) (bc (decide (x.1=(2:Int))) ((0:Int)≤i ∧
 i<(↑(List.length x.2.2.2.2):Int) ∧
 Q [.agg [.bool true,.int .i64 (IntKind.i64.wrap (x.2.1+i)),.int .u8 (gtB x.2.2.2.2 i.toNat)]] [(2,.var [.int .i64 x.1,.int .i64 x.2.1,.int .i64 x.2.2.1,.int .u8 x.2.2.2.1,.sl uB x.2.2.2.2]),(4,.var [.bool true,.int .i64 (IntKind.i64.wrap (x.2.1+i)),.int .u8 (gtB x.2.2.2.2 i.toNat)])]) (bc (decide (x.1=(3:Int))) (Q [.agg [.bool false,.int .i64 0,.int .u8 x.2.2.2.1]] [(2,.var [.int .i64 x.1,.int .i64 x.2.1,.int .i64 x.2.2.1,.int .u8 x.2.2.2.1,.sl uB x.2.2.2.2]),(4,.var [.bool false,.int .i64 0,.int .u8 x.2.2.2.1])]) ((0:Int)≤i ∧
 i<(↑(List.length x.2.2.2.2):Int) ∧
 Q [.agg [.bool false,.int .i64 0,.int .u8 (gtB x.2.2.2.2 i.toNat)]] [(2,.var [.int .i64 x.1,.int .i64 x.2.1,.int .i64 x.2.2.1,.int .u8 x.2.2.2.1,.sl uB x.2.2.2.2]),(4,.var [.bool false,.int .i64 0,.int .u8 (gtB x.2.2.2.2 i.toNat)])])))):=by kernel_rfl
theorem vc_rs (li:Bool) (m o:Int) (l:List OpT) (Q:QT) (R:RT):sy tt G0 CSm Tryd.f25.ntmps Tryd.f25.results.toList Q (fun it S=>R it (keepS [1,4,5,6] [1,10,37] S)) 1000 [.code (bodyOf Tryd.f25)] (entry [paS] ((li,m,o,l),())) =
  (ctRi.pre ((li,m,o,l),()) ∧
 bc (!decide ((chkV (li,m,o,l)).2=(0:Int))) (Q [.nils,.int .i64 60] [(1,.var [.bool li,.int .i64 m,.int .i64 o,.sl opS l])]) (R (hd Tryd.f25 0) { env:=[(1,.ptr 1 0),(4,.win true syS 10 0 (0:Nat)),(5,.int .i64 0)],blk:=[(1,.var [.bool li,.int .i64 m,.int .i64 o,.sl opS l]),(10,.row 66 syS (List.replicate (0:Nat) syS.dflt))] })):=by kernel_rfl
theorem vc_rsO (li:Bool) (m o:Int) (l:List OpT) (s:List SyT) (i:Nat) (Q:QT) (R:RT):sy tt G0 CSm Tryd.f25.ntmps Tryd.f25.results.toList Q (fun it S=>R it (keepS [1,4,5,6] [1,10,37] S)) 1000 (hd Tryd.f25 0) ⟨[(1,.ptr 1 0),(4,.win true syS 10 0 s.length),(5,.int .i64 (i:Nat))],[(1,.var [.bool li,.int .i64 m,.int .i64 o,.sl opS l]),(10,.row 66 syS s)]⟩ =
  (bc (decide ((i:Int)<(l.length:Int))) (R (hd Tryd.f25 1) { env:=[(1,.ptr 1 0),(4,.win true syS 10 0 s.length),(5,.int .i64 (i:Int)),(6,.int .i64 0)],blk:=[(1,.var [.bool li,.int .i64 m,.int .i64 o,.sl opS l]),(10,.row 66 syS s)] }) (Q [.win true syS 10 0 s.length,.int .i64 0] [(1,.var [.bool li,.int .i64 m,.int .i64 o,.sl opS l]),(10,.row 66 syS s)])):=by kernel_rfl
theorem vc_rsI (li:Bool) (m o:Int) (l:List OpT) (s:List SyT) (i k:Nat) (Q:QT) (R:RT):sy tt G0 CSm Tryd.f25.ntmps Tryd.f25.results.toList Q (fun it S=>R it (keepS [1,4,5,6] [1,10,37] S)) 1000 (hd Tryd.f25 1) ⟨[(1,.ptr 1 0),(4,.win true syS 10 0 s.length),(5,.int .i64 (i:Nat)),(6,.int .i64 (k:Nat))],[(1,.var [.bool li,.int .i64 m,.int .i64 o,.sl opS l]),(10,.row 66 syS s)]⟩ =
  ((0:Int)≤(i:Int) ∧
 (i:Int)<(l.length:Int) ∧
 bc (decide ((k:Int)<(gtO l (i:Int).toNat).2.2.1)) ((0:Int)≤(i:Int) ∧
 (i:Int)<(l.length:Int) ∧
 ctSb.pre ((gtO l (i:Int).toNat),(k:Int),()) ∧
 0+(1:Nat)≤([(elO (Int.toNat (gtO l (i:Int).toNat).1) (gtO l (i:Int).toNat) (k:Int).toNat)]:List syS.D).length ∧
 s.length=s.length ∧
 (0:Nat)=(0:Nat) ∧
 s.length+(([(elO (Int.toNat (gtO l (i:Int).toNat).1) (gtO l (i:Int).toNat) (k:Int).toNat)]:List syS.D)).length<(2:Nat) ^ (30:Nat) ∧
 (24:Nat)≤(2:Nat) ^ (10:Nat) ∧
 R (hd Tryd.f25 1) { env:=[(1,.ptr 1 0),(4,.win true syS 37 0 (s.length+(([(elO (Int.toNat (gtO l (i:Int).toNat).1) (gtO l (i:Int).toNat) (k:Int).toNat)]:List syS.D)).length)),(5,.int .i64 (i:Int)),(6,.int .i64 (IntKind.i64.wrap ((k:Int)+(1:Int))))],blk:=[(1,.var [.bool li,.int .i64 m,.int .i64 o,.sl opS l]),(37,.row 66 syS (s++([(elO (Int.toNat (gtO l (i:Int).toNat).1) (gtO l (i:Int).toNat) (k:Int).toNat)]:List syS.D)))] }) (R (hd Tryd.f25 0) { env:=[(1,.ptr 1 0),(4,.win true syS 10 0 s.length),(5,.int .i64 (IntKind.i64.wrap ((i:Int)+(1:Int)))),(6,.int .i64 (k:Int))],blk:=[(1,.var [.bool li,.int .i64 m,.int .i64 o,.sl opS l]),(10,.row 66 syS s)] })):=by kernel_rfl
end Go.Proofs.YticpkibnhakgbaaDoor
namespace Go.Proofs.YticpkibnhakgbaaDoor
open Go.Px Go.Ax
set_option maxRecDepth 100000
attribute [local irreducible] Go.Px.sy Go.Px.syE
theorem sb_run (k f n b i:Int) (d:List Int) (hp:preSb (k,f,n,b,d) i) (R:List Item→PS→Prop):sy tt G0 [] Tryd.f43.ntmps Tryd.f43.results.toList (QC ctSb ((k,f,n,b,d),i,())) R 1000 [.code (bodyOf Tryd.f43)] (entry [opS,iI] ((k,f,n,b,d),i,())):=by
 obtain ⟨hk,h0,hd⟩:=hp
 have out:∀ s,elO k.toNat ((k,f,n,b,d):OpT) i.toNat=s→ctSb.out ((k,f,n,b,d),i,())=[syV s]:=fun s e=>congrArg (fun s=>[syV s]) e
 have hi:((i.toNat:Nat):Int)=i:=by omega
 refine (vc_sb (k,f,n,b,d) i _ _).mpr ?_
 rcases hk with e | e | e | e
 ·have e:k=1:=e
  subst e
  refine QC.flat (out (true,IntKind.i64.wrap (f+i),0) ?_) rfl rfl
  show ((true,IntKind.i64.wrap (f+(i.toNat:Int)),0):SyT)=_
  rw[hi]
 ·have e:k=2:=e
  subst e
  have hd2:i<(d.length:Int):=hd (.inl rfl)
  refine ⟨h0,hd2,QC.flat (out (true,IntKind.i64.wrap (f+i),gtB d i.toNat) ?_) rfl rfl⟩
  show ((true,IntKind.i64.wrap (f+(i.toNat:Int)),gtB d i.toNat):SyT)=_
  rw[hi]
 ·have e:k=3:=e
  subst e
  exact QC.flat (out _ rfl) rfl rfl
 ·have e:k=4:=e
  subst e
  have hd2:i<(d.length:Int):=hd (.inr rfl)
  exact ⟨h0,hd2,QC.flat (out _ rfl) rfl rfl⟩
theorem sb_held:Held Tryd.prog G0 43 ctSb:=Held.run cx0 (fn:=Tryd.f43) rfl rfl ⟨by decide,by decide⟩ fun ⟨⟨k,f,n,b,d⟩,i,_⟩ hp=>sb_run k f n b i d hp _
theorem cxSm2:CxOK Tryd.prog tt G0 CSm:=(cx0.cons sb_held (fn:=Tryd.f43) rfl rfl rfl).cons right_held (fn:=Tryd.f42) rfl rfl rfl
section
variable (li:Bool) (m o:Int) (l:List OpT) (hc:(chkV (li,m,o,l)).2=0)
abbrev RsQ:List SV→List (Nat × LB)→Prop:=QC ctSym ((li,m,o,l),())
include hc
theorem rs_inner (i:Nat) (hi:i<l.length) (nx:GD 25 Tryd.f25 (RsQ li m o l) (hd Tryd.f25 0) ⟨[(1,.ptr 1 0),(4,.win true syS 10 0 (symF (l.take (i+1))).length),(5,.int .i64 ((i+1:Nat):Int))],[(1,.var [.bool li,.int .i64 m,.int .i64 o,.sl opS l]),(10,.row 66 syS (symF (l.take (i+1))))]⟩) :
  ∀ (c k:Nat),l[i].2.2.1.toNat-k=c→k≤l[i].2.2.1.toNat →
  GD 25 Tryd.f25 (RsQ li m o l) (hd Tryd.f25 1) ⟨[(1,.ptr 1 0),(4,.win true syS 10 0 (symF (l.take i)++(symsO l[i].1.toNat l[i]).take k).length),(5,.int .i64 (i:Nat)),(6,.int .i64 (k:Nat))],[(1,.var [.bool li,.int .i64 m,.int .i64 o,.sl opS l]),(10,.row 66 syS (symF (l.take i)++(symsO l[i].1.toNat l[i]).take k))]⟩:=by
 obtain ⟨hr,hs,ho,hl⟩:=chkV_ok hc
 have hl:l.length≤4096:=hl
 have hx:=hr _ (List.getElem_mem hi)
 have hlx:=isRB_len hx
 obtain ⟨k4,hcn⟩:=isRB_kind hx
 have sl:(symsO l[i].1.toNat l[i]).length=cntO l[i].1.toNat l[i]:=gen_len ..
 have hsf:(symF (l.take i)).length≤65536:=by
  have h1:=symF_len (m:=m) (l:=l.take i) fun y hy=>hr y (List.mem_of_mem_take hy)
  have h2:lenS l=lenS (l.take i)+lenS (l.drop i):=by rw[← lenS_app,List.take_append_drop]
  have h3:=lenS_pos (m:=m) (l:=l.drop i) fun y hy=>hr y (List.mem_of_mem_drop hy)
  have ho2:o≤65536:=ho.2
  have hs2:lenS l=o:=hs
  omega
 have ht:symF (l.take (i+1))=symF (l.take i)++symsO l[i].1.toNat l[i]:=by
  rw[List.take_succ_eq_append_getElem hi,symF_app]
  simp[symF]
 intro c
 induction c with
 | zero=>
  intro k hk hk2
  have hk:k=l[i].2.2.1.toNat:=by omega
  have e:(symsO l[i].1.toNat l[i]).take k=symsO l[i].1.toNat l[i]:=List.take_of_length_le (by omega)
  rw[e,← ht]
  refine sy_goK cxSm2 (vc_rsI li m o l (symF (l.take (i+1))) i k _ _) ?_
  rw[Int.toNat_natCast,gtO_at hi,decide_eq_false (by omega),bc_f,IntWalk.i64_in ((i:Int)+1) (by omega)]
  exact ⟨by omega,by omega,nx.only ⟨rfl,rfl,rfl,trivial⟩ ⟨rfl,rfl,trivial⟩⟩
 | succ c ih=>
  intro k hk hk2
  have hk3:k<cntO l[i].1.toNat l[i]:=by omega
  have nk:=ih (k+1) (by omega) (by omega)
  have e:(symsO l[i].1.toNat l[i]).take (k+1)=(symsO l[i].1.toNat l[i]).take k++[elO l[i].1.toNat l[i] k]:=by
   rw[List.take_succ_eq_append_getElem (by omega)]
   congr 2
   have:=gen_get (elO l[i].1.toNat l[i]) (cntO l[i].1.toNat l[i]) 0 k hk3
   rw[Nat.zero_add] at this
   have h2:(symsO l[i].1.toNat l[i])[k]?=some (elO l[i].1.toNat l[i] k):=this
   rw[List.getElem?_eq_getElem (by omega)] at h2
   exact Option.some.inj h2
  rw[e,← List.append_assoc] at nk
  have tl:((symsO l[i].1.toNat l[i]).take k).length≤65536:=by rw[List.length_take];omega
  have pre:preSb l[i] (k:Int):=⟨k4,by omega,fun h=>by
   have:cntO l[i].1.toNat l[i]=l[i].2.2.2.2.length:=by rcases h with h | h <;> (rw[h];rfl)
   omega⟩
  generalize hss:symF (l.take i)++(symsO l[i].1.toNat l[i]).take k=ss at *
  have hsl:ss.length≤131072:=by rw[← hss,List.length_append];omega
  refine sy_goK cxSm2 (vc_rsI li m o l ss i k _ _) ?_
  rw[Int.toNat_natCast,gtO_at hi,decide_eq_true (show (k:Int)<l[i].2.2.1 by omega),bc_t,IntWalk.i64_in ((k:Int)+1) (by omega),Int.toNat_natCast]
  refine ⟨by omega,by omega,by omega,by omega,pre,Nat.le_refl 1,rfl,rfl,?_,by decide,?_⟩
  ·show ss.length+1<2 ^ 30
   show ss.length+1<1073741824
   omega
  ·exact nk.onlyR [(10,37)] rfl ⟨rfl,by rw[List.length_append];rfl,rfl,rfl,trivial⟩ ⟨rfl,rfl,trivial⟩
theorem rs_outer:∀ (c i:Nat),l.length-i=c→i≤l.length →
  GD 25 Tryd.f25 (RsQ li m o l) (hd Tryd.f25 0) ⟨[(1,.ptr 1 0),(4,.win true syS 10 0 (symF (l.take i)).length),(5,.int .i64 (i:Nat))],[(1,.var [.bool li,.int .i64 m,.int .i64 o,.sl opS l]),(10,.row 66 syS (symF (l.take i)))]⟩:=by
 have hv:symV (li,m,o,l)=(symF l,0):=by unfold symV;rw[if_pos hc]
 intro c
 induction c with
 | zero=>
  intro i hc2 hi
  refine sy_goK cxSm2 (vc_rsO li m o l (symF (l.take i)) i _ _) ?_
  rw[decide_eq_false (by omega),bc_f,List.take_of_length_le (by omega)]
  refine qc_rowI (e:=syS) (et:=66) (a:=10) (z:=0) (xs:=symF l) ?_ ?_ rfl rfl rfl
  ·show [SV.win true syS 0 0 (symV (li,m,o,l)).1.length,.int .i64 (symV (li,m,o,l)).2]=_
   rw[hv]
  ·show [LB.row 66 syS (symV (li,m,o,l)).1]=_
   rw[hv]
 | succ c ih=>
  intro i hc2 hi
  have hil:i<l.length:=by omega
  refine sy_goK cxSm2 (vc_rsO li m o l (symF (l.take i)) i _ _) ?_
  rw[decide_eq_true (show (i:Int)<(l.length:Int) by omega),bc_t]
  have h:=rs_inner li m o l hc i hil (ih (i+1) (by omega) (by omega)) _ 0 rfl (Nat.zero_le _)
  rw[List.take_zero,List.append_nil] at h
  exact h.only ⟨rfl,rfl,rfl,rfl,trivial⟩ ⟨rfl,rfl,trivial⟩
end
theorem rs_held:Held Tryd.prog G0 25 ctSym:=Held.of cxSm2 (fn:=Tryd.f25) rfl rfl ⟨by decide,by decide⟩ fun ⟨⟨li,m,o,l⟩,_⟩ _=>by
 refine sy_goK cxSm2 (vc_rs li m o l _ _) ⟨trivial,bc_of (fun h=>?_) (fun h=>?_)⟩
 ·have h:¬ (chkV (li,m,o,l)).2=0:=by
   have h:(!decide ((chkV (li,m,o,l)).2=0))=true:=h
   simpa using h
  have h6:(chkV (li,m,o,l)).2=60:=by rcases chkV60 (li,m,o,l) with q | q;exact absurd q h;exact q
  have hv:symV (li,m,o,l)=([],60):=by unfold symV;rw[if_neg h,h6]
  refine qc_nilI (e:=syS) (et:=66) (z:=60) ?_ ?_ rfl (by decide)
  ·show [SV.win true syS 0 0 (symV (li,m,o,l)).1.length,.int .i64 (symV (li,m,o,l)).2]=_
   rw[hv];rfl
  ·show [LB.row 66 syS (symV (li,m,o,l)).1]=_
   rw[hv]
 ·have h:(chkV (li,m,o,l)).2=0:=by
   have h:(!decide ((chkV (li,m,o,l)).2=0))=false:=h
   simpa using h
  exact (rs_outer li m o l h _ 0 rfl (Nat.zero_le _)).only ⟨rfl,rfl,rfl,trivial⟩ ⟨rfl,rfl,trivial⟩
end Go.Proofs.YticpkibnhakgbaaDoor
namespace Go.Proofs.YticpkibnhakgbaaDoor
open Go.Px Go.Ax
set_option maxRecDepth 100000
set_option maxRecDepth 100000
end Go.Proofs.YticpkibnhakgbaaDoor
namespace Go.Proofs.YticpkibnhakgbaaDoor
open Go.Px Go.Ax
set_option maxRecDepth 100000
attribute [local irreducible] Go.Px.sy Go.Px.syE
theorem elO_sOK {x:OpT} {m:Int} (h:isRB x m=true) (h0:0≤m) (hm:m<16777216) {k:Nat} (hk:(k:Int)<x.2.2.1):sOK m (elO x.1.toNat x k)=true:=by
 have pp:=isRB_part h ⟨h0,hm⟩
 rcases (isRB_kind h).1 with e | e | e | e
 ·rw[e]
  have pp:=pp (.inl e)
  show sOK m (true,IntKind.i64.wrap (x.2.1+(k:Int)),0)=true
  rw[IntWalk.i64_in _ (by omega)]
  simp[sOK];omega
 ·rw[e]
  have pp:=pp (.inr e)
  show sOK m (true,IntKind.i64.wrap (x.2.1+(k:Int)),gtB x.2.2.2.2 k)=true
  rw[IntWalk.i64_in _ (by omega)]
  simp[sOK];omega
 ·rw[e];rfl
 ·rw[e];rfl
theorem sym_sOK {m:Int} (h0:0≤m) (hm:m<16777216) {l:List OpT} (hr:∀ x∈l,isRB x m=true):∀ s∈symF l,sOK m s=true:=fun s hs=>by
 obtain ⟨x,hx,k,hk,e⟩:=sym_mem hr s hs
 rw[e]
 exact elO_sOK (hr x hx) h0 hm hk
theorem chkV_in {p:PaT} (h:(chkV p).2=0):0≤p.2.1∧p.2.1≤65536:=by
 unfold chkV at h
 split at h
 ·rename_i q;exact szB_le q.1
 ·cases h
theorem symV_ok {p:PaT} (h:(symV p).2=0):(chkV p).2=0∧(symV p).1=symF p.2.2.2:=by
 unfold symV at h ⊢
 split at h
 ·rename_i q;rw[if_pos q];exact ⟨q,rfl⟩
 ·rename_i q;exact absurd h q
theorem symV_right {p:PaT} (h:(symV p).2=0):(∀ s∈(symV p).1,sOK p.2.1 s=true)∧(0≤p.2.1∧p.2.1≤65536)∧((symV p).1.length:Int)=p.2.2.1:=by
 obtain ⟨h1,h2⟩:=symV_ok h
 obtain ⟨hr,hs,ho,hl⟩:=chkV_ok h1
 have hi:=chkV_in h1
 rw[h2]
 exact ⟨sym_sOK hi.1 (by omega) hr,hi,by rw[symF_len hr,hs]⟩
end Go.Proofs.YticpkibnhakgbaaDoor
namespace Go.Proofs.YticpkibnhakgbaaDoor
open Go.Px Go.Ax
set_option maxRecDepth 100000
def thE (a:List SyT) (s:SyT):SyT:=if s.1=true then ((gtY a s.2.1.toNat).1,(gtY a s.2.1.toNat).2.1,IntKind.u8.wrap ((gtY a s.2.1.toNat).2.2+s.2.2)) else (false,0,s.2.2)
def thOK (n:Nat) (s:SyT):Bool := !s.1 || (decide (0≤s.2.1)&&decide (s.2.1<n))
def thL (a b:List SyT):List SyT:=b.map (thE a)
def thV (a b:List SyT):List SyT × Int:=if b.all (thOK a.length)=true then (thL a b,0) else ([],61)
abbrev zP:PaT:=(false,0,0,[])
def coV (p q:PaT):PaT × Int:=
 if (symV p).2≠0 then (zP,(symV p).2) else if (symV q).2≠0 then (zP,(symV q).2) else
 if p.1≠q.1 then (zP,62) else if p.2.2.1≠q.2.1 then (zP,61) else
 if (cpV (thL (symV p).1 (symV q).1) p.2.1).2≠0 then (zP,(cpV (thL (symV p).1 (symV q).1) p.2.1).2) else ((p.1,(cpV (thL (symV p).1 (symV q).1) p.2.1).1.2),0)
def alF:PaT × Int→List PaT→PaT × Int
 | r,[]=>r
 | r,q::l=>if (coV r.1 q).2≠0 then coV r.1 q else alF (coV r.1 q) l
def allV:List PaT→PaT × Int
 | []=>(zP,1)
 | p::l=>if (foV p).2≠0 then (zP,(foV p).2) else alF (foV p) l
def byL (s:List SyT):Prop:=∀ x∈s,0≤x.2.2∧x.2.2<256
theorem thL_len (a b:List SyT):(thL a b).length=b.length:=by simp[thL]
theorem gtY_mem {a:List SyT} {i:Nat} (h:i<a.length):gtY a i∈a:=by
 rw[gtY_at h];exact List.getElem_mem h
theorem sOK_th {n:Nat} {s:SyT} (h:sOK n s=true):thOK n s=true:=by
 unfold sOK at h;unfold thOK
 split at h
 ·rw[h];simp
 ·rename_i q;simp[q]
theorem thOK_lt {n:Nat} {s:SyT} (h:thOK n s=true) (hs:s.1=true):0≤s.2.1∧s.2.1.toNat<n:=by
 unfold thOK at h
 rw[hs] at h
 simp only[Bool.not_true,Bool.false_or,Bool.and_eq_true,decide_eq_true_eq] at h
 omega
theorem thE_sOK {a:List SyT} {m:Int} {s:SyT} (ha:∀ x∈a,sOK m x=true) (hs:sOK a.length s=true):sOK m (thE a s)=true:=by
 unfold thE
 split
 ·rename_i h
  have h1:=thOK_lt (sOK_th hs) h
  have h2:=ha _ (gtY_mem h1.2)
  unfold sOK at h2 ⊢
  exact h2
 ·simp[sOK]
theorem thL_sOK {a b:List SyT} {m:Int} (ha:∀ x∈a,sOK m x=true) (hb:∀ x∈b,sOK a.length x=true):∀ x∈thL a b,sOK m x=true:=fun x hx=>by
 obtain ⟨s,hs,e⟩:=List.mem_map.1 hx
 rw[← e];exact thE_sOK ha (hb s hs)
theorem thV_ok {a b:List SyT} (hb:∀ x∈b,sOK a.length x=true):thV a b=(thL a b,0):=by
 unfold thV
 rw[if_pos (List.all_eq_true.2 fun x hx=>sOK_th (hb x hx))]
abbrev nfP (li:Bool) (m:Int) (s:List SyT):PaT:=(li,m,(s.length:Int),chL s)
theorem nf_ok {s:List SyT} {m:Int} (li:Bool) (hr:∀ x∈s,sOK m x=true) (h0:0≤m) (h1:m≤65536) (hl:s.length≤4096):(chkV (nfP li m s)).2=0∧symF (chL s)=s∧symV (nfP li m s)=(s,0):=by
 obtain ⟨q1,q2,q3,q4,q5,q6⟩:=poV_ok hr h0 h1 hl
 have q6:(chkV (nfP li m s)).2=0:=q6
 refine ⟨q6,q2,?_⟩
 unfold symV
 rw[if_pos q6]
 exact Prod.ext q2 rfl
theorem sy_ok {p:PaT} (h:(chkV p).2=0):symV p=(symF p.2.2.2,0):=by unfold symV;rw[if_pos h]
theorem fo_nf {p:PaT} (h:(chkV p).2=0) (hs:p.2.2.1≤4096):foV p=(nfP p.1 p.2.1 (symF p.2.2.2),0):=by
 obtain ⟨h1,h2,h3⟩:=symV_right (p:=p) (by rw[sy_ok h])
 rw[sy_ok h] at h1 h3
 have h1:∀ s∈symF p.2.2.2,sOK p.2.1 s=true:=h1
 have h3:((symF p.2.2.2).length:Int)=p.2.2.1:=h3
 obtain ⟨q1,_⟩:=poV_ok h1 h2.1 h2.2 (by omega)
 unfold foV
 rw[sy_ok h]
 simp only[q1]
 rfl
theorem co_nf {p q:PaT} (hp:(chkV p).2=0) (hq:(chkV q).2=0) (hl:p.1=q.1) (ho:p.2.2.1=q.2.1) (hs:q.2.2.1≤4096) :
  coV p q=(nfP p.1 p.2.1 (thL (symF p.2.2.2) (symF q.2.2.2)),0):=by
 obtain ⟨a1,a2,a3⟩:=symV_right (p:=p) (by rw[sy_ok hp])
 obtain ⟨b1,b2,b3⟩:=symV_right (p:=q) (by rw[sy_ok hq])
 rw[sy_ok hp] at a1 a3
 rw[sy_ok hq] at b1 b3
 have a3:((symF p.2.2.2).length:Int)=p.2.2.1:=a3
 have b3:((symF q.2.2.2).length:Int)=q.2.2.1:=b3
 have c1:=cpV_ok (m:=p.2.1) (thL_sOK a1 (b:=symF q.2.2.2) (fun x hx=>by rw[a3,ho];exact b1 x hx)) a2.1 a2.2 (by rw[thL_len];omega)
 unfold coV
 rw[sy_ok hp,sy_ok hq]
 rw[if_neg (by simp),if_neg (by simp),if_neg (by simpa using hl),if_neg (by simpa using ho)]
 simp only[c1]
 rfl
def syC:List SyT→List PaT→List SyT
 | s,[]=>s
 | s,q::l=>syC (thL s (symF q.2.2.2)) l
def chn (li:Bool):Int→List PaT→Prop
 | _,[]=>True
 | o,q::l=>(chkV q).2=0∧q.1=li∧o=q.2.1∧q.2.2.1≤4096∧chn li q.2.2.1 l
theorem sy_right {q:PaT} (h:(chkV q).2=0):(∀ s∈symF q.2.2.2,sOK q.2.1 s=true)∧(0≤q.2.1∧q.2.1≤65536)∧((symF q.2.2.2).length:Int)=q.2.2.1:=by
 have:=symV_right (p:=q) (by rw[sy_ok h])
 rw[sy_ok h] at this
 exact this
theorem syC_ok {m:Int} {li:Bool}:∀ {l:List PaT} {s:List SyT},(∀ x∈s,sOK m x=true)→s.length≤4096→chn li s.length l→(∀ x∈syC s l,sOK m x=true)∧(syC s l).length≤4096
 | [],s,h,h2,_=>⟨h,h2⟩
 | q::l,s,h,h2,hc=>by
  obtain ⟨c1,c2,c3,c4,c5⟩:=hc
  obtain ⟨r1,r2,r3⟩:=sy_right c1
  refine syC_ok (li:=li) (l:=l) (s:=thL s (symF q.2.2.2)) (thL_sOK h fun x hx=>by rw[c3];exact r1 x hx) (by rw[thL_len];omega) ?_
  rw[thL_len,r3];exact c5
theorem al_nf {m:Int} {li:Bool} (h0:0≤m) (h1:m≤65536):∀ {l:List PaT} {s:List SyT},(∀ x∈s,sOK m x=true)→s.length≤4096→chn li s.length l→alF (nfP li m s,0) l=(nfP li m (syC s l),0)
 | [],s,h,h2,_=>rfl
 | q::l,s,h,h2,hc=>by
  obtain ⟨c1,c2,c3,c4,c5⟩:=hc
  obtain ⟨r1,r2,r3⟩:=sy_right c1
  obtain ⟨n1,n2,n3⟩:=nf_ok li h h0 h1 h2
  have e:=co_nf n1 c1 (show li=q.1 from c2.symm) c3 c4
  rw[show symF (nfP li m s).2.2.2=s from n2] at e
  rw[alF,show (nfP li m s,(0:Int)).1=nfP li m s from rfl,e,if_neg (by simp)]
  refine al_nf h0 h1 (l:=l) (s:=thL s (symF q.2.2.2)) (thL_sOK h fun x hx=>by rw[c3];exact r1 x hx) (by rw[thL_len];omega) ?_
  rw[thL_len,r3];exact c5
theorem all_nf {p:PaT} {l:List PaT} (h:(chkV p).2=0) (hs:p.2.2.1≤4096) (hc:chn p.1 p.2.2.1 l):allV (p::l)=(nfP p.1 p.2.1 (syC (symF p.2.2.2) l),0):=by
 obtain ⟨r1,r2,r3⟩:=sy_right h
 rw[allV,fo_nf h hs,if_neg (by simp)]
 exact al_nf r2.1 r2.2 r1 (by omega) (by rw[r3];exact hc)
end Go.Proofs.YticpkibnhakgbaaDoor
namespace Go.Proofs.YticpkibnhakgbaaDoor
open Go.Px Go.Ax
set_option maxRecDepth 100000
theorem gtB_rg {d:List Int} (h:∀ v∈d,0≤v∧v<256) (k:Nat):0≤gtB d k∧gtB d k<256:=by
 by_cases hk:k<d.length
 ·rw[gtB_at hk];exact h _ (List.getElem_mem hk)
 ·have:gtB d k=0:=by
   show gt uB _ _=_
   unfold gt
   rw[List.getElem?_eq_none (by omega)];rfl
  rw[this];decide
theorem datO_rg (x:List Int) (k n:Int):∀ v∈datO x k n,0≤v∧v<256:=fun v hv=>by
 unfold datO at hv
 split at hv
 ·unfold datA at hv
  obtain ⟨j,_,e⟩:=List.mem_map.1 hv
  rw[← e]
  unfold elA
  generalize gtB x 3*_=t
  simp[IntKind.wrap,IntKind.bits,IntKind.signed];omega
 ·cases hv
theorem opV_rg {x:List Int} (hx:preB4 x) (m:Int):(0≤(opV x m).2.2.2.1∧(opV x m).2.2.2.1<256)∧∀ v∈(opV x m).2.2.2.2,0≤v∧v<256:=by
 unfold opV
 split
 ·split
  ·exact ⟨⟨Int.le_refl 0,(show (0:Int)<256 by decide)⟩,fun v hv=>datO_rg x 4 (1+(gtB x 2).tmod 5) v hv⟩
  ·exact ⟨⟨Int.le_refl 0,(show (0:Int)<256 by decide)⟩,fun v hv=>datO_rg x (1+(gtB x 0).tmod 4) (1+((gtB x 2).tmod (m-(gtB x 1).tmod m)).tmod 5) v hv⟩
 ·refine ⟨?_,fun v hv=>datO_rg x (1+(gtB x 0).tmod 4) (1+(gtB x 2).tmod 5) v hv⟩
  show 0≤(if 1+(gtB x 0).tmod 4=3 then gtB x 3 else 0)∧(if 1+(gtB x 0).tmod 4=3 then gtB x 3 else 0)<256
  split
  ·exact hx 3
  ·decide
theorem szO_by {l:List (List Int)} {m:Int} (hl:preL4 l) (h0:0≤m) (h1:m≤65536):byL (symF (szO l m)):=fun s hs=>by
 obtain ⟨x,hx,k,hk,e⟩:=sym_mem (szO_right hl h0 h1) s hs
 have hk4:=(isRB_kind (szO_right hl h0 h1 x hx)).1
 unfold szO szL at hx
 obtain ⟨j,_,ex⟩:=List.mem_map.1 hx
 have r:=opV_rg (hl j) m
 rw[ex] at r
 rw[e]
 have z:(0:Int)≤0∧(0:Int)<256:=by decide
 rcases hk4 with q | q | q | q <;> rw[q]
 ·exact z
 ·exact gtB_rg r.2 k
 ·exact r.1
 ·exact gtB_rg r.2 k
theorem szV_ok {l:List (List Int)} {m:Int} (hl:preL4 l) (h0:0≤m) (h1:m≤65536):(chkV (szV l m)).2=0∧(szV l m).2.2.1≤30∧(szV l m).2.2.2.length≤6∧byL (symF (szV l m).2.2.2):=by
 rw[szV_chk hl h0 h1]
 exact ⟨rfl,(szO_sum hl h0).2,szO_len l m,szO_by hl h0 h1⟩
end Go.Proofs.YticpkibnhakgbaaDoor
namespace Go.Proofs.YticpkibnhakgbaaDoor
open Go.Px Go.Ax
set_option maxRecDepth 100000
attribute [local irreducible] Go.Px.sy Go.Px.syE
def ctTh:Ctr:=⟨[.sl syS,.sl syS],fun x=>List.length x.2.1<16777216,fun x=>[.win true syS 0 0 (thV x.1 x.2.1).1.length,.int .i64 (thV x.1 x.2.1).2],fun x=>[.row 66 syS (thV x.1 x.2.1).1]⟩
abbrev ThQ (a b:List SyT):List SV→List (Nat × LB)→Prop:=QC ctTh (a,b,())
theorem th_bad {a b:List SyT} {i:Nat} (h:i<b.length) (hb:thOK a.length b[i]=false):thV a b=([],61):=by
 unfold thV
 rw[if_neg fun q=>by
  have:=List.all_eq_true.1 q b[i] (List.getElem_mem h)
  rw[hb] at this;cases this]
def thS (a b:List SyT) (i:Nat):List SyT:=thL a (b.take i)++List.replicate (b.length-i) (false,0,0)
theorem thS_len {a b:List SyT} {i:Nat} (h:i≤b.length):(thS a b i).length=b.length:=by
 unfold thS;rw[List.length_append,thL_len,List.length_take,List.length_replicate];omega
theorem thS_at {a b:List SyT} {i:Nat} (h:i<b.length):gtY (thS a b i) i=(false,0,0):=by
 rw[gtY_at (by rw[thS_len (by omega)];exact h)]
 unfold thS
 rw[List.getElem_append_right (by rw[thL_len,List.length_take];omega),List.getElem_replicate]
theorem thS_set {a b:List SyT} {i:Nat} (h:i<b.length):(thS a b i).set i (thE a (gtY b i))=thS a b (i+1):=by
 have e:(thL a (b.take i)).length=i:=by rw[thL_len,List.length_take];omega
 unfold thS
 rw[List.set_append_right _ _ (by omega),e,Nat.sub_self,show b.length-i=(b.length-(i+1))+1 by omega,List.replicate_succ,List.set_cons_zero,List.take_succ_eq_append_getElem h,gtY_at h]
 show _=(List.map _ (_++_))++_
 rw[List.map_append,List.append_assoc];rfl
theorem gtY_set {l:List SyT} {i:Nat} {v:SyT} (h:i<l.length):gtY (l.set i v) i=v:=by
 rw[gtY_at (by simpa using h),List.getElem_set_self]
theorem th_loop (a b:List SyT) (hb:b.length<16777216):∀ (k i:Nat),b.length-i=k→i≤b.length→(∀ s∈b.take i,thOK a.length s=true) →
  GD 17 Tryd.f17 (ThQ a b) (hd Tryd.f17 0) ⟨[(0,.sl syS a),(6,.win true syS 11 0 b.length),(12,.sl syS b),(13,.int .i64 b.length),(14,.int .i64 (i:Nat))],[(11,.row 66 syS (thS a b i))]⟩:=by
 intro k
 induction k with
 | zero=>
  intro i hk hi ht
  have hi:i=b.length:=by omega
  refine sy_goK cx0 (vc_thL a b (thS a b i) i b.length _ _) ?_
  rw[decide_eq_false (by omega),bc_f]
  have hs:thS a b i=thL a b:=by
   unfold thS;rw[hi,List.take_length,Nat.sub_self];exact List.append_nil _
  have hv:thV a b=(thL a b,0):=by
   unfold thV;rw[if_pos (List.all_eq_true.2 fun x hx=>ht x (by rw[hi,List.take_length];exact hx))]
  rw[hs]
  exact qc_rowI (e:=syS) (et:=66) (a:=11) (xs:=thL a b) (z:=0) (by show [SV.win true syS 0 0 (thV a b).1.length,.int .i64 (thV a b).2]=_;rw[hv]) (by show [LB.row 66 syS (thV a b).1]=_;rw[hv]) rfl (by rw[thL_len,Int.toNat_natCast]) rfl
 | succ k ih=>
  intro i hk hi ht
  have hlt:i<b.length:=by omega
  have hl:=thS_len (a:=a) (b:=b) (i:=i) hi
  refine sy_goK cx0 (vc_thL a b (thS a b i) i b.length _ _) ?_
  rw[decide_eq_true (show (i:Int)<(b.length:Int) by omega),bc_t,Int.toNat_natCast,Int.toNat_natCast,Nat.zero_add,IntWalk.i64_in ((i:Int)+1) (by omega)]
  have nx:thOK a.length (gtY b i)=true→∀ xs,xs=thS a b (i+1)→GD 17 Tryd.f17 (ThQ a b) (hd Tryd.f17 0) ⟨[(0,.sl syS a),(6,.win true syS 11 0 b.length),(12,.sl syS b),(13,.int .i64 b.length),(14,.int .i64 ((i:Int)+1))],[(11,.row 66 syS xs)]⟩:=fun ho xs he=>by
   subst he
   refine ih (i+1) (by omega) (by omega) fun s hs=>?_
   rw[List.take_succ_eq_append_getElem hlt] at hs
   rcases List.mem_append.1 hs with q | q
   ·exact ht s q
   ·rw[gtY_at hlt] at ho
    rw[List.mem_singleton.1 q];exact ho
  have bad:thOK a.length (gtY b i)=false→∀ bl,ThQ a b [SV.nils,.int .i64 61] bl:=fun ho bl=>by
   rw[gtY_at hlt] at ho
   have hv:=th_bad hlt ho
   exact qc_nilI (e:=syS) (et:=66) (z:=61) (by show [SV.win true syS 0 0 (thV a b).1.length,.int .i64 (thV a b).2]=_;rw[hv];rfl) (by show [LB.row 66 syS (thV a b).1]=_;rw[hv]) rfl (by decide)
  refine ⟨by omega,by omega,bc_of (fun h=>?_) (fun h=>?_)⟩
  ·have h:(gtY b i).1=false:=by simpa using h
   refine ⟨by omega,by omega,by omega,nx (by unfold thOK;rw[h];rfl) _ ?_⟩
   rw[thS_at hlt,← thS_set hlt]
   have:thE a (gtY b i)=(false,0,(gtY b i).2.2):=by unfold thE;rw[h];rfl
   rw[this]
  ·have h:(gtY b i).1=true:=by simpa using h
   refine bc_of (fun h2=>⟨rfl,bad ?_ _⟩) (fun h2=>bc_of (fun h3=>bad ?_ _) (fun h3=>?_))
   ·have h2:(gtY b i).2.1<0:=of_decide_eq_true h2
    unfold thOK
    rw[h,decide_eq_false (by omega)];rfl
   ·have h3:(a.length:Int)≤(gtY b i).2.1:=of_decide_eq_true h3
    unfold thOK
    rw[h,decide_eq_false (show ¬ (gtY b i).2.1<(a.length:Int) by omega)];simp
   ·have h2:¬ (gtY b i).2.1<0:=of_decide_eq_false h2
    have h3:¬ (a.length:Int)≤(gtY b i).2.1:=of_decide_eq_false h3
    refine ⟨by omega,by omega,by omega,by omega,by omega,by omega,by omega,by rw[List.length_set];omega,by omega,by omega,by rw[List.length_set];omega,nx ?_ _ ?_⟩
    ·unfold thOK
     rw[h,decide_eq_true (by omega),decide_eq_true (by omega)];rfl
    ·rw[gtY_set (by omega),List.set_set,← thS_set hlt]
     have:thE a (gtY b i)=((gtY a (gtY b i).2.1.toNat).1,(gtY a (gtY b i).2.1.toNat).2.1,IntKind.u8.wrap ((gtY a (gtY b i).2.1.toNat).2.2+(gtY b i).2.2)):=by unfold thE;rw[if_pos h]
     rw[this]
theorem th_run (a b:List SyT) (hb:b.length<16777216):GD 17 Tryd.f17 (ThQ a b) [.code (bodyOf Tryd.f17)] (entry [.sl syS,.sl syS] (a,b,())):=by
 refine sy_goK cx0 (vc_th a b _ _) ⟨by omega,by omega,by omega,by omega,?_⟩
 have h:=th_loop a b hb _ 0 rfl (Nat.zero_le _) (fun s hs=>by cases hs)
 rw[show thS a b 0=List.replicate (b.length:Int).toNat syS.dflt by unfold thS;rw[Int.toNat_natCast];rfl] at h
 rw[Int.toNat_natCast] at h ⊢
 exact h
theorem th_held:Held Tryd.prog G0 17 ctTh:=Held.of cx0 (fn:=Tryd.f17) rfl rfl ⟨by decide,by decide⟩ fun ⟨a,b,_⟩ hp=>th_run a b hp
end Go.Proofs.YticpkibnhakgbaaDoor
namespace Go.Proofs.YticpkibnhakgbaaDoor
open Go.Px Go.Ax
set_option maxRecDepth 100000
abbrev gtP (l:List PaT) (i:Nat):PaT:=gt paS l i
def CCo:CV:=[(24,.inl ctSym),(17,.inl ctTh),(36,.inl ctCp)]
theorem cxCo:CxOK Tryd.prog tt G0 CCo:=((cx0.cons cp_held (fn:=Tryd.f36) rfl rfl rfl).cons th_held (fn:=Tryd.f17) rfl rfl rfl).cons sym_held (fn:=Tryd.f24) rfl rfl rfl
set_option maxRecDepth 100000
def mem_co_m0 (li li2:Bool) (m o m2 o2:Int) (l l2:List OpT):List (Nat × LB):=[(2,.var [.bool li,.int .i64 m,.int .i64 o,.sl opS l]),(3,.var [.bool li2,.int .i64 m2,.int .i64 o2,.sl opS l2]),(4,.var [.bool false,.int .i64 0,.int .i64 0,.nils]),(1057344,.row 66 syS (symV (li,m,o,l)).1),(1094208,.row 66 syS (symV (li2,m2,o2,l2)).1)]
theorem vc_co (li li2:Bool) (m o m2 o2:Int) (l l2:List OpT) (Q:QT) (R:RT):sy tt G0 CCo Tryd.f14.ntmps Tryd.f14.results.toList Q R 1000 [.code (bodyOf Tryd.f14)] (entry [paS,paS] ((li,m,o,l),(li2,m2,o2,l2),())) =
  (ctSym.pre ((li,m,o,l),()) ∧
 bc (decide ((symV (li,m,o,l)).2≠(0:Int))) (Q [.agg [.bool false,.int .i64 0,.int .i64 0,.nils],.int .i64 (symV (li,m,o,l)).2] [(2,.var [.bool li,.int .i64 m,.int .i64 o,.sl opS l]),(3,.var [.bool li2,.int .i64 m2,.int .i64 o2,.sl opS l2]),(4,.var [.bool false,.int .i64 0,.int .i64 0,.nils]),(1057344,.row 66 syS (symV (li,m,o,l)).1)]) (ctSym.pre ((li2,m2,o2,l2),()) ∧
 bc (decide ((symV (li2,m2,o2,l2)).2≠(0:Int))) (Q [.agg [.bool false,.int .i64 0,.int .i64 0,.nils],.int .i64 (symV (li2,m2,o2,l2)).2] (mem_co_m0 li li2 m o m2 o2 l l2)) (bc (!li == li2) (Q [.agg [.bool false,.int .i64 0,.int .i64 0,.nils],.int .i64 62] (mem_co_m0 li li2 m o m2 o2 l l2)) (bc (decide (o≠m2)) (Q [.agg [.bool false,.int .i64 0,.int .i64 0,.nils],.int .i64 61] (mem_co_m0 li li2 m o m2 o2 l l2)) (0+(symV (li,m,o,l)).1.length≤(symV (li,m,o,l)).1.length ∧
 0+(symV (li2,m2,o2,l2)).1.length≤(symV (li2,m2,o2,l2)).1.length ∧
 ctTh.pre (winL syS 0 (symV (li,m,o,l)).1.length (symV (li,m,o,l)).1,winL syS 0 (symV (li2,m2,o2,l2)).1.length (symV (li2,m2,o2,l2)).1,()) ∧
 0+(thV (winL syS 0 (symV (li,m,o,l)).1.length (symV (li,m,o,l)).1) (winL syS 0 (symV (li2,m2,o2,l2)).1.length (symV (li2,m2,o2,l2)).1)).1.length≤(thV (winL syS 0 (symV (li,m,o,l)).1.length (symV (li,m,o,l)).1) (winL syS 0 (symV (li2,m2,o2,l2)).1.length (symV (li2,m2,o2,l2)).1)).1.length ∧
 0+(thV (winL syS 0 (symV (li,m,o,l)).1.length (symV (li,m,o,l)).1) (winL syS 0 (symV (li2,m2,o2,l2)).1.length (symV (li2,m2,o2,l2)).1)).1.length≤(thV (winL syS 0 (symV (li,m,o,l)).1.length (symV (li,m,o,l)).1) (winL syS 0 (symV (li2,m2,o2,l2)).1.length (symV (li2,m2,o2,l2)).1)).1.length ∧
 0+(thV (winL syS 0 (symV (li,m,o,l)).1.length (symV (li,m,o,l)).1) (winL syS 0 (symV (li2,m2,o2,l2)).1.length (symV (li2,m2,o2,l2)).1)).1.length≤(thV (winL syS 0 (symV (li,m,o,l)).1.length (symV (li,m,o,l)).1) (winL syS 0 (symV (li2,m2,o2,l2)).1.length (symV (li2,m2,o2,l2)).1)).1.length ∧
 0+(thV (winL syS 0 (symV (li,m,o,l)).1.length (symV (li,m,o,l)).1) (winL syS 0 (symV (li2,m2,o2,l2)).1.length (symV (li2,m2,o2,l2)).1)).1.length≤(thV (winL syS 0 (symV (li,m,o,l)).1.length (symV (li,m,o,l)).1) (winL syS 0 (symV (li2,m2,o2,l2)).1.length (symV (li2,m2,o2,l2)).1)).1.length ∧
 0+(thV (winL syS 0 (symV (li,m,o,l)).1.length (symV (li,m,o,l)).1) (winL syS 0 (symV (li2,m2,o2,l2)).1.length (symV (li2,m2,o2,l2)).1)).1.length≤(thV (winL syS 0 (symV (li,m,o,l)).1.length (symV (li,m,o,l)).1) (winL syS 0 (symV (li2,m2,o2,l2)).1.length (symV (li2,m2,o2,l2)).1)).1.length ∧
 ctCp.pre (winL syS 0 (thV (winL syS 0 (symV (li,m,o,l)).1.length (symV (li,m,o,l)).1) (winL syS 0 (symV (li2,m2,o2,l2)).1.length (symV (li2,m2,o2,l2)).1)).1.length (thV (winL syS 0 (symV (li,m,o,l)).1.length (symV (li,m,o,l)).1) (winL syS 0 (symV (li2,m2,o2,l2)).1.length (symV (li2,m2,o2,l2)).1)).1,m,()) ∧
 bc (decide ((cpV (winL syS 0 (thV (winL syS 0 (symV (li,m,o,l)).1.length (symV (li,m,o,l)).1) (winL syS 0 (symV (li2,m2,o2,l2)).1.length (symV (li2,m2,o2,l2)).1)).1.length (thV (winL syS 0 (symV (li,m,o,l)).1.length (symV (li,m,o,l)).1) (winL syS 0 (symV (li2,m2,o2,l2)).1.length (symV (li2,m2,o2,l2)).1)).1) m).2≠(0:Int))) (Q [.agg [.bool false,.int .i64 0,.int .i64 0,.nils],.int .i64 (cpV (winL syS 0 (thV (winL syS 0 (symV (li,m,o,l)).1.length (symV (li,m,o,l)).1) (winL syS 0 (symV (li2,m2,o2,l2)).1.length (symV (li2,m2,o2,l2)).1)).1.length (thV (winL syS 0 (symV (li,m,o,l)).1.length (symV (li,m,o,l)).1) (winL syS 0 (symV (li2,m2,o2,l2)).1.length (symV (li2,m2,o2,l2)).1)).1) m).2] [(2,.var [.bool li,.int .i64 m,.int .i64 o,.sl opS l]),(3,.var [.bool li2,.int .i64 m2,.int .i64 o2,.sl opS l2]),(4,.var [.bool false,.int .i64 0,.int .i64 0,.nils]),(11,.var [.bool (cpV (winL syS 0 (thV (winL syS 0 (symV (li,m,o,l)).1.length (symV (li,m,o,l)).1) (winL syS 0 (symV (li2,m2,o2,l2)).1.length (symV (li2,m2,o2,l2)).1)).1.length (thV (winL syS 0 (symV (li,m,o,l)).1.length (symV (li,m,o,l)).1) (winL syS 0 (symV (li2,m2,o2,l2)).1.length (symV (li2,m2,o2,l2)).1)).1) m).1.1,.int .i64 (cpV (winL syS 0 (thV (winL syS 0 (symV (li,m,o,l)).1.length (symV (li,m,o,l)).1) (winL syS 0 (symV (li2,m2,o2,l2)).1.length (symV (li2,m2,o2,l2)).1)).1.length (thV (winL syS 0 (symV (li,m,o,l)).1.length (symV (li,m,o,l)).1) (winL syS 0 (symV (li2,m2,o2,l2)).1.length (symV (li2,m2,o2,l2)).1)).1) m).1.2.1,.int .i64 (cpV (winL syS 0 (thV (winL syS 0 (symV (li,m,o,l)).1.length (symV (li,m,o,l)).1) (winL syS 0 (symV (li2,m2,o2,l2)).1.length (symV (li2,m2,o2,l2)).1)).1.length (thV (winL syS 0 (symV (li,m,o,l)).1.length (symV (li,m,o,l)).1) (winL syS 0 (symV (li2,m2,o2,l2)).1.length (symV (li2,m2,o2,l2)).1)).1) m).1.2.2.1,.sl opS (cpV (winL syS 0 (thV (winL syS 0 (symV (li,m,o,l)).1.length (symV (li,m,o,l)).1) (winL syS 0 (symV (li2,m2,o2,l2)).1.length (symV (li2,m2,o2,l2)).1)).1.length (thV (winL syS 0 (symV (li,m,o,l)).1.length (symV (li,m,o,l)).1) (winL syS 0 (symV (li2,m2,o2,l2)).1.length (symV (li2,m2,o2,l2)).1)).1) m).1.2.2.2]),(1057344,.row 66 syS (symV (li,m,o,l)).1),(1094208,.row 66 syS (symV (li2,m2,o2,l2)).1)]) (Q [.agg [.bool li,.int .i64 (cpV (winL syS 0 (thV (winL syS 0 (symV (li,m,o,l)).1.length (symV (li,m,o,l)).1) (winL syS 0 (symV (li2,m2,o2,l2)).1.length (symV (li2,m2,o2,l2)).1)).1.length (thV (winL syS 0 (symV (li,m,o,l)).1.length (symV (li,m,o,l)).1) (winL syS 0 (symV (li2,m2,o2,l2)).1.length (symV (li2,m2,o2,l2)).1)).1) m).1.2.1,.int .i64 (cpV (winL syS 0 (thV (winL syS 0 (symV (li,m,o,l)).1.length (symV (li,m,o,l)).1) (winL syS 0 (symV (li2,m2,o2,l2)).1.length (symV (li2,m2,o2,l2)).1)).1.length (thV (winL syS 0 (symV (li,m,o,l)).1.length (symV (li,m,o,l)).1) (winL syS 0 (symV (li2,m2,o2,l2)).1.length (symV (li2,m2,o2,l2)).1)).1) m).1.2.2.1,.sl opS (cpV (winL syS 0 (thV (winL syS 0 (symV (li,m,o,l)).1.length (symV (li,m,o,l)).1) (winL syS 0 (symV (li2,m2,o2,l2)).1.length (symV (li2,m2,o2,l2)).1)).1.length (thV (winL syS 0 (symV (li,m,o,l)).1.length (symV (li,m,o,l)).1) (winL syS 0 (symV (li2,m2,o2,l2)).1.length (symV (li2,m2,o2,l2)).1)).1) m).1.2.2.2],.int .i64 0] [(2,.var [.bool li,.int .i64 m,.int .i64 o,.sl opS l]),(3,.var [.bool li2,.int .i64 m2,.int .i64 o2,.sl opS l2]),(4,.var [.bool li,.int .i64 (cpV (winL syS 0 (thV (winL syS 0 (symV (li,m,o,l)).1.length (symV (li,m,o,l)).1) (winL syS 0 (symV (li2,m2,o2,l2)).1.length (symV (li2,m2,o2,l2)).1)).1.length (thV (winL syS 0 (symV (li,m,o,l)).1.length (symV (li,m,o,l)).1) (winL syS 0 (symV (li2,m2,o2,l2)).1.length (symV (li2,m2,o2,l2)).1)).1) m).1.2.1,.int .i64 (cpV (winL syS 0 (thV (winL syS 0 (symV (li,m,o,l)).1.length (symV (li,m,o,l)).1) (winL syS 0 (symV (li2,m2,o2,l2)).1.length (symV (li2,m2,o2,l2)).1)).1.length (thV (winL syS 0 (symV (li,m,o,l)).1.length (symV (li,m,o,l)).1) (winL syS 0 (symV (li2,m2,o2,l2)).1.length (symV (li2,m2,o2,l2)).1)).1) m).1.2.2.1,.sl opS (cpV (winL syS 0 (thV (winL syS 0 (symV (li,m,o,l)).1.length (symV (li,m,o,l)).1) (winL syS 0 (symV (li2,m2,o2,l2)).1.length (symV (li2,m2,o2,l2)).1)).1.length (thV (winL syS 0 (symV (li,m,o,l)).1.length (symV (li,m,o,l)).1) (winL syS 0 (symV (li2,m2,o2,l2)).1.length (symV (li2,m2,o2,l2)).1)).1) m).1.2.2.2]),(11,.var [.bool li,.int .i64 (cpV (winL syS 0 (thV (winL syS 0 (symV (li,m,o,l)).1.length (symV (li,m,o,l)).1) (winL syS 0 (symV (li2,m2,o2,l2)).1.length (symV (li2,m2,o2,l2)).1)).1.length (thV (winL syS 0 (symV (li,m,o,l)).1.length (symV (li,m,o,l)).1) (winL syS 0 (symV (li2,m2,o2,l2)).1.length (symV (li2,m2,o2,l2)).1)).1) m).1.2.1,.int .i64 (cpV (winL syS 0 (thV (winL syS 0 (symV (li,m,o,l)).1.length (symV (li,m,o,l)).1) (winL syS 0 (symV (li2,m2,o2,l2)).1.length (symV (li2,m2,o2,l2)).1)).1.length (thV (winL syS 0 (symV (li,m,o,l)).1.length (symV (li,m,o,l)).1) (winL syS 0 (symV (li2,m2,o2,l2)).1.length (symV (li2,m2,o2,l2)).1)).1) m).1.2.2.1,.sl opS (cpV (winL syS 0 (thV (winL syS 0 (symV (li,m,o,l)).1.length (symV (li,m,o,l)).1) (winL syS 0 (symV (li2,m2,o2,l2)).1.length (symV (li2,m2,o2,l2)).1)).1.length (thV (winL syS 0 (symV (li,m,o,l)).1.length (symV (li,m,o,l)).1) (winL syS 0 (symV (li2,m2,o2,l2)).1.length (symV (li2,m2,o2,l2)).1)).1) m).1.2.2.2]),(1057344,.row 66 syS (symV (li,m,o,l)).1),(1094208,.row 66 syS (symV (li2,m2,o2,l2)).1)])))))):=by kernel_rfl
end Go.Proofs.YticpkibnhakgbaaDoor
namespace Go.Proofs.YticpkibnhakgbaaDoor
open Go.Px Go.Ax
set_option maxRecDepth 100000
attribute [local irreducible] Go.Px.sy Go.Px.syE
def ctCo:Ctr:=⟨[paS,paS],fun _=>True,fun x=>[paV (coV x.1 x.2.1).1,.int .i64 (coV x.1 x.2.1).2],fun _=>[]⟩
theorem co_fit {p q:PaT} (hp:(symV p).2=0) (hq:(symV q).2=0) (ho:p.2.2.1=q.2.1):thV (symV p).1 (symV q).1=(thL (symV p).1 (symV q).1,0):=by
 obtain ⟨a1,a2,a3⟩:=symV_right hp
 obtain ⟨b1,b2,b3⟩:=symV_right hq
 exact thV_ok fun x hx=>by rw[a3,ho];exact b1 x hx
theorem co_err {p q:PaT} {z:Int} {bl:List (Nat × LB)} (h:coV p q=(zP,z)):QC ctCo (p,q,()) [.agg [.bool false,.int .i64 0,.int .i64 0,.nils],.int .i64 z] bl:=
 QC.mt (by show MtL _ [paV (coV p q).1,.int .i64 (coV p q).2] _;rw[h];exact zero_mt _) rfl
theorem co_fin {p q:PaT} {r:PaT} {z:Int} {bl:List (Nat × LB)} (h:coV p q=(r,z)):QC ctCo (p,q,()) [paV r,.int .i64 z] bl:=
 QC.flat (by show [paV (coV p q).1,.int .i64 (coV p q).2]=_;rw[h]) rfl rfl
theorem co_run (li li2:Bool) (m o m2 o2:Int) (l l2:List OpT) (R:List Item→PS→Prop):sy tt G0 CCo Tryd.f14.ntmps Tryd.f14.results.toList (QC ctCo ((li,m,o,l),(li2,m2,o2,l2),())) R 1000 [.code (bodyOf Tryd.f14)] (entry [paS,paS] ((li,m,o,l),(li2,m2,o2,l2),())):=by
 refine (vc_co li li2 m o m2 o2 l l2 _ _).mpr ⟨trivial,bc_of (fun h=>?_) (fun h=>⟨trivial,bc_of (fun h2=>?_) (fun h2=>bc_of (fun h3=>?_) (fun h3=>bc_of (fun h4=>?_) (fun h4=>?_)))⟩)⟩
 ·have h:(symV (li,m,o,l)).2≠0:=of_decide_eq_true h
  exact co_err (by unfold coV;rw[if_pos h])
 all_goals
  have h:¬ (symV (li,m,o,l)).2≠0:=of_decide_eq_false h
 ·have h2:(symV (li2,m2,o2,l2)).2≠0:=of_decide_eq_true h2
  exact co_err (by unfold coV;rw[if_neg h,if_pos h2])
 all_goals
  have h2:¬ (symV (li2,m2,o2,l2)).2≠0:=of_decide_eq_false h2
 ·have h3:li≠li2:=by simpa using h3
  exact co_err (by unfold coV;rw[if_neg h,if_neg h2,if_pos h3])
 all_goals
  have h3:¬ li≠li2:=by simpa using h3
 ·have h4:o≠m2:=of_decide_eq_true h4
  exact co_err (by unfold coV;rw[if_neg h,if_neg h2,if_neg h3,if_pos h4])
 ·have h4:¬ o≠m2:=of_decide_eq_false h4
  have hp:(symV (li,m,o,l)).2=0:=by omega
  have hq:(symV (li2,m2,o2,l2)).2=0:=by omega
  have ht:=co_fit hp hq (show o=m2 by omega)
  have hl:=symV_le (li2,m2,o2,l2)
  have ho:coV (li,m,o,l) (li2,m2,o2,l2)=if (cpV (thL (symV (li,m,o,l)).1 (symV (li2,m2,o2,l2)).1) m).2≠0 then (zP,(cpV (thL (symV (li,m,o,l)).1 (symV (li2,m2,o2,l2)).1) m).2) else ((li,(cpV (thL (symV (li,m,o,l)).1 (symV (li2,m2,o2,l2)).1) m).1.2),0):=by
   unfold coV;rw[if_neg h,if_neg h2,if_neg h3,if_neg h4]
  generalize (symV (li,m,o,l)).1=a at *
  generalize (symV (li2,m2,o2,l2)).1=b at *
  rw[winA,winA,ht,winA]
  refine ⟨by omega,by omega,(show b.length<16777216 by omega),by omega,by omega,by omega,by omega,by omega,(show (thL a b).length<16777216 by rw[thL_len];omega),bc_of (fun h5=>?_) (fun h5=>?_)⟩
  ·have h5:(cpV (thL a b) m).2≠0:=of_decide_eq_true h5
   rw[if_pos h5] at ho
   exact co_err ho
  ·have h5:¬ (cpV (thL a b) m).2≠0:=of_decide_eq_false h5
   rw[if_neg h5] at ho
   exact co_fin ho
theorem co_held:Held Tryd.prog G0 14 ctCo:=Held.run cxCo (fn:=Tryd.f14) rfl rfl ⟨by decide,by decide⟩ fun ⟨⟨li,m,o,l⟩,⟨li2,m2,o2,l2⟩,_⟩ _=>co_run li li2 m o m2 o2 l l2 _
end Go.Proofs.YticpkibnhakgbaaDoor
namespace Go.Proofs.YticpkibnhakgbaaDoor
open Go.Px Go.Ax
set_option maxRecDepth 100000
abbrev capA:List AK:=[.ptr [.dat .bool,.dat iI,.dat iI,.dat (.sl opS)]]
abbrev KA1:List AK:=.dat paS::capA
abbrev KIn:List AK:=[.fn 33 [] capA,.dat (.sl paS)]
def CA1:CV:=[(14,.inl ctCo)]
theorem cxA1:CxOK Tryd.prog tt G0 CA1:=cx0.cons co_held (fn:=Tryd.f14) rfl rfl rfl
def ptD (p:PaT):DI [.dat .bool,.dat iI,.dat iI,.dat (.sl opS)]:=(p.1,p.2.1,p.2.2.1,p.2.2.2,())
def ctA1:CtrI:=⟨KA1,fun _=>True,fun x=>[.int .i64 (coV (x.2.1.1,x.2.1.2.1,x.2.1.2.2.1,x.2.1.2.2.2.1) x.1).2],fun x=>bkKL 0 KA1 (x.1,ptD (coV (x.2.1.1,x.2.1.2.1,x.2.1.2.2.1,x.2.1.2.2.2.1) x.1).1,())⟩
set_option maxRecDepth 100000
theorem vc_a1 (li li2:Bool) (m o m2 o2:Int) (k l2:List OpT) (Q:QT) (R:RT):sy tt G0 CA1 Tryd.f33.ntmps Tryd.f33.results.toList Q R 1000 [.code (bodyOf Tryd.f33)] (entryI KA1 ((li2,m2,o2,l2),(li,m,o,k,()),())) =
  (ctCo.pre ((li,m,o,k),(li2,m2,o2,l2),()) ∧
 Q [.int .i64 (coV (li,m,o,k) (li2,m2,o2,l2)).2] [(2,.var [.bool li2,.int .i64 m2,.int .i64 o2,.sl opS l2]),(1099511627776,.var [.bool (coV (li,m,o,k) (li2,m2,o2,l2)).1.1,.int .i64 (coV (li,m,o,k) (li2,m2,o2,l2)).1.2.1,.int .i64 (coV (li,m,o,k) (li2,m2,o2,l2)).1.2.2.1,.sl opS (coV (li,m,o,k) (li2,m2,o2,l2)).1.2.2.2])]):=by kernel_rfl
end Go.Proofs.YticpkibnhakgbaaDoor
namespace Go.Proofs.YticpkibnhakgbaaDoor
open Go.Px Go.Ax
set_option maxRecDepth 100000
attribute [local irreducible] Go.Px.sy Go.Px.syE
theorem a1_run (li li2:Bool) (m o m2 o2:Int) (k l2:List OpT) (R:List Item→PS→Prop):sy tt G0 CA1 Tryd.f33.ntmps Tryd.f33.results.toList (QI ctA1 ((li2,m2,o2,l2),(li,m,o,k,()),())) R 1000 [.code (bodyOf Tryd.f33)] (entryI KA1 ((li2,m2,o2,l2),(li,m,o,k,()),())):=by
 refine (vc_a1 li li2 m o m2 o2 k l2 _ _).mpr ⟨trivial,?_⟩
 refine QI.self rfl rfl rfl ?_
 intro b hb
 simp only[ctA1,bkKL,bkK,cnt,cntL,List.append_nil,List.nil_append,List.mem_append,List.mem_cons,List.mem_singleton,List.not_mem_nil,or_false] at hb
 rcases hb with rfl <;> rfl
theorem a1_held:HeldI Tryd.prog G0 33 ctA1:=HeldI.run cxA1 (fn:=Tryd.f33) rfl rfl ⟨by decide,by decide⟩ fun x _=>a1_run x.2.1.1 x.1.1 x.2.1.2.1 x.2.1.2.2.1 x.1.2.1 x.1.2.2.1 x.2.1.2.2.2.1 x.1.2.2.2 _
end Go.Proofs.YticpkibnhakgbaaDoor
namespace Go.Proofs.YticpkibnhakgbaaDoor
open Go.Px Go.Ax
set_option maxRecDepth 100000
def CIn:CV:=[(33,.inr ctA1)]
theorem cxIn:CxOK Tryd.prog tt G0 CIn:=cx0.consI a1_held (fn:=Tryd.f33) rfl rfl rfl
set_option maxRecDepth 100000
theorem vc_ino (l:List PaT) (li:Bool) (m o:Int) (k:List OpT) (Q:QT) (R:RT):sy tt G0 CIn Tryd.f32.ntmps Tryd.f32.results.toList Q R 1000 [.code (bodyOf Tryd.f32)] (entryI KIn (((),((li,m,o,k,()),())),l,())) =
  (R (hd Tryd.f32 0) { env:=[(0,.fn (33:Nat) [] [.ptr 1099511627776 0]),(1,.sl paS l),(4,.int .i64 0),(8,.sl paS l),(9,.int .i64 (l.length:Int)),(10,.int .i64 0)],blk:=[(1099511627776,.var [.bool li,.int .i64 m,.int .i64 o,.sl opS k])] }):=by kernel_rfl
theorem vc_inoL (l:List PaT) (li:Bool) (m o i:Int) (k:List OpT) (Q:QT) (R:RT):sy tt G0 CIn Tryd.f32.ntmps Tryd.f32.results.toList Q (fun it S=>R it (keepS [0,8,9,10] [1099511627776] S)) 1000 (hd Tryd.f32 0) ⟨[(0,.fn 33 [] [.ptr 1099511627776 0]),(8,.sl paS l),(9,.int .i64 l.length),(10,.int .i64 i)],[(1099511627776,.var [.bool li,.int .i64 m,.int .i64 o,.sl opS k])]⟩ =
  (bc (decide (i<(l.length:Int))) ((0:Int)≤i ∧
 i<(l.length:Int) ∧
 ctA1.pre ((gtP l i.toNat),(li,m,o,k,()),()) ∧
 bc (decide ((coV (li,m,o,k) (gtP l i.toNat)).2≠(0:Int))) (Q [.int .i64 (coV (li,m,o,k) (gtP l i.toNat)).2] [(6,.var [.bool (gtP l i.toNat).1,.int .i64 (gtP l i.toNat).2.1,.int .i64 (gtP l i.toNat).2.2.1,.sl opS (gtP l i.toNat).2.2.2]),(1099511627776,.var [.bool (ptD (coV (li,m,o,k) (gtP l i.toNat)).1).1,.int .i64 (ptD (coV (li,m,o,k) (gtP l i.toNat)).1).2.1,.int .i64 (ptD (coV (li,m,o,k) (gtP l i.toNat)).1).2.2.1,.sl opS (ptD (coV (li,m,o,k) (gtP l i.toNat)).1).2.2.2.1])]) (R (hd Tryd.f32 0) { env:=[(0,.fn (33:Nat) [] [.ptr 1099511627776 0]),(8,.sl paS l),(9,.int .i64 (l.length:Int)),(10,.int .i64 (IntKind.i64.wrap (i+(1:Int))))],blk:=[(1099511627776,.var [.bool (ptD (coV (li,m,o,k) (gtP l i.toNat)).1).1,.int .i64 (ptD (coV (li,m,o,k) (gtP l i.toNat)).1).2.1,.int .i64 (ptD (coV (li,m,o,k) (gtP l i.toNat)).1).2.2.1,.sl opS (ptD (coV (li,m,o,k) (gtP l i.toNat)).1).2.2.2.1])] })) (Q [.int .i64 0] [(1099511627776,.var [.bool li,.int .i64 m,.int .i64 o,.sl opS k])])):=by kernel_rfl
end Go.Proofs.YticpkibnhakgbaaDoor
namespace Go.Proofs.YticpkibnhakgbaaDoor
open Go.Px Go.Ax
set_option maxRecDepth 100000
attribute [local irreducible] Go.Px.sy Go.Px.syE
theorem gtP_at {l:List PaT} {i:Nat} (h:i<l.length):gtP l i=l[i]:=by
 show gt paS l i=_
 unfold gt
 rw[List.getElem?_eq_getElem h];rfl
abbrev vrP (p:PaT):LB:=.var [.bool p.1,.int .i64 p.2.1,.int .i64 p.2.2.1,.sl opS p.2.2.2]
abbrev InQ (p:PaT) (l:List PaT):List SV→List (Nat × LB)→Prop:=fun rs blk=>rs=[.int .i64 (alF (p,0) l).2]∧lk blk 1099511627776=some (vrP (alF (p,0) l).1)
theorem ino_loop (l:List PaT) (hl:l.length<1099511627776):∀ (k i:Nat) (p:PaT),l.length-i=k→i≤l.length →
  GD 32 Tryd.f32 (InQ p (l.drop i)) (hd Tryd.f32 0) ⟨[(0,.fn 33 [] [.ptr 1099511627776 0]),(8,.sl paS l),(9,.int .i64 l.length),(10,.int .i64 (i:Nat))],[(1099511627776,vrP p)]⟩:=by
 intro k
 induction k with
 | zero=>
  intro i p hk hi
  obtain ⟨li,m,o,k⟩:=p
  refine sy_goK cxIn (vc_inoL l li m o i k _ _) ?_
  rw[decide_eq_false (by omega),bc_f,List.drop_of_length_le (by omega)]
  exact ⟨rfl,rfl⟩
 | succ c ih=>
  intro i p hk hi
  obtain ⟨li,m,o,k⟩:=p
  have hlt:i<l.length:=by omega
  refine sy_goK cxIn (vc_inoL l li m o i k _ _) ?_
  rw[decide_eq_true (show (i:Int)<(l.length:Int) by omega),bc_t,Int.toNat_natCast,IntWalk.i64_in ((i:Int)+1) (by omega),List.drop_eq_getElem_cons hlt,← gtP_at hlt]
  refine ⟨by omega,by omega,trivial,bc_of (fun h=>?_) (fun h=>?_)⟩
  ·have h:(coV (li,m,o,k) (gtP l i)).2≠0:=of_decide_eq_true h
   have e:alF ((li,m,o,k),0) (gtP l i::l.drop (i+1))=coV (li,m,o,k) (gtP l i):=by rw[alF];exact if_pos h
   show InQ _ _ _ _
   unfold InQ
   rw[e]
   exact ⟨rfl,rfl⟩
  ·have h:¬ (coV (li,m,o,k) (gtP l i)).2≠0:=of_decide_eq_false h
   have h0:coV (li,m,o,k) (gtP l i)=((coV (li,m,o,k) (gtP l i)).1,0):=Prod.ext rfl (by omega)
   have e:alF ((li,m,o,k),0) (gtP l i::l.drop (i+1))=alF ((coV (li,m,o,k) (gtP l i)).1,0) (l.drop (i+1)):=by
    rw[← h0,alF];exact if_neg h
   have g:=ih (i+1) (coV (li,m,o,k) (gtP l i)).1 (by omega) (by omega)
   unfold InQ at g ⊢
   rw[e]
   exact g
def ctIno:CtrI:=⟨KIn,fun x=>List.length x.2.1<1099511627776,fun x=>[.int .i64 (alF ((x.1.2.1.1,x.1.2.1.2.1,x.1.2.1.2.2.1,x.1.2.1.2.2.2.1),0) x.2.1).2],
 fun x=>bkKL 0 KIn (((),(ptD (alF ((x.1.2.1.1,x.1.2.1.2.1,x.1.2.1.2.2.1,x.1.2.1.2.2.2.1),0) x.2.1).1,())),x.2.1,())⟩
theorem ino_run (l:List PaT) (li:Bool) (m o:Int) (k:List OpT) (hl:l.length<1099511627776):sy tt G0 CIn Tryd.f32.ntmps Tryd.f32.results.toList (QI ctIno (((),((li,m,o,k,()),())),l,())) (Px.Good Tryd.prog tt G0 32 Tryd.f32.ntmps Tryd.f32.results.toList (QI ctIno (((),((li,m,o,k,()),())),l,()))) 1000 [.code (bodyOf Tryd.f32)] (entryI KIn (((),((li,m,o,k,()),())),l,())):=by
 rw[vc_ino]
 refine ((ino_loop l hl _ 0 (li,m,o,k) rfl (Nat.zero_le _)).post fun rs blk hq=>?_).only ⟨rfl,rfl,rfl,rfl,trivial⟩ ⟨rfl,trivial⟩
 obtain ⟨h1,h2⟩:=hq
 rw[List.drop_zero] at h1 h2
 subst h1
 refine QI.self rfl rfl rfl ?_
 intro b hb
 simp only[ctIno,bkKL,bkK,cnt,cntL,List.append_nil,List.nil_append,List.mem_append,List.mem_cons,List.mem_singleton,List.not_mem_nil,or_false] at hb
 rcases hb with rfl <;> exact h2
theorem ino_held:HeldI Tryd.prog G0 32 ctIno:=HeldI.run cxIn (fn:=Tryd.f32) rfl rfl ⟨by decide,by decide⟩ fun x hp=>ino_run x.2.1 x.1.2.1.1 x.1.2.1.2.1 x.1.2.1.2.2.1 x.1.2.1.2.2.2.1 hp
end Go.Proofs.YticpkibnhakgbaaDoor
namespace Go.Proofs.YticpkibnhakgbaaDoor
open Go.Px Go.Ax
set_option maxRecDepth 100000
def CAl:CV:=[(32,.inr ctIno),(20,.inl ctFo)]
theorem cxAl:CxOK Tryd.prog tt G0 CAl:=(cx0.cons fo_held (fn:=Tryd.f20) rfl rfl rfl).consI ino_held (fn:=Tryd.f32) rfl rfl rfl
set_option maxRecDepth 100000
theorem vc_all (l:List PaT) (Q:QT) (R:RT):sy tt G0 CAl Tryd.f11.ntmps Tryd.f11.results.toList Q R 1000 [.code (bodyOf Tryd.f11)] (entry [.sl paS] (l,())) =
  (bc (decide ((l.length:Int)=(0:Int))) (Q [.agg [.bool false,.int .i64 0,.int .i64 0,.nils],.int .i64 1] [(2,.var [.bool false,.int .i64 0,.int .i64 0,.nils])]) ((0:Int)≤(0:Int) ∧
 (0:Int)<(l.length:Int) ∧
 ctFo.pre ((gtP l (0)),()) ∧
 bc (decide ((foV (gtP l (0))).2≠(0:Int))) (Q [.agg [.bool false,.int .i64 0,.int .i64 0,.nils],.int .i64 (foV (gtP l (0))).2] [(2,.var [.bool false,.int .i64 0,.int .i64 0,.nils]),(4,.var [.bool (foV (gtP l (0))).1.1,.int .i64 (foV (gtP l (0))).1.2.1,.int .i64 (foV (gtP l (0))).1.2.2.1,.sl opS (foV (gtP l (0))).1.2.2.2])]) ((0:Int)≤(1:Int) ∧
 (1:Int)≤(l.length:Int) ∧
 ctIno.pre (((),((foV (gtP l (0))).1.1,(foV (gtP l (0))).1.2.1,(foV (gtP l (0))).1.2.2.1,(foV (gtP l (0))).1.2.2.2,()),()),List.drop (1) l,()) ∧
 Q [.agg [.bool (ptD (alF (((foV (gtP l (0))).1),(0:Int)) (List.drop (1) l)).1).1,.int .i64 (ptD (alF (((foV (gtP l (0))).1),(0:Int)) (List.drop (1) l)).1).2.1,.int .i64 (ptD (alF (((foV (gtP l (0))).1),(0:Int)) (List.drop (1) l)).1).2.2.1,.sl opS (ptD (alF (((foV (gtP l (0))).1),(0:Int)) (List.drop (1) l)).1).2.2.2.1],.int .i64 (alF (((foV (gtP l (0))).1),(0:Int)) (List.drop (1) l)).2] [(2,.var [.bool (ptD (alF (((foV (gtP l (0))).1),(0:Int)) (List.drop (1) l)).1).1,.int .i64 (ptD (alF (((foV (gtP l (0))).1),(0:Int)) (List.drop (1) l)).1).2.1,.int .i64 (ptD (alF (((foV (gtP l (0))).1),(0:Int)) (List.drop (1) l)).1).2.2.1,.sl opS (ptD (alF (((foV (gtP l (0))).1),(0:Int)) (List.drop (1) l)).1).2.2.2.1]),(4,.var [.bool (ptD (alF (((foV (gtP l (0))).1),(0:Int)) (List.drop (1) l)).1).1,.int .i64 (ptD (alF (((foV (gtP l (0))).1),(0:Int)) (List.drop (1) l)).1).2.1,.int .i64 (ptD (alF (((foV (gtP l (0))).1),(0:Int)) (List.drop (1) l)).1).2.2.1,.sl opS (ptD (alF (((foV (gtP l (0))).1),(0:Int)) (List.drop (1) l)).1).2.2.2.1])]))):=by kernel_rfl
end Go.Proofs.YticpkibnhakgbaaDoor
namespace Go.Proofs.YticpkibnhakgbaaDoor
open Go.Px Go.Ax
set_option maxRecDepth 100000
attribute [local irreducible] Go.Px.sy Go.Px.syE
def ctAl:Ctr:=⟨[.sl paS],fun x=>List.length x.1<1099511627776,fun x=>[paV (allV x.1).1,.int .i64 (allV x.1).2],fun _=>[]⟩
theorem al_err {l:List PaT} {z:Int} {bl:List (Nat × LB)} (h:allV l=(zP,z)):QC ctAl (l,()) [.agg [.bool false,.int .i64 0,.int .i64 0,.nils],.int .i64 z] bl:=
 QC.mt (by show MtL _ [paV (allV l).1,.int .i64 (allV l).2] _;rw[h];exact zero_mt _) rfl
theorem al_fin {l:List PaT} {r:PaT × Int} {bl:List (Nat × LB)} (h:allV l=r):QC ctAl (l,()) [paV r.1,.int .i64 r.2] bl:=
 QC.flat (by show [paV (allV l).1,.int .i64 (allV l).2]=_;rw[h]) rfl rfl
theorem all_run (l:List PaT) (hl:l.length<1099511627776) (R:List Item→PS→Prop):sy tt G0 CAl Tryd.f11.ntmps Tryd.f11.results.toList (QC ctAl (l,())) R 1000 [.code (bodyOf Tryd.f11)] (entry [.sl paS] (l,())):=by
 refine (vc_all l _ _).mpr (bc_of (fun h=>?_) (fun h=>?_))
 ·have h:(l.length:Int)=0:=of_decide_eq_true h
  have e:l=[]:=List.eq_nil_of_length_eq_zero (by omega)
  exact al_err (by rw[e];rfl)
 ·have h:¬ (l.length:Int)=0:=of_decide_eq_false h
  have e:l=gtP l 0::l.drop 1:=by
   have:=List.drop_eq_getElem_cons (l:=l) (i:=0) (by omega)
   rw[List.drop_zero] at this
   rw[gtP_at (by omega)];exact this
  have ha:allV l=if (foV (gtP l 0)).2≠0 then (zP,(foV (gtP l 0)).2) else alF (foV (gtP l 0)) (l.drop 1):=by
   rw[e];rfl
  refine ⟨by omega,by omega,trivial,bc_of (fun h2=>?_) (fun h2=>?_)⟩
  ·have h2:(foV (gtP l 0)).2≠0:=of_decide_eq_true h2
   rw[if_pos h2] at ha
   exact al_err ha
  ·have h2:¬ (foV (gtP l 0)).2≠0:=of_decide_eq_false h2
   rw[if_neg h2,show foV (gtP l 0)=((foV (gtP l 0)).1,0) from Prod.ext rfl (by omega)] at ha
   exact ⟨by omega,by omega,(show (l.drop 1).length<1099511627776 by rw[List.length_drop];omega),al_fin ha⟩
theorem all_held:Held Tryd.prog G0 11 ctAl:=Held.run cxAl (fn:=Tryd.f11) rfl rfl ⟨by decide,by decide⟩ fun ⟨l,_⟩ hp=>all_run l hp _
end Go.Proofs.YticpkibnhakgbaaDoor
namespace Go.Proofs.YticpkibnhakgbaaDoor
open Go.Px Go.Ax
set_option maxRecDepth 100000
abbrev RaT:Type:=Int × List (List Int)
set_option maxRecDepth 100000
end Go.Proofs.YticpkibnhakgbaaDoor
namespace Go.Proofs.YticpkibnhakgbaaDoor
open Go.Px Go.Ax
set_option maxRecDepth 100000
attribute [local irreducible] Go.Px.sy Go.Px.syE
theorem szV_out {l:List (List Int)} {m:Int} (hl:preL4 l) (h0:0≤m):0≤(szV l m).2.2.1∧(szV l m).2.2.1≤30:=szO_sum hl h0
end Go.Proofs.YticpkibnhakgbaaDoor
namespace Go.Proofs.YticpkibnhakgbaaDoor
open Go.Px Go.Ax
set_option maxRecDepth 100000
def CSc:CV:=[(14,.inl ctCo),(11,.inl ctAl),(17,.inl ctTh),(13,.inl ctSm),(31,.inl ctRw)]
theorem cxSc:CxOK Tryd.prog tt G0 CSc:=((((cx0.cons rw_held (fn:=Tryd.f31) rfl rfl rfl).cons sm_held (fn:=Tryd.f13) rfl rfl rfl).cons th_held (fn:=Tryd.f17) rfl rfl rfl).cons all_held (fn:=Tryd.f11) rfl rfl rfl).cons co_held (fn:=Tryd.f14) rfl rfl rfl
set_option maxRecDepth 100000
theorem vc_csan  (Q:QT) (R:RT):sy tt G0 CSc Tryd.f9.ntmps Tryd.f9.results.toList Q R 1000 [.code (bodyOf Tryd.f9)] (entry [] ()) =
  (0+(2:Nat)≤(((List.replicate (2:Nat) uB.dflt).set (0:Nat) (1:Int)).set (1:Nat) (2:Int)).length ∧
 0+(2:Nat)≤(((List.replicate (2:Nat) uB.dflt).set (0:Nat) (1:Int)).set (1:Nat) (2:Int)).length ∧
 0+(2:Nat)≤(((List.replicate (2:Nat) uB.dflt).set (0:Nat) (255:Int)).set (1:Nat) (254:Int)).length ∧
 0+(2:Nat)≤(((List.replicate (2:Nat) uB.dflt).set (0:Nat) (255:Int)).set (1:Nat) (254:Int)).length ∧
 0+(1:Nat)≤([((1:Int),(1:Int),(2:Int),(0:Int),[])]:List opS.D).length ∧
 0+(1:Nat)≤([((1:Int),(1:Int),(2:Int),(0:Int),[])]:List opS.D).length ∧
 0+(1:Nat)≤([((1:Int),(1:Int),(2:Int),(0:Int),[])]:List opS.D).length ∧
 0+(1:Nat)≤([((1:Int),(1:Int),(2:Int),(0:Int),[])]:List opS.D).length ∧
 0+(2:Nat)≤(((List.replicate (2:Nat) opS.dflt).set (0:Nat) ((1:Int),(1:Int),(1:Int),(0:Int),[])).set (1:Nat) ((3:Int),(0:Int),(1:Int),(9:Int),[])).length ∧
 0+(2:Nat)≤(((List.replicate (2:Nat) opS.dflt).set (0:Nat) ((1:Int),(1:Int),(1:Int),(0:Int),[])).set (1:Nat) ((3:Int),(0:Int),(1:Int),(9:Int),[])).length ∧
 0+(2:Nat)≤(((List.replicate (2:Nat) opS.dflt).set (0:Nat) ((1:Int),(1:Int),(1:Int),(0:Int),[])).set (1:Nat) ((3:Int),(0:Int),(1:Int),(9:Int),[])).length ∧
 0+(2:Nat)≤(((List.replicate (2:Nat) opS.dflt).set (0:Nat) ((1:Int),(1:Int),(1:Int),(0:Int),[])).set (1:Nat) ((3:Int),(0:Int),(1:Int),(9:Int),[])).length ∧
 ctCo.pre ((false,(3:Int),(2:Int),([((1:Int),(1:Int),(2:Int),(0:Int),[])]:List opS.D)),(false,(2:Int),(2:Int),winL opS (0:Nat) (2:Nat) (((List.replicate (2:Nat) opS.dflt).set (0:Nat) ((1:Int),(1:Int),(1:Int),(0:Int),[])).set (1:Nat) ((3:Int),(0:Int),(1:Int),(9:Int),[]))),()) ∧
 0+(1:Nat)≤([((2:Int),(0:Int),(2:Int),(0:Int),winL uB (0:Nat) (2:Nat) (((List.replicate (2:Nat) uB.dflt).set (0:Nat) (1:Int)).set (1:Nat) (2:Int)))]:List opS.D).length ∧
 0+(1:Nat)≤([((2:Int),(0:Int),(2:Int),(0:Int),winL uB (0:Nat) (2:Nat) (((List.replicate (2:Nat) uB.dflt).set (0:Nat) (1:Int)).set (1:Nat) (2:Int)))]:List opS.D).length ∧
 0+(1:Nat)≤([((2:Int),(0:Int),(2:Int),(0:Int),winL uB (0:Nat) (2:Nat) (((List.replicate (2:Nat) uB.dflt).set (0:Nat) (1:Int)).set (1:Nat) (2:Int)))]:List opS.D).length ∧
 0+(1:Nat)≤([((2:Int),(0:Int),(2:Int),(0:Int),winL uB (0:Nat) (2:Nat) (((List.replicate (2:Nat) uB.dflt).set (0:Nat) (1:Int)).set (1:Nat) (2:Int)))]:List opS.D).length ∧
 0+(1:Nat)≤([((2:Int),(0:Int),(2:Int),(0:Int),winL uB (0:Nat) (2:Nat) (((List.replicate (2:Nat) uB.dflt).set (0:Nat) (255:Int)).set (1:Nat) (254:Int)))]:List opS.D).length ∧
 0+(1:Nat)≤([((2:Int),(0:Int),(2:Int),(0:Int),winL uB (0:Nat) (2:Nat) (((List.replicate (2:Nat) uB.dflt).set (0:Nat) (255:Int)).set (1:Nat) (254:Int)))]:List opS.D).length ∧
 0+(1:Nat)≤([((2:Int),(0:Int),(2:Int),(0:Int),winL uB (0:Nat) (2:Nat) (((List.replicate (2:Nat) uB.dflt).set (0:Nat) (255:Int)).set (1:Nat) (254:Int)))]:List opS.D).length ∧
 0+(1:Nat)≤([((2:Int),(0:Int),(2:Int),(0:Int),winL uB (0:Nat) (2:Nat) (((List.replicate (2:Nat) uB.dflt).set (0:Nat) (255:Int)).set (1:Nat) (254:Int)))]:List opS.D).length ∧
 ctCo.pre ((false,(2:Int),(2:Int),([((2:Int),(0:Int),(2:Int),(0:Int),winL uB (0:Nat) (2:Nat) (((List.replicate (2:Nat) uB.dflt).set (0:Nat) (1:Int)).set (1:Nat) (2:Int)))]:List opS.D)),(false,(2:Int),(2:Int),([((2:Int),(0:Int),(2:Int),(0:Int),winL uB (0:Nat) (2:Nat) (((List.replicate (2:Nat) uB.dflt).set (0:Nat) (255:Int)).set (1:Nat) (254:Int)))]:List opS.D)),()) ∧
 0+(1:Nat)≤([((3:Int),(0:Int),(4:Int),(5:Int),[])]:List opS.D).length ∧
 0+(1:Nat)≤([((3:Int),(0:Int),(4:Int),(5:Int),[])]:List opS.D).length ∧
 0+(1:Nat)≤([((3:Int),(0:Int),(4:Int),(5:Int),[])]:List opS.D).length ∧
 0+(1:Nat)≤([((3:Int),(0:Int),(4:Int),(5:Int),[])]:List opS.D).length ∧
 0+(1:Nat)≤([((1:Int),(0:Int),(2:Int),(0:Int),[])]:List opS.D).length ∧
 0+(1:Nat)≤([((1:Int),(0:Int),(2:Int),(0:Int),[])]:List opS.D).length ∧
 0+(1:Nat)≤([((1:Int),(0:Int),(2:Int),(0:Int),[])]:List opS.D).length ∧
 0+(1:Nat)≤([((1:Int),(0:Int),(2:Int),(0:Int),[])]:List opS.D).length ∧
 ctCo.pre ((false,(0:Int),(4:Int),([((3:Int),(0:Int),(4:Int),(5:Int),[])]:List opS.D)),(false,(4:Int),(2:Int),([((1:Int),(0:Int),(2:Int),(0:Int),[])]:List opS.D)),()) ∧
 ctCo.pre ((false,(3:Int),(2:Int),([((1:Int),(1:Int),(2:Int),(0:Int),[])]:List opS.D)),(false,(4:Int),(2:Int),([((1:Int),(0:Int),(2:Int),(0:Int),[])]:List opS.D)),()) ∧
 ctAl.pre ([],()) ∧
 ctCo.pre ((false,(3:Int),(2:Int),([((1:Int),(1:Int),(2:Int),(0:Int),[])]:List opS.D)),(true,(2:Int),(2:Int),winL opS (0:Nat) (2:Nat) (((List.replicate (2:Nat) opS.dflt).set (0:Nat) ((1:Int),(1:Int),(1:Int),(0:Int),[])).set (1:Nat) ((3:Int),(0:Int),(1:Int),(9:Int),[]))),()) ∧
 0+(1:Nat)≤([(true,(0:Int),(0:Int))]:List syS.D).length ∧
 ctTh.pre ([],([(true,(0:Int),(0:Int))]:List syS.D),()) ∧
 0+(1:Nat)≤([(9:Int)]:List uB.D).length ∧
 0+(2:Nat)≤(((List.replicate (2:Nat) opS.dflt).set (0:Nat) ((1:Int),(2:Int),(1:Int),(0:Int),[])).set (1:Nat) ((4:Int),(0:Int),(1:Int),(0:Int),([(9:Int)]:List uB.D))).length ∧
 ctSm.pre (((coV (false,(3:Int),(2:Int),([((1:Int),(1:Int),(2:Int),(0:Int),[])]:List opS.D)) (false,(2:Int),(2:Int),winL opS (0:Nat) (2:Nat) (((List.replicate (2:Nat) opS.dflt).set (0:Nat) ((1:Int),(1:Int),(1:Int),(0:Int),[])).set (1:Nat) ((3:Int),(0:Int),(1:Int),(9:Int),[])))).1),(false,(3:Int),(2:Int),winL opS (0:Nat) (2:Nat) (((List.replicate (2:Nat) opS.dflt).set (0:Nat) ((1:Int),(2:Int),(1:Int),(0:Int),[])).set (1:Nat) ((4:Int),(0:Int),(1:Int),(0:Int),([(9:Int)]:List uB.D)))),()) ∧
 ctRw.pre ((2:Int),()) ∧
 ctSm.pre (((coV (false,(2:Int),(2:Int),([((2:Int),(0:Int),(2:Int),(0:Int),winL uB (0:Nat) (2:Nat) (((List.replicate (2:Nat) uB.dflt).set (0:Nat) (1:Int)).set (1:Nat) (2:Int)))]:List opS.D)) (false,(2:Int),(2:Int),([((2:Int),(0:Int),(2:Int),(0:Int),winL uB (0:Nat) (2:Nat) (((List.replicate (2:Nat) uB.dflt).set (0:Nat) (255:Int)).set (1:Nat) (254:Int)))]:List opS.D))).1),(rwV (2:Int)),()) ∧
 0+(1:Nat)≤([((3:Int),(0:Int),(2:Int),(5:Int),[])]:List opS.D).length ∧
 ctSm.pre (((coV (false,(0:Int),(4:Int),([((3:Int),(0:Int),(4:Int),(5:Int),[])]:List opS.D)) (false,(4:Int),(2:Int),([((1:Int),(0:Int),(2:Int),(0:Int),[])]:List opS.D))).1),(false,(0:Int),(2:Int),([((3:Int),(0:Int),(2:Int),(5:Int),[])]:List opS.D)),()) ∧
 Q [.bool (decide ((thV [] (([(true,(0:Int),(0:Int))]:List syS.D))).2=(61:Int)))] [(1,.var [.bool false,.int .i64 3,.int .i64 2,.sl opS (([((1:Int),(1:Int),(2:Int),(0:Int),[])]:List opS.D))]),(2,.var [.bool false,.int .i64 2,.int .i64 2,.sl opS (winL opS (0:Nat) (2:Nat) (((List.replicate (2:Nat) opS.dflt).set (0:Nat) ((1:Int),(1:Int),(1:Int),(0:Int),[])).set (1:Nat) ((3:Int),(0:Int),(1:Int),(9:Int),[])))]),(3,.var [.bool false,.int .i64 2,.int .i64 2,.sl opS (([((2:Int),(0:Int),(2:Int),(0:Int),winL uB (0:Nat) (2:Nat) (((List.replicate (2:Nat) uB.dflt).set (0:Nat) (1:Int)).set (1:Nat) (2:Int)))]:List opS.D))]),(4,.var [.bool false,.int .i64 2,.int .i64 2,.sl opS (([((2:Int),(0:Int),(2:Int),(0:Int),winL uB (0:Nat) (2:Nat) (((List.replicate (2:Nat) uB.dflt).set (0:Nat) (255:Int)).set (1:Nat) (254:Int)))]:List opS.D))]),(5,.var [.bool false,.int .i64 0,.int .i64 4,.sl opS (([((3:Int),(0:Int),(4:Int),(5:Int),[])]:List opS.D))]),(6,.var [.bool false,.int .i64 4,.int .i64 2,.sl opS (([((1:Int),(0:Int),(2:Int),(0:Int),[])]:List opS.D))]),(7,.var [.bool (coV (false,(3:Int),(2:Int),([((1:Int),(1:Int),(2:Int),(0:Int),[])]:List opS.D)) (false,(2:Int),(2:Int),winL opS (0:Nat) (2:Nat) (((List.replicate (2:Nat) opS.dflt).set (0:Nat) ((1:Int),(1:Int),(1:Int),(0:Int),[])).set (1:Nat) ((3:Int),(0:Int),(1:Int),(9:Int),[])))).1.1,.int .i64 (coV (false,(3:Int),(2:Int),([((1:Int),(1:Int),(2:Int),(0:Int),[])]:List opS.D)) (false,(2:Int),(2:Int),winL opS (0:Nat) (2:Nat) (((List.replicate (2:Nat) opS.dflt).set (0:Nat) ((1:Int),(1:Int),(1:Int),(0:Int),[])).set (1:Nat) ((3:Int),(0:Int),(1:Int),(9:Int),[])))).1.2.1,.int .i64 (coV (false,(3:Int),(2:Int),([((1:Int),(1:Int),(2:Int),(0:Int),[])]:List opS.D)) (false,(2:Int),(2:Int),winL opS (0:Nat) (2:Nat) (((List.replicate (2:Nat) opS.dflt).set (0:Nat) ((1:Int),(1:Int),(1:Int),(0:Int),[])).set (1:Nat) ((3:Int),(0:Int),(1:Int),(9:Int),[])))).1.2.2.1,.sl opS (coV (false,(3:Int),(2:Int),([((1:Int),(1:Int),(2:Int),(0:Int),[])]:List opS.D)) (false,(2:Int),(2:Int),winL opS (0:Nat) (2:Nat) (((List.replicate (2:Nat) opS.dflt).set (0:Nat) ((1:Int),(1:Int),(1:Int),(0:Int),[])).set (1:Nat) ((3:Int),(0:Int),(1:Int),(9:Int),[])))).1.2.2.2]),(9,.var [.bool (coV (false,(2:Int),(2:Int),([((2:Int),(0:Int),(2:Int),(0:Int),winL uB (0:Nat) (2:Nat) (((List.replicate (2:Nat) uB.dflt).set (0:Nat) (1:Int)).set (1:Nat) (2:Int)))]:List opS.D)) (false,(2:Int),(2:Int),([((2:Int),(0:Int),(2:Int),(0:Int),winL uB (0:Nat) (2:Nat) (((List.replicate (2:Nat) uB.dflt).set (0:Nat) (255:Int)).set (1:Nat) (254:Int)))]:List opS.D))).1.1,.int .i64 (coV (false,(2:Int),(2:Int),([((2:Int),(0:Int),(2:Int),(0:Int),winL uB (0:Nat) (2:Nat) (((List.replicate (2:Nat) uB.dflt).set (0:Nat) (1:Int)).set (1:Nat) (2:Int)))]:List opS.D)) (false,(2:Int),(2:Int),([((2:Int),(0:Int),(2:Int),(0:Int),winL uB (0:Nat) (2:Nat) (((List.replicate (2:Nat) uB.dflt).set (0:Nat) (255:Int)).set (1:Nat) (254:Int)))]:List opS.D))).1.2.1,.int .i64 (coV (false,(2:Int),(2:Int),([((2:Int),(0:Int),(2:Int),(0:Int),winL uB (0:Nat) (2:Nat) (((List.replicate (2:Nat) uB.dflt).set (0:Nat) (1:Int)).set (1:Nat) (2:Int)))]:List opS.D)) (false,(2:Int),(2:Int),([((2:Int),(0:Int),(2:Int),(0:Int),winL uB (0:Nat) (2:Nat) (((List.replicate (2:Nat) uB.dflt).set (0:Nat) (255:Int)).set (1:Nat) (254:Int)))]:List opS.D))).1.2.2.1,.sl opS (coV (false,(2:Int),(2:Int),([((2:Int),(0:Int),(2:Int),(0:Int),winL uB (0:Nat) (2:Nat) (((List.replicate (2:Nat) uB.dflt).set (0:Nat) (1:Int)).set (1:Nat) (2:Int)))]:List opS.D)) (false,(2:Int),(2:Int),([((2:Int),(0:Int),(2:Int),(0:Int),winL uB (0:Nat) (2:Nat) (((List.replicate (2:Nat) uB.dflt).set (0:Nat) (255:Int)).set (1:Nat) (254:Int)))]:List opS.D))).1.2.2.2]),(11,.var [.bool (coV (false,(0:Int),(4:Int),([((3:Int),(0:Int),(4:Int),(5:Int),[])]:List opS.D)) (false,(4:Int),(2:Int),([((1:Int),(0:Int),(2:Int),(0:Int),[])]:List opS.D))).1.1,.int .i64 (coV (false,(0:Int),(4:Int),([((3:Int),(0:Int),(4:Int),(5:Int),[])]:List opS.D)) (false,(4:Int),(2:Int),([((1:Int),(0:Int),(2:Int),(0:Int),[])]:List opS.D))).1.2.1,.int .i64 (coV (false,(0:Int),(4:Int),([((3:Int),(0:Int),(4:Int),(5:Int),[])]:List opS.D)) (false,(4:Int),(2:Int),([((1:Int),(0:Int),(2:Int),(0:Int),[])]:List opS.D))).1.2.2.1,.sl opS (coV (false,(0:Int),(4:Int),([((3:Int),(0:Int),(4:Int),(5:Int),[])]:List opS.D)) (false,(4:Int),(2:Int),([((1:Int),(0:Int),(2:Int),(0:Int),[])]:List opS.D))).1.2.2.2]),(13,.var [.bool (coV (false,(3:Int),(2:Int),([((1:Int),(1:Int),(2:Int),(0:Int),[])]:List opS.D)) (false,(4:Int),(2:Int),([((1:Int),(0:Int),(2:Int),(0:Int),[])]:List opS.D))).1.1,.int .i64 (coV (false,(3:Int),(2:Int),([((1:Int),(1:Int),(2:Int),(0:Int),[])]:List opS.D)) (false,(4:Int),(2:Int),([((1:Int),(0:Int),(2:Int),(0:Int),[])]:List opS.D))).1.2.1,.int .i64 (coV (false,(3:Int),(2:Int),([((1:Int),(1:Int),(2:Int),(0:Int),[])]:List opS.D)) (false,(4:Int),(2:Int),([((1:Int),(0:Int),(2:Int),(0:Int),[])]:List opS.D))).1.2.2.1,.sl opS (coV (false,(3:Int),(2:Int),([((1:Int),(1:Int),(2:Int),(0:Int),[])]:List opS.D)) (false,(4:Int),(2:Int),([((1:Int),(0:Int),(2:Int),(0:Int),[])]:List opS.D))).1.2.2.2]),(15,.var [.bool (allV []).1.1,.int .i64 (allV []).1.2.1,.int .i64 (allV []).1.2.2.1,.sl opS (allV []).1.2.2.2]),(17,.var [.bool true,.int .i64 2,.int .i64 2,.sl opS (winL opS (0:Nat) (2:Nat) (((List.replicate (2:Nat) opS.dflt).set (0:Nat) ((1:Int),(1:Int),(1:Int),(0:Int),[])).set (1:Nat) ((3:Int),(0:Int),(1:Int),(9:Int),[])))]),(18,.var [.bool (coV (false,(3:Int),(2:Int),([((1:Int),(1:Int),(2:Int),(0:Int),[])]:List opS.D)) (true,(2:Int),(2:Int),winL opS (0:Nat) (2:Nat) (((List.replicate (2:Nat) opS.dflt).set (0:Nat) ((1:Int),(1:Int),(1:Int),(0:Int),[])).set (1:Nat) ((3:Int),(0:Int),(1:Int),(9:Int),[])))).1.1,.int .i64 (coV (false,(3:Int),(2:Int),([((1:Int),(1:Int),(2:Int),(0:Int),[])]:List opS.D)) (true,(2:Int),(2:Int),winL opS (0:Nat) (2:Nat) (((List.replicate (2:Nat) opS.dflt).set (0:Nat) ((1:Int),(1:Int),(1:Int),(0:Int),[])).set (1:Nat) ((3:Int),(0:Int),(1:Int),(9:Int),[])))).1.2.1,.int .i64 (coV (false,(3:Int),(2:Int),([((1:Int),(1:Int),(2:Int),(0:Int),[])]:List opS.D)) (true,(2:Int),(2:Int),winL opS (0:Nat) (2:Nat) (((List.replicate (2:Nat) opS.dflt).set (0:Nat) ((1:Int),(1:Int),(1:Int),(0:Int),[])).set (1:Nat) ((3:Int),(0:Int),(1:Int),(9:Int),[])))).1.2.2.1,.sl opS (coV (false,(3:Int),(2:Int),([((1:Int),(1:Int),(2:Int),(0:Int),[])]:List opS.D)) (true,(2:Int),(2:Int),winL opS (0:Nat) (2:Nat) (((List.replicate (2:Nat) opS.dflt).set (0:Nat) ((1:Int),(1:Int),(1:Int),(0:Int),[])).set (1:Nat) ((3:Int),(0:Int),(1:Int),(9:Int),[])))).1.2.2.2]),(82,.row 66 syS ([(true,(0:Int),(0:Int))]:List syS.D)),(114,.row 69 opS ([((3:Int),(0:Int),(2:Int),(5:Int),[])]:List opS.D)),(1339968,.row 66 syS (thV [] (([(true,(0:Int),(0:Int))]:List syS.D))).1)]):=by kernel_rfl
end Go.Proofs.YticpkibnhakgbaaDoor
namespace Go.Proofs.YticpkibnhakgbaaDoor
open Go.Px Go.Ax
set_option maxRecDepth 100000
attribute [local irreducible] Go.Px.sy Go.Px.syE
def ctSn9:Ctr:=⟨[],fun _=>True,fun _=>[.bool true],fun _=>[]⟩
theorem csan_run (R:List Item→PS→Prop):sy tt G0 CSc Tryd.f9.ntmps Tryd.f9.results.toList (QC ctSn9 ()) R 1000 [.code (bodyOf Tryd.f9)] (entry [] ()):=by
 refine (vc_csan _ _).mpr ?_
 repeat' first
  | exact trivial
  | (show List.length _<1000000;decide +kernel)
  | (show List.length _<16777216;decide +kernel)
  | (show List.length _<1099511627776;decide +kernel)
  | decide +kernel
  | refine And.intro ?_ ?_
  | (refine QC.flat ?_ rfl rfl)
  | (refine congrArg (fun b=>[SV.bool b]) ?_;decide +kernel)
theorem csan_held:Held Tryd.prog G0 9 ctSn9:=Held.run cxSc (fn:=Tryd.f9) rfl rfl ⟨by decide,by decide⟩ fun x _=>csan_run _
end Go.Proofs.YticpkibnhakgbaaDoor
namespace Go.Proofs.YticpkibnhakgbaaDoor
open Go.Px Go.Ax
set_option maxRecDepth 100000
set_option maxRecDepth 100000
end Go.Proofs.YticpkibnhakgbaaDoor
namespace Go.Proofs.YticpkibnhakgbaaDoor
open Go.Px Go.Ax
set_option maxRecDepth 100000
structure Fit (p:PaT) (t:List PaT):Prop where
 ok:(chkV p).2=0
 li:p.1=false
 out:p.2.2.1≤4096
 ch:chn false p.2.2.1 t
 by0:byL (symF p.2.2.2)
 by1:∀ q∈t,byL (symF q.2.2.2)
 len:t.length≤3
 in_:0≤p.2.1∧p.2.1≤12
theorem ch_ops {m:Int} {s:List SyT} (hr:∀ x∈s,sOK m x=true) (h0:0≤m) (h1:m≤65536) (hl:s.length≤4096):(chL s).length≤4096:=(poV_ok hr h0 h1 hl).2.2.2.2.1
theorem Fit.all {p:PaT} {t:List PaT} (h:Fit p t):allV (p::t)=(nfP false p.2.1 (syC (symF p.2.2.2) t),0)∧(∀ x∈syC (symF p.2.2.2) t,sOK p.2.1 x=true)∧(syC (symF p.2.2.2) t).length≤4096∧(chL (syC (symF p.2.2.2) t)).length≤4096:=by
 have ha:=all_nf h.ok h.out (by rw[h.li];exact h.ch)
 obtain ⟨r1,r2,r3⟩:=sy_right h.ok
 have ho:=h.out
 obtain ⟨k1,k2⟩:=syC_ok (m:=p.2.1) (li:=false) (l:=t) r1 (by omega) (by rw[r3];exact h.ch)
 rw[h.li] at ha
 exact ⟨ha,k1,k2,ch_ops k1 r2.1 r2.2 k2⟩
end Go.Proofs.YticpkibnhakgbaaDoor
namespace Go.Proofs.YticpkibnhakgbaaDoor
open Go.Px Go.Ax
def u8L (b:List Int):Prop:=∀ j,0≤gtB b j∧gtB b j<256
theorem u8_wf {n:Int} (h:wfD uB n):0≤n∧n<256:=by
 have h:(Lit.int IntKind.u8 n).wf=true:=h
 simp[Lit.wf,IntKind.min,IntKind.max,IntKind.signed,IntKind.bits] at h
 omega
theorem u8_of {l:List Int} (h:∀ x∈l,wfD uB x):u8L l:=fun j=>by
 by_cases hj:j<l.length
 ·rw[gtB_at hj];exact u8_wf (h _ (List.getElem_mem hj))
 ·have:gtB l j=0:=by
   show gt uB _ _=_
   unfold gt
   rw[List.getElem?_eq_none (by omega)];rfl
  rw[this];decide
theorem l4_of {l:List (List Int)} (h:∀ x∈l,wfD a4S x):preL4 l:=fun j=>by
 by_cases hj:j<l.length
 ·have e:gt a4S l j=l[j]:=gtE (e:=a4S) hj
  rw[e]
  exact u8_of (h _ (List.getElem_mem hj)).2
 ·have:gt a4S l j=List.replicate 4 (0:Int):=by
   unfold gt
   rw[List.getElem?_eq_none (by omega)];rfl
  rw[this]
  exact u8_of fun x hx=>by
   rw[List.eq_of_mem_replicate hx];rfl
theorem m6_of {x:Int × List (List Int)} (h:wfD raS x):preM6 x.1 x.2:=⟨u8_wf h.1,l4_of h.2.2,h.2.1⟩
theorem G_get {g:Nat} {x:ABlk} (h:rawG.get g=some x):g=0∧x=.cells costCells 118 2:=by
 unfold rawG T.get at h
 split at h
 ·rename_i e;cases h;exact ⟨e,rfl⟩
 ·split at h <;> (simp[T.get] at h)
theorem hG:Glob G0.raw:=⟨fun g x h=>by rw[(G_get h).1];decide,fun g x h=>by rw[(G_get h).2];decide⟩
abbrev H0:AHeap:=⟨nglob,G0.raw⟩
def Z0:Nat→Option ABlk:=fun g=>rawG.get g
theorem gz0:GZ Z0 G0:=by
 refine ⟨fun g x e=>?_,fun g x e=>e⟩
 simp only[G0,lk] at e
 split at e
 ·rename_i h;subst h;cases e
  refine ⟨by decide,fun ν=>⟨0,0,costCells,118,2,rfl,rfl,by decide,?_⟩⟩
  exact rv_of (.arr 5 coS) costsL ⟨rfl,fun x _=>⟨trivial,trivial⟩⟩
 ·cases e
theorem fro0:Px.Fro G0 H0:=⟨fun i x h=>by rw[(G_get h).2];rfl,fun i x h=>by rw[(G_get h).2];trivial,fun i x h=>by rw[(G_get h).1];decide,gz0⟩
end Go.Proofs.YticpkibnhakgbaaDoor
namespace Go.Proofs.YticpkibnhakgbaaDoor
open Go.Px Go.Ax
end Go.Proofs.YticpkibnhakgbaaDoor
namespace Go.Proofs.YticpkibnhakgbaaDoor
open Go.Px Go.Ax
set_option maxRecDepth 100000
attribute [local irreducible] Go.Px.sy Go.Px.syE
end Go.Proofs.YticpkibnhakgbaaDoor
namespace Go.Proofs.YticpkibnhakgbaaDoor
open Go.Px Go.Ax
set_option maxRecDepth 100000
def preLe (m:Nat) (l:List SyT):Prop:=l.length<m∧l.length≤65536∧∃ a:Int,a<16777216∧∀ s∈l,sOK a s=true
def ctLe (m:Nat):Ctr:=⟨[.sl syS],fun x=>preLe m x.1,fun x=>[.int .i64 (cst x.1)],fun _=>[]⟩
def CLe (m:Nat):CV:=[(44,.inl ctFt),(45,.inl ctPr),(27,.inl (ctLe m))]
set_option maxRecDepth 100000
theorem vc_le (m:Nat) (l:List SyT) (Q:QT) (R:RT):sy tt G0 (CLe m) Tryd.f27.ntmps Tryd.f27.results.toList Q (fun it S=>R it (keepS [0,3,4,5] [] S)) 1000 [.code (bodyOf Tryd.f27)] (entry [.sl syS] (l,())) =
  (bc (decide ((l.length:Int)=(0:Int))) (Q [.int .i64 0] []) (R (hd Tryd.f27 0) { env:=[(0,.sl syS l),(3,.int .i64 (-1:Int)),(4,.int .i64 1)],blk:=[] })):=by kernel_rfl
theorem vc_leO (m:Nat) (l:List SyT) (z k:Int) (Q:QT) (R:RT):sy tt G0 (CLe m) Tryd.f27.ntmps Tryd.f27.results.toList Q (fun it S=>R it (keepS [0,3,4,5] [] S)) 1000 (hd Tryd.f27 0) ⟨[(0,.sl syS l),(3,.int .i64 z),(4,.int .i64 k)],[]⟩ =
  (bc (decide (k≤(4:Int))) (R (hd Tryd.f27 1) { env:=[(0,.sl syS l),(3,.int .i64 z),(4,.int .i64 k),(5,.int .i64 1)],blk:=[] }) (Q [.int .i64 z] [])):=by kernel_rfl
theorem vc_leI (m:Nat) (l:List SyT) (z k:Int) (n:Nat) (Q:QT) (R:RT):sy tt G0 (CLe m) Tryd.f27.ntmps Tryd.f27.results.toList Q (fun it S=>R it (keepS [0,3,4,5] [] S)) 1000 (hd Tryd.f27 1) ⟨[(0,.sl syS l),(3,.int .i64 z),(4,.int .i64 k),(5,.int .i64 (n:Nat))],[]⟩ =
  (ctFt.pre (k,l,()) ∧
 bc (decide ((n:Int)≤(↑(fitN k l):Int))) (ctPr.pre (k,(n:Int),()) ∧
 (0:Int)≤(n:Int) ∧
 (n:Int)≤(l.length:Int) ∧
 (ctLe m).pre (List.drop (n:Int).toNat l,()) ∧
 bc (decide (z<(0:Int))) (true=true ∧
 R (hd Tryd.f27 1) { env:=[(0,.sl syS l),(3,.int .i64 (IntKind.i64.wrap (hdC k+eaC k*(n:Int)+cst (List.drop (n:Int).toNat l)))),(4,.int .i64 k),(5,.int .i64 (IntKind.i64.wrap ((n:Int)+(1:Int))))],blk:=[] }) (bc (bif false then true else decide (IntKind.i64.wrap (hdC k+eaC k*(n:Int)+cst (List.drop (n:Int).toNat l))<z)) (R (hd Tryd.f27 1) { env:=[(0,.sl syS l),(3,.int .i64 (IntKind.i64.wrap (hdC k+eaC k*(n:Int)+cst (List.drop (n:Int).toNat l)))),(4,.int .i64 k),(5,.int .i64 (IntKind.i64.wrap ((n:Int)+(1:Int))))],blk:=[] }) (R (hd Tryd.f27 1) { env:=[(0,.sl syS l),(3,.int .i64 z),(4,.int .i64 k),(5,.int .i64 (IntKind.i64.wrap ((n:Int)+(1:Int))))],blk:=[] }))) (R (hd Tryd.f27 0) { env:=[(0,.sl syS l),(3,.int .i64 z),(4,.int .i64 (IntKind.i64.wrap (k+(1:Int)))),(5,.int .i64 (n:Int))],blk:=[] })):=by kernel_rfl
end Go.Proofs.YticpkibnhakgbaaDoor
namespace Go.Proofs.YticpkibnhakgbaaDoor
open Go.Px Go.Ax
set_option maxRecDepth 100000
attribute [local irreducible] Go.Px.sy Go.Px.syE
def vLe (k:Int) (n:Nat) (l:List SyT):Int:=hdC k+eaC k*(n:Int)+cst (l.drop n)
def seenL (l:List SyT) (k:Int) (n:Nat) (k':Int) (q:Nat):Prop:=kOK k'∧1≤q∧q≤fitN k' l∧(k'<k∨(k'=k∧q<n))
def invL (l:List SyT) (k:Int) (n:Nat) (z:Int):Prop:=(z = -1∧∀ k' q,¬ seenL l k n k' q)∨(0≤z∧(∃ k' q,seenL l k n k' q∧z=vLe k' q l)∧∀ k' q,seenL l k n k' q→z≤vLe k' q l)
theorem vLe_b {l:List SyT} (hl:l.length≤65536) {k:Int} {n:Nat} (hn:n≤l.length):0≤vLe k n l∧vLe k n l≤1000000:=by
 have h:=bst_bo (l.drop n) (by rw[List.length_drop];omega)
 rw[List.length_drop] at h
 unfold boL at h
 have e:=eaN k n
 have hh:=hdC_b k
 unfold vLe cst
 generalize eaC k*(n:Int)=a at *
 omega
theorem inv_end {l:List SyT} (hl:l.length≤65536) (h0:l≠[]) {z:Int} (h:invL l 5 1 z):z=cst l:=by
 obtain ⟨hb,q,q1,q2,q3,q4,q5,q6⟩:=bst_ne hl h0
 have hs:seenL l 5 1 (bst l).1 q:=⟨hb,q2,q3,by unfold kOK at hb;omega⟩
 rcases h with ⟨_,h⟩ | ⟨_,⟨k',q',h1,h2⟩,h3⟩
 ·exact absurd hs (h _ _)
 ·have a:=h3 _ _ hs
  have b:=cst_le hl h1.1 h1.2.1 h1.2.2.1
  have e1:vLe (bst l).1 q l=cst l:=q5.symm
  have e2:vLe k' q' l=hdC k'+eaC k'*(q':Int)+cst (l.drop q'):=rfl
  omega
theorem inv_next {l:List SyT} {k:Int} (hk:kOK k) {z:Int} (h:invL l k (fitN k l+1) z):invL l (k+1) 1 z:=by
 have e:∀ k' q,seenL l k (fitN k l+1) k' q↔seenL l (k+1) 1 k' q:=fun k' q=>by
  unfold seenL
  constructor
  ·rintro ⟨h1,h2,h3,h4⟩
   exact ⟨h1,h2,h3,by omega⟩
  ·rintro ⟨h1,h2,h3,h4⟩
   refine ⟨h1,h2,h3,?_⟩
   by_cases e:k'=k
   ·subst e;omega
   ·omega
 rcases h with ⟨h1,h2⟩ | ⟨h1,⟨k',q,h2,h3⟩,h4⟩
 ·exact .inl ⟨h1,fun k' q h=>h2 k' q ((e k' q).2 h)⟩
 ·exact .inr ⟨h1,⟨k',q,(e k' q).1 h2,h3⟩,fun k' q h=>h4 k' q ((e k' q).2 h)⟩
theorem inv_step {l:List SyT} (hl:l.length≤65536) {k:Int} (hk:kOK k) {n:Nat} (h1:1≤n) (hn:n≤fitN k l) {z:Int} (h:invL l k n z) :
  invL l k (n+1) (if z<0∨vLe k n l<z then vLe k n l else z):=by
 have hle:=fitN_le k l
 have vb:=vLe_b hl (k:=k) (n:=n) (by omega)
 have me:seenL l k (n+1) k n:=⟨hk,h1,hn,.inr ⟨rfl,by omega⟩⟩
 have more:∀ k' q,seenL l k (n+1) k' q→seenL l k n k' q∨(k'=k∧q=n):=fun k' q ⟨a,b,c,d⟩=>by
  by_cases e:k'=k∧q=n
  ·exact .inr e
  ·exact .inl ⟨a,b,c,by omega⟩
 have less:∀ k' q,seenL l k n k' q→seenL l k (n+1) k' q:=fun k' q ⟨a,b,c,d⟩=>⟨a,b,c,by omega⟩
 rcases h with ⟨h1,h2⟩ | ⟨h1,⟨k',q,h2,h3⟩,h4⟩
 ·rw[if_pos (by omega)]
  refine .inr ⟨vb.1,⟨k,n,me,rfl⟩,fun k' q h=>?_⟩
  rcases more k' q h with h | ⟨e1,e2⟩
  ·exact absurd h (h2 k' q)
  ·subst e1;subst e2;exact Int.le_refl _
 ·by_cases hv:vLe k n l<z
  ·rw[if_pos (.inr hv)]
   refine .inr ⟨vb.1,⟨k,n,me,rfl⟩,fun k' q h=>?_⟩
   rcases more k' q h with h | ⟨e1,e2⟩
   ·have:=h4 k' q h;omega
   ·subst e1;subst e2;exact Int.le_refl _
  ·rw[if_neg (by omega)]
   refine .inr ⟨h1,⟨k',q,less _ _ h2,h3⟩,fun k' q h=>?_⟩
   rcases more k' q h with h | ⟨e1,e2⟩
   ·exact h4 k' q h
   ·subst e1;subst e2;omega
section
variable (m:Nat) (cx:CxOK Tryd.prog tt G0 (CLe m)) (l:List SyT) (hp:preLe (m+1) l) (h0:l≠[])
abbrev LeQ (l:List SyT):List SV→List (Nat × LB)→Prop:=fun rs _=>rs=[.int .i64 (cst l)]
include cx hp h0
theorem leI_loop (k:Int) (hk:kOK k) (nx:∀ z,invL l (k+1) 1 z→GD 27 Tryd.f27 (LeQ l) (hd Tryd.f27 0) ⟨[(0,.sl syS l),(3,.int .i64 z),(4,.int .i64 (k+1))],[]⟩) :
  ∀ (f n:Nat) (z:Int),fitN k l+1-n=f→1≤n→n≤fitN k l+1→invL l k n z →
  GD 27 Tryd.f27 (LeQ l) (hd Tryd.f27 1) ⟨[(0,.sl syS l),(3,.int .i64 z),(4,.int .i64 k),(5,.int .i64 (n:Nat))],[]⟩:=by
 have _:=h0
 have hl:=hp.2.1
 have hle:=fitN_le k l
 have pf:preFt k l:=⟨hk,hp.2.1,hp.2.2⟩
 have wk:IntKind.i64.wrap (k+1)=k+1:=IntWalk.i64_in _ (by unfold kOK at hk;omega)
 intro f
 induction f with
 | zero=>
  intro n z hf h1 hn hi
  have e:n=fitN k l+1:=by omega
  subst e
  refine sy_goK cx (vc_leI m l z k (fitN k l+1) _ _) ?_
  rw[decide_eq_false (by omega),bc_f,wk]
  exact ⟨pf,(nx z (inv_next hk hi)).only ⟨rfl,rfl,rfl,trivial⟩ trivial⟩
 | succ f ih=>
  intro n z hf h1 hn hi
  have hn2:n≤fitN k l:=by omega
  have vb:=vLe_b hl (k:=k) (n:=n) (by omega)
  have nk:=ih (n+1) _ (by omega) (by omega) (by omega) (inv_step hl hk h1 hn2 hi)
  have wn:IntKind.i64.wrap ((n:Int)+1)=((n+1:Nat):Int):=by rw[IntWalk.i64_in _ (by omega)];omega
  have wv:IntKind.i64.wrap (hdC k+eaC k*(n:Int)+cst (l.drop n))=vLe k n l:=IntWalk.i64_in (vLe k n l) (by omega)
  have pd:preLe m (l.drop n):=by
   refine ⟨?_,by rw[List.length_drop];omega,?_⟩
   ·have:=hp.1
    rw[List.length_drop];omega
   ·obtain ⟨a,ha,hr⟩:=hp.2.2
    exact ⟨a,ha,fun s hs=>hr s (List.mem_of_mem_drop hs)⟩
  refine sy_goK cx (vc_leI m l z k n _ _) ?_
  rw[decide_eq_true (show (n:Int)≤(fitN k l:Int) by omega),bc_t,Int.toNat_natCast,wv,wn]
  refine ⟨pf,(show preKN k n from ⟨hk,by omega,by omega⟩),by omega,by omega,pd,bc_of (fun h=>⟨rfl,?_⟩) (fun h=>bc_of (fun h2=>?_) (fun h2=>?_))⟩
  ·have h:z<0:=of_decide_eq_true h
   rw[if_pos (.inl h)] at nk
   exact nk.only ⟨rfl,rfl,rfl,rfl,trivial⟩ trivial
  ·have h2:decide (vLe k n l<z)=true:=h2
   have h2:vLe k n l<z:=of_decide_eq_true h2
   rw[if_pos (.inr h2)] at nk
   exact nk.only ⟨rfl,rfl,rfl,rfl,trivial⟩ trivial
  ·have h:¬ z<0:=of_decide_eq_false h
   have h2:decide (vLe k n l<z)=false:=h2
   have h2:¬ vLe k n l<z:=of_decide_eq_false h2
   rw[if_neg (by omega)] at nk
   exact nk.only ⟨rfl,rfl,rfl,rfl,trivial⟩ trivial
theorem leO_loop:∀ (f:Nat) (k z:Int),(5-k).toNat=f→1≤k→k≤5→invL l k 1 z →
  GD 27 Tryd.f27 (LeQ l) (hd Tryd.f27 0) ⟨[(0,.sl syS l),(3,.int .i64 z),(4,.int .i64 k)],[]⟩:=by
 intro f
 induction f with
 | zero=>
  intro k z hf h1 h5 hi
  have e:k=5:=by omega
  subst e
  refine sy_goK cx (vc_leO m l z 5 _ _) ?_
  rw[decide_eq_false (by omega),bc_f,inv_end hp.2.1 h0 hi]
 | succ f ih=>
  intro k z hf h1 h5 hi
  have hk:kOK k:=by unfold kOK;omega
  refine sy_goK cx (vc_leO m l z k _ _) ?_
  rw[decide_eq_true (show k≤4 by omega),bc_t]
  exact (leI_loop m cx l hp h0 k hk (fun z hz=>ih (k+1) z (by omega) (by omega) (by omega) hz) _ 1 z rfl (Nat.le_refl 1) (by omega) hi).only ⟨rfl,rfl,rfl,rfl,trivial⟩ trivial
end
theorem le_run (m:Nat) (cx:CxOK Tryd.prog tt G0 (CLe m)) (l:List SyT) (hp:preLe (m+1) l):GD 27 Tryd.f27 (QC (ctLe (m+1)) (l,())) [.code (bodyOf Tryd.f27)] (entry [.sl syS] (l,())):=by
 refine sy_goK cx (vc_le m l _ _) (bc_of (fun h=>?_) (fun h=>?_))
 ·have h:(l.length:Int)=0:=of_decide_eq_true h
  have e:l=[]:=List.eq_nil_of_length_eq_zero (by omega)
  subst e
  exact QC.flat rfl rfl rfl
 ·have h:¬ (l.length:Int)=0:=of_decide_eq_false h
  have h0:l≠[]:=fun e=>h (by rw[e];rfl)
  exact ((leO_loop m cx l hp h0 _ 1 (-1) rfl (by omega) (by omega) (.inl ⟨rfl,fun k' q hs=>by obtain ⟨a,b,c,d⟩:=hs;unfold kOK at a;omega⟩)).post fun rs blk hq=>QC.flat (by rw[hq];rfl) rfl (by rw[hq];rfl)).only ⟨rfl,rfl,rfl,trivial⟩ trivial
theorem le_held:∀ m,Held Tryd.prog G0 27 (ctLe m)
 | 0=>fun x hp=>by
  have hp:preLe 0 x.1:=hp
  exact absurd hp.1 (Nat.not_lt_zero _)
 | m+1=>Held.of (((cx0.cons (le_held m) (fn:=Tryd.f27) rfl rfl rfl).cons pr_held (fn:=Tryd.f45) rfl rfl rfl).cons ft_held (fn:=Tryd.f44) rfl rfl rfl) (fn:=Tryd.f27) rfl rfl ⟨(show 1≤Tryd.f27.ntmps by decide),(show 1<1000 by decide)⟩ fun ⟨l,_⟩ hp=>
  le_run m (((cx0.cons (le_held m) (fn:=Tryd.f27) rfl rfl rfl).cons pr_held (fn:=Tryd.f45) rfl rfl rfl).cons ft_held (fn:=Tryd.f44) rfl rfl rfl) l hp
end Go.Proofs.YticpkibnhakgbaaDoor
namespace Go.Proofs.YticpkibnhakgbaaDoor
open Go.Px Go.Ax
set_option maxRecDepth 100000
def CL6:CV:=[(9,.inl ctSn9),(21,.inl ctM6),(23,.inl ctSz),(14,.inl ctCo),(24,.inl ctSym),(25,.inl ctSym),(17,.inl ctTh),(19,.inl ctSS),(26,.inl ctCost),(27,.inl (ctLe 9))]
theorem cxL6:CxOK Tryd.prog tt G0 CL6:=(((((((((cx0.cons (le_held 9) (fn:=Tryd.f27) rfl rfl rfl).cons cost_held (fn:=Tryd.f26) rfl rfl rfl).cons ss_held (fn:=Tryd.f19) rfl rfl rfl).cons th_held (fn:=Tryd.f17) rfl rfl rfl).cons rs_held (fn:=Tryd.f25) rfl rfl rfl).cons sym_held (fn:=Tryd.f24) rfl rfl rfl).cons co_held (fn:=Tryd.f14) rfl rfl rfl).cons sz_held (fn:=Tryd.f23) rfl rfl rfl).cons made6_held (fn:=Tryd.f21) rfl rfl rfl).cons csan_held (fn:=Tryd.f9) rfl rfl rfl
set_option maxRecDepth 100000
def mem_l6_m0 (z z2:Int) (l l2:List (List Int)):List (Nat × LB):=[(2,.var [.int .u8 z,.sl (Sh.arr (4:Nat) uB) l]),(3,.var [.int .u8 z2,.sl (Sh.arr (4:Nat) uB) (List.take (min (l2.length:Int) (2:Int)).toNat l2)]),(6,.var [.bool (szV l (z % (13:Int))).1,.int .i64 (szV l (z % (13:Int))).2.1,.int .i64 (szV l (z % (13:Int))).2.2.1,.sl opS (szV l (z % (13:Int))).2.2.2]),(7,.var [.bool (szV (List.take (min (l2.length:Int) (2:Int)).toNat l2) (szV l (z % (13:Int))).2.2.1).1,.int .i64 (szV (List.take (min (l2.length:Int) (2:Int)).toNat l2) (szV l (z % (13:Int))).2.2.1).2.1,.int .i64 (szV (List.take (min (l2.length:Int) (2:Int)).toNat l2) (szV l (z % (13:Int))).2.2.1).2.2.1,.sl opS (szV (List.take (min (l2.length:Int) (2:Int)).toNat l2) (szV l (z % (13:Int))).2.2.1).2.2.2]),(8,.var [.bool (coV (szV l (z % (13:Int))) (szV (List.take (min (l2.length:Int) (2:Int)).toNat l2) (szV l (z % (13:Int))).2.2.1)).1.1,.int .i64 (coV (szV l (z % (13:Int))) (szV (List.take (min (l2.length:Int) (2:Int)).toNat l2) (szV l (z % (13:Int))).2.2.1)).1.2.1,.int .i64 (coV (szV l (z % (13:Int))) (szV (List.take (min (l2.length:Int) (2:Int)).toNat l2) (szV l (z % (13:Int))).2.2.1)).1.2.2.1,.sl opS (coV (szV l (z % (13:Int))) (szV (List.take (min (l2.length:Int) (2:Int)).toNat l2) (szV l (z % (13:Int))).2.2.1)).1.2.2.2]),(1184320,.row 66 syS (symV ((coV (szV l (z % (13:Int))) (szV (List.take (min (l2.length:Int) (2:Int)).toNat l2) (szV l (z % (13:Int))).2.2.1)).1)).1),(1204800,.row 66 syS (symV (szV l (z % (13:Int)))).1),(1225280,.row 66 syS (symV (szV (List.take (min (l2.length:Int) (2:Int)).toNat l2) (szV l (z % (13:Int))).2.2.1)).1),(1249856,.row 66 syS (thV (winL syS 0 (symV (szV l (z % (13:Int)))).1.length (symV (szV l (z % (13:Int)))).1) (winL syS 0 (symV (szV (List.take (min (l2.length:Int) (2:Int)).toNat l2) (szV l (z % (13:Int))).2.2.1)).1.length (symV (szV (List.take (min (l2.length:Int) (2:Int)).toNat l2) (szV l (z % (13:Int))).2.2.1)).1)).1)]
theorem vc_l6 (z z2:Int) (l l2:List (List Int)) (Q:QT) (R:RT):sy tt G0 CL6 Tryd.f6.ntmps Tryd.f6.results.toList Q R 1000 [.code (bodyOf Tryd.f6)] (entry [raS,raS] ((z,l),(z2,l2),())) =
  (ctSn9.pre () ∧
 ctM6.pre ((z,l),()) ∧
 (0:Int)≤min (l2.length:Int) (2:Int) ∧
 min (l2.length:Int) (2:Int)≤(l2.length:Int) ∧
 ctSz.pre ((z2,List.take (min (l2.length:Int) (2:Int)).toNat l2),(szV l (z % (13:Int))).2.2.1,()) ∧
 bc (decide ((8:Int)<(szV (List.take (min (l2.length:Int) (2:Int)).toNat l2) (szV l (z % (13:Int))).2.2.1).2.2.1)) (Q [.bool true] [(2,.var [.int .u8 z,.sl (Sh.arr (4:Nat) uB) l]),(3,.var [.int .u8 z2,.sl (Sh.arr (4:Nat) uB) (List.take (min (l2.length:Int) (2:Int)).toNat l2)]),(6,.var [.bool (szV l (z % (13:Int))).1,.int .i64 (szV l (z % (13:Int))).2.1,.int .i64 (szV l (z % (13:Int))).2.2.1,.sl opS (szV l (z % (13:Int))).2.2.2]),(7,.var [.bool (szV (List.take (min (l2.length:Int) (2:Int)).toNat l2) (szV l (z % (13:Int))).2.2.1).1,.int .i64 (szV (List.take (min (l2.length:Int) (2:Int)).toNat l2) (szV l (z % (13:Int))).2.2.1).2.1,.int .i64 (szV (List.take (min (l2.length:Int) (2:Int)).toNat l2) (szV l (z % (13:Int))).2.2.1).2.2.1,.sl opS (szV (List.take (min (l2.length:Int) (2:Int)).toNat l2) (szV l (z % (13:Int))).2.2.1).2.2.2])]) (ctCo.pre ((szV l (z % (13:Int))),(szV (List.take (min (l2.length:Int) (2:Int)).toNat l2) (szV l (z % (13:Int))).2.2.1),()) ∧
 ctSym.pre (((coV (szV l (z % (13:Int))) (szV (List.take (min (l2.length:Int) (2:Int)).toNat l2) (szV l (z % (13:Int))).2.2.1)).1),()) ∧
 ctSym.pre ((szV l (z % (13:Int))),()) ∧
 ctSym.pre ((szV (List.take (min (l2.length:Int) (2:Int)).toNat l2) (szV l (z % (13:Int))).2.2.1),()) ∧
 0+(symV (szV l (z % (13:Int)))).1.length≤(symV (szV l (z % (13:Int)))).1.length ∧
 0+(symV (szV (List.take (min (l2.length:Int) (2:Int)).toNat l2) (szV l (z % (13:Int))).2.2.1)).1.length≤(symV (szV (List.take (min (l2.length:Int) (2:Int)).toNat l2) (szV l (z % (13:Int))).2.2.1)).1.length ∧
 ctTh.pre (winL syS 0 (symV (szV l (z % (13:Int)))).1.length (symV (szV l (z % (13:Int)))).1,winL syS 0 (symV (szV (List.take (min (l2.length:Int) (2:Int)).toNat l2) (szV l (z % (13:Int))).2.2.1)).1.length (symV (szV (List.take (min (l2.length:Int) (2:Int)).toNat l2) (szV l (z % (13:Int))).2.2.1)).1,()) ∧
 bc (decide ((coV (szV l (z % (13:Int))) (szV (List.take (min (l2.length:Int) (2:Int)).toNat l2) (szV l (z % (13:Int))).2.2.1)).2=(0:Int))) (bc (decide ((symV ((coV (szV l (z % (13:Int))) (szV (List.take (min (l2.length:Int) (2:Int)).toNat l2) (szV l (z % (13:Int))).2.2.1)).1)).2=(0:Int))) (bc (decide ((thV (winL syS 0 (symV (szV l (z % (13:Int)))).1.length (symV (szV l (z % (13:Int)))).1) (winL syS 0 (symV (szV (List.take (min (l2.length:Int) (2:Int)).toNat l2) (szV l (z % (13:Int))).2.2.1)).1.length (symV (szV (List.take (min (l2.length:Int) (2:Int)).toNat l2) (szV l (z % (13:Int))).2.2.1)).1)).2=(0:Int))) (0+(symV ((coV (szV l (z % (13:Int))) (szV (List.take (min (l2.length:Int) (2:Int)).toNat l2) (szV l (z % (13:Int))).2.2.1)).1)).1.length≤(symV ((coV (szV l (z % (13:Int))) (szV (List.take (min (l2.length:Int) (2:Int)).toNat l2) (szV l (z % (13:Int))).2.2.1)).1)).1.length ∧
 0+(thV (winL syS 0 (symV (szV l (z % (13:Int)))).1.length (symV (szV l (z % (13:Int)))).1) (winL syS 0 (symV (szV (List.take (min (l2.length:Int) (2:Int)).toNat l2) (szV l (z % (13:Int))).2.2.1)).1.length (symV (szV (List.take (min (l2.length:Int) (2:Int)).toNat l2) (szV l (z % (13:Int))).2.2.1)).1)).1.length≤(thV (winL syS 0 (symV (szV l (z % (13:Int)))).1.length (symV (szV l (z % (13:Int)))).1) (winL syS 0 (symV (szV (List.take (min (l2.length:Int) (2:Int)).toNat l2) (szV l (z % (13:Int))).2.2.1)).1.length (symV (szV (List.take (min (l2.length:Int) (2:Int)).toNat l2) (szV l (z % (13:Int))).2.2.1)).1)).1.length ∧
 ctSS.pre (winL syS 0 (symV ((coV (szV l (z % (13:Int))) (szV (List.take (min (l2.length:Int) (2:Int)).toNat l2) (szV l (z % (13:Int))).2.2.1)).1)).1.length (symV ((coV (szV l (z % (13:Int))) (szV (List.take (min (l2.length:Int) (2:Int)).toNat l2) (szV l (z % (13:Int))).2.2.1)).1)).1,winL syS 0 (thV (winL syS 0 (symV (szV l (z % (13:Int)))).1.length (symV (szV l (z % (13:Int)))).1) (winL syS 0 (symV (szV (List.take (min (l2.length:Int) (2:Int)).toNat l2) (szV l (z % (13:Int))).2.2.1)).1.length (symV (szV (List.take (min (l2.length:Int) (2:Int)).toNat l2) (szV l (z % (13:Int))).2.2.1)).1)).1.length (thV (winL syS 0 (symV (szV l (z % (13:Int)))).1.length (symV (szV l (z % (13:Int)))).1) (winL syS 0 (symV (szV (List.take (min (l2.length:Int) (2:Int)).toNat l2) (szV l (z % (13:Int))).2.2.1)).1.length (symV (szV (List.take (min (l2.length:Int) (2:Int)).toNat l2) (szV l (z % (13:Int))).2.2.1)).1)).1,()) ∧
 bc (decide ((have this:=winL syS 0 (symV ((coV (szV l (z % (13:Int))) (szV (List.take (min (l2.length:Int) (2:Int)).toNat l2) (szV l (z % (13:Int))).2.2.1)).1)).1.length (symV ((coV (szV l (z % (13:Int))) (szV (List.take (min (l2.length:Int) (2:Int)).toNat l2) (szV l (z % (13:Int))).2.2.1)).1)).1;this)=winL syS 0 (thV (winL syS 0 (symV (szV l (z % (13:Int)))).1.length (symV (szV l (z % (13:Int)))).1) (winL syS 0 (symV (szV (List.take (min (l2.length:Int) (2:Int)).toNat l2) (szV l (z % (13:Int))).2.2.1)).1.length (symV (szV (List.take (min (l2.length:Int) (2:Int)).toNat l2) (szV l (z % (13:Int))).2.2.1)).1)).1.length (thV (winL syS 0 (symV (szV l (z % (13:Int)))).1.length (symV (szV l (z % (13:Int)))).1) (winL syS 0 (symV (szV (List.take (min (l2.length:Int) (2:Int)).toNat l2) (szV l (z % (13:Int))).2.2.1)).1.length (symV (szV (List.take (min (l2.length:Int) (2:Int)).toNat l2) (szV l (z % (13:Int))).2.2.1)).1)).1)) (ctCost.pre (((coV (szV l (z % (13:Int))) (szV (List.take (min (l2.length:Int) (2:Int)).toNat l2) (szV l (z % (13:Int))).2.2.1)).1),()) ∧
 0+(thV (winL syS 0 (symV (szV l (z % (13:Int)))).1.length (symV (szV l (z % (13:Int)))).1) (winL syS 0 (symV (szV (List.take (min (l2.length:Int) (2:Int)).toNat l2) (szV l (z % (13:Int))).2.2.1)).1.length (symV (szV (List.take (min (l2.length:Int) (2:Int)).toNat l2) (szV l (z % (13:Int))).2.2.1)).1)).1.length≤(thV (winL syS 0 (symV (szV l (z % (13:Int)))).1.length (symV (szV l (z % (13:Int)))).1) (winL syS 0 (symV (szV (List.take (min (l2.length:Int) (2:Int)).toNat l2) (szV l (z % (13:Int))).2.2.1)).1.length (symV (szV (List.take (min (l2.length:Int) (2:Int)).toNat l2) (szV l (z % (13:Int))).2.2.1)).1)).1.length ∧
 (ctLe (9:Nat)).pre (winL syS 0 (thV (winL syS 0 (symV (szV l (z % (13:Int)))).1.length (symV (szV l (z % (13:Int)))).1) (winL syS 0 (symV (szV (List.take (min (l2.length:Int) (2:Int)).toNat l2) (szV l (z % (13:Int))).2.2.1)).1.length (symV (szV (List.take (min (l2.length:Int) (2:Int)).toNat l2) (szV l (z % (13:Int))).2.2.1)).1)).1.length (thV (winL syS 0 (symV (szV l (z % (13:Int)))).1.length (symV (szV l (z % (13:Int)))).1) (winL syS 0 (symV (szV (List.take (min (l2.length:Int) (2:Int)).toNat l2) (szV l (z % (13:Int))).2.2.1)).1.length (symV (szV (List.take (min (l2.length:Int) (2:Int)).toNat l2) (szV l (z % (13:Int))).2.2.1)).1)).1,()) ∧
 bc (decide (costF (0:Int) (coV (szV l (z % (13:Int))) (szV (List.take (min (l2.length:Int) (2:Int)).toNat l2) (szV l (z % (13:Int))).2.2.1)).1.2.2.2=cst (winL syS 0 (thV (winL syS 0 (symV (szV l (z % (13:Int)))).1.length (symV (szV l (z % (13:Int)))).1) (winL syS 0 (symV (szV (List.take (min (l2.length:Int) (2:Int)).toNat l2) (szV l (z % (13:Int))).2.2.1)).1.length (symV (szV (List.take (min (l2.length:Int) (2:Int)).toNat l2) (szV l (z % (13:Int))).2.2.1)).1)).1.length (thV (winL syS 0 (symV (szV l (z % (13:Int)))).1.length (symV (szV l (z % (13:Int)))).1) (winL syS 0 (symV (szV (List.take (min (l2.length:Int) (2:Int)).toNat l2) (szV l (z % (13:Int))).2.2.1)).1.length (symV (szV (List.take (min (l2.length:Int) (2:Int)).toNat l2) (szV l (z % (13:Int))).2.2.1)).1)).1))) (Q [.bool true] (mem_l6_m0 z z2 l l2)) (false=false ∧
 Q [.bool false] (mem_l6_m0 z z2 l l2))) (false=false ∧
 false=false ∧
 Q [.bool false] (mem_l6_m0 z z2 l l2))) (false=false ∧
 false=false ∧
 false=false ∧
 Q [.bool false] (mem_l6_m0 z z2 l l2))) (false=false ∧
 false=false ∧
 false=false ∧
 false=false ∧
 Q [.bool false] (mem_l6_m0 z z2 l l2))) (false=false ∧
 false=false ∧
 false=false ∧
 false=false ∧
 false=false ∧
 Q [.bool false] (mem_l6_m0 z z2 l l2)))):=by kernel_rfl
end Go.Proofs.YticpkibnhakgbaaDoor
namespace Go.Proofs.YticpkibnhakgbaaDoor
open Go.Px Go.Ax
set_option maxRecDepth 100000
attribute [local irreducible] Go.Px.sy Go.Px.syE
def ctL6c:Ctr:=⟨[raS,raS],fun x=>preM6 x.1.1 x.1.2∧preM6 x.2.1.1 x.2.1.2,fun _=>[.bool true],fun _=>[]⟩
theorem l6_true {x y:RaT} {bl:List (Nat × LB)}:QC ctL6c (x,y,()) [.bool true] bl:=QC.flat rfl rfl rfl
theorem l4_take {l:List (List Int)} (h:preL4 l) (k:Nat):preL4 (l.take k):=fun j=>by
 show preB4 (gt a4S (l.take k) j)
 by_cases hj:j<k
 ·have:=h j
  unfold gt at this ⊢
  rw[List.getElem?_take_of_lt hj];exact this
 ·have:=h l.length
  unfold gt at this ⊢
  rw[List.getElem?_eq_none (Nat.le_refl _)] at this
  rw[List.getElem?_eq_none (by rw[List.length_take];omega)];exact this
theorem l6_run (z z2:Int) (l l2:List (List Int)) (hx:preM6 z l) (hy:preM6 z2 l2) (R:List Item→PS→Prop):sy tt G0 CL6 Tryd.f6.ntmps Tryd.f6.results.toList (QC ctL6c ((z,l),(z2,l2),())) R 1000 [.code (bodyOf Tryd.f6)] (entry [raS,raS] ((z,l),(z2,l2),())):=by
 have hm:0≤z % 13∧z % 13≤12:=by omega
 have so:=szV_out (m:=z % 13) hx.2.1 hm.1
 obtain ⟨s1,s2,s3,s4⟩:=szV_ok (m:=z % 13) hx.2.1 hm.1 (by omega)
 have ht:=l4_take hy.2.1 (min (l2.length:Int) 2).toNat
 obtain ⟨t1,t2,t3,t4⟩:=szV_ok (m:=(szV l (z % 13)).2.2.1) ht so.1 (by omega)
 have e0:(szV l (z % 13)).1=false:=rfl
 have e1:(szV (l2.take (min (l2.length:Int) 2).toNat) (szV l (z % 13)).2.2.1).1=false:=rfl
 have e2:(szV (l2.take (min (l2.length:Int) 2).toNat) (szV l (z % 13)).2.2.1).2.1=(szV l (z % 13)).2.2.1:=rfl
 refine (vc_l6 z z2 l l2 _ _).mpr ⟨trivial,hx,by omega,by omega,(show preSz (l2.take (min (l2.length:Int) 2).toNat) (szV l (z % 13)).2.2.1 from ⟨ht,⟨so.1,by omega⟩,by rw[List.length_take];omega⟩),?_⟩
 generalize szV (l2.take (min (l2.length:Int) 2).toNat) (szV l (z % 13)).2.2.1=q at *
 generalize szV l (z % 13)=p at *
 obtain ⟨a1,a2,a3⟩:=sy_right s1
 obtain ⟨b1,b2,b3⟩:=sy_right t1
 have hc:=co_nf s1 t1 (e0.trans e1.symm) e2.symm (by omega)
 have hb:∀ x∈symF q.2.2.2,sOK (symF p.2.2.2).length x=true:=fun x hx=>by rw[a3,← e2];exact b1 x hx
 have hS:=thL_sOK a1 hb
 have hSl:((thL (symF p.2.2.2) (symF q.2.2.2)).length:Int)=q.2.2.1:=by rw[thL_len];exact b3
 obtain ⟨n1,n2,n3⟩:=nf_ok p.1 hS a2.1 a2.2 (by omega)
 have hv:=thV_ok hb
 have hops:=ch_ops hS a2.1 a2.2 (by omega)
 have hcost:=cost_eq hS a2.1 a2.2 (by omega)
 have hk:∀ y∈chL (thL (symF p.2.2.2) (symF q.2.2.2)),k14 y:=fun y hy=>(isRB_kind ((poV_ok hS a2.1 a2.2 (by omega)).2.2.1 y hy)).1
 refine bc_of (fun _=>l6_true) (fun h8=>⟨trivial,trivial,trivial,trivial,by omega,by omega,?_⟩)
 have h8:¬ 8<q.2.2.1:=of_decide_eq_false h8
 rw[hc,sy_ok s1,sy_ok t1]
 show ctTh.pre (winL syS 0 (symF p.2.2.2).length (symF p.2.2.2),winL syS 0 (symF q.2.2.2).length (symF q.2.2.2),())∧_
 rw[winA,winA,hv]
 refine ⟨(show (symF q.2.2.2).length<16777216 by omega),bc_of (fun _=>?_) (fun h=>absurd rfl (of_decide_eq_false h))⟩
 rw[show symV (nfP p.1 p.2.1 (thL (symF p.2.2.2) (symF q.2.2.2)),(0:Int)).1=(thL (symF p.2.2.2) (symF q.2.2.2),0) from n3]
 refine bc_of (fun _=>bc_of (fun _=>?_) (fun h=>absurd rfl (of_decide_eq_false h))) (fun h=>absurd rfl (of_decide_eq_false h))
 rw[winA]
 generalize thL (symF p.2.2.2) (symF q.2.2.2)=S at *
 refine ⟨by omega,by omega,(show S.length<1099511627776 by omega),bc_of (fun _=>⟨⟨hk,(show (chL S).length<1099511627776 by omega)⟩,by omega,(show preLe 9 S from ⟨by omega,by omega,p.2.1,by omega,hS⟩),?_⟩) (fun h=>absurd rfl (of_decide_eq_false h))⟩
 rw[decide_eq_true (show costF 0 (nfP p.1 p.2.1 S,(0:Int)).1.2.2.2=cst S from hcost),bc_t]
 exact l6_true
theorem l6_held:Held Tryd.prog G0 6 ctL6c:=Held.run cxL6 (fn:=Tryd.f6) rfl rfl ⟨by decide,by decide⟩ fun ⟨⟨z,l⟩,⟨z2,l2⟩,_⟩ hp=>l6_run z z2 l l2 hp.1 hp.2 _
end Go.Proofs.YticpkibnhakgbaaDoor
