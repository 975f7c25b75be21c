/-
  A part of the proof: what pieces of the program give; conditions: those of each theorem.
-/
import Derived.Test.YtdeacfammdjajaaDoorQ2
import Derived.Test.YtdeacfammdjajaaDoorHD
import Derived.Test.YtdeacfammdjajaaDoorQ1
import Derived.KernelRfl
set_option linter.unusedVariables false
set_option linter.unusedSimpArgs false
namespace Go.Proofs.YtdeacfammdjajaaDoor
open Go.Px Go.Ax
open Go.IntKind(i64 u32 u8)
set_option maxRecDepth 100000
abbrev seS:Sh:=.pair .str (.pair (.int .i64) (.pair (.int .i64) .bool))
abbrev SecT:Type:=List UInt8 × Int × Int × Bool
abbrev slS:Sh:=.sl syS
def psV (p:PaT):List SyT × Int:=match decide ((symV p).2≠0) with
 | true=>([],(symV p).2)
 | false=>match p.1 with
  | true=>([],62)
  | false=>((symV p).1,0)
def ctPs:Ctr:=⟨[paS],λ _=>True,λ x=>[.win true syS 0 0 (psV x.1).1.length,.i (psV x.1).2],λ x=>[.row 82 syS (psV x.1).1]⟩
abbrev capS:List AK:=[.ptr [.dat (.sl seS)],.ptr [.dat slS]]
abbrev capC:List AK:=[.ptr [.dat slS],.ptr [.dat iI]]
abbrev iS:AK:=.fn 42 [] capS
abbrev iK:AK:=.fn 45 [] capC
abbrev q5u:List AK:=[.ptr [iS],.ptr [.dat iI]]
abbrev q5v:List AK:=[.ptr [iK],.ptr [.dat iI]]
abbrev pS:AK:=.fn 41 [] q5u
abbrev pK:AK:=.fn 41 [] q5v
abbrev yS1:List Sh:=[slS]
abbrev yP:List Sh:=[paS,iI]
set_option maxRecDepth 100000
theorem vc_ps (li:Bool) (m o:Int) (l:List OpT) (Q:QT) (R:RT):sA [(37,.inl ctSym)] Tryd.f21 Q R [.code (qae Tryd.f21)] (entry [paS] ((li,m,o,l),())) =
  (ctSym.pre ((li,m,o,l),())/\bc (decide ((symV (li,m,o,l)).2≠0)) (Q [.nils,.i (symV (li,m,o,l)).2] [(1,.var [.bool li,.i m,.i o,.sl opS l]),(1032768,.row 82 syS (symV (li,m,o,l)).1)]) (bc li (Q [.nils,.i 62] [(1,.var [.bool li,.i m,.i o,.sl opS l]),(1032768,.row 82 syS (symV (li,m,o,l)).1)]) (Q [.win true syS 1032768 0 (symV (li,m,o,l)).1.length,.i 0] [(1,.var [.bool li,.i m,.i o,.sl opS l]),(1032768,.row 82 syS (symV (li,m,o,l)).1)]))):=by kernel_rfl
theorem q6p (s:List SyT) (l:List SecT) (Q:QT) (R:RT):sA [] Tryd.f25 Q R [.code (qae Tryd.f25)] (qby [.dat slS,.dat (.sl seS)] (s,l,())) =
  (Q [.fn (42:Nat) [] [.ptr (3:Nat) 0,.ptr 2 0]] [(2,.var [.sl syS s]),(3,.var [.sl seS l])]):=by kernel_rfl
theorem q6z (s:List SyT) (n:Int) (Q:QT) (R:RT):sA [] Tryd.f29 Q R [.code (qae Tryd.f29)] (qby [.dat slS,.dat iI] (s,n,())) =
  (bc (decide (n<1)) False (Q [.fn (45:Nat) [] [.ptr (2:Nat) 0,.ptr 3 0]] [(2,.var [.sl syS s]),(3,.var [.i n])])):=by kernel_rfl
theorem q2w (s:List SyT) (l:List SecT) (m:Int) (Q:QT) (R:RT):sA [] Tryd.f24 Q R [.code (qae Tryd.f24)] (qby [iS,.dat iI] (((),(l,()),(s,()),()),m,())) =
  (Q [.fn (41:Nat) [] [.ptr (2:Nat) 0,.ptr 3 0]] [(2,.var [.fn (42:Nat) [] [.ptr (1099511627776:Nat) 0,.ptr 1099511627777 0]]),(3,.var [.i m]),(1099511627776,.var [.sl seS l]),(1099511627777,.var [.sl syS s])]):=by kernel_rfl
theorem q2x (s:List SyT) (n:Int) (m:Int) (Q:QT) (R:RT):sA [] Tryd.f24 Q R [.code (qae Tryd.f24)] (qby [iK,.dat iI] (((),(s,()),(n,()),()),m,())) =
  (Q [.fn (41:Nat) [] [.ptr (2:Nat) 0,.ptr 3 0]] [(2,.var [.fn (45:Nat) [] [.ptr (1099511627776:Nat) 0,.ptr 1099511627777 0]]),(3,.var [.i m]),(1099511627776,.var [.sl syS s]),(1099511627777,.var [.i n])]):=by kernel_rfl
theorem q6n (s:List SyT) (l:List SecT) (lp:Nat) (ys:List (DL yS1)) (Q:AExit->Nat × Bool->PS->Prop) (R:List Item->Nat × Bool->PS->Prop):syE tt G0 [] Tryd.f42.ntmps ⟨lp,yS1,ys⟩ Q R .fn 1000 [.code (qae Tryd.f42)] (0,false) (qk4 lp capS ((l,()),(s,()),())) =
  (R (hd Tryd.f42 0) ((0:Nat),false) { env:=[(0,.yl lp),(1,.ptr 1099511627776 0),(2,.ptr 1099511627777 0),(6,.sl seS l),(7,.i (l.length:Int)),(8,.i 0)],blk:=[(1099511627776,.var [.sl seS l]),(1099511627777,.var [.sl syS s])] }):=by kernel_rfl
theorem qt5 (s:List SyT) (l:List SecT) (i:Int) (j:Nat) (q:Bool) (lp:Nat) (ys:List (DL yS1)) (Q:AExit->Nat × Bool->PS->Prop) (R:List Item->Nat × Bool->PS->Prop):syE tt G0 [] Tryd.f42.ntmps ⟨lp,yS1,ys⟩ Q (λ it g S=>R it g (qbx [0,1,2,6,7,8] [BIG,BIG+1] S)) .fn 1000 (hd Tryd.f42 0) (j,q) (⟨[(0,.yl lp),(1,.ptr BIG 0),(2,.ptr (BIG+1) 0),(6,.sl seS l),(7,.i (l.length:Nat)),(8,.i i)],[(BIG,.var [.sl seS l]),(BIG+1,.var [.sl syS s])]⟩) =
  (bc (decide (i<(l.length:Int))) ((0:Int)<=i/\i<(l.length:Int)/\(0:Int)<=(gt seS l i.toNat).2.1/\(gt seS l i.toNat).2.1<(gt seS l i.toNat).2.2.1/\(gt seS l i.toNat).2.2.1<=(gt seS l i.toNat).2.2.1/\(gt seS l i.toNat).2.2.1<=(s.length:Int)/\(gt seS l i.toNat).2.2.1<1099511627776/\lp=(Yp.mk lp yS1 ys).l/\q=false/\(Yp.mk lp yS1 ys).ys[j]?=some (Px.part s (some (gt seS l i.toNat).2.1) (some (gt seS l i.toNat).2.2.1),())/\∀ (r:Bool),bc (!r) (Q AExit.ret (j+1,!r) { env:=[(0,.yl lp),(1,.ptr 1099511627776 0),(2,.ptr 1099511627777 0),(5,.ptr 5 0),(6,.sl seS l),(7,.i (l.length:Int)),(8,.i i),(9,.bool (decide (i<(l.length:Int)))),(10,.elv seS (gt seS l i.toNat)),(11,.agg [.str (gt seS l i.toNat).1,.i (gt seS l i.toNat).2.1,.i (gt seS l i.toNat).2.2.1,.bool (gt seS l i.toNat).2.2.2]),(12,.yl lp),(13,.sl syS s),(14,.ptr 5 1),(15,.i (gt seS l i.toNat).2.1),(16,.ptr 5 2),(17,.i (gt seS l i.toNat).2.2.1),(18,.ptr 5 2),(19,.i (gt seS l i.toNat).2.2.1),(20,.sl syS (Px.part s (some (gt seS l i.toNat).2.1) (some (gt seS l i.toNat).2.2.1))),(21,.bool r),(22,.bool !r)],blk:=[(5,.var [.str (gt seS l i.toNat).1,.i (gt seS l i.toNat).2.1,.i (gt seS l i.toNat).2.2.1,.bool (gt seS l i.toNat).2.2.2]),(1099511627776,.var [.sl seS l]),(1099511627777,.var [.sl syS s])] }) (R (hd Tryd.f42 0) (j+1,!r) { env:=[(0,.yl lp),(1,.ptr 1099511627776 0),(2,.ptr 1099511627777 0),(6,.sl seS l),(7,.i (l.length:Int)),(8,.i (i64.wrap (i+1)))],blk:=[(1099511627776,.var [.sl seS l]),(1099511627777,.var [.sl syS s])] })) (Q AExit.normal (j,q) { env:=[(0,.yl lp),(1,.ptr 1099511627776 0),(2,.ptr 1099511627777 0),(6,.sl seS l),(7,.i (l.length:Int)),(8,.i i),(9,.bool (decide (i<(l.length:Int))))],blk:=[(1099511627776,.var [.sl seS l]),(1099511627777,.var [.sl syS s])] })):=by kernel_rfl
theorem q6y (s:List SyT) (n:Int) (lp:Nat) (ys:List (DL yS1)) (Q:AExit->Nat × Bool->PS->Prop) (R:List Item->Nat × Bool->PS->Prop):syE tt G0 [] Tryd.f45.ntmps ⟨lp,yS1,ys⟩ Q R .fn 1000 [.code (qae Tryd.f45)] (0,false) (qk4 lp capC ((s,()),(n,()),())) =
  (R (hd Tryd.f45 0) ((0:Nat),false) { env:=[(0,.yl lp),(1,.ptr 1099511627776 0),(2,.ptr 1099511627777 0),(4,.i 0)],blk:=[(1099511627776,.var [.sl syS s]),(1099511627777,.var [.i n])] }):=by kernel_rfl
theorem quc (s:List SyT) (n i:Int) (j:Nat) (q:Bool) (lp:Nat) (ys:List (DL yS1)) (Q:AExit->Nat × Bool->PS->Prop) (R:List Item->Nat × Bool->PS->Prop):syE tt G0 [] Tryd.f45.ntmps ⟨lp,yS1,ys⟩ Q (λ it g S=>R it g (qbx [0,1,2,4] [BIG,BIG+1] S)) .fn 1000 (hd Tryd.f45 0) (j,q) (⟨[(0,.yl lp),(1,.ptr BIG 0),(2,.ptr (BIG+1) 0),(4,.i i)],[(BIG,.var [.sl syS s]),(BIG+1,.var [.i n])]⟩) =
  (bc (decide (i<(s.length:Int))) ((0:Int)<=i/\i<=(s.length:Int)/\(0:Int)<=i/\i<i64.wrap (i+min n (↑(List.drop i.toNat s).length:Int))/\i64.wrap (i+min n (↑(List.drop i.toNat s).length:Int))<=i64.wrap (i+min n (↑(List.drop i.toNat s).length:Int))/\i64.wrap (i+min n (↑(List.drop i.toNat s).length:Int))<=(s.length:Int)/\i64.wrap (i+min n (↑(List.drop i.toNat s).length:Int))<1099511627776/\lp=(Yp.mk lp yS1 ys).l/\q=false/\(Yp.mk lp yS1 ys).ys[j]?=some (Px.part s (some i) (some (i64.wrap (i+min n (↑(List.drop i.toNat s).length:Int)))),())/\∀ (r:Bool),bc (!r) (Q AExit.ret (j+1,!r) { env:=[(0,.yl lp),(1,.ptr 1099511627776 0),(2,.ptr 1099511627777 0),(4,.i i),(5,.i (min n (↑(List.drop i.toNat s).length:Int))),(6,.i i),(7,.sl syS s),(8,.i (s.length:Int)),(9,.bool (decide (i<(s.length:Int)))),(13,.i n),(14,.sl syS s),(15,.i i),(16,.sl syS (List.drop i.toNat s)),(17,.i (↑(List.drop i.toNat s).length:Int)),(18,.i (min n (↑(List.drop i.toNat s).length:Int))),(19,.yl lp),(20,.sl syS s),(21,.i i),(22,.i i),(23,.i (min n (↑(List.drop i.toNat s).length:Int))),(24,.i (i64.wrap (i+min n (↑(List.drop i.toNat s).length:Int)))),(25,.i i),(26,.i (min n (↑(List.drop i.toNat s).length:Int))),(27,.i (i64.wrap (i+min n (↑(List.drop i.toNat s).length:Int)))),(28,.sl syS (Px.part s (some i) (some (i64.wrap (i+min n (↑(List.drop i.toNat s).length:Int)))))),(29,.bool r),(30,.bool !r)],blk:=[(1099511627776,.var [.sl syS s]),(1099511627777,.var [.i n])] }) (R (hd Tryd.f45 0) (j+1,!r) { env:=[(0,.yl lp),(1,.ptr 1099511627776 0),(2,.ptr 1099511627777 0),(4,.i (i64.wrap (i+n)))],blk:=[(1099511627776,.var [.sl syS s]),(1099511627777,.var [.i n])] })) (Q AExit.normal (j,q) { env:=[(0,.yl lp),(1,.ptr 1099511627776 0),(2,.ptr 1099511627777 0),(4,.i i),(6,.i i),(7,.sl syS s),(8,.i (s.length:Int)),(9,.bool (decide (i<(s.length:Int))))],blk:=[(1099511627776,.var [.sl syS s]),(1099511627777,.var [.i n])] })):=by kernel_rfl
theorem q6a (s:List SyT) (l:List SecT) (m:Int) (lp:Nat) (ys:List (DL yP)) (Q:AExit->Nat × Bool->PS->Prop) (R:List Item->Nat × Bool->PS->Prop):syE tt G0 [(31,.inl ctCp)] Tryd.f41.ntmps ⟨lp,yP,ys⟩ Q R .fn 1000 [.code (qae Tryd.f41)] (0,false) (qk4 lp q5u (((((),(l,()),(s,()),()),()),(m,()),()))) =
  (R (hd Tryd.f41 0) ((0:Nat),false) { env:=[(0,.yl lp),(1,.ptr 1099511627776 0),(2,.ptr 1099511627779 0),(3,.ptr 3 0),(5,.fn (42:Nat) [] [.ptr (1099511627777:Nat) 0,.ptr 1099511627778 0])],blk:=[(3,.var [.yl lp]),(1099511627776,.var [.fn (42:Nat) [] [.ptr (1099511627777:Nat) 0,.ptr 1099511627778 0]]),(1099511627777,.var [.sl seS l]),(1099511627778,.var [.sl syS s]),(1099511627779,.var [.i m])] }):=by kernel_rfl
theorem q6c (s:List SyT) (n:Int) (m:Int) (lp:Nat) (ys:List (DL yP)) (Q:AExit->Nat × Bool->PS->Prop) (R:List Item->Nat × Bool->PS->Prop):syE tt G0 [(31,.inl ctCp)] Tryd.f41.ntmps ⟨lp,yP,ys⟩ Q R .fn 1000 [.code (qae Tryd.f41)] (0,false) (qk4 lp q5v (((((),(s,()),(n,()),()),()),(m,()),()))) =
  (R (hd Tryd.f41 0) ((0:Nat),false) { env:=[(0,.yl lp),(1,.ptr 1099511627776 0),(2,.ptr 1099511627779 0),(3,.ptr 3 0),(5,.fn (45:Nat) [] [.ptr (1099511627777:Nat) 0,.ptr 1099511627778 0])],blk:=[(3,.var [.yl lp]),(1099511627776,.var [.fn (45:Nat) [] [.ptr (1099511627777:Nat) 0,.ptr 1099511627778 0]]),(1099511627777,.var [.sl syS s]),(1099511627778,.var [.i n]),(1099511627779,.var [.i m])] }):=by kernel_rfl
theorem q6b (m:Int) (l:List SyT) (j:Nat) (q:Bool) (lp:Nat) (ys:List (DL yP)) (Q:AExit->Nat × Bool->PS->Prop) (R:List Item->Nat × Bool->PS->Prop):syE tt G0 [(31,.inl ctCp)] Tryd.f41.ntmps ⟨lp,yP,ys⟩ Q R .ready 1000 (rnd Tryd.f41 0) (j,q) (qk5 [2,3] [6] [.ptr [.dat iI],.ptr [.yl lp]] yS1 ((m,()),((),()),()) (l,())) =
  (ctCp.pre (l,m,())/\lp=(Yp.mk lp yP ys).l/\q=false/\(Yp.mk lp yP ys).ys[j]?=some (((cpV l m).1),(cpV l m).2,())/\∀ (r:Bool),bc (!r) (Q AExit.ret (j+1,!r) { env:=[(4,.sl syS l),(6,.sl syS l),(2,.ptr 1099511627776 0),(3,.ptr 1099511627777 0),(7,.yl lp),(8,.sl syS l),(9,.i m),(10,SV.tup [.agg [.bool (cpV l m).1.1,.i (cpV l m).1.2.1,.i (cpV l m).1.2.2.1,.sl opS (cpV l m).1.2.2.2],.i (cpV l m).2]),(11,.agg [.bool (cpV l m).1.1,.i (cpV l m).1.2.1,.i (cpV l m).1.2.2.1,.sl opS (cpV l m).1.2.2.2]),(12,.i (cpV l m).2),(13,.bool r),(14,.bool !r)],blk:=[(1099511627776,.var [.i m]),(1099511627777,.var [.yl lp])] }) (Q AExit.normal (j+1,!r) { env:=[(4,.sl syS l),(6,.sl syS l),(2,.ptr 1099511627776 0),(3,.ptr 1099511627777 0),(7,.yl lp),(8,.sl syS l),(9,.i m),(10,SV.tup [.agg [.bool (cpV l m).1.1,.i (cpV l m).1.2.1,.i (cpV l m).1.2.2.1,.sl opS (cpV l m).1.2.2.2],.i (cpV l m).2]),(11,.agg [.bool (cpV l m).1.1,.i (cpV l m).1.2.1,.i (cpV l m).1.2.2.1,.sl opS (cpV l m).1.2.2.2]),(12,.i (cpV l m).2),(13,.bool r),(14,.bool !r)],blk:=[(1099511627776,.var [.i m]),(1099511627777,.var [.yl lp])] })):=by kernel_rfl
attribute [local irreducible] Go.Px.sy Go.Px.syE
theorem q32 {p:PaT} (h:(symV p).2≠0):psV p=([],(symV p).2):=by unfold psV;rw[decide_eq_true h]
theorem q7k {p:PaT} (h:(symV p).2=0) (hl:p.1=true):psV p=([],62):=by unfold psV;rw[decide_eq_false (by simp[h]),hl]
theorem qyu {p:PaT} (h:(symV p).2=0) (hl:p.1=false):psV p=((symV p).1,0):=by unfold psV;rw[decide_eq_false (by simp[h]),hl]
theorem ps_held:Held Tryd.prog G0 21 ctPs:=Held.run (cx0.k sym_held (fn:=Tryd.f37)) (fn:=Tryd.f21) rfl rfl ⟨by decide,by decide⟩ λ ⟨⟨li,m,o,l⟩,_⟩ _=>by
 refine (vc_ps li m o l _ _).mpr ⟨trivial,qag (λ h=>?_) (λ h=>qag (λ h2=>?_) (λ h2=>?_))⟩
 ·have h:(symV (li,m,o,l)).2≠0:=of_decide_eq_true h;have e:=q32 h;refine qe8 (e:=syS) (et:=82) (z:=(symV (li,m,o,l)).2) ?_ ?_ rfl (by decide)
  ·show [_,_]=_;rw[e];rfl
  ·show [_]=_;rw[e]
 ·have h:(symV (li,m,o,l)).2=0:=by have:=of_decide_eq_false h;simpa using this
  have e:=q7k h h2;refine qe8 (e:=syS) (et:=82) (z:=62) ?_ ?_ rfl (by decide)
  ·show [_,_]=_;rw[e];rfl
  ·show [_]=_;rw[e]
 ·have h:(symV (li,m,o,l)).2=0:=by have:=of_decide_eq_false h;simpa using this
  have e:=qyu h h2;refine qm3 (e:=syS) (et:=82) (a:=1032768) (z:=0) (xs:=(symV (li,m,o,l)).1) ?_ ?_ rfl rfl rfl
  ·show [_,_]=_;rw[e]
  ·show [_]=_;rw[e]
theorem qbi {π:Nat->Option Nat}:MtL π [] []:=by simp only[MtL]
theorem qax {π:Nat->Option Nat} {s t:SV} {l r:List SV} (h1:Mt π s t) (h2:MtL π l r):MtL π (s::l) (t::r):=by simp only[MtL];exact ⟨t,r,rfl,h1,h2⟩
theorem qey {π:Nat->Option Nat} {i j o:Nat} (h:π i=some j):Mt π (.ptr i o) (.ptr j o):=by simp only[Mt];exact ⟨j,rfl,h⟩
theorem qs7 {π:Nat->Option Nat} {f:Nat} {a a' c c':List SV} (h1:MtL π a a') (h2:MtL π c c'):Mt π (.fn f a c) (.fn f a' c'):=by simp only[Mt];exact ⟨a',c',rfl,h1,h2⟩
def ctIns:CtrI:=⟨[.dat slS,.dat (.sl seS)],λ _=>True,λ _=>[.fn 42 [] [.ptr 0 0,.ptr 1 0]],λ x=>[(0,.var [.sl seS x.2.1]),(1,.var [.sl syS x.1])]⟩
theorem qzs:HeldI Tryd.prog G0 25 ctIns:=HeldI.run cx0 (fn:=Tryd.f25) rfl rfl ⟨by decide,by decide⟩ λ ⟨s,l,_⟩ _=>by
 refine (q6p s l _ _).mpr ⟨[(0,3),(1,2)],?_,?_,by decide,λ p hp=>?_⟩
 rotate_left 2
 ·simp only[List.mem_cons,List.not_mem_nil,or_false] at hp;rcases hp with rfl | rfl <;> decide
 all_goals
  have p0:piOf [(0,3),(1,2)] 0=some 3:=by decide
  have p1:piOf [(0,3),(1,2)] 1=some 2:=by decide
 ·exact qax (qs7 qbi (qax (qey p0) (qax (qey p1) qbi))) qbi
 ·exact ⟨.inl ⟨3,_,p0,rfl,_,rfl,qaz _ _ rfl⟩,.inl ⟨2,_,p1,rfl,_,rfl,qaz _ _ rfl⟩,trivial⟩
def ctCk:CtrI:=⟨[.dat slS,.dat iI],λ x=>1<=x.2.1,λ _=>[.fn 45 [] [.ptr 0 0,.ptr 1 0]],λ x=>[(0,.var [.sl syS x.1]),(1,.var [.i x.2.1])]⟩
theorem lt1_f {n:Int} (h:1<=n):decide (n<1)=false:=decide_eq_false (by omega)
theorem q5m:HeldI Tryd.prog G0 29 ctCk:=HeldI.run cx0 (fn:=Tryd.f29) rfl rfl ⟨by decide,by decide⟩ λ ⟨s,n,_⟩ hn=>by
 refine (q6z s n _ _).mpr ?_;rw[lt1_f hn,bc_f];refine ⟨[(0,2),(1,3)],?_,?_,by decide,λ p hp=>?_⟩
 rotate_left 2
 ·simp only[List.mem_cons,List.not_mem_nil,or_false] at hp;rcases hp with rfl | rfl <;> decide
 all_goals
  have p0:piOf [(0,2),(1,3)] 0=some 2:=by decide
  have p1:piOf [(0,2),(1,3)] 1=some 3:=by decide
 ·exact qax (qs7 qbi (qax (qey p0) (qax (qey p1) qbi))) qbi
 ·exact ⟨.inl ⟨2,_,p0,rfl,_,rfl,qaz _ _ rfl⟩,.inl ⟨3,_,p1,rfl,_,rfl,qaz _ _ rfl⟩,trivial⟩
def ctPaS:CtrI:=⟨[iS,.dat iI],λ _=>True,λ _=>[.fn 41 [] [.ptr 0 0,.ptr 1 0]],λ x=>[(0,.var [.fn 42 [] [.ptr BIG 0,.ptr (BIG+1) 0]]),(1,.var [.i x.2.1]),(BIG,.var [.sl seS x.1.2.1.1]),(BIG+1,.var [.sl syS x.1.2.2.1.1])]⟩
theorem qyy:HeldI Tryd.prog G0 24 ctPaS:=HeldI.run cx0 (fn:=Tryd.f24) rfl rfl ⟨by decide,by decide⟩ λ ⟨⟨⟨⟩,⟨l,⟨⟩⟩,⟨s,⟨⟩⟩,⟨⟩⟩,m,⟨⟩⟩ _=>by
 refine (q2w s l m _ _).mpr ⟨[(0,2),(1,3)],?_,?_,by decide,λ p hp=>?_⟩
 rotate_left 2
 ·simp only[List.mem_cons,List.not_mem_nil,or_false] at hp;rcases hp with rfl | rfl <;> decide
 all_goals
  have p0:piOf [(0,2),(1,3)] 0=some 2:=by decide
  have p1:piOf [(0,2),(1,3)] 1=some 3:=by decide
  have p2:piOf [(0,2),(1,3)] BIG=some BIG:=by decide
  have p3:piOf [(0,2),(1,3)] (BIG+1)=some (BIG+1):=by decide
 ·exact qax (qs7 qbi (qax (qey p0) (qax (qey p1) qbi))) qbi
 ·exact ⟨.inl ⟨2,_,p0,rfl,_,rfl,qax (qs7 qbi (qax (qey p2) (qax (qey p3) qbi))) qbi⟩,.inl ⟨3,_,p1,rfl,_,rfl,qaz _ _ rfl⟩,.inl ⟨BIG,_,p2,rfl,_,rfl,qaz _ _ rfl⟩,.inl ⟨BIG+1,_,p3,rfl,_,rfl,qaz _ _ rfl⟩,trivial⟩
def ctPaK:CtrI:=⟨[iK,.dat iI],λ _=>True,λ _=>[.fn 41 [] [.ptr 0 0,.ptr 1 0]],λ x=>[(0,.var [.fn 45 [] [.ptr BIG 0,.ptr (BIG+1) 0]]),(1,.var [.i x.2.1]),(BIG,.var [.sl syS x.1.2.1.1]),(BIG+1,.var [.i x.1.2.2.1.1])]⟩
theorem qyz:HeldI Tryd.prog G0 24 ctPaK:=HeldI.run cx0 (fn:=Tryd.f24) rfl rfl ⟨by decide,by decide⟩ λ ⟨⟨⟨⟩,⟨s,⟨⟩⟩,⟨n,⟨⟩⟩,⟨⟩⟩,m,⟨⟩⟩ _=>by
 refine (q2x s n m _ _).mpr ⟨[(0,2),(1,3)],?_,?_,by decide,λ p hp=>?_⟩
 rotate_left 2
 ·simp only[List.mem_cons,List.not_mem_nil,or_false] at hp;rcases hp with rfl | rfl <;> decide
 all_goals
  have p0:piOf [(0,2),(1,3)] 0=some 2:=by decide
  have p1:piOf [(0,2),(1,3)] 1=some 3:=by decide
  have p2:piOf [(0,2),(1,3)] BIG=some BIG:=by decide
  have p3:piOf [(0,2),(1,3)] (BIG+1)=some (BIG+1):=by decide
 ·exact qax (qs7 qbi (qax (qey p0) (qax (qey p1) qbi))) qbi
 ·exact ⟨.inl ⟨2,_,p0,rfl,_,rfl,qax (qs7 qbi (qax (qey p2) (qax (qey p3) qbi))) qbi⟩,.inl ⟨3,_,p1,rfl,_,rfl,qaz _ _ rfl⟩,.inl ⟨BIG,_,p2,rfl,_,rfl,qaz _ _ rfl⟩,.inl ⟨BIG+1,_,p3,rfl,_,rfl,qaz _ _ rfl⟩,trivial⟩
abbrev GEz (f:Nat) (fn:Func) (Y:Yp) (K:AExit->Nat × Bool->PS->Prop) (it:List Item) (g:Nat × Bool) (S:PS):Prop:=Px.GoodE Tryd.prog G0 f fn.ntmps .fn Y K it g S
abbrev yL (l:List SyT):DL yS1:=(l,())
abbrev cutS (s:List SyT) (a b:Int):List SyT:=Px.part s (some a) (some b)
def secF (s:List SyT) (l:List SecT):List (List SyT):=l.map λ x=>cutS s x.2.1 x.2.2.1
def qit (s:List SyT) (l:List SecT):Prop:=s.length<16777216/\l.length<1000000/\∀ x∈l,0<=x.2.1/\x.2.1<x.2.2.1/\x.2.2.1<=s.length
theorem q49 {l:List SecT} {i:Nat} (h:i<l.length):gt seS l i=l[i]:=gtE (e:=seS) h
theorem qgy {α:Type} {l:List α} {i:Nat} (h:i<l.length):l.drop i=l[i]::l.drop (i+1):=List.drop_eq_getElem_cons h
theorem qtu {α:Type} {ys:List α} {j:Nat} {y:α} {r:List α} (h:ys.drop j=y::r):j<ys.length/\ys[j]?=some y/\ys.drop (j+1)=r:=by
 have hj:j<ys.length:=by
  rcases Nat.lt_or_ge j ys.length with q | q
  ·exact q
  ·rw[List.drop_eq_nil_of_le q] at h;cases h
 rw[qgy hj] at h;exact ⟨hj,by rw[List.getElem?_eq_getElem hj];exact congrArg some (List.cons.inj h).1,(List.cons.inj h).2⟩
theorem qqs {α:Type} {ys:List α} {j:Nat} (hj:j<=ys.length) (h:ys.drop j=[]):j=ys.length:=by
 have:=congrArg List.length h;simp at this;omega
theorem q43 (s:List SyT) (l:List SecT) (hp:qit s l) (lp:Nat) (ys:List (DL yS1)):∀ (k i j:Nat),l.length-i=k->i<=l.length->j<=ys.length->ys.drop j=(secF s (l.drop i)).map yL ->
  GEz 42 Tryd.f42 ⟨lp,yS1,ys⟩ (endY ys.length) (hd Tryd.f42 0) (j,false) ⟨[(0,.yl lp),(1,.ptr BIG 0),(2,.ptr (BIG+1) 0),(6,.sl seS l),(7,.i (l.length:Nat)),(8,.i (i:Nat))],[(BIG,.var [.sl seS l]),(BIG+1,.var [.sl syS s])]⟩:=by
 obtain ⟨hs,hl,hx⟩:=hp;intro k
 induction k with
 | zero=>
  intro i j hk hi hj hd;refine qmr cx0 (qt5 s l (i:Nat) j false lp ys _ _) ?_;rw[decide_eq_false (show ¬ (i:Int)<(l.length:Int) by omega),bc_f];rw[show l.drop i=[] from List.drop_of_length_le (by omega)] at hd;exact .inr (qqs hj hd)
 | succ k ih=>
  intro i j hk hi hj hd;have hil:i<l.length:=by omega
  have hb:=hx _ (List.getElem_mem hil);refine qmr cx0 (qt5 s l (i:Nat) j false lp ys _ _) ?_;rw[qgy hil] at hd;obtain ⟨h1,h2,h3⟩:=qtu (y:=yL (cutS s l[i].2.1 l[i].2.2.1)) (r:=(secF s (l.drop (i+1))).map yL) hd;rw[decide_eq_true (show (i:Int)<(l.length:Int) by omega),bc_t,Int.toNat_natCast,q49 hil,IntWalk.i64_in ((i:Int)+1) (by omega)];refine ⟨by omega,by omega,hb.1,hb.2.1,Int.le_refl _,hb.2.2,Int.lt_of_le_of_lt hb.2.2 (by omega),rfl,rfl,h2,λ r=>?_⟩
  cases r with
  | false=>exact qag (λ _=>.inl rfl) (λ h=>by cases h)
  | true=>exact qag (λ h=>by cases h) (λ _=>ih (i+1) (j+1) (by omega) (by omega) (by omega) h3)
def q8b:CtrY:=⟨capS,λ x=>qit x.2.1.1 x.1.1,yS1,λ x=>(secF x.2.1.1 x.1.1).map yL⟩
theorem q44:HeldY Tryd.prog G0 42 q8b:=HeldY.of (fn:=Tryd.f42) rfl rfl rfl ⟨by decide,by decide⟩ λ ⟨⟨l,_⟩,⟨s,_⟩,_⟩ hp lp=>by
 have hp:qit s l:=hp;exact qdq cx0 (q6n s l lp _ _ _) (q43 s l hp lp _ _ 0 0 rfl (Nat.zero_le _) (Nat.zero_le _) rfl)
def qjg (s:List SyT) (n:Nat):Nat->Nat->List (List SyT)
 | 0,_=>[]
 | f+1,i=>if i<s.length then cutS s (i:Nat) ((i+min n (s.length-i):Nat):Int)::qjg s n f (i+n) else []
def qof (s:List SyT) (n:Int):Prop:=s.length<16777216/\1<=n/\n<=4096
theorem q5l (s:List SyT) (n:Nat) (hs:s.length<16777216) (hn:1<=n) (hn2:n<=4096) (lp:Nat) (ys:List (DL yS1)):∀ (f i j:Nat),s.length<=i+f->i<=s.length+4096->j<=ys.length->ys.drop j=(qjg s n f i).map yL ->
  GEz 45 Tryd.f45 ⟨lp,yS1,ys⟩ (endY ys.length) (hd Tryd.f45 0) (j,false) ⟨[(0,.yl lp),(1,.ptr BIG 0),(2,.ptr (BIG+1) 0),(4,.i (i:Nat))],[(BIG,.var [.sl syS s]),(BIG+1,.var [.i (n:Nat)])]⟩:=by
 intro f
 induction f with
 | zero=>
  intro i j hk hi hj hd;refine qmr cx0 (quc s (n:Nat) (i:Nat) j false lp ys _ _) ?_;rw[decide_eq_false (show ¬ (i:Int)<(s.length:Int) by omega),bc_f];exact .inr (qqs hj hd)
 | succ f ih=>
  intro i j hk hi hj hd;refine qmr cx0 (quc s (n:Nat) (i:Nat) j false lp ys _ _) ?_;by_cases hil:i<s.length
  ·rw[qjg,if_pos hil,List.map_cons] at hd;obtain ⟨h1,h2,h3⟩:=qtu hd;have e:IntKind.i64.wrap ((i:Int)+min (n:Int) ((List.drop i s).length:Int))=((i+min n (s.length-i):Nat):Int):=by
    rw[List.length_drop,IntWalk.i64_in _ (by omega)];omega
   rw[decide_eq_true (show (i:Int)<(s.length:Int) by omega),bc_t,Int.toNat_natCast,e,IntWalk.i64_in ((i:Int)+n) (by omega)];refine ⟨by omega,by omega,by omega,by omega,Int.le_refl _,by omega,by omega,rfl,rfl,h2,λ r=>?_⟩
   cases r with
   | false=>exact qag (λ _=>.inl rfl) (λ h=>by cases h)
   | true=>exact qag (λ h=>by cases h) (λ _=>ih (i+n) (j+1) (by omega) (by omega) (by omega) h3)
  ·rw[qjg,if_neg hil] at hd;rw[decide_eq_false (show ¬ (i:Int)<(s.length:Int) by omega),bc_f];exact .inr (qqs hj hd)
def qbz (s:List SyT) (n:Int):List (List SyT):=qjg s n.toNat s.length 0
def q8c:CtrY:=⟨capC,λ x=>qof x.1.1 x.2.1.1,yS1,λ x=>(qbz x.1.1 x.2.1.1).map yL⟩
theorem q0d:HeldY Tryd.prog G0 45 q8c:=HeldY.of (fn:=Tryd.f45) rfl rfl rfl ⟨by decide,by decide⟩ λ ⟨⟨s,_⟩,⟨n,_⟩,_⟩ hp lp=>by
 obtain ⟨h1,h2,h3⟩:qof s n:=hp;obtain ⟨k,rfl⟩:=Int.eq_ofNat_of_zero_le (Int.le_trans (by decide:(0:Int)<=1) h2);have g:=q5l s k h1 (by omega) (by omega) lp ((qjg s k s.length 0).map yL) s.length 0 0 (by omega) (by omega) (Nat.zero_le _) rfl;exact qdq cx0 (q6y s (k:Nat) lp _ _ _) g
abbrev KP (lp:Nat):List AK:=[.ptr [.dat iI],.ptr [.yl lp]]
abbrev KL:List AK:=[.ptr [.nl],.ptr [.dat iI],.ptr [.row 31 paS]]
theorem cxPt:CxOK Tryd.prog tt G0 [(31,.inl ctCp)]:=cx0.k qw8 (fn:=Tryd.f31)
set_option maxRecDepth 100000
theorem q08 (j:Nat) (q:Bool) (lp:Nat) (ys:List (DL yP)) (Q:AExit->Nat × Bool->PS->Prop) (R:List Item->Nat × Bool->PS->Prop):syE tt G0 [(31,.inl ctCp)] Tryd.f41.ntmps ⟨lp,yP,ys⟩ Q R .fn 1000 (rfK Tryd.f41 0) (j,q) (⟨[],[]⟩) =
  (Q AExit.normal (j,q) { env:=[],blk:=[] }):=by kernel_rfl
theorem q07 (j:Nat) (q:Bool) (lp:Nat) (ys:List (DL yP)) (Q:AExit->Nat × Bool->PS->Prop) (R:List Item->Nat × Bool->PS->Prop):syE tt G0 [(31,.inl ctCp)] Tryd.f41.ntmps ⟨lp,yP,ys⟩ Q R .fn 1000 (qks .ret++rfK Tryd.f41 0) (j,q) (⟨[],[]⟩) =
  (Q AExit.ret (j,q) { env:=[],blk:=[] }):=by kernel_rfl
theorem q6u (s:List SyT) (l:List SecT) (m:Int) (Q:QT) (R:RT):sA [] Tryd.f23 Q R [.code (qae Tryd.f23)] (qby [pS] (((),((((),(l,()),(s,()),()),()),(m,()),())),())) =
  (R (hd Tryd.f23 0) { env:=[(0,.fn (41:Nat) [] [.ptr (1099511627776:Nat) 0,.ptr 1099511627779 0]),(2,.ptr 2 0),(3,.ptr 3 0),(4,.ptr 4 0),(7,.fn (41:Nat) [] [.ptr (1099511627776:Nat) 0,.ptr 1099511627779 0])],blk:=[(2,.var [.nils]),(3,.var [.i iI.dflt]),(4,.var [.nils]),(1099511627776,.var [.fn (42:Nat) [] [.ptr (1099511627777:Nat) 0,.ptr 1099511627778 0]]),(1099511627777,.var [.sl seS l]),(1099511627778,.var [.sl syS s]),(1099511627779,.var [.i m])] }):=by kernel_rfl
theorem q6w (s:List SyT) (n:Int) (m:Int) (Q:QT) (R:RT):sA [] Tryd.f23 Q R [.code (qae Tryd.f23)] (qby [pK] (((),((((),(s,()),(n,()),()),()),(m,()),())),())) =
  (R (hd Tryd.f23 0) { env:=[(0,.fn (41:Nat) [] [.ptr (1099511627776:Nat) 0,.ptr 1099511627779 0]),(2,.ptr 2 0),(3,.ptr 3 0),(4,.ptr 4 0),(7,.fn (41:Nat) [] [.ptr (1099511627776:Nat) 0,.ptr 1099511627779 0])],blk:=[(2,.var [.nils]),(3,.var [.i iI.dflt]),(4,.var [.nils]),(1099511627776,.var [.fn (45:Nat) [] [.ptr (1099511627777:Nat) 0,.ptr 1099511627778 0]]),(1099511627777,.var [.sl syS s]),(1099511627778,.var [.i n]),(1099511627779,.var [.i m])] }):=by kernel_rfl
theorem q6v (o:List PaT) (e0:Int) (p:PaT) (e:Int) (j:Nat) (q:Bool) (Q:AExit->Nat × Bool->PS->Prop) (R:List Item->Nat × Bool->PS->Prop):syE tt G0 [] Tryd.f23.ntmps Y0 Q R .ready 1000 (rnd Tryd.f23 0) (j,q) (qk5 [2,3,4] [8,9] KL yP (((),()),((e0,()),((o,()),()))) (p,e,())) =
  (bc (decide (e≠0)) (Q AExit.ret (j,q) { env:=[(5,.ptr 5 0),(6,.i e),(8,.agg [.bool p.1,.i p.2.1,.i p.2.2.1,.sl opS p.2.2.2]),(9,.i e),(2,.ptr 1099511627776 0),(3,.ptr 1099511627777 0),(4,.ptr 1099511627778 0),(10,.i e),(11,.bool (decide (e≠0))),(12,.i e)],blk:=[(5,.var [.bool p.1,.i p.2.1,.i p.2.2.1,.sl opS p.2.2.2]),(1099511627776,.var [.nils]),(1099511627777,.var [.i e]),(1099511627778,.var [.win true paS 1099511627779 0 o.length]),(1099511627779,.row 31 paS o)] }) (0+1<=([p]:List paS.D).length/\o.length=o.length/\(0:Nat)=(0:Nat)/\o.length+(([p]:List paS.D)).length<2 ^ 30/\(48:Nat)<=2 ^ 10/\Q AExit.normal (j,q) { env:=[(5,.ptr 5 0),(6,.i e),(8,.agg [.bool p.1,.i p.2.1,.i p.2.2.1,.sl opS p.2.2.2]),(9,.i e),(2,.ptr 1099511627776 0),(3,.ptr 1099511627777 0),(4,.ptr 1099511627778 0),(10,.i e),(11,.bool (decide (e≠0))),(13,.dead),(14,.agg [.bool p.1,.i p.2.1,.i p.2.2.1,.sl opS p.2.2.2]),(15,.win true paS 15 0 (1:Nat)),(16,.win true paS 16 0 (o.length+(([p]:List paS.D)).length))],blk:=[(5,.var [.bool p.1,.i p.2.1,.i p.2.2.1,.sl opS p.2.2.2]),(15,.row 31 paS ([p]:List paS.D)),(16,.row 31 paS (o++([p]:List paS.D))),(1099511627776,.var [.nils]),(1099511627777,.var [.i e0]),(1099511627778,.var [.win true paS 16 0 (o.length+(([p]:List paS.D)).length)])] })):=by kernel_rfl
theorem q1c (o:List PaT) (e0:Int) (j:Nat) (q:Bool) (Q:AExit->Nat × Bool->PS->Prop) (R:List Item->Nat × Bool->PS->Prop):syE tt G0 [] Tryd.f23.ntmps Y0 Q R .fn 1000 (rfK Tryd.f23 0) (j,q) (⟨[(2,.ptr 2 0),(3,.ptr 3 0),(4,.ptr 4 0)],[(2,.var [.nils]),(3,.var [.i e0]),(4,.var [.win true paS 1086016 0 o.length]),(1086016,.row 31 paS o)]⟩) =
  (Q AExit.ret (j,q) { env:=[(2,.ptr 2 0),(3,.ptr 3 0),(4,.ptr 4 0),(17,.win true paS 1086016 0 o.length)],blk:=[(2,.var [.win true paS 1086016 0 o.length]),(3,.var [.i 0]),(4,.var [.win true paS 1086016 0 o.length]),(1086016,.row 31 paS o)] }):=by kernel_rfl
theorem q1b (e:Int) (j:Nat) (q:Bool) (Q:AExit->Nat × Bool->PS->Prop) (R:List Item->Nat × Bool->PS->Prop):syE tt G0 [] Tryd.f23.ntmps Y0 Q R .fn 1000 (qks .ret++rfK Tryd.f23 0) (j,q) (⟨[(2,.ptr 2 0),(3,.ptr 3 0)],[(2,.var [.nils]),(3,.var [.i e])]⟩) =
  (Q AExit.ret (j,q) { env:=[(2,.ptr 2 0),(3,.ptr 3 0)],blk:=[(2,.var [.nils]),(3,.var [.i e])] }):=by kernel_rfl
abbrev yPf (m:Int) (q:List SyT):DL yP:=((cpV q m).1,(cpV q m).2,())
theorem hdPt:hd Tryd.f41 0=.code (.rangeFunc (.tmp 5) #[6] (rfA Tryd.f41 0) (rfB Tryd.f41 0))::rfK Tryd.f41 0:=by kernel_rfl
theorem rndPt:rnd Tryd.f41 0=[.code (rfA Tryd.f41 0),.beginRound,.code (rfB Tryd.f41 0)]:=by kernel_rfl
theorem qkb {m:Int} {lp:Nat} {ys:List (DL yP)} {QL:AExit->Nat × Bool->DI (KP lp)->Prop} (hN:QL .normal (ys.length,false) ((m,()),((),()),())) (hR:∀ j,QL .ret (j,true) ((m,()),((),()),())):∀ (rs:List (List SyT)) (j:Nat),j<=ys.length->ys.drop j=rs.map (yPf m)->(∀ q∈rs,q.length<16777216) ->
  qpj Tryd.prog G0 41 Tryd.f41.ntmps ⟨lp,yP,ys⟩ [2,3] [6] (KP lp) yS1 (rfA Tryd.f41 0) (rfB Tryd.f41 0) QL (rs.map yL) (j,false) ((m,()),((),()),())
 | [],j,hj,h,_=>by
  have e:=qqs hj h;subst e;exact hN
 | q::rs,j,hj,h,hq=>by
  obtain ⟨h1,h2,h3⟩:=qtu (y:=yPf m q) (r:=rs.map (yPf m)) h;have k:=qkb (m:=m) (lp:=lp) (ys:=ys) (QL:=QL) hN hR rs (j+1) (by omega) h3 (λ x hx=>hq x (by simp[hx]))
  show GoodE Tryd.prog G0 41 Tryd.f41.ntmps .ready ⟨lp,yP,ys⟩ _ [.code (rfA Tryd.f41 0),.beginRound,.code (rfB Tryd.f41 0)] (j,false) (qk5 [2,3] [6] (KP lp) yS1 ((m,()),((),()),()) (q,()))
  rw[<- rndPt];refine qdq cxPt (q6b m q j false lp ys _ _) ⟨hq q (by simp),rfl,rfl,h2,λ r=>?_⟩
  cases r with
  | false=>exact qag (λ _=>⟨[],((m,()),((),()),()),⟨⟨rfl,rfl,trivial⟩,rfl,rfl⟩,hR (j+1)⟩) (λ h=>by cases h)
  | true=>exact qag (λ h=>by cases h) (λ _=>⟨[],((m,()),((),()),()),⟨⟨rfl,rfl,trivial⟩,rfl,rfl⟩,k⟩)
def bkP (lp:Nat) (x:DI (KP lp)):List (Nat × LB):=[(BIG,.var [.i x.1.1]),(BIG+1,.var [.yl lp])]
theorem qyp {s:List SyT} {l:List SecT} (hs:s.length<16777216):∀ q∈secF s l,q.length<16777216:=λ q hq=>by
 obtain ⟨x,_,rfl⟩:=List.mem_map.1 hq
 show ((s.take _).drop _).length<_
 rw[List.length_drop,List.length_take];omega
theorem qpa {s:List SyT} {n:Nat} (hs:s.length<16777216):∀ (f i:Nat),∀ q∈qjg s n f i,q.length<16777216
 | 0,_,q,h=>by cases h
 | f+1,i,q,h=>by
  rw[qjg] at h;split at h
  ·rcases List.mem_cons.1 h with rfl | h
   ·show ((s.take _).drop _).length<_
    rw[List.length_drop,List.length_take];omega
   ·exact qpa hs f (i+n) q h
  ·cases h
def q78:CtrY:=⟨q5u,λ x=>qit x.1.1.2.2.1.1 x.1.1.2.1.1,yP,λ x=>(secF x.1.1.2.2.1.1 x.1.1.2.1.1).map (yPf x.2.1.1)⟩
theorem qys:HeldY Tryd.prog G0 41 q78:=HeldY.of (fn:=Tryd.f41) rfl rfl rfl ⟨by decide,by decide⟩ λ ⟨⟨⟨⟨⟩,⟨l,⟨⟩⟩,⟨s,⟨⟩⟩,⟨⟩⟩,⟨⟩⟩,⟨m,⟨⟩⟩,⟨⟩⟩ hp lp=>by
 have hp:qit s l:=hp;refine qdq cxPt (q6a s l m lp _ _ _) ?_
 show GoodE Tryd.prog G0 41 Tryd.f41.ntmps .fn ⟨lp,yP,(secF s l).map (yPf m)⟩ (endY ((secF s l).map (yPf m)).length) (hd Tryd.f41 0) (0,false) _
 rw[hdPt];refine GoodE.rangeF (gf:=42) (ct:=q8b) (Ko:=KP lp) (xi:=((l,()),((s,()),()))) (x0:=((m,()),((),()),())) (ns1:=[some (BIG+1),some (BIG+2)]) (ns2:=[some (BIG+3),some 3]) (tl:=[(2,.ptr (BIG+3) 0),(3,.ptr 3 0)]) (bkF:=bkP lp) (rF:=[]) (d:=21) (m:=2)
  (by simp) ?_ q44 rfl rfl rfl ?_ hp ⟨rfl,rfl,trivial⟩ rfl ?_ (by decide) ⟨by decide,by decide,rfl⟩ rfl ?_ (by decide) ?_
 ·exact λ args w=>qbh (fn:=Tryd.f42) rfl rfl rfl args w
 ·exact λ c hc=>by cases hc
 ·intro c hc;have hc:c∈[lp=lp]:=hc;rw[List.mem_singleton] at hc;subst hc;rfl
 ·exact λ x hx=>⟨⟨rfl,rfl,trivial⟩,by simp[bkP,rho,lk,BIG],λ p hp hb=>(by
   simp only[bkP,List.mem_cons,List.not_mem_nil,or_false] at hp;rcases hp with rfl | rfl
   ·exact ⟨rfl,rfl⟩
   ·exact ⟨rfl,rfl⟩),by kernel_rfl⟩
 ·refine qkb ?_ (λ j=>?_) (secF s l) 0 (Nat.zero_le _) rfl (qyp hp.1)
  ·have e:GEz 41 Tryd.f41 ⟨lp,yP,(secF s l).map (yPf m)⟩ (endY ((secF s l).map (yPf m)).length) (rfK Tryd.f41 0) (((secF s l).map (yPf m)).length,false) ⟨[],[]⟩:=qdq cxPt (q08 _ false lp _ _ _) (.inr rfl);exact e.only trivial trivial
  ·have e:GEz 41 Tryd.f41 ⟨lp,yP,(secF s l).map (yPf m)⟩ (endY ((secF s l).map (yPf m)).length) (qks .ret++rfK Tryd.f41 0) (j,true) ⟨[],[]⟩:=qdq cxPt (q07 j true lp _ _ _) (.inl rfl);exact e.only trivial trivial
def q79:CtrY:=⟨q5v,λ x=>qof x.1.1.2.1.1 x.1.1.2.2.1.1,yP,λ x=>(qbz x.1.1.2.1.1 x.1.1.2.2.1.1).map (yPf x.2.1.1)⟩
theorem qyt:HeldY Tryd.prog G0 41 q79:=HeldY.of (fn:=Tryd.f41) rfl rfl rfl ⟨by decide,by decide⟩ λ ⟨⟨⟨⟨⟩,⟨s,⟨⟩⟩,⟨n,⟨⟩⟩,⟨⟩⟩,⟨⟩⟩,⟨m,⟨⟩⟩,⟨⟩⟩ hp lp=>by
 have hp:qof s n:=hp;refine qdq cxPt (q6c s n m lp _ _ _) ?_
 show GoodE Tryd.prog G0 41 Tryd.f41.ntmps .fn ⟨lp,yP,(qbz s n).map (yPf m)⟩ (endY ((qbz s n).map (yPf m)).length) (hd Tryd.f41 0) (0,false) _
 rw[hdPt];refine GoodE.rangeF (gf:=45) (ct:=q8c) (Ko:=KP lp) (xi:=((s,()),((n,()),()))) (x0:=((m,()),((),()),())) (ns1:=[some (BIG+1),some (BIG+2)]) (ns2:=[some (BIG+3),some 3]) (tl:=[(2,.ptr (BIG+3) 0),(3,.ptr 3 0)]) (bkF:=bkP lp) (rF:=[]) (d:=21) (m:=2)
  (by simp) ?_ q0d rfl rfl rfl ?_ hp ⟨rfl,rfl,trivial⟩ rfl ?_ (by decide) ⟨by decide,by decide,rfl⟩ rfl ?_ (by decide) ?_
 ·exact λ args w=>qbh (fn:=Tryd.f45) rfl rfl rfl args w
 ·exact λ c hc=>by cases hc
 ·intro c hc;have hc:c∈[lp=lp]:=hc;rw[List.mem_singleton] at hc;subst hc;rfl
 ·exact λ x hx=>⟨⟨rfl,rfl,trivial⟩,by simp[bkP,rho,lk,BIG],λ p hp hb=>(by
   simp only[bkP,List.mem_cons,List.not_mem_nil,or_false] at hp;rcases hp with rfl | rfl
   ·exact ⟨rfl,rfl⟩
   ·exact ⟨rfl,rfl⟩),by kernel_rfl⟩
 ·refine qkb ?_ (λ j=>?_) (qbz s n) 0 (Nat.zero_le _) rfl (qpa hp.1 _ _)
  ·have e:GEz 41 Tryd.f41 ⟨lp,yP,(qbz s n).map (yPf m)⟩ (endY ((qbz s n).map (yPf m)).length) (rfK Tryd.f41 0) (((qbz s n).map (yPf m)).length,false) ⟨[],[]⟩:=qdq cxPt (q08 _ false lp _ _ _) (.inr rfl);exact e.only trivial trivial
  ·have e:GEz 41 Tryd.f41 ⟨lp,yP,(qbz s n).map (yPf m)⟩ (endY ((qbz s n).map (yPf m)).length) (qks .ret++rfK Tryd.f41 0) (j,true) ⟨[],[]⟩:=qdq cxPt (q07 j true lp _ _ _) (.inl rfl);exact e.only trivial trivial
def colF:List (PaT × Int)->List PaT->List PaT × Int
 | [],o=>(o,0)
 | x::r,o=>match decide (x.2≠0) with
  | true=>([],x.2)
  | false=>colF r (o++[x.1])
abbrev yQ (x:PaT × Int):DL yP:=(x.1,x.2,())
theorem hdCo:hd Tryd.f23 0=.code (.rangeFunc (.tmp 7) #[8,9] (rfA Tryd.f23 0) (rfB Tryd.f23 0))::rfK Tryd.f23 0:=by kernel_rfl
theorem rndCo:rnd Tryd.f23 0=[.code (rfA Tryd.f23 0),.beginRound,.code (rfB Tryd.f23 0)]:=by kernel_rfl
theorem qk6 {QL:AExit->Nat × Bool->DI KL->Prop} {g:Nat × Bool} {V:List PaT × Int} (hN:∀ o,V=(o,0)->QL .normal g (((),()),((0,()),((o,()),())))) (hR:∀ e o,e≠0->V=([],e)->QL .ret g (((),()),((e,()),((o,()),())))):∀ (rs:List (PaT × Int)) (o:List PaT),o.length+rs.length<2 ^ 30->colF rs o=V ->
  qpj Tryd.prog G0 23 Tryd.f23.ntmps Y0 [2,3,4] [8,9] KL yP (rfA Tryd.f23 0) (rfB Tryd.f23 0) QL (rs.map yQ) g (((),()),((0,()),((o,()),())))
 | [],o,_,h=>hN o h.symm
 | (p,e)::rs,o,hl,h=>by
  rw[List.length_cons] at hl
  show GoodE Tryd.prog G0 23 Tryd.f23.ntmps .ready Y0 _ [.code (rfA Tryd.f23 0),.beginRound,.code (rfB Tryd.f23 0)] g (qk5 [2,3,4] [8,9] KL yP (((),()),((0,()),((o,()),()))) (p,e,()))
  rw[<- rndCo];refine qdq cx0 (q6v o 0 p e g.1 g.2 _ _) (qag (λ h1=>?_) (λ h1=>⟨by simp,rfl,rfl,?_,by decide,?_⟩))
  ·have h1:decide (e≠0)=true:=h1;have hv:V=([],e):=by rw[<- h];simp only[colF,h1]
   exact ⟨[],(((),()),((e,()),((o,()),()))),⟨⟨rfl,rfl,rfl,rfl,trivial⟩,rfl,rfl⟩,hR e o (of_decide_eq_true h1) hv⟩
  ·show o.length+([p]:List PaT).length<2 ^ 30
   simp only[List.length_singleton];omega
  ·have h1:decide (e≠0)=false:=h1;have hv:colF rs (o++[p])=V:=by rw[<- h];simp only[colF,h1]
   have k:=qk6 (QL:=QL) (g:=g) (V:=V) hN hR rs (o++[p]) (by rw[List.length_append,List.length_singleton];omega) hv;exact ⟨[(BIG+3,16)],(((),()),((0,()),((o++[p],()),()))),⟨⟨rfl,rfl,by show some (LB.var [SV.win true paS 16 0 (o.length+1)])=some (LB.var [SV.win true paS 16 0 (o++[p]).length]);rw[List.length_append,List.length_singleton],rfl,trivial⟩,rfl,rfl⟩,k⟩
def bkL (x:DI KL):List (Nat × LB):=[(BIG,.var [.nils]),(BIG+1,.var [.i x.2.1.1]),(BIG+2,.var [.win true paS 0 0 x.2.2.1.1.length]),(0,.row 31 paS x.2.2.1.1)]
theorem q2a (Q:List SV->List (Nat × LB)->Prop) (o:List PaT) (g:Nat × Bool):endK tt G0 Tryd.f23.results.toList Q AExit.ret g { env:=[(2,SV.ptr 2 0),(3,SV.ptr 3 0),(4,SV.ptr 4 0),(17,SV.win true paS 1086016 0 o.length)],blk:=[(2,LB.var [SV.win true paS 1086016 0 o.length]),(3,LB.var [SV.int IntKind.i64 0]),(4,LB.var [SV.win true paS 1086016 0 o.length]),(1086016,LB.row 31 paS o)] }=Q [.win true paS 1086016 0 o.length,.i 0] [(2,LB.var [SV.win true paS 1086016 0 o.length]),(3,LB.var [SV.int IntKind.i64 0]),(4,LB.var [SV.win true paS 1086016 0 o.length]),(1086016,LB.row 31 paS o)]:=by kernel_rfl
theorem q19 (Q:List SV->List (Nat × LB)->Prop) (e:Int) (g:Nat × Bool):endK tt G0 Tryd.f23.results.toList Q AExit.ret g { env:=[(2,SV.ptr 2 0),(3,SV.ptr 3 0)],blk:=[(2,LB.var [SV.nils]),(3,LB.var [SV.int IntKind.i64 e])] }=Q [.nils,.i e] [(2,LB.var [SV.nils]),(3,LB.var [SV.int IntKind.i64 e])]:=by kernel_rfl
theorem qo9 {s:List SyT} {n:Nat}:∀ (f i:Nat),(qjg s n f i).length<=f
 | 0,_=>Nat.le_refl _
 | f+1,i=>by
  have:=qo9 (s:=s) (n:=n) f (i+n);rw[qjg];split
  ·rw[List.length_cons];omega
  ·simp
theorem qxa {s:List SyT} {n:Int} (h:qof s n):(qbz s n).length<16777216:=by
 have:=qo9 (s:=s) (n:=n.toNat) s.length 0;have h1:=h.1;unfold qbz;omega
def ctCoS:CtrI:=⟨[pS],λ x=>qit x.1.2.1.1.2.2.1.1 x.1.2.1.1.2.1.1,λ x=>[.win true paS 0 0 (colF ((secF x.1.2.1.1.2.2.1.1 x.1.2.1.1.2.1.1).map (cpV · x.1.2.2.1.1)) []).1.length,.i (colF ((secF x.1.2.1.1.2.2.1.1 x.1.2.1.1.2.1.1).map (cpV · x.1.2.2.1.1)) []).2],λ x=>[(0,.row 31 paS (colF ((secF x.1.2.1.1.2.2.1.1 x.1.2.1.1.2.1.1).map (cpV · x.1.2.2.1.1)) []).1)]⟩
theorem q0a:HeldI Tryd.prog G0 23 ctCoS:=by
 refine HeldI.of cx0 (fn:=Tryd.f23) rfl rfl ⟨by decide,by decide⟩ λ ⟨⟨⟨⟩,⟨⟨⟨⟩,⟨l,⟨⟩⟩,⟨s,⟨⟩⟩,⟨⟩⟩,⟨⟩⟩,⟨m,⟨⟩⟩,⟨⟩⟩,⟨⟩⟩ hp=>?_
 have hpp:qit s l:=hp;have hll:=hpp.2.1;refine qd4 cx0 (q6u s l m _ _) ?_
 show GoodE Tryd.prog G0 23 Tryd.f23.ntmps .fn Y0 (endK tt G0 Tryd.f23.results.toList (QI ctCoS (((),((((),(l,()),(s,()),()),()),(m,()),())),()))) (hd Tryd.f23 0) (0,false) _
 rw[hdCo];refine GoodE.rangeF (gf:=41) (ct:=q78) (Ko:=KL) (xi:=((((),(l,()),(s,()),()),()),(m,()),())) (x0:=(((),()),((0,()),(([],()),())))) (ns1:=[some BIG,some (BIG+1),some (BIG+2),some (BIG+3)]) (ns2:=[some 2,some 3,some 4,none]) (tl:=[(2,.ptr 2 0),(3,.ptr 3 0),(4,.ptr 4 0)]) (bkF:=bkL) (rF:=[(0,BIG+3)]) (d:=21) (m:=3)
  (by simp) ?_ qys rfl rfl rfl ?_ hpp ⟨rfl,rfl,rfl,trivial⟩ rfl ?_ (by decide) ⟨by decide,by decide,rfl⟩ rfl ?_ (by decide) ?_
 ·exact λ args w=>qbh (fn:=Tryd.f41) rfl rfl rfl args w
 ·exact λ c hc=>by cases hc
 ·exact λ c hc=>by cases hc
 ·exact λ x hx=>⟨⟨rfl,rfl,rfl,rfl,trivial⟩,by simp[bkL,rho,lk,BIG],λ p hp hb=>(by
   simp only[bkL,List.mem_cons,List.not_mem_nil,or_false] at hp;rcases hp with rfl | rfl | rfl | rfl
   ·exact ⟨rfl,rfl⟩
   ·exact ⟨rfl,rfl⟩
   ·exact ⟨rfl,rfl⟩
   ·exact absurd hb (show ¬ BIG<=0 by decide)),by kernel_rfl⟩
 ·show qpj Tryd.prog G0 23 Tryd.f23.ntmps Y0 [2,3,4] [8,9] KL yP _ _ _ ((secF s l).map (yPf m)) _ _
  have hmap:(secF s l).map (yPf m)=((secF s l).map (cpV · m)).map yQ:=by rw[List.map_map];rfl
  rw[hmap];refine qk6 (V:=colF ((secF s l).map (cpV · m)) []) (λ o ho=>?_) (λ e o he ho=>?_) _ [] (by show 0+_<_;rw[List.length_map,secF,List.length_map];omega) rfl
  ·have q:GoodE Tryd.prog G0 23 Tryd.f23.ntmps .fn Y0 (endK tt G0 Tryd.f23.results.toList (QI ctCoS (((),((((),(l,()),(s,()),()),()),(m,()),())),()))) (rfK Tryd.f23 0) (0,false) ⟨[(2,.ptr 2 0),(3,.ptr 3 0),(4,.ptr 4 0)],[(2,.var [.nils]),(3,.var [.i 0]),(4,.var [.win true paS 1086016 0 o.length]),(1086016,.row 31 paS o)]⟩:=by
    refine qdq cx0 (q1c o 0 0 false _ _) ?_;rw[q2a];have p0:piOf [(0,1086016)] 0=some 1086016:=by decide
    refine ⟨[(0,1086016)],?_,?_,by decide,λ p hp=>?_⟩
    ·show MtL _ [.win true paS 0 0 (colF ((secF s l).map (cpV · m)) []).1.length,.i (colF ((secF s l).map (cpV · m)) []).2] _
     rw[ho];exact qax (by simp only[Mt];exact .inl ⟨true,1086016,rfl,p0,λ _=>rfl⟩) (qaz _ _ rfl)
    ·show MtK _ _ [(0,.row 31 paS (colF ((secF s l).map (cpV · m)) []).1)]
     rw[ho];exact ⟨.inl ⟨1086016,_,p0,rfl,rfl⟩,trivial⟩
    ·simp only[List.mem_cons,List.not_mem_nil,or_false] at hp;subst hp;decide
   exact q.only ⟨by kernel_rfl,by kernel_rfl,by kernel_rfl,trivial⟩ ⟨by kernel_rfl,by kernel_rfl,by kernel_rfl,by kernel_rfl,trivial⟩
  ·have q:GoodE Tryd.prog G0 23 Tryd.f23.ntmps .fn Y0 (endK tt G0 Tryd.f23.results.toList (QI ctCoS (((),((((),(l,()),(s,()),()),()),(m,()),())),()))) (qks .ret++rfK Tryd.f23 0) (0,false) ⟨[(2,.ptr 2 0),(3,.ptr 3 0)],[(2,.var [.nils]),(3,.var [.i e])]⟩:=by
    refine qdq cx0 (q1b e 0 false _ _) ?_;rw[q19];refine ⟨[],?_,?_,by simp,by simp⟩
    ·show MtL _ [.win true paS 0 0 (colF ((secF s l).map (cpV · m)) []).1.length,.i (colF ((secF s l).map (cpV · m)) []).2] _
     rw[ho];exact ⟨_,_,rfl,.inr ⟨rfl,rfl,rfl,rfl⟩,qaz _ _ rfl⟩
    ·show MtK _ _ [(0,.row 31 paS (colF ((secF s l).map (cpV · m)) []).1)]
     rw[ho];exact ⟨.inr ⟨rfl,_,_,rfl,by decide⟩,trivial⟩
   exact q.only ⟨by kernel_rfl,by kernel_rfl,trivial⟩ ⟨by kernel_rfl,by kernel_rfl,trivial⟩
def ctCoK:CtrI:=⟨[pK],λ x=>qof x.1.2.1.1.2.1.1 x.1.2.1.1.2.2.1.1,λ x=>[.win true paS 0 0 (colF ((qbz x.1.2.1.1.2.1.1 x.1.2.1.1.2.2.1.1).map (cpV · x.1.2.2.1.1)) []).1.length,.i (colF ((qbz x.1.2.1.1.2.1.1 x.1.2.1.1.2.2.1.1).map (cpV · x.1.2.2.1.1)) []).2],λ x=>[(0,.row 31 paS (colF ((qbz x.1.2.1.1.2.1.1 x.1.2.1.1.2.2.1.1).map (cpV · x.1.2.2.1.1)) []).1)]⟩
theorem q0b:HeldI Tryd.prog G0 23 ctCoK:=by
 refine HeldI.of cx0 (fn:=Tryd.f23) rfl rfl ⟨by decide,by decide⟩ λ ⟨⟨⟨⟩,⟨⟨⟨⟩,⟨s,⟨⟩⟩,⟨n,⟨⟩⟩,⟨⟩⟩,⟨⟩⟩,⟨m,⟨⟩⟩,⟨⟩⟩,⟨⟩⟩ hp=>?_
 have hpp:qof s n:=hp;have hll:=qxa hpp;refine qd4 cx0 (q6w s n m _ _) ?_
 show GoodE Tryd.prog G0 23 Tryd.f23.ntmps .fn Y0 (endK tt G0 Tryd.f23.results.toList (QI ctCoK (((),((((),(s,()),(n,()),()),()),(m,()),())),()))) (hd Tryd.f23 0) (0,false) _
 rw[hdCo];refine GoodE.rangeF (gf:=41) (ct:=q79) (Ko:=KL) (xi:=((((),(s,()),(n,()),()),()),(m,()),())) (x0:=(((),()),((0,()),(([],()),())))) (ns1:=[some BIG,some (BIG+1),some (BIG+2),some (BIG+3)]) (ns2:=[some 2,some 3,some 4,none]) (tl:=[(2,.ptr 2 0),(3,.ptr 3 0),(4,.ptr 4 0)]) (bkF:=bkL) (rF:=[(0,BIG+3)]) (d:=21) (m:=3)
  (by simp) ?_ qyt rfl rfl rfl ?_ hpp ⟨rfl,rfl,rfl,trivial⟩ rfl ?_ (by decide) ⟨by decide,by decide,rfl⟩ rfl ?_ (by decide) ?_
 ·exact λ args w=>qbh (fn:=Tryd.f41) rfl rfl rfl args w
 ·exact λ c hc=>by cases hc
 ·exact λ c hc=>by cases hc
 ·exact λ x hx=>⟨⟨rfl,rfl,rfl,rfl,trivial⟩,by simp[bkL,rho,lk,BIG],λ p hp hb=>(by
   simp only[bkL,List.mem_cons,List.not_mem_nil,or_false] at hp;rcases hp with rfl | rfl | rfl | rfl
   ·exact ⟨rfl,rfl⟩
   ·exact ⟨rfl,rfl⟩
   ·exact ⟨rfl,rfl⟩
   ·exact absurd hb (show ¬ BIG<=0 by decide)),by kernel_rfl⟩
 ·show qpj Tryd.prog G0 23 Tryd.f23.ntmps Y0 [2,3,4] [8,9] KL yP _ _ _ ((qbz s n).map (yPf m)) _ _
  have hmap:(qbz s n).map (yPf m)=((qbz s n).map (cpV · m)).map yQ:=by rw[List.map_map];rfl
  rw[hmap];refine qk6 (V:=colF ((qbz s n).map (cpV · m)) []) (λ o ho=>?_) (λ e o he ho=>?_) _ [] (by show 0+_<_;rw[List.length_map];omega) rfl
  ·have q:GoodE Tryd.prog G0 23 Tryd.f23.ntmps .fn Y0 (endK tt G0 Tryd.f23.results.toList (QI ctCoK (((),((((),(s,()),(n,()),()),()),(m,()),())),()))) (rfK Tryd.f23 0) (0,false) ⟨[(2,.ptr 2 0),(3,.ptr 3 0),(4,.ptr 4 0)],[(2,.var [.nils]),(3,.var [.i 0]),(4,.var [.win true paS 1086016 0 o.length]),(1086016,.row 31 paS o)]⟩:=by
    refine qdq cx0 (q1c o 0 0 false _ _) ?_;rw[q2a];have p0:piOf [(0,1086016)] 0=some 1086016:=by decide
    refine ⟨[(0,1086016)],?_,?_,by decide,λ p hp=>?_⟩
    ·show MtL _ [.win true paS 0 0 (colF ((qbz s n).map (cpV · m)) []).1.length,.i (colF ((qbz s n).map (cpV · m)) []).2] _
     rw[ho];exact qax (by simp only[Mt];exact .inl ⟨true,1086016,rfl,p0,λ _=>rfl⟩) (qaz _ _ rfl)
    ·show MtK _ _ [(0,.row 31 paS (colF ((qbz s n).map (cpV · m)) []).1)]
     rw[ho];exact ⟨.inl ⟨1086016,_,p0,rfl,rfl⟩,trivial⟩
    ·simp only[List.mem_cons,List.not_mem_nil,or_false] at hp;subst hp;decide
   exact q.only ⟨by kernel_rfl,by kernel_rfl,by kernel_rfl,trivial⟩ ⟨by kernel_rfl,by kernel_rfl,by kernel_rfl,by kernel_rfl,trivial⟩
  ·have q:GoodE Tryd.prog G0 23 Tryd.f23.ntmps .fn Y0 (endK tt G0 Tryd.f23.results.toList (QI ctCoK (((),((((),(s,()),(n,()),()),()),(m,()),())),()))) (qks .ret++rfK Tryd.f23 0) (0,false) ⟨[(2,.ptr 2 0),(3,.ptr 3 0)],[(2,.var [.nils]),(3,.var [.i e])]⟩:=by
    refine qdq cx0 (q1b e 0 false _ _) ?_;rw[q19];refine ⟨[],?_,?_,by simp,by simp⟩
    ·show MtL _ [.win true paS 0 0 (colF ((qbz s n).map (cpV · m)) []).1.length,.i (colF ((qbz s n).map (cpV · m)) []).2] _
     rw[ho];exact ⟨_,_,rfl,.inr ⟨rfl,rfl,rfl,rfl⟩,qaz _ _ rfl⟩
    ·show MtK _ _ [(0,.row 31 paS (colF ((qbz s n).map (cpV · m)) []).1)]
     rw[ho];exact ⟨.inr ⟨rfl,_,_,rfl,by decide⟩,trivial⟩
   exact q.only ⟨by kernel_rfl,by kernel_rfl,trivial⟩ ⟨by kernel_rfl,by kernel_rfl,trivial⟩
theorem qre:Held Tryd.prog G0 21 ⟨[paS],λ _=>True,λ x=>[.sl syS (psV x.1).1,.i (psV x.1).2],λ _=>[]⟩:=by
 have h:=ps_held.frz (λ x _=>by
  show inL 0 (psV x.1).1.length [SV.win true syS 0 0 (psV x.1).1.length,SV.i (psV x.1).2]/\True
  exact ⟨⟨λ _=>by omega,⟨trivial,trivial⟩⟩,trivial⟩)
 refine h.iff rfl (λ x h=>h) (λ x _=>?_) (λ x _=>rfl)
 show [SV.sl syS (psV x.1).1,SV.i (psV x.1).2]=[SV.sl syS (winL syS 0 (psV x.1).1.length (psV x.1).1),SV.i (psV x.1).2]
 rw[winA (e:=syS)]
def ctPsf:Ctr:=⟨[paS],λ _=>True,λ x=>[.sl syS (psV x.1).1,.i (psV x.1).2],λ _=>[]⟩
def CSp:CV:=[(21,.inl ctPsf),(22,.inl (Im.ctVal True)),(25,.inr ctIns),(24,.inr ctPaS),(23,.inr ctCoS)]
theorem cxSp:CxOK Tryd.prog tt G0 CSp:=((((cx0.consI q0a (fn:=Tryd.f23) rfl rfl rfl).consI qyy (fn:=Tryd.f24) rfl rfl rfl).consI qzs (fn:=Tryd.f25) rfl rfl rfl).k Im.val_held (fn:=Tryd.f22)).k qre (fn:=Tryd.f21)
def CSe:CV:=[(21,.inl ctPsf),(29,.inr ctCk),(24,.inr ctPaK),(23,.inr ctCoK)]
theorem cxSe:CxOK Tryd.prog tt G0 CSe:=(((cx0.consI q0b (fn:=Tryd.f23) rfl rfl rfl).consI qyz (fn:=Tryd.f24) rfl rfl rfl).consI q5m (fn:=Tryd.f29) rfl rfl rfl).k qre (fn:=Tryd.f21)
abbrev KJ:List AK:=[.dat paS,.ptr [.dat (.sl paS)]]
abbrev fJ:AK:=.fn 47 [] [.ptr [.dat (.sl paS)]]
abbrev gtP (l:List PaT) (i:Nat):PaT:=gt paS l i
def othB (l:List PaT) (p:PaT):Bool:=p.1 != (gtP l 0).1
def ctOth:CtrI:=⟨KJ,λ x=>0<x.2.1.1.length,λ x=>[.bool (othB x.2.1.1 x.1)],λ x=>bkKL 0 KJ x⟩
abbrev slP:Sh:=.sl paS
def ixF (p:PaT->Bool):List PaT->Nat->Int
 | [],_ => -1
 | x::r,i=>match p x with
  | true=>(i:Int)
  | false=>ixF p r (i+1)
abbrev KO:List AK:=[.dat slP,fJ]
def q33 (l b:List PaT):Prop:=0<b.length/\l.length<1000000
def ctIfO:CtrI:=⟨KO,λ x=>q33 x.1 x.2.1.2.1.1,λ x=>[.i (ixF (othB x.2.1.2.1.1) x.1 0)],λ x=>bkKL 0 KO x⟩
set_option maxRecDepth 100000
theorem q57 (p:PaT) (l:List SecT) (Q:QT) (R:RT):sA CSp Tryd.f9 Q R [.code (qae Tryd.f9)] (entry [paS,.sl seS] (p,l,())) =
  (ctPsf.pre (p,())/\bc (decide ((psV p).2≠0)) (Q [.nils,.i (psV p).2] [(2,.var [.bool p.1,.i p.2.1,.i p.2.2.1,.sl opS p.2.2.2])]) ((Im.ctVal True).pre (l,p.2.2.1,())/\bc (!Im.validB l p.2.2.1) (Q [.nils,.i 120] [(2,.var [.bool p.1,.i p.2.1,.i p.2.2.1,.sl opS p.2.2.2])]) (ctIns.pre ((psV p).1,l,())/\ctPaS.pre (((),(l,()),((psV p).1,()),()),p.2.1,())/\ctCoS.pre (((),(((),(l,()),((psV p).1,()),()),()),(p.2.1,()),()),())/\Q [.win true paS 1110592 0 (colF (List.map (λ x=>cpV x p.2.1) (secF (psV p).1 l)) []).1.length,.i (colF (List.map (λ x=>cpV x p.2.1) (secF (psV p).1 l)) []).2] [(2,.var [.bool p.1,.i p.2.1,.i p.2.2.1,.sl opS p.2.2.2]),(1110592,.row 31 paS (colF (List.map (λ x=>cpV x p.2.1) (secF (psV p).1 l)) []).1)]))):=by kernel_rfl
theorem q59 (p:PaT) (n:Int) (Q:QT) (R:RT):sA CSe Tryd.f11 Q R [.code (qae Tryd.f11)] (entry [paS,iI] (p,n,())) =
  (ctPsf.pre (p,())/\bc (decide ((psV p).2≠0)) (Q [.nils,.i (psV p).2] [(2,.var [.bool p.1,.i p.2.1,.i p.2.2.1,.sl opS p.2.2.2])]) (bc (decide (n<1)) (true=true/\Q [.nils,.i 1] [(2,.var [.bool p.1,.i p.2.1,.i p.2.2.1,.sl opS p.2.2.2])]) (bc (bif false then true else decide ((4096:Int)<n)) (Q [.nils,.i 1] [(2,.var [.bool p.1,.i p.2.1,.i p.2.2.1,.sl opS p.2.2.2])]) (ctCk.pre ((psV p).1,n,())/\ctPaK.pre (((),((psV p).1,()),(n,()),()),p.2.1,())/\ctCoK.pre (((),(((),((psV p).1,()),(n,()),()),()),(p.2.1,()),()),())/\Q [.win true paS 1114688 0 (colF (List.map (λ x=>cpV x p.2.1) (qbz (psV p).1 n)) []).1.length,.i (colF (List.map (λ x=>cpV x p.2.1) (qbz (psV p).1 n)) []).2] [(2,.var [.bool p.1,.i p.2.1,.i p.2.2.1,.sl opS p.2.2.2]),(1114688,.row 31 paS (colF (List.map (λ x=>cpV x p.2.1) (qbz (psV p).1 n)) []).1)])))):=by kernel_rfl
theorem q6e (l:List PaT) (li:Bool) (m o:Int) (x:List OpT) (Q:QT) (R:RT):sA [] Tryd.f47 Q R [.code (qae Tryd.f47)] (qby KJ ((li,m,o,x),(l,()),())) =
  ((0:Int)<=0/\(0:Int)<(l.length:Int)/\Q [.bool !li == (gtP l (0)).1] [(2,.var [.bool li,.i m,.i o,.sl opS x]),(1099511627776,.var [.sl paS l])]):=by kernel_rfl
theorem q6q (l b:List PaT) (Q:QT) (R:RT):sA [(47,.inr ctOth)] Tryd.f63 Q (λ it S=>R it (qbx [0,1,7,8] [BIG] S)) [.code (qae Tryd.f63)] (qby KO (l,((),((b,()),())),())) =
  (R (hd Tryd.f63 0) { env:=[(0,.sl paS l),(1,.fn (47:Nat) [] [.ptr 1099511627776 0]),(7,.i (l.length:Int)),(8,.i 0)],blk:=[(1099511627776,.var [.sl paS b])] }):=by kernel_rfl
theorem qt8 (l b:List PaT) (i:Nat) (Q:QT) (R:RT):sA [(47,.inr ctOth)] Tryd.f63 Q (λ it S=>R it (qbx [0,1,7,8] [BIG] S)) (hd Tryd.f63 0) ⟨[(0,.sl paS l),(1,.fn 47 [] [.ptr BIG 0]),(7,.i (l.length:Nat)),(8,.i (i:Nat))],[(BIG,.var [.sl paS b])]⟩ =
  (bc (decide ((i:Int)<(l.length:Int))) ((0:Int)<=(i:Int)/\(i:Int)<(l.length:Int)/\ctOth.pre ((gtP l (i:Int).toNat),(b,()),())/\bc (othB b (gtP l (i:Int).toNat)) (Q [.i (i:Int)] [(1099511627776,.var [.sl paS b])]) (R (hd Tryd.f63 0) { env:=[(0,.sl paS l),(1,.fn (47:Nat) [] [.ptr 1099511627776 0]),(7,.i (l.length:Int)),(8,.i (IntKind.i64.wrap ((i:Int)+1)))],blk:=[(1099511627776,.var [.sl paS b])] })) (Q [.i (-1:Int)] [(1099511627776,.var [.sl paS b])])):=by kernel_rfl
theorem q62 (l b:List PaT) (Q:QT) (R:RT):sA [(63,.inr ctIfO)] Tryd.f48 Q R [.code (qae Tryd.f48)] (qby KO (l,((),((b,()),())),())) =
  (ctIfO.pre (l,((),(b,()),()),())/\Q [.bool (decide ((0:Int)<=ixF (othB b) l (0:Nat)))] [(1099511627776,.var [.sl paS b])]):=by kernel_rfl
abbrev gI3 (w:List Int) (i:Nat):Int:=gt (Sh.int .i32) w i
def preW (w:List Int):Prop:=∀ j,-2147483648<=gI3 w j/\gI3 w j<2147483648
theorem q8i {m N:Int}:∀ {l:List OpT} {left i:Int},(chkF m N l left i).2=0\/(chkF m N l left i).2=60
 | [],left,i=>by
  simp only[chkF];split
  ·exact .inr rfl
  ·exact .inl rfl
 | x::l,left,i=>by
  simp only[chkF];split
  ·exact .inr rfl
  ·split
   ·exact .inr rfl
   ·exact q8i
theorem q8h (p:PaT):(chkV p).2=0\/(chkV p).2=60:=by
 unfold chkV;split
 ·exact q8i
 ·exact .inr rfl
section
variable (z:Int) (l4:List (List Int)) (w:List Int) (h6:qjd z l4) (hw:preW w)
include h6 hw
end
theorem q7m {s:List SyT} {m:Int} (hr:∀ x∈s,sOK m x=true) (h0:0<=m) (h1:m<=65536) (hl:s.length<=4096):poV s m=((false,m,(s.length:Int),chL s),0)/\symF (chL s)=s/\(∀ x∈chL s,isRB x m=true)/\qz9 (chL s)=cst s/\(chL s).length<=4096/\ (chkV (false,m,(s.length:Int),chL s)).2=0:=by
 obtain ⟨c1,c2,c3,c4⟩:=ch_ok (m:=m) (by omega) s.length s (Nat.le_refl _) (by omega) hr;have hb:=qr9 s (by omega);unfold boL at hb;have hlen:(chL s).length<=4096:=by
  show (chF s.length s).length<=4096
  have:oct s=(bst s).2.2.2:=rfl;omega
 have hs:=qmq c2;rw[c1] at hs;refine ⟨?_,c1,c2,c3,hlen,?_⟩
 ·unfold poV;rw[if_neg (by omega)]
 ·have:=qql (li:=false) (o:=(s.length:Int)) h0 h1 (by omega) hlen c2 hs.symm;rw[this]
theorem q2e {s:List SyT} {m:Int} (hr:∀ x∈s,sOK m x=true) (h0:0<=m) (h1:m<=65536) (hl:s.length<=4096):cpV s m=((false,m,(s.length:Int),chL s),0):=by
 unfold cpV;rw[if_neg (q4j ⟨by simp[szB];omega,by simp[szB];omega,by rw[List.all_eq_true];exact hr⟩)];exact (q7m hr h0 h1 hl).1
def opK (k:Int) (l:List SyT):OpT:=(k,if k=1\/k=2 then (gtY l 0).2.1 else 0,(l.length:Int),if k=3 then (gtY l 0).2.2 else 0,if k=2\/k=4 then l.map λ s=>s.2.2 else [])
set_option maxRecDepth 100000
section
variable (a b:Int) (l:List SyT) (hl:l.length<16777216)
include hl
end
def preLi (l:List SyT):Prop:=l.length<=65536/\∃ m:Int,m<16777216/\∀ s∈l,sOK m s=true
section
variable (l:List SyT) (hp:preLi l)
include hp
end
section
variable (li:Bool) (m o:Int) (l:List OpT) (hc:(chkV (li,m,o,l)).2=0)
include hc
end
theorem q5f {x:OpT} {m:Int} (h:isRB x m=true) (h0:0<=m) (hm:m<16777216) {k:Nat} (hk:(k:Int)<x.2.2.1):sOK m (elO x.1.toNat x k)=true:=by
 have pp:=qwi h ⟨h0,hm⟩;rcases (qhs h).1 with e | e | e | e
 ·rw[e];have pp:=pp (.inl e)
  show sOK m (true,IntKind.i64.wrap (x.2.1+(k:Int)),0)=true
  rw[IntWalk.i64_in _ (by omega)];simp[sOK];omega
 ·rw[e];have pp:=pp (.inr e)
  show sOK m (true,IntKind.i64.wrap (x.2.1+(k:Int)),gtB x.2.2.2.2 k)=true
  rw[IntWalk.i64_in _ (by omega)];simp[sOK];omega
 ·rw[e];rfl
 ·rw[e];rfl
theorem q3k {m:Int} (h0:0<=m) (hm:m<16777216) {l:List OpT} (hr:∀ x∈l,isRB x m=true):∀ s∈symF l,sOK m s=true:=λ s hs=>by
 obtain ⟨x,hx,k,hk,e⟩:=qum hr s hs;rw[e];exact q5f (hr x hx) h0 hm hk
theorem q5r {p:PaT} (h:(chkV p).2=0):0<=p.2.1/\p.2.1<=65536:=by
 unfold chkV at h;split at h
 next q=>exact q1i q.1
 ·cases h
theorem qun {p:PaT} (h:(symV p).2=0):(chkV p).2=0/\(symV p).1=symF p.2.2.2:=by
 unfold symV at h |-;split at h
 next q=>rw[if_pos q];exact ⟨q,rfl⟩
 next q=>exact absurd h q
theorem qd3 {p:PaT} (h:(symV p).2=0):(∀ s∈(symV p).1,sOK p.2.1 s=true)/\(0<=p.2.1/\p.2.1<=65536)/\((symV p).1.length:Int)=p.2.2.1:=by
 obtain ⟨h1,h2⟩:=qun h;obtain ⟨hr,hs,ho,hl⟩:=qg0 h1;have hi:=q5r h1;rw[h2];exact ⟨q3k hi.1 (by omega) hr,hi,by rw[qmq hr,hs]⟩
theorem q7n {e n:Int} {x:Im.Sec} (h:Im.plcB e n x=true):e<=x.2.1/\x.2.1<x.2.2.1/\x.2.2.1<=n:=by
 have h:=of_decide_eq_true h;exact ⟨h.1,h.2.1,h.2.2.1⟩
theorem quf {n:Int}:∀ (l d:List Im.Sec) (e:Int),0<=e->Im.valF n d e l=true->∀ x∈l,0<=x.2.1/\x.2.1<x.2.2.1/\x.2.2.1<=n
 | [],_,_,_,_,_,h=>by cases h
 | s::l,d,e,he,h,x,hx=>by
  rw[Im.valF,Bool.and_eq_true,Bool.and_eq_true] at h;have hp:=q7n h.1.2;rcases List.mem_cons.1 hx with rfl | hx
  ·exact ⟨by omega,hp.2⟩
  ·exact quf l _ _ (by omega) h.2 x hx
theorem qx9 {l:List Im.Sec} {n:Int} (h:Im.validB l n=true):l.length<=8/\∀ x∈l,0<=x.2.1/\x.2.1<x.2.2.1/\x.2.2.1<=n:=by
 unfold Im.validB at h;rw[Bool.and_eq_true] at h;exact ⟨of_decide_eq_true h.1,quf l [] 0 (Int.le_refl _) h.2⟩
theorem qvg {p:PaT} (h:(psV p).2=0):(((psV p).1.length:Nat):Int)=p.2.2.1/\(psV p).1.length<=65536/\psV p=((symV p).1,0)/\(symV p).2=0/\p.1=false:=by
 by_cases h1:(symV p).2=0
 ·cases hl:p.1 with
  | true=>rw[q7k h1 hl] at h;cases h
  | false=>
   have e:=qyu h1 hl;obtain ⟨r1,r2,r3⟩:=qd3 h1;rw[e];have k1:(((symV p).1.length:Nat):Int)=p.2.2.1:=r3;refine ⟨k1,?_,rfl,h1,rfl⟩;have k3:=(qg0 (qun h1).1).2.2.1
   show (symV p).1.length<=65536
   omega
 ·rw[q32 h1] at h;exact absurd h h1
def splV (p:PaT) (l:List SecT):List PaT × Int:=match decide ((psV p).2≠0) with
 | true=>([],(psV p).2)
 | false=>match Im.validB l p.2.2.1 with
  | false=>([],120)
  | true=>colF ((secF (psV p).1 l).map (cpV · p.2.1)) []
def ctSpl:Ctr:=⟨[paS,.sl seS],λ x=>∀ s∈(show List SecT from x.2.1),s.1.length<2 ^ 62,λ x=>[.win true paS 0 0 (splV x.1 x.2.1).1.length,.i (splV x.1 x.2.1).2],λ x=>[.row 31 paS (splV x.1 x.2.1).1]⟩
theorem q3v (p:PaT) (l:List SecT) (hl:∀ s∈l,s.1.length<2 ^ 62) (R:List Item->PS->Prop):sA CSp Tryd.f9 (QC ctSpl (p,l,())) R [.code (qae Tryd.f9)] (entry [paS,.sl seS] (p,l,())):=by
 refine (q57 p l _ _).mpr ⟨trivial,qag (λ h=>?_) (λ h=>⟨⟨trivial,hl⟩,qag (λ h2=>?_) (λ h2=>?_)⟩)⟩
 ·have e:splV p l=([],(psV p).2):=by unfold splV;rw[show decide ((psV p).2≠0)=true from h]
  refine qe8 (e:=paS) (et:=31) (z:=(psV p).2) ?_ ?_ rfl (by decide)
  ·show [_,_]=_;rw[e];rfl
  ·show [_]=_;rw[e]
 ·have h2:Im.validB l p.2.2.1=false:=by simpa using h2
  have e:splV p l=([],120):=by unfold splV;rw[show decide ((psV p).2≠0)=false from h,h2]
  refine qe8 (e:=paS) (et:=31) (z:=120) ?_ ?_ rfl (by decide)
  ·show [_,_]=_;rw[e];rfl
  ·show [_]=_;rw[e]
 ·have h2:Im.validB l p.2.2.1=true:=by simpa using h2
  have h0:(psV p).2=0:=by have:=of_decide_eq_false h;simpa using this
  obtain ⟨k1,k2,_⟩:=qvg h0;obtain ⟨k3,k4⟩:=qx9 h2;have hs:qit (psV p).1 l:=⟨by omega,by have:l.length<=8:=k3;omega,λ x hx=>by rw[k1];exact k4 x hx⟩;have e:splV p l=colF ((secF (psV p).1 l).map (cpV · p.2.1)) []:=by unfold splV;rw[show decide ((psV p).2≠0)=false from h,h2]
  refine ⟨trivial,trivial,hs,?_⟩;refine qm3 (e:=paS) (et:=31) (a:=1110592) (z:=(colF ((secF (psV p).1 l).map (cpV · p.2.1)) []).2) (xs:=(colF ((secF (psV p).1 l).map (cpV · p.2.1)) []).1) ?_ ?_ rfl rfl rfl
  ·show [_,_]=_;rw[e]
  ·show [_]=_;rw[e]
theorem spl_held:Held Tryd.prog G0 9 ctSpl:=Held.run cxSp (fn:=Tryd.f9) rfl rfl ⟨by decide,by decide⟩ λ ⟨p,l,_⟩ hp=>q3v p l hp _
def secV (p:PaT) (n:Int):List PaT × Int:=match decide ((psV p).2≠0) with
 | true=>([],(psV p).2)
 | false=>match decide (1<=n/\n<=4096) with
  | false=>([],1)
  | true=>colF ((qbz (psV p).1 n).map (cpV · p.2.1)) []
def ctSec:Ctr:=⟨[paS,iI],λ _=>True,λ x=>[.win true paS 0 0 (secV x.1 x.2.1).1.length,.i (secV x.1 x.2.1).2],λ x=>[.row 31 paS (secV x.1 x.2.1).1]⟩
theorem q3z (p:PaT) (n:Int) (R:List Item->PS->Prop):sA CSe Tryd.f11 (QC ctSec (p,n,())) R [.code (qae Tryd.f11)] (entry [paS,iI] (p,n,())):=by
 have bad:decide ((psV p).2≠0)=false->¬ (1<=n/\n<=4096)->secV p n=([],1):=λ h h2=>by unfold secV;rw[h,decide_eq_false h2]
 refine (q59 p n _ _).mpr ⟨trivial,qag (λ h=>?_) (λ h=>qag (λ h2=>⟨rfl,?_⟩) (λ h2=>qag (λ h3=>?_) (λ h3=>?_)))⟩
 ·have e:secV p n=([],(psV p).2):=by unfold secV;rw[show decide ((psV p).2≠0)=true from h]
  refine qe8 (e:=paS) (et:=31) (z:=(psV p).2) ?_ ?_ rfl (by decide)
  ·show [_,_]=_;rw[e];rfl
  ·show [_]=_;rw[e]
 ·have h2:n<1:=of_decide_eq_true h2;have e:=bad h (by omega);refine qe8 (e:=paS) (et:=31) (z:=1) ?_ ?_ rfl (by decide)
  ·show [_,_]=_;rw[e];rfl
  ·show [_]=_;rw[e]
 ·have h3:4096<n:=of_decide_eq_true h3;have e:=bad h (by omega);refine qe8 (e:=paS) (et:=31) (z:=1) ?_ ?_ rfl (by decide)
  ·show [_,_]=_;rw[e];rfl
  ·show [_]=_;rw[e]
 ·have h2:¬ n<1:=of_decide_eq_false h2;have h3:¬ 4096<n:=of_decide_eq_false h3;have h0:(psV p).2=0:=by have:=of_decide_eq_false h;simpa using this
  obtain ⟨k1,k2,_⟩:=qvg h0;have e:secV p n=colF ((qbz (psV p).1 n).map (cpV · p.2.1)) []:=by unfold secV;rw[show decide ((psV p).2≠0)=false from h,decide_eq_true (show 1<=n/\n<=4096 by omega)]
  have hk:qof (psV p).1 n:=⟨by omega,by omega,by omega⟩;refine ⟨(show 1<=n by omega),trivial,hk,?_⟩;refine qm3 (e:=paS) (et:=31) (a:=1114688) (z:=(colF ((qbz (psV p).1 n).map (cpV · p.2.1)) []).2) (xs:=(colF ((qbz (psV p).1 n).map (cpV · p.2.1)) []).1) ?_ ?_ rfl rfl rfl
  ·show [_,_]=_;rw[e]
  ·show [_]=_;rw[e]
theorem sec_held:Held Tryd.prog G0 11 ctSec:=Held.run cxSe (fn:=Tryd.f11) rfl rfl ⟨by decide,by decide⟩ λ ⟨p,n,_⟩ _=>q3z p n _
theorem qy3:HeldI Tryd.prog G0 47 ctOth:=HeldI.run cx0 (fn:=Tryd.f47) rfl rfl ⟨by decide,by decide⟩ λ ⟨⟨li,m,o,x⟩,⟨l,⟨⟩⟩,⟨⟩⟩ hp=>by
 have hp:0<l.length:=hp;refine (q6e l li m o x _ _).mpr ⟨by omega,by omega,QI.self rfl rfl rfl (λ p hp=>?_)⟩;have hp:p∈[(BIG,LB.var [SV.sl paS l])]:=hp;rw[List.mem_singleton] at hp;subst hp;rfl
theorem cxOt:CxOK Tryd.prog tt G0 [(47,.inr ctOth)]:=cx0.consI qy3 (fn:=Tryd.f47) rfl rfl rfl
abbrev QIx (b:List PaT) (v:SV):List SV->List (Nat × LB)->Prop:=λ rs blk=>rs=[v]/\lk blk BIG=some (LB.var [.sl paS b])
theorem qhu {l:List PaT} {i:Nat} (h:i<l.length):gtP l i=l[i]:=gtE (e:=paS) h
theorem qwh (p:PaT->Bool):∀ (l:List PaT) (i:Nat),decide ((0:Int)<=ixF p l i)=l.any p
 | [],i=>rfl
 | x::r,i=>by
  rw[ixF,List.any_cons];cases h:p x with
  | true=>simp only[Bool.true_or,decide_eq_true_eq];omega
  | false=>simp only[Bool.false_or];exact qwh p r (i+1)
theorem qzu {l b:List PaT} {v:SV} (hb:0<b.length) (hl:l.length<1000000):∀ (k i:Nat),l.length-i=k->i<=l.length->v=.i (ixF (othB b) (l.drop i) i)->GD 63 Tryd.f63 (QIx b v) (hd Tryd.f63 0) ⟨[(0,.sl paS l),(1,.fn 47 [] [.ptr BIG 0]),(7,.i (l.length:Nat)),(8,.i (i:Nat))],[(BIG,.var [.sl paS b])]⟩:=by
 intro k
 induction k with
 | zero=>
  intro i hk hi hv;have hi:i=l.length:=by omega
  subst hi;refine qaw cxOt (qt8 l b l.length _ _) ?_;rw[decide_eq_false (show ¬ ((l.length:Nat):Int)<(l.length:Int) by omega),bc_f];rw[List.drop_length] at hv;exact ⟨by rw[hv];rfl,rfl⟩
 | succ k ih=>
  intro i hk hi hv;have hil:i<l.length:=by omega
  refine qaw cxOt (qt8 l b i _ _) ?_;rw[decide_eq_true (show (i:Int)<(l.length:Int) by omega),bc_t];simp only[Int.toNat_natCast];rw[qgy hil,ixF,<- qhu hil] at hv;refine ⟨by omega,by omega,hb,qag (λ h=>?_) (λ h=>?_)⟩
  ·have h:othB b (gtP l i)=true:=h;rw[h] at hv;exact ⟨by rw[hv],rfl⟩
  ·have h:othB b (gtP l i)=false:=h;rw[h] at hv;have nx:=ih (i+1) (by omega) (by omega) hv;rw[IntWalk.i64_in ((i:Int)+1) (by omega)];exact nx.only ⟨rfl,rfl,rfl,rfl,trivial⟩ ⟨rfl,trivial⟩
theorem qzv:HeldI Tryd.prog G0 63 ctIfO:=HeldI.of cxOt (fn:=Tryd.f63) rfl rfl ⟨by decide,by decide⟩ λ ⟨l,⟨⟨⟩,⟨⟨b,⟨⟩⟩,⟨⟩⟩⟩,⟨⟩⟩ hp=>by
 obtain ⟨hb,hl⟩:q33 l b:=hp;refine qaw cxOt (q6q l b _ _) (((qzu (v:=.i (ixF (othB b) l 0)) hb hl _ 0 rfl (Nat.zero_le _) rfl).post λ rs blk hq=>?_).only ⟨rfl,rfl,rfl,rfl,trivial⟩ ⟨rfl,trivial⟩);refine QI.self hq.1.symm (by rw[hq.1];rfl) rfl (λ p hp=>?_);have hp:p∈[(BIG,LB.var [SV.sl paS b])]:=hp;rw[List.mem_singleton] at hp;subst hp;exact hq.2
def ctCfO:CtrI:=⟨KO,λ x=>q33 x.1 x.2.1.2.1.1,λ x=>[.bool (List.any x.1 (othB x.2.1.2.1.1))],λ x=>bkKL 0 KO x⟩
theorem q0h:HeldI Tryd.prog G0 48 ctCfO:=HeldI.run (cx0.consI qzv (fn:=Tryd.f63) rfl rfl rfl) (fn:=Tryd.f48) rfl rfl ⟨by decide,by decide⟩ λ ⟨l,⟨⟨⟩,⟨⟨b,⟨⟩⟩,⟨⟩⟩⟩,⟨⟩⟩ hp=>by
 refine (q62 l b _ _).mpr ⟨hp,QI.self ?_ rfl rfl (λ p hp=>?_)⟩
 ·show [SV.bool (List.any l (othB b))]=[SV.bool (decide ((0:Int)<=ixF (othB b) l 0))]
  rw[qwh]
 ·have hp:p∈[(BIG,LB.var [SV.sl paS b])]:=hp;rw[List.mem_singleton] at hp;subst hp;rfl
def ctSyF:Ctr:=⟨[paS],λ _=>True,λ x=>[.sl syS (symV x.1).1,.i (symV x.1).2],λ _=>[]⟩
theorem qyf:Held Tryd.prog G0 37 ctSyF:=by
 have h:=sym_held.frz (λ x _=>by
  show inL 0 (symV x.1).1.length [SV.win true syS 0 0 (symV x.1).1.length,SV.i (symV x.1).2]/\True
  exact ⟨⟨λ _=>by omega,⟨trivial,trivial⟩⟩,trivial⟩)
 refine h.iff rfl (λ x h=>h) (λ x _=>?_) (λ x _=>rfl)
 show [SV.sl syS (symV x.1).1,SV.i (symV x.1).2]=[SV.sl syS (winL syS 0 (symV x.1).1.length (symV x.1).1),SV.i (symV x.1).2]
 rw[winA (e:=syS)]
theorem cxAy:CxOK Tryd.prog tt G0 [(37,.inl ctSyF)]:=cx0.k qyf (fn:=Tryd.f37)
abbrev CJ1:CV:=[(46,.inl ctChk),(48,.inr ctCfO)]
theorem cxJ1:CxOK Tryd.prog tt G0 CJ1:=(cx0.consI q0h (fn:=Tryd.f48) rfl rfl rfl).k qr7 (fn:=Tryd.f46)
set_option maxRecDepth 100000
theorem q64 (l:List PaT) (Q:QT) (R:RT):sA [(37,.inl ctSyF)] Tryd.f32 Q R [.code (qae Tryd.f32)] (entry [.sl paS] (l,())) =
  (R (hd Tryd.f32 0) { env:=[(0,.sl paS l),(2,.nils),(3,.nils),(8,.sl paS l),(9,.i (l.length:Int)),(10,.i 0)],blk:=[] }):=by kernel_rfl
theorem q3d (l:List PaT) (i:Int) (Q:QT) (R:RT):sA [(37,.inl ctSyF)] Tryd.f32 Q R (hd Tryd.f32 0) ⟨[(3,.nils),(8,.sl paS l),(9,.i (l.length:Nat)),(10,.i i)],[]⟩ =
  (bc (decide (i<(l.length:Int))) ((0:Int)<=i/\i<(l.length:Int)/\ctSyF.pre ((gtP l i.toNat),())/\(symV (gtP l i.toNat)).1.length<2 ^ 30/\(24:Nat)<=2 ^ 10/\R (hd Tryd.f32 0) { env:=[(3,.win true syS 21 0 (symV (gtP l i.toNat)).1.length),(5,.ptr 5 0),(6,.sl syS (symV (gtP l i.toNat)).1),(7,.i (symV (gtP l i.toNat)).2),(8,.sl paS l),(9,.i (l.length:Int)),(10,.i (i64.wrap (i+1))),(11,.bool (decide (i<(l.length:Int)))),(12,.elv paS (gtP l i.toNat)),(13,.agg [.bool (gtP l i.toNat).1,.i (gtP l i.toNat).2.1,.i (gtP l i.toNat).2.2.1,.sl opS (gtP l i.toNat).2.2.2]),(14,SV.tup [.sl syS (symV (gtP l i.toNat)).1,.i (symV (gtP l i.toNat)).2]),(15,.agg [.bool (gtP l i.toNat).1,.i (gtP l i.toNat).2.1,.i (gtP l i.toNat).2.2.1,.sl opS (gtP l i.toNat).2.2.2]),(16,SV.tup [.sl syS (symV (gtP l i.toNat)).1,.i (symV (gtP l i.toNat)).2]),(17,.sl syS (symV (gtP l i.toNat)).1),(18,.i (symV (gtP l i.toNat)).2),(19,.nils),(20,.sl syS (symV (gtP l i.toNat)).1),(21,.win true syS 21 0 (symV (gtP l i.toNat)).1.length),(22,.i (i64.wrap (i+1)))],blk:=[(5,.var [.bool (gtP l i.toNat).1,.i (gtP l i.toNat).2.1,.i (gtP l i.toNat).2.2.1,.sl opS (gtP l i.toNat).2.2.2]),(21,.row 82 syS (symV (gtP l i.toNat)).1)] }) False):=by kernel_rfl
theorem qud (l:List PaT) (o:List SyT) (i:Int) (Q:QT) (R:RT):sA [(37,.inl ctSyF)] Tryd.f32 Q R (hd Tryd.f32 0) ⟨[(3,.win true syS 77 0 o.length),(8,.sl paS l),(9,.i (l.length:Nat)),(10,.i i)],[(77,.row 82 syS o)]⟩ =
  (bc (decide (i<(l.length:Int))) ((0:Int)<=i/\i<(l.length:Int)/\ctSyF.pre ((gtP l i.toNat),())/\o.length=o.length/\(0:Nat)=(0:Nat)/\o.length+(symV (gtP l i.toNat)).1.length<2 ^ 30/\(24:Nat)<=2 ^ 10/\R (hd Tryd.f32 0) { env:=[(3,.win true syS 21 0 (o.length+(symV (gtP l i.toNat)).1.length)),(5,.ptr 5 0),(6,.sl syS (symV (gtP l i.toNat)).1),(7,.i (symV (gtP l i.toNat)).2),(8,.sl paS l),(9,.i (l.length:Int)),(10,.i (i64.wrap (i+1))),(11,.bool (decide (i<(l.length:Int)))),(12,.elv paS (gtP l i.toNat)),(13,.agg [.bool (gtP l i.toNat).1,.i (gtP l i.toNat).2.1,.i (gtP l i.toNat).2.2.1,.sl opS (gtP l i.toNat).2.2.2]),(14,SV.tup [.sl syS (symV (gtP l i.toNat)).1,.i (symV (gtP l i.toNat)).2]),(15,.agg [.bool (gtP l i.toNat).1,.i (gtP l i.toNat).2.1,.i (gtP l i.toNat).2.2.1,.sl opS (gtP l i.toNat).2.2.2]),(16,SV.tup [.sl syS (symV (gtP l i.toNat)).1,.i (symV (gtP l i.toNat)).2]),(17,.sl syS (symV (gtP l i.toNat)).1),(18,.i (symV (gtP l i.toNat)).2),(19,.dead),(20,.sl syS (symV (gtP l i.toNat)).1),(21,.win true syS 21 0 (o.length+(symV (gtP l i.toNat)).1.length)),(22,.i (i64.wrap (i+1)))],blk:=[(5,.var [.bool (gtP l i.toNat).1,.i (gtP l i.toNat).2.1,.i (gtP l i.toNat).2.2.1,.sl opS (gtP l i.toNat).2.2.2]),(21,.row 82 syS (o++(symV (gtP l i.toNat)).1))] }) (o.length=o.length/\(o.length:Int)=(o.length:Int)/\(o.length:Int)=(o.length:Int)/\o.length<1099511627776/\0+o.length<=o.length/\0+o.length<=o.length/\0+o.length<=o.length/\0+o.length<=o.length/\Q [.sl syS o] [])):=by kernel_rfl
theorem vc_cj (l:List PaT) (Q:QT) (R:RT):sA CJ1 Tryd.f30 Q (λ it S=>R it (qbx [1,8,14,15,16,33,34,35] [1] S)) [.code (qae Tryd.f30)] (entry [.sl paS] (l,())) =
  (bc (decide ((l.length:Int)=(0:Int))) (Q [.i 1] [(1,.var [.sl paS l])]) (R (hd Tryd.f30 0) { env:=[(1,.ptr 1 0),(14,.sl paS l),(15,.i (l.length:Int)),(16,.i 0)],blk:=[(1,.var [.sl paS l])] })):=by kernel_rfl
theorem q1e (l:List PaT) (i:Int) (Q:QT) (R:RT):sA CJ1 Tryd.f30 Q (λ it S=>R it (qbx [1,8,14,15,16,33,34,35] [1] S)) (hd Tryd.f30 0) ⟨[(1,.ptr 1 0),(14,.sl paS l),(15,.i (l.length:Nat)),(16,.i i)],[(1,.var [.sl paS l])]⟩ =
  (bc (decide (i<(l.length:Int))) ((0:Int)<=i/\i<(l.length:Int)/\ctChk.pre ((gtP l i.toNat),())/\bc (decide ((chkV (gtP l i.toNat)).2≠0)) (Q [.i (chkV (gtP l i.toNat)).2] [(1,.var [.sl paS l]),(4,.var [.bool (gtP l i.toNat).1,.i (gtP l i.toNat).2.1,.i (gtP l i.toNat).2.2.1,.sl opS (gtP l i.toNat).2.2.2])]) (R (hd Tryd.f30 0) { env:=[(1,.ptr 1 0),(14,.sl paS l),(15,.i (l.length:Int)),(16,.i (i64.wrap (i+1)))],blk:=[(1,.var [.sl paS l])] })) (ctCfO.pre (l,((),(l,()),()),())/\bc (l.any (othB l)) (Q [.i 62] [(1,.var [.sl paS l])]) (R (hd Tryd.f30 1) { env:=[(1,.ptr 1 0),(8,.i 65536),(14,.sl paS l),(15,.i (l.length:Int)),(16,.i i),(33,.sl paS l),(34,.i (l.length:Int)),(35,.i 0)],blk:=[(1,.var [.sl paS l])] }))):=by kernel_rfl
def ql4 (l:List PaT) (i:Int):List (Nat × LB):=[(1,.var [.sl paS l]),(10,.var [.bool (gtP l i.toNat).1,.i (gtP l i.toNat).2.1,.i (gtP l i.toNat).2.2.1,.sl opS (gtP l i.toNat).2.2.2])]
theorem q1d (l:List PaT) (n i:Int) (Q:QT) (R:RT):sA CJ1 Tryd.f30 Q (λ it S=>R it (qbx [1,8,14,15,16,33,34,35] [1] S)) (hd Tryd.f30 1) ⟨[(1,.ptr 1 0),(8,.i n),(33,.sl paS l),(34,.i (l.length:Nat)),(35,.i i)],[(1,.var [.sl paS l])]⟩ =
  (bc (decide (i<(l.length:Int))) ((0:Int)<=i/\i<(l.length:Int)/\(0:Int)<=0/\(0:Int)<(l.length:Int)/\bc (decide ((gtP l i.toNat).2.1≠(gtP l (0)).2.1)) (true=true/\Q [.i 61] (ql4 l i)) (bc (bif false then true else decide (n<(gtP l i.toNat).2.2.1)) (Q [.i 61] (ql4 l i)) (R (hd Tryd.f30 1) { env:=[(1,.ptr 1 0),(8,.i (i64.wrap (n-(gtP l i.toNat).2.2.1))),(33,.sl paS l),(34,.i (l.length:Int)),(35,.i (i64.wrap (i+1)))],blk:=[(1,.var [.sl paS l])] }))) (Q [.i 0] [(1,.var [.sl paS l])])):=by kernel_rfl
def ckaF:List PaT->Int
 | []=>0
 | p::r=>match decide ((chkV p).2≠0) with
  | true=>(chkV p).2
  | false=>ckaF r
def lenF (m:Int):List PaT->Int->Int
 | [],_=>0
 | p::r,n=>match decide (p.2.1≠m) with
  | true=>61
  | false=>match decide (n<p.2.2.1) with
   | true=>61
   | false=>lenF m r (n-p.2.2.1)
def cjV (l:List PaT):Int:=match decide (l.length=0) with
 | true=>1
 | false=>match decide (ckaF l≠0) with
  | true=>ckaF l
  | false=>match l.any (othB l) with
   | true=>62
   | false=>lenF (gtP l 0).2.1 l 65536
def ctCj:Ctr:=⟨[.sl paS],λ x=>List.length x.1<1000000,λ x=>[.i (cjV x.1)],λ _=>[]⟩
theorem qqk:∀ {l:List PaT},ckaF l=0->∀ p∈l,(chkV p).2=0
 | [],_,p,hp=>by cases hp
 | q::l,h,p,hp=>by
  rw[ckaF] at h;by_cases hq:(chkV q).2≠0
  ·rw[decide_eq_true hq] at h;exact absurd h hq
  ·rw[decide_eq_false hq] at h;rcases List.mem_cons.1 hp with rfl | hp
   ·exact Classical.not_not.1 hq
   ·exact qqk h p hp
abbrev QJ (v:Int):List SV->List (Nat × LB)->Prop:=λ rs _=>rs=[.i v]
theorem q0e {l:List PaT} {v:Int} (h0:0<l.length) (hl:l.length<1000000) (hok:∀ p∈l,(chkV p).2=0):∀ (k i:Nat) (n:Int),l.length-i=k->i<=l.length->0<=n/\n<=65536->v=lenF (gtP l 0).2.1 (l.drop i) n->GD 30 Tryd.f30 (QJ v) (hd Tryd.f30 1) ⟨[(1,.ptr 1 0),(8,.i n),(33,.sl paS l),(34,.i (l.length:Nat)),(35,.i (i:Nat))],[(1,.var [.sl paS l])]⟩:=by
 intro k
 induction k with
 | zero=>
  intro i n hk hi hn hv;have hi:i=l.length:=by omega
  subst hi;refine qaw cxJ1 (q1d l n l.length _ _) ?_;rw[decide_eq_false (show ¬ ((l.length:Nat):Int)<(l.length:Int) by omega),bc_f];rw[List.drop_length] at hv;rw[hv];rfl
 | succ k ih=>
  intro i n hk hi hn hv;have hil:i<l.length:=by omega
  refine qaw cxJ1 (q1d l n i _ _) ?_;rw[decide_eq_true (show (i:Int)<(l.length:Int) by omega),bc_t];simp only[Int.toNat_natCast];rw[qgy hil,lenF,<- qhu hil] at hv;have hp:=(qg0 (hok (gtP l i) (by rw[qhu hil];exact List.getElem_mem hil))).2.2.1;refine ⟨by omega,by omega,by omega,by omega,qag (λ h=>⟨by trivial,?_⟩) (λ h=>?_)⟩
  ·rw[h] at hv;rw[hv]
  ·rw[h] at hv
   show bc (decide (n<(gtP l i).2.2.1)) _ _
   refine qag (λ h2=>?_) (λ h2=>?_)
   ·rw[h2] at hv;rw[hv]
   ·rw[h2] at hv;have h2:=of_decide_eq_false h2;have nx:=ih (i+1) (n-(gtP l i).2.2.1) (by omega) (by omega) (by omega) hv;rw[IntWalk.i64_in ((i:Int)+1) (by omega),IntWalk.i64_in (n-(gtP l i).2.2.1) (by omega)];exact nx.only ⟨rfl,rfl,rfl,rfl,rfl,trivial⟩ ⟨rfl,trivial⟩
theorem q0f {l:List PaT} {v:Int} (h0:0<l.length) (hl:l.length<1000000) (hv0:v=cjV l):∀ (k i:Nat),l.length-i=k->i<=l.length->ckaF l=ckaF (l.drop i)->GD 30 Tryd.f30 (QJ v) (hd Tryd.f30 0) ⟨[(1,.ptr 1 0),(14,.sl paS l),(15,.i (l.length:Nat)),(16,.i (i:Nat))],[(1,.var [.sl paS l])]⟩:=by
 have e0:decide (l.length=0)=false:=decide_eq_false (by omega);intro k
 induction k with
 | zero=>
  intro i hk hi hv;have hi:i=l.length:=by omega
  subst hi;rw[List.drop_length] at hv;have hc:ckaF l=0:=hv;have e1:decide (ckaF l≠0)=false:=decide_eq_false (by omega);unfold cjV at hv0;rw[e0,e1] at hv0;refine qaw cxJ1 (q1e l l.length _ _) ?_;rw[decide_eq_false (show ¬ ((l.length:Nat):Int)<(l.length:Int) by omega),bc_f];refine ⟨⟨h0,hl⟩,qag (λ h=>?_) (λ h=>?_)⟩
  ·rw[h] at hv0;rw[hv0]
  ·rw[h] at hv0;exact (q0e h0 hl (qqk hc) _ 0 65536 rfl (Nat.zero_le _) (by omega) hv0).only ⟨rfl,rfl,rfl,rfl,rfl,trivial⟩ ⟨rfl,trivial⟩
 | succ k ih=>
  intro i hk hi hv;have hil:i<l.length:=by omega
  refine qaw cxJ1 (q1e l i _ _) ?_;rw[decide_eq_true (show (i:Int)<(l.length:Int) by omega),bc_t];simp only[Int.toNat_natCast];rw[qgy hil,ckaF,<- qhu hil] at hv;refine ⟨by omega,by omega,trivial,qag (λ h=>?_) (λ h=>?_)⟩
  ·rw[h] at hv;have h:=of_decide_eq_true h;unfold cjV at hv0;rw[e0,decide_eq_true (show ckaF l≠0 by rw[hv];exact h),hv] at hv0;rw[hv0]
  ·rw[h] at hv;have nx:=ih (i+1) (by omega) (by omega) hv;rw[IntWalk.i64_in ((i:Int)+1) (by omega)];exact nx.only ⟨rfl,rfl,rfl,rfl,trivial⟩ ⟨rfl,trivial⟩
theorem q5n:Held Tryd.prog G0 30 ctCj:=Held.of cxJ1 (fn:=Tryd.f30) rfl rfl ⟨by decide,by decide⟩ λ ⟨l,_⟩ hp=>by
 have hl:l.length<1000000:=hp;refine qaw cxJ1 (vc_cj l _ _) (qag (λ h=>?_) (λ h=>?_))
 ·have h:=of_decide_eq_true h;have e:cjV l=1:=by unfold cjV;rw[decide_eq_true (show l.length=0 by omega)]
  refine QC.flat ?_ rfl rfl
  show [SV.i (cjV l)]=_
  rw[e]
 ·have h:=of_decide_eq_false h;refine ((q0f (v:=cjV l) (by omega) hl rfl _ 0 rfl (Nat.zero_le _) rfl).post λ rs blk hq=>QC.flat (Eq.symm hq) rfl (by rw[hq];rfl)).only ⟨rfl,rfl,rfl,rfl,trivial⟩ ⟨rfl,trivial⟩
def ayaF (l:List PaT):List SyT:=l.flatMap λ p=>(symV p).1
def qvh (l:List PaT):Prop:=0<l.length/\l.length<1000000/\(ayaF l).length<16777216
def ctAya:Ctr:=⟨[.sl paS],λ x=>qvh x.1,λ x=>[.sl syS (ayaF x.1)],λ _=>[]⟩
theorem qh0 {l:List PaT} {i:Nat} (h:i<l.length):ayaF (l.take (i+1))=ayaF (l.take i)++(symV (gtP l i)).1:=by
 unfold ayaF;rw[List.take_succ_eq_append_getElem h,List.flatMap_append,qhu h];simp
theorem qxg {l:List PaT} (i:Nat):(ayaF (l.take i)).length<=(ayaF l).length:=by
 have:ayaF l=ayaF (l.take i)++ayaF (l.drop i):=by
  unfold ayaF;rw[<- List.flatMap_append,List.take_append_drop]
 rw[this,List.length_append];omega
abbrev QAy (o:List SyT):List SV->List (Nat × LB)->Prop:=λ rs _=>rs=[.sl syS o]
theorem q0l {l:List PaT} (hl:l.length<1000000) (hb:(ayaF l).length<16777216):∀ (k i:Nat) (o:List SyT),l.length-i=k->i<=l.length->o=ayaF (l.take i)->GD 32 Tryd.f32 (QAy (ayaF l)) (hd Tryd.f32 0) ⟨[(3,.win true syS 77 0 o.length),(8,.sl paS l),(9,.i (l.length:Nat)),(10,.i (i:Nat))],[(77,.row 82 syS o)]⟩:=by
 intro k
 induction k with
 | zero=>
  intro i o hk hi ho;have hi:i=l.length:=by omega
  subst hi;rw[List.take_length] at ho;subst ho;refine qd4 cxAy (qud l (ayaF l) l.length _ _) ?_;rw[decide_eq_false (show ¬ ((l.length:Nat):Int)<(l.length:Int) by omega),bc_f];refine ⟨rfl,rfl,rfl,by omega,by omega,by omega,by omega,by omega,rfl⟩
 | succ k ih=>
  intro i o hk hi ho;have hil:i<l.length:=by omega
  refine qd4 cxAy (qud l o i _ _) ?_;have nx:=ih (i+1) (o++(symV (gtP l i)).1) (by omega) (by omega) (by rw[ho,qh0 hil]);have hn:o.length+(symV (gtP l i)).1.length<=(ayaF l).length:=by
   have:=qxg (l:=l) (i+1);rw[qh0 hil,<- ho,List.length_append] at this;exact this
  rw[decide_eq_true (show (i:Int)<(l.length:Int) by omega),bc_t,IntWalk.i64_in ((i:Int)+1) (by omega)];simp only[Int.toNat_natCast];refine ⟨by omega,by omega,trivial,by trivial,by trivial,by omega,by omega,?_⟩;refine nx.onlyR [(77,21)] rfl ⟨?_,rfl,rfl,rfl,trivial⟩ ⟨rfl,trivial⟩;rw[List.length_append];rfl
theorem q0m:Held Tryd.prog G0 32 ctAya:=Held.of cxAy (fn:=Tryd.f32) rfl rfl ⟨by decide,by decide⟩ λ ⟨l,_⟩ hp=>by
 obtain ⟨h0,hl,hb⟩:qvh l:=hp;refine qd4 cxAy (q64 l _ _) ?_;have go:GD 32 Tryd.f32 (QAy (ayaF l)) (hd Tryd.f32 0) ⟨[(3,.nils),(8,.sl paS l),(9,.i (l.length:Nat)),(10,.i (0:Int))],[]⟩:=by
  refine qd4 cxAy (q3d l 0 _ _) ?_;have nx:=q0l hl hb _ 1 (symV (gtP l 0)).1 rfl (by omega) (by rw[qh0 h0];rfl);have hn:(symV (gtP l 0)).1.length<=(ayaF l).length:=by
   have:=qxg (l:=l) 1;rw[qh0 h0,List.length_append] at this;omega
  rw[decide_eq_true (show (0:Int)<(l.length:Int) by omega),bc_t];refine ⟨by omega,by omega,trivial,?_,by omega,?_⟩
  ·show (symV (gtP l 0)).1.length<2 ^ 30
   omega
  ·exact nx.onlyR [(77,21)] rfl ⟨rfl,rfl,rfl,rfl,trivial⟩ ⟨rfl,trivial⟩
 exact (go.post λ rs blk hq=>QC.flat (Eq.symm hq) rfl (by rw[hq];rfl)).only ⟨rfl,rfl,rfl,rfl,trivial⟩ trivial
abbrev CJn:CV:=[(30,.inl ctCj),(32,.inl ctAya),(31,.inl ctCp)]
theorem cxJn:CxOK Tryd.prog tt G0 CJn:=((cx0.k qw8 (fn:=Tryd.f31)).k q0m (fn:=Tryd.f32)).k q5n (fn:=Tryd.f30)
set_option maxRecDepth 100000
theorem q24 (l:List PaT) (Q:QT) (R:RT):sA CJn Tryd.f13 Q R [.code (qae Tryd.f13)] (entry [.sl paS] (l,())) =
  (ctCj.pre (l,())/\bc (decide (cjV l≠0)) (Q [.agg [.bool false,.i 0,.i 0,.nils],.i (cjV l)] [(2,.var [.bool false,.i 0,.i 0,.nils])]) (ctAya.pre (l,())/\(0:Int)<=0/\(0:Int)<(l.length:Int)/\ctCp.pre (ayaF l,(gtP l (0)).2.1,())/\bc (decide ((cpV (ayaF l) (gtP l (0)).2.1).2≠0)) (Q [.agg [.bool false,.i 0,.i 0,.nils],.i (cpV (ayaF l) (gtP l (0)).2.1).2] [(2,.var [.bool false,.i 0,.i 0,.nils]),(5,.var [.bool (cpV (ayaF l) (gtP l (0)).2.1).1.1,.i (cpV (ayaF l) (gtP l (0)).2.1).1.2.1,.i (cpV (ayaF l) (gtP l (0)).2.1).1.2.2.1,.sl opS (cpV (ayaF l) (gtP l (0)).2.1).1.2.2.2])]) ((0:Int)<=0/\(0:Int)<(l.length:Int)/\Q [.agg [.bool (gtP l (0)).1,.i (cpV (ayaF l) (gtP l (0)).2.1).1.2.1,.i (cpV (ayaF l) (gtP l (0)).2.1).1.2.2.1,.sl opS (cpV (ayaF l) (gtP l (0)).2.1).1.2.2.2],.i 0] [(2,.var [.bool (gtP l (0)).1,.i (cpV (ayaF l) (gtP l (0)).2.1).1.2.1,.i (cpV (ayaF l) (gtP l (0)).2.1).1.2.2.1,.sl opS (cpV (ayaF l) (gtP l (0)).2.1).1.2.2.2]),(5,.var [.bool (gtP l (0)).1,.i (cpV (ayaF l) (gtP l (0)).2.1).1.2.1,.i (cpV (ayaF l) (gtP l (0)).2.1).1.2.2.1,.sl opS (cpV (ayaF l) (gtP l (0)).2.1).1.2.2.2])]))):=by kernel_rfl
def jnV (l:List PaT):PaT × Int:=match decide (cjV l≠0) with
 | true=>((false,0,0,[]),cjV l)
 | false=>match decide ((cpV (ayaF l) (gtP l 0).2.1).2≠0) with
  | true=>((false,0,0,[]),(cpV (ayaF l) (gtP l 0).2.1).2)
  | false=>(((gtP l 0).1,(cpV (ayaF l) (gtP l 0).2.1).1.2),0)
def ctJn:Ctr:=⟨[.sl paS],λ x=>List.length x.1<1000000,λ x=>[paV (jnV x.1).1,.i (jnV x.1).2],λ _=>[]⟩
theorem qrr {m:Int}:∀ {l:List PaT} {n:Int},0<=n->(∀ p∈l,(chkV p).2=0)->lenF m l n=0->((ayaF l).length:Int)<=n/\∀ p∈l,p.2.1=m
 | [],n,hn,_,_=>⟨hn,λ p hp=>by cases hp⟩
 | p::l,n,hn,hc,h=>by
  rw[lenF] at h;by_cases h1:p.2.1≠m
  ·rw[decide_eq_true h1] at h;cases h
  ·rw[decide_eq_false h1] at h;by_cases h2:n<p.2.2.1
   ·rw[decide_eq_true h2] at h;cases h
   ·rw[decide_eq_false h2] at h;have hp:=hc p (List.mem_cons_self ..);have hs:(symV p).2=0:=by unfold symV;rw[if_pos hp]
    have hl:=(qd3 hs).2.2;obtain ⟨a1,a2⟩:=qrr (m:=m) (l:=l) (by omega) (λ q hq=>hc q (List.mem_cons_of_mem _ hq)) h;refine ⟨?_,λ q hq=>?_⟩
    ·show (((symV p).1++ayaF l).length:Int)<=n
     rw[List.length_append];omega
    ·rcases List.mem_cons.1 hq with rfl | hq
     ·exact Classical.not_not.1 h1
     ·exact a2 q hq
theorem q8e {l:List PaT} (h:cjV l=0):0<l.length/\(∀ p∈l,(chkV p).2=0)/\l.any (othB l)=false/\(ayaF l).length<=65536/\∀ p∈l,p.2.1=(gtP l 0).2.1:=by
 unfold cjV at h;by_cases h1:l.length=0
 ·rw[decide_eq_true h1] at h;cases h
 ·rw[decide_eq_false h1] at h;by_cases h2:ckaF l≠0
  ·rw[decide_eq_true h2] at h;exact absurd h h2
  ·rw[decide_eq_false h2] at h;have hc:=qqk (Classical.not_not.1 h2)
   cases h3:l.any (othB l) with
   | true=>rw[h3] at h;cases h
   | false=>
    rw[h3] at h;obtain ⟨a1,a2⟩:=qrr (by omega) hc h;exact ⟨by omega,hc,rfl,by omega,a2⟩
theorem q7x (l:List PaT) (hl:l.length<1000000) (R:List Item->PS->Prop):sA CJn Tryd.f13 (QC ctJn (l,())) R [.code (qae Tryd.f13)] (entry [.sl paS] (l,())):=by
 refine (q24 l _ _).mpr ⟨hl,qag (λ h=>?_) (λ h=>?_)⟩
 ·have hv:jnV l=((false,0,0,[]),cjV l):=by unfold jnV;rw[show decide (cjV l≠0)=true from h]
  exact QC.mt (by show MtL _ [paV (jnV l).1,.i (jnV l).2] _;rw[hv];exact qmo _) rfl
 ·have h0:cjV l=0:=by
   have:=of_decide_eq_false h;simpa using this
  obtain ⟨a1,_,_,a2,_⟩:=q8e h0;have pA:qvh l:=⟨a1,hl,by omega⟩;have pC:(ayaF l).length<16777216:=by omega
  refine ⟨pA,by omega,by omega,pC,qag (λ h2=>?_) (λ h2=>⟨by omega,by omega,?_⟩)⟩
  ·have hv:jnV l=((false,0,0,[]),(cpV (ayaF l) (gtP l 0).2.1).2):=by unfold jnV;rw[show decide (cjV l≠0)=false from h,show decide ((cpV (ayaF l) (gtP l 0).2.1).2≠0)=true from h2]
   exact QC.mt (by show MtL _ [paV (jnV l).1,.i (jnV l).2] _;rw[hv];exact qmo _) rfl
  ·have hv:jnV l=(((gtP l 0).1,(cpV (ayaF l) (gtP l 0).2.1).1.2),0):=by unfold jnV;rw[show decide (cjV l≠0)=false from h,show decide ((cpV (ayaF l) (gtP l 0).2.1).2≠0)=false from h2]
   exact QC.flat (by show [paV (jnV l).1,.i (jnV l).2]=_;rw[hv];rfl) rfl rfl
theorem qwg:Held Tryd.prog G0 13 ctJn:=Held.run cxJn (fn:=Tryd.f13) rfl rfl ⟨by decide,by decide⟩ λ ⟨l,_⟩ hp=>q7x l hp _
theorem q6s  (Q:QT) (R:RT):sA [] Tryd.f19 Q R [.code (qae Tryd.f19)] (entry [] ()) =
  (0+2<=(((List.replicate (2:Nat) uB.dflt).set (0:Nat) (7:Int)).set (1:Nat) (8:Int)).length/\0+2<=(((List.replicate (2:Nat) uB.dflt).set (0:Nat) (7:Int)).set (1:Nat) (8:Int)).length/\Q [.agg [.bool false,.i 3,.i 5,.win true opS 4 0 (2:Nat)]] [(0,.var [.bool false,.i 3,.i 5,.win true opS 4 0 (2:Nat)]),(4,.row 55 opS (((List.replicate (2:Nat) opS.dflt).set (0:Nat) ((1:Int),(0:Int),(3:Int),(0:Int),[])).set (1:Nat) ((4:Int),(0:Int),(2:Int),(0:Int),winL uB 0 2 (((List.replicate (2:Nat) uB.dflt).set (0:Nat) (7:Int)).set (1:Nat) (8:Int)))))]):=by kernel_rfl
theorem q58 (a b:List PaT) (Q:QT) (R:RT):sA [(16,.inl ctSm)] Tryd.f15 Q R [.code (qae Tryd.f15)] (entry [.sl paS,.sl paS] (a,b,())) =
  (bc (decide ((a.length:Int)≠(b.length:Int))) (Q [.bool false] []) (R (hd Tryd.f15 0) { env:=[(0,.sl paS a),(1,.sl paS b),(4,.bool false),(5,.i 0),(6,.sl paS a),(7,.i (a.length:Int)),(8,.sl paS b),(9,.i (b.length:Int)),(10,.bool (decide ((a.length:Int)≠(b.length:Int))))],blk:=[] })):=by kernel_rfl
theorem qt0 (a b:List PaT) (i:Nat) (Q:QT) (R:RT):sA [(16,.inl ctSm)] Tryd.f15 Q R (hd Tryd.f15 0) ⟨[(0,.sl paS a),(1,.sl paS b),(5,.i (i:Nat))],[]⟩ =
  (bc (decide ((i:Int)<(a.length:Int))) ((0:Int)<=(i:Int)/\(i:Int)<(a.length:Int)/\(0:Int)<=(i:Int)/\(i:Int)<(b.length:Int)/\ctSm.pre ((gtP a (i:Int).toNat),(gtP b (i:Int).toNat),())/\bc (!smB (gtP a (i:Int).toNat) (gtP b (i:Int).toNat)) (Q [.bool false] []) (R (hd Tryd.f15 0) { env:=[(0,.sl paS a),(1,.sl paS b),(5,.i (IntKind.i64.wrap ((i:Int)+1))),(11,.i (i:Int)),(12,.sl paS a),(13,.i (a.length:Int)),(14,.bool (decide ((i:Int)<(a.length:Int)))),(15,.i (i:Int)),(16,.i (IntKind.i64.wrap ((i:Int)+1))),(17,.sl paS a),(18,.i (i:Int)),(19,.elv paS (gtP a (i:Int).toNat)),(20,.agg [.bool (gtP a (i:Int).toNat).1,.i (gtP a (i:Int).toNat).2.1,.i (gtP a (i:Int).toNat).2.2.1,.sl opS (gtP a (i:Int).toNat).2.2.2]),(21,.sl paS b),(22,.i (i:Int)),(23,.elv paS (gtP b (i:Int).toNat)),(24,.agg [.bool (gtP b (i:Int).toNat).1,.i (gtP b (i:Int).toNat).2.1,.i (gtP b (i:Int).toNat).2.2.1,.sl opS (gtP b (i:Int).toNat).2.2.2]),(25,.bool (smB (gtP a (i:Int).toNat) (gtP b (i:Int).toNat))),(26,.bool !smB (gtP a (i:Int).toNat) (gtP b (i:Int).toNat))],blk:=[] })) (Q [.bool true] [])):=by kernel_rfl
def smlR:List PaT->List PaT->Bool
 | x::a,y::b=>match !smB x y with
  | true=>false
  | false=>smlR a b
 | _,_=>true
def smlB (a b:List PaT):Bool:=match decide ((a.length:Int)≠(b.length:Int)) with
 | true=>false
 | false=>smlR a b
def qls (a:List PaT):Prop:=a.length<1000000/\∀ p∈a,p.2.2.2.length<1099511627776
def ctSml:Ctr:=⟨[.sl paS,.sl paS],λ x=>qls x.1,λ x=>[.bool (smlB x.1 x.2.1)],λ _=>[]⟩
theorem cxSl:CxOK Tryd.prog tt G0 [(16,.inl ctSm)]:=cx0.k qpn (fn:=Tryd.f16)
theorem qym {a b:List PaT} {v:Bool} (ha:qls a) (hl:a.length=b.length):∀ (k i:Nat),a.length-i=k->i<=a.length->v=smlR (a.drop i) (b.drop i)->GD 15 Tryd.f15 (λ rs _=>rs=[.bool v]) (hd Tryd.f15 0) ⟨[(0,.sl paS a),(1,.sl paS b),(5,.i (i:Nat))],[]⟩:=by
 intro k
 induction k with
 | zero=>
  intro i hk hi hv;have hi:i=a.length:=by omega
  subst hi;refine qd4 cxSl (qt0 a b a.length _ _) ?_;rw[decide_eq_false (show ¬ ((a.length:Nat):Int)<(a.length:Int) by omega),bc_f];rw[List.drop_length] at hv;rw[hv];rfl
 | succ k ih=>
  intro i hk hi hv;have hil:i<a.length:=by omega
  have hib:i<b.length:=by omega
  have ha1:=ha.1;refine qd4 cxSl (qt0 a b i _ _) ?_;rw[decide_eq_true (show (i:Int)<(a.length:Int) by omega),bc_t,IntWalk.i64_in ((i:Int)+1) (by omega)];simp only[Int.toNat_natCast];rw[qgy hil,qgy hib,smlR,<- qhu hil,<- qhu hib] at hv;have hp:(gtP a i).2.2.2.length<1099511627776:=ha.2 _ (by rw[qhu hil];exact List.getElem_mem hil);refine ⟨by omega,by omega,by omega,by omega,hp,qag (λ h=>?_) (λ h=>?_)⟩
  ·rw[h] at hv;rw[hv]
  ·rw[h] at hv;exact (ih (i+1) (by omega) (by omega) hv).only ⟨rfl,rfl,rfl,trivial⟩ trivial
theorem qyn:Held Tryd.prog G0 15 ctSml:=Held.of cxSl (fn:=Tryd.f15) rfl rfl ⟨by decide,by decide⟩ λ ⟨a,b,_⟩ hp=>by
 have hp:qls a:=hp;refine qd4 cxSl (q58 a b _ _) (qag (λ h=>?_) (λ h=>?_))
 ·refine QC.flat ?_ rfl rfl
  show [SV.bool (smlB a b)]=_
  unfold smlB;rw[h]
 ·have hl:=of_decide_eq_false h;have hl:a.length=b.length:=by omega
  refine ((qym (v:=smlB a b) hp hl _ 0 rfl (Nat.zero_le _) ?_).post λ rs blk hq=>QC.flat (Eq.symm hq) rfl (by rw[hq];rfl)).only ⟨rfl,rfl,rfl,trivial⟩ trivial;unfold smlB;rw[h];rfl
def givP:PaT:=(false,3,5,[(1,0,3,0,[]),(4,0,2,0,[7,8])])
def q2d:Ctr:=⟨[],λ _=>True,λ _=>[.agg [.bool false,.i 3,.i 5,.win true opS 0 0 2]],λ _=>[.row 55 opS givP.2.2.2]⟩
def ctGiv:Ctr:=⟨[],λ _=>True,λ _=>[paV givP],λ _=>[]⟩
theorem givW_held:Held Tryd.prog G0 19 q2d:=by
 refine Held.run cx0 (fn:=Tryd.f19) rfl rfl ⟨by decide,by decide⟩ ?_;rintro ⟨⟩ _;refine (q6s _ _).mpr ⟨by decide,by decide,?_⟩;refine ⟨λ i=>if i=0 then some 4 else none,?_,?_,λ i j b h1 h2=>?_,rfl⟩
 ·exact ⟨_,_,rfl,⟨_,rfl,_,_,rfl,rfl,_,_,rfl,rfl,_,_,rfl,rfl,_,_,rfl,.inl ⟨true,4,rfl,rfl,λ h=>h⟩,rfl⟩,rfl⟩
 ·exact ⟨.inl ⟨4,rfl,rfl⟩,trivial⟩
 ·simp only at h1 h2;split at h1
  ·split at h2
   ·omega
   ·cases h2
  ·cases h1
theorem qz1:Held Tryd.prog G0 19 ctGiv:=by
 have h:=givW_held.frz (λ x _=>⟨by simp[q2d,inL,inS,givP],trivial⟩);exact h.iff rfl (λ x h=>h) (λ x _=>rfl) (λ x _=>rfl)
def CSn:CV:=[(19,.inl ctGiv),(11,.inl ctSec),(9,.inl ctSpl),(13,.inl ctJn),(15,.inl ctSml),(16,.inl ctSm)]
theorem cxSn:CxOK Tryd.prog tt G0 CSn:=(((((cx0.k qpn (fn:=Tryd.f16)).k qyn (fn:=Tryd.f15)).k qwg (fn:=Tryd.f13)).k spl_held (fn:=Tryd.f9)).k sec_held (fn:=Tryd.f11)).k qz1 (fn:=Tryd.f19)
set_option maxRecDepth 100000
theorem q2s  (Q:QT) (R:RT):sA CSn Tryd.f6 Q R [.code (qae Tryd.f6)] (entry [] ()) =
  (ctGiv.pre ()/\ctSec.pre (givP,(2:Int),())/\0+1<=((List.replicate (1:Nat) seS.dflt).set (0:Nat) ((ByteArray.mk #[(120:UInt8)]).data.toList,(1:Int),(4:Int),false)).length/\ctSpl.pre (givP,winL seS 0 1 ((List.replicate (1:Nat) seS.dflt).set (0:Nat) ((ByteArray.mk #[(120:UInt8)]).data.toList,(1:Int),(4:Int),false)),())/\0+1<=((List.replicate (1:Nat) seS.dflt).set (0:Nat) ((ByteArray.mk #[(120:UInt8)]).data.toList,(4:Int),(6:Int),false)).length/\ctSpl.pre (givP,winL seS 0 1 ((List.replicate (1:Nat) seS.dflt).set (0:Nat) ((ByteArray.mk #[(120:UInt8)]).data.toList,(4:Int),(6:Int),false)),())/\ctSec.pre (givP,(0:Int),())/\ctJn.pre ([],())/\0+1<=([(7:Int)]:List uB.D).length/\0+1<=([(7:Int)]:List uB.D).length/\0+1<=([(8:Int)]:List uB.D).length/\0+1<=([(8:Int)]:List uB.D).length/\0+1<=([((1:Int),(0:Int),(2:Int),(0:Int),[])]:List opS.D).length/\0+1<=([((1:Int),(0:Int),(2:Int),(0:Int),[])]:List opS.D).length/\0+2<=(((List.replicate (2:Nat) opS.dflt).set (0:Nat) ((1:Int),(2:Int),(1:Int),(0:Int),[])).set (1:Nat) ((4:Int),(0:Int),(1:Int),(0:Int),([(7:Int)]:List uB.D))).length/\0+2<=(((List.replicate (2:Nat) opS.dflt).set (0:Nat) ((1:Int),(2:Int),(1:Int),(0:Int),[])).set (1:Nat) ((4:Int),(0:Int),(1:Int),(0:Int),([(7:Int)]:List uB.D))).length/\0+1<=([((4:Int),(0:Int),(1:Int),(0:Int),([(8:Int)]:List uB.D))]:List opS.D).length/\0+1<=([((4:Int),(0:Int),(1:Int),(0:Int),([(8:Int)]:List uB.D))]:List opS.D).length/\0+3<=((((List.replicate (3:Nat) paS.dflt).set (0:Nat) (false,(3:Int),(2:Int),([((1:Int),(0:Int),(2:Int),(0:Int),[])]:List opS.D))).set (1:Nat) (false,(3:Int),(2:Int),winL opS 0 2 (((List.replicate (2:Nat) opS.dflt).set (0:Nat) ((1:Int),(2:Int),(1:Int),(0:Int),[])).set (1:Nat) ((4:Int),(0:Int),(1:Int),(0:Int),([(7:Int)]:List uB.D))))).set (2:Nat) (false,(3:Int),(1:Int),([((4:Int),(0:Int),(1:Int),(0:Int),winL uB 0 1 ([(8:Int)]:List uB.D))]:List opS.D))).length/\0+3<=((((List.replicate (3:Nat) paS.dflt).set (0:Nat) (false,(3:Int),(2:Int),([((1:Int),(0:Int),(2:Int),(0:Int),[])]:List opS.D))).set (1:Nat) (false,(3:Int),(2:Int),winL opS 0 2 (((List.replicate (2:Nat) opS.dflt).set (0:Nat) ((1:Int),(2:Int),(1:Int),(0:Int),[])).set (1:Nat) ((4:Int),(0:Int),(1:Int),(0:Int),([(7:Int)]:List uB.D))))).set (2:Nat) (false,(3:Int),(1:Int),([((4:Int),(0:Int),(1:Int),(0:Int),winL uB 0 1 ([(8:Int)]:List uB.D))]:List opS.D))).length/\0+3<=((((List.replicate (3:Nat) paS.dflt).set (0:Nat) (false,(3:Int),(2:Int),([((1:Int),(0:Int),(2:Int),(0:Int),[])]:List opS.D))).set (1:Nat) (false,(3:Int),(2:Int),winL opS 0 2 (((List.replicate (2:Nat) opS.dflt).set (0:Nat) ((1:Int),(2:Int),(1:Int),(0:Int),[])).set (1:Nat) ((4:Int),(0:Int),(1:Int),(0:Int),([(7:Int)]:List uB.D))))).set (2:Nat) (false,(3:Int),(1:Int),([((4:Int),(0:Int),(1:Int),(0:Int),winL uB 0 1 ([(8:Int)]:List uB.D))]:List opS.D))).length/\ctJn.pre (winL paS 0 3 ((((List.replicate (3:Nat) paS.dflt).set (0:Nat) (false,(3:Int),(2:Int),([((1:Int),(0:Int),(2:Int),(0:Int),[])]:List opS.D))).set (1:Nat) (false,(3:Int),(2:Int),winL opS 0 2 (((List.replicate (2:Nat) opS.dflt).set (0:Nat) ((1:Int),(2:Int),(1:Int),(0:Int),[])).set (1:Nat) ((4:Int),(0:Int),(1:Int),(0:Int),([(7:Int)]:List uB.D))))).set (2:Nat) (false,(3:Int),(1:Int),([((4:Int),(0:Int),(1:Int),(0:Int),winL uB 0 1 ([(8:Int)]:List uB.D))]:List opS.D))),())/\0+1<=([(7:Int)]:List uB.D).length/\0+1<=([(7:Int)]:List uB.D).length/\0+(secV givP (2:Int)).1.length<=(secV givP (2:Int)).1.length/\ctSml.pre (winL paS 0 (secV givP (2:Int)).1.length (secV givP (2:Int)).1,winL paS 0 3 ((((List.replicate (3:Nat) paS.dflt).set (0:Nat) (false,(3:Int),(2:Int),([((1:Int),(0:Int),(2:Int),(0:Int),[])]:List opS.D))).set (1:Nat) (false,(3:Int),(2:Int),winL opS 0 2 (((List.replicate (2:Nat) opS.dflt).set (0:Nat) ((1:Int),(2:Int),(1:Int),(0:Int),[])).set (1:Nat) ((4:Int),(0:Int),(1:Int),(0:Int),([(7:Int)]:List uB.D))))).set (2:Nat) (false,(3:Int),(1:Int),([((4:Int),(0:Int),(1:Int),(0:Int),winL uB 0 1 ([(8:Int)]:List uB.D))]:List opS.D))),())/\0+2<=(((List.replicate (2:Nat) opS.dflt).set (0:Nat) ((1:Int),(1:Int),(2:Int),(0:Int),[])).set (1:Nat) ((4:Int),(0:Int),(1:Int),(0:Int),([(7:Int)]:List uB.D))).length/\0+2<=(((List.replicate (2:Nat) opS.dflt).set (0:Nat) ((1:Int),(1:Int),(2:Int),(0:Int),[])).set (1:Nat) ((4:Int),(0:Int),(1:Int),(0:Int),([(7:Int)]:List uB.D))).length/\0+2<=(((List.replicate (2:Nat) opS.dflt).set (0:Nat) ((1:Int),(1:Int),(2:Int),(0:Int),[])).set (1:Nat) ((4:Int),(0:Int),(1:Int),(0:Int),([(7:Int)]:List uB.D))).length/\0+2<=(((List.replicate (2:Nat) opS.dflt).set (0:Nat) ((1:Int),(1:Int),(2:Int),(0:Int),[])).set (1:Nat) ((4:Int),(0:Int),(1:Int),(0:Int),([(7:Int)]:List uB.D))).length/\0+(splV givP (winL seS 0 1 ((List.replicate (1:Nat) seS.dflt).set (0:Nat) ((ByteArray.mk #[(120:UInt8)]).data.toList,(1:Int),(4:Int),false)))).1.length<=(splV givP (winL seS 0 1 ((List.replicate (1:Nat) seS.dflt).set (0:Nat) ((ByteArray.mk #[(120:UInt8)]).data.toList,(1:Int),(4:Int),false)))).1.length/\0+1<=([(false,(3:Int),(3:Int),winL opS 0 2 (((List.replicate (2:Nat) opS.dflt).set (0:Nat) ((1:Int),(1:Int),(2:Int),(0:Int),[])).set (1:Nat) ((4:Int),(0:Int),(1:Int),(0:Int),([(7:Int)]:List uB.D))))]:List paS.D).length/\ctSml.pre (winL paS 0 (splV givP (winL seS 0 1 ((List.replicate (1:Nat) seS.dflt).set (0:Nat) ((ByteArray.mk #[(120:UInt8)]).data.toList,(1:Int),(4:Int),false)))).1.length (splV givP (winL seS 0 1 ((List.replicate (1:Nat) seS.dflt).set (0:Nat) ((ByteArray.mk #[(120:UInt8)]).data.toList,(1:Int),(4:Int),false)))).1,([(false,(3:Int),(3:Int),winL opS 0 2 (((List.replicate (2:Nat) opS.dflt).set (0:Nat) ((1:Int),(1:Int),(2:Int),(0:Int),[])).set (1:Nat) ((4:Int),(0:Int),(1:Int),(0:Int),([(7:Int)]:List uB.D))))]:List paS.D),())/\ctSm.pre (((jnV (winL paS 0 3 ((((List.replicate (3:Nat) paS.dflt).set (0:Nat) (false,(3:Int),(2:Int),([((1:Int),(0:Int),(2:Int),(0:Int),[])]:List opS.D))).set (1:Nat) (false,(3:Int),(2:Int),winL opS 0 2 (((List.replicate (2:Nat) opS.dflt).set (0:Nat) ((1:Int),(2:Int),(1:Int),(0:Int),[])).set (1:Nat) ((4:Int),(0:Int),(1:Int),(0:Int),([(7:Int)]:List uB.D))))).set (2:Nat) (false,(3:Int),(1:Int),([((4:Int),(0:Int),(1:Int),(0:Int),winL uB 0 1 ([(8:Int)]:List uB.D))]:List opS.D))))).1),givP,())/\Q [.bool (bif true then smB ((jnV (winL paS 0 3 ((((List.replicate (3:Nat) paS.dflt).set (0:Nat) (false,(3:Int),(2:Int),([((1:Int),(0:Int),(2:Int),(0:Int),[])]:List opS.D))).set (1:Nat) (false,(3:Int),(2:Int),winL opS 0 2 (((List.replicate (2:Nat) opS.dflt).set (0:Nat) ((1:Int),(2:Int),(1:Int),(0:Int),[])).set (1:Nat) ((4:Int),(0:Int),(1:Int),(0:Int),([(7:Int)]:List uB.D))))).set (2:Nat) (false,(3:Int),(1:Int),([((4:Int),(0:Int),(1:Int),(0:Int),winL uB 0 1 ([(8:Int)]:List uB.D))]:List opS.D))))).1) givP else false)] [(1,.var [.bool givP.1,.i givP.2.1,.i givP.2.2.1,.sl opS givP.2.2.2]),(10,.var [.bool (jnV []).1.1,.i (jnV []).1.2.1,.i (jnV []).1.2.2.1,.sl opS (jnV []).1.2.2.2]),(13,.var [.bool (jnV (winL paS 0 3 ((((List.replicate (3:Nat) paS.dflt).set (0:Nat) (false,(3:Int),(2:Int),([((1:Int),(0:Int),(2:Int),(0:Int),[])]:List opS.D))).set (1:Nat) (false,(3:Int),(2:Int),winL opS 0 2 (((List.replicate (2:Nat) opS.dflt).set (0:Nat) ((1:Int),(2:Int),(1:Int),(0:Int),[])).set (1:Nat) ((4:Int),(0:Int),(1:Int),(0:Int),([(7:Int)]:List uB.D))))).set (2:Nat) (false,(3:Int),(1:Int),([((4:Int),(0:Int),(1:Int),(0:Int),winL uB 0 1 ([(8:Int)]:List uB.D))]:List opS.D))))).1.1,.i (jnV (winL paS 0 3 ((((List.replicate (3:Nat) paS.dflt).set (0:Nat) (false,(3:Int),(2:Int),([((1:Int),(0:Int),(2:Int),(0:Int),[])]:List opS.D))).set (1:Nat) (false,(3:Int),(2:Int),winL opS 0 2 (((List.replicate (2:Nat) opS.dflt).set (0:Nat) ((1:Int),(2:Int),(1:Int),(0:Int),[])).set (1:Nat) ((4:Int),(0:Int),(1:Int),(0:Int),([(7:Int)]:List uB.D))))).set (2:Nat) (false,(3:Int),(1:Int),([((4:Int),(0:Int),(1:Int),(0:Int),winL uB 0 1 ([(8:Int)]:List uB.D))]:List opS.D))))).1.2.1,.i (jnV (winL paS 0 3 ((((List.replicate (3:Nat) paS.dflt).set (0:Nat) (false,(3:Int),(2:Int),([((1:Int),(0:Int),(2:Int),(0:Int),[])]:List opS.D))).set (1:Nat) (false,(3:Int),(2:Int),winL opS 0 2 (((List.replicate (2:Nat) opS.dflt).set (0:Nat) ((1:Int),(2:Int),(1:Int),(0:Int),[])).set (1:Nat) ((4:Int),(0:Int),(1:Int),(0:Int),([(7:Int)]:List uB.D))))).set (2:Nat) (false,(3:Int),(1:Int),([((4:Int),(0:Int),(1:Int),(0:Int),winL uB 0 1 ([(8:Int)]:List uB.D))]:List opS.D))))).1.2.2.1,.sl opS (jnV (winL paS 0 3 ((((List.replicate (3:Nat) paS.dflt).set (0:Nat) (false,(3:Int),(2:Int),([((1:Int),(0:Int),(2:Int),(0:Int),[])]:List opS.D))).set (1:Nat) (false,(3:Int),(2:Int),winL opS 0 2 (((List.replicate (2:Nat) opS.dflt).set (0:Nat) ((1:Int),(2:Int),(1:Int),(0:Int),[])).set (1:Nat) ((4:Int),(0:Int),(1:Int),(0:Int),([(7:Int)]:List uB.D))))).set (2:Nat) (false,(3:Int),(1:Int),([((4:Int),(0:Int),(1:Int),(0:Int),winL uB 0 1 ([(8:Int)]:List uB.D))]:List opS.D))))).1.2.2.2]),(15,.var [.bool false,.i 3,.i 3,.sl opS (winL opS 0 2 (((List.replicate (2:Nat) opS.dflt).set (0:Nat) ((1:Int),(1:Int),(2:Int),(0:Int),[])).set (1:Nat) ((4:Int),(0:Int),(1:Int),(0:Int),([(7:Int)]:List uB.D))))]),(82,.row 31 paS ([(false,(3:Int),(3:Int),winL opS 0 2 (((List.replicate (2:Nat) opS.dflt).set (0:Nat) ((1:Int),(1:Int),(2:Int),(0:Int),[])).set (1:Nat) ((4:Int),(0:Int),(1:Int),(0:Int),([(7:Int)]:List uB.D))))]:List paS.D)),(1077824,.row 31 paS (secV givP (2:Int)).1),(1106496,.row 31 paS (splV givP (winL seS 0 1 ((List.replicate (1:Nat) seS.dflt).set (0:Nat) ((ByteArray.mk #[(120:UInt8)]).data.toList,(1:Int),(4:Int),false)))).1),(1135168,.row 31 paS (splV givP (winL seS 0 1 ((List.replicate (1:Nat) seS.dflt).set (0:Nat) ((ByteArray.mk #[(120:UInt8)]).data.toList,(4:Int),(6:Int),false)))).1),(1155648,.row 31 paS (secV givP (0:Int)).1)]):=by kernel_rfl
def ctSn12:Ctr:=⟨[],λ _=>True,λ _=>[.bool true],λ _=>[]⟩
instance (a:List PaT):Decidable (qls a):=by unfold qls;infer_instance
theorem qyl (R:List Item->PS->Prop):sA CSn Tryd.f6 (QC ctSn12 ()) R [.code (qae Tryd.f6)] (entry [] ()):=by
 refine (q2s _ _).mpr ?_
 repeat' first
  | exact trivial
  | decide +kernel
  | refine And.intro ?_ ?_
  | (refine QC.flat ?_ rfl rfl)
  | (show List.length _<1099511627776;decide +kernel)
  | (show List.length _<1000000;decide +kernel)
  | (show qls _;decide +kernel)
  | (show ∀ s∈_,List.length _<2 ^ 62;decide +kernel)
  | (refine congrArg (λ b=>[SV.bool b]) ?_;decide +kernel)
theorem quv:Held Tryd.prog G0 6 ctSn12:=Held.run cxSn (fn:=Tryd.f6) rfl rfl ⟨by decide,by decide⟩ λ x _=>qyl _
end Go.Proofs.YtdeacfammdjajaaDoor
