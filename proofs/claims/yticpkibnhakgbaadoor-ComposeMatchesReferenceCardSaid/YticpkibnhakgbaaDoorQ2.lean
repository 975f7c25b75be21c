/-
  A part of the proof: what pieces of the program give; conditions: those of each theorem.
-/
import Derived.Test.YticpkibnhakgbaaDoorQ1
import Derived.Test.YticpkibnhakgbaaDoorQ0
set_option linter.unusedVariables false
set_option linter.unusedSimpArgs false
namespace Go.Proofs.YticpkibnhakgbaaDoor
open Go.Px Go.Ax
set_option maxRecDepth 100000
abbrev a2S:Sh:=.arr 2 uB
def C30:CV:=[(23,.inl ctSz)]
theorem cx30:CxOK Tryd.prog tt G0 C30:=cx0.cons qvl (fn:=Tryd.f23) rfl rfl rfl
set_option maxRecDepth 100000
theorem qyx (z:Int) (l:List (List Int)) (Q:QT) (R:RT):sy tt G0 C30 Tryd.f21.ntmps Tryd.f21.results.toList Q R 1000 [.code (qae Tryd.f21)] (entry [raS] ((z,l),())) =
  ((13:Int)≠0 /\
 ctSz.pre ((z,l),(IntKind.i64.wrap z).tmod (13:Int),()) /\
 Q [.agg [.bool (szV l ((IntKind.i64.wrap z).tmod (13:Int))).1,.int .i64 (szV l ((IntKind.i64.wrap z).tmod (13:Int))).2.1,.int .i64 (szV l ((IntKind.i64.wrap z).tmod (13:Int))).2.2.1,.sl opS (szV l ((IntKind.i64.wrap z).tmod (13:Int))).2.2.2]] [(1,.var [.int .u8 z,.sl (Sh.arr (4:Nat) uB) l]),(2,.var [.bool (szV l ((IntKind.i64.wrap z).tmod (13:Int))).1,.int .i64 (szV l ((IntKind.i64.wrap z).tmod (13:Int))).2.1,.int .i64 (szV l ((IntKind.i64.wrap z).tmod (13:Int))).2.2.1,.sl opS (szV l ((IntKind.i64.wrap z).tmod (13:Int))).2.2.2])]):=by kernel_rfl
theorem q6r (l:List (List Int)) (n:Int) (Q:QT) (R:RT):sy tt G0 [] Tryd.f16.ntmps Tryd.f16.results.toList Q (fun it S=>R it (qao [0,1,5,6] [5,8] S)) 1000 [.code (qae Tryd.f16)] (entry [.sl a2S,iI] (l,n,())) =
  (R (hd Tryd.f16 0) { env:=[(0,.sl (Sh.arr (2:Nat) uB) l),(1,.int .i64 n),(5,.win true syS 8 0 (0:Nat)),(6,.int .i64 0)],blk:=[(8,.row 66 syS (List.replicate (0:Nat) syS.dflt))] }):=by kernel_rfl
theorem qu4 (l:List (List Int)) (o:List SyT) (n:Int) (i:Nat) (Q:QT) (R:RT):sy tt G0 [] Tryd.f16.ntmps Tryd.f16.results.toList Q (fun it S=>R it (qao [0,1,5,6] [5,93] S)) 1000 (hd Tryd.f16 0) ⟨[(0,.sl a2S l),(1,.int .i64 n),(5,.win true syS 5 0 o.length),(6,.int .i64 (i:Nat))],[(5,.row 66 syS o)]⟩ =
  (bc (decide ((i:Int)<(l.length:Int))) (bc (decide ((i:Int)<20)) ((0:Int)<=(i:Int) /\
 (i:Int)<(l.length:Int) /\
 (0:Int)<=0 /\
 (0:Int)<(↑(2:Nat):Int) /\
 (4:Int)≠0 /\
 bc (decide ((0:Int)<Int.tmod (gtB (gt (Sh.arr (2:Nat) uB) l (i:Int).toNat) (0)) (4:Int))) ((0:Int)<=(i:Int) /\
 (i:Int)<(l.length:Int) /\
 (0:Int)<=1 /\
 (1:Int)<(↑(2:Nat):Int) /\
 (3:Int)≠0 /\
 bc (decide ((0:Int)<n)) ((0:Int)<=(i:Int) /\
 (i:Int)<(l.length:Int) /\
 (0:Int)<=1 /\
 (1:Int)<(↑(2:Nat):Int) /\
 n≠0 /\
 bc (decide ((0:Int)<n)) (bc (decide ((0:Int)<(i:Int))) ((0:Int)<=IntKind.i64.wrap ((i:Int)-1) /\
 IntKind.i64.wrap ((i:Int)-1)<(o.length:Int) /\
 (0:Nat)+(IntKind.i64.wrap ((i:Int)-1)).toNat<o.length /\
 bc (bif true then (gtY o ((0:Nat)+(IntKind.i64.wrap ((i:Int)-1)).toNat)).1 else false) ((0:Int)<=(i:Int) /\
 (i:Int)<(l.length:Int) /\
 (0:Int)<=0 /\
 (0:Int)<(↑(2:Nat):Int) /\
 (4:Int)≠0 /\
 bc (decide ((1:Int)<Int.tmod (gtB (gt (Sh.arr (2:Nat) uB) l (i:Int).toNat) (0)) (4:Int))) ((0:Int)<=IntKind.i64.wrap ((i:Int)-1) /\
 IntKind.i64.wrap ((i:Int)-1)<(o.length:Int) /\
 (0:Nat)+(IntKind.i64.wrap ((i:Int)-1)).toNat<o.length /\
 bc (decide (IntKind.i64.wrap ((gtY o ((0:Nat)+(IntKind.i64.wrap ((i:Int)-1)).toNat)).2.1+1)<n)) ((0:Int)<=IntKind.i64.wrap ((i:Int)-1) /\
 IntKind.i64.wrap ((i:Int)-1)<(o.length:Int) /\
 (0:Nat)+(IntKind.i64.wrap ((i:Int)-1)).toNat<o.length /\
 (0:Nat)+1<=([(bif true then decide ((0:Int)<n) else false,IntKind.i64.wrap ((gtY o ((0:Nat)+(IntKind.i64.wrap ((i:Int)-1)).toNat)).2.1+1),Int.tmod (gtB (gt (Sh.arr (2:Nat) uB) l (i:Int).toNat) (1)) (3:Int))]:List syS.D).length /\
 o.length=o.length /\
 (0:Nat)=(0:Nat) /\
 o.length+(winL syS 0 1 ([(bif true then decide ((0:Int)<n) else false,IntKind.i64.wrap ((gtY o ((0:Nat)+(IntKind.i64.wrap ((i:Int)-1)).toNat)).2.1+1),Int.tmod (gtB (gt (Sh.arr (2:Nat) uB) l (i:Int).toNat) (1)) (3:Int))]:List syS.D)).length<2 ^ 30 /\
 (24:Nat)<=2 ^ 10 /\
 R (hd Tryd.f16 0) { env:=[(0,.sl (Sh.arr (2:Nat) uB) l),(1,.int .i64 n),(5,.win true syS 93 0 (o.length+(winL syS 0 1 ([(bif true then decide ((0:Int)<n) else false,IntKind.i64.wrap ((gtY o ((0:Nat)+(IntKind.i64.wrap ((i:Int)-1)).toNat)).2.1+1),Int.tmod (gtB (gt (Sh.arr (2:Nat) uB) l (i:Int).toNat) (1)) (3:Int))]:List syS.D)).length)),(6,.int .i64 (IntKind.i64.wrap ((i:Int)+1)))],blk:=[(93,.row 66 syS (o++([(bif true then decide ((0:Int)<n) else false,IntKind.i64.wrap ((gtY o ((0:Nat)+(IntKind.i64.wrap ((i:Int)-1)).toNat)).2.1+1),Int.tmod (gtB (gt (Sh.arr (2:Nat) uB) l (i:Int).toNat) (1)) (3:Int))]:List syS.D)))] }) ((0:Nat)+1<=([(bif true then decide ((0:Int)<n) else false,(IntKind.i64.wrap (gtB (gt (Sh.arr (2:Nat) uB) l (i:Int).toNat) (1))).tmod n,Int.tmod (gtB (gt (Sh.arr (2:Nat) uB) l (i:Int).toNat) (1)) (3:Int))]:List syS.D).length /\
 o.length=o.length /\
 (0:Nat)=(0:Nat) /\
 o.length+(winL syS 0 1 ([(bif true then decide ((0:Int)<n) else false,(IntKind.i64.wrap (gtB (gt (Sh.arr (2:Nat) uB) l (i:Int).toNat) (1))).tmod n,Int.tmod (gtB (gt (Sh.arr (2:Nat) uB) l (i:Int).toNat) (1)) (3:Int))]:List syS.D)).length<2 ^ 30 /\
 (24:Nat)<=2 ^ 10 /\
 R (hd Tryd.f16 0) { env:=[(0,.sl (Sh.arr (2:Nat) uB) l),(1,.int .i64 n),(5,.win true syS 93 0 (o.length+(winL syS 0 1 ([(bif true then decide ((0:Int)<n) else false,(IntKind.i64.wrap (gtB (gt (Sh.arr (2:Nat) uB) l (i:Int).toNat) (1))).tmod n,Int.tmod (gtB (gt (Sh.arr (2:Nat) uB) l (i:Int).toNat) (1)) (3:Int))]:List syS.D)).length)),(6,.int .i64 (IntKind.i64.wrap ((i:Int)+1)))],blk:=[(93,.row 66 syS (o++([(bif true then decide ((0:Int)<n) else false,(IntKind.i64.wrap (gtB (gt (Sh.arr (2:Nat) uB) l (i:Int).toNat) (1))).tmod n,Int.tmod (gtB (gt (Sh.arr (2:Nat) uB) l (i:Int).toNat) (1)) (3:Int))]:List syS.D)))] })) (false=false /\
 (0:Nat)+1<=([(bif true then decide ((0:Int)<n) else false,(IntKind.i64.wrap (gtB (gt (Sh.arr (2:Nat) uB) l (i:Int).toNat) (1))).tmod n,Int.tmod (gtB (gt (Sh.arr (2:Nat) uB) l (i:Int).toNat) (1)) (3:Int))]:List syS.D).length /\
 o.length=o.length /\
 (0:Nat)=(0:Nat) /\
 o.length+(winL syS 0 1 ([(bif true then decide ((0:Int)<n) else false,(IntKind.i64.wrap (gtB (gt (Sh.arr (2:Nat) uB) l (i:Int).toNat) (1))).tmod n,Int.tmod (gtB (gt (Sh.arr (2:Nat) uB) l (i:Int).toNat) (1)) (3:Int))]:List syS.D)).length<2 ^ 30 /\
 (24:Nat)<=2 ^ 10 /\
 R (hd Tryd.f16 0) { env:=[(0,.sl (Sh.arr (2:Nat) uB) l),(1,.int .i64 n),(5,.win true syS 93 0 (o.length+(winL syS 0 1 ([(bif true then decide ((0:Int)<n) else false,(IntKind.i64.wrap (gtB (gt (Sh.arr (2:Nat) uB) l (i:Int).toNat) (1))).tmod n,Int.tmod (gtB (gt (Sh.arr (2:Nat) uB) l (i:Int).toNat) (1)) (3:Int))]:List syS.D)).length)),(6,.int .i64 (IntKind.i64.wrap ((i:Int)+1)))],blk:=[(93,.row 66 syS (o++([(bif true then decide ((0:Int)<n) else false,(IntKind.i64.wrap (gtB (gt (Sh.arr (2:Nat) uB) l (i:Int).toNat) (1))).tmod n,Int.tmod (gtB (gt (Sh.arr (2:Nat) uB) l (i:Int).toNat) (1)) (3:Int))]:List syS.D)))] })) (false=false /\
 false=false /\
 (0:Nat)+1<=([(bif true then decide ((0:Int)<n) else false,(IntKind.i64.wrap (gtB (gt (Sh.arr (2:Nat) uB) l (i:Int).toNat) (1))).tmod n,Int.tmod (gtB (gt (Sh.arr (2:Nat) uB) l (i:Int).toNat) (1)) (3:Int))]:List syS.D).length /\
 o.length=o.length /\
 (0:Nat)=(0:Nat) /\
 o.length+(winL syS 0 1 ([(bif true then decide ((0:Int)<n) else false,(IntKind.i64.wrap (gtB (gt (Sh.arr (2:Nat) uB) l (i:Int).toNat) (1))).tmod n,Int.tmod (gtB (gt (Sh.arr (2:Nat) uB) l (i:Int).toNat) (1)) (3:Int))]:List syS.D)).length<2 ^ 30 /\
 (24:Nat)<=2 ^ 10 /\
 R (hd Tryd.f16 0) { env:=[(0,.sl (Sh.arr (2:Nat) uB) l),(1,.int .i64 n),(5,.win true syS 93 0 (o.length+(winL syS 0 1 ([(bif true then decide ((0:Int)<n) else false,(IntKind.i64.wrap (gtB (gt (Sh.arr (2:Nat) uB) l (i:Int).toNat) (1))).tmod n,Int.tmod (gtB (gt (Sh.arr (2:Nat) uB) l (i:Int).toNat) (1)) (3:Int))]:List syS.D)).length)),(6,.int .i64 (IntKind.i64.wrap ((i:Int)+1)))],blk:=[(93,.row 66 syS (o++([(bif true then decide ((0:Int)<n) else false,(IntKind.i64.wrap (gtB (gt (Sh.arr (2:Nat) uB) l (i:Int).toNat) (1))).tmod n,Int.tmod (gtB (gt (Sh.arr (2:Nat) uB) l (i:Int).toNat) (1)) (3:Int))]:List syS.D)))] })) (false=false /\
 false=false /\
 false=false /\
 (0:Nat)+1<=([(bif true then decide ((0:Int)<n) else false,(IntKind.i64.wrap (gtB (gt (Sh.arr (2:Nat) uB) l (i:Int).toNat) (1))).tmod n,Int.tmod (gtB (gt (Sh.arr (2:Nat) uB) l (i:Int).toNat) (1)) (3:Int))]:List syS.D).length /\
 o.length=o.length /\
 (0:Nat)=(0:Nat) /\
 o.length+(winL syS 0 1 ([(bif true then decide ((0:Int)<n) else false,(IntKind.i64.wrap (gtB (gt (Sh.arr (2:Nat) uB) l (i:Int).toNat) (1))).tmod n,Int.tmod (gtB (gt (Sh.arr (2:Nat) uB) l (i:Int).toNat) (1)) (3:Int))]:List syS.D)).length<2 ^ 30 /\
 (24:Nat)<=2 ^ 10 /\
 R (hd Tryd.f16 0) { env:=[(0,.sl (Sh.arr (2:Nat) uB) l),(1,.int .i64 n),(5,.win true syS 93 0 (o.length+(winL syS 0 1 ([(bif true then decide ((0:Int)<n) else false,(IntKind.i64.wrap (gtB (gt (Sh.arr (2:Nat) uB) l (i:Int).toNat) (1))).tmod n,Int.tmod (gtB (gt (Sh.arr (2:Nat) uB) l (i:Int).toNat) (1)) (3:Int))]:List syS.D)).length)),(6,.int .i64 (IntKind.i64.wrap ((i:Int)+1)))],blk:=[(93,.row 66 syS (o++([(bif true then decide ((0:Int)<n) else false,(IntKind.i64.wrap (gtB (gt (Sh.arr (2:Nat) uB) l (i:Int).toNat) (1))).tmod n,Int.tmod (gtB (gt (Sh.arr (2:Nat) uB) l (i:Int).toNat) (1)) (3:Int))]:List syS.D)))] })) (false=false /\
 false=false /\
 false=false /\
 false=false /\
 (0:Nat)+1<=([(bif true then decide ((0:Int)<n) else false,(IntKind.i64.wrap (gtB (gt (Sh.arr (2:Nat) uB) l (i:Int).toNat) (1))).tmod n,Int.tmod (gtB (gt (Sh.arr (2:Nat) uB) l (i:Int).toNat) (1)) (3:Int))]:List syS.D).length /\
 o.length=o.length /\
 (0:Nat)=(0:Nat) /\
 o.length+(winL syS 0 1 ([(bif true then decide ((0:Int)<n) else false,(IntKind.i64.wrap (gtB (gt (Sh.arr (2:Nat) uB) l (i:Int).toNat) (1))).tmod n,Int.tmod (gtB (gt (Sh.arr (2:Nat) uB) l (i:Int).toNat) (1)) (3:Int))]:List syS.D)).length<2 ^ 30 /\
 (24:Nat)<=2 ^ 10 /\
 R (hd Tryd.f16 0) { env:=[(0,.sl (Sh.arr (2:Nat) uB) l),(1,.int .i64 n),(5,.win true syS 93 0 (o.length+(winL syS 0 1 ([(bif true then decide ((0:Int)<n) else false,(IntKind.i64.wrap (gtB (gt (Sh.arr (2:Nat) uB) l (i:Int).toNat) (1))).tmod n,Int.tmod (gtB (gt (Sh.arr (2:Nat) uB) l (i:Int).toNat) (1)) (3:Int))]:List syS.D)).length)),(6,.int .i64 (IntKind.i64.wrap ((i:Int)+1)))],blk:=[(93,.row 66 syS (o++([(bif true then decide ((0:Int)<n) else false,(IntKind.i64.wrap (gtB (gt (Sh.arr (2:Nat) uB) l (i:Int).toNat) (1))).tmod n,Int.tmod (gtB (gt (Sh.arr (2:Nat) uB) l (i:Int).toNat) (1)) (3:Int))]:List syS.D)))] })) (bc (decide ((0:Int)<n)) (bc (decide ((0:Int)<(i:Int))) ((0:Int)<=IntKind.i64.wrap ((i:Int)-1) /\
 IntKind.i64.wrap ((i:Int)-1)<(o.length:Int) /\
 (0:Nat)+(IntKind.i64.wrap ((i:Int)-1)).toNat<o.length /\
 bc (bif true then (gtY o ((0:Nat)+(IntKind.i64.wrap ((i:Int)-1)).toNat)).1 else false) ((0:Int)<=(i:Int) /\
 (i:Int)<(l.length:Int) /\
 (0:Int)<=0 /\
 (0:Int)<(↑(2:Nat):Int) /\
 (4:Int)≠0 /\
 bc (decide ((1:Int)<Int.tmod (gtB (gt (Sh.arr (2:Nat) uB) l (i:Int).toNat) (0)) (4:Int))) ((0:Int)<=IntKind.i64.wrap ((i:Int)-1) /\
 IntKind.i64.wrap ((i:Int)-1)<(o.length:Int) /\
 (0:Nat)+(IntKind.i64.wrap ((i:Int)-1)).toNat<o.length /\
 bc (decide (IntKind.i64.wrap ((gtY o ((0:Nat)+(IntKind.i64.wrap ((i:Int)-1)).toNat)).2.1+1)<n)) ((0:Int)<=IntKind.i64.wrap ((i:Int)-1) /\
 IntKind.i64.wrap ((i:Int)-1)<(o.length:Int) /\
 (0:Nat)+(IntKind.i64.wrap ((i:Int)-1)).toNat<o.length /\
 (0:Nat)+1<=([(bif true then decide ((0:Int)<n) else false,IntKind.i64.wrap ((gtY o ((0:Nat)+(IntKind.i64.wrap ((i:Int)-1)).toNat)).2.1+1),Int.tmod (gtB (gt (Sh.arr (2:Nat) uB) l (i:Int).toNat) (1)) (3:Int))]:List syS.D).length /\
 o.length=o.length /\
 (0:Nat)=(0:Nat) /\
 o.length+(winL syS 0 1 ([(bif true then decide ((0:Int)<n) else false,IntKind.i64.wrap ((gtY o ((0:Nat)+(IntKind.i64.wrap ((i:Int)-1)).toNat)).2.1+1),Int.tmod (gtB (gt (Sh.arr (2:Nat) uB) l (i:Int).toNat) (1)) (3:Int))]:List syS.D)).length<2 ^ 30 /\
 (24:Nat)<=2 ^ 10 /\
 R (hd Tryd.f16 0) { env:=[(0,.sl (Sh.arr (2:Nat) uB) l),(1,.int .i64 n),(5,.win true syS 93 0 (o.length+(winL syS 0 1 ([(bif true then decide ((0:Int)<n) else false,IntKind.i64.wrap ((gtY o ((0:Nat)+(IntKind.i64.wrap ((i:Int)-1)).toNat)).2.1+1),Int.tmod (gtB (gt (Sh.arr (2:Nat) uB) l (i:Int).toNat) (1)) (3:Int))]:List syS.D)).length)),(6,.int .i64 (IntKind.i64.wrap ((i:Int)+1)))],blk:=[(93,.row 66 syS (o++([(bif true then decide ((0:Int)<n) else false,IntKind.i64.wrap ((gtY o ((0:Nat)+(IntKind.i64.wrap ((i:Int)-1)).toNat)).2.1+1),Int.tmod (gtB (gt (Sh.arr (2:Nat) uB) l (i:Int).toNat) (1)) (3:Int))]:List syS.D)))] }) ((0:Nat)+1<=([(bif true then decide ((0:Int)<n) else false,(0:Int),Int.tmod (gtB (gt (Sh.arr (2:Nat) uB) l (i:Int).toNat) (1)) (3:Int))]:List syS.D).length /\
 o.length=o.length /\
 (0:Nat)=(0:Nat) /\
 o.length+(winL syS 0 1 ([(bif true then decide ((0:Int)<n) else false,(0:Int),Int.tmod (gtB (gt (Sh.arr (2:Nat) uB) l (i:Int).toNat) (1)) (3:Int))]:List syS.D)).length<2 ^ 30 /\
 (24:Nat)<=2 ^ 10 /\
 R (hd Tryd.f16 0) { env:=[(0,.sl (Sh.arr (2:Nat) uB) l),(1,.int .i64 n),(5,.win true syS 93 0 (o.length+(winL syS 0 1 ([(bif true then decide ((0:Int)<n) else false,(0:Int),Int.tmod (gtB (gt (Sh.arr (2:Nat) uB) l (i:Int).toNat) (1)) (3:Int))]:List syS.D)).length)),(6,.int .i64 (IntKind.i64.wrap ((i:Int)+1)))],blk:=[(93,.row 66 syS (o++([(bif true then decide ((0:Int)<n) else false,(0:Int),Int.tmod (gtB (gt (Sh.arr (2:Nat) uB) l (i:Int).toNat) (1)) (3:Int))]:List syS.D)))] })) (false=false /\
 (0:Nat)+1<=([(bif true then decide ((0:Int)<n) else false,(0:Int),Int.tmod (gtB (gt (Sh.arr (2:Nat) uB) l (i:Int).toNat) (1)) (3:Int))]:List syS.D).length /\
 o.length=o.length /\
 (0:Nat)=(0:Nat) /\
 o.length+(winL syS 0 1 ([(bif true then decide ((0:Int)<n) else false,(0:Int),Int.tmod (gtB (gt (Sh.arr (2:Nat) uB) l (i:Int).toNat) (1)) (3:Int))]:List syS.D)).length<2 ^ 30 /\
 (24:Nat)<=2 ^ 10 /\
 R (hd Tryd.f16 0) { env:=[(0,.sl (Sh.arr (2:Nat) uB) l),(1,.int .i64 n),(5,.win true syS 93 0 (o.length+(winL syS 0 1 ([(bif true then decide ((0:Int)<n) else false,(0:Int),Int.tmod (gtB (gt (Sh.arr (2:Nat) uB) l (i:Int).toNat) (1)) (3:Int))]:List syS.D)).length)),(6,.int .i64 (IntKind.i64.wrap ((i:Int)+1)))],blk:=[(93,.row 66 syS (o++([(bif true then decide ((0:Int)<n) else false,(0:Int),Int.tmod (gtB (gt (Sh.arr (2:Nat) uB) l (i:Int).toNat) (1)) (3:Int))]:List syS.D)))] })) (false=false /\
 false=false /\
 (0:Nat)+1<=([(bif true then decide ((0:Int)<n) else false,(0:Int),Int.tmod (gtB (gt (Sh.arr (2:Nat) uB) l (i:Int).toNat) (1)) (3:Int))]:List syS.D).length /\
 o.length=o.length /\
 (0:Nat)=(0:Nat) /\
 o.length+(winL syS 0 1 ([(bif true then decide ((0:Int)<n) else false,(0:Int),Int.tmod (gtB (gt (Sh.arr (2:Nat) uB) l (i:Int).toNat) (1)) (3:Int))]:List syS.D)).length<2 ^ 30 /\
 (24:Nat)<=2 ^ 10 /\
 R (hd Tryd.f16 0) { env:=[(0,.sl (Sh.arr (2:Nat) uB) l),(1,.int .i64 n),(5,.win true syS 93 0 (o.length+(winL syS 0 1 ([(bif true then decide ((0:Int)<n) else false,(0:Int),Int.tmod (gtB (gt (Sh.arr (2:Nat) uB) l (i:Int).toNat) (1)) (3:Int))]:List syS.D)).length)),(6,.int .i64 (IntKind.i64.wrap ((i:Int)+1)))],blk:=[(93,.row 66 syS (o++([(bif true then decide ((0:Int)<n) else false,(0:Int),Int.tmod (gtB (gt (Sh.arr (2:Nat) uB) l (i:Int).toNat) (1)) (3:Int))]:List syS.D)))] })) (false=false /\
 false=false /\
 false=false /\
 (0:Nat)+1<=([(bif true then decide ((0:Int)<n) else false,(0:Int),Int.tmod (gtB (gt (Sh.arr (2:Nat) uB) l (i:Int).toNat) (1)) (3:Int))]:List syS.D).length /\
 o.length=o.length /\
 (0:Nat)=(0:Nat) /\
 o.length+(winL syS 0 1 ([(bif true then decide ((0:Int)<n) else false,(0:Int),Int.tmod (gtB (gt (Sh.arr (2:Nat) uB) l (i:Int).toNat) (1)) (3:Int))]:List syS.D)).length<2 ^ 30 /\
 (24:Nat)<=2 ^ 10 /\
 R (hd Tryd.f16 0) { env:=[(0,.sl (Sh.arr (2:Nat) uB) l),(1,.int .i64 n),(5,.win true syS 93 0 (o.length+(winL syS 0 1 ([(bif true then decide ((0:Int)<n) else false,(0:Int),Int.tmod (gtB (gt (Sh.arr (2:Nat) uB) l (i:Int).toNat) (1)) (3:Int))]:List syS.D)).length)),(6,.int .i64 (IntKind.i64.wrap ((i:Int)+1)))],blk:=[(93,.row 66 syS (o++([(bif true then decide ((0:Int)<n) else false,(0:Int),Int.tmod (gtB (gt (Sh.arr (2:Nat) uB) l (i:Int).toNat) (1)) (3:Int))]:List syS.D)))] })) (false=false /\
 false=false /\
 false=false /\
 false=false /\
 (0:Nat)+1<=([(bif true then decide ((0:Int)<n) else false,(0:Int),Int.tmod (gtB (gt (Sh.arr (2:Nat) uB) l (i:Int).toNat) (1)) (3:Int))]:List syS.D).length /\
 o.length=o.length /\
 (0:Nat)=(0:Nat) /\
 o.length+(winL syS 0 1 ([(bif true then decide ((0:Int)<n) else false,(0:Int),Int.tmod (gtB (gt (Sh.arr (2:Nat) uB) l (i:Int).toNat) (1)) (3:Int))]:List syS.D)).length<2 ^ 30 /\
 (24:Nat)<=2 ^ 10 /\
 R (hd Tryd.f16 0) { env:=[(0,.sl (Sh.arr (2:Nat) uB) l),(1,.int .i64 n),(5,.win true syS 93 0 (o.length+(winL syS 0 1 ([(bif true then decide ((0:Int)<n) else false,(0:Int),Int.tmod (gtB (gt (Sh.arr (2:Nat) uB) l (i:Int).toNat) (1)) (3:Int))]:List syS.D)).length)),(6,.int .i64 (IntKind.i64.wrap ((i:Int)+1)))],blk:=[(93,.row 66 syS (o++([(bif true then decide ((0:Int)<n) else false,(0:Int),Int.tmod (gtB (gt (Sh.arr (2:Nat) uB) l (i:Int).toNat) (1)) (3:Int))]:List syS.D)))] }))) (false=false /\
 (0:Int)<=(i:Int) /\
 (i:Int)<(l.length:Int) /\
 (0:Int)<=1 /\
 (1:Int)<(↑(2:Nat):Int) /\
 (3:Int)≠0 /\
 false=false /\
 false=false /\
 false=false /\
 false=false /\
 (0:Nat)+1<=([(false,(0:Int),Int.tmod (gtB (gt (Sh.arr (2:Nat) uB) l (i:Int).toNat) (1)) (3:Int))]:List syS.D).length /\
 o.length=o.length /\
 (0:Nat)=(0:Nat) /\
 o.length+(winL syS 0 1 ([(false,(0:Int),Int.tmod (gtB (gt (Sh.arr (2:Nat) uB) l (i:Int).toNat) (1)) (3:Int))]:List syS.D)).length<2 ^ 30 /\
 (24:Nat)<=2 ^ 10 /\
 R (hd Tryd.f16 0) { env:=[(0,.sl (Sh.arr (2:Nat) uB) l),(1,.int .i64 n),(5,.win true syS 93 0 (o.length+(winL syS 0 1 ([(false,(0:Int),Int.tmod (gtB (gt (Sh.arr (2:Nat) uB) l (i:Int).toNat) (1)) (3:Int))]:List syS.D)).length)),(6,.int .i64 (IntKind.i64.wrap ((i:Int)+1)))],blk:=[(93,.row 66 syS (o++([(false,(0:Int),Int.tmod (gtB (gt (Sh.arr (2:Nat) uB) l (i:Int).toNat) (1)) (3:Int))]:List syS.D)))] })) (Q [.win true syS 5 0 o.length] [(5,.row 66 syS o)])) (false=false /\
 Q [.win true syS 5 0 o.length] [(5,.row 66 syS o)])):=by kernel_rfl
end Go.Proofs.YticpkibnhakgbaaDoor
namespace Go.Proofs.YticpkibnhakgbaaDoor
open Go.Px Go.Ax
set_option maxRecDepth 100000
attribute [local irreducible] Go.Px.sy Go.Px.syE
def qwj (z:Int) (l:List (List Int)):Prop:=(0<=z/\z<256)/\qkk l/\l.length<9223372036854775808
def ctM6:Ctr:=⟨[raS],fun x=>qwj x.1.1 x.1.2,fun x=>[paV (szV x.1.2 (x.1.1 % 13))],fun _=>[]⟩
theorem qw8 (z:Int) (l:List (List Int)) (hz:0<=z/\z<256) (hl:qkk l) (hn:l.length<9223372036854775808):GD 21 Tryd.f21 (QC ctM6 ((z,l),())) [.code (qae Tryd.f21)] (entry [raS] ((z,l),())):=by
 refine qak cx30 _ _ _ ((qyx z l _ _).mpr ?_);have w:(IntKind.i64.wrap z).tmod 13=z % 13:=by rw[IntWalk.i64_in z (by omega),Int.tmod_eq_emod_of_nonneg hz.1]
 rw[w];exact ⟨by decide,⟨hl,(show preN (z % 13) from ⟨by omega,by omega⟩),hn⟩,QC.flat rfl rfl rfl⟩
theorem qt2:Held Tryd.prog G0 21 ctM6:=
 Held.of cx30 (fn:=Tryd.f21) rfl rfl ⟨by decide,by decide⟩ fun ⟨⟨z,l⟩,_⟩ hp=>qw8 z l hp.1 hp.2.1 hp.2.2
def rawE (l:List (List Int)) (n:Int) (i:Nat) (o:List SyT):SyT:=
 if 0<(gtB (gt a2S l i) 0).tmod 4/\0<n then
  if 0<i/\(gtY o (i-1)).1=true/\1<(gtB (gt a2S l i) 0).tmod 4/\(gtY o (i-1)).2.1+1<n then (true,(gtY o (i-1)).2.1+1,(gtB (gt a2S l i) 1).tmod 3)
  else (true,(gtB (gt a2S l i) 1).tmod n,(gtB (gt a2S l i) 1).tmod 3)
 else (false,0,(gtB (gt a2S l i) 1).tmod 3)
def rawL (l:List (List Int)) (n:Int):Nat->List SyT
 | 0=>[]
 | i+1=>rawL l n i++[rawE l n i (rawL l n i)]
def rawK (l:List (List Int)):Nat:=min l.length 20
theorem qjp (l:List (List Int)) (n:Int):∀ i,(rawL l n i).length=i
 | 0=>rfl
 | i+1=>by rw[rawL,List.length_append,qjp l n i];rfl
def qlm (l:List (List Int)):Prop:=∀ j k,0<=gtB (gt a2S l j) k/\gtB (gt a2S l j) k<256
theorem q4k {l:List (List Int)} {n:Int} {i:Nat} {o:List SyT} (hl:qlm l) (ho:∀ s∈o,sOK n s=true) (hi:o.length=i):sOK n (rawE l n i o)=true:=by
 unfold rawE;split
 ·rename_i h;split
  ·rename_i h2;have hg:gtY o (i-1)∈o:=by
    rw[qbi (show i-1<o.length by omega)];exact List.getElem_mem _
   have:=ho _ hg;simp[sOK,h2.2.1] at this |-;omega
  ·have m1:=qdl (hl i 1).1 (b:=n) h.2;simp[sOK];omega
 ·simp[sOK]
theorem qp6 {l:List (List Int)} {n:Int} (hl:qlm l):∀ i,∀ s∈rawL l n i,sOK n s=true
 | 0=>fun s hs=>by cases hs
 | i+1=>fun s hs=>by
  rw[rawL] at hs;rcases List.mem_append.1 hs with h | h
  ·exact qp6 hl i s h
  ·rw[List.mem_singleton] at h;subst h;exact q4k hl (qp6 hl i) (qjp l n i)
def preRw (l:List (List Int)) (n:Int):Prop:=qlm l/\preN n
def ctRaw:Ctr:=⟨[.sl a2S,iI],fun x=>preRw x.1 x.2.1,fun x=>[.win true syS 0 0 (rawL x.1 x.2.1 (rawK x.1)).length],fun x=>[.row 66 syS (rawL x.1 x.2.1 (rawK x.1))]⟩
theorem qzs (l:List (List Int)) (n:Int) (hl:qlm l) (hn0:0<=n) (hn1:n<16777216):∀ (k i:Nat),rawK l-i=k->i<=rawK l ->
  GD 16 Tryd.f16 (QC ctRaw (l,n,())) (hd Tryd.f16 0) ⟨[(0,.sl a2S l),(1,.int .i64 n),(5,.win true syS 5 0 (rawL l n i).length),(6,.int .i64 (i:Nat))],[(5,.row 66 syS (rawL l n i))]⟩:=by
 intro k
 induction k with
 | zero=>
  intro i hk hi;have hi:i=rawK l:=by omega
  refine qai cx0 (qu4 l (rawL l n i) n i _ _) ?_;have fin:QC ctRaw (l,n,()) [SV.win true syS 5 0 (rawL l n i).length] [(5,.row 66 syS (rawL l n i))]:=by
   rw[hi];exact qr6 (e:=syS) (et:=66) (a:=5) (xs:=rawL l n (rawK l)) rfl rfl rfl rfl rfl
  refine qaf (fun h=>qaf (fun h2=>?_) (fun h2=>fin)) (fun h=>⟨rfl,fin⟩);have h:=of_decide_eq_true h;have h2:=of_decide_eq_true h2;unfold rawK at hi;omega
 | succ k ih=>
  intro i hk hi;have h6:i<l.length/\i<20:=by unfold rawK at hk hi;omega
  have hlen:=qjp l n i;have hok:=qp6 (n:=n) hl i;have nx:∀ e,rawE l n i (rawL l n i)=e->GD 16 Tryd.f16 (QC ctRaw (l,n,())) (hd Tryd.f16 0) ⟨[(0,.sl a2S l),(1,.int .i64 n),(5,.win true syS 93 0 ((rawL l n i).length+1)),(6,.int .i64 ((i:Int)+1))],[(93,.row 66 syS (rawL l n i++[e]))]⟩:=fun e he=>by
   have h:=ih (i+1) (by omega) (by omega);rw[rawL,he] at h;exact h.onlyR [(5,93)] rfl ⟨rfl,rfl,by rw[List.length_append];rfl,rfl,trivial⟩ ⟨rfl,trivial⟩
  generalize rawL l n i=o at *;have h30:o.length+1<2 ^ 30:=by omega
  refine qai cx0 (qu4 l o n i _ _) ?_;rw[decide_eq_true (show (i:Int)<(l.length:Int) by omega),bc_t,decide_eq_true (show (i:Int)<(20:Int) by omega),bc_t,Int.toNat_natCast,IntWalk.i64_in ((i:Int)+1) (by omega)];have w1:IntKind.i64.wrap (gtB (gt a2S l i) 1)=gtB (gt a2S l i) 1:=IntWalk.i64_in _ (by have:=hl i 1;omega);rw[w1];refine ⟨by omega,by omega,by decide,by decide,by decide,qaf (fun h=>?_) (fun h=>?_)⟩
  ·have h:0<(gtB (gt a2S l i) 0).tmod 4:=of_decide_eq_true h;refine ⟨by omega,by omega,by decide,by decide,by decide,qaf (fun h1=>?_) (fun h1=>?_)⟩
   ·have h1':0<n:=of_decide_eq_true h1;rw[h1];refine ⟨by omega,by omega,by decide,by decide,by omega,?_⟩;rw[bc_t];have plain:¬ (0<i/\(gtY o (i-1)).1=true/\1<(gtB (gt a2S l i) 0).tmod 4/\(gtY o (i-1)).2.1+1<n)->rawE l n i o=(true,(gtB (gt a2S l i) 1).tmod n,(gtB (gt a2S l i) 1).tmod 3):=fun hh=>by
     unfold rawE;rw[if_pos ⟨h,h1'⟩,if_neg hh]
    refine qaf (fun h2=>?_) (fun h2=>?_)
    ·have h2:0<i:=by have:=of_decide_eq_true h2;omega
     have wj:IntKind.i64.wrap ((i:Int)-1)=((i-1:Nat):Int):=by rw[IntWalk.i64_in _ (by omega)];omega
     rw[wj,Int.toNat_natCast,Nat.zero_add];refine ⟨by omega,by omega,by omega,qaf (fun h3=>?_) (fun h3=>?_)⟩
     ·have h3:(gtY o (i-1)).1=true:=h3;have hg:gtY o (i-1)∈o:=by
       rw[qbi (show i-1<o.length by omega)];exact List.getElem_mem _
      have hs:=hok _ hg;simp[sOK,h3] at hs;have wa:IntKind.i64.wrap ((gtY o (i-1)).2.1+1)=(gtY o (i-1)).2.1+1:=IntWalk.i64_in _ (by omega);rw[wa];refine ⟨by omega,by omega,by decide,by decide,by decide,qaf (fun h4=>?_) (fun h4=>?_)⟩
      ·have h4:1<(gtB (gt a2S l i) 0).tmod 4:=of_decide_eq_true h4;refine ⟨by omega,by omega,by omega,qaf (fun h5=>?_) (fun h5=>?_)⟩
       ·have h5:(gtY o (i-1)).2.1+1<n:=of_decide_eq_true h5;refine ⟨by omega,by omega,by omega,Nat.le_refl 1,rfl,rfl,h30,by decide,nx _ ?_⟩;unfold rawE;rw[if_pos ⟨h,h1'⟩,if_pos ⟨h2,h3,h4,h5⟩];rfl
       ·have h5:¬ (gtY o (i-1)).2.1+1<n:=of_decide_eq_false h5;exact ⟨Nat.le_refl 1,rfl,rfl,h30,by decide,nx _ (plain fun q=>h5 q.2.2.2)⟩
      ·have h4:¬ 1<(gtB (gt a2S l i) 0).tmod 4:=of_decide_eq_false h4;exact ⟨rfl,Nat.le_refl 1,rfl,rfl,h30,by decide,nx _ (plain fun q=>h4 q.2.2.1)⟩
     ·have h3:(gtY o (i-1)).1=false:=h3;exact ⟨rfl,rfl,Nat.le_refl 1,rfl,rfl,h30,by decide,nx _ (plain fun q=>by rw[h3] at q;cases q.2.1)⟩
    ·have h2:¬ 0<i:=by have:=of_decide_eq_false h2;omega
     exact ⟨rfl,rfl,rfl,Nat.le_refl 1,rfl,rfl,h30,by decide,nx _ (plain fun q=>h2 q.1)⟩
   ·have h1':¬ 0<n:=of_decide_eq_false h1;rw[h1]
    repeat refine ⟨rfl,?_⟩
    exact ⟨Nat.le_refl 1,rfl,rfl,h30,by decide,nx _ (by unfold rawE;rw[if_neg (fun q=>h1' q.2)];rfl)⟩
  ·have h:¬ 0<(gtB (gt a2S l i) 0).tmod 4:=of_decide_eq_false h;refine ⟨rfl,by omega,by omega,by decide,by decide,by decide,rfl,rfl,rfl,rfl,Nat.le_refl 1,rfl,rfl,h30,by decide,nx _ (by unfold rawE;rw[if_neg (fun q=>h q.1)])⟩
theorem qzt:Held Tryd.prog G0 16 ctRaw:=
 Held.of cx0 (fn:=Tryd.f16) rfl rfl ⟨by decide,by decide⟩ fun ⟨l,n,_⟩ hp=>
  qai cx0 (q6r l n _ _) ((qzs l n hp.1 hp.2.1 hp.2.2 _ 0 rfl (Nat.zero_le _)).onlyR [(5,8)] rfl ⟨rfl,rfl,rfl,rfl,trivial⟩ ⟨rfl,trivial⟩)
end Go.Proofs.YticpkibnhakgbaaDoor
namespace Go.Proofs.YticpkibnhakgbaaDoor
open Go.Px Go.Ax
theorem qqu (el:Nat->SyT):∀ n i k,k<n->(gen el n i)[k]?=some (el (i+k))
 | 0,_,_,h=>by omega
 | n+1,i,0,_=>by rw[gen];rfl
 | n+1,i,k+1,h=>by
  rw[gen,List.getElem?_cons_succ,qqu el n (i+1) k (by omega)]
  congr 2;omega
theorem qxr (el:Nat->SyT):∀ n i s,s∈gen el n i->∃ k,k<n/\s=el (i+k)
 | 0,_,_,h=>by cases h
 | n+1,i,s,h=>by
  rw[gen] at h;rcases List.mem_cons.1 h with h | h
  ·exact ⟨0,by omega,h⟩
  ·obtain ⟨k,h1,h2⟩:=qxr el n (i+1) s h;exact ⟨k+1,by omega,by rw[h2];congr 1;omega⟩
theorem qnq (x:List Int) {k n:Int} (hk:k=2\/k=4) (hn:0<=n):((datO x k n).length:Int)=n:=by
 unfold datO;rw[if_pos hk,qnr];omega
theorem qsy (x:List Int) {k n:Int} (hk:¬ (k=2\/k=4)):datO x k n=[]:=if_neg hk
theorem qws {x:List Int} {m:Int} (hx:qqc x) (h0:0<=m) (h1:m<16777216):isRB (opV x m) m=true:=by
 have hl:=qqf hx h0;have m0:=qdl (hx 0).1 (b:=4) (by decide);have m2:=qdl (hx 2).1 (b:=5) (by decide);have kR:kR (opV x m) m=true:=by
  unfold opV kR;split
  ·rename_i hk;split
   ·rw[if_neg (show ¬ ((4:Int)=1) by decide),if_neg (show ¬ ((4:Int)=2) by decide),if_neg (show ¬ ((4:Int)=3) by decide),if_pos (show (4:Int)=4 by decide)];simp only[rB,Bool.and_eq_true,decide_eq_true_eq];exact ⟨trivial,trivial,qnq x (.inr rfl) (by omega)⟩
   ·rename_i hm;have m1:=qdl (hx 1).1 (b:=m) (by omega);have m3:=qdl (hx 2).1 (b:=m-(gtB x 1).tmod m) (by omega);have e5:=Int.tmod_eq_emod_of_nonneg (b:=5) m3.1;generalize (gtB x 1).tmod m=f at *;generalize (gtB x 2).tmod (m-f)=g at *;rw[e5];have wp:IntKind.i64.wrap (m-(1+g % 5))=m-(1+g % 5):=IntWalk.i64_in _ (by omega);rcases (show 1+(gtB x 0).tmod 4=1\/1+(gtB x 0).tmod 4=2 by omega) with e | e
    ·rw[e];simp only[rB,qba,wp,Bool.and_eq_true,decide_eq_true_eq,if_true];rw[qsy x (by decide)];exact ⟨⟨by omega,by omega⟩,trivial,rfl⟩
    ·rw[e];simp only[rB,qba,wp,Bool.and_eq_true,decide_eq_true_eq,if_true];rw[if_neg (by decide)];simp only[Bool.and_eq_true,decide_eq_true_eq];exact ⟨⟨by omega,by omega⟩,trivial,qnq x (.inl rfl) (by omega)⟩
  ·rename_i hk;rcases (show 1+(gtB x 0).tmod 4=3\/1+(gtB x 0).tmod 4=4 by omega) with e | e
   ·rw[e,qsy x (by decide)];rfl
   ·rw[e];rw[if_neg (show ¬ ((4:Int)=1) by decide),if_neg (show ¬ ((4:Int)=2) by decide),if_neg (show ¬ ((4:Int)=3) by decide),if_pos (show (4:Int)=4 by decide)];simp only[rB,Bool.and_eq_true,decide_eq_true_eq];exact ⟨trivial,if_neg (by decide),qnq x (.inr rfl) (by omega)⟩
 unfold isRB;rw[decide_eq_true (show 1<=(opV x m).2.2.1 by omega),decide_eq_true (show (opV x m).2.2.1<=65536 by omega),kR];rfl
theorem q2y {m N:Int}:∀ {l:List OpT} {left i:Int},(∀ x∈l,isRB x m=true)->lenS l=left->chkF m N l left i=(N,0)
 | [],left,i,_,h=>by
  have h:(0:Int)=left:=h;rw[chkF,if_neg (by omega)]
 | x::l,left,i,hr,h=>by
  have h1:=hr x (by simp);have h2:=qdp h1;have h3:=qhw (l:=l) fun y hy=>hr y (by simp[hy])
  rw[qkz] at h;rw[chkF,if_neg (by rw[h1];decide),if_neg (by omega)];exact q2y (fun y hy=>hr y (by simp[hy])) (by omega)
theorem qx9 {li:Bool} {m o:Int} {l:List OpT} (h0:0<=m) (h1:m<=65536) (ho:o<=65536) (hl:l.length<=4096) (hr:∀ x∈l,isRB x m=true) (hs:lenS l=o):chkV (li,m,o,l)=((l.length:Int),(0:Int)):=by
 have:=qhw hr;unfold chkV;rw[if_pos ⟨by simp[szB];omega,by simp[szB];omega,hl⟩];exact q2y hr hs
theorem qpz {m:Int}:∀ {l:List OpT},(∀ x∈l,isRB x m=true)->∀ s∈symF l,∃ x∈l,∃ k:Nat,(k:Int)<x.2.2.1/\s=elO x.1.toNat x k
 | [],_,s,h=>by cases h
 | x::l,hr,s,h=>by
  rw[symF] at h;rcases List.mem_append.1 h with h | h
  ·obtain ⟨k,h1,h2⟩:=qxr _ _ _ _ h;have:=(qd5 (hr x (by simp))).2;exact ⟨x,by simp,k,by omega,by rw[h2,Nat.zero_add]⟩
  ·obtain ⟨y,hy,k,h1,h2⟩:=qpz (fun y hy=>hr y (by simp[hy])) s h;exact ⟨y,by simp[hy],k,h1,h2⟩
theorem qxi {x:OpT} {m:Int} (h:isRB x m=true) (hm:0<=m/\m<16777216) (hk:x.1=1\/x.1=2):0<=x.2.1/\x.2.1+x.2.2.1<=m:=by
 unfold isRB kR at h;simp only[Bool.and_eq_true,decide_eq_true_eq] at h;obtain ⟨h1,h2,h3⟩:=h;have w:IntKind.i64.wrap (m-x.2.2.1)=m-x.2.2.1:=IntWalk.i64_in _ (by omega);rcases hk with e | e
 ·rw[if_pos e] at h3;simp only[rB,qba,w,Bool.and_eq_true,decide_eq_true_eq] at h3;omega
 ·rw[if_neg (by omega),if_pos e] at h3;simp only[rB,qba,w,Bool.and_eq_true,decide_eq_true_eq] at h3;omega
theorem qj5 {l:List (List Int)} {m:Int} (hl:qkk l) (h0:0<=m) (h1:m<=65536):∀ x∈szO l m,isRB x m=true:=fun x hx=>by
 unfold szO szL at hx;obtain ⟨j,_,rfl⟩:=List.mem_map.1 hx;exact qws (hl j) h0 (by omega)
theorem qvm (l:List (List Int)) (m:Int):(szO l m).length<=6:=by
 unfold szO szK;rw[qvn];omega
theorem qpy {l:List (List Int)} {m:Int} (hl:qkk l) (h0:0<=m):0<=lenS (szO l m)/\lenS (szO l m)<=30:=by
 have:=qmu hl h0 (szK l);have h6:szK l<=6:=by unfold szK;omega
 unfold szO;omega
theorem q30 {l:List (List Int)} {m:Int} (hl:qkk l) (h0:0<=m) (h1:m<=65536):chkV (szV l m)=(((szO l m).length:Int),(0:Int)):=by
 have h30:=qpy hl h0;have h6:=qvm l m;exact qx9 h0 h1 (by omega) (by omega) (qj5 hl h0 h1) rfl
end Go.Proofs.YticpkibnhakgbaaDoor
namespace Go.Proofs.YticpkibnhakgbaaDoor
open Go.Px Go.Ax
theorem qro:∀ (a b:List OpT),symF (a++b)=symF a++symF b
 | [],b=>rfl
 | x::a,b=>by rw[List.cons_append,symF,symF,qro a b,List.append_assoc]
def q00:List OpT->Int
 | []=>0
 | x::l=>cN x.1.toNat x+q00 l
end Go.Proofs.YticpkibnhakgbaaDoor
namespace Go.Proofs.YticpkibnhakgbaaDoor
open Go.Px Go.Ax
theorem qp1 {m:Int} {s:SyT} (h:sOK m s=true) (ho:s.1=true):0<=s.2.1/\s.2.1<m:=by
 unfold sOK at h;rw[if_pos ho] at h;simpa using h
theorem q4d {m:Int} {s:SyT} (h:sOK m s=true) (ho:s.1=false):s.2.1=0:=by
 unfold sOK at h;rw[if_neg (by rw[ho];decide)] at h;simpa using h
section
variable {l:List SyT} {m:Int} (hr:∀ s∈l,sOK m s=true) (hm:m<16777216)
include hr hm
end
end Go.Proofs.YticpkibnhakgbaaDoor
namespace Go.Proofs.YticpkibnhakgbaaDoor
open Go.Px Go.Ax
set_option maxRecDepth 100000
def q82:Ctr:=⟨[.sl syS],fun x=>List.length x.1=0,fun x=>[.sl opS (opsL x.1)],fun _=>[]⟩
def ctOpsA:Ctr:=⟨[.sl syS],fun x=>List.length x.1<16777216,fun x=>[.sl opS (opsL x.1)],fun _=>[]⟩
set_option maxRecDepth 100000
theorem qyt (k f n b m:Int) (d:List Int) (Q:QT) (R:RT):sy tt G0 [(57,.inl ctIn)] Tryd.f61.ntmps Tryd.f61.results.toList Q R 1000 [.code (qae Tryd.f61)] (entry [opS,iI] ((k,f,n,b,d),m,())) =
  (ctIn.pre (n,(1:Int),(65536:Int),()) /\
 bc (!(decide ((1:Int)<=n)&&decide (n<=65536))) (Q [.bool false] [(2,.var [.int .i64 k,.int .i64 f,.int .i64 n,.int .u8 b,.sl uB d])]) (ctIn.pre (f,(0:Int),IntKind.i64.wrap (m-n),()) /\
 bc (decide (k=(1:Int))) (bc (decide ((0:Int)<=f)&&decide (f<=IntKind.i64.wrap (m-n))) (bc (decide (b=(0:Int))) (Q [.bool (decide ((d.length:Int)=(0:Int)))] [(2,.var [.int .i64 k,.int .i64 f,.int .i64 n,.int .u8 b,.sl uB d])]) (false=false /\
 Q [.bool false] [(2,.var [.int .i64 k,.int .i64 f,.int .i64 n,.int .u8 b,.sl uB d])])) (false=false /\
 false=false /\
 Q [.bool false] [(2,.var [.int .i64 k,.int .i64 f,.int .i64 n,.int .u8 b,.sl uB d])])) (bc (decide (k=(2:Int))) (bc (decide ((0:Int)<=f)&&decide (f<=IntKind.i64.wrap (m-n))) (bc (decide (b=(0:Int))) (Q [.bool (decide ((d.length:Int)=n))] [(2,.var [.int .i64 k,.int .i64 f,.int .i64 n,.int .u8 b,.sl uB d])]) (false=false /\
 Q [.bool false] [(2,.var [.int .i64 k,.int .i64 f,.int .i64 n,.int .u8 b,.sl uB d])])) (false=false /\
 false=false /\
 Q [.bool false] [(2,.var [.int .i64 k,.int .i64 f,.int .i64 n,.int .u8 b,.sl uB d])])) (bc (decide (k=(3:Int))) (bc (decide (f=(0:Int))) (Q [.bool (decide ((d.length:Int)=(0:Int)))] [(2,.var [.int .i64 k,.int .i64 f,.int .i64 n,.int .u8 b,.sl uB d])]) (false=false /\
 Q [.bool false] [(2,.var [.int .i64 k,.int .i64 f,.int .i64 n,.int .u8 b,.sl uB d])])) (bc (decide (k=(4:Int))) (bc (decide (f=(0:Int))) (bc (decide (b=(0:Int))) (Q [.bool (decide ((d.length:Int)=n))] [(2,.var [.int .i64 k,.int .i64 f,.int .i64 n,.int .u8 b,.sl uB d])]) (false=false /\
 Q [.bool false] [(2,.var [.int .i64 k,.int .i64 f,.int .i64 n,.int .u8 b,.sl uB d])])) (false=false /\
 false=false /\
 Q [.bool false] [(2,.var [.int .i64 k,.int .i64 f,.int .i64 n,.int .u8 b,.sl uB d])])) (Q [.bool false] [(2,.var [.int .i64 k,.int .i64 f,.int .i64 n,.int .u8 b,.sl uB d])])))))):=by kernel_rfl
theorem q6y (l:List SyT) (m:Int) (Q:QT) (R:RT):sy tt G0 ((56,.inl ctOpsA)::(55,.inl ctAre)::C1) Tryd.f46.ntmps Tryd.f46.results.toList Q R 1000 [.code (qae Tryd.f46)] (entry [.sl syS,iI] (l,m,())) =
  (ctSize.pre (m,()) /\
 bc (!(decide ((0:iI.D)<=m)&&decide (m<=(65536:iI.D)))) (true=true /\
 true=true /\
 Q [.agg [.bool false,.int .i64 0,.int .i64 0,.nils],.int .i64 60] [(4,.var [.bool false,.int .i64 0,.int .i64 0,.nils])]) (ctSize.pre ((l.length:Int),()) /\
 bc (bif false then true else !(decide ((0:iI.D)<=(l.length:Int))&&decide ((l.length:Int)<=(65536:iI.D)))) (true=true /\
 Q [.agg [.bool false,.int .i64 0,.int .i64 0,.nils],.int .i64 60] [(4,.var [.bool false,.int .i64 0,.int .i64 0,.nils])]) (ctAre.pre (l,m,()) /\
 bc (bif false then true else !l.all (sOK m)) (Q [.agg [.bool false,.int .i64 0,.int .i64 0,.nils],.int .i64 60] [(4,.var [.bool false,.int .i64 0,.int .i64 0,.nils])]) (ctOpsA.pre (l,()) /\
 bc (decide ((4096:Int)<(↑(opsL l).length:Int))) (Q [.agg [.bool false,.int .i64 0,.int .i64 0,.nils],.int .i64 2] [(4,.var [.bool false,.int .i64 0,.int .i64 0,.nils])]) (Q [.agg [.bool false,.int .i64 m,.int .i64 (l.length:Int),.sl opS (opsL l)],.int .i64 0] [(4,.var [.bool false,.int .i64 m,.int .i64 (l.length:Int),.sl opS (opsL l)])]))))):=by kernel_rfl
end Go.Proofs.YticpkibnhakgbaaDoor
namespace Go.Proofs.YticpkibnhakgbaaDoor
open Go.Px Go.Ax
set_option maxRecDepth 100000
attribute [local irreducible] Go.Px.sy Go.Px.syE
def ctRop:Ctr:=⟨[opS,iI],fun _=>True,fun x=>[.bool (isRB x.1 x.2.1)],fun _=>[]⟩
theorem q4g (k f n b m:Int) (d:List Int):sy tt G0 [(57,.inl ctIn)] Tryd.f61.ntmps Tryd.f61.results.toList (QC ctRop ((k,f,n,b,d),m,())) (Px.Good Tryd.prog tt G0 61 Tryd.f61.ntmps Tryd.f61.results.toList (QC ctRop ((k,f,n,b,d),m,()))) 1000 [.code (qae Tryd.f61)] (entry [opS,iI] ((k,f,n,b,d),m,())):=by
 have fin:∀ (v:Bool) (blk:List (Nat × LB)),isRB (k,f,n,b,d) m=v->QC ctRop ((k,f,n,b,d),m,()) [SV.bool v] blk:=fun v blk h=>QC.flat (by show [SV.bool (isRB _ _)]=_;rw[h]) rfl rfl
 refine (qyt k f n b m d _ _).mpr ⟨trivial,qaf (fun h=>?_) (fun h=>?_)⟩
 ·have h:(!(decide (1<=n)&&decide (n<=65536)))=true:=h;refine fin _ _ ?_
  show (decide (1<=n)&&(decide (n<=65536)&&kR _ m))=false
  rw[Bool.not_eq_true'] at h;rw[<- Bool.and_assoc,h];rfl
 ·have h:(!(decide (1<=n)&&decide (n<=65536)))=false:=h;rw[Bool.not_eq_false'] at h;have hk:isRB (k,f,n,b,d) m=kR (k,f,n,b,d) m:=by
   show (decide (1<=n)&&(decide (n<=65536)&&kR _ m))=_
   rw[<- Bool.and_assoc,h,Bool.true_and]
  refine ⟨trivial,qaf (fun h1=>?_) (fun h1=>qaf (fun h2=>?_) (fun h2=>qaf (fun h3=>?_) (fun h3=>qaf (fun h4=>?_) (fun h4=>?_))))⟩
  ·have h1:k=1:=of_decide_eq_true h1;have e:kR (k,f,n,b,d) m=(qba f n m&&(decide (b=0)&&decide ((d.length:Int)=0))):=by subst h1;rfl
   rw[e] at hk;refine qaf (fun a=>qaf (fun c=>?_) (fun c=>⟨rfl,?_⟩)) (fun a=>⟨rfl,rfl,?_⟩)
   ·exact fin _ _ (by rw[hk,show qba f n m=true from a,c];rfl)
   ·exact fin _ _ (by rw[hk,show qba f n m=true from a,c];rfl)
   ·exact fin _ _ (by rw[hk,show qba f n m=false from a];rfl)
  ·have h2:k=2:=of_decide_eq_true h2;have e:kR (k,f,n,b,d) m=(qba f n m&&(decide (b=0)&&decide ((d.length:Int)=n))):=by subst h2;rfl
   rw[e] at hk;refine qaf (fun a=>qaf (fun c=>?_) (fun c=>⟨rfl,?_⟩)) (fun a=>⟨rfl,rfl,?_⟩)
   ·exact fin _ _ (by rw[hk,show qba f n m=true from a,c];rfl)
   ·exact fin _ _ (by rw[hk,show qba f n m=true from a,c];rfl)
   ·exact fin _ _ (by rw[hk,show qba f n m=false from a];rfl)
  ·have h3:k=3:=of_decide_eq_true h3;have e:kR (k,f,n,b,d) m=(decide (f=0)&&decide ((d.length:Int)=0)):=by subst h3;rfl
   rw[e] at hk;refine qaf (fun a=>?_) (fun a=>⟨rfl,?_⟩)
   ·exact fin _ _ (by rw[hk,a];rfl)
   ·exact fin _ _ (by rw[hk,a];rfl)
  ·have h4:k=4:=of_decide_eq_true h4;have e:kR (k,f,n,b,d) m=(decide (f=0)&&(decide (b=0)&&decide ((d.length:Int)=n))):=by subst h4;rfl
   rw[e] at hk;refine qaf (fun a=>qaf (fun c=>?_) (fun c=>⟨rfl,?_⟩)) (fun a=>⟨rfl,rfl,?_⟩)
   ·exact fin _ _ (by rw[hk,a,c];rfl)
   ·exact fin _ _ (by rw[hk,a,c];rfl)
   ·exact fin _ _ (by rw[hk,a];rfl)
  ·have h1:¬ k=1:=of_decide_eq_false h1;have h2:¬ k=2:=of_decide_eq_false h2;have h3:¬ k=3:=of_decide_eq_false h3;have h4:¬ k=4:=of_decide_eq_false h4;refine fin _ _ ?_;rw[hk]
   show (if k=1 then _ else if k=2 then _ else if k=3 then _ else if k=4 then _ else false)=false
   rw[if_neg h1,if_neg h2,if_neg h3,if_neg h4]
theorem qzn:Held Tryd.prog G0 61 ctRop:=
 Held.run (cx0.cons qqs (fn:=Tryd.f57) rfl rfl rfl) (fn:=Tryd.f61) rfl rfl ⟨by decide,by decide⟩ fun ⟨⟨k,f,n,b,d⟩,m,_⟩ _=>q4g k f n b m d
theorem qwr:Held Tryd.prog G0 56 q82:=by
 refine Held.run dxO (fn:=Tryd.f56) rfl rfl ⟨by decide,by decide⟩ ?_;rintro ⟨l,⟨⟩⟩ hp;replace hp:l.length=0:=hp;have e:l=[]:=List.eq_nil_of_length_eq_zero hp;subst e;refine (q15 [] _ _).mpr ?_;refine Good.only (S':=⟨[(0,.sl syS []),(3,.nils),(4,.int .i64 ((0:Nat):Int)),(5,.int .i64 ((1:Nat):Int))],[]⟩) (qak dxO _ _ _ ((qu6 [] 0 1 _ _).mpr ?_)) ⟨rfl,rfl,rfl,rfl,trivial⟩ trivial;rw[decide_eq_false (by decide),bc_f];exact QC.mt ⟨_,_,rfl,.inr ⟨rfl,rfl⟩,rfl⟩ rfl
theorem qwq:Held Tryd.prog G0 56 ctOpsA:=fun x hp=>by
 by_cases h:List.length x.1=0
 ·exact qwr x h
 ·exact qz2 x ⟨Nat.pos_of_ne_zero h,hp⟩
def ctOfA:Ctr:=⟨[.sl syS,iI],fun x=>List.length x.1<16777216,fun x=>[paV (ofV x.1 x.2.1).1,.int .i64 (ofV x.1 x.2.1).2],fun _=>[]⟩
theorem qz7:Held Tryd.prog G0 46 ctOfA:=by
 refine Held.run ((cx1.cons q1f (fn:=Tryd.f55) rfl rfl rfl).cons qwq (fn:=Tryd.f56) rfl rfl rfl) (fn:=Tryd.f46) rfl rfl ⟨by decide,by decide⟩ ?_;rintro ⟨l,m,⟨⟩⟩ hp;replace hp:l.length<16777216:=hp;have bad:¬ (szB m=true/\szB l.length=true/\l.all (sOK m)=true)->ofV l m=((false,0,0,[]),60):=fun q=>if_neg q
 refine (q6y l m _ _).mpr ⟨trivial,qaf (fun h=>⟨rfl,rfl,?_⟩) (fun h=>⟨trivial,qaf (fun h2=>⟨rfl,?_⟩) (fun h2=>⟨(show l.length<1099511627776 by omega),qaf (fun h3=>?_) (fun h3=>⟨hp,qaf (fun h4=>?_) (fun h4=>?_)⟩)⟩)⟩)⟩
 ·have h:(!szB m)=true:=h;have hv:=bad fun q=>by rw[q.1] at h;cases h
  exact QC.mt (by show MtL _ [paV (ofV l m).1,.int .i64 (ofV l m).2] _;rw[hv];exact ⟨_,_,rfl,⟨_,rfl,_,_,rfl,rfl,_,_,rfl,rfl,_,_,rfl,rfl,_,_,rfl,.inr ⟨rfl,rfl⟩,rfl⟩,_,_,rfl,rfl,rfl⟩) rfl
 ·have h2:(!szB l.length)=true:=h2;have hv:=bad fun q=>by rw[q.2.1] at h2;cases h2
  exact QC.mt (by show MtL _ [paV (ofV l m).1,.int .i64 (ofV l m).2] _;rw[hv];exact ⟨_,_,rfl,⟨_,rfl,_,_,rfl,rfl,_,_,rfl,rfl,_,_,rfl,rfl,_,_,rfl,.inr ⟨rfl,rfl⟩,rfl⟩,_,_,rfl,rfl,rfl⟩) rfl
 ·have h3:(!l.all (sOK m))=true:=h3;have hv:=bad fun q=>by rw[q.2.2] at h3;cases h3
  exact QC.mt (by show MtL _ [paV (ofV l m).1,.int .i64 (ofV l m).2] _;rw[hv];exact ⟨_,_,rfl,⟨_,rfl,_,_,rfl,rfl,_,_,rfl,rfl,_,_,rfl,rfl,_,_,rfl,.inr ⟨rfl,rfl⟩,rfl⟩,_,_,rfl,rfl,rfl⟩) rfl
 all_goals
  have h:(!szB m)=false:=h;have h2:(!szB l.length)=false:=h2;have h3:(!l.all (sOK m))=false:=h3;have hg:szB m=true/\szB l.length=true/\l.all (sOK m)=true:=⟨by simpa using h,by simpa using h2,by simpa using h3⟩
 ·have h4:(4096:Int)<((opsL l).length:Int):=of_decide_eq_true h4;have hv:ofV l m=((false,0,0,[]),2):=by unfold ofV;rw[if_pos hg,if_pos (by omega)]
  exact QC.mt (by show MtL _ [paV (ofV l m).1,.int .i64 (ofV l m).2] _;rw[hv];exact ⟨_,_,rfl,⟨_,rfl,_,_,rfl,rfl,_,_,rfl,rfl,_,_,rfl,rfl,_,_,rfl,.inr ⟨rfl,rfl⟩,rfl⟩,_,_,rfl,rfl,rfl⟩) rfl
 ·have h4:¬ (4096:Int)<((opsL l).length:Int):=of_decide_eq_false h4;have hv:ofV l m=(((false,m,(l.length:Int),opsL l):PaT),(0:Int)):=by unfold ofV;rw[if_pos hg,if_neg (by omega)]
  exact QC.flat (by show [paV (ofV l m).1,.int .i64 (ofV l m).2]=_;rw[hv];rfl) rfl rfl
end Go.Proofs.YticpkibnhakgbaaDoor
namespace Go.Proofs.YticpkibnhakgbaaDoor
open Go.Px Go.Ax
set_option maxRecDepth 100000
def CRc:CV:=[(61,.inl ctRop),(57,.inl ctIn)]
theorem cxRc:CxOK Tryd.prog tt G0 CRc:=(cx0.cons qqs (fn:=Tryd.f57) rfl rfl rfl).cons qzn (fn:=Tryd.f61) rfl rfl rfl
set_option maxRecDepth 100000
theorem q3e (li:Bool) (m o:Int) (l:List OpT) (Q:QT) (R:RT):sy tt G0 CRc Tryd.f53.ntmps Tryd.f53.results.toList Q (fun it S=>R it (qao [1,4,5] [1] S)) 1000 [.code (qae Tryd.f53)] (entry [paS] ((li,m,o,l),())) =
  (ctIn.pre (m,(0:Int),(65536:Int),()) /\
 bc (!(decide ((0:Int)<=m)&&decide (m<=65536))) (true=true /\
 true=true /\
 Q [.int .i64 (-1:Int),.int .i64 60] [(1,.var [.bool li,.int .i64 m,.int .i64 o,.sl opS l])]) (ctIn.pre (o,(0:Int),(65536:Int),()) /\
 bc (bif false then true else !(decide ((0:Int)<=o)&&decide (o<=65536))) (true=true /\
 Q [.int .i64 (-1:Int),.int .i64 60] [(1,.var [.bool li,.int .i64 m,.int .i64 o,.sl opS l])]) (bc (bif false then true else decide ((4096:Int)<(l.length:Int))) (Q [.int .i64 (-1:Int),.int .i64 60] [(1,.var [.bool li,.int .i64 m,.int .i64 o,.sl opS l])]) (R (hd Tryd.f53 0) { env:=[(1,.ptr 1 0),(4,.int .i64 0),(5,.int .i64 0)],blk:=[(1,.var [.bool li,.int .i64 m,.int .i64 o,.sl opS l])] })))):=by kernel_rfl
theorem qri (li:Bool) (m o s:Int) (l:List OpT) (i:Nat) (Q:QT) (R:RT):sy tt G0 CRc Tryd.f53.ntmps Tryd.f53.results.toList Q (fun it S=>R it (qao [1,4,5] [1] S)) 1000 (hd Tryd.f53 0) ⟨[(1,.ptr 1 0),(4,.int .i64 s),(5,.int .i64 (i:Nat))],[(1,.var [.bool li,.int .i64 m,.int .i64 o,.sl opS l])]⟩ =
  (bc (decide ((i:Int)<(l.length:Int))) ((0:Int)<=(i:Int) /\
 (i:Int)<(l.length:Int) /\
 ctRop.pre ((gtO l (i:Int).toNat),m,()) /\
 bc (!isRB (gtO l (i:Int).toNat) m) (true=true /\
 Q [.int .i64 (i:Int),.int .i64 60] [(1,.var [.bool li,.int .i64 m,.int .i64 o,.sl opS l])]) ((0:Int)<=(i:Int) /\
 (i:Int)<(l.length:Int) /\
 bc (bif false then true else decide (o<IntKind.i64.wrap (s+(gtO l (i:Int).toNat).2.2.1))) (Q [.int .i64 (i:Int),.int .i64 60] [(1,.var [.bool li,.int .i64 m,.int .i64 o,.sl opS l])]) ((0:Int)<=(i:Int) /\
 (i:Int)<(l.length:Int) /\
 R (hd Tryd.f53 0) { env:=[(1,.ptr 1 0),(4,.int .i64 (IntKind.i64.wrap (s+(gtO l (i:Int).toNat).2.2.1))),(5,.int .i64 (IntKind.i64.wrap ((i:Int)+1)))],blk:=[(1,.var [.bool li,.int .i64 m,.int .i64 o,.sl opS l])] }))) (bc (decide (s≠o)) (Q [.int .i64 (l.length:Int),.int .i64 60] [(1,.var [.bool li,.int .i64 m,.int .i64 o,.sl opS l])]) (Q [.int .i64 (l.length:Int),.int .i64 0] [(1,.var [.bool li,.int .i64 m,.int .i64 o,.sl opS l])]))):=by kernel_rfl
theorem qys (f:Bool) (a b n:Int) (Q:QT) (R:RT):sy tt G0 [(57,.inl ctIn)] Tryd.f48.ntmps Tryd.f48.results.toList Q R 1000 [.code (qae Tryd.f48)] (entry [syS,iI] ((f,a,b),n,())) =
  (bc f (ctIn.pre (a,(0:Int),IntKind.i64.wrap (n-1),()) /\
 Q [.bool (decide ((0:Int)<=a)&&decide (a<=IntKind.i64.wrap (n-1)))] [(2,.var [.bool f,.int .i64 a,.int .u8 b])]) (Q [.bool (decide (a=(0:Int)))] [(2,.var [.bool f,.int .i64 a,.int .u8 b])])):=by kernel_rfl
theorem qyu (li:Bool) (m o:Int) (l:List OpT) (Q:QT) (R:RT):sy tt G0 [(53,.inl ctChk)] Tryd.f42.ntmps Tryd.f42.results.toList Q R 1000 [.code (qae Tryd.f42)] (entry [paS] ((li,m,o,l),())) =
  (ctChk.pre ((li,m,o,l),()) /\
 Q [.bool (decide ((chkV (li,m,o,l)).2=(0:Int)))] [(1,.var [.bool li,.int .i64 m,.int .i64 o,.sl opS l])]):=by kernel_rfl
end Go.Proofs.YticpkibnhakgbaaDoor
namespace Go.Proofs.YticpkibnhakgbaaDoor
open Go.Px Go.Ax
set_option maxRecDepth 100000
attribute [local irreducible] Go.Px.sy Go.Px.syE
abbrev ChQ (a b:Int):List SV->List (Nat × LB)->Prop:=fun rs _=>rs=[.int .i64 a,.int .i64 b]
theorem qwe (li:Bool) (m o:Int) (l:List OpT) (ho:0<=o/\o<=65536) (hl:l.length<=4096):∀ (k i:Nat) (s:Int),l.length-i=k->i<=l.length->0<=s->s<=o ->
  GD 53 Tryd.f53 (ChQ (chkF m l.length (l.drop i) (o-s) i).1 (chkF m l.length (l.drop i) (o-s) i).2) (hd Tryd.f53 0) ⟨[(1,.ptr 1 0),(4,.int .i64 s),(5,.int .i64 (i:Nat))],[(1,.var [.bool li,.int .i64 m,.int .i64 o,.sl opS l])]⟩:=by
 intro k
 induction k with
 | zero=>
  intro i s hk hi h0 hs;have hi:i=l.length:=by omega
  subst hi;refine qai cxRc (qri li m o s l _ _ _) ?_;rw[decide_eq_false (by omega),bc_f,List.drop_length];simp only[chkF];refine qaf (fun h=>?_) (fun h=>?_)
  ·have h:s≠o:=of_decide_eq_true h;rw[if_pos (by omega)]
  ·have h:¬ s≠o:=of_decide_eq_false h;rw[if_neg (by omega)]
 | succ k ih=>
  intro i s hk hi h0 hs;have hil:i<l.length:=by omega
  refine qai cxRc (qri li m o s l i _ _) ?_;rw[decide_eq_true (show (i:Int)<(l.length:Int) by omega),bc_t,Int.toNat_natCast,qgh hil,IntWalk.i64_in ((i:Int)+1) (by omega),qug hil];simp only[chkF];refine ⟨by omega,by omega,trivial,qaf (fun h=>⟨trivial,?_⟩) (fun h=>⟨by omega,by omega,?_⟩)⟩
  ·have h:isRB l[i] m=false:=by simpa using h
   rw[if_pos h]
  ·have h:isRB l[i] m=true:=by simpa using h
   have hx:=qdp h;have w:IntKind.i64.wrap (s+l[i].2.2.1)=s+l[i].2.2.1:=IntWalk.i64_in _ (by omega);have h2:¬ isRB l[i] m=false:=by rw[h];decide
   rw[w,if_neg h2];refine qaf (fun h3=>?_) (fun h3=>?_)
   ·have h3:o<s+l[i].2.2.1:=of_decide_eq_true h3;rw[if_pos (by omega)]
   ·have h3:¬ o<s+l[i].2.2.1:=of_decide_eq_false h3;have nx:=ih (i+1) (s+l[i].2.2.1) (by omega) (by omega) (by omega) (by omega);have e:o-(s+l[i].2.2.1)=o-s-l[i].2.2.1:=by omega
    rw[e] at nx;rw[if_neg (by omega)];exact ⟨by omega,by omega,nx.only ⟨rfl,rfl,rfl,trivial⟩ ⟨rfl,trivial⟩⟩
theorem qzr (li:Bool) (m o:Int) (l:List OpT):GD 53 Tryd.f53 (ChQ (chkV (li,m,o,l)).1 (chkV (li,m,o,l)).2) [.code (qae Tryd.f53)] (entry [paS] ((li,m,o,l),())):=by
 have bad:¬ (szB m=true/\szB o=true/\l.length<=4096)->chkV (li,m,o,l)=(-1,60):=fun q=>if_neg q
 refine qai cxRc (q3e li m o l _ _) ⟨trivial,qaf (fun h=>⟨rfl,rfl,?_⟩) (fun h=>⟨trivial,qaf (fun h2=>⟨rfl,?_⟩) (fun h2=>qaf (fun h3=>?_) (fun h3=>?_))⟩)⟩
 ·have h:(!szB m)=true:=h;rw[bad fun q=>by rw[q.1] at h;cases h]
 ·have h2:(!szB o)=true:=h2;rw[bad fun q=>by rw[q.2.1] at h2;cases h2]
 ·have h3:(4096:Int)<(l.length:Int):=of_decide_eq_true h3;rw[bad fun q=>by omega]
 ·have h:(!szB m)=false:=h;have h2:(!szB o)=false:=h2;have h3:¬ (4096:Int)<(l.length:Int):=of_decide_eq_false h3;have hg:szB m=true/\szB o=true/\l.length<=4096:=⟨by simpa using h,by simpa using h2,by omega⟩;have ho:0<=o/\o<=65536:=by
   have:=hg.2.1;simpa [szB] using this
  have hv:chkV (li,m,o,l)=chkF m l.length (l.drop 0) (o-0) ((0:Nat):Int):=by
   unfold chkV;rw[if_pos hg,Int.sub_zero];rfl
  rw[hv];exact (qwe li m o l ho hg.2.2 _ 0 0 rfl (by omega) (by omega) ho.1).only ⟨rfl,rfl,rfl,trivial⟩ ⟨rfl,trivial⟩
theorem qwf:Held Tryd.prog G0 53 ctChk:=
 Held.of cxRc (fn:=Tryd.f53) rfl rfl ⟨by decide,by decide⟩ fun ⟨⟨li,m,o,l⟩,_⟩ _=>
  (qzr li m o l).post fun rs blk hq=>QC.flat (by rw[hq];rfl) rfl (by rw[hq];rfl)
def ctRi:Ctr:=⟨[paS],fun _=>True,fun x=>[.bool (decide ((chkV x.1).2=0))],fun _=>[]⟩
theorem qto:Held Tryd.prog G0 42 ctRi:=
 Held.run (cx0.cons qwf (fn:=Tryd.f53) rfl rfl rfl) (fn:=Tryd.f42) rfl rfl ⟨by decide,by decide⟩ fun ⟨⟨li,m,o,l⟩,_⟩ _=>
  (qyu li m o l _ _).mpr ⟨trivial,QC.flat rfl rfl rfl⟩
def ctRsy:Ctr:=⟨[syS,iI],fun x=>preN x.2.1,fun x=>[.bool (sOK x.2.1 x.1)],fun _=>[]⟩
theorem qzk (f:Bool) (a b n:Int) (h0:0<=n) (h1:n<16777216):sy tt G0 [(57,.inl ctIn)] Tryd.f48.ntmps Tryd.f48.results.toList (QC ctRsy ((f,a,b),n,())) (Px.Good Tryd.prog tt G0 48 Tryd.f48.ntmps Tryd.f48.results.toList (QC ctRsy ((f,a,b),n,()))) 1000 [.code (qae Tryd.f48)] (entry [syS,iI] ((f,a,b),n,())):=by
 have w:IntKind.i64.wrap (n-1)=n-1:=IntWalk.i64_in _ (by omega);refine (qys f a b n _ _).mpr ?_;rw[w];refine qaf (fun h=>⟨trivial,?_⟩) (fun h=>?_)
 ·have h:f=true:=h;subst h;refine QC.flat ?_ rfl rfl
  show [SV.bool (decide (0<=a)&&decide (a<n))]=_
  rw[decide_eq_decide.2 (show a<n↔a<=n-1 by omega)]
 ·have h:f=false:=h;subst h;exact QC.flat rfl rfl rfl
theorem qv7:Held Tryd.prog G0 48 ctRsy:=
 Held.run (cx0.cons qqs (fn:=Tryd.f57) rfl rfl rfl) (fn:=Tryd.f48) rfl rfl ⟨by decide,by decide⟩ fun ⟨⟨f,a,b⟩,n,_⟩ hp=>qzk f a b n hp.1 hp.2
end Go.Proofs.YticpkibnhakgbaaDoor
namespace Go.Proofs.YticpkibnhakgbaaDoor
open Go.Px Go.Ax
abbrev LiT:Type:=Int × Int × Int × Int
def zLi:LiT:=(0,0,0,0)
def canB (k:Int) (s:SyT):Bool:=if k=1 then s.1&&decide (s.2.2=0) else if k=2 then s.1 else !s.1
def goK (k:Int) (s t:SyT):Bool:=if k=1\/k=2 then decide (t.2.1=IntKind.i64.wrap (s.2.1+1)) else if k=3 then decide (t.2.2=s.2.2) else true
def hdC (k:Int):Int:=if k=4 then 2 else 4
def eaC (k:Int):Int:=if k=2\/k=4 then 1 else 0
def betB (a b:LiT):Bool:=
 if a.2.1=0\/b.2.1=0 then decide (0<a.2.1)&&decide (b.2.1=0)
 else if a.2.2.1≠b.2.2.1 then decide (a.2.2.1<b.2.2.1)
 else if a.2.2.2≠b.2.2.2 then decide (a.2.2.2<b.2.2.2)
 else if a.1≠b.1 then decide (a.1<b.1)
 else decide (b.2.1<a.2.1)
def oneF (k:Int) (w:Int × Int):LiT:=(k,1,w.1+hdC k+eaC k,w.2+1)
def qku (k:Int) (g:LiT):LiT:=(k,g.2.1+1,g.2.2.1+eaC k,g.2.2.2)
def begF (k:Int) (s t:SyT) (w:Int × Int) (g:LiT):LiT:=
 if canB k s=false then zLi
 else if g.2.1=0\/goK k s t=false then oneF k w
 else if betB (oneF k w) (qku k g)=true then oneF k w else qku k g
def upd (b g:LiT):LiT:=if betB g b=true then g else b
def pickF (g:Int->LiT):LiT:=upd (upd (upd (upd zLi (g 1)) (g 2)) (g 3)) (g 4)
def tb:List SyT->(Int->LiT) × LiT
 | []=>(fun _=>zLi,zLi)
 | s::r=>(fun k=>begF k s (gtY r 0) (tb r).2.2.2 ((tb r).1 k),pickF fun k=>begF k s (gtY r 0) (tb r).2.2.2 ((tb r).1 k))
def bst (l:List SyT):LiT:=(tb l).2
def beg (l:List SyT) (k:Int):LiT:=(tb l).1 k
theorem qs4 (s:SyT) (r:List SyT) (k:Int):beg (s::r) k=begF k s (gtY r 0) (bst r).2.2 (beg r k):=rfl
theorem q1b (s:SyT) (r:List SyT):bst (s::r)=pickF fun k=>beg (s::r) k:=rfl
def fitN (k:Int):List SyT->Nat
 | []=>0
 | s::r=>if canB k s=true then (if goK k s (gtY r 0)=true then 1+fitN k r else 1) else 0
theorem qcd (k:Int):∀ l,fitN k l<=l.length
 | []=>Nat.le_refl _
 | s::r=>by
  have:=qcd k r;rw[fitN,List.length_cons];split
  ·split <;> omega
  ·omega
def keyT (b:LiT):Int:=((b.2.2.1*4294967296+b.2.2.2)*8+b.1)*1048576-b.2.1
def wB (b:LiT):Int:=b.2.2.1*4294967296+b.2.2.2
def keyL (k:Int) (n:Nat) (l:List SyT):Int:=(((hdC k+eaC k*(n:Int))*4294967296+1+wB (bst (l.drop n)))*8+k)*1048576-(n:Int)
def boL (m:Nat) (b:LiT):Prop:=0<=b.2.2.1/\b.2.2.1<=5*(m:Int)/\0<=b.2.2.2/\b.2.2.2<=(m:Int)
def okB (k:Int) (l:List SyT) (g:LiT):Prop:=
 (fitN k l=0/\g=zLi)\/(g.1=k/\∃ n:Nat,g.2.1=(n:Int)/\1<=n/\n<=fitN k l/\keyT g=keyL k n l/\(∀ m:Nat,1<=m->m<=fitN k l->keyL k n l<=keyL k m l)/\boL l.length g)
abbrev kOK (k:Int):Prop:=1<=k/\k<=4
def okL (l:List SyT) (b:LiT):Prop:=
 (l=[]/\b=zLi)\/(l≠[]/\kOK b.1/\∃ n:Nat,b.2.1=(n:Int)/\1<=n/\n<=fitN b.1 l/\keyT b=keyL b.1 n l/\(∀ k,kOK k->∀ m:Nat,1<=m->m<=fitN k l->keyL b.1 n l<=keyL k m l)/\boL l.length b)
theorem qs3 {a b:LiT} (ha:kOK a.1) (hb:kOK b.1) (a1:1<=a.2.1/\a.2.1<1048576) (b1:1<=b.2.1/\b.2.1<1048576) (a2:0<=a.2.2.2/\a.2.2.2<4294967296) (b2:0<=b.2.2.2/\b.2.2.2<4294967296) :
  (betB a b=true↔keyT a<keyT b):=by
 obtain ⟨k,n,c,o⟩:=a;obtain ⟨k',n',c',o'⟩:=b;simp only[kOK] at *;unfold betB keyT;simp only;rw[if_neg (by omega)];by_cases h1:c=c'
 ·rw[if_neg (by simpa using h1)];by_cases h2:o=o'
  ·rw[if_neg (by simpa using h2)];by_cases h3:k=k'
   ·rw[if_neg (by simpa using h3)];simp only[decide_eq_true_eq];omega
   ·rw[if_pos h3];simp only[decide_eq_true_eq];omega
  ·rw[if_pos h2];simp only[decide_eq_true_eq];omega
 ·rw[if_pos h1];simp only[decide_eq_true_eq];omega
theorem q5k (k:Int):2<=hdC k/\hdC k<=4:=by unfold hdC;split <;> omega
theorem q8y (k:Int):0<=eaC k/\eaC k<=1:=by unfold eaC;split <;> omega
theorem qsf (k:Int) (s:SyT) (r:List SyT):keyL k 1 (s::r)=keyT (oneF k (bst r).2.2):=by
 have e:(s::r).drop 1=r:=rfl;unfold keyL keyT oneF wB;rw[e];simp only[Int.mul_one,Int.natCast_one];omega
theorem qk0 (k:Int) (s:SyT) (r:List SyT) (n:Nat):keyL k (n+1) (s::r)=keyL k n r+eaC k*36028797018963968-1:=by
 have e:(s::r).drop (n+1)=r.drop n:=rfl;unfold keyL;rw[e,Int.natCast_add,Int.natCast_one,Int.mul_add,Int.mul_one];omega
theorem qxh (k:Int) (g:LiT) (hk:g.1=k):keyT (qku k g)=keyT g+eaC k*36028797018963968-1:=by
 unfold keyT qku;simp only[hk];omega
theorem q9c (m:Nat):boL m zLi:=by
 unfold boL zLi;simp only;omega
theorem qz6 {k:Int} (hk:kOK k) {s:SyT} {r:List SyT} (hr:okB k r (beg r k)) (hb:boL r.length (bst r)) (hl:(s::r).length<=65536):okB k (s::r) (beg (s::r) k):=by
 rw[qs4];unfold begF;have hh:=q5k k;have he:=q8y k;have hn:=qcd k r;rw[List.length_cons] at hl;by_cases hc:canB k s=false
 ·rw[if_pos hc];exact .inl ⟨by rw[fitN,if_neg (by rw[hc];decide)],rfl⟩
 ·rw[if_neg hc];have hc:canB k s=true:=by simpa using hc
  have hone:boL (s::r).length (oneF k (bst r).2.2):=by
   unfold boL oneF at *;simp only[List.length_cons];omega
  by_cases hg:(beg r k).2.1=0\/goK k s (gtY r 0)=false
  ·rw[if_pos hg];have hf:fitN k (s::r)=1:=by
    rw[fitN,if_pos hc];split
    ·rename_i h;rcases hg with hg | hg
     ·rcases hr with hr | ⟨_,n,h1,h2,_⟩
      ·rw[hr.1]
      ·omega
     ·rw[hg] at h;cases h
    ·rfl
   refine .inr ⟨rfl,1,rfl,Nat.le_refl _,by omega,(qsf k s r).symm,fun m h1 h2=>?_,hone⟩;have:m=1:=by omega
   rw[this];exact Int.le_refl _
  ·rw[if_neg hg];have hg1:¬ (beg r k).2.1=0:=fun h=>hg (.inl h)
   have hg2:goK k s (gtY r 0)=true:=by
    have:¬ goK k s (gtY r 0)=false:=fun h=>hg (.inr h)
    simpa using this
   rcases hr with hr | ⟨e1,n,h1,h2,h3,h4,h5,h6⟩
   ·rw[hr.2] at hg1;exact absurd rfl hg1
   have hf:fitN k (s::r)=1+fitN k r:=by rw[fitN,if_pos hc,if_pos hg2]
   have hm:keyT (qku k (beg r k))=keyL k (n+1) (s::r):=by rw[qxh k _ e1,qk0,h4]
   have hmb:boL (s::r).length (qku k (beg r k)):=by
    unfold boL qku at *;simp only[List.length_cons];omega
   have ho:=qsf k s r;have hmo:∀ m:Nat,1<=m->m<=fitN k (s::r)->m=1\/keyL k (n+1) (s::r)<=keyL k m (s::r):=fun m m1 m2=>by
    rcases Nat.lt_or_ge 1 m with h | h
    ·obtain ⟨q,hq⟩:∃ q,m=q+1:=⟨m-1,by omega⟩;subst hq;have:=h5 q (by omega) (by omega);rw[qk0,qk0];exact .inr (by omega)
    ·exact .inl (by omega)
   have hkey:=qs3 (a:=oneF k (bst r).2.2) (b:=qku k (beg r k)) hk hk (show 1<=(1:Int)/\(1:Int)<1048576 by omega) (show 1<=(beg r k).2.1+1/\(beg r k).2.1+1<1048576 by omega) (show 0<=(bst r).2.2.2+1/\(bst r).2.2.2+1<4294967296 by unfold boL at hb;omega) (show 0<=(beg r k).2.2.2/\(beg r k).2.2.2<4294967296 by unfold boL at h6;omega);split
   ·rename_i hbt;have hlt:=hkey.1 hbt;rw[<- ho,hm] at hlt;refine .inr ⟨rfl,1,rfl,Nat.le_refl _,by omega,ho.symm,fun m m1 m2=>?_,hone⟩;rcases hmo m m1 m2 with h | h
    ·rw[h];exact Int.le_refl _
    ·omega
   ·rename_i hbt;have hlt:¬ keyT (oneF k (bst r).2.2)<keyT (qku k (beg r k)):=fun h=>hbt (hkey.2 h)
    rw[<- ho,hm] at hlt;refine .inr ⟨rfl,n+1,by rw[Int.natCast_add,<- h1];rfl,by omega,by omega,hm,fun m m1 m2=>?_,hmb⟩;rcases hmo m m1 m2 with h | h
    ·rw[h];omega
    ·omega
def okU (m:Int) (l:List SyT) (b:LiT):Prop:=
 (b=zLi/\∀ k,1<=k->k<=m->fitN k l=0)\/(kOK b.1/\b.1<=m/\∃ n:Nat,b.2.1=(n:Int)/\1<=n/\n<=fitN b.1 l/\keyT b=keyL b.1 n l/\(∀ k,1<=k->k<=m->∀ q:Nat,1<=q->q<=fitN k l->keyL b.1 n l<=keyL k q l)/\boL l.length b)
theorem qjt {m:Int} {l:List SyT} {b g:LiT} (hm:0<=m/\m<4) (hl:l.length<=65536) (hb:okU m l b) (hg:okB (m+1) l g):okU (m+1) l (upd b g):=by
 have fle:=fun k=>qcd k l
 unfold upd;rcases hg with ⟨h1,h2⟩ | ⟨e1,n,h1,h2,h3,h4,h5,h6⟩
 ·have hx:betB g b=false:=by
   subst h2;unfold betB zLi;simp
  rw[hx,if_neg (by decide)];rcases hb with ⟨q1,q2⟩ | ⟨q1,q2,q,q3,q4,q5,q6,q7,q8⟩
  ·refine .inl ⟨q1,fun k k1 k2=>?_⟩;rcases Int.lt_or_le k (m+1) with h | h
   ·exact q2 k k1 (by omega)
   ·have:k=m+1:=by omega
    rw[this];exact h1
  ·refine .inr ⟨q1,by omega,q,q3,q4,q5,q6,fun k k1 k2 p p1 p2=>?_,q8⟩;rcases Int.lt_or_le k (m+1) with h | h
   ·exact q7 k k1 (by omega) p p1 p2
   ·have:k=m+1:=by omega
    rw[this,h1] at p2;omega
 ·have gk:kOK g.1:=by rw[e1];unfold kOK;omega
  have f1:=fle (m+1);rcases hb with ⟨q1,q2⟩ | ⟨q1,q2,q,q3,q4,q5,q6,q7,q8⟩
  ·have hx:betB g b=true:=by
    subst q1;unfold betB zLi;rw[if_pos (.inr rfl)];simp;omega
   rw[hx,if_pos rfl];refine .inr ⟨gk,by omega,n,h1,h2,by rw[e1];exact h3,by rw[e1];exact h4,fun k k1 k2 p p1 p2=>?_,h6⟩;rcases Int.lt_or_le k (m+1) with h | h
   ·rw[q2 k k1 (by omega)] at p2;omega
   ·have hk:k=m+1:=by omega
    subst hk;rw[e1];exact h5 p p1 p2
  ·have f2:=fle b.1;have hkey:=qs3 (a:=g) (b:=b) gk q1 (by omega) (by omega) (by unfold boL at h6;omega) (by unfold boL at q8;omega);have e2:keyL g.1 n l=keyL (m+1) n l:=by rw[e1]
   split
   ·rename_i hx;have hlt:=hkey.1 hx;refine .inr ⟨gk,by omega,n,h1,h2,by rw[e1];exact h3,by rw[e1];exact h4,fun k k1 k2 p p1 p2=>?_,h6⟩;rcases Int.lt_or_le k (m+1) with h | h
    ·have:=q7 k k1 (by omega) p p1 p2;omega
    ·have hk:k=m+1:=by omega
     subst hk;rw[e2];exact h5 p p1 p2
   ·rename_i hx;have hlt:¬ keyT g<keyT b:=fun h=>hx (hkey.2 h)
    refine .inr ⟨q1,by omega,q,q3,q4,q5,q6,fun k k1 k2 p p1 p2=>?_,q8⟩;rcases Int.lt_or_le k (m+1) with h | h
    ·exact q7 k k1 (by omega) p p1 p2
    ·have hk:k=m+1:=by omega
     subst hk;have:=h5 p p1 p2;omega
theorem qso (s:SyT) (r:List SyT):(1:Nat)<=fitN 2 (s::r)\/(1:Nat)<=fitN 4 (s::r):=by
 cases h:s.1
 ·right;rw[fitN,if_pos (by simp[canB,h])];split <;> omega
 ·left;rw[fitN,if_pos (by simp[canB,h])];split <;> omega
theorem qsc:∀ l:List SyT,l.length<=65536->(∀ k,kOK k->okB k l (beg l k))/\okL l (bst l)
 | [],_=>⟨fun k _=>.inl ⟨rfl,rfl⟩,.inl ⟨rfl,rfl⟩⟩
 | s::r,hl=>by
  have hr:=qsc r (by rw[List.length_cons] at hl;omega);have hb:boL r.length (bst r):=by
   rcases hr.2 with h | ⟨_,_,n,_,_,_,_,_,h⟩
   ·rw[h.2];exact q9c _
   ·exact h
  have hg:∀ k,kOK k->okB k (s::r) (beg (s::r) k):=fun k hk=>qz6 hk (hr.1 k hk) hb hl
  refine ⟨hg,?_⟩;have h0:okU 0 (s::r) zLi:=.inl ⟨rfl,fun k k1 k2=>by omega⟩;have h1:=qjt (m:=0) (by omega) hl h0 (hg 1 (by unfold kOK;omega));have h2:=qjt (m:=1) (by omega) hl h1 (hg 2 (by unfold kOK;omega));have h3:=qjt (m:=2) (by omega) hl h2 (hg 3 (by unfold kOK;omega));have h4:=qjt (m:=3) (by omega) hl h3 (hg 4 (by unfold kOK;omega));rw[q1b];rcases h4 with ⟨q1,q2⟩ | ⟨q1,q2,q,q3,q4,q5,q6,q7,q8⟩
  ·exfalso;have a:=q2 2 (by omega) (by omega);have b:=q2 4 (by omega) (by omega);rcases qso s r with h | h <;> omega
  ·exact .inr ⟨by simp,q1,q,q3,q4,q5,q6,fun k hk p p1 p2=>q7 k hk.1 hk.2 p p1 p2,q8⟩
theorem qmm (l:List SyT) (hl:l.length<=65536):boL l.length (bst l):=by
 rcases (qsc l hl).2 with h | ⟨_,_,n,_,_,_,_,_,h⟩
 ·rw[h.2];exact q9c _
 ·exact h
end Go.Proofs.YticpkibnhakgbaaDoor
namespace Go.Proofs.YticpkibnhakgbaaDoor
open Go.Px Go.Ax
set_option maxRecDepth 100000
abbrev suS:Sh:=.pair iI iI
abbrev liS:Sh:=.pair iI (.pair iI suS)
set_option maxRecDepth 100000
theorem qyz (a:Int) (Q:QT) (R:RT):sy tt G0 [] Tryd.f71.ntmps Tryd.f71.results.toList Q R 1000 [.code (qae Tryd.f71)] (entry [iI] (a,())) =
  (Q [.bool (decide (a≠a))] []):=by kernel_rfl
theorem q3u (k:Int) (s:SyT) (Q:QT) (R:RT):sy tt G0 [] Tryd.f67.ntmps Tryd.f67.results.toList Q R 1000 [.code (qae Tryd.f67)] (entry [iI,syS] (k,s,())) =
  (bc (decide (k=(1:Int))) (bc s.1 (Q [.bool (decide (s.2.2=(0:Int)))] [(3,.var [.bool s.1,.int .i64 s.2.1,.int .u8 s.2.2])]) (false=false /\
 Q [.bool false] [(3,.var [.bool s.1,.int .i64 s.2.1,.int .u8 s.2.2])])) (bc (decide (k=(2:Int))) (Q [.bool s.1] [(3,.var [.bool s.1,.int .i64 s.2.1,.int .u8 s.2.2])]) (Q [.bool !s.1] [(3,.var [.bool s.1,.int .i64 s.2.1,.int .u8 s.2.2])]))):=by kernel_rfl
def qcp (s t:SyT):List (Nat × LB):=[(4,.var [.bool s.1,.int .i64 s.2.1,.int .u8 s.2.2]),(5,.var [.bool t.1,.int .i64 t.2.1,.int .u8 t.2.2])]
theorem q3r (k:Int) (s t:SyT) (Q:QT) (R:RT):sy tt G0 [] Tryd.f68.ntmps Tryd.f68.results.toList Q R 1000 [.code (qae Tryd.f68)] (entry [iI,syS,syS] (k,s,t,())) =
  (bc (decide (k=(1:Int))) (bc (decide (k=(1:Int))) (Q [.bool (decide (t.2.1=IntKind.i64.wrap (s.2.1+1)))] (qcp s t)) (bc (decide (k=(3:Int))) (Q [.bool (decide (t.2.2=s.2.2))] (qcp s t)) (Q [.bool true] (qcp s t)))) (bc (decide (k=(2:Int))) (Q [.bool (decide (t.2.1=IntKind.i64.wrap (s.2.1+1)))] (qcp s t)) (bc (decide (k=(3:Int))) (Q [.bool (decide (t.2.2=s.2.2))] (qcp s t)) (Q [.bool true] (qcp s t))))):=by kernel_rfl
theorem vc_or (x:List Int) (Q:QT) (R:RT):sy tt G0 [] Tryd.f69.ntmps Tryd.f69.results.toList Q R 1000 [.code (qae Tryd.f69)] (entry [.sl iI] (x,())) =
  (R (hd Tryd.f69 0) { env:=[(0,.sl iI x),(2,.int .i64 0),(3,.int .i64 0),(6,.sl iI x),(7,.int .i64 (x.length:Int)),(8,.int .i64 0)],blk:=[] }):=by kernel_rfl
theorem q14 (x:List Int) (i:Nat) (Q:QT) (R:RT):sy tt G0 [] Tryd.f69.ntmps Tryd.f69.results.toList Q R 1000 (hd Tryd.f69 0) ⟨[(3,.int .i64 0),(6,.sl iI x),(7,.int .i64 x.length),(8,.int .i64 (i:Nat))],[]⟩ =
  (bc (decide ((i:Int)<(x.length:Int))) ((0:Int)<=(i:Int) /\
 (i:Int)<(x.length:Int) /\
 bc (decide (gt iI x (i:Int).toNat≠0)) (Q [.int .i64 (gt iI x (i:Int).toNat)] []) (R (hd Tryd.f69 0) { env:=[(3,.int .i64 0),(5,.int .i64 (gt iI x (i:Int).toNat)),(6,.sl iI x),(7,.int .i64 (x.length:Int)),(8,.int .i64 (IntKind.i64.wrap ((i:Int)+1))),(9,.bool (decide ((i:Int)<(x.length:Int)))),(10,.elv iI (gt iI x (i:Int).toNat)),(11,.int .i64 (gt iI x (i:Int).toNat)),(12,.int .i64 (gt iI x (i:Int).toNat)),(13,.int .i64 0),(14,.bool (decide (gt iI x (i:Int).toNat≠0))),(16,.int .i64 (IntKind.i64.wrap ((i:Int)+1)))],blk:=[] })) (Q [.int .i64 0] [])):=by kernel_rfl
end Go.Proofs.YticpkibnhakgbaaDoor
namespace Go.Proofs.YticpkibnhakgbaaDoor
open Go.Px Go.Ax
set_option maxRecDepth 100000
attribute [local irreducible] Go.Px.sy Go.Px.syE
def ctNan:Ctr:=⟨[iI],fun _=>True,fun _=>[.bool false],fun _=>[]⟩
theorem q0a:Held Tryd.prog G0 71 ctNan:=Held.run cx0 (fn:=Tryd.f71) rfl rfl ⟨by decide,by decide⟩ fun x _=>by
 refine (qyz x.1 _ _).mpr ?_;rw[decide_eq_false (by simp)];exact QC.flat rfl rfl rfl
def CNan:CV:=[(71,.inl ctNan)]
theorem cxNan:CxOK Tryd.prog tt G0 CNan:=cx0.cons q0a (fn:=Tryd.f71) rfl rfl rfl
def ctCan:Ctr:=⟨[iI,syS],fun _=>True,fun x=>[.bool (canB x.1 x.2.1)],fun _=>[]⟩
theorem q6a (k:Int) (o:Bool) (a b:Int) (R:List Item->PS->Prop):sy tt G0 [] Tryd.f67.ntmps Tryd.f67.results.toList (QC ctCan (k,(o,a,b),())) R 1000 [.code (qae Tryd.f67)] (entry [iI,syS] (k,(o,a,b),())):=by
 refine (q3u k (o,a,b) _ _).mpr ?_;refine qaf (fun h=>?_) (fun h=>qaf (fun h2=>?_) (fun h2=>?_))
 ·have h:=of_decide_eq_true h;subst h;refine qaf (fun h=>?_) (fun h=>⟨rfl,?_⟩)
  ·have h:o=true:=h;subst h;exact QC.flat rfl rfl rfl
  ·have h:o=false:=h;subst h;exact QC.flat rfl rfl rfl
 ·have h2:=of_decide_eq_true h2;subst h2;exact QC.flat rfl rfl rfl
 ·have h:=of_decide_eq_false h;have h2:=of_decide_eq_false h2;refine QC.flat ?_ rfl rfl
  show [SV.bool (canB k (o,a,b))]=_
  unfold canB;rw[if_neg h,if_neg h2]
theorem q1a:Held Tryd.prog G0 67 ctCan:=Held.run cx0 (fn:=Tryd.f67) rfl rfl ⟨by decide,by decide⟩ fun ⟨k,⟨o,a,b⟩,_⟩ _=>q6a k o a b _
def ctGoe:Ctr:=⟨[iI,syS,syS],fun _=>True,fun x=>[.bool (goK x.1 x.2.1 x.2.2.1)],fun _=>[]⟩
theorem q5o (k:Int) (s t:SyT) (R:List Item->PS->Prop):sy tt G0 [] Tryd.f68.ntmps Tryd.f68.results.toList (QC ctGoe (k,s,t,())) R 1000 [.code (qae Tryd.f68)] (entry [iI,syS,syS] (k,s,t,())):=by
 refine (q3r k s t _ _).mpr ?_;have out:∀ b,goK k s t=b->ctGoe.out (k,s,t,())=[SV.bool b]:=fun b e=>congrArg (fun b=>[SV.bool b]) e
 refine qaf (fun h=>?_) (fun h=>qaf (fun h2=>?_) (fun h2=>qaf (fun h3=>?_) (fun h3=>?_)))
 ·have h:=of_decide_eq_true h;subst h;exact QC.flat (out _ rfl) rfl rfl
 ·have h2:=of_decide_eq_true h2;subst h2;exact QC.flat (out _ rfl) rfl rfl
 ·have h3:=of_decide_eq_true h3;subst h3;exact QC.flat (out _ rfl) rfl rfl
 ·have h:=of_decide_eq_false h;have h2:=of_decide_eq_false h2;have h3:=of_decide_eq_false h3;exact QC.flat (out _ (by unfold goK;rw[if_neg (by omega),if_neg h3])) rfl rfl
theorem q0r:Held Tryd.prog G0 68 ctGoe:=Held.run cx0 (fn:=Tryd.f68) rfl rfl ⟨by decide,by decide⟩ fun ⟨k,s,t,_⟩ _=>q5o k s t _
def orF:List Int->Int
 | []=>0
 | a::l=>if a≠0 then a else orF l
def ctOr:Ctr:=⟨[.sl iI],fun x=>List.length x.1<1000000,fun x=>[.int .i64 (orF x.1)],fun _=>[]⟩
theorem q4t (x:List Int) (hl:x.length<1000000):∀ (c i:Nat),x.length-i=c->i<=x.length ->
  GD 69 Tryd.f69 (fun rs _=>rs=[.int .i64 (orF (x.drop i))]) (hd Tryd.f69 0) ⟨[(3,.int .i64 0),(6,.sl iI x),(7,.int .i64 x.length),(8,.int .i64 (i:Nat))],[]⟩:=by
 intro c
 induction c with
 | zero=>
  intro i hc hi;refine q34 cx0 (q14 x i _ _) ?_;rw[decide_eq_false (by omega),bc_f,List.drop_eq_nil_of_le (by omega)];rfl
 | succ c ih=>
  intro i hc hi;have hil:i<x.length:=by omega
  have nx:=ih (i+1) (by omega) (by omega);have e:gt iI x i=x[i]:=gtE (e:=iI) hil;refine q34 cx0 (q14 x i _ _) ?_;rw[decide_eq_true (show (i:Int)<(x.length:Int) by omega),bc_t,Int.toNat_natCast,IntWalk.i64_in ((i:Int)+1) (by omega),e];rw[List.drop_eq_getElem_cons hil];refine ⟨by omega,by omega,qaf (fun h=>?_) (fun h=>?_)⟩
  ·have h:x[i]≠0:=of_decide_eq_true h
   show _=_
   rw[orF,if_pos h]
  ·have h:¬ x[i]≠0:=of_decide_eq_false h;rw[orF,if_neg h];exact nx.only ⟨rfl,rfl,rfl,rfl,trivial⟩ trivial
theorem q4u:Held Tryd.prog G0 69 ctOr:=
 Held.of cx0 (fn:=Tryd.f69) rfl rfl ⟨by decide,by decide⟩ fun ⟨x,_⟩ hp=>
  q34 cx0 (vc_or x _ _) (((q4t x hp _ 0 rfl (by omega)).post fun rs blk hq=>QC.flat (by rw[hq];rfl) rfl (by rw[hq];rfl)).only ⟨rfl,rfl,rfl,rfl,trivial⟩ trivial)
end Go.Proofs.YticpkibnhakgbaaDoor
namespace Go.Proofs.YticpkibnhakgbaaDoor
open Go.Px Go.Ax
set_option maxRecDepth 100000
def cmF (a b:Int):Int:=if a<b then -1 else if b<a then 1 else 0
def ctCmp:Ctr:=⟨[iI,iI],fun _=>True,fun x=>[.int .i64 (cmF x.1 x.2.1)],fun _=>[]⟩
set_option maxRecDepth 100000
theorem q7i (a b:Int) (Q:QT) (R:RT):sy tt G0 CNan Tryd.f70.ntmps Tryd.f70.results.toList Q R 1000 [.code (qae Tryd.f70)] (entry [iI,iI] (a,b,())) =
  (ctNan.pre (a,()) /\
 ctNan.pre (b,()) /\
 bc (decide (a<b)) (Q [.int .i64 (-1:Int)] []) (bc (decide (b<a)) (Q [.int .i64 1] []) (Q [.int .i64 0] []))):=by kernel_rfl
def qc8 (a b:LiT):List (Nat × LB):=[(2,.var [.int .i64 a.1,.int .i64 a.2.1,.int .i64 a.2.2.1,.int .i64 a.2.2.2]),(3,.var [.int .i64 b.1,.int .i64 b.2.1,.int .i64 b.2.2.1,.int .i64 b.2.2.2])]
theorem q7f (a b:LiT) (Q:QT) (R:RT):sy tt G0 [(70,.inl ctCmp),(69,.inl ctOr)] Tryd.f65.ntmps Tryd.f65.results.toList Q R 1000 [.code (qae Tryd.f65)] (entry [liS,liS] (a,b,())) =
  (bc (decide (a.2.1=(0:Int))) (true=true /\
 bc (decide ((0:Int)<a.2.1)) (Q [.bool (decide (b.2.1=(0:Int)))] (qc8 a b)) (false=false /\
 Q [.bool false] (qc8 a b))) (bc (bif false then true else decide (b.2.1=(0:Int))) (bc (decide ((0:Int)<a.2.1)) (Q [.bool (decide (b.2.1=(0:Int)))] (qc8 a b)) (false=false /\
 Q [.bool false] (qc8 a b))) (bc (!decide ([a.2.2.1,a.2.2.2]=[b.2.2.1,b.2.2.2])) (ctCmp.pre (a.2.2.1,b.2.2.1,()) /\
 ctCmp.pre (a.2.2.2,b.2.2.2,()) /\
 0+2<=(((List.replicate (2:Nat) iI.dflt).set (0:Nat) (cmF a.2.2.1 b.2.2.1)).set (1:Nat) (cmF a.2.2.2 b.2.2.2)).length /\
 ctOr.pre (winL iI 0 2 (((List.replicate (2:Nat) iI.dflt).set (0:Nat) (cmF a.2.2.1 b.2.2.1)).set (1:Nat) (cmF a.2.2.2 b.2.2.2)),()) /\
 Q [.bool (decide (orF (winL iI 0 2 (((List.replicate (2:Nat) iI.dflt).set (0:Nat) (cmF a.2.2.1 b.2.2.1)).set (1:Nat) (cmF a.2.2.2 b.2.2.2)))<0))] [(2,.var [.int .i64 a.1,.int .i64 a.2.1,.int .i64 a.2.2.1,.int .i64 a.2.2.2]),(3,.var [.int .i64 b.1,.int .i64 b.2.1,.int .i64 b.2.2.1,.int .i64 b.2.2.2]),(42,.row 3 iI (((List.replicate (2:Nat) iI.dflt).set (0:Nat) (cmF a.2.2.1 b.2.2.1)).set (1:Nat) (cmF a.2.2.2 b.2.2.2)))]) (bc (decide (a.1≠b.1)) (Q [.bool (decide (a.1<b.1))] (qc8 a b)) (Q [.bool (decide (b.2.1<a.2.1))] (qc8 a b)))))):=by kernel_rfl
end Go.Proofs.YticpkibnhakgbaaDoor
namespace Go.Proofs.YticpkibnhakgbaaDoor
open Go.Px Go.Ax
set_option maxRecDepth 100000
attribute [local irreducible] Go.Px.sy Go.Px.syE
theorem q52 (a b:Int) (R:List Item->PS->Prop):sy tt G0 CNan Tryd.f70.ntmps Tryd.f70.results.toList (QC ctCmp (a,b,())) R 1000 [.code (qae Tryd.f70)] (entry [iI,iI] (a,b,())):=by
 refine (q7i a b _ _).mpr ⟨trivial,trivial,?_⟩;have out:∀ n,cmF a b=n->ctCmp.out (a,b,())=[SV.int .i64 n]:=fun b e=>congrArg (fun b=>[SV.int .i64 b]) e
 refine qaf (fun h=>?_) (fun h=>qaf (fun h2=>?_) (fun h2=>?_))
 ·exact QC.flat (out _ (by unfold cmF;rw[if_pos (of_decide_eq_true h)])) rfl rfl
 ·exact QC.flat (out _ (by unfold cmF;rw[if_neg (of_decide_eq_false h),if_pos (of_decide_eq_true h2)])) rfl rfl
 ·exact QC.flat (out _ (by unfold cmF;rw[if_neg (of_decide_eq_false h),if_neg (of_decide_eq_false h2)])) rfl rfl
theorem q01:Held Tryd.prog G0 70 ctCmp:=Held.run cxNan (fn:=Tryd.f70) rfl rfl ⟨by decide,by decide⟩ fun ⟨a,b,_⟩ _=>q52 a b _
def ctBet:Ctr:=⟨[liS,liS],fun _=>True,fun x=>[.bool (betB x.1 x.2.1)],fun _=>[]⟩
theorem q80:CxOK Tryd.prog tt G0 [(70,.inl ctCmp),(69,.inl ctOr)]:=(cx0.cons q4u (fn:=Tryd.f69) rfl rfl rfl).cons q01 (fn:=Tryd.f70) rfl rfl rfl
theorem q5h (k n c o k' n' c' o':Int) (R:List Item->PS->Prop):sy tt G0 [(70,.inl ctCmp),(69,.inl ctOr)] Tryd.f65.ntmps Tryd.f65.results.toList (QC ctBet ((k,n,c,o),(k',n',c',o'),())) R 1000 [.code (qae Tryd.f65)] (entry [liS,liS] ((k,n,c,o),(k',n',c',o'),())):=by
 refine (q7f (k,n,c,o) (k',n',c',o') _ _).mpr ?_;have out:∀ b,betB (k,n,c,o) (k',n',c',o')=b->ctBet.out ((k,n,c,o),(k',n',c',o'),())=[SV.bool b]:=fun b e=>congrArg (fun b=>[SV.bool b]) e
 refine qaf (fun h=>⟨rfl,?_⟩) (fun h=>qaf (fun h2=>?_) (fun h2=>?_))
 ·have h:n=0:=of_decide_eq_true h;refine qaf (fun h2=>?_) (fun h2=>⟨rfl,?_⟩)
  ·have h2:0<n:=of_decide_eq_true h2;exact QC.flat (out _ (by unfold betB;rw[if_pos (.inl h)];simp[h2])) rfl rfl
  ·have h2:¬ 0<n:=of_decide_eq_false h2;exact QC.flat (out _ (by unfold betB;rw[if_pos (.inl h)];simp[h2])) rfl rfl
 ·have h2:decide (n'=0)=true:=h2;have h2:n'=0:=of_decide_eq_true h2;refine qaf (fun h3=>?_) (fun h3=>⟨rfl,?_⟩)
  ·have h3:0<n:=of_decide_eq_true h3;exact QC.flat (out _ (by unfold betB;rw[if_pos (.inr h2)];simp[h3])) rfl rfl
  ·have h3:¬ 0<n:=of_decide_eq_false h3;exact QC.flat (out _ (by unfold betB;rw[if_pos (.inr h2)];simp[h3])) rfl rfl
 ·have h:¬ n=0:=of_decide_eq_false h;have h2:decide (n'=0)=false:=h2;have h2:¬ n'=0:=of_decide_eq_false h2;have hz:¬ (n=0\/n'=0):=by omega
  refine qaf (fun h3=>⟨trivial,trivial,Nat.le_refl 2,(show (2:Nat)<1000000 by decide),?_⟩) (fun h3=>qaf (fun h4=>?_) (fun h4=>?_))
  ·have h3:¬ (c=c'/\o=o'):=by
    intro e;rw[e.1,e.2] at h3;simp at h3
   have ev:orF (winL iI 0 2 (((List.replicate 2 iI.dflt).set 0 (cmF c c')).set 1 (cmF o o')))=orF [cmF c c',cmF o o']:=rfl;refine QC.flat (out _ ?_) rfl rfl
   show betB (k,n,c,o) (k',n',c',o')=decide (orF (winL iI 0 2 (((List.replicate 2 iI.dflt).set 0 (cmF c c')).set 1 (cmF o o')))<0)
   rw[ev];unfold betB;simp only[if_neg hz];by_cases hc:c=c'
   ·have ho:o≠o':=fun e=>h3 ⟨hc,e⟩
    rw[if_neg (by simpa using hc),if_pos ho];refine decide_eq_decide.2 ?_;have e1:cmF c c'=0:=by unfold cmF;rw[if_neg (by omega),if_neg (by omega)]
    rw[orF,if_neg (by simpa using e1)];unfold cmF;simp only[orF];split
    ·simp;omega
    ·split
     ·simp;omega
     ·omega
   ·rw[if_pos hc];refine decide_eq_decide.2 ?_;unfold cmF;simp only[orF];split
    ·simp;omega
    ·split
     ·simp;omega
     ·omega
  ·have h3:c=c'/\o=o':=by simpa using h3
   have h4:k≠k':=of_decide_eq_true h4;exact QC.flat (out _ (by unfold betB;simp only[if_neg hz];rw[if_neg (by simpa using h3.1),if_neg (by simpa using h3.2),if_pos h4])) rfl rfl
  ·have h3:c=c'/\o=o':=by simpa using h3
   have h4:¬ k≠k':=of_decide_eq_false h4;exact QC.flat (out _ (by unfold betB;simp only[if_neg hz];rw[if_neg (by simpa using h3.1),if_neg (by simpa using h3.2),if_neg h4])) rfl rfl
theorem qsi:Held Tryd.prog G0 65 ctBet:=Held.run q80 (fn:=Tryd.f65) rfl rfl ⟨by decide,by decide⟩ fun ⟨⟨k,n,c,o⟩,⟨k',n',c',o'⟩,_⟩ _=>q5h k n c o k' n' c' o' _
end Go.Proofs.YticpkibnhakgbaaDoor
namespace Go.Proofs.YticpkibnhakgbaaDoor
open Go.Px Go.Ax
def mdK (k:Int) (l:List SyT):OpT:=(k,(gtY l 0).2.1,(l.length:Int),if k=3 then (gtY l 0).2.2 else 0,if k=2\/k=4 then l.map fun s=>s.2.2 else [])
def isK (k:Int) (l:List SyT) (n:Nat):Prop:=∀ j,j<n->canB k (gtY l j)=true/\(k=1\/k=2->(gtY l j).2.1=(gtY l 0).2.1+j)/\(k=3->(gtY l j).2.2=(gtY l 0).2.2)
theorem qdr {k:Int} {s:SyT} (hk:k=1\/k=2) (h:canB k s=true):s.1=true:=by
 unfold canB at h;rcases hk with e | e
 ·subst e;rw[if_pos rfl] at h;simp at h;exact h.1
 ·subst e;rw[if_neg (by decide),if_pos rfl] at h;exact h
theorem q0p (s:SyT) (r:List SyT) (j:Nat):gtY (s::r) (j+1)=gtY r j:=by
 simp[gt]
theorem qt7 (s:SyT) (r:List SyT):gtY (s::r) 0=s:=by
 simp[gt]
section
variable {m:Int} (hm:m<16777216)
include hm
theorem qsp {k:Int}:∀ {l:List SyT},(∀ s∈l,sOK m s=true)->isK k l (fitN k l)
 | [],_=>fun j h=>by rw[fitN] at h;omega
 | s::r,hr=>by
  have ih:=qsp (k:=k) (l:=r) fun x hx=>hr x (by simp[hx])
  have hs:=hr s (by simp);intro j hj;rw[fitN] at hj;by_cases hc:canB k s=true
  ·rw[if_pos hc] at hj;rcases j with _ | j
   ·rw[qt7];exact ⟨hc,fun _=>by simp,fun _=>rfl⟩
   ·rw[q0p,qt7];by_cases hg:goK k s (gtY r 0)=true
    ·rw[if_pos hg] at hj;obtain ⟨h1,h2,h3⟩:=ih j (by omega);refine ⟨h1,fun hk=>?_,fun hk=>?_⟩
     ·have b:=qp1 hs (qdr hk hc);unfold goK at hg;rw[if_pos hk,decide_eq_true_eq,IntWalk.i64_in _ (by omega)] at hg;rw[h2 hk,hg];omega
     ·unfold goK at hg;rw[if_neg (by omega),if_pos hk,decide_eq_true_eq] at hg;rw[h3 hk,hg]
    ·rw[if_neg hg] at hj;omega
  ·rw[if_neg hc] at hj;omega
theorem q2p {k:Int}:∀ {l:List SyT} {n:Nat},(∀ s∈l,sOK m s=true)->n<=l.length->isK k l n->n<=fitN k l
 | [],n,_,h,_=>by rw[List.length_nil] at h;omega
 | s::r,0,_,_,_=>Nat.zero_le _
 | s::r,n+1,hr,hn,hi=>by
  have hs:=hr s (by simp);have h0:=hi 0 (by omega);rw[qt7] at h0;rw[List.length_cons] at hn;rw[fitN,if_pos h0.1];rcases n with _ | n
  ·split <;> omega
  ·have h1:=hi 1 (by omega);rw[q0p s r 0,qt7] at h1;have hg:goK k s (gtY r 0)=true:=by
    unfold goK;split
    ·rename_i hk;have b:=qp1 hs (qdr hk h0.1);rw[decide_eq_true_eq,IntWalk.i64_in _ (by omega)];have:=h1.2.1 hk;omega
    ·split
     ·rename_i hk;rw[decide_eq_true_eq];exact h1.2.2 hk
     ·rfl
   rw[if_pos hg];have:=q2p (k:=k) (l:=r) (n:=n+1) (fun x hx=>hr x (by simp[hx])) (by omega) fun j hj=>by
    have hq:=hi (j+1) (by omega);rw[q0p,qt7] at hq;refine ⟨hq.1,fun hk=>?_,fun hk=>?_⟩
    ·have:=hq.2.1 hk;have:=h1.2.1 hk;omega
    ·have:=hq.2.2 hk;have:=h1.2.2 hk;omega
   omega
theorem q5c {k:Int} {l:List SyT} (hk:kOK k) (hr:∀ s∈l,sOK m s=true) (hi:isK k l l.length):qaw k.toNat (mdK k l)=l:=by
 have key:∀ (el:Nat->SyT),(∀ j,j<l.length->el j=gtY l j)->gen el l.length 0=l:=fun el h=>by
  refine List.ext_getElem? fun j=>?_
  by_cases hj:j<l.length
  ·rw[qqu _ _ _ _ (by omega),Nat.zero_add,h j hj,List.getElem?_eq_getElem (by omega),<- qbi (by omega)]
  ·rw[List.getElem?_eq_none (by rw[qk1];omega),List.getElem?_eq_none (by omega)]
 have dat:∀ j,j<l.length->gtB (l.map fun s=>s.2.2) j=(gtY l j).2.2:=fun j hj=>by
  rw[qxp (by rw[List.length_map];omega),List.getElem_map,<- qbi (by omega)]
 have ext3:∀ (s:SyT) (x:Bool) (y z:Int),s.1=x->s.2.1=y->s.2.2=z->(x,y,z)=s:=fun s x y z h1 h2 h3=>by subst h1;subst h2;subst h3;rfl
 have ok:∀ j,j<l.length->sOK m (gtY l j)=true:=fun j hj=>by rw[qbi hj];exact hr _ (List.getElem_mem hj)
 have at':k=1\/k=2->∀ j,j<l.length->(gtY l j).1=true/\IntKind.i64.wrap ((gtY l 0).2.1+(j:Int))=(gtY l j).2.1:=fun hk j hj=>by
  have h:=hi j hj;have o:=qdr hk h.1;have b:=qp1 (ok j hj) o;have e:=h.2.1 hk;have h0:=hi 0 (by omega);have b0:=qp1 (ok 0 (by omega)) (qdr hk h0.1);exact ⟨o,by rw[IntWalk.i64_in _ (by omega),e]⟩
 have lit:¬ (k=1\/k=2)->∀ j,j<l.length->(gtY l j).1=false/\(gtY l j).2.1=0:=fun hk j hj=>by
  have h:=(hi j hj).1;unfold canB at h;rw[if_neg (by omega),if_neg (by omega)] at h;have o:(gtY l j).1=false:=by simpa using h
  exact ⟨o,q4d (ok j hj) o⟩
 rcases (show k=1\/k=2\/k=3\/k=4 by unfold kOK at hk;omega) with e | e | e | e
 ·subst e;have c:cntO 1 (mdK 1 l)=l.length:=by show ((l.length:Int)).toNat=_;omega
  show gen _ (cntO 1 _) 0=_
  rw[c];refine key _ fun j hj=>?_
  obtain ⟨o,w⟩:=at' (.inl rfl) j hj;have h:=(hi j hj).1;unfold canB at h;rw[if_pos rfl] at h;simp at h;exact ext3 _ _ _ _ o w.symm h.2
 ·subst e;have c:cntO 2 (mdK 2 l)=l.length:=by show (l.map fun s=>s.2.2).length=_;rw[List.length_map]
  show gen _ (cntO 2 _) 0=_
  rw[c];refine key _ fun j hj=>?_
  obtain ⟨o,w⟩:=at' (.inr rfl) j hj;exact ext3 _ _ _ _ o w.symm (dat j hj).symm
 ·subst e;have c:cntO 3 (mdK 3 l)=l.length:=by show ((l.length:Int)).toNat=_;omega
  show gen _ (cntO 3 _) 0=_
  rw[c];refine key _ fun j hj=>?_
  obtain ⟨o,w⟩:=lit (by decide) j hj;exact ext3 _ _ _ _ o w ((hi j hj).2.2 rfl)
 ·subst e;have c:cntO 4 (mdK 4 l)=l.length:=by show (l.map fun s=>s.2.2).length=_;rw[List.length_map]
  show gen _ (cntO 4 _) 0=_
  rw[c];refine key _ fun j hj=>?_
  obtain ⟨o,w⟩:=lit (by decide) j hj;exact ext3 _ _ _ _ o w (dat j hj).symm
theorem qw5 {k:Int} {l:List SyT} (hk:kOK k) (hr:∀ s∈l,sOK m s=true) (hi:isK k l l.length) (h1:1<=l.length) (hl:l.length<=65536):isRB (mdK k l) m=true:=by
 have ok:∀ j,j<l.length->sOK m (gtY l j)=true:=fun j hj=>by rw[qbi hj];exact hr _ (List.getElem_mem hj)
 have part:k=1\/k=2->qba (gtY l 0).2.1 l.length m=true:=fun hk=>by
  have h0:=hi 0 (by omega);have b0:=qp1 (ok 0 (by omega)) (qdr hk h0.1);have h9:=hi (l.length-1) (by omega);have b9:=qp1 (ok (l.length-1) (by omega)) (qdr hk h9.1);have e:=h9.2.1 hk;have w:IntKind.i64.wrap (m-(l.length:Int))=m-l.length:=IntWalk.i64_in _ (by omega);unfold qba;rw[w];simp only[Bool.and_eq_true,decide_eq_true_eq];omega
 have lens:decide (1<=(mdK k l).2.2.1)=true/\decide ((mdK k l).2.2.1<=65536)=true:=by
  show decide (1<=(l.length:Int))=true/\decide ((l.length:Int)<=65536)=true
  simp only[decide_eq_true_eq];omega
 have lit:¬ (k=1\/k=2)->(gtY l 0).2.1=0:=fun hk=>by
  have h:=(hi 0 (by omega)).1;unfold canB at h;rw[if_neg (by omega),if_neg (by omega)] at h;have o:(gtY l 0).1=false:=by simpa using h
  exact q4d (ok 0 (by omega)) o
 unfold isRB;rw[lens.1,lens.2];unfold mdK kR;rcases (show k=1\/k=2\/k=3\/k=4 by unfold kOK at hk;omega) with e | e | e | e
 ·subst e;simp[rB,part (.inl rfl)]
 ·subst e;simp[rB,part (.inr rfl)]
 ·subst e;simp[rB,lit (by decide)]
 ·subst e;simp[rB,lit (by decide)]
end
theorem q0c {k:Int} {l:List SyT} (hk:kOK k) (hl:l.length<=65536):cN k.toNat (mdK k l)=hdC k+eaC k*(l.length:Int):=by
 rcases (show k=1\/k=2\/k=3\/k=4 by unfold kOK at hk;omega) with e | e | e | e
 ·subst e;show (4:Int)=hdC 1+eaC 1*_;simp[hdC,eaC]
 ·subst e
  show IntKind.i64.wrap (4+(l.length:Int))=_
  rw[IntWalk.i64_in _ (by omega)];simp[hdC,eaC]
 ·subst e;show (4:Int)=hdC 3+eaC 3*_;simp[hdC,eaC]
 ·subst e
  show IntKind.i64.wrap (2+(l.length:Int))=_
  rw[IntWalk.i64_in _ (by omega)];simp[hdC,eaC]
def cst (l:List SyT):Int:=(bst l).2.2.1
def oct (l:List SyT):Int:=(bst l).2.2.2
theorem eaN (k:Int) (n:Nat):0<=eaC k*(n:Int)/\eaC k*(n:Int)<=n:=by
 unfold eaC;split
 ·omega
 ·omega
theorem qph {l:List SyT} (hl:l.length<=65536) (h0:l≠[]):kOK (bst l).1/\∃ n:Nat,(bst l).2.1=(n:Int)/\1<=n/\n<=fitN (bst l).1 l/\(∀ k,kOK k->∀ m:Nat,1<=m->m<=fitN k l->keyL (bst l).1 n l<=keyL k m l) /\
  cst l=hdC (bst l).1+eaC (bst l).1*(n:Int)+cst (l.drop n)/\oct l=1+oct (l.drop n):=by
 rcases (qsc l hl).2 with ⟨h,_⟩ | ⟨_,hk,n,h1,h2,h3,h4,h5,h6⟩
 ·exact absurd h h0
 refine ⟨hk,n,h1,h2,h3,h5,?_⟩;have hd:(l.drop n).length<=65536:=by rw[List.length_drop];omega
 have hb:=qmm (l.drop n) hd;have hf:=qcd (bst l).1 l;unfold keyT keyL wB at h4;unfold boL at hb h6;unfold cst oct;have e1:=eaN (bst l).1 n;generalize eaC (bst l).1*(n:Int)=e at *;generalize (bst (l.drop n))=b at *;rw[List.length_drop] at hb;omega
theorem q9a {l:List SyT} (hl:l.length<=65536) {k:Int} (hk:kOK k) {n:Nat} (h1:1<=n) (h2:n<=fitN k l) (h3:∀ k',kOK k'->∀ m:Nat,1<=m->m<=fitN k' l->keyL k n l<=keyL k' m l):(bst l).1=k/\(bst l).2.1=(n:Int):=by
 have hf:=qcd k l;have h0:l≠[]:=fun h=>by subst h;rw[fitN] at h2;omega
 obtain ⟨hb,q,q1,q2,q3,q4,q5,q6⟩:=qph hl h0;have hq:=qcd (bst l).1 l;have key:=q4 k hk n h1 h2;have key2:=h3 _ hb q q2 q3;rw[q1];unfold keyL at key key2;generalize ((hdC (bst l).1+eaC (bst l).1*(q:Int))*4294967296+1+wB (bst (l.drop q)))=w at *;generalize ((hdC k+eaC k*(n:Int))*4294967296+1+wB (bst (l.drop n)))=w' at *;unfold kOK at hk hb;omega
def chF:Nat->List SyT->List OpT
 | 0,_=>[]
 | f+1,l=>if l=[] then [] else mdK (bst l).1 (l.take (bst l).2.1.toNat)::chF f (l.drop (bst l).2.1.toNat)
def chL (l:List SyT):List OpT:=chF l.length l
theorem qsh {k:Int} {l:List SyT} {n q:Nat} (hq:n<=q) (h:isK k l q):isK k (l.take n) n:=fun j hj=>by
 have e:∀ j,j<n->gtY (l.take n) j=gtY l j:=fun j hj=>by simp[gt,hj]
 rw[e j hj,e 0 (by omega)];exact h j (by omega)
theorem ch_ok {m:Int} (hm:m<16777216):∀ (f:Nat) (l:List SyT),l.length<=f->l.length<=65536->(∀ s∈l,sOK m s=true) ->
  symF (chF f l)=l/\(∀ x∈chF f l,isRB x m=true)/\q00 (chF f l)=cst l/\((chF f l).length:Int)=oct l:=by
 intro f
 induction f with
 | zero=>
  intro l hf hl hr;have e:l=[]:=List.eq_nil_of_length_eq_zero (by omega);subst e;exact ⟨rfl,(fun x hx=>by cases hx),rfl,rfl⟩
 | succ f ih=>
  intro l hf hl hr;by_cases h0:l=[]
  ·subst h0;exact ⟨rfl,(fun x hx=>by cases hx),rfl,rfl⟩
  ·obtain ⟨hb,q,q1,q2,q3,q4,q5,q6⟩:=qph hl h0;have hq:=qcd (bst l).1 l;have e:chF (f+1) l=mdK (bst l).1 (l.take q)::chF f (l.drop q):=by rw[chF,if_neg h0,q1,Int.toNat_natCast]
   rw[e];have tl:(l.take q).length=q:=by rw[List.length_take];omega
   have dl:(l.drop q).length=l.length-q:=List.length_drop ..;obtain ⟨i1,i2,i3,i4⟩:=ih (l.drop q) (by omega) (by omega) fun s hs=>hr s (List.mem_of_mem_drop hs)
   have tr:∀ s∈l.take q,sOK m s=true:=fun s hs=>hr s (List.mem_of_mem_take hs)
   have ti:isK (bst l).1 (l.take q) (l.take q).length:=by rw[tl];exact qsh q3 (qsp hm hr)
   refine ⟨?_,fun x hx=>?_,?_,?_⟩
   ·rw[symF,i1]
    show qaw (bst l).1.toNat _++_=_
    rw[q5c hm hb tr ti,List.take_append_drop]
   ·rcases List.mem_cons.1 hx with h | h
    ·subst h;exact qw5 hm hb tr ti (by omega) (by omega)
    ·exact i2 x h
   ·rw[q00,i3]
    show cN (bst l).1.toNat _+_=_
    rw[q0c hb (by omega),q5,tl]
   ·rw[List.length_cons,q6];omega
end Go.Proofs.YticpkibnhakgbaaDoor
namespace Go.Proofs.YticpkibnhakgbaaDoor
open Go.Px Go.Ax
set_option maxRecDepth 100000
def CBe:CV:=[(67,.inl ctCan),(68,.inl ctGoe),(65,.inl ctBet)]
theorem cxBe:CxOK Tryd.prog tt G0 CBe:=((cx0.cons qsi (fn:=Tryd.f65) rfl rfl rfl).cons q0r (fn:=Tryd.f68) rfl rfl rfl).cons q1a (fn:=Tryd.f67) rfl rfl rfl
def q4p (k:Int) (l:List SyT) (g:LiT):Prop:=kOK k/\1<=l.length/\(g.2.1=0\/2<=l.length)
def begL (k:Int) (l:List SyT) (w:Int × Int) (g:LiT):LiT:=begF k (gtY l 0) (gtY l 1) w g
def boB (w:Int × Int) (g:LiT):Prop:=(0<=w.1/\w.1<16777216/\0<=w.2/\w.2<16777216)/\0<=g.2.1/\g.2.1<16777216/\0<=g.2.2.1/\g.2.2.1<16777216
def ctBg:Ctr:=⟨[iI,.sl syS,suS,liS],fun x=>q4p x.1 x.2.1 x.2.2.2.1/\boB x.2.2.1 x.2.2.2.1,fun x=>[.agg [.int .i64 (begL x.1 x.2.1 x.2.2.1 x.2.2.2.1).1,.int .i64 (begL x.1 x.2.1 x.2.2.1 x.2.2.2.1).2.1,.int .i64 (begL x.1 x.2.1 x.2.2.1 x.2.2.2.1).2.2.1,.int .i64 (begL x.1 x.2.1 x.2.2.1 x.2.2.2.1).2.2.2]],fun _=>[]⟩
def qtt (k:Int) (l:List SyT):Prop:=kOK k/\1<=l.length/\l.length<16777216
def ctMk:Ctr:=⟨[iI,.sl syS],fun x=>qtt x.1 x.2.1,fun x=>mdV (mdK x.1 x.2.1),fun _=>[]⟩
set_option maxRecDepth 100000
def ql9 (k:Int) (w:Int × Int) (g:LiT):List (Nat × LB):=[(6,.var [.int .i64 w.1,.int .i64 w.2]),(7,.var [.int .i64 g.1,.int .i64 g.2.1,.int .i64 g.2.2.1,.int .i64 g.2.2.2]),(8,.var [.int .i64 k,.int .i64 1,.int .i64 (IntKind.i64.wrap (IntKind.i64.wrap (w.1+(gt (iI.pair iI) costsL k.toNat).1)+(gt (iI.pair iI) costsL k.toNat).2)),.int .i64 (IntKind.i64.wrap (w.2+(1:Int)))]),(9,.var [.int .i64 (gt (iI.pair iI) costsL k.toNat).1,.int .i64 (gt (iI.pair iI) costsL k.toNat).2]),(10,.var [.int .i64 k,.int .i64 1,.int .i64 (IntKind.i64.wrap (IntKind.i64.wrap (w.1+(gt (iI.pair iI) costsL k.toNat).1)+(gt (iI.pair iI) costsL k.toNat).2)),.int .i64 (IntKind.i64.wrap (w.2+(1:Int)))])]
theorem q7m (k:Int) (l:List SyT) (w:Int × Int) (g:LiT) (Q:QT) (R:RT):sy tt G0 CBe Tryd.f64.ntmps Tryd.f64.results.toList Q R 1000 [.code (qae Tryd.f64)] (entry [iI,.sl syS,suS,liS] (k,l,w,g,())) =
  ((0:Int)<=0 /\
 (0:Int)<(l.length:Int) /\
 ctCan.pre (k,(gtY l (0)),()) /\
 bc (!canB k (gtY l (0))) (Q [.agg [.int .i64 0,.int .i64 0,.int .i64 0,.int .i64 0]] [(6,.var [.int .i64 w.1,.int .i64 w.2]),(7,.var [.int .i64 g.1,.int .i64 g.2.1,.int .i64 g.2.2.1,.int .i64 g.2.2.2]),(8,.var [.int .i64 0,.int .i64 0,.int .i64 0,.int .i64 0])]) ((0:Int)<=k /\
 k<(↑(5:Nat):Int) /\
 bc (decide (g.2.1=(0:Int))) (true=true /\
 Q [.agg [.int .i64 k,.int .i64 1,.int .i64 (IntKind.i64.wrap (IntKind.i64.wrap (w.1+(gt (iI.pair iI) costsL k.toNat).1)+(gt (iI.pair iI) costsL k.toNat).2)),.int .i64 (IntKind.i64.wrap (w.2+1))]] (ql9 k w g)) ((0:Int)<=0 /\
 (0:Int)<(l.length:Int) /\
 (0:Int)<=1 /\
 (1:Int)<(l.length:Int) /\
 ctGoe.pre (k,(gtY l (0)),(gtY l (1)),()) /\
 bc (bif false then true else !goK k (gtY l (0)) (gtY l (1))) (Q [.agg [.int .i64 k,.int .i64 1,.int .i64 (IntKind.i64.wrap (IntKind.i64.wrap (w.1+(gt (iI.pair iI) costsL k.toNat).1)+(gt (iI.pair iI) costsL k.toNat).2)),.int .i64 (IntKind.i64.wrap (w.2+1))]] (ql9 k w g)) (ctBet.pre ((k,(1:Int),IntKind.i64.wrap (IntKind.i64.wrap (w.1+(gt (iI.pair iI) costsL k.toNat).1)+(gt (iI.pair iI) costsL k.toNat).2),IntKind.i64.wrap (w.2+1)),(k,IntKind.i64.wrap (g.2.1+1),IntKind.i64.wrap (g.2.2.1+(gt (iI.pair iI) costsL k.toNat).2),g.2.2.2),()) /\
 bc (betB (k,(1:Int),IntKind.i64.wrap (IntKind.i64.wrap (w.1+(gt (iI.pair iI) costsL k.toNat).1)+(gt (iI.pair iI) costsL k.toNat).2),IntKind.i64.wrap (w.2+1)) (k,IntKind.i64.wrap (g.2.1+1),IntKind.i64.wrap (g.2.2.1+(gt (iI.pair iI) costsL k.toNat).2),g.2.2.2)) (Q [.agg [.int .i64 k,.int .i64 1,.int .i64 (IntKind.i64.wrap (IntKind.i64.wrap (w.1+(gt (iI.pair iI) costsL k.toNat).1)+(gt (iI.pair iI) costsL k.toNat).2)),.int .i64 (IntKind.i64.wrap (w.2+1))]] [(6,.var [.int .i64 w.1,.int .i64 w.2]),(7,.var [.int .i64 g.1,.int .i64 g.2.1,.int .i64 g.2.2.1,.int .i64 g.2.2.2]),(8,.var [.int .i64 k,.int .i64 1,.int .i64 (IntKind.i64.wrap (IntKind.i64.wrap (w.1+(gt (iI.pair iI) costsL k.toNat).1)+(gt (iI.pair iI) costsL k.toNat).2)),.int .i64 (IntKind.i64.wrap (w.2+1))]),(9,.var [.int .i64 (gt (iI.pair iI) costsL k.toNat).1,.int .i64 (gt (iI.pair iI) costsL k.toNat).2]),(10,.var [.int .i64 k,.int .i64 1,.int .i64 (IntKind.i64.wrap (IntKind.i64.wrap (w.1+(gt (iI.pair iI) costsL k.toNat).1)+(gt (iI.pair iI) costsL k.toNat).2)),.int .i64 (IntKind.i64.wrap (w.2+1))]),(11,.var [.int .i64 k,.int .i64 (IntKind.i64.wrap (g.2.1+1)),.int .i64 (IntKind.i64.wrap (g.2.2.1+(gt (iI.pair iI) costsL k.toNat).2)),.int .i64 g.2.2.2])]) (Q [.agg [.int .i64 k,.int .i64 (IntKind.i64.wrap (g.2.1+1)),.int .i64 (IntKind.i64.wrap (g.2.2.1+(gt (iI.pair iI) costsL k.toNat).2)),.int .i64 g.2.2.2]] [(6,.var [.int .i64 w.1,.int .i64 w.2]),(7,.var [.int .i64 g.1,.int .i64 g.2.1,.int .i64 g.2.2.1,.int .i64 g.2.2.2]),(8,.var [.int .i64 k,.int .i64 (IntKind.i64.wrap (g.2.1+1)),.int .i64 (IntKind.i64.wrap (g.2.2.1+(gt (iI.pair iI) costsL k.toNat).2)),.int .i64 g.2.2.2]),(9,.var [.int .i64 (gt (iI.pair iI) costsL k.toNat).1,.int .i64 (gt (iI.pair iI) costsL k.toNat).2]),(10,.var [.int .i64 k,.int .i64 1,.int .i64 (IntKind.i64.wrap (IntKind.i64.wrap (w.1+(gt (iI.pair iI) costsL k.toNat).1)+(gt (iI.pair iI) costsL k.toNat).2)),.int .i64 (IntKind.i64.wrap (w.2+1))]),(11,.var [.int .i64 k,.int .i64 (IntKind.i64.wrap (g.2.1+1)),.int .i64 (IntKind.i64.wrap (g.2.2.1+(gt (iI.pair iI) costsL k.toNat).2)),.int .i64 g.2.2.2])]))))):=by kernel_rfl
def qop (k:Int) (l:List SyT):List (Nat × LB):=[(4,.var [.int .i64 k,.int .i64 (gtY l (0)).2.1,.int .i64 (l.length:Int),.int .u8 0,.nils]),(5,.var [.int .i64 k,.int .i64 (gtY l (0)).2.1,.int .i64 (l.length:Int),.int .u8 0,.nils])]
theorem vc_mk (k:Int) (l:List SyT) (Q:QT) (R:RT):sy tt G0 [] Tryd.f60.ntmps Tryd.f60.results.toList Q (fun it S=>R it (qao [4,5,31,32,33] [4,5,29] S)) 1000 [.code (qae Tryd.f60)] (entry [iI,.sl syS] (k,l,())) =
  ((0:Int)<=0 /\
 (0:Int)<(l.length:Int) /\
 bc (decide (k=(3:Int))) ((0:Int)<=0 /\
 (0:Int)<(l.length:Int) /\
 Q [.agg [.int .i64 k,.int .i64 (gtY l (0)).2.1,.int .i64 (l.length:Int),.int .u8 (gtY l (0)).2.2,.nils]] [(4,.var [.int .i64 k,.int .i64 (gtY l (0)).2.1,.int .i64 (l.length:Int),.int .u8 (gtY l (0)).2.2,.nils]),(5,.var [.int .i64 k,.int .i64 (gtY l (0)).2.1,.int .i64 (l.length:Int),.int .u8 (gtY l (0)).2.2,.nils])]) (bc (decide (k=(2:Int))) (bc (decide (k=(2:Int))) ((0:Int)<=(l.length:Int) /\
 (l.length:Int)<=(l.length:Int) /\
 (l.length:Int)<2 ^ 24 /\
 (↑(1:Nat):Int)*(l.length:Int)<=2 ^ 48 /\
 R (hd Tryd.f60 0) { env:=[(4,.ptr 4 0),(5,.ptr 5 0),(31,.sl syS l),(32,.int .i64 (l.length:Int)),(33,.int .i64 0)],blk:=[(4,.var [.int .i64 0,.int .i64 0,.int .i64 0,.int .u8 0,.nils]),(5,.var [.int .i64 k,.int .i64 (gtY l (0)).2.1,.int .i64 (l.length:Int),.int .u8 0,.win true uB 29 0 (l.length:Int).toNat]),(29,.row 5 uB (List.replicate (l.length:Int).toNat uB.dflt))] }) (Q [.agg [.int .i64 k,.int .i64 (gtY l (0)).2.1,.int .i64 (l.length:Int),.int .u8 0,.nils]] (qop k l))) (bc (decide (k=(4:Int))) ((0:Int)<=(l.length:Int) /\
 (l.length:Int)<=(l.length:Int) /\
 (l.length:Int)<2 ^ 24 /\
 (↑(1:Nat):Int)*(l.length:Int)<=2 ^ 48 /\
 R (hd Tryd.f60 0) { env:=[(4,.ptr 4 0),(5,.ptr 5 0),(31,.sl syS l),(32,.int .i64 (l.length:Int)),(33,.int .i64 0)],blk:=[(4,.var [.int .i64 0,.int .i64 0,.int .i64 0,.int .u8 0,.nils]),(5,.var [.int .i64 k,.int .i64 (gtY l (0)).2.1,.int .i64 (l.length:Int),.int .u8 0,.win true uB 29 0 (l.length:Int).toNat]),(29,.row 5 uB (List.replicate (l.length:Int).toNat uB.dflt))] }) (Q [.agg [.int .i64 k,.int .i64 (gtY l (0)).2.1,.int .i64 (l.length:Int),.int .u8 0,.nils]] (qop k l))))):=by kernel_rfl
end Go.Proofs.YticpkibnhakgbaaDoor
namespace Go.Proofs.YticpkibnhakgbaaDoor
open Go.Px Go.Ax
set_option maxRecDepth 100000
set_option maxRecDepth 100000
theorem q7c (k a:Int) (b:List Int) (l:List SyT) (i:Nat) (Q:QT) (R:RT):sy tt G0 [] Tryd.f60.ntmps Tryd.f60.results.toList Q (fun it S=>R it (qao [4,5,31,32,33] [4,5,29] S)) 1000 (hd Tryd.f60 0) ⟨[(4,.ptr 4 0),(5,.ptr 5 0),(31,.sl syS l),(32,.int .i64 l.length),(33,.int .i64 (i:Nat))],[(4,.var [.int .i64 0,.int .i64 0,.int .i64 0,.int .u8 0,.nils]),(5,.var [.int .i64 k,.int .i64 a,.int .i64 l.length,.int .u8 0,.win true uB 29 0 b.length]),(29,.row 5 uB b)]⟩ =
  (bc (decide ((i:Int)<(l.length:Int))) ((0:Int)<=(i:Int) /\
 (i:Int)<(l.length:Int) /\
 (0:Int)<=(i:Int) /\
 (i:Int)<(b.length:Int) /\
 0+(i:Int).toNat<b.length /\
 R (hd Tryd.f60 0) { env:=[(4,.ptr 4 0),(5,.ptr 5 0),(31,.sl syS l),(32,.int .i64 (l.length:Int)),(33,.int .i64 (IntKind.i64.wrap ((i:Int)+1)))],blk:=[(4,.var [.int .i64 0,.int .i64 0,.int .i64 0,.int .u8 0,.nils]),(5,.var [.int .i64 k,.int .i64 a,.int .i64 (l.length:Int),.int .u8 0,.win true uB 29 0 b.length]),(29,.row 5 uB (b.set (0+(i:Int).toNat) (gtY l (i:Int).toNat).2.2))] }) (Q [.agg [.int .i64 k,.int .i64 a,.int .i64 (l.length:Int),.int .u8 0,.win true uB 29 0 b.length]] [(4,.var [.int .i64 k,.int .i64 a,.int .i64 (l.length:Int),.int .u8 0,.win true uB 29 0 b.length]),(5,.var [.int .i64 k,.int .i64 a,.int .i64 (l.length:Int),.int .u8 0,.win true uB 29 0 b.length]),(29,.row 5 uB b)])):=by kernel_rfl
theorem q7d (k a:Int) (d:List Int) (l:List SyT) (i:Nat) (Q:QT) (R:RT):sy tt G0 [] Tryd.f60.ntmps Tryd.f60.results.toList Q (fun it S=>R it (qao [4,5,31,32,33] [4,5,29] S)) 1000 (hd Tryd.f60 0) ⟨[(4,.ptr 4 0),(5,.ptr 5 0),(31,.sl syS l),(32,.int .i64 l.length),(33,.int .i64 (i:Nat))],[(4,.var [.int .i64 0,.int .i64 0,.int .i64 0,.int .u8 0,.nils]),(5,.var [.int .i64 k,.int .i64 a,.int .i64 l.length,.int .u8 0,.sl uB d])]⟩ =
  (bc (decide ((i:Int)<(l.length:Int))) ((0:Int)<=(i:Int) /\
 (i:Int)<(l.length:Int) /\
 (0:Int)<=(i:Int) /\
 (i:Int)<(d.length:Int) /\
 False) (Q [.agg [.int .i64 k,.int .i64 a,.int .i64 (l.length:Int),.int .u8 0,.sl uB d]] [(4,.var [.int .i64 k,.int .i64 a,.int .i64 (l.length:Int),.int .u8 0,.sl uB d]),(5,.var [.int .i64 k,.int .i64 a,.int .i64 (l.length:Int),.int .u8 0,.sl uB d])])):=by kernel_rfl
end Go.Proofs.YticpkibnhakgbaaDoor
