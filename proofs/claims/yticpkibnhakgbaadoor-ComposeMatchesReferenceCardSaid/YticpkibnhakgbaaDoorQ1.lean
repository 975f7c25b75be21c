/-
  A part of the proof: what pieces of the program give; conditions: those of each theorem.
-/
import Derived.Test.YticpkibnhakgbaaDoorQ0
set_option linter.unusedVariables false
set_option linter.unusedSimpArgs false
namespace Go.Proofs.YticpkibnhakgbaaDoor
open Go.Px Go.Ax
set_option maxRecDepth 100000
set_option maxRecDepth 100000
theorem qy5 (k f n b:Int) (d:List Int) (o:List SyT) (Q:QT) (R:RT):sy tt G0 [] Tryd.f88.ntmps Tryd.f88.results.toList Q R 1000 [.code (qae Tryd.f88)] (qb6 [.dat opS,.row 66 syS] ((k,f,n,b,d),o,())) =
  (R (hd Tryd.f88 0) { env:=[(0,.agg [.int .i64 k,.int .i64 f,.int .i64 n,.int .u8 b,.sl uB d]),(1,.win true syS 1099511627776 0 o.length),(2,.ptr 2 0),(4,.nils),(6,.ptr 2 2),(7,.int .i64 n),(8,.int .i64 0)],blk:=[(2,.var [.int .i64 k,.int .i64 f,.int .i64 n,.int .u8 b,.sl uB d]),(1099511627776,.row 66 syS o)] }):=by kernel_rfl
theorem qvg (k f n b:Int) (d:List Int) (o:List SyT) (i:Nat) (Q:QT) (R:RT):sy tt G0 [] Tryd.f88.ntmps Tryd.f88.results.toList Q R 1000 (hd Tryd.f88 0) ⟨[(1,.win true syS 1099511627776 0 o.length),(2,.ptr 2 0),(7,.int .i64 n),(8,.int .i64 (i:Nat))],[(2,.var [.int .i64 k,.int .i64 f,.int .i64 n,.int .u8 b,.sl uB d]),(1099511627776,.row 66 syS o)]⟩ =
  (bc (decide ((i:Int)<n)) ((0:Nat)+1<=([(true,IntKind.i64.wrap (f+(i:Int)),(0:Int))]:List syS.D).length /\
 o.length=o.length /\
 (0:Nat)=(0:Nat) /\
 o.length+(winL syS 0 1 ([(true,IntKind.i64.wrap (f+(i:Int)),(0:Int))]:List syS.D)).length<2 ^ 30 /\
 (24:Nat)<=2 ^ 10 /\
 R (hd Tryd.f88 0) { env:=[(1,.win true syS 18 0 (o.length+(winL syS 0 1 ([(true,IntKind.i64.wrap (f+(i:Int)),(0:Int))]:List syS.D)).length)),(2,.ptr 2 0),(5,.int .i64 (i:Int)),(7,.int .i64 n),(8,.int .i64 (IntKind.i64.wrap ((i:Int)+1))),(9,.bool (decide ((i:Int)<n))),(10,.int .i64 (i:Int)),(11,.dead),(12,.ptr 2 1),(13,.int .i64 f),(14,.int .i64 (i:Int)),(15,.int .i64 (IntKind.i64.wrap (f+(i:Int)))),(16,.agg [.bool true,.int .i64 (IntKind.i64.wrap (f+(i:Int))),.int .u8 0]),(17,.win true syS 17 0 (1:Nat)),(18,.win true syS 18 0 (o.length+(winL syS 0 1 ([(true,IntKind.i64.wrap (f+(i:Int)),(0:Int))]:List syS.D)).length)),(19,.int .i64 (IntKind.i64.wrap ((i:Int)+1)))],blk:=[(2,.var [.int .i64 k,.int .i64 f,.int .i64 n,.int .u8 b,.sl uB d]),(17,.row 66 syS ([(true,IntKind.i64.wrap (f+(i:Int)),(0:Int))]:List syS.D)),(18,.row 66 syS (o++([(true,IntKind.i64.wrap (f+(i:Int)),(0:Int))]:List syS.D)))] }) (Q [.win true syS 1099511627776 0 o.length] [(2,.var [.int .i64 k,.int .i64 f,.int .i64 n,.int .u8 b,.sl uB d]),(1099511627776,.row 66 syS o)])):=by kernel_rfl
theorem qn1 (k f n b:Int) (d:List Int) (o:List SyT) (i:Nat) (Q:QT) (R:RT):sy tt G0 [] Tryd.f88.ntmps Tryd.f88.results.toList Q R 1000 (hd Tryd.f88 0) ⟨[(1,.win true syS 1 0 o.length),(2,.ptr 2 0),(7,.int .i64 n),(8,.int .i64 (i:Nat))],[(2,.var [.int .i64 k,.int .i64 f,.int .i64 n,.int .u8 b,.sl uB d]),(1,.row 66 syS o)]⟩ =
  (bc (decide ((i:Int)<n)) ((0:Nat)+1<=([(true,IntKind.i64.wrap (f+(i:Int)),(0:Int))]:List syS.D).length /\
 o.length=o.length /\
 (0:Nat)=(0:Nat) /\
 o.length+(winL syS 0 1 ([(true,IntKind.i64.wrap (f+(i:Int)),(0:Int))]:List syS.D)).length<2 ^ 30 /\
 (24:Nat)<=2 ^ 10 /\
 R (hd Tryd.f88 0) { env:=[(1,.win true syS 18 0 (o.length+(winL syS 0 1 ([(true,IntKind.i64.wrap (f+(i:Int)),(0:Int))]:List syS.D)).length)),(2,.ptr 2 0),(5,.int .i64 (i:Int)),(7,.int .i64 n),(8,.int .i64 (IntKind.i64.wrap ((i:Int)+1))),(9,.bool (decide ((i:Int)<n))),(10,.int .i64 (i:Int)),(11,.dead),(12,.ptr 2 1),(13,.int .i64 f),(14,.int .i64 (i:Int)),(15,.int .i64 (IntKind.i64.wrap (f+(i:Int)))),(16,.agg [.bool true,.int .i64 (IntKind.i64.wrap (f+(i:Int))),.int .u8 0]),(17,.win true syS 17 0 (1:Nat)),(18,.win true syS 18 0 (o.length+(winL syS 0 1 ([(true,IntKind.i64.wrap (f+(i:Int)),(0:Int))]:List syS.D)).length)),(19,.int .i64 (IntKind.i64.wrap ((i:Int)+1)))],blk:=[(2,.var [.int .i64 k,.int .i64 f,.int .i64 n,.int .u8 b,.sl uB d]),(17,.row 66 syS ([(true,IntKind.i64.wrap (f+(i:Int)),(0:Int))]:List syS.D)),(18,.row 66 syS (o++([(true,IntKind.i64.wrap (f+(i:Int)),(0:Int))]:List syS.D)))] }) (Q [.win true syS 1 0 o.length] [(2,.var [.int .i64 k,.int .i64 f,.int .i64 n,.int .u8 b,.sl uB d]),(1,.row 66 syS o)])):=by kernel_rfl
theorem qy2 (k f n b:Int) (d:List Int) (o:List SyT) (Q:QT) (R:RT):sy tt G0 [] Tryd.f92.ntmps Tryd.f92.results.toList Q R 1000 [.code (qae Tryd.f92)] (qb6 [.dat opS,.row 66 syS] ((k,f,n,b,d),o,())) =
  (R (hd Tryd.f92 0) { env:=[(0,.agg [.int .i64 k,.int .i64 f,.int .i64 n,.int .u8 b,.sl uB d]),(1,.win true syS 1099511627776 0 o.length),(2,.ptr 2 0),(4,.nils),(7,.ptr 2 4),(8,.sl uB d),(9,.int .i64 (d.length:Int)),(10,.int .i64 0)],blk:=[(2,.var [.int .i64 k,.int .i64 f,.int .i64 n,.int .u8 b,.sl uB d]),(1099511627776,.row 66 syS o)] }):=by kernel_rfl
theorem qvf (k f n b:Int) (d:List Int) (o:List SyT) (i:Nat) (Q:QT) (R:RT):sy tt G0 [] Tryd.f92.ntmps Tryd.f92.results.toList Q R 1000 (hd Tryd.f92 0) ⟨[(1,.win true syS 1099511627776 0 o.length),(2,.ptr 2 0),(8,.sl uB d),(9,.int .i64 d.length),(10,.int .i64 (i:Nat))],[(2,.var [.int .i64 k,.int .i64 f,.int .i64 n,.int .u8 b,.sl uB d]),(1099511627776,.row 66 syS o)]⟩ =
  (bc (decide ((i:Int)<(d.length:Int))) ((0:Int)<=(i:Int) /\
 (i:Int)<(d.length:Int) /\
 (0:Nat)+1<=([(true,IntKind.i64.wrap (f+(i:Int)),gtB d (i:Int).toNat)]:List syS.D).length /\
 o.length=o.length /\
 (0:Nat)=(0:Nat) /\
 o.length+(winL syS 0 1 ([(true,IntKind.i64.wrap (f+(i:Int)),gtB d (i:Int).toNat)]:List syS.D)).length<2 ^ 30 /\
 (24:Nat)<=2 ^ 10 /\
 R (hd Tryd.f92 0) { env:=[(1,.win true syS 23 0 (o.length+(winL syS 0 1 ([(true,IntKind.i64.wrap (f+(i:Int)),gtB d (i:Int).toNat)]:List syS.D)).length)),(2,.ptr 2 0),(5,.int .i64 (i:Int)),(6,.int .u8 (gtB d (i:Int).toNat)),(8,.sl uB d),(9,.int .i64 (d.length:Int)),(10,.int .i64 (IntKind.i64.wrap ((i:Int)+1))),(11,.bool (decide ((i:Int)<(d.length:Int)))),(12,.int .i64 (i:Int)),(13,.elv uB (gtB d (i:Int).toNat)),(14,.int .u8 (gtB d (i:Int).toNat)),(15,.dead),(16,.ptr 2 1),(17,.int .i64 f),(18,.int .i64 (i:Int)),(19,.int .i64 (IntKind.i64.wrap (f+(i:Int)))),(20,.int .u8 (gtB d (i:Int).toNat)),(21,.agg [.bool true,.int .i64 (IntKind.i64.wrap (f+(i:Int))),.int .u8 (gtB d (i:Int).toNat)]),(22,.win true syS 22 0 (1:Nat)),(23,.win true syS 23 0 (o.length+(winL syS 0 1 ([(true,IntKind.i64.wrap (f+(i:Int)),gtB d (i:Int).toNat)]:List syS.D)).length)),(24,.int .i64 (IntKind.i64.wrap ((i:Int)+1)))],blk:=[(2,.var [.int .i64 k,.int .i64 f,.int .i64 n,.int .u8 b,.sl uB d]),(22,.row 66 syS ([(true,IntKind.i64.wrap (f+(i:Int)),gtB d (i:Int).toNat)]:List syS.D)),(23,.row 66 syS (o++([(true,IntKind.i64.wrap (f+(i:Int)),gtB d (i:Int).toNat)]:List syS.D)))] }) (Q [.win true syS 1099511627776 0 o.length] [(2,.var [.int .i64 k,.int .i64 f,.int .i64 n,.int .u8 b,.sl uB d]),(1099511627776,.row 66 syS o)])):=by kernel_rfl
theorem qn0 (k f n b:Int) (d:List Int) (o:List SyT) (i:Nat) (Q:QT) (R:RT):sy tt G0 [] Tryd.f92.ntmps Tryd.f92.results.toList Q R 1000 (hd Tryd.f92 0) ⟨[(1,.win true syS 1 0 o.length),(2,.ptr 2 0),(8,.sl uB d),(9,.int .i64 d.length),(10,.int .i64 (i:Nat))],[(2,.var [.int .i64 k,.int .i64 f,.int .i64 n,.int .u8 b,.sl uB d]),(1,.row 66 syS o)]⟩ =
  (bc (decide ((i:Int)<(d.length:Int))) ((0:Int)<=(i:Int) /\
 (i:Int)<(d.length:Int) /\
 (0:Nat)+1<=([(true,IntKind.i64.wrap (f+(i:Int)),gtB d (i:Int).toNat)]:List syS.D).length /\
 o.length=o.length /\
 (0:Nat)=(0:Nat) /\
 o.length+(winL syS 0 1 ([(true,IntKind.i64.wrap (f+(i:Int)),gtB d (i:Int).toNat)]:List syS.D)).length<2 ^ 30 /\
 (24:Nat)<=2 ^ 10 /\
 R (hd Tryd.f92 0) { env:=[(1,.win true syS 23 0 (o.length+(winL syS 0 1 ([(true,IntKind.i64.wrap (f+(i:Int)),gtB d (i:Int).toNat)]:List syS.D)).length)),(2,.ptr 2 0),(5,.int .i64 (i:Int)),(6,.int .u8 (gtB d (i:Int).toNat)),(8,.sl uB d),(9,.int .i64 (d.length:Int)),(10,.int .i64 (IntKind.i64.wrap ((i:Int)+1))),(11,.bool (decide ((i:Int)<(d.length:Int)))),(12,.int .i64 (i:Int)),(13,.elv uB (gtB d (i:Int).toNat)),(14,.int .u8 (gtB d (i:Int).toNat)),(15,.dead),(16,.ptr 2 1),(17,.int .i64 f),(18,.int .i64 (i:Int)),(19,.int .i64 (IntKind.i64.wrap (f+(i:Int)))),(20,.int .u8 (gtB d (i:Int).toNat)),(21,.agg [.bool true,.int .i64 (IntKind.i64.wrap (f+(i:Int))),.int .u8 (gtB d (i:Int).toNat)]),(22,.win true syS 22 0 (1:Nat)),(23,.win true syS 23 0 (o.length+(winL syS 0 1 ([(true,IntKind.i64.wrap (f+(i:Int)),gtB d (i:Int).toNat)]:List syS.D)).length)),(24,.int .i64 (IntKind.i64.wrap ((i:Int)+1)))],blk:=[(2,.var [.int .i64 k,.int .i64 f,.int .i64 n,.int .u8 b,.sl uB d]),(22,.row 66 syS ([(true,IntKind.i64.wrap (f+(i:Int)),gtB d (i:Int).toNat)]:List syS.D)),(23,.row 66 syS (o++([(true,IntKind.i64.wrap (f+(i:Int)),gtB d (i:Int).toNat)]:List syS.D)))] }) (Q [.win true syS 1 0 o.length] [(2,.var [.int .i64 k,.int .i64 f,.int .i64 n,.int .u8 b,.sl uB d]),(1,.row 66 syS o)])):=by kernel_rfl
theorem q3d (k f n b:Int) (d:List Int) (o:List SyT) (Q:QT) (R:RT):sy tt G0 [] Tryd.f95.ntmps Tryd.f95.results.toList Q R 1000 [.code (qae Tryd.f95)] (qb6 [.dat opS,.row 66 syS] ((k,f,n,b,d),o,())) =
  (R (hd Tryd.f95 0) { env:=[(0,.agg [.int .i64 k,.int .i64 f,.int .i64 n,.int .u8 b,.sl uB d]),(1,.win true syS 1099511627776 0 o.length),(2,.ptr 2 0),(4,.nils),(5,.ptr 2 2),(6,.int .i64 n),(7,.int .i64 0)],blk:=[(2,.var [.int .i64 k,.int .i64 f,.int .i64 n,.int .u8 b,.sl uB d]),(1099511627776,.row 66 syS o)] }):=by kernel_rfl
theorem qyr (k f n b:Int) (d:List Int) (o:List SyT) (i:Nat) (Q:QT) (R:RT):sy tt G0 [] Tryd.f95.ntmps Tryd.f95.results.toList Q R 1000 (hd Tryd.f95 0) ⟨[(1,.win true syS 1099511627776 0 o.length),(2,.ptr 2 0),(6,.int .i64 n),(7,.int .i64 (i:Nat))],[(2,.var [.int .i64 k,.int .i64 f,.int .i64 n,.int .u8 b,.sl uB d]),(1099511627776,.row 66 syS o)]⟩ =
  (bc (decide ((i:Int)<n)) ((0:Nat)+1<=([(false,(0:Int),b)]:List syS.D).length /\
 o.length=o.length /\
 (0:Nat)=(0:Nat) /\
 o.length+(winL syS 0 1 ([(false,(0:Int),b)]:List syS.D)).length<2 ^ 30 /\
 (24:Nat)<=2 ^ 10 /\
 R (hd Tryd.f95 0) { env:=[(1,.win true syS 14 0 (o.length+(winL syS 0 1 ([(false,(0:Int),b)]:List syS.D)).length)),(2,.ptr 2 0),(6,.int .i64 n),(7,.int .i64 (IntKind.i64.wrap ((i:Int)+1))),(8,.bool (decide ((i:Int)<n))),(9,.dead),(10,.ptr 2 3),(11,.int .u8 b),(12,.agg [.bool false,.int .i64 0,.int .u8 b]),(13,.win true syS 13 0 (1:Nat)),(14,.win true syS 14 0 (o.length+(winL syS 0 1 ([(false,(0:Int),b)]:List syS.D)).length)),(15,.int .i64 (IntKind.i64.wrap ((i:Int)+1)))],blk:=[(2,.var [.int .i64 k,.int .i64 f,.int .i64 n,.int .u8 b,.sl uB d]),(13,.row 66 syS ([(false,(0:Int),b)]:List syS.D)),(14,.row 66 syS (o++([(false,(0:Int),b)]:List syS.D)))] }) (Q [.win true syS 1099511627776 0 o.length] [(2,.var [.int .i64 k,.int .i64 f,.int .i64 n,.int .u8 b,.sl uB d]),(1099511627776,.row 66 syS o)])):=by kernel_rfl
theorem qrh (k f n b:Int) (d:List Int) (o:List SyT) (i:Nat) (Q:QT) (R:RT):sy tt G0 [] Tryd.f95.ntmps Tryd.f95.results.toList Q R 1000 (hd Tryd.f95 0) ⟨[(1,.win true syS 1 0 o.length),(2,.ptr 2 0),(6,.int .i64 n),(7,.int .i64 (i:Nat))],[(2,.var [.int .i64 k,.int .i64 f,.int .i64 n,.int .u8 b,.sl uB d]),(1,.row 66 syS o)]⟩ =
  (bc (decide ((i:Int)<n)) ((0:Nat)+1<=([(false,(0:Int),b)]:List syS.D).length /\
 o.length=o.length /\
 (0:Nat)=(0:Nat) /\
 o.length+(winL syS 0 1 ([(false,(0:Int),b)]:List syS.D)).length<2 ^ 30 /\
 (24:Nat)<=2 ^ 10 /\
 R (hd Tryd.f95 0) { env:=[(1,.win true syS 14 0 (o.length+(winL syS 0 1 ([(false,(0:Int),b)]:List syS.D)).length)),(2,.ptr 2 0),(6,.int .i64 n),(7,.int .i64 (IntKind.i64.wrap ((i:Int)+1))),(8,.bool (decide ((i:Int)<n))),(9,.dead),(10,.ptr 2 3),(11,.int .u8 b),(12,.agg [.bool false,.int .i64 0,.int .u8 b]),(13,.win true syS 13 0 (1:Nat)),(14,.win true syS 14 0 (o.length+(winL syS 0 1 ([(false,(0:Int),b)]:List syS.D)).length)),(15,.int .i64 (IntKind.i64.wrap ((i:Int)+1)))],blk:=[(2,.var [.int .i64 k,.int .i64 f,.int .i64 n,.int .u8 b,.sl uB d]),(13,.row 66 syS ([(false,(0:Int),b)]:List syS.D)),(14,.row 66 syS (o++([(false,(0:Int),b)]:List syS.D)))] }) (Q [.win true syS 1 0 o.length] [(2,.var [.int .i64 k,.int .i64 f,.int .i64 n,.int .u8 b,.sl uB d]),(1,.row 66 syS o)])):=by kernel_rfl
theorem q3k (k f n b:Int) (d:List Int) (o:List SyT) (Q:QT) (R:RT):sy tt G0 [] Tryd.f98.ntmps Tryd.f98.results.toList Q R 1000 [.code (qae Tryd.f98)] (qb6 [.dat opS,.row 66 syS] ((k,f,n,b,d),o,())) =
  (R (hd Tryd.f98 0) { env:=[(0,.agg [.int .i64 k,.int .i64 f,.int .i64 n,.int .u8 b,.sl uB d]),(1,.win true syS 1099511627776 0 o.length),(2,.ptr 2 0),(4,.nils),(7,.ptr 2 4),(8,.sl uB d),(9,.int .i64 (d.length:Int)),(10,.int .i64 0)],blk:=[(2,.var [.int .i64 k,.int .i64 f,.int .i64 n,.int .u8 b,.sl uB d]),(1099511627776,.row 66 syS o)] }):=by kernel_rfl
theorem qyy (k f n b:Int) (d:List Int) (o:List SyT) (i:Nat) (Q:QT) (R:RT):sy tt G0 [] Tryd.f98.ntmps Tryd.f98.results.toList Q R 1000 (hd Tryd.f98 0) ⟨[(1,.win true syS 1099511627776 0 o.length),(2,.ptr 2 0),(8,.sl uB d),(9,.int .i64 d.length),(10,.int .i64 (i:Nat))],[(2,.var [.int .i64 k,.int .i64 f,.int .i64 n,.int .u8 b,.sl uB d]),(1099511627776,.row 66 syS o)]⟩ =
  (bc (decide ((i:Int)<(d.length:Int))) ((0:Int)<=(i:Int) /\
 (i:Int)<(d.length:Int) /\
 (0:Nat)+1<=([(false,(0:Int),gtB d (i:Int).toNat)]:List syS.D).length /\
 o.length=o.length /\
 (0:Nat)=(0:Nat) /\
 o.length+(winL syS 0 1 ([(false,(0:Int),gtB d (i:Int).toNat)]:List syS.D)).length<2 ^ 30 /\
 (24:Nat)<=2 ^ 10 /\
 R (hd Tryd.f98 0) { env:=[(1,.win true syS 18 0 (o.length+(winL syS 0 1 ([(false,(0:Int),gtB d (i:Int).toNat)]:List syS.D)).length)),(2,.ptr 2 0),(6,.int .u8 (gtB d (i:Int).toNat)),(8,.sl uB d),(9,.int .i64 (d.length:Int)),(10,.int .i64 (IntKind.i64.wrap ((i:Int)+1))),(11,.bool (decide ((i:Int)<(d.length:Int)))),(12,.elv uB (gtB d (i:Int).toNat)),(13,.int .u8 (gtB d (i:Int).toNat)),(14,.dead),(15,.int .u8 (gtB d (i:Int).toNat)),(16,.agg [.bool false,.int .i64 0,.int .u8 (gtB d (i:Int).toNat)]),(17,.win true syS 17 0 (1:Nat)),(18,.win true syS 18 0 (o.length+(winL syS 0 1 ([(false,(0:Int),gtB d (i:Int).toNat)]:List syS.D)).length)),(19,.int .i64 (IntKind.i64.wrap ((i:Int)+1)))],blk:=[(2,.var [.int .i64 k,.int .i64 f,.int .i64 n,.int .u8 b,.sl uB d]),(17,.row 66 syS ([(false,(0:Int),gtB d (i:Int).toNat)]:List syS.D)),(18,.row 66 syS (o++([(false,(0:Int),gtB d (i:Int).toNat)]:List syS.D)))] }) (Q [.win true syS 1099511627776 0 o.length] [(2,.var [.int .i64 k,.int .i64 f,.int .i64 n,.int .u8 b,.sl uB d]),(1099511627776,.row 66 syS o)])):=by kernel_rfl
theorem qrj (k f n b:Int) (d:List Int) (o:List SyT) (i:Nat) (Q:QT) (R:RT):sy tt G0 [] Tryd.f98.ntmps Tryd.f98.results.toList Q R 1000 (hd Tryd.f98 0) ⟨[(1,.win true syS 1 0 o.length),(2,.ptr 2 0),(8,.sl uB d),(9,.int .i64 d.length),(10,.int .i64 (i:Nat))],[(2,.var [.int .i64 k,.int .i64 f,.int .i64 n,.int .u8 b,.sl uB d]),(1,.row 66 syS o)]⟩ =
  (bc (decide ((i:Int)<(d.length:Int))) ((0:Int)<=(i:Int) /\
 (i:Int)<(d.length:Int) /\
 (0:Nat)+1<=([(false,(0:Int),gtB d (i:Int).toNat)]:List syS.D).length /\
 o.length=o.length /\
 (0:Nat)=(0:Nat) /\
 o.length+(winL syS 0 1 ([(false,(0:Int),gtB d (i:Int).toNat)]:List syS.D)).length<2 ^ 30 /\
 (24:Nat)<=2 ^ 10 /\
 R (hd Tryd.f98 0) { env:=[(1,.win true syS 18 0 (o.length+(winL syS 0 1 ([(false,(0:Int),gtB d (i:Int).toNat)]:List syS.D)).length)),(2,.ptr 2 0),(6,.int .u8 (gtB d (i:Int).toNat)),(8,.sl uB d),(9,.int .i64 (d.length:Int)),(10,.int .i64 (IntKind.i64.wrap ((i:Int)+1))),(11,.bool (decide ((i:Int)<(d.length:Int)))),(12,.elv uB (gtB d (i:Int).toNat)),(13,.int .u8 (gtB d (i:Int).toNat)),(14,.dead),(15,.int .u8 (gtB d (i:Int).toNat)),(16,.agg [.bool false,.int .i64 0,.int .u8 (gtB d (i:Int).toNat)]),(17,.win true syS 17 0 (1:Nat)),(18,.win true syS 18 0 (o.length+(winL syS 0 1 ([(false,(0:Int),gtB d (i:Int).toNat)]:List syS.D)).length)),(19,.int .i64 (IntKind.i64.wrap ((i:Int)+1)))],blk:=[(2,.var [.int .i64 k,.int .i64 f,.int .i64 n,.int .u8 b,.sl uB d]),(17,.row 66 syS ([(false,(0:Int),gtB d (i:Int).toNat)]:List syS.D)),(18,.row 66 syS (o++([(false,(0:Int),gtB d (i:Int).toNat)]:List syS.D)))] }) (Q [.win true syS 1 0 o.length] [(2,.var [.int .i64 k,.int .i64 f,.int .i64 n,.int .u8 b,.sl uB d]),(1,.row 66 syS o)])):=by kernel_rfl
end Go.Proofs.YticpkibnhakgbaaDoor
namespace Go.Proofs.YticpkibnhakgbaaDoor
open Go.Px Go.Ax
set_option maxRecDepth 100000
attribute [local irreducible] Go.Px.sy Go.Px.syE
theorem QI.row {ct:CtrI} {x:DI ct.args} {rs:List SV} {blk:List (Nat × LB)} {e:Sh} {et:TypeId} {a k:Nat} {xs:List e.D} (h:ct.out x=[.win true e 0 0 xs.length]) (hr:ct.blk x=[(0,.row et e xs)]) (hs:rs=[.win true e a 0 k]) (hk:k=xs.length) (hb:lk blk a=some (.row et e xs)) (ha:a<BIG):QI ct x rs blk:=by
 subst hs;subst hk;refine ⟨[(0,a)],?_,?_,by simp,fun p hp=>by simp at hp;subst hp;exact ha⟩
 ·rw[h];exact ⟨_,_,rfl,.inl ⟨true,a,rfl,rfl,fun h=>h⟩,rfl⟩
 ·rw[hr];exact ⟨.inl ⟨a,_,rfl,hb,rfl⟩,trivial⟩
def gen (el:Nat->SyT):Nat->Nat->List SyT
 | 0,_=>[]
 | k+1,i=>el i::gen el k (i+1)
theorem qk1 (el:Nat->SyT):∀ k i,(gen el k i).length=k
 | 0,_=>rfl
 | k+1,i=>by rw[gen,List.length_cons,qk1 el k]
def elO (t:Nat) (x:OpT) (i:Nat):SyT:=match t with
 | 1=>(true,IntKind.i64.wrap (x.2.1+i),0)
 | 2=>(true,IntKind.i64.wrap (x.2.1+i),gtB x.2.2.2.2 i)
 | 3=>(false,0,x.2.2.2.1)
 | _=>(false,0,gtB x.2.2.2.2 i)
def cntO (t:Nat) (x:OpT):Nat:=match t with
 | 1=>x.2.2.1.toNat
 | 3=>x.2.2.1.toNat
 | _=>x.2.2.2.2.length
def qaw (t:Nat) (x:OpT):List SyT:=gen (elO t x) (cntO t x) 0
def preA (t:Nat) (x:OpT) (o:List SyT):Prop:=1<=cntO t x/\o.length+cntO t x<268435456/\x.2.2.1<268435456
abbrev KA:List AK:=[.dat opS,.row 66 syS]
def ctA (t:Nat):CtrI:=⟨KA,fun x=>preA t x.1 x.2.1,fun x=>[.win true syS 0 0 (List.length (x.2.1++qaw t x.1))],fun x=>[(0,.row 66 syS (x.2.1++qaw t x.1))]⟩
abbrev GQ (t:Nat) (x:OpT) (o:List SyT):List SV->List (Nat × LB)->Prop:=QI (ctA t) (x,o,())
theorem quq (k f n b:Int) (d:List Int) (o0:List SyT) (hb:n<268435456/\True):∀ (c i:Nat) (o:List SyT),cntO 1 (k,f,n,b,d)-i=c->i<=cntO 1 (k,f,n,b,d)->o.length+c<268435456->o++gen (elO 1 (k,f,n,b,d)) c i=o0++qaw 1 (k,f,n,b,d) ->
  GD 88 Tryd.f88 (GQ 1 (k,f,n,b,d) o0) (hd Tryd.f88 0) ⟨[(1,.win true syS 1 0 o.length),(2,.ptr 2 0),(7,.int .i64 n),(8,.int .i64 (i:Nat))],[(2,.var [.int .i64 k,.int .i64 f,.int .i64 n,.int .u8 b,.sl uB d]),(1,.row 66 syS o)]⟩:=by
 intro c
 induction c with
 | zero=>
  intro i o hc hi hl he;have hn:cntO 1 (k,f,n,b,d)=n.toNat:=rfl;refine qak cx0 _ _ _ ((qn1 k f n b d o i _ _).mpr ?_);rw[decide_eq_false (by omega),bc_f];have he:o=o0++qaw 1 (k,f,n,b,d):=by simpa [gen] using he
  exact QI.row (e:=syS) (et:=66) (a:=1) (xs:=o0++qaw 1 (k,f,n,b,d)) rfl rfl (by rw[he]) rfl (by rw[he];rfl) (by decide)
 | succ c ih=>
  intro i o hc hi hl he;have hn:cntO 1 (k,f,n,b,d)=n.toNat:=rfl;refine qak cx0 _ _ _ ((qn1 k f n b d o i _ _).mpr ?_);rw[decide_eq_true (show (i:Int)<n by omega),bc_t,IntWalk.i64_in ((i:Int)+1) (by omega)];refine ⟨Nat.le_refl 1,rfl,rfl,?_,by decide,?_⟩
  ·show o.length+1<2 ^ 30
   omega
  ·refine Good.onlyR (ih (i+1) (o++[elO 1 (k,f,n,b,d) i]) (by omega) (by omega) (by rw[List.length_append,List.length_singleton];omega) (by rw[List.append_assoc];exact he)) [(1,18)] rfl ⟨by rw[List.length_append];rfl,rfl,rfl,rfl,trivial⟩ ⟨rfl,rfl,trivial⟩
theorem qur:HeldI Tryd.prog G0 88 (ctA 1):=by
 refine HeldI.run cx0 (fn:=Tryd.f88) rfl rfl ⟨by decide,by decide⟩ ?_;rintro ⟨⟨k,f,n,b,d⟩,o,⟨⟩⟩ hp;obtain ⟨h1,h2,h3⟩:preA 1 (k,f,n,b,d) o:=hp;have hn:cntO 1 (k,f,n,b,d)=n.toNat:=rfl;replace h3:n<268435456:=h3;refine (qy5 k f n b d o _ _).mpr ?_;have hb:n<268435456/\True:=⟨h3,trivial⟩;obtain ⟨c,hc⟩:∃ c,cntO 1 (k,f,n,b,d)=c+1:=⟨cntO 1 (k,f,n,b,d)-1,by omega⟩;have e:GD 88 Tryd.f88 (GQ 1 (k,f,n,b,d) o) (hd Tryd.f88 0) ⟨[(1,.win true syS 1099511627776 0 o.length),(2,.ptr 2 0),(7,.int .i64 n),(8,.int .i64 ((0:Nat):Int))],[(2,.var [.int .i64 k,.int .i64 f,.int .i64 n,.int .u8 b,.sl uB d]),(1099511627776,.row 66 syS o)]⟩:=by
  refine qak cx0 _ _ _ ((qvg k f n b d o 0 _ _).mpr ?_);rw[decide_eq_true (show ((0:Nat):Int)<n by omega),bc_t,IntWalk.i64_in (((0:Nat):Int)+1) (by omega)];refine ⟨Nat.le_refl 1,rfl,rfl,?_,by decide,?_⟩
  ·show o.length+1<2 ^ 30
   omega
  ·refine Good.onlyR (quq k f n b d o ⟨h3,trivial⟩ c 1 (o++[elO 1 (k,f,n,b,d) 0]) (by omega) (by omega) (by rw[List.length_append,List.length_singleton];omega) (by rw[List.append_assoc];unfold qaw;rw[hc];rfl)) [(1,18)] rfl ⟨by rw[List.length_append];rfl,rfl,rfl,rfl,trivial⟩ ⟨rfl,rfl,trivial⟩
 exact e.only ⟨rfl,rfl,rfl,rfl,trivial⟩ ⟨rfl,rfl,trivial⟩
theorem quj (k f n b:Int) (d:List Int) (o0:List SyT) (hb:n<268435456/\d.length<268435456):∀ (c i:Nat) (o:List SyT),cntO 2 (k,f,n,b,d)-i=c->i<=cntO 2 (k,f,n,b,d)->o.length+c<268435456->o++gen (elO 2 (k,f,n,b,d)) c i=o0++qaw 2 (k,f,n,b,d) ->
  GD 92 Tryd.f92 (GQ 2 (k,f,n,b,d) o0) (hd Tryd.f92 0) ⟨[(1,.win true syS 1 0 o.length),(2,.ptr 2 0),(8,.sl uB d),(9,.int .i64 d.length),(10,.int .i64 (i:Nat))],[(2,.var [.int .i64 k,.int .i64 f,.int .i64 n,.int .u8 b,.sl uB d]),(1,.row 66 syS o)]⟩:=by
 intro c
 induction c with
 | zero=>
  intro i o hc hi hl he;have hn:cntO 2 (k,f,n,b,d)=d.length:=rfl;refine qak cx0 _ _ _ ((qn0 k f n b d o i _ _).mpr ?_);rw[decide_eq_false (by omega),bc_f];have he:o=o0++qaw 2 (k,f,n,b,d):=by simpa [gen] using he
  exact QI.row (e:=syS) (et:=66) (a:=1) (xs:=o0++qaw 2 (k,f,n,b,d)) rfl rfl (by rw[he]) rfl (by rw[he];rfl) (by decide)
 | succ c ih=>
  intro i o hc hi hl he;have hn:cntO 2 (k,f,n,b,d)=d.length:=rfl;refine qak cx0 _ _ _ ((qn0 k f n b d o i _ _).mpr ?_);rw[decide_eq_true (show (i:Int)<(d.length:Int) by omega),bc_t,IntWalk.i64_in ((i:Int)+1) (by omega),Int.toNat_natCast];refine ⟨by omega,by omega,Nat.le_refl 1,rfl,rfl,?_,by decide,?_⟩
  ·show o.length+1<2 ^ 30
   omega
  ·refine Good.onlyR (ih (i+1) (o++[elO 2 (k,f,n,b,d) i]) (by omega) (by omega) (by rw[List.length_append,List.length_singleton];omega) (by rw[List.append_assoc];exact he)) [(1,23)] rfl ⟨by rw[List.length_append];rfl,rfl,rfl,rfl,rfl,trivial⟩ ⟨rfl,rfl,trivial⟩
theorem quk:HeldI Tryd.prog G0 92 (ctA 2):=by
 refine HeldI.run cx0 (fn:=Tryd.f92) rfl rfl ⟨by decide,by decide⟩ ?_;rintro ⟨⟨k,f,n,b,d⟩,o,⟨⟩⟩ hp;obtain ⟨h1,h2,h3⟩:preA 2 (k,f,n,b,d) o:=hp;have hn:cntO 2 (k,f,n,b,d)=d.length:=rfl;replace h3:n<268435456:=h3;refine (qy2 k f n b d o _ _).mpr ?_;have hb:n<268435456/\d.length<268435456:=⟨h3,by omega⟩;obtain ⟨c,hc⟩:∃ c,cntO 2 (k,f,n,b,d)=c+1:=⟨cntO 2 (k,f,n,b,d)-1,by omega⟩;have e:GD 92 Tryd.f92 (GQ 2 (k,f,n,b,d) o) (hd Tryd.f92 0) ⟨[(1,.win true syS 1099511627776 0 o.length),(2,.ptr 2 0),(8,.sl uB d),(9,.int .i64 d.length),(10,.int .i64 ((0:Nat):Int))],[(2,.var [.int .i64 k,.int .i64 f,.int .i64 n,.int .u8 b,.sl uB d]),(1099511627776,.row 66 syS o)]⟩:=by
  refine qak cx0 _ _ _ ((qvf k f n b d o 0 _ _).mpr ?_);rw[decide_eq_true (show ((0:Nat):Int)<(d.length:Int) by omega),bc_t,IntWalk.i64_in (((0:Nat):Int)+1) (by omega),Int.toNat_natCast];refine ⟨by omega,by omega,Nat.le_refl 1,rfl,rfl,?_,by decide,?_⟩
  ·show o.length+1<2 ^ 30
   omega
  ·refine Good.onlyR (quj k f n b d o hb c 1 (o++[elO 2 (k,f,n,b,d) 0]) (by omega) (by omega) (by rw[List.length_append,List.length_singleton];omega) (by rw[List.append_assoc];unfold qaw;rw[hc];rfl)) [(1,23)] rfl ⟨by rw[List.length_append];rfl,rfl,rfl,rfl,rfl,trivial⟩ ⟨rfl,rfl,trivial⟩
 exact e.only ⟨rfl,rfl,rfl,rfl,rfl,trivial⟩ ⟨rfl,rfl,trivial⟩
theorem qv5 (k f n b:Int) (d:List Int) (o0:List SyT) (hb:n<268435456/\True):∀ (c i:Nat) (o:List SyT),cntO 3 (k,f,n,b,d)-i=c->i<=cntO 3 (k,f,n,b,d)->o.length+c<268435456->o++gen (elO 3 (k,f,n,b,d)) c i=o0++qaw 3 (k,f,n,b,d) ->
  GD 95 Tryd.f95 (GQ 3 (k,f,n,b,d) o0) (hd Tryd.f95 0) ⟨[(1,.win true syS 1 0 o.length),(2,.ptr 2 0),(6,.int .i64 n),(7,.int .i64 (i:Nat))],[(2,.var [.int .i64 k,.int .i64 f,.int .i64 n,.int .u8 b,.sl uB d]),(1,.row 66 syS o)]⟩:=by
 intro c
 induction c with
 | zero=>
  intro i o hc hi hl he;have hn:cntO 3 (k,f,n,b,d)=n.toNat:=rfl;refine qak cx0 _ _ _ ((qrh k f n b d o i _ _).mpr ?_);rw[decide_eq_false (by omega),bc_f];have he:o=o0++qaw 3 (k,f,n,b,d):=by simpa [gen] using he
  exact QI.row (e:=syS) (et:=66) (a:=1) (xs:=o0++qaw 3 (k,f,n,b,d)) rfl rfl (by rw[he]) rfl (by rw[he];rfl) (by decide)
 | succ c ih=>
  intro i o hc hi hl he;have hn:cntO 3 (k,f,n,b,d)=n.toNat:=rfl;refine qak cx0 _ _ _ ((qrh k f n b d o i _ _).mpr ?_);rw[decide_eq_true (show (i:Int)<n by omega),bc_t,IntWalk.i64_in ((i:Int)+1) (by omega)];refine ⟨Nat.le_refl 1,rfl,rfl,?_,by decide,?_⟩
  ·show o.length+1<2 ^ 30
   omega
  ·refine Good.onlyR (ih (i+1) (o++[elO 3 (k,f,n,b,d) i]) (by omega) (by omega) (by rw[List.length_append,List.length_singleton];omega) (by rw[List.append_assoc];exact he)) [(1,14)] rfl ⟨by rw[List.length_append];rfl,rfl,rfl,rfl,trivial⟩ ⟨rfl,rfl,trivial⟩
theorem qv6:HeldI Tryd.prog G0 95 (ctA 3):=by
 refine HeldI.run cx0 (fn:=Tryd.f95) rfl rfl ⟨by decide,by decide⟩ ?_;rintro ⟨⟨k,f,n,b,d⟩,o,⟨⟩⟩ hp;obtain ⟨h1,h2,h3⟩:preA 3 (k,f,n,b,d) o:=hp;have hn:cntO 3 (k,f,n,b,d)=n.toNat:=rfl;replace h3:n<268435456:=h3;refine (q3d k f n b d o _ _).mpr ?_;have hb:n<268435456/\True:=⟨h3,trivial⟩;obtain ⟨c,hc⟩:∃ c,cntO 3 (k,f,n,b,d)=c+1:=⟨cntO 3 (k,f,n,b,d)-1,by omega⟩;have e:GD 95 Tryd.f95 (GQ 3 (k,f,n,b,d) o) (hd Tryd.f95 0) ⟨[(1,.win true syS 1099511627776 0 o.length),(2,.ptr 2 0),(6,.int .i64 n),(7,.int .i64 ((0:Nat):Int))],[(2,.var [.int .i64 k,.int .i64 f,.int .i64 n,.int .u8 b,.sl uB d]),(1099511627776,.row 66 syS o)]⟩:=by
  refine qak cx0 _ _ _ ((qyr k f n b d o 0 _ _).mpr ?_);rw[decide_eq_true (show ((0:Nat):Int)<n by omega),bc_t,IntWalk.i64_in (((0:Nat):Int)+1) (by omega)];refine ⟨Nat.le_refl 1,rfl,rfl,?_,by decide,?_⟩
  ·show o.length+1<2 ^ 30
   omega
  ·refine Good.onlyR (qv5 k f n b d o ⟨h3,trivial⟩ c 1 (o++[elO 3 (k,f,n,b,d) 0]) (by omega) (by omega) (by rw[List.length_append,List.length_singleton];omega) (by rw[List.append_assoc];unfold qaw;rw[hc];rfl)) [(1,14)] rfl ⟨by rw[List.length_append];rfl,rfl,rfl,rfl,trivial⟩ ⟨rfl,rfl,trivial⟩
 exact e.only ⟨rfl,rfl,rfl,rfl,trivial⟩ ⟨rfl,rfl,trivial⟩
theorem qxe (k f n b:Int) (d:List Int) (o0:List SyT) (hb:n<268435456/\d.length<268435456):∀ (c i:Nat) (o:List SyT),cntO 4 (k,f,n,b,d)-i=c->i<=cntO 4 (k,f,n,b,d)->o.length+c<268435456->o++gen (elO 4 (k,f,n,b,d)) c i=o0++qaw 4 (k,f,n,b,d) ->
  GD 98 Tryd.f98 (GQ 4 (k,f,n,b,d) o0) (hd Tryd.f98 0) ⟨[(1,.win true syS 1 0 o.length),(2,.ptr 2 0),(8,.sl uB d),(9,.int .i64 d.length),(10,.int .i64 (i:Nat))],[(2,.var [.int .i64 k,.int .i64 f,.int .i64 n,.int .u8 b,.sl uB d]),(1,.row 66 syS o)]⟩:=by
 intro c
 induction c with
 | zero=>
  intro i o hc hi hl he;have hn:cntO 4 (k,f,n,b,d)=d.length:=rfl;refine qak cx0 _ _ _ ((qrj k f n b d o i _ _).mpr ?_);rw[decide_eq_false (by omega),bc_f];have he:o=o0++qaw 4 (k,f,n,b,d):=by simpa [gen] using he
  exact QI.row (e:=syS) (et:=66) (a:=1) (xs:=o0++qaw 4 (k,f,n,b,d)) rfl rfl (by rw[he]) rfl (by rw[he];rfl) (by decide)
 | succ c ih=>
  intro i o hc hi hl he;have hn:cntO 4 (k,f,n,b,d)=d.length:=rfl;refine qak cx0 _ _ _ ((qrj k f n b d o i _ _).mpr ?_);rw[decide_eq_true (show (i:Int)<(d.length:Int) by omega),bc_t,IntWalk.i64_in ((i:Int)+1) (by omega),Int.toNat_natCast];refine ⟨by omega,by omega,Nat.le_refl 1,rfl,rfl,?_,by decide,?_⟩
  ·show o.length+1<2 ^ 30
   omega
  ·refine Good.onlyR (ih (i+1) (o++[elO 4 (k,f,n,b,d) i]) (by omega) (by omega) (by rw[List.length_append,List.length_singleton];omega) (by rw[List.append_assoc];exact he)) [(1,18)] rfl ⟨by rw[List.length_append];rfl,rfl,rfl,rfl,rfl,trivial⟩ ⟨rfl,rfl,trivial⟩
theorem qxf:HeldI Tryd.prog G0 98 (ctA 4):=by
 refine HeldI.run cx0 (fn:=Tryd.f98) rfl rfl ⟨by decide,by decide⟩ ?_;rintro ⟨⟨k,f,n,b,d⟩,o,⟨⟩⟩ hp;obtain ⟨h1,h2,h3⟩:preA 4 (k,f,n,b,d) o:=hp;have hn:cntO 4 (k,f,n,b,d)=d.length:=rfl;replace h3:n<268435456:=h3;refine (q3k k f n b d o _ _).mpr ?_;have hb:n<268435456/\d.length<268435456:=⟨h3,by omega⟩;obtain ⟨c,hc⟩:∃ c,cntO 4 (k,f,n,b,d)=c+1:=⟨cntO 4 (k,f,n,b,d)-1,by omega⟩;have e:GD 98 Tryd.f98 (GQ 4 (k,f,n,b,d) o) (hd Tryd.f98 0) ⟨[(1,.win true syS 1099511627776 0 o.length),(2,.ptr 2 0),(8,.sl uB d),(9,.int .i64 d.length),(10,.int .i64 ((0:Nat):Int))],[(2,.var [.int .i64 k,.int .i64 f,.int .i64 n,.int .u8 b,.sl uB d]),(1099511627776,.row 66 syS o)]⟩:=by
  refine qak cx0 _ _ _ ((qyy k f n b d o 0 _ _).mpr ?_);rw[decide_eq_true (show ((0:Nat):Int)<(d.length:Int) by omega),bc_t,IntWalk.i64_in (((0:Nat):Int)+1) (by omega),Int.toNat_natCast];refine ⟨by omega,by omega,Nat.le_refl 1,rfl,rfl,?_,by decide,?_⟩
  ·show o.length+1<2 ^ 30
   omega
  ·refine Good.onlyR (qxe k f n b d o hb c 1 (o++[elO 4 (k,f,n,b,d) 0]) (by omega) (by omega) (by rw[List.length_append,List.length_singleton];omega) (by rw[List.append_assoc];unfold qaw;rw[hc];rfl)) [(1,18)] rfl ⟨by rw[List.length_append];rfl,rfl,rfl,rfl,rfl,trivial⟩ ⟨rfl,rfl,trivial⟩
 exact e.only ⟨rfl,rfl,rfl,rfl,rfl,trivial⟩ ⟨rfl,rfl,trivial⟩
end Go.Proofs.YticpkibnhakgbaaDoor
namespace Go.Proofs.YticpkibnhakgbaaDoor
open Go.Px Go.Ax
set_option maxRecDepth 100000
def CA:CV:=(98,.inr (ctA 4))::(95,.inr (ctA 3))::(92,.inr (ctA 2))::(88,.inr (ctA 1))::(40,.inl ctChk)::C1
theorem cxA:CxOK Tryd.prog tt G0 CA:=((((cx1.cons q07 (fn:=Tryd.f40) rfl rfl rfl).consI qur (fn:=Tryd.f88) rfl rfl rfl).consI quk (fn:=Tryd.f92) rfl rfl rfl).consI qv6 (fn:=Tryd.f95) rfl rfl rfl).consI qxf (fn:=Tryd.f98) rfl rfl rfl
def E1:CV:=(41,.inl (ctO 1 92))::CA
def E2:CV:=(41,.inl (ctO 2 93))::CA
def E3:CV:=(41,.inl (ctO 3 94))::CA
def E4:CV:=(41,.inl (ctO 4 95))::CA
theorem ex1:CxOK Tryd.prog tt G0 E1:=cxA.cons qwy (fn:=Tryd.f41) rfl rfl rfl
theorem ex2:CxOK Tryd.prog tt G0 E2:=cxA.cons qwx (fn:=Tryd.f41) rfl rfl rfl
theorem ex3:CxOK Tryd.prog tt G0 E3:=cxA.cons qww (fn:=Tryd.f41) rfl rfl rfl
theorem ex4:CxOK Tryd.prog tt G0 E4:=cxA.cons qwv (fn:=Tryd.f41) rfl rfl rfl
set_option maxRecDepth 100000
theorem q29 (li:Bool) (m o:Int) (l:List OpT) (Q:QT) (R:RT):sy tt G0 CA Tryd.f24.ntmps Tryd.f24.results.toList Q R 1000 [.code (qae Tryd.f24)] (entry [paS] ((li,m,o,l),())) =
  (ctChk.pre ((li,m,o,l),()) /\
 bc (decide ((chkV (li,m,o,l)).2≠0)) (Q [.nils,.int .i64 (chkV (li,m,o,l)).2] [(1,.var [.bool li,.int .i64 m,.int .i64 o,.sl opS l])]) ((0:Int)<=0 /\
 (0:Int)<=o /\
 o<2 ^ 24 /\
 (↑(24:Nat):Int)*o<=2 ^ 48 /\
 R (hd Tryd.f24 0) { env:=[(0,.agg [.bool li,.int .i64 m,.int .i64 o,.sl opS l]),(1,.ptr 1 0),(2,.nils),(3,.int .i64 0),(4,.int .i64 (chkV (li,m,o,l)).1),(5,.int .i64 (chkV (li,m,o,l)).2),(6,.win true syS 19 0 (0:Nat)),(9,SV.tup [.int .i64 (chkV (li,m,o,l)).1,.int .i64 (chkV (li,m,o,l)).2]),(10,.agg [.bool li,.int .i64 m,.int .i64 o,.sl opS l]),(11,SV.tup [.int .i64 (chkV (li,m,o,l)).1,.int .i64 (chkV (li,m,o,l)).2]),(12,.int .i64 (chkV (li,m,o,l)).1),(13,.int .i64 (chkV (li,m,o,l)).2),(14,.int .i64 (chkV (li,m,o,l)).2),(15,.bool (decide ((chkV (li,m,o,l)).2≠0))),(17,.ptr 1 2),(18,.int .i64 o),(19,.win true syS 19 0 (0:Nat)),(20,.ptr 1 3),(21,.sl opS l),(22,.int .i64 (l.length:Int)),(23,.int .i64 0)],blk:=[(1,.var [.bool li,.int .i64 m,.int .i64 o,.sl opS l]),(19,.row 66 syS (List.replicate (0) syS.dflt))] })):=by kernel_rfl
theorem qny (li:Bool) (m o:Int) (l:List OpT) (s:List SyT) (i:Nat) (Q:QT) (R:RT):sy tt G0 E1 Tryd.f24.ntmps Tryd.f24.results.toList Q R 1000 (hd Tryd.f24 0) ⟨[(1,.ptr 1 0),(6,.win true syS 19 0 s.length),(21,.sl opS l),(22,.int .i64 l.length),(23,.int .i64 (i:Nat))],[(1,.var [.bool li,.int .i64 m,.int .i64 o,.sl opS l]),(19,.row 66 syS s)]⟩ =
  (bc (decide ((i:Int)<(l.length:Int))) ((0:Int)<=(i:Int) /\
 (i:Int)<(l.length:Int) /\
 (ctO (1:Int) (92:Nat)).pre ((gtO l (i:Int).toNat),()) /\
 s.length=s.length /\
 (ctA (1:Nat)).pre ((gtO l (i:Int).toNat),s,()) /\
 R (hd Tryd.f24 0) { env:=[(1,.ptr 1 0),(6,.win true syS 1122880 0 (List.length (s++qaw (1:Nat) (gtO l (i:Int).toNat)))),(8,.ptr 8 0),(21,.sl opS l),(22,.int .i64 (l.length:Int)),(23,.int .i64 (IntKind.i64.wrap ((i:Int)+1))),(24,.bool (decide ((i:Int)<(l.length:Int)))),(25,.elv opS (gtO l (i:Int).toNat)),(26,.agg [.int .i64 (gtO l (i:Int).toNat).1,.int .i64 (gtO l (i:Int).toNat).2.1,.int .i64 (gtO l (i:Int).toNat).2.2.1,.int .u8 (gtO l (i:Int).toNat).2.2.2.1,.sl uB (gtO l (i:Int).toNat).2.2.2.2]),(27,.agg [.int .i64 (gtO l (i:Int).toNat).1,.int .i64 (gtO l (i:Int).toNat).2.1,.int .i64 (gtO l (i:Int).toNat).2.2.1,.int .u8 (gtO l (i:Int).toNat).2.2.2.1,.sl uB (gtO l (i:Int).toNat).2.2.2.2]),(28,.ifc (92:Nat) true [.int .i64 (gtO l (i:Int).toNat).1,.int .i64 (gtO l (i:Int).toNat).2.1,.int .i64 (gtO l (i:Int).toNat).2.2.1,.int .u8 (gtO l (i:Int).toNat).2.2.2.1,.sl uB (gtO l (i:Int).toNat).2.2.2.2]),(29,.dead),(30,.win true syS 1122880 0 (List.length (s++qaw (1:Nat) (gtO l (i:Int).toNat)))),(31,.int .i64 (IntKind.i64.wrap ((i:Int)+1)))],blk:=[(1,.var [.bool li,.int .i64 m,.int .i64 o,.sl opS l]),(8,.var [.int .i64 (gtO l (i:Int).toNat).1,.int .i64 (gtO l (i:Int).toNat).2.1,.int .i64 (gtO l (i:Int).toNat).2.2.1,.int .u8 (gtO l (i:Int).toNat).2.2.2.1,.sl uB (gtO l (i:Int).toNat).2.2.2.2]),(1122880,.row 66 syS (s++qaw (1:Nat) (gtO l (i:Int).toNat)))] }) (Q [.win true syS 19 0 s.length,.int .i64 0] [(1,.var [.bool li,.int .i64 m,.int .i64 o,.sl opS l]),(19,.row 66 syS s)])):=by kernel_rfl
theorem quz (li:Bool) (m o:Int) (l:List OpT) (s:List SyT) (i:Nat) (Q:QT) (R:RT):sy tt G0 E2 Tryd.f24.ntmps Tryd.f24.results.toList Q R 1000 (hd Tryd.f24 0) ⟨[(1,.ptr 1 0),(6,.win true syS 19 0 s.length),(21,.sl opS l),(22,.int .i64 l.length),(23,.int .i64 (i:Nat))],[(1,.var [.bool li,.int .i64 m,.int .i64 o,.sl opS l]),(19,.row 66 syS s)]⟩ =
  (bc (decide ((i:Int)<(l.length:Int))) ((0:Int)<=(i:Int) /\
 (i:Int)<(l.length:Int) /\
 (ctO (2:Int) (93:Nat)).pre ((gtO l (i:Int).toNat),()) /\
 s.length=s.length /\
 (ctA (2:Nat)).pre ((gtO l (i:Int).toNat),s,()) /\
 R (hd Tryd.f24 0) { env:=[(1,.ptr 1 0),(6,.win true syS 1122880 0 (List.length (s++qaw (2:Nat) (gtO l (i:Int).toNat)))),(8,.ptr 8 0),(21,.sl opS l),(22,.int .i64 (l.length:Int)),(23,.int .i64 (IntKind.i64.wrap ((i:Int)+1))),(24,.bool (decide ((i:Int)<(l.length:Int)))),(25,.elv opS (gtO l (i:Int).toNat)),(26,.agg [.int .i64 (gtO l (i:Int).toNat).1,.int .i64 (gtO l (i:Int).toNat).2.1,.int .i64 (gtO l (i:Int).toNat).2.2.1,.int .u8 (gtO l (i:Int).toNat).2.2.2.1,.sl uB (gtO l (i:Int).toNat).2.2.2.2]),(27,.agg [.int .i64 (gtO l (i:Int).toNat).1,.int .i64 (gtO l (i:Int).toNat).2.1,.int .i64 (gtO l (i:Int).toNat).2.2.1,.int .u8 (gtO l (i:Int).toNat).2.2.2.1,.sl uB (gtO l (i:Int).toNat).2.2.2.2]),(28,.ifc (93:Nat) true [.int .i64 (gtO l (i:Int).toNat).1,.int .i64 (gtO l (i:Int).toNat).2.1,.int .i64 (gtO l (i:Int).toNat).2.2.1,.int .u8 (gtO l (i:Int).toNat).2.2.2.1,.sl uB (gtO l (i:Int).toNat).2.2.2.2]),(29,.dead),(30,.win true syS 1122880 0 (List.length (s++qaw (2:Nat) (gtO l (i:Int).toNat)))),(31,.int .i64 (IntKind.i64.wrap ((i:Int)+1)))],blk:=[(1,.var [.bool li,.int .i64 m,.int .i64 o,.sl opS l]),(8,.var [.int .i64 (gtO l (i:Int).toNat).1,.int .i64 (gtO l (i:Int).toNat).2.1,.int .i64 (gtO l (i:Int).toNat).2.2.1,.int .u8 (gtO l (i:Int).toNat).2.2.2.1,.sl uB (gtO l (i:Int).toNat).2.2.2.2]),(1122880,.row 66 syS (s++qaw (2:Nat) (gtO l (i:Int).toNat)))] }) (Q [.win true syS 19 0 s.length,.int .i64 0] [(1,.var [.bool li,.int .i64 m,.int .i64 o,.sl opS l]),(19,.row 66 syS s)])):=by kernel_rfl
theorem quy (li:Bool) (m o:Int) (l:List OpT) (s:List SyT) (i:Nat) (Q:QT) (R:RT):sy tt G0 E3 Tryd.f24.ntmps Tryd.f24.results.toList Q R 1000 (hd Tryd.f24 0) ⟨[(1,.ptr 1 0),(6,.win true syS 19 0 s.length),(21,.sl opS l),(22,.int .i64 l.length),(23,.int .i64 (i:Nat))],[(1,.var [.bool li,.int .i64 m,.int .i64 o,.sl opS l]),(19,.row 66 syS s)]⟩ =
  (bc (decide ((i:Int)<(l.length:Int))) ((0:Int)<=(i:Int) /\
 (i:Int)<(l.length:Int) /\
 (ctO (3:Int) (94:Nat)).pre ((gtO l (i:Int).toNat),()) /\
 s.length=s.length /\
 (ctA (3:Nat)).pre ((gtO l (i:Int).toNat),s,()) /\
 R (hd Tryd.f24 0) { env:=[(1,.ptr 1 0),(6,.win true syS 1122880 0 (List.length (s++qaw (3:Nat) (gtO l (i:Int).toNat)))),(8,.ptr 8 0),(21,.sl opS l),(22,.int .i64 (l.length:Int)),(23,.int .i64 (IntKind.i64.wrap ((i:Int)+1))),(24,.bool (decide ((i:Int)<(l.length:Int)))),(25,.elv opS (gtO l (i:Int).toNat)),(26,.agg [.int .i64 (gtO l (i:Int).toNat).1,.int .i64 (gtO l (i:Int).toNat).2.1,.int .i64 (gtO l (i:Int).toNat).2.2.1,.int .u8 (gtO l (i:Int).toNat).2.2.2.1,.sl uB (gtO l (i:Int).toNat).2.2.2.2]),(27,.agg [.int .i64 (gtO l (i:Int).toNat).1,.int .i64 (gtO l (i:Int).toNat).2.1,.int .i64 (gtO l (i:Int).toNat).2.2.1,.int .u8 (gtO l (i:Int).toNat).2.2.2.1,.sl uB (gtO l (i:Int).toNat).2.2.2.2]),(28,.ifc (94:Nat) true [.int .i64 (gtO l (i:Int).toNat).1,.int .i64 (gtO l (i:Int).toNat).2.1,.int .i64 (gtO l (i:Int).toNat).2.2.1,.int .u8 (gtO l (i:Int).toNat).2.2.2.1,.sl uB (gtO l (i:Int).toNat).2.2.2.2]),(29,.dead),(30,.win true syS 1122880 0 (List.length (s++qaw (3:Nat) (gtO l (i:Int).toNat)))),(31,.int .i64 (IntKind.i64.wrap ((i:Int)+1)))],blk:=[(1,.var [.bool li,.int .i64 m,.int .i64 o,.sl opS l]),(8,.var [.int .i64 (gtO l (i:Int).toNat).1,.int .i64 (gtO l (i:Int).toNat).2.1,.int .i64 (gtO l (i:Int).toNat).2.2.1,.int .u8 (gtO l (i:Int).toNat).2.2.2.1,.sl uB (gtO l (i:Int).toNat).2.2.2.2]),(1122880,.row 66 syS (s++qaw (3:Nat) (gtO l (i:Int).toNat)))] }) (Q [.win true syS 19 0 s.length,.int .i64 0] [(1,.var [.bool li,.int .i64 m,.int .i64 o,.sl opS l]),(19,.row 66 syS s)])):=by kernel_rfl
theorem qux (li:Bool) (m o:Int) (l:List OpT) (s:List SyT) (i:Nat) (Q:QT) (R:RT):sy tt G0 E4 Tryd.f24.ntmps Tryd.f24.results.toList Q R 1000 (hd Tryd.f24 0) ⟨[(1,.ptr 1 0),(6,.win true syS 19 0 s.length),(21,.sl opS l),(22,.int .i64 l.length),(23,.int .i64 (i:Nat))],[(1,.var [.bool li,.int .i64 m,.int .i64 o,.sl opS l]),(19,.row 66 syS s)]⟩ =
  (bc (decide ((i:Int)<(l.length:Int))) ((0:Int)<=(i:Int) /\
 (i:Int)<(l.length:Int) /\
 (ctO (4:Int) (95:Nat)).pre ((gtO l (i:Int).toNat),()) /\
 s.length=s.length /\
 (ctA (4:Nat)).pre ((gtO l (i:Int).toNat),s,()) /\
 R (hd Tryd.f24 0) { env:=[(1,.ptr 1 0),(6,.win true syS 1122880 0 (List.length (s++qaw (4:Nat) (gtO l (i:Int).toNat)))),(8,.ptr 8 0),(21,.sl opS l),(22,.int .i64 (l.length:Int)),(23,.int .i64 (IntKind.i64.wrap ((i:Int)+1))),(24,.bool (decide ((i:Int)<(l.length:Int)))),(25,.elv opS (gtO l (i:Int).toNat)),(26,.agg [.int .i64 (gtO l (i:Int).toNat).1,.int .i64 (gtO l (i:Int).toNat).2.1,.int .i64 (gtO l (i:Int).toNat).2.2.1,.int .u8 (gtO l (i:Int).toNat).2.2.2.1,.sl uB (gtO l (i:Int).toNat).2.2.2.2]),(27,.agg [.int .i64 (gtO l (i:Int).toNat).1,.int .i64 (gtO l (i:Int).toNat).2.1,.int .i64 (gtO l (i:Int).toNat).2.2.1,.int .u8 (gtO l (i:Int).toNat).2.2.2.1,.sl uB (gtO l (i:Int).toNat).2.2.2.2]),(28,.ifc (95:Nat) true [.int .i64 (gtO l (i:Int).toNat).1,.int .i64 (gtO l (i:Int).toNat).2.1,.int .i64 (gtO l (i:Int).toNat).2.2.1,.int .u8 (gtO l (i:Int).toNat).2.2.2.1,.sl uB (gtO l (i:Int).toNat).2.2.2.2]),(29,.dead),(30,.win true syS 1122880 0 (List.length (s++qaw (4:Nat) (gtO l (i:Int).toNat)))),(31,.int .i64 (IntKind.i64.wrap ((i:Int)+1)))],blk:=[(1,.var [.bool li,.int .i64 m,.int .i64 o,.sl opS l]),(8,.var [.int .i64 (gtO l (i:Int).toNat).1,.int .i64 (gtO l (i:Int).toNat).2.1,.int .i64 (gtO l (i:Int).toNat).2.2.1,.int .u8 (gtO l (i:Int).toNat).2.2.2.1,.sl uB (gtO l (i:Int).toNat).2.2.2.2]),(1122880,.row 66 syS (s++qaw (4:Nat) (gtO l (i:Int).toNat)))] }) (Q [.win true syS 19 0 s.length,.int .i64 0] [(1,.var [.bool li,.int .i64 m,.int .i64 o,.sl opS l]),(19,.row 66 syS s)])):=by kernel_rfl
theorem qnz (n:Int) (Q:QT) (R:RT):sy tt G0 [] Tryd.f31.ntmps Tryd.f31.results.toList Q R 1000 [.code (qae Tryd.f31)] (entry [iI] (n,())) =
  (bc (decide (n=(0:Int))) (Q [.agg [.bool false,.int .i64 0,.int .i64 0,.nils]] [(2,.var [.bool false,.int .i64 0,.int .i64 0,.nils])]) (Q [.agg [.bool false,.int .i64 n,.int .i64 n,.win true opS 10 0 (1:Nat)]] [(2,.var [.bool false,.int .i64 n,.int .i64 n,.win true opS 10 0 (1:Nat)]),(10,.row 69 opS ([((1:Int),(0:Int),n,(0:Int),[])]:List opS.D))])):=by kernel_rfl
def qca (x y:OpT):List (Nat × LB):=[(2,.var [.int .i64 x.1,.int .i64 x.2.1,.int .i64 x.2.2.1,.int .u8 x.2.2.2.1,.sl uB x.2.2.2.2]),(3,.var [.int .i64 y.1,.int .i64 y.2.1,.int .i64 y.2.2.1,.int .u8 y.2.2.2.1,.sl uB y.2.2.2.2])]
theorem qu0 (x y:OpT) (Q:QT) (R:RT):sy tt G0 [] Tryd.f35.ntmps Tryd.f35.results.toList Q R 1000 [.code (qae Tryd.f35)] (entry [opS,opS] (x,y,())) =
  (bc (decide (x.1=y.1)) (bc (decide (x.2.1=y.2.1)) (bc (decide (x.2.2.1=y.2.2.1)) (bc (decide (x.2.2.2.1=y.2.2.2.1)) (Q [.bool (decide (List.map toB x.2.2.2.2=List.map toB y.2.2.2.2))] (qca x y)) (false=false /\
 Q [.bool false] (qca x y))) (false=false /\
 false=false /\
 Q [.bool false] (qca x y))) (false=false /\
 false=false /\
 false=false /\
 Q [.bool false] (qca x y))) (false=false /\
 false=false /\
 false=false /\
 false=false /\
 Q [.bool false] (qca x y))):=by kernel_rfl
theorem q6m (x y:List SyT) (Q:QT) (R:RT):sy tt G0 [] Tryd.f19.ntmps Tryd.f19.results.toList Q R 1000 [.code (qae Tryd.f19)] (entry [.sl syS,.sl syS] (x,y,())) =
  (bc (decide ((x.length:Int)≠(y.length:Int))) (Q [.bool false] []) (R (hd Tryd.f19 0) { env:=[(0,.sl syS x),(1,.sl syS y),(4,.bool false),(5,.int .i64 0),(6,.sl syS x),(7,.int .i64 (x.length:Int)),(8,.sl syS y),(9,.int .i64 (y.length:Int)),(10,.bool (decide ((x.length:Int)≠(y.length:Int))))],blk:=[] })):=by kernel_rfl
theorem qu1 (x y:List SyT) (i:Nat) (Q:QT) (R:RT):sy tt G0 [] Tryd.f19.ntmps Tryd.f19.results.toList Q R 1000 (hd Tryd.f19 0) ⟨[(0,.sl syS x),(1,.sl syS y),(5,.int .i64 (i:Nat))],[]⟩ =
  (bc (decide ((i:Int)<(x.length:Int))) ((0:Int)<=(i:Int) /\
 (i:Int)<(x.length:Int) /\
 (0:Int)<=(i:Int) /\
 (i:Int)<(y.length:Int) /\
 bc (!decide ([Cl.cb (gtY x (i:Int).toNat).1,Cl.ci IntKind.i64 (gtY x (i:Int).toNat).2.1,Cl.ci IntKind.u8 (gtY x (i:Int).toNat).2.2]=[Cl.cb (gtY y (i:Int).toNat).1,Cl.ci IntKind.i64 (gtY y (i:Int).toNat).2.1,Cl.ci IntKind.u8 (gtY y (i:Int).toNat).2.2])) (Q [.bool false] []) (R (hd Tryd.f19 0) { env:=[(0,.sl syS x),(1,.sl syS y),(5,.int .i64 (IntKind.i64.wrap ((i:Int)+1))),(11,.int .i64 (i:Int)),(12,.sl syS x),(13,.int .i64 (x.length:Int)),(14,.bool (decide ((i:Int)<(x.length:Int)))),(15,.int .i64 (i:Int)),(16,.int .i64 (IntKind.i64.wrap ((i:Int)+1))),(17,.sl syS x),(18,.int .i64 (i:Int)),(19,.elv syS (gtY x (i:Int).toNat)),(20,.agg [.bool (gtY x (i:Int).toNat).1,.int .i64 (gtY x (i:Int).toNat).2.1,.int .u8 (gtY x (i:Int).toNat).2.2]),(21,.sl syS y),(22,.int .i64 (i:Int)),(23,.elv syS (gtY y (i:Int).toNat)),(24,.agg [.bool (gtY y (i:Int).toNat).1,.int .i64 (gtY y (i:Int).toNat).2.1,.int .u8 (gtY y (i:Int).toNat).2.2]),(25,.bool !decide ([Cl.cb (gtY x (i:Int).toNat).1,Cl.ci IntKind.i64 (gtY x (i:Int).toNat).2.1,Cl.ci IntKind.u8 (gtY x (i:Int).toNat).2.2]=[Cl.cb (gtY y (i:Int).toNat).1,Cl.ci IntKind.i64 (gtY y (i:Int).toNat).2.1,Cl.ci IntKind.u8 (gtY y (i:Int).toNat).2.2]))],blk:=[] })) (Q [.bool true] [])):=by kernel_rfl
end Go.Proofs.YticpkibnhakgbaaDoor
namespace Go.Proofs.YticpkibnhakgbaaDoor
open Go.Px Go.Ax
set_option maxRecDepth 100000
attribute [local irreducible] Go.Px.sy Go.Px.syE
theorem qxp {l:List Int} {i:Nat} (h:i<l.length):gtB l i=l[i]:=gtE (e:=uB) h
theorem qm5 {ct:Ctr} {x:DL ct.args} {rs:List SV} {blk:List (Nat × LB)} {e:Sh} {et:TypeId} {a k:Nat} {z:Int} {xs:List e.D} (h:ct.out x=[.win true e 0 0 xs.length,.int .i64 z]) (hr:ct.rows x=[.row et e xs]) (hs:rs=[.win true e a 0 k,.int .i64 z]) (hk:k=xs.length) (hb:lk blk a=some (.row et e xs)):QC ct x rs blk:=by
 subst hs;subst hk;refine ⟨fun i=>if i=0 then some a else none,?_,?_,fun i j b h1 h2=>?_,by rw[hr];rfl⟩
 ·rw[h];exact ⟨_,_,rfl,.inl ⟨true,a,rfl,rfl,fun h=>h⟩,_,_,rfl,rfl,rfl⟩
 ·rw[hr];exact ⟨.inl ⟨a,rfl,hb⟩,trivial⟩
 ·simp only at h1 h2;split at h1
  ·split at h2
   ·omega
   ·cases h2
  ·cases h1
theorem qm6 {ct:Ctr} {x:DL ct.args} {rs:List SV} {blk:List (Nat × LB)} {e:Sh} {et:TypeId} {z:Int} (h:ct.out x=[.win true e 0 0 0,.int .i64 z]) (hr:ct.rows x=[.row et e []]) (hs:rs=[.nils,.int .i64 z]) (he:0<e.size):QC ct x rs blk:=by
 subst hs;refine ⟨fun _=>none,?_,?_,fun i j b h1 h2=>?_,by rw[hr];rfl⟩
 ·rw[h];exact ⟨_,_,rfl,.inr ⟨rfl,rfl,rfl,rfl⟩,_,_,rfl,rfl,rfl⟩
 ·rw[hr];exact ⟨.inr ⟨rfl,_,_,rfl,he⟩,trivial⟩
 ·simp at h1
def ctSS:Ctr:=⟨[.sl syS,.sl syS],fun x=>List.length x.1<1099511627776,fun x=>[.bool (decide ((show List SyT from x.1)=x.2.1))],fun _=>[]⟩
theorem q7u {s t:SyT}:([Cl.cb s.1,Cl.ci .i64 s.2.1,Cl.ci .u8 s.2.2]=[Cl.cb t.1,Cl.ci .i64 t.2.1,Cl.ci .u8 t.2.2])↔s=t:=by
 obtain ⟨a,b,c⟩:=s;obtain ⟨a',b',c'⟩:=t;simp
theorem q38 (x y:List SyT) (hl:x.length<1099511627776) (he:x.length=y.length):∀ (k i:Nat),x.length-i=k->i<=x.length->x.take i=y.take i ->
  GD 19 Tryd.f19 (fun rs _=>rs=[.bool (decide (x=y))]) (hd Tryd.f19 0) ⟨[(0,.sl syS x),(1,.sl syS y),(5,.int .i64 (i:Nat))],[]⟩:=by
 intro k
 induction k with
 | zero=>
  intro i hk hi ht;refine qak cx0 _ _ _ ((qu1 x y i _ _).mpr ?_);rw[decide_eq_false (show ¬ (i:Int)<(x.length:Int) by omega),bc_f];rw[List.take_of_length_le (by omega),List.take_of_length_le (by omega)] at ht
  show [SV.bool true]=_
  rw[decide_eq_true ht]
 | succ k ih=>
  intro i hk hi ht;have hx:i<x.length:=by omega
  have hy:i<y.length:=by omega
  refine qak cx0 _ _ _ ((qu1 x y i _ _).mpr ?_);rw[decide_eq_true (show (i:Int)<(x.length:Int) by omega),bc_t,Int.toNat_natCast,qbi hx,qbi hy,IntWalk.i64_in ((i:Int)+1) (by omega)];refine ⟨by omega,by omega,by omega,by omega,qaf (fun h=>?_) (fun h=>?_)⟩
  ·have h:¬ x[i]=y[i]:=fun q=>by
    rw[decide_eq_true (q7u.2 q)] at h;cases h
   show [SV.bool false]=_
   rw[decide_eq_false (fun q=>h (by simp only[q]))]
  ·have h:x[i]=y[i]:=by
    rw[Bool.not_eq_false'] at h;exact q7u.1 (of_decide_eq_true h)
   exact (ih (i+1) (by omega) (by omega) (by rw[List.take_succ_eq_append_getElem hx,List.take_succ_eq_append_getElem hy,ht,h])).only ⟨rfl,rfl,rfl,trivial⟩ trivial
theorem q39:Held Tryd.prog G0 19 ctSS:=by
 refine Held.run cx0 (fn:=Tryd.f19) rfl rfl ⟨by decide,by decide⟩ ?_;rintro ⟨x,y,⟨⟩⟩ hp;replace hp:x.length<1099511627776:=hp;refine (q6m x y _ _).mpr (qaf (fun h=>?_) (fun h=>?_))
 ·have h:(x.length:Int)≠y.length:=of_decide_eq_true h;refine QC.flat ?_ rfl rfl
  show [SV.bool (decide (x=y))]=_
  rw[decide_eq_false (fun q=>h (by rw[q]))]
 ·have h:¬ (x.length:Int)≠y.length:=of_decide_eq_false h;have h:x.length=y.length:=by omega
  exact ((q38 x y hp h _ 0 rfl (by omega) rfl).post fun rs blk hq=>QC.flat (by rw[hq];rfl) rfl (by rw[hq];rfl)).only ⟨rfl,rfl,rfl,trivial⟩ trivial
def soB (x y:OpT):Bool:=decide (x.1=y.1)&&(decide (x.2.1=y.2.1)&&(decide (x.2.2.1=y.2.2.1)&&(decide (x.2.2.2.1=y.2.2.2.1)&&decide (x.2.2.2.2.map toB=y.2.2.2.2.map toB))))
def ctSO:Ctr:=⟨[opS,opS],fun _=>True,fun x=>[.bool (soB x.1 x.2.1)],fun _=>[]⟩
theorem q4a:Held Tryd.prog G0 35 ctSO:=by
 refine Held.run cx0 (fn:=Tryd.f35) rfl rfl ⟨by decide,by decide⟩ ?_;rintro ⟨x,y,⟨⟩⟩ _;refine (qu0 x y _ _).mpr ?_
 cases e1:decide (x.1=y.1) <;> cases e2:decide (x.2.1=y.2.1) <;> cases e3:decide (x.2.2.1=y.2.2.1) <;> cases e4:decide (x.2.2.2.1=y.2.2.2.1) <;>
  simp only[bc_t,bc_f,cond_true,cond_false,true_and] <;> exact QC.flat (by simp only[ctSO,soB,e1,e2,e3,e4];rfl) rfl rfl
def ofV (l:List SyT) (m:Int):PaT × Int:=if szB m=true/\szB l.length=true/\l.all (sOK m)=true then (if 4096<(opsL l).length then ((false,0,0,[]),2) else ((false,m,l.length,opsL l),0)) else ((false,0,0,[]),60)
def paV (p:PaT):SV:=.agg [.bool p.1,.int .i64 p.2.1,.int .i64 p.2.2.1,.sl opS p.2.2.2]
end Go.Proofs.YticpkibnhakgbaaDoor
namespace Go.Proofs.YticpkibnhakgbaaDoor
open Go.Px Go.Ax
set_option maxRecDepth 100000
attribute [local irreducible] Go.Px.sy Go.Px.syE
def lenS (l:List OpT):Int:=(l.map fun x=>x.2.2.1).sum
theorem q2x {m N:Int}:∀ {l:List OpT} {left i:Int},(chkF m N l left i).2=0->0<=left->(∀ x∈l,isRB x m=true)/\lenS l=left
 | [],left,i,h,h0=>by
  refine ⟨fun x hx=>by simp at hx,?_⟩;simp only[chkF] at h;split at h
  ·cases h
  ·show (0:Int)=left;omega
 | x::l,left,i,h,h0=>by
  simp only[chkF] at h;split at h
  ·cases h
  ·rename_i h1;split at h
   ·cases h
   ·rename_i h2;have hr:isRB x m=true:=by simpa using h1
    have hx:=qdp hr;obtain ⟨k1,k2⟩:=q2x h (by omega);refine ⟨fun y hy=>?_,?_⟩
    ·rcases List.mem_cons.1 hy with rfl | hy
     ·exact hr
     ·exact k1 y hy
    ·simp only[lenS,List.map_cons,List.sum_cons] at k2 |-;omega
theorem qd5 {x:OpT} {m:Int} (h:isRB x m=true):(x.1=1\/x.1=2\/x.1=3\/x.1=4)/\(cntO x.1.toNat x:Int)=x.2.2.1:=by
 have hl:=qdp h;unfold isRB kR at h;simp only[Bool.and_eq_true,decide_eq_true_eq] at h;obtain ⟨_,_,h⟩:=h;obtain ⟨k,f,n,b,d⟩:=x;simp only at h hl |-;split at h
 ·rename_i e;subst e;exact ⟨.inl rfl,by show (n.toNat:Int)=n;omega⟩
 ·split at h
  ·rename_i e;subst e;simp only[rB,Bool.and_eq_true,decide_eq_true_eq] at h;exact ⟨.inr (.inl rfl),h.2.2⟩
  ·split at h
   ·rename_i e;subst e;exact ⟨.inr (.inr (.inl rfl)),by show (n.toNat:Int)=n;omega⟩
   ·split at h
    ·rename_i e;subst e;simp only[rB,Bool.and_eq_true,decide_eq_true_eq] at h;exact ⟨.inr (.inr (.inr rfl)),h.2.2⟩
    ·cases h
theorem qkz (x:OpT) (l:List OpT):lenS (x::l)=x.2.2.1+lenS l:=by simp only[lenS,List.map_cons,List.sum_cons]
theorem qhw {m:Int}:∀ {l:List OpT},(∀ x∈l,isRB x m=true)->0<=lenS l
 | [],_=>Int.le_refl 0
 | x::l,h=>by
  have h1:=qdp (h x (by simp));have h2:=qhw (l:=l) fun y hy=>h y (by simp[hy])
  simp only[lenS,List.map_cons,List.sum_cons] at h2 |-;omega
def symF:List OpT->List SyT
 | []=>[]
 | x::l=>qaw x.1.toNat x++symF l
def symV (p:PaT):List SyT × Int:=if (chkV p).2=0 then (symF p.2.2.2,0) else ([],(chkV p).2)
def ctSym:Ctr:=⟨[paS],fun _=>True,fun x=>[.win true syS 0 0 (symV x.1).1.length,.int .i64 (symV x.1).2],fun x=>[.row 66 syS (symV x.1).1]⟩
abbrev SQ (p:PaT):List SV->List (Nat × LB)->Prop:=QC ctSym (p,())
theorem qis {p:PaT} (h:(chkV p).2=0):(∀ x∈p.2.2.2,isRB x p.2.1=true)/\lenS p.2.2.2=p.2.2.1/\(0<=p.2.2.1/\p.2.2.1<=65536)/\p.2.2.2.length<=4096:=by
 unfold chkV at h;split at h
 ·rename_i hg;have hs:0<=p.2.2.1/\p.2.2.1<=65536:=by
   have:=hg.2.1;unfold szB at this;simpa only[Bool.and_eq_true,decide_eq_true_eq] using this
  obtain ⟨h1,h2⟩:=q2x h hs.1;exact ⟨h1,h2,hs,hg.2.2⟩
 ·cases h
theorem qza (li:Bool) (m o:Int) (l:List OpT) (hc:(chkV (li,m,o,l)).2=0):∀ (k i:Nat) (s:List SyT),l.length-i=k->i<=l.length->(s.length:Int)+lenS (l.drop i)<=65536->s++symF (l.drop i)=symF l ->
  GD 24 Tryd.f24 (SQ (li,m,o,l)) (hd Tryd.f24 0) ⟨[(1,.ptr 1 0),(6,.win true syS 19 0 s.length),(21,.sl opS l),(22,.int .i64 l.length),(23,.int .i64 (i:Nat))],[(1,.var [.bool li,.int .i64 m,.int .i64 o,.sl opS l]),(19,.row 66 syS s)]⟩:=by
 obtain ⟨hr,hsum,hob,hlen⟩:=qis hc;simp only at hr hsum hob hlen;intro k
 induction k with
 | zero=>
  intro i s hk hi hb hs;have hi:i=l.length:=by omega
  subst hi;refine qak ex1 _ _ _ ((qny li m o l s _ _ _).mpr ?_);rw[decide_eq_false (by omega),bc_f];rw[List.drop_length,symF,List.append_nil] at hs;have hv:symV (li,m,o,l)=(s,0):=by unfold symV;rw[if_pos hc,hs]
  refine qm5 (e:=syS) (et:=66) (a:=19) (z:=0) (xs:=s) ?_ ?_ rfl rfl rfl
  ·show [_,_]=_;rw[hv]
  ·show [_]=_;rw[hv]
 | succ k ih=>
  intro i s hk hi hb hs;have hil:i<l.length:=by omega
  have hx:=hr l[i] (List.getElem_mem hil);have hk2:=qd5 hx;have hl2:=qdp hx;rw[qug hil] at hb hs;rw[qkz] at hb;have hb2:(s.length:Int)+(l[i].2.2.1+lenS (l.drop (i+1)))<=65536:=hb;have hpos:0<=lenS (l.drop (i+1)):=qhw fun y hy=>hr y (List.mem_of_mem_drop hy)
  have hcl:(qaw l[i].1.toNat l[i]).length=cntO l[i].1.toNat l[i]:=by unfold qaw;exact qk1 _ _ _
  have hpre:preA l[i].1.toNat l[i] s:=⟨by omega,by omega,by omega⟩;have nx:GD 24 Tryd.f24 (SQ (li,m,o,l)) (hd Tryd.f24 0) ⟨[(1,.ptr 1 0),(6,.win true syS 19 0 (s++qaw l[i].1.toNat l[i]).length),(21,.sl opS l),(22,.int .i64 l.length),(23,.int .i64 ((i+1:Nat):Int))],[(1,.var [.bool li,.int .i64 m,.int .i64 o,.sl opS l]),(19,.row 66 syS (s++qaw l[i].1.toNat l[i]))]⟩:=
   ih (i+1) _ (by omega) (by omega) (by rw[List.length_append];omega) (by rw[List.append_assoc];exact hs)
  have wi:IntKind.i64.wrap ((i:Int)+1)=((i+1:Nat):Int):=by rw[IntWalk.i64_in _ (by omega)];omega
  rcases hk2.1 with e | e | e | e
  ·rw[e] at hpre nx;refine qak ex1 _ _ _ ((qny li m o l s i _ _).mpr ?_);rw[decide_eq_true (show (i:Int)<(l.length:Int) by omega),bc_t,Int.toNat_natCast,qgh hil,wi];exact ⟨by omega,by omega,e,rfl,hpre,nx.onlyR [(19,1122880)] rfl ⟨rfl,rfl,rfl,rfl,rfl,trivial⟩ ⟨rfl,rfl,trivial⟩⟩
  ·rw[e] at hpre nx;refine qak ex2 _ _ _ ((quz li m o l s i _ _).mpr ?_);rw[decide_eq_true (show (i:Int)<(l.length:Int) by omega),bc_t,Int.toNat_natCast,qgh hil,wi];exact ⟨by omega,by omega,e,rfl,hpre,nx.onlyR [(19,1122880)] rfl ⟨rfl,rfl,rfl,rfl,rfl,trivial⟩ ⟨rfl,rfl,trivial⟩⟩
  ·rw[e] at hpre nx;refine qak ex3 _ _ _ ((quy li m o l s i _ _).mpr ?_);rw[decide_eq_true (show (i:Int)<(l.length:Int) by omega),bc_t,Int.toNat_natCast,qgh hil,wi];exact ⟨by omega,by omega,e,rfl,hpre,nx.onlyR [(19,1122880)] rfl ⟨rfl,rfl,rfl,rfl,rfl,trivial⟩ ⟨rfl,rfl,trivial⟩⟩
  ·rw[e] at hpre nx;refine qak ex4 _ _ _ ((qux li m o l s i _ _).mpr ?_);rw[decide_eq_true (show (i:Int)<(l.length:Int) by omega),bc_t,Int.toNat_natCast,qgh hil,wi];exact ⟨by omega,by omega,e,rfl,hpre,nx.onlyR [(19,1122880)] rfl ⟨rfl,rfl,rfl,rfl,rfl,trivial⟩ ⟨rfl,rfl,trivial⟩⟩
theorem qrn:Held Tryd.prog G0 24 ctSym:=by
 refine Held.run cxA (fn:=Tryd.f24) rfl rfl ⟨by decide,by decide⟩ ?_;rintro ⟨⟨li,m,o,l⟩,⟨⟩⟩ _;refine (q29 li m o l _ _).mpr ⟨trivial,qaf (fun h=>?_) (fun h=>?_)⟩
 ·have h:(chkV (li,m,o,l)).2≠0:=of_decide_eq_true h;have hv:symV (li,m,o,l)=([],(chkV (li,m,o,l)).2):=by unfold symV;rw[if_neg h]
  refine qm6 (e:=syS) (et:=66) (z:=(chkV (li,m,o,l)).2) ?_ ?_ rfl (by decide)
  ·show [_,_]=_;rw[hv];rfl
  ·show [_]=_;rw[hv]
 ·have h:¬ (chkV (li,m,o,l)).2≠0:=of_decide_eq_false h;have h:(chkV (li,m,o,l)).2=0:=by simpa using h
  obtain ⟨hr,hsum,hob,hlen⟩:=qis h;simp only at hr hsum hob hlen;refine ⟨Int.le_refl 0,hob.1,?_,?_,?_⟩
  ·exact Int.lt_of_le_of_lt hob.2 (by decide)
  ·exact Int.le_trans (Int.mul_le_mul_of_nonneg_left hob.2 (by decide)) (by decide)
  ·exact (qza li m o l h _ 0 [] rfl (by omega) (by rw[List.drop_zero,hsum];simpa using hob.2) rfl).only ⟨rfl,rfl,rfl,rfl,rfl,trivial⟩ ⟨rfl,rfl,trivial⟩
def k14 (x:OpT):Prop:=x.1=1\/x.1=2\/x.1=3\/x.1=4
end Go.Proofs.YticpkibnhakgbaaDoor
namespace Go.Proofs.YticpkibnhakgbaaDoor
open Go.Px Go.Ax
set_option maxRecDepth 100000
def CS:CV:=[(35,.inl ctSO)]
theorem cxS:CxOK Tryd.prog tt G0 CS:=cx0.cons q4a (fn:=Tryd.f35) rfl rfl rfl
set_option maxRecDepth 100000
def qep (li li2:Bool) (m o m2 o2:Int) (l l2:List OpT):List (Nat × LB):=[(2,.var [.bool li,.int .i64 m,.int .i64 o,.sl opS l]),(3,.var [.bool li2,.int .i64 m2,.int .i64 o2,.sl opS l2])]
theorem q3a (li li2:Bool) (m o m2 o2:Int) (l l2:List OpT) (Q:QT) (R:RT):sy tt G0 CS Tryd.f13.ntmps Tryd.f13.results.toList Q R 1000 [.code (qae Tryd.f13)] (entry [paS,paS] ((li,m,o,l),(li2,m2,o2,l2),())) =
  (bc (!li == li2) (true=true /\
 true=true /\
 true=true /\
 Q [.bool false] (qep li li2 m o m2 o2 l l2)) (bc (bif false then true else decide (m≠m2)) (true=true /\
 true=true /\
 Q [.bool false] (qep li li2 m o m2 o2 l l2)) (bc (bif false then true else decide (o≠o2)) (true=true /\
 Q [.bool false] (qep li li2 m o m2 o2 l l2)) (bc (bif false then true else decide ((l.length:Int)≠(l2.length:Int))) (Q [.bool false] (qep li li2 m o m2 o2 l l2)) (R (hd Tryd.f13 0) { env:=[(0,.agg [.bool li,.int .i64 m,.int .i64 o,.sl opS l]),(1,.agg [.bool li2,.int .i64 m2,.int .i64 o2,.sl opS l2]),(2,.ptr 2 0),(3,.ptr 3 0),(4,.bool false),(5,.int .i64 0),(6,.ptr 2 0),(7,.bool li),(8,.ptr 3 0),(9,.bool li2),(10,.bool !li == li2),(11,.bool false),(12,.ptr 2 1),(13,.int .i64 m),(14,.ptr 3 1),(15,.int .i64 m2),(16,.bool (decide (m≠m2))),(17,.bool (bif false then true else decide (m≠m2))),(18,.bool false),(19,.ptr 2 2),(20,.int .i64 o),(21,.ptr 3 2),(22,.int .i64 o2),(23,.bool (decide (o≠o2))),(24,.bool (bif false then true else decide (o≠o2))),(25,.bool false),(26,.ptr 2 3),(27,.sl opS l),(28,.int .i64 (l.length:Int)),(29,.ptr 3 3),(30,.sl opS l2),(31,.int .i64 (l2.length:Int)),(32,.bool (decide ((l.length:Int)≠(l2.length:Int)))),(33,.bool (bif false then true else decide ((l.length:Int)≠(l2.length:Int))))],blk:=[(2,.var [.bool li,.int .i64 m,.int .i64 o,.sl opS l]),(3,.var [.bool li2,.int .i64 m2,.int .i64 o2,.sl opS l2])] }))))):=by kernel_rfl
def qi6 (li li2:Bool) (m o m2 o2:Int) (l l2:List OpT):List (Nat × LB):=[(2,.var [.bool li,.int .i64 m,.int .i64 o,.sl opS l]),(3,.var [.bool li2,.int .i64 m2,.int .i64 o2,.sl opS l2])]
theorem qrg (li li2:Bool) (m o m2 o2:Int) (l l2:List OpT) (i:Nat) (Q:QT) (R:RT):sy tt G0 CS Tryd.f13.ntmps Tryd.f13.results.toList Q R 1000 (hd Tryd.f13 0) ⟨[(2,.ptr 2 0),(3,.ptr 3 0),(5,.int .i64 (i:Nat))],[(2,.var [.bool li,.int .i64 m,.int .i64 o,.sl opS l]),(3,.var [.bool li2,.int .i64 m2,.int .i64 o2,.sl opS l2])]⟩ =
  (bc (decide ((i:Int)<(l.length:Int))) ((0:Int)<=(i:Int) /\
 (i:Int)<(l.length:Int) /\
 (0:Int)<=(i:Int) /\
 (i:Int)<(l2.length:Int) /\
 ctSO.pre ((gtO l (i:Int).toNat),(gtO l2 (i:Int).toNat),()) /\
 bc (!soB (gtO l (i:Int).toNat) (gtO l2 (i:Int).toNat)) (Q [.bool false] (qi6 li li2 m o m2 o2 l l2)) (R (hd Tryd.f13 0) { env:=[(2,.ptr 2 0),(3,.ptr 3 0),(5,.int .i64 (IntKind.i64.wrap ((i:Int)+1))),(34,.int .i64 (i:Int)),(35,.ptr 2 3),(36,.sl opS l),(37,.int .i64 (l.length:Int)),(38,.bool (decide ((i:Int)<(l.length:Int)))),(39,.int .i64 (i:Int)),(40,.int .i64 (IntKind.i64.wrap ((i:Int)+1))),(41,.ptr 2 3),(42,.sl opS l),(43,.int .i64 (i:Int)),(44,.elv opS (gtO l (i:Int).toNat)),(45,.agg [.int .i64 (gtO l (i:Int).toNat).1,.int .i64 (gtO l (i:Int).toNat).2.1,.int .i64 (gtO l (i:Int).toNat).2.2.1,.int .u8 (gtO l (i:Int).toNat).2.2.2.1,.sl uB (gtO l (i:Int).toNat).2.2.2.2]),(46,.ptr 3 3),(47,.sl opS l2),(48,.int .i64 (i:Int)),(49,.elv opS (gtO l2 (i:Int).toNat)),(50,.agg [.int .i64 (gtO l2 (i:Int).toNat).1,.int .i64 (gtO l2 (i:Int).toNat).2.1,.int .i64 (gtO l2 (i:Int).toNat).2.2.1,.int .u8 (gtO l2 (i:Int).toNat).2.2.2.1,.sl uB (gtO l2 (i:Int).toNat).2.2.2.2]),(51,.bool (soB (gtO l (i:Int).toNat) (gtO l2 (i:Int).toNat))),(52,.bool !soB (gtO l (i:Int).toNat) (gtO l2 (i:Int).toNat))],blk:=[(2,.var [.bool li,.int .i64 m,.int .i64 o,.sl opS l]),(3,.var [.bool li2,.int .i64 m2,.int .i64 o2,.sl opS l2])] })) (Q [.bool true] (qi6 li li2 m o m2 o2 l l2))):=by kernel_rfl
end Go.Proofs.YticpkibnhakgbaaDoor
namespace Go.Proofs.YticpkibnhakgbaaDoor
open Go.Px Go.Ax
set_option maxRecDepth 100000
attribute [local irreducible] Go.Px.sy Go.Px.syE
theorem qfs {m:Int}:∀ {l:List OpT},(∀ x∈l,isRB x m=true)->((symF l).length:Int)=lenS l
 | [],_=>rfl
 | x::l,h=>by
  have h1:=qd5 (h x (by simp));have h2:=qfs (l:=l) fun y hy=>h y (by simp[hy])
  have hcl:(qaw x.1.toNat x).length=cntO x.1.toNat x:=by unfold qaw;exact qk1 _ _ _
  rw[qkz,symF,List.length_append,hcl];omega
theorem qzb (p:PaT):(symV p).1.length<16777216:=by
 unfold symV;split
 ·rename_i h;obtain ⟨h1,h2,h3,_⟩:=qis h;have:=qfs h1;have h4:=h3.2;simp only;omega
 ·show 0<16777216
  decide
def smL:List OpT->List OpT->Bool
 | [],[]=>true
 | x::l,y::m=>soB x y&&smL l m
 | _,_=>false
def smB (p q:PaT):Bool:=(p.1 == q.1)&&(decide (p.2.1=q.2.1)&&(decide (p.2.2.1=q.2.2.1)&&(decide (p.2.2.2.length=q.2.2.2.length)&&smL p.2.2.2 q.2.2.2)))
def ctSm:Ctr:=⟨[paS,paS],fun x=>List.length x.1.2.2.2<1099511627776,fun x=>[.bool (smB x.1 x.2.1)],fun _=>[]⟩
theorem q4b (li li2:Bool) (m o m2 o2:Int) (l l2:List OpT) (hl:l.length<1099511627776) (he:l.length=l2.length):∀ (k i:Nat),l.length-i=k->i<=l.length ->
  GD 13 Tryd.f13 (fun rs _=>rs=[.bool (smL (l.drop i) (l2.drop i))]) (hd Tryd.f13 0) ⟨[(2,.ptr 2 0),(3,.ptr 3 0),(5,.int .i64 (i:Nat))],[(2,.var [.bool li,.int .i64 m,.int .i64 o,.sl opS l]),(3,.var [.bool li2,.int .i64 m2,.int .i64 o2,.sl opS l2])]⟩:=by
 intro k
 induction k with
 | zero=>
  intro i hk hi;have hi:i=l.length:=by omega
  subst hi;refine qak cxS _ _ _ ((qrg li li2 m o m2 o2 l l2 _ _ _).mpr ?_);rw[decide_eq_false (by omega),bc_f,List.drop_length,he,List.drop_length];rfl
 | succ k ih=>
  intro i hk hi;have hx:i<l.length:=by omega
  have hy:i<l2.length:=by omega
  refine qak cxS _ _ _ ((qrg li li2 m o m2 o2 l l2 i _ _).mpr ?_);rw[decide_eq_true (show (i:Int)<(l.length:Int) by omega),bc_t,Int.toNat_natCast,qgh hx,qgh hy,IntWalk.i64_in ((i:Int)+1) (by omega),qug hx,qug hy,smL];refine ⟨by omega,by omega,by omega,by omega,trivial,qaf (fun h=>?_) (fun h=>?_)⟩
  ·have h:soB l[i] l2[i]=false:=by simpa using h
   rw[h];rfl
  ·have h:soB l[i] l2[i]=true:=by simpa using h
   rw[h];exact (ih (i+1) (by omega) (by omega)).only ⟨rfl,rfl,rfl,trivial⟩ ⟨rfl,rfl,trivial⟩
theorem qvx:Held Tryd.prog G0 13 ctSm:=by
 refine Held.run cxS (fn:=Tryd.f13) rfl rfl ⟨by decide,by decide⟩ ?_;rintro ⟨⟨li,m,o,l⟩,⟨li2,m2,o2,l2⟩,⟨⟩⟩ hp;replace hp:l.length<1099511627776:=hp;refine (q3a li li2 m o m2 o2 l l2 _ _).mpr ?_
 cases e0:(li == li2)
 ·exact ⟨rfl,rfl,rfl,QC.flat (by show [SV.bool (smB _ _)]=_;simp only[smB,e0];rfl) rfl rfl⟩
 ·rw[Bool.not_true,bc_f];refine qaf (fun h=>⟨rfl,rfl,?_⟩) (fun h=>qaf (fun h2=>⟨rfl,?_⟩) (fun h2=>qaf (fun h3=>?_) (fun h3=>?_)))
  ·have h:m≠m2:=of_decide_eq_true h;exact QC.flat (by show [SV.bool (smB _ _)]=_;simp only[smB,e0,decide_eq_false h];rfl) rfl rfl
  ·have h2:o≠o2:=of_decide_eq_true h2;exact QC.flat (by show [SV.bool (smB _ _)]=_;simp only[smB,e0,decide_eq_false h2,Bool.false_and,Bool.and_false]) rfl rfl
  ·have h3:(l.length:Int)≠l2.length:=of_decide_eq_true h3;have h3:¬ l.length=l2.length:=by omega
   exact QC.flat (by show [SV.bool (smB _ _)]=_;simp only[smB,e0,decide_eq_false h3,Bool.false_and,Bool.and_false]) rfl rfl
  ·have h:m=m2:=by
    have h:¬ m≠m2:=of_decide_eq_false h;simpa using h
   have h2:o=o2:=by
    have h2:¬ o≠o2:=of_decide_eq_false h2;simpa using h2
   have h3:l.length=l2.length:=by
    have h3:¬ (l.length:Int)≠l2.length:=of_decide_eq_false h3;omega
   refine ((q4b li li2 m o m2 o2 l l2 hp h3 _ 0 rfl (by omega)).post fun rs blk hq=>QC.flat ?_ rfl (by rw[hq];rfl)).only ⟨rfl,rfl,rfl,trivial⟩ ⟨rfl,rfl,trivial⟩;rw[hq]
   show [SV.bool (smB _ _)]=_
   simp only[smB,e0,decide_eq_true h,decide_eq_true h2,decide_eq_true h3,Bool.true_and];rfl
def rwV (n:Int):PaT:=if n=0 then (false,0,0,[]) else (false,n,n,[((1,0,n,0,[]):OpT)])
def ctRw:Ctr:=⟨[iI],fun _=>True,fun x=>[paV (rwV x.1)],fun _=>[]⟩
def ctRw1:Ctr:=⟨[iI],fun x=>x.1≠0,fun x=>[.agg [.bool false,.int .i64 x.1,.int .i64 x.1,.win true opS 0 0 1]],fun x=>[.row 69 opS [((1,0,x.1,0,[]):OpT)]]⟩
def ctRw0:Ctr:=⟨[iI],fun x=>¬ x.1≠0,fun x=>[paV (rwV x.1)],fun _=>[]⟩
theorem rw1_held:Held Tryd.prog G0 31 ctRw1:=by
 refine Held.run cx0 (fn:=Tryd.f31) rfl rfl ⟨by decide,by decide⟩ ?_;rintro ⟨n,⟨⟩⟩ hp;replace hp:n≠0:=hp;refine (qnz n _ _).mpr ?_;rw[decide_eq_false hp,bc_f];refine ⟨fun i=>if i=0 then some 10 else none,?_,?_,fun i j b h1 h2=>?_,rfl⟩
 ·exact ⟨_,_,rfl,⟨_,rfl,_,_,rfl,rfl,_,_,rfl,rfl,_,_,rfl,rfl,_,_,rfl,.inl ⟨true,10,rfl,rfl,fun h=>h⟩,rfl⟩,rfl⟩
 ·exact ⟨.inl ⟨10,rfl,rfl⟩,trivial⟩
 ·simp only at h1 h2;split at h1
  ·split at h2
   ·omega
   ·cases h2
  ·cases h1
theorem qzh:Held Tryd.prog G0 31 ctRw0:=by
 refine Held.run cx0 (fn:=Tryd.f31) rfl rfl ⟨by decide,by decide⟩ ?_;rintro ⟨n,⟨⟩⟩ hp;replace hp:¬ n≠0:=hp;have hp:n=0:=by simpa using hp
 refine (qnz n _ _).mpr ?_;rw[decide_eq_true hp,bc_t];refine QC.mt ?_ rfl
 show MtL _ [paV (rwV n)] _
 unfold rwV;rw[if_pos hp];exact ⟨_,_,rfl,⟨_,rfl,_,_,rfl,rfl,_,_,rfl,rfl,_,_,rfl,rfl,_,_,rfl,.inr ⟨rfl,rfl⟩,rfl⟩,rfl⟩
theorem qv1:Held Tryd.prog G0 31 ctRw:=fun x _=>by
 by_cases h:x.1≠0
 ·have e:=(rw1_held.frz (fun x hp=>⟨by simp[ctRw1,inL,inS],trivial⟩)) x h;have hv:[paV (rwV x.1)]=qt8 0 (ctRw1.rows x) (ctRw1.out x):=by
   unfold rwV;rw[if_neg h];rfl
  intro base M args args' w cs Z H h1 h2 h3 h4 h5;have:=e base M args args' w cs Z H h1 h2 h3 h4 h5;simp only[Ctr.frz,ctRw] at this |-;rw[hv];exact this
 ·exact qzh x h
end Go.Proofs.YticpkibnhakgbaaDoor
namespace Go.Proofs.YticpkibnhakgbaaDoor
open Go.Px Go.Ax
set_option maxRecDepth 100000
set_option maxRecDepth 100000
theorem q6o (n a b:Int) (Q:QT) (R:RT):sy tt G0 [] Tryd.f57.ntmps Tryd.f57.results.toList Q R 1000 [.code (qae Tryd.f57)] (entry [iI,iI,iI] (n,a,b,())) =
  (bc (decide (a<=n)) (Q [.bool (decide (n<=b))] []) (false=false /\
 Q [.bool false] [])):=by kernel_rfl
end Go.Proofs.YticpkibnhakgbaaDoor
namespace Go.Proofs.YticpkibnhakgbaaDoor
open Go.Px Go.Ax
set_option maxRecDepth 100000
attribute [local irreducible] Go.Px.sy Go.Px.syE
theorem qr6 {ct:Ctr} {x:DL ct.args} {rs:List SV} {blk:List (Nat × LB)} {e:Sh} {et:TypeId} {a k:Nat} {xs:List e.D} (h:ct.out x=[.win true e 0 0 xs.length]) (hr:ct.rows x=[.row et e xs]) (hs:rs=[.win true e a 0 k]) (hk:k=xs.length) (hb:lk blk a=some (.row et e xs)):QC ct x rs blk:=by
 subst hs;subst hk;refine ⟨fun i=>if i=0 then some a else none,?_,?_,fun i j b h1 h2=>?_,by rw[hr];rfl⟩
 ·rw[h];exact ⟨_,_,rfl,.inl ⟨true,a,rfl,rfl,fun h=>h⟩,rfl⟩
 ·rw[hr];exact ⟨.inl ⟨a,rfl,hb⟩,trivial⟩
 ·simp only at h1 h2;split at h1
  ·split at h2
   ·omega
   ·cases h2
  ·cases h1
def ctIn:Ctr:=⟨[iI,iI,iI],fun _=>True,fun x=>[.bool (decide (x.2.1<=x.1)&&decide (x.1<=x.2.2.1))],fun _=>[]⟩
theorem qqs:Held Tryd.prog G0 57 ctIn:=by
 refine Held.run cx0 (fn:=Tryd.f57) rfl rfl ⟨by decide,by decide⟩ ?_;rintro ⟨n,a,b,⟨⟩⟩ _;refine (q6o n a b _ _).mpr (qaf (fun h=>?_) (fun h=>⟨rfl,?_⟩))
 ·exact QC.flat (by simp only[ctIn,h];rfl) rfl rfl
 ·exact QC.flat (by simp only[ctIn,h];rfl) rfl rfl
def inB (x:List Int) (i:Nat):Int:=if i<x.length then gtB x i else IntKind.u8.wrap (IntKind.i64.wrap (7*(i:Int)))
end Go.Proofs.YticpkibnhakgbaaDoor
namespace Go.Proofs.YticpkibnhakgbaaDoor
open Go.Px Go.Ax
set_option maxRecDepth 100000
set_option maxRecDepth 100000
theorem vc_op (x:List Int) (n:Int) (Q:QT) (R:RT):sy tt G0 [] Tryd.f39.ntmps Tryd.f39.results.toList Q (fun it S=>R it (qao [2,4,5,6] [2,4,5] S)) 1000 [.code (qae Tryd.f39)] (entry [.arr 4 uB,iI] (x,n,())) =
  ((0:Int)<=0 /\
 (0:Int)<(↑(4:Nat):Int) /\
 0<4 /\
 (4:Int)≠0 /\
 (0:Int)<=2 /\
 (2:Int)<(↑(4:Nat):Int) /\
 2<4 /\
 (5:Int)≠0 /\
 bc (decide (IntKind.i64.wrap ((1:Int)+(IntKind.i64.wrap (gtB x (0))).tmod (4:Int))<=2)) (bc (decide (n=(0:Int))) (R (hd Tryd.f39 0) { env:=[(2,.ptr 2 0),(4,.ptr 4 0),(5,.ptr 5 0),(6,.int .i64 0)],blk:=[(2,.var [.arr (4:Nat) uB x]),(4,.var [.int .i64 0,.int .i64 0,.int .i64 0,.int .u8 0,.nils]),(5,.var [.int .i64 4,.int .i64 0,.int .i64 (IntKind.i64.wrap ((1:Int)+(IntKind.i64.wrap (gtB x (2))).tmod (5:Int))),.int .u8 0,.nils])] }) ((0:Int)<=1 /\
 (1:Int)<(↑(4:Nat):Int) /\
 1<4 /\
 n≠0 /\
 (0:Int)<=2 /\
 (2:Int)<(↑(4:Nat):Int) /\
 2<4 /\
 IntKind.i64.wrap (n-(IntKind.i64.wrap (gtB x (1))).tmod n)≠0 /\
 (5:Int)≠0 /\
 bc (decide (IntKind.i64.wrap ((1:Int)+(IntKind.i64.wrap (gtB x (0))).tmod (4:Int))=(3:Int))) ((0:Int)<=3 /\
 (3:Int)<(↑(4:Nat):Int) /\
 3<4 /\
 R (hd Tryd.f39 0) { env:=[(2,.ptr 2 0),(4,.ptr 4 0),(5,.ptr 5 0),(6,.int .i64 0)],blk:=[(2,.var [.arr (4:Nat) uB x]),(4,.var [.int .i64 0,.int .i64 0,.int .i64 0,.int .u8 0,.nils]),(5,.var [.int .i64 (IntKind.i64.wrap ((1:Int)+(IntKind.i64.wrap (gtB x (0))).tmod (4:Int))),.int .i64 ((IntKind.i64.wrap (gtB x (1))).tmod n),.int .i64 (IntKind.i64.wrap ((1:Int)+((IntKind.i64.wrap (gtB x (2))).tmod (IntKind.i64.wrap (n-(IntKind.i64.wrap (gtB x (1))).tmod n))).tmod (5:Int))),.int .u8 (gtB x (3)),.nils])] }) (R (hd Tryd.f39 0) { env:=[(2,.ptr 2 0),(4,.ptr 4 0),(5,.ptr 5 0),(6,.int .i64 0)],blk:=[(2,.var [.arr (4:Nat) uB x]),(4,.var [.int .i64 0,.int .i64 0,.int .i64 0,.int .u8 0,.nils]),(5,.var [.int .i64 (IntKind.i64.wrap ((1:Int)+(IntKind.i64.wrap (gtB x (0))).tmod (4:Int))),.int .i64 ((IntKind.i64.wrap (gtB x (1))).tmod n),.int .i64 (IntKind.i64.wrap ((1:Int)+((IntKind.i64.wrap (gtB x (2))).tmod (IntKind.i64.wrap (n-(IntKind.i64.wrap (gtB x (1))).tmod n))).tmod (5:Int))),.int .u8 0,.nils])] }))) (bc (decide (IntKind.i64.wrap ((1:Int)+(IntKind.i64.wrap (gtB x (0))).tmod (4:Int))=(3:Int))) ((0:Int)<=3 /\
 (3:Int)<(↑(4:Nat):Int) /\
 3<4 /\
 R (hd Tryd.f39 0) { env:=[(2,.ptr 2 0),(4,.ptr 4 0),(5,.ptr 5 0),(6,.int .i64 0)],blk:=[(2,.var [.arr (4:Nat) uB x]),(4,.var [.int .i64 0,.int .i64 0,.int .i64 0,.int .u8 0,.nils]),(5,.var [.int .i64 (IntKind.i64.wrap ((1:Int)+(IntKind.i64.wrap (gtB x (0))).tmod (4:Int))),.int .i64 0,.int .i64 (IntKind.i64.wrap ((1:Int)+(IntKind.i64.wrap (gtB x (2))).tmod (5:Int))),.int .u8 (gtB x (3)),.nils])] }) (R (hd Tryd.f39 0) { env:=[(2,.ptr 2 0),(4,.ptr 4 0),(5,.ptr 5 0),(6,.int .i64 0)],blk:=[(2,.var [.arr (4:Nat) uB x]),(4,.var [.int .i64 0,.int .i64 0,.int .i64 0,.int .u8 0,.nils]),(5,.var [.int .i64 (IntKind.i64.wrap ((1:Int)+(IntKind.i64.wrap (gtB x (0))).tmod (4:Int))),.int .i64 0,.int .i64 (IntKind.i64.wrap ((1:Int)+(IntKind.i64.wrap (gtB x (2))).tmod (5:Int))),.int .u8 0,.nils])] }))):=by kernel_rfl
def ql6 (x:List Int) (k a n b:Int):List (Nat × LB):=[(2,.var [.arr (4:Nat) uB x]),(4,.var [.int .i64 k,.int .i64 a,.int .i64 n,.int .u8 b,.nils]),(5,.var [.int .i64 k,.int .i64 a,.int .i64 n,.int .u8 b,.nils])]
theorem q6x (x:List Int) (k a n b:Int) (i:Nat) (Q:QT) (R:RT):sy tt G0 [] Tryd.f39.ntmps Tryd.f39.results.toList Q (fun it S=>R it (qao [2,4,5,6] [2,4,5,76] S)) 1000 (hd Tryd.f39 0) ⟨[(2,.ptr 2 0),(4,.ptr 4 0),(5,.ptr 5 0),(6,.int .i64 (i:Nat))],[(2,.var [.arr 4 uB x]),(4,.var [.int .i64 0,.int .i64 0,.int .i64 0,.int .u8 0,.nils]),(5,.var [.int .i64 k,.int .i64 a,.int .i64 n,.int .u8 b,.nils])]⟩ =
  (bc (decide ((i:Int)<n)) (bc (decide (k=(2:Int))) (true=true /\
 (0:Int)<=3 /\
 (3:Int)<(↑(4:Nat):Int) /\
 3<4 /\
 (0:Int)<=0 /\
 (0:Int)<(↑(4:Nat):Int) /\
 0<4 /\
 (4:Int)≠0 /\
 (0:Nat)+1<=([(IntKind.u8.wrap (gtB x (3)*IntKind.u8.wrap (IntKind.i64.wrap ((i:Int)+IntKind.i64.wrap ((IntKind.i64.wrap (gtB x (0))).tdiv (4:Int))))))]:List uB.D).length /\
 (([(IntKind.u8.wrap (gtB x (3)*IntKind.u8.wrap (IntKind.i64.wrap ((i:Int)+IntKind.i64.wrap ((IntKind.i64.wrap (gtB x (0))).tdiv (4:Int))))))]:List uB.D)).length<2 ^ 30 /\
 (1:Nat)<=2 ^ 10 /\
 R (hd Tryd.f39 0) { env:=[(2,.ptr 2 0),(4,.ptr 4 0),(5,.ptr 5 0),(6,.int .i64 (IntKind.i64.wrap ((i:Int)+1)))],blk:=[(2,.var [.arr (4:Nat) uB x]),(4,.var [.int .i64 0,.int .i64 0,.int .i64 0,.int .u8 0,.nils]),(5,.var [.int .i64 k,.int .i64 a,.int .i64 n,.int .u8 b,.win true uB 76 0 (1:Nat)]),(76,.row 5 uB (([(IntKind.u8.wrap (gtB x (3)*IntKind.u8.wrap (IntKind.i64.wrap ((i:Int)+IntKind.i64.wrap ((IntKind.i64.wrap (gtB x (0))).tdiv (4:Int))))))]:List uB.D)))] }) (bc (decide (k=(4:Int))) ((0:Int)<=3 /\
 (3:Int)<(↑(4:Nat):Int) /\
 3<4 /\
 (0:Int)<=0 /\
 (0:Int)<(↑(4:Nat):Int) /\
 0<4 /\
 (4:Int)≠0 /\
 (0:Nat)+1<=([(IntKind.u8.wrap (gtB x (3)*IntKind.u8.wrap (IntKind.i64.wrap ((i:Int)+IntKind.i64.wrap ((IntKind.i64.wrap (gtB x (0))).tdiv (4:Int))))))]:List uB.D).length /\
 (([(IntKind.u8.wrap (gtB x (3)*IntKind.u8.wrap (IntKind.i64.wrap ((i:Int)+IntKind.i64.wrap ((IntKind.i64.wrap (gtB x (0))).tdiv (4:Int))))))]:List uB.D)).length<2 ^ 30 /\
 (1:Nat)<=2 ^ 10 /\
 R (hd Tryd.f39 0) { env:=[(2,.ptr 2 0),(4,.ptr 4 0),(5,.ptr 5 0),(6,.int .i64 (IntKind.i64.wrap ((i:Int)+1)))],blk:=[(2,.var [.arr (4:Nat) uB x]),(4,.var [.int .i64 0,.int .i64 0,.int .i64 0,.int .u8 0,.nils]),(5,.var [.int .i64 k,.int .i64 a,.int .i64 n,.int .u8 b,.win true uB 76 0 (1:Nat)]),(76,.row 5 uB (([(IntKind.u8.wrap (gtB x (3)*IntKind.u8.wrap (IntKind.i64.wrap ((i:Int)+IntKind.i64.wrap ((IntKind.i64.wrap (gtB x (0))).tdiv (4:Int))))))]:List uB.D)))] }) (Q [.agg [.int .i64 k,.int .i64 a,.int .i64 n,.int .u8 b,.nils]] (ql6 x k a n b)))) (false=false /\
 Q [.agg [.int .i64 k,.int .i64 a,.int .i64 n,.int .u8 b,.nils]] (ql6 x k a n b))):=by kernel_rfl
def ql5 (x d:List Int) (k a n b:Int):List (Nat × LB):=[(2,.var [.arr (4:Nat) uB x]),(4,.var [.int .i64 k,.int .i64 a,.int .i64 n,.int .u8 b,.win true uB 76 0 d.length]),(5,.var [.int .i64 k,.int .i64 a,.int .i64 n,.int .u8 b,.win true uB 76 0 d.length]),(76,.row 5 uB d)]
theorem q6w (x d:List Int) (k a n b:Int) (i:Nat) (Q:QT) (R:RT):sy tt G0 [] Tryd.f39.ntmps Tryd.f39.results.toList Q (fun it S=>R it (qao [2,4,5,6] [2,4,5,76] S)) 1000 (hd Tryd.f39 0) ⟨[(2,.ptr 2 0),(4,.ptr 4 0),(5,.ptr 5 0),(6,.int .i64 (i:Nat))],[(2,.var [.arr 4 uB x]),(4,.var [.int .i64 0,.int .i64 0,.int .i64 0,.int .u8 0,.nils]),(5,.var [.int .i64 k,.int .i64 a,.int .i64 n,.int .u8 b,.win true uB 76 0 d.length]),(76,.row 5 uB d)]⟩ =
  (bc (decide ((i:Int)<n)) (bc (decide (k=(2:Int))) (true=true /\
 (0:Int)<=3 /\
 (3:Int)<(↑(4:Nat):Int) /\
 3<4 /\
 (0:Int)<=0 /\
 (0:Int)<(↑(4:Nat):Int) /\
 0<4 /\
 (4:Int)≠0 /\
 (0:Nat)+1<=([(IntKind.u8.wrap (gtB x (3)*IntKind.u8.wrap (IntKind.i64.wrap ((i:Int)+IntKind.i64.wrap ((IntKind.i64.wrap (gtB x (0))).tdiv (4:Int))))))]:List uB.D).length /\
 d.length=d.length /\
 (0:Nat)=(0:Nat) /\
 d.length+(([(IntKind.u8.wrap (gtB x (3)*IntKind.u8.wrap (IntKind.i64.wrap ((i:Int)+IntKind.i64.wrap ((IntKind.i64.wrap (gtB x (0))).tdiv (4:Int))))))]:List uB.D)).length<2 ^ 30 /\
 (1:Nat)<=2 ^ 10 /\
 R (hd Tryd.f39 0) { env:=[(2,.ptr 2 0),(4,.ptr 4 0),(5,.ptr 5 0),(6,.int .i64 (IntKind.i64.wrap ((i:Int)+1)))],blk:=[(2,.var [.arr (4:Nat) uB x]),(4,.var [.int .i64 0,.int .i64 0,.int .i64 0,.int .u8 0,.nils]),(5,.var [.int .i64 k,.int .i64 a,.int .i64 n,.int .u8 b,.win true uB 76 0 (d.length+(([(IntKind.u8.wrap (gtB x (3)*IntKind.u8.wrap (IntKind.i64.wrap ((i:Int)+IntKind.i64.wrap ((IntKind.i64.wrap (gtB x (0))).tdiv (4:Int))))))]:List uB.D)).length)]),(76,.row 5 uB (d++([(IntKind.u8.wrap (gtB x (3)*IntKind.u8.wrap (IntKind.i64.wrap ((i:Int)+IntKind.i64.wrap ((IntKind.i64.wrap (gtB x (0))).tdiv (4:Int))))))]:List uB.D)))] }) (bc (decide (k=(4:Int))) ((0:Int)<=3 /\
 (3:Int)<(↑(4:Nat):Int) /\
 3<4 /\
 (0:Int)<=0 /\
 (0:Int)<(↑(4:Nat):Int) /\
 0<4 /\
 (4:Int)≠0 /\
 (0:Nat)+1<=([(IntKind.u8.wrap (gtB x (3)*IntKind.u8.wrap (IntKind.i64.wrap ((i:Int)+IntKind.i64.wrap ((IntKind.i64.wrap (gtB x (0))).tdiv (4:Int))))))]:List uB.D).length /\
 d.length=d.length /\
 (0:Nat)=(0:Nat) /\
 d.length+(([(IntKind.u8.wrap (gtB x (3)*IntKind.u8.wrap (IntKind.i64.wrap ((i:Int)+IntKind.i64.wrap ((IntKind.i64.wrap (gtB x (0))).tdiv (4:Int))))))]:List uB.D)).length<2 ^ 30 /\
 (1:Nat)<=2 ^ 10 /\
 R (hd Tryd.f39 0) { env:=[(2,.ptr 2 0),(4,.ptr 4 0),(5,.ptr 5 0),(6,.int .i64 (IntKind.i64.wrap ((i:Int)+1)))],blk:=[(2,.var [.arr (4:Nat) uB x]),(4,.var [.int .i64 0,.int .i64 0,.int .i64 0,.int .u8 0,.nils]),(5,.var [.int .i64 k,.int .i64 a,.int .i64 n,.int .u8 b,.win true uB 76 0 (d.length+(([(IntKind.u8.wrap (gtB x (3)*IntKind.u8.wrap (IntKind.i64.wrap ((i:Int)+IntKind.i64.wrap ((IntKind.i64.wrap (gtB x (0))).tdiv (4:Int))))))]:List uB.D)).length)]),(76,.row 5 uB (d++([(IntKind.u8.wrap (gtB x (3)*IntKind.u8.wrap (IntKind.i64.wrap ((i:Int)+IntKind.i64.wrap ((IntKind.i64.wrap (gtB x (0))).tdiv (4:Int))))))]:List uB.D)))] }) (Q [.agg [.int .i64 k,.int .i64 a,.int .i64 n,.int .u8 b,.win true uB 76 0 d.length]] (ql5 x d k a n b)))) (false=false /\
 Q [.agg [.int .i64 k,.int .i64 a,.int .i64 n,.int .u8 b,.win true uB 76 0 d.length]] (ql5 x d k a n b))):=by kernel_rfl
def ql4 (x d:List Int) (k a n b:Int):List (Nat × LB):=[(2,.var [.arr (4:Nat) uB x]),(4,.var [.int .i64 k,.int .i64 a,.int .i64 n,.int .u8 b,.sl uB d]),(5,.var [.int .i64 k,.int .i64 a,.int .i64 n,.int .u8 b,.sl uB d])]
theorem q6v (x d:List Int) (k a n b:Int) (i:Nat) (Q:QT) (R:RT):sy tt G0 [] Tryd.f39.ntmps Tryd.f39.results.toList Q (fun it S=>R it (qao [2,4,5,6] [2,4,5,76] S)) 1000 (hd Tryd.f39 0) ⟨[(2,.ptr 2 0),(4,.ptr 4 0),(5,.ptr 5 0),(6,.int .i64 (i:Nat))],[(2,.var [.arr 4 uB x]),(4,.var [.int .i64 0,.int .i64 0,.int .i64 0,.int .u8 0,.nils]),(5,.var [.int .i64 k,.int .i64 a,.int .i64 n,.int .u8 b,.sl uB d])]⟩ =
  (bc (decide ((i:Int)<n)) (bc (decide (k=(2:Int))) (true=true /\
 (0:Int)<=3 /\
 (3:Int)<(↑(4:Nat):Int) /\
 3<4 /\
 (0:Int)<=0 /\
 (0:Int)<(↑(4:Nat):Int) /\
 0<4 /\
 (4:Int)≠0 /\
 False) (bc (decide (k=(4:Int))) ((0:Int)<=3 /\
 (3:Int)<(↑(4:Nat):Int) /\
 3<4 /\
 (0:Int)<=0 /\
 (0:Int)<(↑(4:Nat):Int) /\
 0<4 /\
 (4:Int)≠0 /\
 False) (Q [.agg [.int .i64 k,.int .i64 a,.int .i64 n,.int .u8 b,.sl uB d]] (ql4 x d k a n b)))) (false=false /\
 Q [.agg [.int .i64 k,.int .i64 a,.int .i64 n,.int .u8 b,.sl uB d]] (ql4 x d k a n b))):=by kernel_rfl
end Go.Proofs.YticpkibnhakgbaaDoor
namespace Go.Proofs.YticpkibnhakgbaaDoor
open Go.Px Go.Ax
set_option maxRecDepth 100000
attribute [local irreducible] Go.Px.sy Go.Px.syE
def elA (x:List Int) (i:Nat):Int:=IntKind.u8.wrap (gtB x 3*IntKind.u8.wrap (IntKind.i64.wrap ((i:Int)+IntKind.i64.wrap ((IntKind.i64.wrap (gtB x 0)).tdiv 4))))
def datA (x:List Int) (n:Nat):List Int:=(List.range n).map (elA x)
theorem qnr (x:List Int) (n:Nat):(datA x n).length=n:=by simp[datA]
theorem qx4 (x:List Int) (i:Nat):datA x (i+1)=datA x i++[elA x i]:=by simp[datA,List.range_succ]
def datO (x:List Int) (k n:Int):List Int:=if k=2\/k=4 then datA x n.toNat else []
def opV (x:List Int) (n:Int):OpT:=
 if 1+(gtB x 0).tmod 4<=2 then
  if n=0 then (4,0,1+(gtB x 2).tmod 5,0,datO x 4 (1+(gtB x 2).tmod 5))
  else (1+(gtB x 0).tmod 4,(gtB x 1).tmod n,1+((gtB x 2).tmod (n-(gtB x 1).tmod n)).tmod 5,0,datO x (1+(gtB x 0).tmod 4) (1+((gtB x 2).tmod (n-(gtB x 1).tmod n)).tmod 5))
 else (1+(gtB x 0).tmod 4,0,1+(gtB x 2).tmod 5,if 1+(gtB x 0).tmod 4=3 then gtB x 3 else 0,datO x (1+(gtB x 0).tmod 4) (1+(gtB x 2).tmod 5))
def qqc (x:List Int):Prop:=∀ j,0<=gtB x j/\gtB x j<256
def preN (n:Int):Prop:=0<=n/\n<16777216
def ctOp:Ctr:=⟨[.arr 4 uB,iI],fun x=>qqc x.1/\preN x.2.1,fun x=>mdV (opV x.1 x.2.1),fun _=>[]⟩
abbrev OpQ (o:OpT):List SV->List (Nat × LB)->Prop:=fun rs _=>MtL (fun _=>none) (mdV o) rs
theorem qz4 (x:List Int) (k a b:Int) (n:Nat) (hn:n<16777216) (hk:k=2\/k=4):∀ (m i:Nat),n-i=m->i<=n ->
  GD 39 Tryd.f39 (OpQ (k,a,n,b,datA x n)) (hd Tryd.f39 0) ⟨[(2,.ptr 2 0),(4,.ptr 4 0),(5,.ptr 5 0),(6,.int .i64 (i:Nat))],[(2,.var [.arr 4 uB x]),(4,.var [.int .i64 0,.int .i64 0,.int .i64 0,.int .u8 0,.nils]),(5,.var [.int .i64 k,.int .i64 a,.int .i64 (n:Nat),.int .u8 b,.win true uB 76 0 (datA x i).length]),(76,.row 5 uB (datA x i))]⟩:=by
 intro m
 induction m with
 | zero=>
  intro i hm hi;have hi:i=n:=by omega
  subst hi;refine Good.frz (i:=76) (e:=uB) (et:=5) (xs:=datA x i) rfl (fun c hc=>?_) ?_
  ·have hc:c∈[0+(datA x i).length<=(datA x i).length]:=hc;rw[List.mem_singleton] at hc;subst hc;omega
  ·have e:GD 39 Tryd.f39 (OpQ (k,a,i,b,datA x i)) (hd Tryd.f39 0) ⟨[(2,.ptr 2 0),(4,.ptr 4 0),(5,.ptr 5 0),(6,.int .i64 (i:Nat))],[(2,.var [.arr 4 uB x]),(4,.var [.int .i64 0,.int .i64 0,.int .i64 0,.int .u8 0,.nils]),(5,.var [.int .i64 k,.int .i64 a,.int .i64 (i:Nat),.int .u8 b,.sl uB (winL uB 0 (datA x i).length (datA x i))])]⟩:=by
    refine qai cx0 (q6v x (winL uB 0 (datA x i).length (datA x i)) k a i b i _ _) ?_;rw[decide_eq_false (by omega),bc_f,winA];exact ⟨rfl,_,_,rfl,⟨_,rfl,_,_,rfl,rfl,_,_,rfl,rfl,_,_,rfl,rfl,_,_,rfl,rfl,_,_,rfl,.inl rfl,rfl⟩,rfl⟩
   exact e.only ⟨rfl,rfl,rfl,rfl,trivial⟩ ⟨rfl,rfl,rfl,trivial⟩
 | succ m ih=>
  intro i hm hi;have nx:=ih (i+1) (by omega) (by omega);have hl:=qnr x i;have hl2:=qnr x (i+1);rw[qx4] at nx hl2;refine qai cx0 (q6w x (datA x i) k a n b i _ _) ?_;rw[decide_eq_true (show (i:Int)<(n:Int) by omega),bc_t,IntWalk.i64_in ((i:Int)+1) (by omega)];have tl:GD 39 Tryd.f39 (OpQ (k,a,n,b,datA x n)) (hd Tryd.f39 0) ⟨[(2,.ptr 2 0),(4,.ptr 4 0),(5,.ptr 5 0),(6,.int .i64 ((i:Int)+1))],[(2,.var [.arr 4 uB x]),(4,.var [.int .i64 0,.int .i64 0,.int .i64 0,.int .u8 0,.nils]),(5,.var [.int .i64 k,.int .i64 a,.int .i64 (n:Nat),.int .u8 b,.win true uB 76 0 ((datA x i).length+1)]),(76,.row 5 uB (datA x i++[elA x i]))]⟩:=
   nx.only ⟨rfl,rfl,rfl,rfl,trivial⟩ ⟨rfl,rfl,by rw[List.length_append];rfl,rfl,trivial⟩
  have h30:(datA x i).length+1<2 ^ 30:=by omega
  rcases hk with rfl | rfl
  ·rw[decide_eq_true rfl,bc_t];exact ⟨rfl,by decide,by decide,by decide,by decide,by decide,by decide,by decide,Nat.le_refl 1,rfl,rfl,h30,by decide,tl⟩
  ·rw[decide_eq_false (by decide),bc_f,decide_eq_true rfl,bc_t];exact ⟨by decide,by decide,by decide,by decide,by decide,by decide,by decide,Nat.le_refl 1,rfl,rfl,h30,by decide,tl⟩
theorem qz5 (x:List Int) (k a b:Int) (n:Nat) (hn:n<16777216) (h0:0<n) :
  GD 39 Tryd.f39 (OpQ (k,a,n,b,datO x k n)) (hd Tryd.f39 0) ⟨[(2,.ptr 2 0),(4,.ptr 4 0),(5,.ptr 5 0),(6,.int .i64 0)],[(2,.var [.arr 4 uB x]),(4,.var [.int .i64 0,.int .i64 0,.int .i64 0,.int .u8 0,.nils]),(5,.var [.int .i64 k,.int .i64 a,.int .i64 (n:Nat),.int .u8 b,.nils])]⟩:=by
 refine qai cx0 (q6x x k a n b 0 _ _) ?_;rw[decide_eq_true (show ((0:Nat):Int)<(n:Int) by omega),bc_t,IntWalk.i64_in (((0:Nat):Int)+1) (by omega)];have tl:(k=2\/k=4)->GD 39 Tryd.f39 (OpQ (k,a,n,b,datO x k n)) (hd Tryd.f39 0) ⟨[(2,.ptr 2 0),(4,.ptr 4 0),(5,.ptr 5 0),(6,.int .i64 (((0:Nat):Int)+1))],[(2,.var [.arr 4 uB x]),(4,.var [.int .i64 0,.int .i64 0,.int .i64 0,.int .u8 0,.nils]),(5,.var [.int .i64 k,.int .i64 a,.int .i64 (n:Nat),.int .u8 b,.win true uB 76 0 1]),(76,.row 5 uB [elA x 0])]⟩:=fun hk=>by
  have:=qz4 x k a b n hn hk _ 1 rfl (by omega);have e:datO x k n=datA x n:=by unfold datO;rw[if_pos hk,Int.toNat_natCast]
  rw[e];exact this
 refine qaf (fun h=>?_) (fun h=>qaf (fun h2=>?_) (fun h2=>?_))
 ·have h:k=2:=of_decide_eq_true h;exact ⟨rfl,by decide,by decide,by decide,by decide,by decide,by decide,by decide,Nat.le_refl 1,(show 1<2 ^ 30 by decide),by decide,tl (.inl h)⟩
 ·have h2:k=4:=of_decide_eq_true h2;exact ⟨by decide,by decide,by decide,by decide,by decide,by decide,by decide,Nat.le_refl 1,(show 1<2 ^ 30 by decide),by decide,tl (.inr h2)⟩
 ·have h:¬ k=2:=of_decide_eq_false h;have h2:¬ k=4:=of_decide_eq_false h2;have e:datO x k n=[]:=if_neg (by omega);rw[e];exact ⟨_,_,rfl,⟨_,rfl,_,_,rfl,rfl,_,_,rfl,rfl,_,_,rfl,rfl,_,_,rfl,rfl,_,_,rfl,.inr ⟨rfl,rfl⟩,rfl⟩,rfl⟩
theorem qdl {a b:Int} (h:0<=a) (hb:0<b):0<=a.tmod b/\a.tmod b<b:=⟨Int.tmod_nonneg _ h,Int.tmod_lt_of_pos _ hb⟩
theorem q8d (x:List Int) (n:Int) (hx:qqc x) (hn0:0<=n) (hn1:n<16777216):GD 39 Tryd.f39 (QC ctOp (x,n,())) [.code (qae Tryd.f39)] (entry [.arr 4 uB,iI] (x,n,())):=by
 have wx:∀ j,IntKind.i64.wrap (gtB x j)=gtB x j:=fun j=>IntWalk.i64_in _ (by have:=hx j;omega)
 have m0:=qdl (hx 0).1 (b:=4) (by decide);have m2:=qdl (hx 2).1 (b:=5) (by decide);have w0:IntKind.i64.wrap (1+(gtB x 0).tmod 4)=1+(gtB x 0).tmod 4:=IntWalk.i64_in _ (by omega);have w2:IntKind.i64.wrap (1+(gtB x 2).tmod 5)=1+(gtB x 2).tmod 5:=IntWalk.i64_in _ (by omega);have go:∀ (k a len b:Int),0<len->len<16777216->opV x n=(k,a,len,b,datO x k len)->GD 39 Tryd.f39 (QC ctOp (x,n,())) (hd Tryd.f39 0) ⟨[(2,.ptr 2 0),(4,.ptr 4 0),(5,.ptr 5 0),(6,.int .i64 0)],[(2,.var [.arr 4 uB x]),(4,.var [.int .i64 0,.int .i64 0,.int .i64 0,.int .u8 0,.nils]),(5,.var [.int .i64 k,.int .i64 a,.int .i64 len,.int .u8 b,.nils])]⟩:=fun k a len b h1 h2 h3=>by
  obtain ⟨N,rfl⟩:=Int.eq_ofNat_of_zero_le (Int.le_of_lt h1);refine (qz5 x k a b N (by omega) (by omega)).post fun rs blk hq=>QC.mt ?_ rfl
  show MtL _ (mdV (opV x n)) _
  rw[h3];exact hq
 refine qai cx0 (vc_op x n _ _) ?_;simp only[wx,w0,w2];refine ⟨by decide,by decide,by decide,by decide,by decide,by decide,by decide,by decide,qaf (fun h=>?_) (fun h=>?_)⟩
 ·have h:1+(gtB x 0).tmod 4<=2:=of_decide_eq_true h;refine qaf (fun h2=>?_) (fun h2=>?_)
  ·have h2:n=0:=of_decide_eq_true h2;exact go _ _ _ _ (by omega) (by omega) (by unfold opV;rw[if_pos h,if_pos h2])
  ·have h2:¬ n=0:=of_decide_eq_false h2;have m1:=qdl (hx 1).1 (b:=n) (by omega);have w1:IntKind.i64.wrap (n-(gtB x 1).tmod n)=n-(gtB x 1).tmod n:=IntWalk.i64_in _ (by omega);have m3:=qdl (hx 2).1 (b:=n-(gtB x 1).tmod n) (by omega);have m4:=qdl m3.1 (b:=5) (by decide);have w3:IntKind.i64.wrap (1+((gtB x 2).tmod (n-(gtB x 1).tmod n)).tmod 5)=1+((gtB x 2).tmod (n-(gtB x 1).tmod n)).tmod 5:=IntWalk.i64_in _ (by omega);rw[w1,w3];refine ⟨by decide,by decide,by decide,h2,by decide,by decide,by decide,by omega,by decide,qaf (fun h3=>?_) (fun h3=>?_)⟩
   ·have h3:1+(gtB x 0).tmod 4=3:=of_decide_eq_true h3;omega
   ·exact go _ _ _ _ (by omega) (by omega) (by unfold opV;rw[if_pos h,if_neg h2])
 ·have h:¬ 1+(gtB x 0).tmod 4<=2:=of_decide_eq_false h;refine qaf (fun h3=>?_) (fun h3=>?_)
  ·have h3:1+(gtB x 0).tmod 4=3:=of_decide_eq_true h3;exact ⟨by decide,by decide,by decide,go _ _ _ _ (by omega) (by omega) (by unfold opV;rw[if_neg h,if_pos h3])⟩
  ·have h3:¬ 1+(gtB x 0).tmod 4=3:=of_decide_eq_false h3;exact go _ _ _ _ (by omega) (by omega) (by unfold opV;rw[if_neg h,if_neg h3])
theorem q4w:Held Tryd.prog G0 39 ctOp:=
 Held.of cx0 (fn:=Tryd.f39) rfl rfl ⟨by decide,by decide⟩ fun ⟨x,n,_⟩ hp=>q8d x n hp.1 hp.2.1 hp.2.2
end Go.Proofs.YticpkibnhakgbaaDoor
namespace Go.Proofs.YticpkibnhakgbaaDoor
open Go.Px Go.Ax
set_option maxRecDepth 100000
abbrev a4S:Sh:=.arr 4 uB
abbrev raS:Sh:=.pair uB (.sl a4S)
def C54:CV:=[(39,.inl ctOp)]
theorem cx54:CxOK Tryd.prog tt G0 C54:=cx0.cons q4w (fn:=Tryd.f39) rfl rfl rfl
set_option maxRecDepth 100000
theorem qyq (z m:Int) (l:List (List Int)) (Q:QT) (R:RT):sy tt G0 C54 Tryd.f23.ntmps Tryd.f23.results.toList Q (fun it S=>R it (qao [1,2,4,5,6] [2,4,5,32] S)) 1000 [.code (qae Tryd.f23)] (entry [raS,iI] ((z,l),m,())) =
  (R (hd Tryd.f23 0) { env:=[(1,.int .i64 m),(2,.ptr 2 0),(4,.ptr 4 0),(5,.ptr 5 0),(6,.int .i64 0)],blk:=[(2,.var [.int .u8 z,.sl a4S l]),(4,.var [.bool false,.int .i64 0,.int .i64 0,.nils]),(5,.var [.bool false,.int .i64 m,.int .i64 0,.nils])] }):=by kernel_rfl
def ql3 (z m o:Int) (l:List (List Int)):List (Nat × LB):=[(2,.var [.int .u8 z,.sl a4S l]),(4,.var [.bool false,.int .i64 m,.int .i64 o,.nils]),(5,.var [.bool false,.int .i64 m,.int .i64 o,.nils])]
theorem q6l (z m o:Int) (l:List (List Int)) (i:Nat) (Q:QT) (R:RT):sy tt G0 C54 Tryd.f23.ntmps Tryd.f23.results.toList Q (fun it S=>R it (qao [1,2,4,5,6] [2,4,5,32] S)) 1000 (hd Tryd.f23 0) ⟨[(1,.int .i64 m),(2,.ptr 2 0),(4,.ptr 4 0),(5,.ptr 5 0),(6,.int .i64 (i:Nat))],[(2,.var [.int .u8 z,.sl a4S l]),(4,.var [.bool false,.int .i64 0,.int .i64 0,.nils]),(5,.var [.bool false,.int .i64 m,.int .i64 o,.nils])]⟩ =
  (bc (decide ((i:Int)<(l.length:Int))) (bc (decide ((i:Int)<6)) ((0:Int)<=(i:Int) /\
 (i:Int)<(l.length:Int) /\
 ctOp.pre (gt a4S l (i:Int).toNat,m,()) /\
 (0:Nat)+1<=([(opV (gt a4S l (i:Int).toNat) m)]:List opS.D).length /\
 (([(opV (gt a4S l (i:Int).toNat) m)]:List opS.D)).length<2 ^ 30 /\
 (56:Nat)<=2 ^ 10 /\
 R (hd Tryd.f23 0) { env:=[(1,.int .i64 m),(2,.ptr 2 0),(4,.ptr 4 0),(5,.ptr 5 0),(6,.int .i64 (IntKind.i64.wrap ((i:Int)+1)))],blk:=[(2,.var [.int .u8 z,.sl a4S l]),(4,.var [.bool false,.int .i64 0,.int .i64 0,.nils]),(5,.var [.bool false,.int .i64 m,.int .i64 (IntKind.i64.wrap (o+(opV (gt a4S l (i:Int).toNat) m).2.2.1)),.win true opS 32 0 (1:Nat)]),(32,.row 69 opS (([(opV (gt a4S l (i:Int).toNat) m)]:List opS.D)))] }) (Q [.agg [.bool false,.int .i64 m,.int .i64 o,.nils]] (ql3 z m o l))) (false=false /\
 Q [.agg [.bool false,.int .i64 m,.int .i64 o,.nils]] (ql3 z m o l))):=by kernel_rfl
def ql2 (z m o:Int) (l:List (List Int)) (d:List OpT):List (Nat × LB):=[(2,.var [.int .u8 z,.sl a4S l]),(4,.var [.bool false,.int .i64 m,.int .i64 o,.win true opS 32 0 d.length]),(5,.var [.bool false,.int .i64 m,.int .i64 o,.win true opS 32 0 d.length]),(32,.row 69 opS d)]
theorem q6k (z m o:Int) (l:List (List Int)) (d:List OpT) (i:Nat) (Q:QT) (R:RT):sy tt G0 C54 Tryd.f23.ntmps Tryd.f23.results.toList Q (fun it S=>R it (qao [1,2,4,5,6] [2,4,5,32] S)) 1000 (hd Tryd.f23 0) ⟨[(1,.int .i64 m),(2,.ptr 2 0),(4,.ptr 4 0),(5,.ptr 5 0),(6,.int .i64 (i:Nat))],[(2,.var [.int .u8 z,.sl a4S l]),(4,.var [.bool false,.int .i64 0,.int .i64 0,.nils]),(5,.var [.bool false,.int .i64 m,.int .i64 o,.win true opS 32 0 d.length]),(32,.row 69 opS d)]⟩ =
  (bc (decide ((i:Int)<(l.length:Int))) (bc (decide ((i:Int)<6)) ((0:Int)<=(i:Int) /\
 (i:Int)<(l.length:Int) /\
 ctOp.pre (gt a4S l (i:Int).toNat,m,()) /\
 (0:Nat)+1<=([(opV (gt a4S l (i:Int).toNat) m)]:List opS.D).length /\
 d.length=d.length /\
 (0:Nat)=(0:Nat) /\
 d.length+(([(opV (gt a4S l (i:Int).toNat) m)]:List opS.D)).length<2 ^ 30 /\
 (56:Nat)<=2 ^ 10 /\
 R (hd Tryd.f23 0) { env:=[(1,.int .i64 m),(2,.ptr 2 0),(4,.ptr 4 0),(5,.ptr 5 0),(6,.int .i64 (IntKind.i64.wrap ((i:Int)+1)))],blk:=[(2,.var [.int .u8 z,.sl a4S l]),(4,.var [.bool false,.int .i64 0,.int .i64 0,.nils]),(5,.var [.bool false,.int .i64 m,.int .i64 (IntKind.i64.wrap (o+(opV (gt a4S l (i:Int).toNat) m).2.2.1)),.win true opS 32 0 (d.length+(([(opV (gt a4S l (i:Int).toNat) m)]:List opS.D)).length)]),(32,.row 69 opS (d++([(opV (gt a4S l (i:Int).toNat) m)]:List opS.D)))] }) (Q [.agg [.bool false,.int .i64 m,.int .i64 o,.win true opS 32 0 d.length]] (ql2 z m o l d))) (false=false /\
 Q [.agg [.bool false,.int .i64 m,.int .i64 o,.win true opS 32 0 d.length]] (ql2 z m o l d))):=by kernel_rfl
def ql1 (z m o:Int) (l:List (List Int)) (d:List OpT):List (Nat × LB):=[(2,.var [.int .u8 z,.sl a4S l]),(4,.var [.bool false,.int .i64 m,.int .i64 o,.sl opS d]),(5,.var [.bool false,.int .i64 m,.int .i64 o,.sl opS d])]
theorem q6j (z m o:Int) (l:List (List Int)) (d:List OpT) (i:Nat) (Q:QT) (R:RT):sy tt G0 C54 Tryd.f23.ntmps Tryd.f23.results.toList Q (fun it S=>R it (qao [1,2,4,5,6] [2,4,5,32] S)) 1000 (hd Tryd.f23 0) ⟨[(1,.int .i64 m),(2,.ptr 2 0),(4,.ptr 4 0),(5,.ptr 5 0),(6,.int .i64 (i:Nat))],[(2,.var [.int .u8 z,.sl a4S l]),(4,.var [.bool false,.int .i64 0,.int .i64 0,.nils]),(5,.var [.bool false,.int .i64 m,.int .i64 o,.sl opS d])]⟩ =
  (bc (decide ((i:Int)<(l.length:Int))) (bc (decide ((i:Int)<6)) ((0:Int)<=(i:Int) /\
 (i:Int)<(l.length:Int) /\
 ctOp.pre (gt a4S l (i:Int).toNat,m,()) /\
 False) (Q [.agg [.bool false,.int .i64 m,.int .i64 o,.sl opS d]] (ql1 z m o l d))) (false=false /\
 Q [.agg [.bool false,.int .i64 m,.int .i64 o,.sl opS d]] (ql1 z m o l d))):=by kernel_rfl
end Go.Proofs.YticpkibnhakgbaaDoor
namespace Go.Proofs.YticpkibnhakgbaaDoor
open Go.Px Go.Ax
set_option maxRecDepth 100000
attribute [local irreducible] Go.Px.sy Go.Px.syE
def szL (l:List (List Int)) (m:Int) (i:Nat):List OpT:=(List.range i).map fun j=>opV (gt a4S l j) m
def szK (l:List (List Int)):Nat:=min l.length 6
def szO (l:List (List Int)) (m:Int):List OpT:=szL l m (szK l)
def szV (l:List (List Int)) (m:Int):PaT:=(false,m,lenS (szO l m),szO l m)
theorem qvn (l:List (List Int)) (m:Int) (i:Nat):(szL l m i).length=i:=by simp[szL]
theorem qrl (l:List (List Int)) (m:Int) (i:Nat):szL l m (i+1)=szL l m i++[opV (gt a4S l i) m]:=by simp[szL,List.range_succ]
theorem qng (a b:List OpT):lenS (a++b)=lenS a+lenS b:=by simp[lenS]
theorem qqf {x:List Int} {m:Int} (hx:qqc x) (h0:0<=m):1<=(opV x m).2.2.1/\(opV x m).2.2.1<=5:=by
 have m2:=qdl (hx 2).1 (b:=5) (by decide);unfold opV;split
 ·split
  ·show 1<=1+_/\1+_<=5
   omega
  ·have m1:=qdl (hx 1).1 (b:=m) (by omega);have m3:=qdl (hx 2).1 (b:=m-(gtB x 1).tmod m) (by omega);have m4:=qdl m3.1 (b:=5) (by decide)
   show 1<=1+_/\1+_<=5
   omega
 ·show 1<=1+_/\1+_<=5
  omega
theorem qmu {l:List (List Int)} {m:Int} (hl:∀ j,qqc (gt a4S l j)) (h0:0<=m):∀ i,0<=lenS (szL l m i)/\lenS (szL l m i)<=5*i
 | 0=>by simp[szL,lenS]
 | i+1=>by
  have:=qmu hl h0 i;have h:=qqf (hl i) h0;rw[qrl,qng];have e:lenS [opV (gt a4S l i) m]=(opV (gt a4S l i) m).2.2.1:=by simp[lenS]
  rw[e];omega
def qkk (l:List (List Int)):Prop:=∀ j,qqc (gt a4S l j)
def q75 (l:List (List Int)) (m:Int):Prop:=qkk l/\preN m/\l.length<9223372036854775808
def ctSz:Ctr:=⟨[raS,iI],fun x=>q75 x.1.2 x.2.1,fun x=>[paV (szV x.1.2 x.2.1)],fun _=>[]⟩
abbrev PaQ (p:PaT):List SV->List (Nat × LB)->Prop:=fun rs _=>MtL (fun _=>none) [paV p] rs
section
variable (z m:Int) (l:List (List Int)) (hl:qkk l) (hm0:0<=m) (hm1:m<16777216) (hn:l.length<9223372036854775808)
abbrev szBs (i:Nat) (d:List OpT) (o:Int):PS:=⟨[(1,.int .i64 m),(2,.ptr 2 0),(4,.ptr 4 0),(5,.ptr 5 0),(6,.int .i64 (i:Nat))],[(2,.var [.int .u8 z,.sl a4S l]),(4,.var [.bool false,.int .i64 0,.int .i64 0,.nils]),(5,.var [.bool false,.int .i64 m,.int .i64 o,.win true opS 32 0 d.length]),(32,.row 69 opS d)]⟩
include hl hm0 hm1 hn
theorem q31 (i:Nat) (hi:i=szK l):GD 23 Tryd.f23 (PaQ (szV l m)) (hd Tryd.f23 0) (szBs z m l i (szL l m i) (lenS (szL l m i))):=by
 have _:=And.intro hl (And.intro hm0 (And.intro hm1 hn));have hd:szL l m i=szO l m:=by rw[hi];rfl
 rw[hd];refine Good.frz (i:=32) (e:=opS) (et:=69) (xs:=szO l m) rfl (fun c hc=>?_) ?_
 ·have hc:c∈[0+(szO l m).length<=(szO l m).length]:=hc;rw[List.mem_singleton] at hc;subst hc;omega
 ·have e:GD 23 Tryd.f23 (PaQ (szV l m)) (Px.hd Tryd.f23 0) ⟨[(1,.int .i64 m),(2,.ptr 2 0),(4,.ptr 4 0),(5,.ptr 5 0),(6,.int .i64 (i:Nat))],[(2,.var [.int .u8 z,.sl a4S l]),(4,.var [.bool false,.int .i64 0,.int .i64 0,.nils]),(5,.var [.bool false,.int .i64 m,.int .i64 (lenS (szO l m)),.sl opS (winL opS 0 (szO l m).length (szO l m))])]⟩:=by
   refine qai cx54 (q6j z m (lenS (szO l m)) l (winL opS 0 (szO l m).length (szO l m)) i _ _) ?_;rw[winA];have fin:PaQ (szV l m) [SV.agg [SV.bool false,SV.int IntKind.i64 m,SV.int IntKind.i64 (lenS (szO l m)),SV.sl opS (szO l m)]] []:=⟨_,_,rfl,⟨_,rfl,_,_,rfl,rfl,_,_,rfl,rfl,_,_,rfl,rfl,_,_,rfl,.inl rfl,rfl⟩,rfl⟩;refine qaf (fun h=>qaf (fun h2=>?_) (fun h2=>fin)) (fun h=>⟨rfl,fin⟩);have h:=of_decide_eq_true h;have h2:=of_decide_eq_true h2;unfold szK at hi;omega
  exact e.only ⟨rfl,rfl,rfl,rfl,rfl,trivial⟩ ⟨rfl,rfl,rfl,trivial⟩
theorem qy8:∀ (k i:Nat),szK l-i=k->i<=szK l->GD 23 Tryd.f23 (PaQ (szV l m)) (hd Tryd.f23 0) (szBs z m l i (szL l m i) (lenS (szL l m i))):=by
 intro k
 induction k with
 | zero=>intro i hk hi;exact q31 z m l hl hm0 hm1 hn i (by omega)
 | succ k ih=>
  intro i hk hi;have nx:=ih (i+1) (by omega) (by omega);have hs:=qmu hl hm0 i;have hs2:=qmu hl hm0 (i+1);have h6:i<l.length/\i<6:=by unfold szK at hk hi;omega
  rw[qrl,qng] at nx hs2;have e1:lenS [opV (gt a4S l i) m]=(opV (gt a4S l i) m).2.2.1:=by simp[lenS]
  rw[e1] at nx hs2;refine qai cx54 (q6k z m (lenS (szL l m i)) l (szL l m i) i _ _) ?_;rw[decide_eq_true (show (i:Int)<(l.length:Int) by omega),bc_t,decide_eq_true (show (i:Int)<(6:Int) by omega),bc_t,Int.toNat_natCast,IntWalk.i64_in ((i:Int)+1) (by omega),IntWalk.i64_in (lenS (szL l m i)+(opV (gt a4S l i) m).2.2.1) (by omega)];refine ⟨by omega,by omega,⟨hl i,hm0,hm1⟩,Nat.le_refl 1,rfl,rfl,?_,by decide,nx.only ⟨rfl,rfl,rfl,rfl,rfl,trivial⟩ ⟨rfl,rfl,by rw[List.length_append];rfl,rfl,trivial⟩⟩
  show (szL l m i).length+1<2 ^ 30
  rw[qvn];omega
theorem qy9:GD 23 Tryd.f23 (PaQ (szV l m)) (hd Tryd.f23 0) ⟨[(1,.int .i64 m),(2,.ptr 2 0),(4,.ptr 4 0),(5,.ptr 5 0),(6,.int .i64 0)],[(2,.var [.int .u8 z,.sl a4S l]),(4,.var [.bool false,.int .i64 0,.int .i64 0,.nils]),(5,.var [.bool false,.int .i64 m,.int .i64 0,.nils])]⟩:=by
 refine qai cx54 (q6l z m 0 l 0 _ _) ?_;refine qaf (fun h=>qaf (fun h2=>?_) (fun h2=>?_)) (fun h=>⟨rfl,?_⟩)
 ·have h:=of_decide_eq_true h;have nx:=qy8 z m l hl hm0 hm1 hn _ 1 rfl (by unfold szK;omega);have hs:=qqf (hl 0) hm0;have e0:szL l m 1=[opV (gt a4S l 0) m]:=rfl;have e1:lenS [opV (gt a4S l 0) m]=(opV (gt a4S l 0) m).2.2.1:=by simp[lenS]
  rw[e0,e1] at nx;rw[Int.toNat_natCast,IntWalk.i64_in (((0:Nat):Int)+1) (by omega),IntWalk.i64_in (0+(opV (gt a4S l 0) m).2.2.1) (by omega),Int.zero_add];exact ⟨by omega,by omega,⟨hl 0,hm0,hm1⟩,Nat.le_refl 1,(show 1<2 ^ 30 by decide),by decide,nx.only ⟨rfl,rfl,rfl,rfl,rfl,trivial⟩ ⟨rfl,rfl,rfl,rfl,trivial⟩⟩
 ·exact absurd (of_decide_eq_false h2) (by decide)
 ·have h:=of_decide_eq_false h;have e:szO l m=[]:=by
   have:l.length=0:=by omega
   unfold szO szK;rw[this];rfl
  show MtL _ [paV (szV l m)] _
  unfold szV;rw[e];exact ⟨_,_,rfl,⟨_,rfl,_,_,rfl,rfl,_,_,rfl,rfl,_,_,rfl,rfl,_,_,rfl,.inr ⟨rfl,rfl⟩,rfl⟩,rfl⟩
end
theorem qvl:Held Tryd.prog G0 23 ctSz:=
 Held.of cx54 (fn:=Tryd.f23) rfl rfl ⟨by decide,by decide⟩ fun ⟨⟨z,l⟩,m,_⟩ hp=>
  qai cx54 (qyq z m l _ _) ((qy9 z m l hp.1 hp.2.1.1 hp.2.1.2 hp.2.2).post fun rs blk hq=>QC.mt hq rfl)
end Go.Proofs.YticpkibnhakgbaaDoor
