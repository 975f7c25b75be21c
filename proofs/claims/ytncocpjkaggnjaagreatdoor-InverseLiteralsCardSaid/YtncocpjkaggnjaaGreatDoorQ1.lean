/-
  A part of the proof: what pieces of the program give; conditions: those of each theorem.
-/
import Derived.Test.YtncocpjkaggnjaaGreatDoorQ0
set_option linter.unusedVariables false
set_option linter.unusedSimpArgs false
namespace Go.Proofs.YtncocpjkaggnjaaGreatDoor
open Go.Px Go.Ax
set_option maxRecDepth 100000
set_option maxRecDepth 100000
theorem vc_copyA (k f n b:Int) (d:List Int) (o:List SyT) (Q:QT) (R:RT):sy tt G0 [] Tryz.f177.ntmps Tryz.f177.results.toList Q R 1000 [.code (bodyOf Tryz.f177)] (entryI [.dat opS,.row 83 syS] ((k,f,n,b,d),o,())) =
  (R (hd Tryz.f177 0) { env:=[(0,.agg [.int .i64 k,.int .i64 f,.int .i64 n,.int .u8 b,.sl uB d]),(1,.win true syS 1099511627776 0 o.length),(2,.ptr 2 0),(4,.nils),(6,.ptr 2 2),(7,.int .i64 n),(8,.int .i64 0)],blk:=[(2,.var [.int .i64 k,.int .i64 f,.int .i64 n,.int .u8 b,.sl uB d]),(1099511627776,.row 83 syS o)] }):=by kernel_rfl
theorem vc_copyA1 (k f n b:Int) (d:List Int) (o:List SyT) (i:Nat) (Q:QT) (R:RT):sy tt G0 [] Tryz.f177.ntmps Tryz.f177.results.toList Q R 1000 (hd Tryz.f177 0) ⟨[(1,.win true syS 1099511627776 0 o.length),(2,.ptr 2 0),(7,.int .i64 n),(8,.int .i64 (i:Nat))],[(2,.var [.int .i64 k,.int .i64 f,.int .i64 n,.int .u8 b,.sl uB d]),(1099511627776,.row 83 syS o)]⟩ =
  (bc (decide ((i:Int)<n)) ((0:Nat)+(1:Nat)≤([(true,IntKind.i64.wrap (f+(i:Int)),(0:Int))]:List syS.D).length ∧
 o.length=o.length ∧
 (0:Nat)=(0:Nat) ∧
 o.length+(winL ((fun self=>self.6) (mkT (3:Nat) (24:Nat) true (TK.struct [((0:Nat),(4:TypeId)),((1:Nat),(3:TypeId)),((2:Nat),(5:TypeId))]) syS (some IntKind.i8))) (0:Nat) (1:Nat) ([(true,IntKind.i64.wrap (f+(i:Int)),(0:Int))]:List syS.D)).length<(2:Nat) ^ (30:Nat) ∧
 (24:Nat)≤(2:Nat) ^ (10:Nat) ∧
 R (hd Tryz.f177 0) { env:=[(1,.win true syS 18 0 (o.length+(winL ((fun self=>self.6) (mkT (3:Nat) (24:Nat) true (TK.struct [((0:Nat),(4:TypeId)),((1:Nat),(3:TypeId)),((2:Nat),(5:TypeId))]) syS (some IntKind.i8))) (0:Nat) (1:Nat) ([(true,IntKind.i64.wrap (f+(i:Int)),(0:Int))]:List syS.D)).length)),(2,.ptr 2 0),(5,.int .i64 (i:Int)),(7,.int .i64 n),(8,.int .i64 (IntKind.i64.wrap ((i:Int)+(1:Int)))),(9,.bool (decide ((i:Int)<n))),(10,.int .i64 (i:Int)),(11,.dead),(12,.ptr 2 1),(13,.int .i64 f),(14,.int .i64 (i:Int)),(15,.int .i64 (IntKind.i64.wrap (f+(i:Int)))),(16,.agg [.bool true,.int .i64 (IntKind.i64.wrap (f+(i:Int))),.int .u8 0]),(17,.win true syS 17 0 (1:Nat)),(18,.win true syS 18 0 (o.length+(winL ((fun self=>self.6) (mkT (3:Nat) (24:Nat) true (TK.struct [((0:Nat),(4:TypeId)),((1:Nat),(3:TypeId)),((2:Nat),(5:TypeId))]) syS (some IntKind.i8))) (0:Nat) (1:Nat) ([(true,IntKind.i64.wrap (f+(i:Int)),(0:Int))]:List syS.D)).length)),(19,.int .i64 (IntKind.i64.wrap ((i:Int)+(1:Int))))],blk:=[(2,.var [.int .i64 k,.int .i64 f,.int .i64 n,.int .u8 b,.sl uB d]),(17,.row 83 syS ([(true,IntKind.i64.wrap (f+(i:Int)),(0:Int))]:List syS.D)),(18,.row 83 syS (o++([(true,IntKind.i64.wrap (f+(i:Int)),(0:Int))]:List syS.D)))] }) (Q [.win true syS 1099511627776 0 o.length] [(2,.var [.int .i64 k,.int .i64 f,.int .i64 n,.int .u8 b,.sl uB d]),(1099511627776,.row 83 syS o)])):=by kernel_rfl
theorem vc_copyA2 (k f n b:Int) (d:List Int) (o:List SyT) (i:Nat) (Q:QT) (R:RT):sy tt G0 [] Tryz.f177.ntmps Tryz.f177.results.toList Q R 1000 (hd Tryz.f177 0) ⟨[(1,.win true syS 1 0 o.length),(2,.ptr 2 0),(7,.int .i64 n),(8,.int .i64 (i:Nat))],[(2,.var [.int .i64 k,.int .i64 f,.int .i64 n,.int .u8 b,.sl uB d]),(1,.row 83 syS o)]⟩ =
  (bc (decide ((i:Int)<n)) ((0:Nat)+(1:Nat)≤([(true,IntKind.i64.wrap (f+(i:Int)),(0:Int))]:List syS.D).length ∧
 o.length=o.length ∧
 (0:Nat)=(0:Nat) ∧
 o.length+(winL ((fun self=>self.6) (mkT (3:Nat) (24:Nat) true (TK.struct [((0:Nat),(4:TypeId)),((1:Nat),(3:TypeId)),((2:Nat),(5:TypeId))]) syS (some IntKind.i8))) (0:Nat) (1:Nat) ([(true,IntKind.i64.wrap (f+(i:Int)),(0:Int))]:List syS.D)).length<(2:Nat) ^ (30:Nat) ∧
 (24:Nat)≤(2:Nat) ^ (10:Nat) ∧
 R (hd Tryz.f177 0) { env:=[(1,.win true syS 18 0 (o.length+(winL ((fun self=>self.6) (mkT (3:Nat) (24:Nat) true (TK.struct [((0:Nat),(4:TypeId)),((1:Nat),(3:TypeId)),((2:Nat),(5:TypeId))]) syS (some IntKind.i8))) (0:Nat) (1:Nat) ([(true,IntKind.i64.wrap (f+(i:Int)),(0:Int))]:List syS.D)).length)),(2,.ptr 2 0),(5,.int .i64 (i:Int)),(7,.int .i64 n),(8,.int .i64 (IntKind.i64.wrap ((i:Int)+(1:Int)))),(9,.bool (decide ((i:Int)<n))),(10,.int .i64 (i:Int)),(11,.dead),(12,.ptr 2 1),(13,.int .i64 f),(14,.int .i64 (i:Int)),(15,.int .i64 (IntKind.i64.wrap (f+(i:Int)))),(16,.agg [.bool true,.int .i64 (IntKind.i64.wrap (f+(i:Int))),.int .u8 0]),(17,.win true syS 17 0 (1:Nat)),(18,.win true syS 18 0 (o.length+(winL ((fun self=>self.6) (mkT (3:Nat) (24:Nat) true (TK.struct [((0:Nat),(4:TypeId)),((1:Nat),(3:TypeId)),((2:Nat),(5:TypeId))]) syS (some IntKind.i8))) (0:Nat) (1:Nat) ([(true,IntKind.i64.wrap (f+(i:Int)),(0:Int))]:List syS.D)).length)),(19,.int .i64 (IntKind.i64.wrap ((i:Int)+(1:Int))))],blk:=[(2,.var [.int .i64 k,.int .i64 f,.int .i64 n,.int .u8 b,.sl uB d]),(17,.row 83 syS ([(true,IntKind.i64.wrap (f+(i:Int)),(0:Int))]:List syS.D)),(18,.row 83 syS (o++([(true,IntKind.i64.wrap (f+(i:Int)),(0:Int))]:List syS.D)))] }) (Q [.win true syS 1 0 o.length] [(2,.var [.int .i64 k,.int .i64 f,.int .i64 n,.int .u8 b,.sl uB d]),(1,.row 83 syS o)])):=by kernel_rfl
theorem vc_diffA (k f n b:Int) (d:List Int) (o:List SyT) (Q:QT) (R:RT):sy tt G0 [] Tryz.f181.ntmps Tryz.f181.results.toList Q R 1000 [.code (bodyOf Tryz.f181)] (entryI [.dat opS,.row 83 syS] ((k,f,n,b,d),o,())) =
  (R (hd Tryz.f181 0) { env:=[(0,.agg [.int .i64 k,.int .i64 f,.int .i64 n,.int .u8 b,.sl uB d]),(1,.win true syS 1099511627776 0 o.length),(2,.ptr 2 0),(4,.nils),(7,.ptr 2 4),(8,.sl uB d),(9,.int .i64 (d.length:Int)),(10,.int .i64 0)],blk:=[(2,.var [.int .i64 k,.int .i64 f,.int .i64 n,.int .u8 b,.sl uB d]),(1099511627776,.row 83 syS o)] }):=by kernel_rfl
theorem vc_diffA1 (k f n b:Int) (d:List Int) (o:List SyT) (i:Nat) (Q:QT) (R:RT):sy tt G0 [] Tryz.f181.ntmps Tryz.f181.results.toList Q R 1000 (hd Tryz.f181 0) ⟨[(1,.win true syS 1099511627776 0 o.length),(2,.ptr 2 0),(8,.sl uB d),(9,.int .i64 d.length),(10,.int .i64 (i:Nat))],[(2,.var [.int .i64 k,.int .i64 f,.int .i64 n,.int .u8 b,.sl uB d]),(1099511627776,.row 83 syS o)]⟩ =
  (bc (decide ((i:Int)<(d.length:Int))) ((0:Int)≤(i:Int) ∧
 (i:Int)<(d.length:Int) ∧
 (0:Nat)+(1:Nat)≤([(true,IntKind.i64.wrap (f+(i:Int)),gtB d (i:Int).toNat)]:List syS.D).length ∧
 o.length=o.length ∧
 (0:Nat)=(0:Nat) ∧
 o.length+(winL ((fun self=>self.6) (mkT (3:Nat) (24:Nat) true (TK.struct [((0:Nat),(4:TypeId)),((1:Nat),(3:TypeId)),((2:Nat),(5:TypeId))]) syS (some IntKind.i8))) (0:Nat) (1:Nat) ([(true,IntKind.i64.wrap (f+(i:Int)),gtB d (i:Int).toNat)]:List syS.D)).length<(2:Nat) ^ (30:Nat) ∧
 (24:Nat)≤(2:Nat) ^ (10:Nat) ∧
 R (hd Tryz.f181 0) { env:=[(1,.win true syS 23 0 (o.length+(winL ((fun self=>self.6) (mkT (3:Nat) (24:Nat) true (TK.struct [((0:Nat),(4:TypeId)),((1:Nat),(3:TypeId)),((2:Nat),(5:TypeId))]) syS (some IntKind.i8))) (0:Nat) (1:Nat) ([(true,IntKind.i64.wrap (f+(i:Int)),gtB d (i:Int).toNat)]:List syS.D)).length)),(2,.ptr 2 0),(5,.int .i64 (i:Int)),(6,.int .u8 (gtB d (i:Int).toNat)),(8,.sl uB d),(9,.int .i64 (d.length:Int)),(10,.int .i64 (IntKind.i64.wrap ((i:Int)+(1:Int)))),(11,.bool (decide ((i:Int)<(d.length:Int)))),(12,.int .i64 (i:Int)),(13,.elv uB (gtB d (i:Int).toNat)),(14,.int .u8 (gtB d (i:Int).toNat)),(15,.dead),(16,.ptr 2 1),(17,.int .i64 f),(18,.int .i64 (i:Int)),(19,.int .i64 (IntKind.i64.wrap (f+(i:Int)))),(20,.int .u8 (gtB d (i:Int).toNat)),(21,.agg [.bool true,.int .i64 (IntKind.i64.wrap (f+(i:Int))),.int .u8 (gtB d (i:Int).toNat)]),(22,.win true syS 22 0 (1:Nat)),(23,.win true syS 23 0 (o.length+(winL ((fun self=>self.6) (mkT (3:Nat) (24:Nat) true (TK.struct [((0:Nat),(4:TypeId)),((1:Nat),(3:TypeId)),((2:Nat),(5:TypeId))]) syS (some IntKind.i8))) (0:Nat) (1:Nat) ([(true,IntKind.i64.wrap (f+(i:Int)),gtB d (i:Int).toNat)]:List syS.D)).length)),(24,.int .i64 (IntKind.i64.wrap ((i:Int)+(1:Int))))],blk:=[(2,.var [.int .i64 k,.int .i64 f,.int .i64 n,.int .u8 b,.sl uB d]),(22,.row 83 syS ([(true,IntKind.i64.wrap (f+(i:Int)),gtB d (i:Int).toNat)]:List syS.D)),(23,.row 83 syS (o++([(true,IntKind.i64.wrap (f+(i:Int)),gtB d (i:Int).toNat)]:List syS.D)))] }) (Q [.win true syS 1099511627776 0 o.length] [(2,.var [.int .i64 k,.int .i64 f,.int .i64 n,.int .u8 b,.sl uB d]),(1099511627776,.row 83 syS o)])):=by kernel_rfl
theorem vc_diffA2 (k f n b:Int) (d:List Int) (o:List SyT) (i:Nat) (Q:QT) (R:RT):sy tt G0 [] Tryz.f181.ntmps Tryz.f181.results.toList Q R 1000 (hd Tryz.f181 0) ⟨[(1,.win true syS 1 0 o.length),(2,.ptr 2 0),(8,.sl uB d),(9,.int .i64 d.length),(10,.int .i64 (i:Nat))],[(2,.var [.int .i64 k,.int .i64 f,.int .i64 n,.int .u8 b,.sl uB d]),(1,.row 83 syS o)]⟩ =
  (bc (decide ((i:Int)<(d.length:Int))) ((0:Int)≤(i:Int) ∧
 (i:Int)<(d.length:Int) ∧
 (0:Nat)+(1:Nat)≤([(true,IntKind.i64.wrap (f+(i:Int)),gtB d (i:Int).toNat)]:List syS.D).length ∧
 o.length=o.length ∧
 (0:Nat)=(0:Nat) ∧
 o.length+(winL ((fun self=>self.6) (mkT (3:Nat) (24:Nat) true (TK.struct [((0:Nat),(4:TypeId)),((1:Nat),(3:TypeId)),((2:Nat),(5:TypeId))]) syS (some IntKind.i8))) (0:Nat) (1:Nat) ([(true,IntKind.i64.wrap (f+(i:Int)),gtB d (i:Int).toNat)]:List syS.D)).length<(2:Nat) ^ (30:Nat) ∧
 (24:Nat)≤(2:Nat) ^ (10:Nat) ∧
 R (hd Tryz.f181 0) { env:=[(1,.win true syS 23 0 (o.length+(winL ((fun self=>self.6) (mkT (3:Nat) (24:Nat) true (TK.struct [((0:Nat),(4:TypeId)),((1:Nat),(3:TypeId)),((2:Nat),(5:TypeId))]) syS (some IntKind.i8))) (0:Nat) (1:Nat) ([(true,IntKind.i64.wrap (f+(i:Int)),gtB d (i:Int).toNat)]:List syS.D)).length)),(2,.ptr 2 0),(5,.int .i64 (i:Int)),(6,.int .u8 (gtB d (i:Int).toNat)),(8,.sl uB d),(9,.int .i64 (d.length:Int)),(10,.int .i64 (IntKind.i64.wrap ((i:Int)+(1:Int)))),(11,.bool (decide ((i:Int)<(d.length:Int)))),(12,.int .i64 (i:Int)),(13,.elv uB (gtB d (i:Int).toNat)),(14,.int .u8 (gtB d (i:Int).toNat)),(15,.dead),(16,.ptr 2 1),(17,.int .i64 f),(18,.int .i64 (i:Int)),(19,.int .i64 (IntKind.i64.wrap (f+(i:Int)))),(20,.int .u8 (gtB d (i:Int).toNat)),(21,.agg [.bool true,.int .i64 (IntKind.i64.wrap (f+(i:Int))),.int .u8 (gtB d (i:Int).toNat)]),(22,.win true syS 22 0 (1:Nat)),(23,.win true syS 23 0 (o.length+(winL ((fun self=>self.6) (mkT (3:Nat) (24:Nat) true (TK.struct [((0:Nat),(4:TypeId)),((1:Nat),(3:TypeId)),((2:Nat),(5:TypeId))]) syS (some IntKind.i8))) (0:Nat) (1:Nat) ([(true,IntKind.i64.wrap (f+(i:Int)),gtB d (i:Int).toNat)]:List syS.D)).length)),(24,.int .i64 (IntKind.i64.wrap ((i:Int)+(1:Int))))],blk:=[(2,.var [.int .i64 k,.int .i64 f,.int .i64 n,.int .u8 b,.sl uB d]),(22,.row 83 syS ([(true,IntKind.i64.wrap (f+(i:Int)),gtB d (i:Int).toNat)]:List syS.D)),(23,.row 83 syS (o++([(true,IntKind.i64.wrap (f+(i:Int)),gtB d (i:Int).toNat)]:List syS.D)))] }) (Q [.win true syS 1 0 o.length] [(2,.var [.int .i64 k,.int .i64 f,.int .i64 n,.int .u8 b,.sl uB d]),(1,.row 83 syS o)])):=by kernel_rfl
theorem vc_runA (k f n b:Int) (d:List Int) (o:List SyT) (Q:QT) (R:RT):sy tt G0 [] Tryz.f184.ntmps Tryz.f184.results.toList Q R 1000 [.code (bodyOf Tryz.f184)] (entryI [.dat opS,.row 83 syS] ((k,f,n,b,d),o,())) =
  (R (hd Tryz.f184 0) { env:=[(0,.agg [.int .i64 k,.int .i64 f,.int .i64 n,.int .u8 b,.sl uB d]),(1,.win true syS 1099511627776 0 o.length),(2,.ptr 2 0),(4,.nils),(5,.ptr 2 2),(6,.int .i64 n),(7,.int .i64 0)],blk:=[(2,.var [.int .i64 k,.int .i64 f,.int .i64 n,.int .u8 b,.sl uB d]),(1099511627776,.row 83 syS o)] }):=by kernel_rfl
theorem vc_runA1 (k f n b:Int) (d:List Int) (o:List SyT) (i:Nat) (Q:QT) (R:RT):sy tt G0 [] Tryz.f184.ntmps Tryz.f184.results.toList Q R 1000 (hd Tryz.f184 0) ⟨[(1,.win true syS 1099511627776 0 o.length),(2,.ptr 2 0),(6,.int .i64 n),(7,.int .i64 (i:Nat))],[(2,.var [.int .i64 k,.int .i64 f,.int .i64 n,.int .u8 b,.sl uB d]),(1099511627776,.row 83 syS o)]⟩ =
  (bc (decide ((i:Int)<n)) ((0:Nat)+(1:Nat)≤([(false,(0:Int),b)]:List syS.D).length ∧
 o.length=o.length ∧
 (0:Nat)=(0:Nat) ∧
 o.length+(winL ((fun self=>self.6) (mkT (3:Nat) (24:Nat) true (TK.struct [((0:Nat),(4:TypeId)),((1:Nat),(3:TypeId)),((2:Nat),(5:TypeId))]) syS (some IntKind.i8))) (0:Nat) (1:Nat) ([(false,(0:Int),b)]:List syS.D)).length<(2:Nat) ^ (30:Nat) ∧
 (24:Nat)≤(2:Nat) ^ (10:Nat) ∧
 R (hd Tryz.f184 0) { env:=[(1,.win true syS 14 0 (o.length+(winL ((fun self=>self.6) (mkT (3:Nat) (24:Nat) true (TK.struct [((0:Nat),(4:TypeId)),((1:Nat),(3:TypeId)),((2:Nat),(5:TypeId))]) syS (some IntKind.i8))) (0:Nat) (1:Nat) ([(false,(0:Int),b)]:List syS.D)).length)),(2,.ptr 2 0),(6,.int .i64 n),(7,.int .i64 (IntKind.i64.wrap ((i:Int)+(1:Int)))),(8,.bool (decide ((i:Int)<n))),(9,.dead),(10,.ptr 2 3),(11,.int .u8 b),(12,.agg [.bool false,.int .i64 0,.int .u8 b]),(13,.win true syS 13 0 (1:Nat)),(14,.win true syS 14 0 (o.length+(winL ((fun self=>self.6) (mkT (3:Nat) (24:Nat) true (TK.struct [((0:Nat),(4:TypeId)),((1:Nat),(3:TypeId)),((2:Nat),(5:TypeId))]) syS (some IntKind.i8))) (0:Nat) (1:Nat) ([(false,(0:Int),b)]:List syS.D)).length)),(15,.int .i64 (IntKind.i64.wrap ((i:Int)+(1:Int))))],blk:=[(2,.var [.int .i64 k,.int .i64 f,.int .i64 n,.int .u8 b,.sl uB d]),(13,.row 83 syS ([(false,(0:Int),b)]:List syS.D)),(14,.row 83 syS (o++([(false,(0:Int),b)]:List syS.D)))] }) (Q [.win true syS 1099511627776 0 o.length] [(2,.var [.int .i64 k,.int .i64 f,.int .i64 n,.int .u8 b,.sl uB d]),(1099511627776,.row 83 syS o)])):=by kernel_rfl
theorem vc_runA2 (k f n b:Int) (d:List Int) (o:List SyT) (i:Nat) (Q:QT) (R:RT):sy tt G0 [] Tryz.f184.ntmps Tryz.f184.results.toList Q R 1000 (hd Tryz.f184 0) ⟨[(1,.win true syS 1 0 o.length),(2,.ptr 2 0),(6,.int .i64 n),(7,.int .i64 (i:Nat))],[(2,.var [.int .i64 k,.int .i64 f,.int .i64 n,.int .u8 b,.sl uB d]),(1,.row 83 syS o)]⟩ =
  (bc (decide ((i:Int)<n)) ((0:Nat)+(1:Nat)≤([(false,(0:Int),b)]:List syS.D).length ∧
 o.length=o.length ∧
 (0:Nat)=(0:Nat) ∧
 o.length+(winL ((fun self=>self.6) (mkT (3:Nat) (24:Nat) true (TK.struct [((0:Nat),(4:TypeId)),((1:Nat),(3:TypeId)),((2:Nat),(5:TypeId))]) syS (some IntKind.i8))) (0:Nat) (1:Nat) ([(false,(0:Int),b)]:List syS.D)).length<(2:Nat) ^ (30:Nat) ∧
 (24:Nat)≤(2:Nat) ^ (10:Nat) ∧
 R (hd Tryz.f184 0) { env:=[(1,.win true syS 14 0 (o.length+(winL ((fun self=>self.6) (mkT (3:Nat) (24:Nat) true (TK.struct [((0:Nat),(4:TypeId)),((1:Nat),(3:TypeId)),((2:Nat),(5:TypeId))]) syS (some IntKind.i8))) (0:Nat) (1:Nat) ([(false,(0:Int),b)]:List syS.D)).length)),(2,.ptr 2 0),(6,.int .i64 n),(7,.int .i64 (IntKind.i64.wrap ((i:Int)+(1:Int)))),(8,.bool (decide ((i:Int)<n))),(9,.dead),(10,.ptr 2 3),(11,.int .u8 b),(12,.agg [.bool false,.int .i64 0,.int .u8 b]),(13,.win true syS 13 0 (1:Nat)),(14,.win true syS 14 0 (o.length+(winL ((fun self=>self.6) (mkT (3:Nat) (24:Nat) true (TK.struct [((0:Nat),(4:TypeId)),((1:Nat),(3:TypeId)),((2:Nat),(5:TypeId))]) syS (some IntKind.i8))) (0:Nat) (1:Nat) ([(false,(0:Int),b)]:List syS.D)).length)),(15,.int .i64 (IntKind.i64.wrap ((i:Int)+(1:Int))))],blk:=[(2,.var [.int .i64 k,.int .i64 f,.int .i64 n,.int .u8 b,.sl uB d]),(13,.row 83 syS ([(false,(0:Int),b)]:List syS.D)),(14,.row 83 syS (o++([(false,(0:Int),b)]:List syS.D)))] }) (Q [.win true syS 1 0 o.length] [(2,.var [.int .i64 k,.int .i64 f,.int .i64 n,.int .u8 b,.sl uB d]),(1,.row 83 syS o)])):=by kernel_rfl
theorem vc_litA (k f n b:Int) (d:List Int) (o:List SyT) (Q:QT) (R:RT):sy tt G0 [] Tryz.f187.ntmps Tryz.f187.results.toList Q R 1000 [.code (bodyOf Tryz.f187)] (entryI [.dat opS,.row 83 syS] ((k,f,n,b,d),o,())) =
  (R (hd Tryz.f187 0) { env:=[(0,.agg [.int .i64 k,.int .i64 f,.int .i64 n,.int .u8 b,.sl uB d]),(1,.win true syS 1099511627776 0 o.length),(2,.ptr 2 0),(4,.nils),(7,.ptr 2 4),(8,.sl uB d),(9,.int .i64 (d.length:Int)),(10,.int .i64 0)],blk:=[(2,.var [.int .i64 k,.int .i64 f,.int .i64 n,.int .u8 b,.sl uB d]),(1099511627776,.row 83 syS o)] }):=by kernel_rfl
theorem vc_litA1 (k f n b:Int) (d:List Int) (o:List SyT) (i:Nat) (Q:QT) (R:RT):sy tt G0 [] Tryz.f187.ntmps Tryz.f187.results.toList Q R 1000 (hd Tryz.f187 0) ⟨[(1,.win true syS 1099511627776 0 o.length),(2,.ptr 2 0),(8,.sl uB d),(9,.int .i64 d.length),(10,.int .i64 (i:Nat))],[(2,.var [.int .i64 k,.int .i64 f,.int .i64 n,.int .u8 b,.sl uB d]),(1099511627776,.row 83 syS o)]⟩ =
  (bc (decide ((i:Int)<(d.length:Int))) ((0:Int)≤(i:Int) ∧
 (i:Int)<(d.length:Int) ∧
 (0:Nat)+(1:Nat)≤([(false,(0:Int),gtB d (i:Int).toNat)]:List syS.D).length ∧
 o.length=o.length ∧
 (0:Nat)=(0:Nat) ∧
 o.length+(winL ((fun self=>self.6) (mkT (3:Nat) (24:Nat) true (TK.struct [((0:Nat),(4:TypeId)),((1:Nat),(3:TypeId)),((2:Nat),(5:TypeId))]) syS (some IntKind.i8))) (0:Nat) (1:Nat) ([(false,(0:Int),gtB d (i:Int).toNat)]:List syS.D)).length<(2:Nat) ^ (30:Nat) ∧
 (24:Nat)≤(2:Nat) ^ (10:Nat) ∧
 R (hd Tryz.f187 0) { env:=[(1,.win true syS 18 0 (o.length+(winL ((fun self=>self.6) (mkT (3:Nat) (24:Nat) true (TK.struct [((0:Nat),(4:TypeId)),((1:Nat),(3:TypeId)),((2:Nat),(5:TypeId))]) syS (some IntKind.i8))) (0:Nat) (1:Nat) ([(false,(0:Int),gtB d (i:Int).toNat)]:List syS.D)).length)),(2,.ptr 2 0),(6,.int .u8 (gtB d (i:Int).toNat)),(8,.sl uB d),(9,.int .i64 (d.length:Int)),(10,.int .i64 (IntKind.i64.wrap ((i:Int)+(1:Int)))),(11,.bool (decide ((i:Int)<(d.length:Int)))),(12,.elv uB (gtB d (i:Int).toNat)),(13,.int .u8 (gtB d (i:Int).toNat)),(14,.dead),(15,.int .u8 (gtB d (i:Int).toNat)),(16,.agg [.bool false,.int .i64 0,.int .u8 (gtB d (i:Int).toNat)]),(17,.win true syS 17 0 (1:Nat)),(18,.win true syS 18 0 (o.length+(winL ((fun self=>self.6) (mkT (3:Nat) (24:Nat) true (TK.struct [((0:Nat),(4:TypeId)),((1:Nat),(3:TypeId)),((2:Nat),(5:TypeId))]) syS (some IntKind.i8))) (0:Nat) (1:Nat) ([(false,(0:Int),gtB d (i:Int).toNat)]:List syS.D)).length)),(19,.int .i64 (IntKind.i64.wrap ((i:Int)+(1:Int))))],blk:=[(2,.var [.int .i64 k,.int .i64 f,.int .i64 n,.int .u8 b,.sl uB d]),(17,.row 83 syS ([(false,(0:Int),gtB d (i:Int).toNat)]:List syS.D)),(18,.row 83 syS (o++([(false,(0:Int),gtB d (i:Int).toNat)]:List syS.D)))] }) (Q [.win true syS 1099511627776 0 o.length] [(2,.var [.int .i64 k,.int .i64 f,.int .i64 n,.int .u8 b,.sl uB d]),(1099511627776,.row 83 syS o)])):=by kernel_rfl
theorem vc_litA2 (k f n b:Int) (d:List Int) (o:List SyT) (i:Nat) (Q:QT) (R:RT):sy tt G0 [] Tryz.f187.ntmps Tryz.f187.results.toList Q R 1000 (hd Tryz.f187 0) ⟨[(1,.win true syS 1 0 o.length),(2,.ptr 2 0),(8,.sl uB d),(9,.int .i64 d.length),(10,.int .i64 (i:Nat))],[(2,.var [.int .i64 k,.int .i64 f,.int .i64 n,.int .u8 b,.sl uB d]),(1,.row 83 syS o)]⟩ =
  (bc (decide ((i:Int)<(d.length:Int))) ((0:Int)≤(i:Int) ∧
 (i:Int)<(d.length:Int) ∧
 (0:Nat)+(1:Nat)≤([(false,(0:Int),gtB d (i:Int).toNat)]:List syS.D).length ∧
 o.length=o.length ∧
 (0:Nat)=(0:Nat) ∧
 o.length+(winL ((fun self=>self.6) (mkT (3:Nat) (24:Nat) true (TK.struct [((0:Nat),(4:TypeId)),((1:Nat),(3:TypeId)),((2:Nat),(5:TypeId))]) syS (some IntKind.i8))) (0:Nat) (1:Nat) ([(false,(0:Int),gtB d (i:Int).toNat)]:List syS.D)).length<(2:Nat) ^ (30:Nat) ∧
 (24:Nat)≤(2:Nat) ^ (10:Nat) ∧
 R (hd Tryz.f187 0) { env:=[(1,.win true syS 18 0 (o.length+(winL ((fun self=>self.6) (mkT (3:Nat) (24:Nat) true (TK.struct [((0:Nat),(4:TypeId)),((1:Nat),(3:TypeId)),((2:Nat),(5:TypeId))]) syS (some IntKind.i8))) (0:Nat) (1:Nat) ([(false,(0:Int),gtB d (i:Int).toNat)]:List syS.D)).length)),(2,.ptr 2 0),(6,.int .u8 (gtB d (i:Int).toNat)),(8,.sl uB d),(9,.int .i64 (d.length:Int)),(10,.int .i64 (IntKind.i64.wrap ((i:Int)+(1:Int)))),(11,.bool (decide ((i:Int)<(d.length:Int)))),(12,.elv uB (gtB d (i:Int).toNat)),(13,.int .u8 (gtB d (i:Int).toNat)),(14,.dead),(15,.int .u8 (gtB d (i:Int).toNat)),(16,.agg [.bool false,.int .i64 0,.int .u8 (gtB d (i:Int).toNat)]),(17,.win true syS 17 0 (1:Nat)),(18,.win true syS 18 0 (o.length+(winL ((fun self=>self.6) (mkT (3:Nat) (24:Nat) true (TK.struct [((0:Nat),(4:TypeId)),((1:Nat),(3:TypeId)),((2:Nat),(5:TypeId))]) syS (some IntKind.i8))) (0:Nat) (1:Nat) ([(false,(0:Int),gtB d (i:Int).toNat)]:List syS.D)).length)),(19,.int .i64 (IntKind.i64.wrap ((i:Int)+(1:Int))))],blk:=[(2,.var [.int .i64 k,.int .i64 f,.int .i64 n,.int .u8 b,.sl uB d]),(17,.row 83 syS ([(false,(0:Int),gtB d (i:Int).toNat)]:List syS.D)),(18,.row 83 syS (o++([(false,(0:Int),gtB d (i:Int).toNat)]:List syS.D)))] }) (Q [.win true syS 1 0 o.length] [(2,.var [.int .i64 k,.int .i64 f,.int .i64 n,.int .u8 b,.sl uB d]),(1,.row 83 syS o)])):=by kernel_rfl
end Go.Proofs.YtncocpjkaggnjaaGreatDoor
namespace Go.Proofs.YtncocpjkaggnjaaGreatDoor
open Go.Px Go.Ax
set_option maxRecDepth 100000
attribute [local irreducible] Go.Px.sy Go.Px.syE
theorem QI.row {ct:CtrI} {x:DI ct.args} {rs:List SV} {blk:List (Nat × LB)} {e:Sh} {et:TypeId} {a k:Nat} {xs:List e.D} (h:ct.out x=[.win true e 0 0 xs.length]) (hr:ct.blk x=[(0,.row et e xs)]) (hs:rs=[.win true e a 0 k]) (hk:k=xs.length) (hb:lk blk a=some (.row et e xs)) (ha:a<BIG):QI ct x rs blk:=by
 subst hs;subst hk
 refine ⟨[(0,a)],?_,?_,by simp,fun p hp=>by simp at hp;subst hp;exact ha⟩
 ·rw[h]
  exact ⟨_,_,rfl,.inl ⟨true,a,rfl,rfl,fun h=>h⟩,rfl⟩
 ·rw[hr]
  exact ⟨.inl ⟨a,_,rfl,hb,rfl⟩,trivial⟩
def gen (el:Nat→SyT):Nat→Nat→List SyT
 | 0,_=>[]
 | k+1,i=>el i::gen el k (i+1)
theorem gen_len (el:Nat→SyT):∀ k i,(gen el k i).length=k
 | 0,_=>rfl
 | k+1,i=>by rw[gen,List.length_cons,gen_len el k]
def elO (t:Nat) (x:OpT) (i:Nat):SyT:=match t with
 | 1=>(true,IntKind.i64.wrap (x.2.1+i),0)
 | 2=>(true,IntKind.i64.wrap (x.2.1+i),gtB x.2.2.2.2 i)
 | 3=>(false,0,x.2.2.2.1)
 | _=>(false,0,gtB x.2.2.2.2 i)
def cntO (t:Nat) (x:OpT):Nat:=match t with
 | 1=>x.2.2.1.toNat
 | 3=>x.2.2.1.toNat
 | _=>x.2.2.2.2.length
def symsO (t:Nat) (x:OpT):List SyT:=gen (elO t x) (cntO t x) 0
def preA (t:Nat) (x:OpT) (o:List SyT):Prop:=1≤cntO t x∧o.length+cntO t x<268435456∧x.2.2.1<268435456
abbrev KA:List AK:=[.dat opS,.row 83 syS]
def ctA (t:Nat):CtrI:=⟨KA,fun x=>preA t x.1 x.2.1,fun x=>[.win true syS 0 0 (List.length (x.2.1++symsO t x.1))],fun x=>[(0,.row 83 syS (x.2.1++symsO t x.1))]⟩
abbrev GQ (t:Nat) (x:OpT) (o:List SyT):List SV→List (Nat × LB)→Prop:=QI (ctA t) (x,o,())
theorem copyA_loop (k f n b:Int) (d:List Int) (o0:List SyT) (hb:n<268435456∧True):∀ (c i:Nat) (o:List SyT),cntO 1 (k,f,n,b,d)-i=c→i≤cntO 1 (k,f,n,b,d)→o.length+c<268435456→o++gen (elO 1 (k,f,n,b,d)) c i=o0++symsO 1 (k,f,n,b,d) →
  GD 177 Tryz.f177 (GQ 1 (k,f,n,b,d) o0) (hd Tryz.f177 0) ⟨[(1,.win true syS 1 0 o.length),(2,.ptr 2 0),(7,.int .i64 n),(8,.int .i64 (i:Nat))],[(2,.var [.int .i64 k,.int .i64 f,.int .i64 n,.int .u8 b,.sl uB d]),(1,.row 83 syS o)]⟩:=by
 intro c
 induction c with
 | zero=>
  intro i o hc hi hl he
  have hn:cntO 1 (k,f,n,b,d)=n.toNat:=rfl
  refine sy_sound cx0 _ _ _ ((vc_copyA2 k f n b d o i _ _).mpr ?_)
  rw[decide_eq_false (by omega),bc_f]
  have he:o=o0++symsO 1 (k,f,n,b,d):=by simpa [gen] using he
  exact QI.row (e:=syS) (et:=83) (a:=1) (xs:=o0++symsO 1 (k,f,n,b,d)) rfl rfl (by rw[he]) rfl (by rw[he];rfl) (by decide)
 | succ c ih=>
  intro i o hc hi hl he
  have hn:cntO 1 (k,f,n,b,d)=n.toNat:=rfl
  refine sy_sound cx0 _ _ _ ((vc_copyA2 k f n b d o i _ _).mpr ?_)
  rw[decide_eq_true (show (i:Int)<n by omega),bc_t,IntWalk.i64_in ((i:Int)+1) (by omega)]
  refine ⟨Nat.le_refl 1,rfl,rfl,?_,by decide,?_⟩
  ·show o.length+1<2 ^ 30
   omega
  ·refine Good.onlyR (ih (i+1) (o++[elO 1 (k,f,n,b,d) i]) (by omega) (by omega) (by rw[List.length_append,List.length_singleton];omega) (by rw[List.append_assoc];exact he)) [(1,18)] rfl ⟨by rw[List.length_append];rfl,rfl,rfl,rfl,trivial⟩ ⟨rfl,rfl,trivial⟩
theorem copyA_held:HeldI Tryz.prog G0 177 (ctA 1):=by
 refine HeldI.run cx0 (fn:=Tryz.f177) rfl rfl ⟨by decide,by decide⟩ ?_
 rintro ⟨⟨k,f,n,b,d⟩,o,⟨⟩⟩ hp
 obtain ⟨h1,h2,h3⟩:preA 1 (k,f,n,b,d) o:=hp
 have hn:cntO 1 (k,f,n,b,d)=n.toNat:=rfl
 replace h3:n<268435456:=h3
 refine (vc_copyA k f n b d o _ _).mpr ?_
 have hb:n<268435456∧True:=⟨h3,trivial⟩
 obtain ⟨c,hc⟩:∃ c,cntO 1 (k,f,n,b,d)=c+1:=⟨cntO 1 (k,f,n,b,d)-1,by omega⟩
 have e:GD 177 Tryz.f177 (GQ 1 (k,f,n,b,d) o) (hd Tryz.f177 0) ⟨[(1,.win true syS 1099511627776 0 o.length),(2,.ptr 2 0),(7,.int .i64 n),(8,.int .i64 ((0:Nat):Int))],[(2,.var [.int .i64 k,.int .i64 f,.int .i64 n,.int .u8 b,.sl uB d]),(1099511627776,.row 83 syS o)]⟩:=by
  refine sy_sound cx0 _ _ _ ((vc_copyA1 k f n b d o 0 _ _).mpr ?_)
  rw[decide_eq_true (show ((0:Nat):Int)<n by omega),bc_t,IntWalk.i64_in (((0:Nat):Int)+1) (by omega)]
  refine ⟨Nat.le_refl 1,rfl,rfl,?_,by decide,?_⟩
  ·show o.length+1<2 ^ 30
   omega
  ·refine Good.onlyR (copyA_loop k f n b d o ⟨h3,trivial⟩ c 1 (o++[elO 1 (k,f,n,b,d) 0]) (by omega) (by omega) (by rw[List.length_append,List.length_singleton];omega) (by rw[List.append_assoc];unfold symsO;rw[hc];rfl)) [(1,18)] rfl ⟨by rw[List.length_append];rfl,rfl,rfl,rfl,trivial⟩ ⟨rfl,rfl,trivial⟩
 exact e.only ⟨rfl,rfl,rfl,rfl,trivial⟩ ⟨rfl,rfl,trivial⟩
theorem diffA_loop (k f n b:Int) (d:List Int) (o0:List SyT) (hb:n<268435456∧d.length<268435456):∀ (c i:Nat) (o:List SyT),cntO 2 (k,f,n,b,d)-i=c→i≤cntO 2 (k,f,n,b,d)→o.length+c<268435456→o++gen (elO 2 (k,f,n,b,d)) c i=o0++symsO 2 (k,f,n,b,d) →
  GD 181 Tryz.f181 (GQ 2 (k,f,n,b,d) o0) (hd Tryz.f181 0) ⟨[(1,.win true syS 1 0 o.length),(2,.ptr 2 0),(8,.sl uB d),(9,.int .i64 d.length),(10,.int .i64 (i:Nat))],[(2,.var [.int .i64 k,.int .i64 f,.int .i64 n,.int .u8 b,.sl uB d]),(1,.row 83 syS o)]⟩:=by
 intro c
 induction c with
 | zero=>
  intro i o hc hi hl he
  have hn:cntO 2 (k,f,n,b,d)=d.length:=rfl
  refine sy_sound cx0 _ _ _ ((vc_diffA2 k f n b d o i _ _).mpr ?_)
  rw[decide_eq_false (by omega),bc_f]
  have he:o=o0++symsO 2 (k,f,n,b,d):=by simpa [gen] using he
  exact QI.row (e:=syS) (et:=83) (a:=1) (xs:=o0++symsO 2 (k,f,n,b,d)) rfl rfl (by rw[he]) rfl (by rw[he];rfl) (by decide)
 | succ c ih=>
  intro i o hc hi hl he
  have hn:cntO 2 (k,f,n,b,d)=d.length:=rfl
  refine sy_sound cx0 _ _ _ ((vc_diffA2 k f n b d o i _ _).mpr ?_)
  rw[decide_eq_true (show (i:Int)<(d.length:Int) by omega),bc_t,IntWalk.i64_in ((i:Int)+1) (by omega),Int.toNat_natCast]
  refine ⟨by omega,by omega,Nat.le_refl 1,rfl,rfl,?_,by decide,?_⟩
  ·show o.length+1<2 ^ 30
   omega
  ·refine Good.onlyR (ih (i+1) (o++[elO 2 (k,f,n,b,d) i]) (by omega) (by omega) (by rw[List.length_append,List.length_singleton];omega) (by rw[List.append_assoc];exact he)) [(1,23)] rfl ⟨by rw[List.length_append];rfl,rfl,rfl,rfl,rfl,trivial⟩ ⟨rfl,rfl,trivial⟩
theorem diffA_held:HeldI Tryz.prog G0 181 (ctA 2):=by
 refine HeldI.run cx0 (fn:=Tryz.f181) rfl rfl ⟨by decide,by decide⟩ ?_
 rintro ⟨⟨k,f,n,b,d⟩,o,⟨⟩⟩ hp
 obtain ⟨h1,h2,h3⟩:preA 2 (k,f,n,b,d) o:=hp
 have hn:cntO 2 (k,f,n,b,d)=d.length:=rfl
 replace h3:n<268435456:=h3
 refine (vc_diffA k f n b d o _ _).mpr ?_
 have hb:n<268435456∧d.length<268435456:=⟨h3,by omega⟩
 obtain ⟨c,hc⟩:∃ c,cntO 2 (k,f,n,b,d)=c+1:=⟨cntO 2 (k,f,n,b,d)-1,by omega⟩
 have e:GD 181 Tryz.f181 (GQ 2 (k,f,n,b,d) o) (hd Tryz.f181 0) ⟨[(1,.win true syS 1099511627776 0 o.length),(2,.ptr 2 0),(8,.sl uB d),(9,.int .i64 d.length),(10,.int .i64 ((0:Nat):Int))],[(2,.var [.int .i64 k,.int .i64 f,.int .i64 n,.int .u8 b,.sl uB d]),(1099511627776,.row 83 syS o)]⟩:=by
  refine sy_sound cx0 _ _ _ ((vc_diffA1 k f n b d o 0 _ _).mpr ?_)
  rw[decide_eq_true (show ((0:Nat):Int)<(d.length:Int) by omega),bc_t,IntWalk.i64_in (((0:Nat):Int)+1) (by omega),Int.toNat_natCast]
  refine ⟨by omega,by omega,Nat.le_refl 1,rfl,rfl,?_,by decide,?_⟩
  ·show o.length+1<2 ^ 30
   omega
  ·refine Good.onlyR (diffA_loop k f n b d o hb c 1 (o++[elO 2 (k,f,n,b,d) 0]) (by omega) (by omega) (by rw[List.length_append,List.length_singleton];omega) (by rw[List.append_assoc];unfold symsO;rw[hc];rfl)) [(1,23)] rfl ⟨by rw[List.length_append];rfl,rfl,rfl,rfl,rfl,trivial⟩ ⟨rfl,rfl,trivial⟩
 exact e.only ⟨rfl,rfl,rfl,rfl,rfl,trivial⟩ ⟨rfl,rfl,trivial⟩
theorem runA_loop (k f n b:Int) (d:List Int) (o0:List SyT) (hb:n<268435456∧True):∀ (c i:Nat) (o:List SyT),cntO 3 (k,f,n,b,d)-i=c→i≤cntO 3 (k,f,n,b,d)→o.length+c<268435456→o++gen (elO 3 (k,f,n,b,d)) c i=o0++symsO 3 (k,f,n,b,d) →
  GD 184 Tryz.f184 (GQ 3 (k,f,n,b,d) o0) (hd Tryz.f184 0) ⟨[(1,.win true syS 1 0 o.length),(2,.ptr 2 0),(6,.int .i64 n),(7,.int .i64 (i:Nat))],[(2,.var [.int .i64 k,.int .i64 f,.int .i64 n,.int .u8 b,.sl uB d]),(1,.row 83 syS o)]⟩:=by
 intro c
 induction c with
 | zero=>
  intro i o hc hi hl he
  have hn:cntO 3 (k,f,n,b,d)=n.toNat:=rfl
  refine sy_sound cx0 _ _ _ ((vc_runA2 k f n b d o i _ _).mpr ?_)
  rw[decide_eq_false (by omega),bc_f]
  have he:o=o0++symsO 3 (k,f,n,b,d):=by simpa [gen] using he
  exact QI.row (e:=syS) (et:=83) (a:=1) (xs:=o0++symsO 3 (k,f,n,b,d)) rfl rfl (by rw[he]) rfl (by rw[he];rfl) (by decide)
 | succ c ih=>
  intro i o hc hi hl he
  have hn:cntO 3 (k,f,n,b,d)=n.toNat:=rfl
  refine sy_sound cx0 _ _ _ ((vc_runA2 k f n b d o i _ _).mpr ?_)
  rw[decide_eq_true (show (i:Int)<n by omega),bc_t,IntWalk.i64_in ((i:Int)+1) (by omega)]
  refine ⟨Nat.le_refl 1,rfl,rfl,?_,by decide,?_⟩
  ·show o.length+1<2 ^ 30
   omega
  ·refine Good.onlyR (ih (i+1) (o++[elO 3 (k,f,n,b,d) i]) (by omega) (by omega) (by rw[List.length_append,List.length_singleton];omega) (by rw[List.append_assoc];exact he)) [(1,14)] rfl ⟨by rw[List.length_append];rfl,rfl,rfl,rfl,trivial⟩ ⟨rfl,rfl,trivial⟩
theorem runA_held:HeldI Tryz.prog G0 184 (ctA 3):=by
 refine HeldI.run cx0 (fn:=Tryz.f184) rfl rfl ⟨by decide,by decide⟩ ?_
 rintro ⟨⟨k,f,n,b,d⟩,o,⟨⟩⟩ hp
 obtain ⟨h1,h2,h3⟩:preA 3 (k,f,n,b,d) o:=hp
 have hn:cntO 3 (k,f,n,b,d)=n.toNat:=rfl
 replace h3:n<268435456:=h3
 refine (vc_runA k f n b d o _ _).mpr ?_
 have hb:n<268435456∧True:=⟨h3,trivial⟩
 obtain ⟨c,hc⟩:∃ c,cntO 3 (k,f,n,b,d)=c+1:=⟨cntO 3 (k,f,n,b,d)-1,by omega⟩
 have e:GD 184 Tryz.f184 (GQ 3 (k,f,n,b,d) o) (hd Tryz.f184 0) ⟨[(1,.win true syS 1099511627776 0 o.length),(2,.ptr 2 0),(6,.int .i64 n),(7,.int .i64 ((0:Nat):Int))],[(2,.var [.int .i64 k,.int .i64 f,.int .i64 n,.int .u8 b,.sl uB d]),(1099511627776,.row 83 syS o)]⟩:=by
  refine sy_sound cx0 _ _ _ ((vc_runA1 k f n b d o 0 _ _).mpr ?_)
  rw[decide_eq_true (show ((0:Nat):Int)<n by omega),bc_t,IntWalk.i64_in (((0:Nat):Int)+1) (by omega)]
  refine ⟨Nat.le_refl 1,rfl,rfl,?_,by decide,?_⟩
  ·show o.length+1<2 ^ 30
   omega
  ·refine Good.onlyR (runA_loop k f n b d o ⟨h3,trivial⟩ c 1 (o++[elO 3 (k,f,n,b,d) 0]) (by omega) (by omega) (by rw[List.length_append,List.length_singleton];omega) (by rw[List.append_assoc];unfold symsO;rw[hc];rfl)) [(1,14)] rfl ⟨by rw[List.length_append];rfl,rfl,rfl,rfl,trivial⟩ ⟨rfl,rfl,trivial⟩
 exact e.only ⟨rfl,rfl,rfl,rfl,trivial⟩ ⟨rfl,rfl,trivial⟩
theorem litA_loop (k f n b:Int) (d:List Int) (o0:List SyT) (hb:n<268435456∧d.length<268435456):∀ (c i:Nat) (o:List SyT),cntO 4 (k,f,n,b,d)-i=c→i≤cntO 4 (k,f,n,b,d)→o.length+c<268435456→o++gen (elO 4 (k,f,n,b,d)) c i=o0++symsO 4 (k,f,n,b,d) →
  GD 187 Tryz.f187 (GQ 4 (k,f,n,b,d) o0) (hd Tryz.f187 0) ⟨[(1,.win true syS 1 0 o.length),(2,.ptr 2 0),(8,.sl uB d),(9,.int .i64 d.length),(10,.int .i64 (i:Nat))],[(2,.var [.int .i64 k,.int .i64 f,.int .i64 n,.int .u8 b,.sl uB d]),(1,.row 83 syS o)]⟩:=by
 intro c
 induction c with
 | zero=>
  intro i o hc hi hl he
  have hn:cntO 4 (k,f,n,b,d)=d.length:=rfl
  refine sy_sound cx0 _ _ _ ((vc_litA2 k f n b d o i _ _).mpr ?_)
  rw[decide_eq_false (by omega),bc_f]
  have he:o=o0++symsO 4 (k,f,n,b,d):=by simpa [gen] using he
  exact QI.row (e:=syS) (et:=83) (a:=1) (xs:=o0++symsO 4 (k,f,n,b,d)) rfl rfl (by rw[he]) rfl (by rw[he];rfl) (by decide)
 | succ c ih=>
  intro i o hc hi hl he
  have hn:cntO 4 (k,f,n,b,d)=d.length:=rfl
  refine sy_sound cx0 _ _ _ ((vc_litA2 k f n b d o i _ _).mpr ?_)
  rw[decide_eq_true (show (i:Int)<(d.length:Int) by omega),bc_t,IntWalk.i64_in ((i:Int)+1) (by omega),Int.toNat_natCast]
  refine ⟨by omega,by omega,Nat.le_refl 1,rfl,rfl,?_,by decide,?_⟩
  ·show o.length+1<2 ^ 30
   omega
  ·refine Good.onlyR (ih (i+1) (o++[elO 4 (k,f,n,b,d) i]) (by omega) (by omega) (by rw[List.length_append,List.length_singleton];omega) (by rw[List.append_assoc];exact he)) [(1,18)] rfl ⟨by rw[List.length_append];rfl,rfl,rfl,rfl,rfl,trivial⟩ ⟨rfl,rfl,trivial⟩
theorem litA_held:HeldI Tryz.prog G0 187 (ctA 4):=by
 refine HeldI.run cx0 (fn:=Tryz.f187) rfl rfl ⟨by decide,by decide⟩ ?_
 rintro ⟨⟨k,f,n,b,d⟩,o,⟨⟩⟩ hp
 obtain ⟨h1,h2,h3⟩:preA 4 (k,f,n,b,d) o:=hp
 have hn:cntO 4 (k,f,n,b,d)=d.length:=rfl
 replace h3:n<268435456:=h3
 refine (vc_litA k f n b d o _ _).mpr ?_
 have hb:n<268435456∧d.length<268435456:=⟨h3,by omega⟩
 obtain ⟨c,hc⟩:∃ c,cntO 4 (k,f,n,b,d)=c+1:=⟨cntO 4 (k,f,n,b,d)-1,by omega⟩
 have e:GD 187 Tryz.f187 (GQ 4 (k,f,n,b,d) o) (hd Tryz.f187 0) ⟨[(1,.win true syS 1099511627776 0 o.length),(2,.ptr 2 0),(8,.sl uB d),(9,.int .i64 d.length),(10,.int .i64 ((0:Nat):Int))],[(2,.var [.int .i64 k,.int .i64 f,.int .i64 n,.int .u8 b,.sl uB d]),(1099511627776,.row 83 syS o)]⟩:=by
  refine sy_sound cx0 _ _ _ ((vc_litA1 k f n b d o 0 _ _).mpr ?_)
  rw[decide_eq_true (show ((0:Nat):Int)<(d.length:Int) by omega),bc_t,IntWalk.i64_in (((0:Nat):Int)+1) (by omega),Int.toNat_natCast]
  refine ⟨by omega,by omega,Nat.le_refl 1,rfl,rfl,?_,by decide,?_⟩
  ·show o.length+1<2 ^ 30
   omega
  ·refine Good.onlyR (litA_loop k f n b d o hb c 1 (o++[elO 4 (k,f,n,b,d) 0]) (by omega) (by omega) (by rw[List.length_append,List.length_singleton];omega) (by rw[List.append_assoc];unfold symsO;rw[hc];rfl)) [(1,18)] rfl ⟨by rw[List.length_append];rfl,rfl,rfl,rfl,rfl,trivial⟩ ⟨rfl,rfl,trivial⟩
 exact e.only ⟨rfl,rfl,rfl,rfl,rfl,trivial⟩ ⟨rfl,rfl,trivial⟩
end Go.Proofs.YtncocpjkaggnjaaGreatDoor
namespace Go.Proofs.YtncocpjkaggnjaaGreatDoor
open Go.Px Go.Ax
set_option maxRecDepth 100000
def CA:CV:=(187,.inr (ctA 4))::(184,.inr (ctA 3))::(181,.inr (ctA 2))::(177,.inr (ctA 1))::(12,.inl ctChk)::C1
theorem cxA:CxOK Tryz.prog tt G0 CA:=((((cx1.cons chk_held (fn:=Tryz.f12) rfl rfl rfl).consI copyA_held (fn:=Tryz.f177) rfl rfl rfl).consI diffA_held (fn:=Tryz.f181) rfl rfl rfl).consI runA_held (fn:=Tryz.f184) rfl rfl rfl).consI litA_held (fn:=Tryz.f187) rfl rfl rfl
def E1:CV:=(46,.inl (ctO 1 126))::CA
def E2:CV:=(46,.inl (ctO 2 127))::CA
def E3:CV:=(46,.inl (ctO 3 128))::CA
def E4:CV:=(46,.inl (ctO 4 129))::CA
theorem ex1:CxOK Tryz.prog tt G0 E1:=cxA.cons o1_held (fn:=Tryz.f46) rfl rfl rfl
theorem ex2:CxOK Tryz.prog tt G0 E2:=cxA.cons o2_held (fn:=Tryz.f46) rfl rfl rfl
theorem ex3:CxOK Tryz.prog tt G0 E3:=cxA.cons o3_held (fn:=Tryz.f46) rfl rfl rfl
theorem ex4:CxOK Tryz.prog tt G0 E4:=cxA.cons o4_held (fn:=Tryz.f46) rfl rfl rfl
set_option maxRecDepth 100000
theorem vc_syms (li:Bool) (m o:Int) (l:List OpT) (Q:QT) (R:RT):sy tt G0 CA Tryz.f15.ntmps Tryz.f15.results.toList Q R 1000 [.code (bodyOf Tryz.f15)] (entry [paS] ((li,m,o,l),())) =
  (ctChk.pre ((li,m,o,l),()) ∧
 bc (decide ((chkV (li,m,o,l)).2≠(0:Int))) (Q [.nils,.int .i64 (chkV (li,m,o,l)).2] [(1,.var [.bool li,.int .i64 m,.int .i64 o,.sl opS l])]) ((0:Int)≤(0:Int) ∧
 (0:Int)≤o ∧
 o<(2:Int) ^ (24:Nat) ∧
 (↑(24:Nat):Int)*o≤(2:Int) ^ (48:Nat) ∧
 R (hd Tryz.f15 0) { env:=[(0,.agg [.bool li,.int .i64 m,.int .i64 o,.sl opS l]),(1,.ptr 1 0),(2,.nils),(3,.int .i64 0),(4,.int .i64 (chkV (li,m,o,l)).1),(5,.int .i64 (chkV (li,m,o,l)).2),(6,.win true syS 19 0 (0:Nat)),(9,SV.tup [.int .i64 (chkV (li,m,o,l)).1,.int .i64 (chkV (li,m,o,l)).2]),(10,.agg [.bool li,.int .i64 m,.int .i64 o,.sl opS l]),(11,SV.tup [.int .i64 (chkV (li,m,o,l)).1,.int .i64 (chkV (li,m,o,l)).2]),(12,.int .i64 (chkV (li,m,o,l)).1),(13,.int .i64 (chkV (li,m,o,l)).2),(14,.int .i64 (chkV (li,m,o,l)).2),(15,.bool (decide ((chkV (li,m,o,l)).2≠(0:Int)))),(17,.ptr 1 2),(18,.int .i64 o),(19,.win true syS 19 0 (0:Nat)),(20,.ptr 1 3),(21,.sl opS l),(22,.int .i64 (l.length:Int)),(23,.int .i64 0)],blk:=[(1,.var [.bool li,.int .i64 m,.int .i64 o,.sl opS l]),(19,.row 83 syS (List.replicate (0) syS.dflt))] })):=by kernel_rfl
theorem vc_symsL1 (li:Bool) (m o:Int) (l:List OpT) (s:List SyT) (i:Nat) (Q:QT) (R:RT):sy tt G0 E1 Tryz.f15.ntmps Tryz.f15.results.toList Q R 1000 (hd Tryz.f15 0) ⟨[(1,.ptr 1 0),(6,.win true syS 19 0 s.length),(21,.sl opS l),(22,.int .i64 l.length),(23,.int .i64 (i:Nat))],[(1,.var [.bool li,.int .i64 m,.int .i64 o,.sl opS l]),(19,.row 83 syS s)]⟩ =
  (bc (decide ((i:Int)<(l.length:Int))) ((0:Int)≤(i:Int) ∧
 (i:Int)<(l.length:Int) ∧
 (ctO (1:Int) (126:Nat)).pre ((gtO l (i:Int).toNat),()) ∧
 s.length=s.length ∧
 (ctA (1:Nat)).pre ((gtO l (i:Int).toNat),s,()) ∧
 R (hd Tryz.f15 0) { env:=[(1,.ptr 1 0),(6,.win true syS 1122880 0 (List.length (s++symsO (1:Nat) (gtO l (i:Int).toNat)))),(8,.ptr 8 0),(21,.sl opS l),(22,.int .i64 (l.length:Int)),(23,.int .i64 (IntKind.i64.wrap ((i:Int)+(1:Int)))),(24,.bool (decide ((i:Int)<(l.length:Int)))),(25,.elv opS (gtO l (i:Int).toNat)),(26,.agg [.int .i64 (gtO l (i:Int).toNat).1,.int .i64 (gtO l (i:Int).toNat).2.1,.int .i64 (gtO l (i:Int).toNat).2.2.1,.int .u8 (gtO l (i:Int).toNat).2.2.2.1,.sl uB (gtO l (i:Int).toNat).2.2.2.2]),(27,.agg [.int .i64 (gtO l (i:Int).toNat).1,.int .i64 (gtO l (i:Int).toNat).2.1,.int .i64 (gtO l (i:Int).toNat).2.2.1,.int .u8 (gtO l (i:Int).toNat).2.2.2.1,.sl uB (gtO l (i:Int).toNat).2.2.2.2]),(28,.ifc (126:Nat) true [.int .i64 (gtO l (i:Int).toNat).1,.int .i64 (gtO l (i:Int).toNat).2.1,.int .i64 (gtO l (i:Int).toNat).2.2.1,.int .u8 (gtO l (i:Int).toNat).2.2.2.1,.sl uB (gtO l (i:Int).toNat).2.2.2.2]),(29,.dead),(30,.win true syS 1122880 0 (List.length (s++symsO (1:Nat) (gtO l (i:Int).toNat)))),(31,.int .i64 (IntKind.i64.wrap ((i:Int)+(1:Int))))],blk:=[(1,.var [.bool li,.int .i64 m,.int .i64 o,.sl opS l]),(8,.var [.int .i64 (gtO l (i:Int).toNat).1,.int .i64 (gtO l (i:Int).toNat).2.1,.int .i64 (gtO l (i:Int).toNat).2.2.1,.int .u8 (gtO l (i:Int).toNat).2.2.2.1,.sl uB (gtO l (i:Int).toNat).2.2.2.2]),(1122880,.row 83 syS (s++symsO (1:Nat) (gtO l (i:Int).toNat)))] }) (Q [.win true syS 19 0 s.length,.int .i64 0] [(1,.var [.bool li,.int .i64 m,.int .i64 o,.sl opS l]),(19,.row 83 syS s)])):=by kernel_rfl
theorem vc_symsL2 (li:Bool) (m o:Int) (l:List OpT) (s:List SyT) (i:Nat) (Q:QT) (R:RT):sy tt G0 E2 Tryz.f15.ntmps Tryz.f15.results.toList Q R 1000 (hd Tryz.f15 0) ⟨[(1,.ptr 1 0),(6,.win true syS 19 0 s.length),(21,.sl opS l),(22,.int .i64 l.length),(23,.int .i64 (i:Nat))],[(1,.var [.bool li,.int .i64 m,.int .i64 o,.sl opS l]),(19,.row 83 syS s)]⟩ =
  (bc (decide ((i:Int)<(l.length:Int))) ((0:Int)≤(i:Int) ∧
 (i:Int)<(l.length:Int) ∧
 (ctO (2:Int) (127:Nat)).pre ((gtO l (i:Int).toNat),()) ∧
 s.length=s.length ∧
 (ctA (2:Nat)).pre ((gtO l (i:Int).toNat),s,()) ∧
 R (hd Tryz.f15 0) { env:=[(1,.ptr 1 0),(6,.win true syS 1122880 0 (List.length (s++symsO (2:Nat) (gtO l (i:Int).toNat)))),(8,.ptr 8 0),(21,.sl opS l),(22,.int .i64 (l.length:Int)),(23,.int .i64 (IntKind.i64.wrap ((i:Int)+(1:Int)))),(24,.bool (decide ((i:Int)<(l.length:Int)))),(25,.elv opS (gtO l (i:Int).toNat)),(26,.agg [.int .i64 (gtO l (i:Int).toNat).1,.int .i64 (gtO l (i:Int).toNat).2.1,.int .i64 (gtO l (i:Int).toNat).2.2.1,.int .u8 (gtO l (i:Int).toNat).2.2.2.1,.sl uB (gtO l (i:Int).toNat).2.2.2.2]),(27,.agg [.int .i64 (gtO l (i:Int).toNat).1,.int .i64 (gtO l (i:Int).toNat).2.1,.int .i64 (gtO l (i:Int).toNat).2.2.1,.int .u8 (gtO l (i:Int).toNat).2.2.2.1,.sl uB (gtO l (i:Int).toNat).2.2.2.2]),(28,.ifc (127:Nat) true [.int .i64 (gtO l (i:Int).toNat).1,.int .i64 (gtO l (i:Int).toNat).2.1,.int .i64 (gtO l (i:Int).toNat).2.2.1,.int .u8 (gtO l (i:Int).toNat).2.2.2.1,.sl uB (gtO l (i:Int).toNat).2.2.2.2]),(29,.dead),(30,.win true syS 1122880 0 (List.length (s++symsO (2:Nat) (gtO l (i:Int).toNat)))),(31,.int .i64 (IntKind.i64.wrap ((i:Int)+(1:Int))))],blk:=[(1,.var [.bool li,.int .i64 m,.int .i64 o,.sl opS l]),(8,.var [.int .i64 (gtO l (i:Int).toNat).1,.int .i64 (gtO l (i:Int).toNat).2.1,.int .i64 (gtO l (i:Int).toNat).2.2.1,.int .u8 (gtO l (i:Int).toNat).2.2.2.1,.sl uB (gtO l (i:Int).toNat).2.2.2.2]),(1122880,.row 83 syS (s++symsO (2:Nat) (gtO l (i:Int).toNat)))] }) (Q [.win true syS 19 0 s.length,.int .i64 0] [(1,.var [.bool li,.int .i64 m,.int .i64 o,.sl opS l]),(19,.row 83 syS s)])):=by kernel_rfl
theorem vc_symsL3 (li:Bool) (m o:Int) (l:List OpT) (s:List SyT) (i:Nat) (Q:QT) (R:RT):sy tt G0 E3 Tryz.f15.ntmps Tryz.f15.results.toList Q R 1000 (hd Tryz.f15 0) ⟨[(1,.ptr 1 0),(6,.win true syS 19 0 s.length),(21,.sl opS l),(22,.int .i64 l.length),(23,.int .i64 (i:Nat))],[(1,.var [.bool li,.int .i64 m,.int .i64 o,.sl opS l]),(19,.row 83 syS s)]⟩ =
  (bc (decide ((i:Int)<(l.length:Int))) ((0:Int)≤(i:Int) ∧
 (i:Int)<(l.length:Int) ∧
 (ctO (3:Int) (128:Nat)).pre ((gtO l (i:Int).toNat),()) ∧
 s.length=s.length ∧
 (ctA (3:Nat)).pre ((gtO l (i:Int).toNat),s,()) ∧
 R (hd Tryz.f15 0) { env:=[(1,.ptr 1 0),(6,.win true syS 1122880 0 (List.length (s++symsO (3:Nat) (gtO l (i:Int).toNat)))),(8,.ptr 8 0),(21,.sl opS l),(22,.int .i64 (l.length:Int)),(23,.int .i64 (IntKind.i64.wrap ((i:Int)+(1:Int)))),(24,.bool (decide ((i:Int)<(l.length:Int)))),(25,.elv opS (gtO l (i:Int).toNat)),(26,.agg [.int .i64 (gtO l (i:Int).toNat).1,.int .i64 (gtO l (i:Int).toNat).2.1,.int .i64 (gtO l (i:Int).toNat).2.2.1,.int .u8 (gtO l (i:Int).toNat).2.2.2.1,.sl uB (gtO l (i:Int).toNat).2.2.2.2]),(27,.agg [.int .i64 (gtO l (i:Int).toNat).1,.int .i64 (gtO l (i:Int).toNat).2.1,.int .i64 (gtO l (i:Int).toNat).2.2.1,.int .u8 (gtO l (i:Int).toNat).2.2.2.1,.sl uB (gtO l (i:Int).toNat).2.2.2.2]),(28,.ifc (128:Nat) true [.int .i64 (gtO l (i:Int).toNat).1,.int .i64 (gtO l (i:Int).toNat).2.1,.int .i64 (gtO l (i:Int).toNat).2.2.1,.int .u8 (gtO l (i:Int).toNat).2.2.2.1,.sl uB (gtO l (i:Int).toNat).2.2.2.2]),(29,.dead),(30,.win true syS 1122880 0 (List.length (s++symsO (3:Nat) (gtO l (i:Int).toNat)))),(31,.int .i64 (IntKind.i64.wrap ((i:Int)+(1:Int))))],blk:=[(1,.var [.bool li,.int .i64 m,.int .i64 o,.sl opS l]),(8,.var [.int .i64 (gtO l (i:Int).toNat).1,.int .i64 (gtO l (i:Int).toNat).2.1,.int .i64 (gtO l (i:Int).toNat).2.2.1,.int .u8 (gtO l (i:Int).toNat).2.2.2.1,.sl uB (gtO l (i:Int).toNat).2.2.2.2]),(1122880,.row 83 syS (s++symsO (3:Nat) (gtO l (i:Int).toNat)))] }) (Q [.win true syS 19 0 s.length,.int .i64 0] [(1,.var [.bool li,.int .i64 m,.int .i64 o,.sl opS l]),(19,.row 83 syS s)])):=by kernel_rfl
theorem vc_symsL4 (li:Bool) (m o:Int) (l:List OpT) (s:List SyT) (i:Nat) (Q:QT) (R:RT):sy tt G0 E4 Tryz.f15.ntmps Tryz.f15.results.toList Q R 1000 (hd Tryz.f15 0) ⟨[(1,.ptr 1 0),(6,.win true syS 19 0 s.length),(21,.sl opS l),(22,.int .i64 l.length),(23,.int .i64 (i:Nat))],[(1,.var [.bool li,.int .i64 m,.int .i64 o,.sl opS l]),(19,.row 83 syS s)]⟩ =
  (bc (decide ((i:Int)<(l.length:Int))) ((0:Int)≤(i:Int) ∧
 (i:Int)<(l.length:Int) ∧
 (ctO (4:Int) (129:Nat)).pre ((gtO l (i:Int).toNat),()) ∧
 s.length=s.length ∧
 (ctA (4:Nat)).pre ((gtO l (i:Int).toNat),s,()) ∧
 R (hd Tryz.f15 0) { env:=[(1,.ptr 1 0),(6,.win true syS 1122880 0 (List.length (s++symsO (4:Nat) (gtO l (i:Int).toNat)))),(8,.ptr 8 0),(21,.sl opS l),(22,.int .i64 (l.length:Int)),(23,.int .i64 (IntKind.i64.wrap ((i:Int)+(1:Int)))),(24,.bool (decide ((i:Int)<(l.length:Int)))),(25,.elv opS (gtO l (i:Int).toNat)),(26,.agg [.int .i64 (gtO l (i:Int).toNat).1,.int .i64 (gtO l (i:Int).toNat).2.1,.int .i64 (gtO l (i:Int).toNat).2.2.1,.int .u8 (gtO l (i:Int).toNat).2.2.2.1,.sl uB (gtO l (i:Int).toNat).2.2.2.2]),(27,.agg [.int .i64 (gtO l (i:Int).toNat).1,.int .i64 (gtO l (i:Int).toNat).2.1,.int .i64 (gtO l (i:Int).toNat).2.2.1,.int .u8 (gtO l (i:Int).toNat).2.2.2.1,.sl uB (gtO l (i:Int).toNat).2.2.2.2]),(28,.ifc (129:Nat) true [.int .i64 (gtO l (i:Int).toNat).1,.int .i64 (gtO l (i:Int).toNat).2.1,.int .i64 (gtO l (i:Int).toNat).2.2.1,.int .u8 (gtO l (i:Int).toNat).2.2.2.1,.sl uB (gtO l (i:Int).toNat).2.2.2.2]),(29,.dead),(30,.win true syS 1122880 0 (List.length (s++symsO (4:Nat) (gtO l (i:Int).toNat)))),(31,.int .i64 (IntKind.i64.wrap ((i:Int)+(1:Int))))],blk:=[(1,.var [.bool li,.int .i64 m,.int .i64 o,.sl opS l]),(8,.var [.int .i64 (gtO l (i:Int).toNat).1,.int .i64 (gtO l (i:Int).toNat).2.1,.int .i64 (gtO l (i:Int).toNat).2.2.1,.int .u8 (gtO l (i:Int).toNat).2.2.2.1,.sl uB (gtO l (i:Int).toNat).2.2.2.2]),(1122880,.row 83 syS (s++symsO (4:Nat) (gtO l (i:Int).toNat)))] }) (Q [.win true syS 19 0 s.length,.int .i64 0] [(1,.var [.bool li,.int .i64 m,.int .i64 o,.sl opS l]),(19,.row 83 syS s)])):=by kernel_rfl
def mem_sameOp_m0 (x y:OpT):List (Nat × LB):=[(2,.var [.int .i64 x.1,.int .i64 x.2.1,.int .i64 x.2.2.1,.int .u8 x.2.2.2.1,.sl uB x.2.2.2.2]),(3,.var [.int .i64 y.1,.int .i64 y.2.1,.int .i64 y.2.2.1,.int .u8 y.2.2.2.1,.sl uB y.2.2.2.2])]
theorem vc_sameOp (x y:OpT) (Q:QT) (R:RT):sy tt G0 [] Tryz.f67.ntmps Tryz.f67.results.toList Q R 1000 [.code (bodyOf Tryz.f67)] (entry [opS,opS] (x,y,())) =
  (bc (decide (x.1=y.1)) (bc (decide (x.2.1=y.2.1)) (bc (decide (x.2.2.1=y.2.2.1)) (bc (decide (x.2.2.2.1=y.2.2.2.1)) (Q [.bool (decide (List.map toB x.2.2.2.2=List.map toB y.2.2.2.2))] (mem_sameOp_m0 x y)) (false=false ∧
 Q [.bool false] (mem_sameOp_m0 x y))) (false=false ∧
 false=false ∧
 Q [.bool false] (mem_sameOp_m0 x y))) (false=false ∧
 false=false ∧
 false=false ∧
 Q [.bool false] (mem_sameOp_m0 x y))) (false=false ∧
 false=false ∧
 false=false ∧
 false=false ∧
 Q [.bool false] (mem_sameOp_m0 x y))):=by kernel_rfl
end Go.Proofs.YtncocpjkaggnjaaGreatDoor
namespace Go.Proofs.YtncocpjkaggnjaaGreatDoor
open Go.Px Go.Ax
set_option maxRecDepth 100000
attribute [local irreducible] Go.Px.sy Go.Px.syE
theorem gtB_at {l:List Int} {i:Nat} (h:i<l.length):gtB l i=l[i]:=gtE (e:=uB) h
theorem qc_rowI {ct:Ctr} {x:DL ct.args} {rs:List SV} {blk:List (Nat × LB)} {e:Sh} {et:TypeId} {a k:Nat} {z:Int} {xs:List e.D} (h:ct.out x=[.win true e 0 0 xs.length,.int .i64 z]) (hr:ct.rows x=[.row et e xs]) (hs:rs=[.win true e a 0 k,.int .i64 z]) (hk:k=xs.length) (hb:lk blk a=some (.row et e xs)):QC ct x rs blk:=by
 subst hs;subst hk
 refine ⟨fun i=>if i=0 then some a else none,?_,?_,fun i j b h1 h2=>?_,by rw[hr];rfl⟩
 ·rw[h]
  exact ⟨_,_,rfl,.inl ⟨true,a,rfl,rfl,fun h=>h⟩,_,_,rfl,rfl,rfl⟩
 ·rw[hr]
  exact ⟨.inl ⟨a,rfl,hb⟩,trivial⟩
 ·simp only at h1 h2
  split at h1
  ·split at h2
   ·omega
   ·cases h2
  ·cases h1
theorem qc_nilI {ct:Ctr} {x:DL ct.args} {rs:List SV} {blk:List (Nat × LB)} {e:Sh} {et:TypeId} {z:Int} (h:ct.out x=[.win true e 0 0 0,.int .i64 z]) (hr:ct.rows x=[.row et e []]) (hs:rs=[.nils,.int .i64 z]) (he:0<e.size):QC ct x rs blk:=by
 subst hs
 refine ⟨fun _=>none,?_,?_,fun i j b h1 h2=>?_,by rw[hr];rfl⟩
 ·rw[h]
  exact ⟨_,_,rfl,.inr ⟨rfl,rfl,rfl,rfl⟩,_,_,rfl,rfl,rfl⟩
 ·rw[hr]
  exact ⟨.inr ⟨rfl,_,_,rfl,he⟩,trivial⟩
 ·simp at h1
def ruOK (old:List Int) (s:SyT):Bool := !s.1 || (decide (0≤s.2.1)&&decide (s.2.1<old.length))
def ruB (old:List Int) (s:SyT):Int:=if s.1=true then IntKind.u8.wrap (s.2.2+gtB old s.2.1.toNat) else s.2.2
def runV (old:List Int) (l:List SyT):List Int × Int:=if l.all (ruOK old)=true then (l.map (ruB old),0) else ([],61)
def ctRun:Ctr:=⟨[.sl uB,.sl syS],fun x=>List.length x.2.1<16777216,fun x=>[.win true uB 0 0 (runV x.1 x.2.1).1.length,.int .i64 (runV x.1 x.2.1).2],fun x=>[.row 5 uB (runV x.1 x.2.1).1]⟩
abbrev RQ (old:List Int) (l:List SyT):List SV→List (Nat × LB)→Prop:=QC ctRun (old,l,())
theorem run_bad {old:List Int} {l:List SyT} {i:Nat} (h:i<l.length) (hb:ruOK old l[i]=false):runV old l=([],61):=by
 unfold runV
 rw[if_neg fun q=>by
  have:=List.all_eq_true.1 q l[i] (List.getElem_mem h)
  rw[hb] at this;cases this]
theorem run_end {old:List Int} {l:List SyT} (hb:runV old l=([],61)) {blk:List (Nat × LB)}:RQ old l [.nils,.int .i64 61] blk:=by
 refine qc_nilI (e:=uB) (et:=5) (z:=61) ?_ ?_ rfl (by decide)
 ·show [_,_]=_;rw[hb];rfl
 ·show [_]=_;rw[hb]
theorem run_loop (old:List Int) (l:List SyT) (hl:l.length<16777216):∀ (k i:Nat) (b:List Int),l.length-i=k→i≤l.length→b.length=l.length→(∀ j,j<i→b[j]?=(l.map (ruB old))[j]?)→(∀ j (h:j<i) (h2:j<l.length),ruOK old l[j]=true) →
  GD 77 Tryz.f77 (RQ old l) (hd Tryz.f77 0) ⟨[(0,.sl uB old),(6,.win true uB 11 0 b.length),(12,.sl syS l),(13,.int .i64 l.length),(14,.int .i64 (i:Nat))],[(11,.row 5 uB b)]⟩:=by
 intro k
 induction k with
 | zero=>
  intro i b hk hi hb hj ho
  have hi:i=l.length:=by omega
  subst hi
  refine sy_sound cx0 _ _ _ ((vc_runL old b l _ _ _).mpr ?_)
  rw[decide_eq_false (by omega),bc_f]
  have hv:runV old l=(l.map (ruB old),0):=by
   unfold runV
   rw[if_pos (List.all_eq_true.2 fun s hs=>by
    obtain ⟨j,hj,rfl⟩:=List.getElem_of_mem hs
    exact ho j hj hj)]
  have hbl:b=l.map (ruB old):=by
   refine List.ext_getElem? fun j=>?_
   by_cases h:j<l.length
   ·exact hj j h
   ·rw[List.getElem?_eq_none (by omega),List.getElem?_eq_none (by rw[List.length_map];omega)]
  refine qc_rowI (e:=uB) (et:=5) (a:=11) (z:=0) (xs:=b) ?_ ?_ rfl rfl rfl
  ·show [_,_]=_;rw[hv,hbl]
  ·show [_]=_;rw[hv,hbl]
 | succ k ih=>
  intro i b hk hi hb hj ho
  have hil:i<l.length:=by omega
  refine sy_sound cx0 _ _ _ ((vc_runL old b l i _ _).mpr ?_)
  rw[decide_eq_true (show (i:Int)<(l.length:Int) by omega),bc_t,Int.toNat_natCast,gtY_at hil,IntWalk.i64_in ((i:Int)+1) (by omega),Nat.zero_add]
  have nx:∀ b':List Int,b'.length=b.length→(∀ j,j≠i→b'[j]?=b[j]?)→b'[i]?=some (ruB old l[i])→ruOK old l[i]=true→GD 77 Tryz.f77 (RQ old l) (hd Tryz.f77 0) ⟨[(0,.sl uB old),(6,.win true uB 11 0 b'.length),(12,.sl syS l),(13,.int .i64 l.length),(14,.int .i64 ((i+1:Nat):Int))],[(11,.row 5 uB b')]⟩:=fun b' h1 h2 h3 h4=>by
   refine ih (i+1) b' (by omega) (by omega) (by omega) (fun j h=>?_) (fun j h h'=>?_)
   ·by_cases hji:j=i
    ·subst hji
     rw[h3,List.getElem?_map,List.getElem?_eq_getElem hil];rfl
    ·rw[h2 j hji];exact hj j (by omega)
   ·by_cases hji:j=i
    ·subst hji;exact h4
    ·exact ho j (by omega) h'
  generalize hs:l[i]=s at nx
  obtain ⟨f,a,v⟩:=s
  refine ⟨by omega,by omega,by omega,by omega,by omega,bc_of (fun h=>?_) (fun h=>bc_of (fun h2=>⟨rfl,?_⟩) (fun h2=>bc_of (fun h3=>?_) (fun h3=>?_)))⟩
  ·have h:f=false:=by simpa using h
   subst h
   refine (nx (b.set i v) (by rw[List.length_set]) (fun j hji=>by rw[List.getElem?_set_ne (by omega)]) (by rw[List.getElem?_set_self (by omega)];rfl) rfl).only ⟨rfl,by rw[List.length_set];rfl,rfl,rfl,rfl,trivial⟩ ⟨rfl,trivial⟩
  ·have h:f=true:=by simpa using h
   subst h
   have h2:a<0:=of_decide_eq_true h2
   exact run_end (run_bad hil (by rw[hs];simp[ruOK];omega))
  ·have h:f=true:=by simpa using h
   subst h
   have h3:(old.length:Int)≤a:=of_decide_eq_true h3
   exact run_end (run_bad hil (by rw[hs];simp[ruOK];omega))
  ·have h:f=true:=by simpa using h
   subst h
   have h2:¬ a<0:=of_decide_eq_false h2
   have h3:¬ (old.length:Int)≤a:=of_decide_eq_false h3
   refine ⟨by omega,by omega,by rw[List.length_set];omega,by show 0≤a;omega,by show a<_;omega,by omega,by omega,by rw[List.length_set];omega,?_⟩
   have e:gtB (b.set i v) i=v:=by
    rw[gtB_at (by rw[List.length_set];omega),List.getElem_set_self]
   rw[e]
   refine (nx ((b.set i v).set i (IntKind.u8.wrap (v+gtB old a.toNat))) (by rw[List.length_set,List.length_set]) (fun j hji=>by rw[List.getElem?_set_ne (by omega),List.getElem?_set_ne (by omega)]) (by rw[List.getElem?_set_self (by rw[List.length_set];omega)];rfl) (by simp[ruOK];omega)).only ⟨rfl,by rw[List.length_set,List.length_set];rfl,rfl,rfl,rfl,trivial⟩ ⟨rfl,trivial⟩
theorem run_held:Held Tryz.prog G0 77 ctRun:=by
 refine Held.run cx0 (fn:=Tryz.f77) rfl rfl ⟨by decide,by decide⟩ ?_
 rintro ⟨old,l,⟨⟩⟩ hp
 replace hp:l.length<16777216:=hp
 refine (vc_run old l _ _).mpr ⟨by omega,by omega,?_,?_,?_⟩
 ·show (l.length:Int)<16777216
  omega
 ·show (1:Int)*(l.length:Int)≤281474976710656
  omega
 ·exact (run_loop old l hp _ 0 (List.replicate (l.length:Int).toNat 0) rfl (by omega) (by rw[List.length_replicate,Int.toNat_natCast]) (fun j h=>by omega) (fun j h=>by omega)).only ⟨rfl,by rw[List.length_replicate];rfl,rfl,rfl,rfl,trivial⟩ ⟨rfl,trivial⟩
def soB (x y:OpT):Bool:=decide (x.1=y.1)&&(decide (x.2.1=y.2.1)&&(decide (x.2.2.1=y.2.2.1)&&(decide (x.2.2.2.1=y.2.2.2.1)&&decide (x.2.2.2.2.map toB=y.2.2.2.2.map toB))))
def ctSO:Ctr:=⟨[opS,opS],fun _=>True,fun x=>[.bool (soB x.1 x.2.1)],fun _=>[]⟩
theorem so_held:Held Tryz.prog G0 67 ctSO:=by
 refine Held.run cx0 (fn:=Tryz.f67) rfl rfl ⟨by decide,by decide⟩ ?_
 rintro ⟨x,y,⟨⟩⟩ _
 refine (vc_sameOp x y _ _).mpr ?_
 cases e1:decide (x.1=y.1) <;> cases e2:decide (x.2.1=y.2.1) <;> cases e3:decide (x.2.2.1=y.2.2.1) <;> cases e4:decide (x.2.2.2.1=y.2.2.2.1) <;>
  simp only[bc_t,bc_f,cond_true,cond_false,true_and] <;> exact QC.flat (by simp only[ctSO,soB,e1,e2,e3,e4];rfl) rfl rfl
def ofV (l:List SyT) (m:Int):PaT × Int:=if szB m=true∧szB l.length=true∧l.all (sOK m)=true then (if 4096<(opsL l).length then ((false,0,0,[]),2) else ((false,m,l.length,opsL l),0)) else ((false,0,0,[]),60)
def paV (p:PaT):SV:=.agg [.bool p.1,.int .i64 p.2.1,.int .i64 p.2.2.1,.sl opS p.2.2.2]
end Go.Proofs.YtncocpjkaggnjaaGreatDoor
namespace Go.Proofs.YtncocpjkaggnjaaGreatDoor
open Go.Px Go.Ax
set_option maxRecDepth 100000
attribute [local irreducible] Go.Px.sy Go.Px.syE
def lenS (l:List OpT):Int:=(l.map fun x=>x.2.2.1).sum
theorem chk_ok {m N:Int}:∀ {l:List OpT} {left i:Int},(chkF m N l left i).2=0→0≤left→(∀ x∈l,isRB x m=true)∧lenS l=left
 | [],left,i,h,h0=>by
  refine ⟨fun x hx=>by simp at hx,?_⟩
  simp only[chkF] at h
  split at h
  ·cases h
  ·show (0:Int)=left;omega
 | x::l,left,i,h,h0=>by
  simp only[chkF] at h
  split at h
  ·cases h
  ·rename_i h1
   split at h
   ·cases h
   ·rename_i h2
    have hr:isRB x m=true:=by simpa using h1
    have hx:=isRB_len hr
    obtain ⟨k1,k2⟩:=chk_ok h (by omega)
    refine ⟨fun y hy=>?_,?_⟩
    ·rcases List.mem_cons.1 hy with rfl | hy
     ·exact hr
     ·exact k1 y hy
    ·simp only[lenS,List.map_cons,List.sum_cons] at k2 ⊢;omega
theorem isRB_kind {x:OpT} {m:Int} (h:isRB x m=true):(x.1=1∨x.1=2∨x.1=3∨x.1=4)∧(cntO x.1.toNat x:Int)=x.2.2.1:=by
 have hl:=isRB_len h
 unfold isRB kR at h
 simp only[Bool.and_eq_true,decide_eq_true_eq] at h
 obtain ⟨_,_,h⟩:=h
 obtain ⟨k,f,n,b,d⟩:=x
 simp only at h hl ⊢
 split at h
 ·rename_i e;subst e;exact ⟨.inl rfl,by show (n.toNat:Int)=n;omega⟩
 ·split at h
  ·rename_i e;subst e
   simp only[rB,Bool.and_eq_true,decide_eq_true_eq] at h
   exact ⟨.inr (.inl rfl),h.2.2⟩
  ·split at h
   ·rename_i e;subst e;exact ⟨.inr (.inr (.inl rfl)),by show (n.toNat:Int)=n;omega⟩
   ·split at h
    ·rename_i e;subst e
     simp only[rB,Bool.and_eq_true,decide_eq_true_eq] at h
     exact ⟨.inr (.inr (.inr rfl)),h.2.2⟩
    ·cases h
theorem lenS_cons (x:OpT) (l:List OpT):lenS (x::l)=x.2.2.1+lenS l:=by simp only[lenS,List.map_cons,List.sum_cons]
theorem lenS_pos {m:Int}:∀ {l:List OpT},(∀ x∈l,isRB x m=true)→0≤lenS l
 | [],_=>Int.le_refl 0
 | x::l,h=>by
  have h1:=isRB_len (h x (by simp))
  have h2:=lenS_pos (l:=l) fun y hy=>h y (by simp[hy])
  simp only[lenS,List.map_cons,List.sum_cons] at h2 ⊢;omega
def symF:List OpT→List SyT
 | []=>[]
 | x::l=>symsO x.1.toNat x++symF l
def symV (p:PaT):List SyT × Int:=if (chkV p).2=0 then (symF p.2.2.2,0) else ([],(chkV p).2)
def ctSym:Ctr:=⟨[paS],fun _=>True,fun x=>[.win true syS 0 0 (symV x.1).1.length,.int .i64 (symV x.1).2],fun x=>[.row 83 syS (symV x.1).1]⟩
abbrev SQ (p:PaT):List SV→List (Nat × LB)→Prop:=QC ctSym (p,())
theorem chkV_ok {p:PaT} (h:(chkV p).2=0):(∀ x∈p.2.2.2,isRB x p.2.1=true)∧lenS p.2.2.2=p.2.2.1∧(0≤p.2.2.1∧p.2.2.1≤65536)∧p.2.2.2.length≤4096:=by
 unfold chkV at h
 split at h
 ·rename_i hg
  have hs:0≤p.2.2.1∧p.2.2.1≤65536:=by
   have:=hg.2.1
   unfold szB at this
   simpa only[Bool.and_eq_true,decide_eq_true_eq] using this
  obtain ⟨h1,h2⟩:=chk_ok h hs.1
  exact ⟨h1,h2,hs,hg.2.2⟩
 ·cases h
theorem sym_loop (li:Bool) (m o:Int) (l:List OpT) (hc:(chkV (li,m,o,l)).2=0):∀ (k i:Nat) (s:List SyT),l.length-i=k→i≤l.length→(s.length:Int)+lenS (l.drop i)≤65536→s++symF (l.drop i)=symF l →
  GD 15 Tryz.f15 (SQ (li,m,o,l)) (hd Tryz.f15 0) ⟨[(1,.ptr 1 0),(6,.win true syS 19 0 s.length),(21,.sl opS l),(22,.int .i64 l.length),(23,.int .i64 (i:Nat))],[(1,.var [.bool li,.int .i64 m,.int .i64 o,.sl opS l]),(19,.row 83 syS s)]⟩:=by
 obtain ⟨hr,hsum,hob,hlen⟩:=chkV_ok hc
 simp only at hr hsum hob hlen
 intro k
 induction k with
 | zero=>
  intro i s hk hi hb hs
  have hi:i=l.length:=by omega
  subst hi
  refine sy_sound ex1 _ _ _ ((vc_symsL1 li m o l s _ _ _).mpr ?_)
  rw[decide_eq_false (by omega),bc_f]
  rw[List.drop_length,symF,List.append_nil] at hs
  have hv:symV (li,m,o,l)=(s,0):=by unfold symV;rw[if_pos hc,hs]
  refine qc_rowI (e:=syS) (et:=83) (a:=19) (z:=0) (xs:=s) ?_ ?_ rfl rfl rfl
  ·show [_,_]=_;rw[hv]
  ·show [_]=_;rw[hv]
 | succ k ih=>
  intro i s hk hi hb hs
  have hil:i<l.length:=by omega
  have hx:=hr l[i] (List.getElem_mem hil)
  have hk2:=isRB_kind hx
  have hl2:=isRB_len hx
  rw[dropc hil] at hb hs
  rw[lenS_cons] at hb
  have hb2:(s.length:Int)+(l[i].2.2.1+lenS (l.drop (i+1)))≤65536:=hb
  have hpos:0≤lenS (l.drop (i+1)):=lenS_pos fun y hy=>hr y (List.mem_of_mem_drop hy)
  have hcl:(symsO l[i].1.toNat l[i]).length=cntO l[i].1.toNat l[i]:=by unfold symsO;exact gen_len _ _ _
  have hpre:preA l[i].1.toNat l[i] s:=⟨by omega,by omega,by omega⟩
  have nx:GD 15 Tryz.f15 (SQ (li,m,o,l)) (hd Tryz.f15 0) ⟨[(1,.ptr 1 0),(6,.win true syS 19 0 (s++symsO l[i].1.toNat l[i]).length),(21,.sl opS l),(22,.int .i64 l.length),(23,.int .i64 ((i+1:Nat):Int))],[(1,.var [.bool li,.int .i64 m,.int .i64 o,.sl opS l]),(19,.row 83 syS (s++symsO l[i].1.toNat l[i]))]⟩:=
   ih (i+1) _ (by omega) (by omega) (by rw[List.length_append];omega) (by rw[List.append_assoc];exact hs)
  have wi:IntKind.i64.wrap ((i:Int)+1)=((i+1:Nat):Int):=by rw[IntWalk.i64_in _ (by omega)];omega
  rcases hk2.1 with e | e | e | e
  ·rw[e] at hpre nx
   refine sy_sound ex1 _ _ _ ((vc_symsL1 li m o l s i _ _).mpr ?_)
   rw[decide_eq_true (show (i:Int)<(l.length:Int) by omega),bc_t,Int.toNat_natCast,gtO_at hil,wi]
   exact ⟨by omega,by omega,e,rfl,hpre,nx.onlyR [(19,1122880)] rfl ⟨rfl,rfl,rfl,rfl,rfl,trivial⟩ ⟨rfl,rfl,trivial⟩⟩
  ·rw[e] at hpre nx
   refine sy_sound ex2 _ _ _ ((vc_symsL2 li m o l s i _ _).mpr ?_)
   rw[decide_eq_true (show (i:Int)<(l.length:Int) by omega),bc_t,Int.toNat_natCast,gtO_at hil,wi]
   exact ⟨by omega,by omega,e,rfl,hpre,nx.onlyR [(19,1122880)] rfl ⟨rfl,rfl,rfl,rfl,rfl,trivial⟩ ⟨rfl,rfl,trivial⟩⟩
  ·rw[e] at hpre nx
   refine sy_sound ex3 _ _ _ ((vc_symsL3 li m o l s i _ _).mpr ?_)
   rw[decide_eq_true (show (i:Int)<(l.length:Int) by omega),bc_t,Int.toNat_natCast,gtO_at hil,wi]
   exact ⟨by omega,by omega,e,rfl,hpre,nx.onlyR [(19,1122880)] rfl ⟨rfl,rfl,rfl,rfl,rfl,trivial⟩ ⟨rfl,rfl,trivial⟩⟩
  ·rw[e] at hpre nx
   refine sy_sound ex4 _ _ _ ((vc_symsL4 li m o l s i _ _).mpr ?_)
   rw[decide_eq_true (show (i:Int)<(l.length:Int) by omega),bc_t,Int.toNat_natCast,gtO_at hil,wi]
   exact ⟨by omega,by omega,e,rfl,hpre,nx.onlyR [(19,1122880)] rfl ⟨rfl,rfl,rfl,rfl,rfl,trivial⟩ ⟨rfl,rfl,trivial⟩⟩
theorem sym_held:Held Tryz.prog G0 15 ctSym:=by
 refine Held.run cxA (fn:=Tryz.f15) rfl rfl ⟨by decide,by decide⟩ ?_
 rintro ⟨⟨li,m,o,l⟩,⟨⟩⟩ _
 refine (vc_syms li m o l _ _).mpr ⟨trivial,bc_of (fun h=>?_) (fun h=>?_)⟩
 ·have h:(chkV (li,m,o,l)).2≠0:=of_decide_eq_true h
  have hv:symV (li,m,o,l)=([],(chkV (li,m,o,l)).2):=by unfold symV;rw[if_neg h]
  refine qc_nilI (e:=syS) (et:=83) (z:=(chkV (li,m,o,l)).2) ?_ ?_ rfl (by decide)
  ·show [_,_]=_;rw[hv];rfl
  ·show [_]=_;rw[hv]
 ·have h:¬ (chkV (li,m,o,l)).2≠0:=of_decide_eq_false h
  have h:(chkV (li,m,o,l)).2=0:=by simpa using h
  obtain ⟨hr,hsum,hob,hlen⟩:=chkV_ok h
  simp only at hr hsum hob hlen
  refine ⟨Int.le_refl 0,hob.1,?_,?_,?_⟩
  ·exact Int.lt_of_le_of_lt hob.2 (by decide)
  ·exact Int.le_trans (Int.mul_le_mul_of_nonneg_left hob.2 (by decide)) (by decide)
  ·exact (sym_loop li m o l h _ 0 [] rfl (by omega) (by rw[List.drop_zero,hsum];simpa using hob.2) rfl).only ⟨rfl,rfl,rfl,rfl,rfl,trivial⟩ ⟨rfl,rfl,trivial⟩
def k14 (x:OpT):Prop:=x.1=1∨x.1=2∨x.1=3∨x.1=4
end Go.Proofs.YtncocpjkaggnjaaGreatDoor
namespace Go.Proofs.YtncocpjkaggnjaaGreatDoor
open Go.Px Go.Ax
set_option maxRecDepth 100000
def CP:CV:=[(77,.inl ctRun)]
theorem cxP:CxOK Tryz.prog tt G0 CP:=cx0.cons run_held (fn:=Tryz.f77) rfl rfl rfl
def CS:CV:=[(67,.inl ctSO)]
theorem cxS:CxOK Tryz.prog tt G0 CS:=cx0.cons so_held (fn:=Tryz.f67) rfl rfl rfl
set_option maxRecDepth 100000
theorem vc_plain (old:List Int) (m:Int) (l:List SyT) (Q:QT) (R:RT):sy tt G0 CP Tryz.f45.ntmps Tryz.f45.results.toList Q R 1000 [.code (bodyOf Tryz.f45)] (entry [.sl uB,iI,.sl syS] (old,m,l,())) =
  (bc (decide ((old.length:Int)≠m)) (Q [.nils,.int .i64 61] []) (ctRun.pre (old,l,()) ∧
 Q [.win true uB 1057344 0 (runV old l).1.length,.int .i64 (runV old l).2] [(1057344,.row 5 uB (runV old l).1)])):=by kernel_rfl
def mem_same_m0 (li li2:Bool) (m o m2 o2:Int) (l l2:List OpT):List (Nat × LB):=[(2,.var [.bool li,.int .i64 m,.int .i64 o,.sl opS l]),(3,.var [.bool li2,.int .i64 m2,.int .i64 o2,.sl opS l2])]
theorem vc_same (li li2:Bool) (m o m2 o2:Int) (l l2:List OpT) (Q:QT) (R:RT):sy tt G0 CS Tryz.f29.ntmps Tryz.f29.results.toList Q R 1000 [.code (bodyOf Tryz.f29)] (entry [paS,paS] ((li,m,o,l),(li2,m2,o2,l2),())) =
  (bc (!li == li2) (true=true ∧
 true=true ∧
 true=true ∧
 Q [.bool false] (mem_same_m0 li li2 m o m2 o2 l l2)) (bc (bif false then true else decide (m≠m2)) (true=true ∧
 true=true ∧
 Q [.bool false] (mem_same_m0 li li2 m o m2 o2 l l2)) (bc (bif false then true else decide (o≠o2)) (true=true ∧
 Q [.bool false] (mem_same_m0 li li2 m o m2 o2 l l2)) (bc (bif false then true else decide ((l.length:Int)≠(l2.length:Int))) (Q [.bool false] (mem_same_m0 li li2 m o m2 o2 l l2)) (R (hd Tryz.f29 0) { env:=[(0,.agg [.bool li,.int .i64 m,.int .i64 o,.sl opS l]),(1,.agg [.bool li2,.int .i64 m2,.int .i64 o2,.sl opS l2]),(2,.ptr 2 0),(3,.ptr 3 0),(4,.bool false),(5,.int .i64 0),(6,.ptr 2 0),(7,.bool li),(8,.ptr 3 0),(9,.bool li2),(10,.bool !li == li2),(11,.bool false),(12,.ptr 2 1),(13,.int .i64 m),(14,.ptr 3 1),(15,.int .i64 m2),(16,.bool (decide (m≠m2))),(17,.bool (bif false then true else decide (m≠m2))),(18,.bool false),(19,.ptr 2 2),(20,.int .i64 o),(21,.ptr 3 2),(22,.int .i64 o2),(23,.bool (decide (o≠o2))),(24,.bool (bif false then true else decide (o≠o2))),(25,.bool false),(26,.ptr 2 3),(27,.sl opS l),(28,.int .i64 (l.length:Int)),(29,.ptr 3 3),(30,.sl opS l2),(31,.int .i64 (l2.length:Int)),(32,.bool (decide ((l.length:Int)≠(l2.length:Int)))),(33,.bool (bif false then true else decide ((l.length:Int)≠(l2.length:Int))))],blk:=[(2,.var [.bool li,.int .i64 m,.int .i64 o,.sl opS l]),(3,.var [.bool li2,.int .i64 m2,.int .i64 o2,.sl opS l2])] }))))):=by kernel_rfl
def mem_sameL_m0 (li li2:Bool) (m o m2 o2:Int) (l l2:List OpT):List (Nat × LB):=[(2,.var [.bool li,.int .i64 m,.int .i64 o,.sl opS l]),(3,.var [.bool li2,.int .i64 m2,.int .i64 o2,.sl opS l2])]
theorem vc_sameL (li li2:Bool) (m o m2 o2:Int) (l l2:List OpT) (i:Nat) (Q:QT) (R:RT):sy tt G0 CS Tryz.f29.ntmps Tryz.f29.results.toList Q R 1000 (hd Tryz.f29 0) ⟨[(2,.ptr 2 0),(3,.ptr 3 0),(5,.int .i64 (i:Nat))],[(2,.var [.bool li,.int .i64 m,.int .i64 o,.sl opS l]),(3,.var [.bool li2,.int .i64 m2,.int .i64 o2,.sl opS l2])]⟩ =
  (bc (decide ((i:Int)<(l.length:Int))) ((0:Int)≤(i:Int) ∧
 (i:Int)<(l.length:Int) ∧
 (0:Int)≤(i:Int) ∧
 (i:Int)<(l2.length:Int) ∧
 ctSO.pre ((gtO l (i:Int).toNat),(gtO l2 (i:Int).toNat),()) ∧
 bc (!soB (gtO l (i:Int).toNat) (gtO l2 (i:Int).toNat)) (Q [.bool false] (mem_sameL_m0 li li2 m o m2 o2 l l2)) (R (hd Tryz.f29 0) { env:=[(2,.ptr 2 0),(3,.ptr 3 0),(5,.int .i64 (IntKind.i64.wrap ((i:Int)+(1:Int)))),(34,.int .i64 (i:Int)),(35,.ptr 2 3),(36,.sl opS l),(37,.int .i64 (l.length:Int)),(38,.bool (decide ((i:Int)<(l.length:Int)))),(39,.int .i64 (i:Int)),(40,.int .i64 (IntKind.i64.wrap ((i:Int)+(1:Int)))),(41,.ptr 2 3),(42,.sl opS l),(43,.int .i64 (i:Int)),(44,.elv opS (gtO l (i:Int).toNat)),(45,.agg [.int .i64 (gtO l (i:Int).toNat).1,.int .i64 (gtO l (i:Int).toNat).2.1,.int .i64 (gtO l (i:Int).toNat).2.2.1,.int .u8 (gtO l (i:Int).toNat).2.2.2.1,.sl uB (gtO l (i:Int).toNat).2.2.2.2]),(46,.ptr 3 3),(47,.sl opS l2),(48,.int .i64 (i:Int)),(49,.elv opS (gtO l2 (i:Int).toNat)),(50,.agg [.int .i64 (gtO l2 (i:Int).toNat).1,.int .i64 (gtO l2 (i:Int).toNat).2.1,.int .i64 (gtO l2 (i:Int).toNat).2.2.1,.int .u8 (gtO l2 (i:Int).toNat).2.2.2.1,.sl uB (gtO l2 (i:Int).toNat).2.2.2.2]),(51,.bool (soB (gtO l (i:Int).toNat) (gtO l2 (i:Int).toNat))),(52,.bool !soB (gtO l (i:Int).toNat) (gtO l2 (i:Int).toNat))],blk:=[(2,.var [.bool li,.int .i64 m,.int .i64 o,.sl opS l]),(3,.var [.bool li2,.int .i64 m2,.int .i64 o2,.sl opS l2])] })) (Q [.bool true] (mem_sameL_m0 li li2 m o m2 o2 l l2))):=by kernel_rfl
end Go.Proofs.YtncocpjkaggnjaaGreatDoor
namespace Go.Proofs.YtncocpjkaggnjaaGreatDoor
open Go.Px Go.Ax
set_option maxRecDepth 100000
attribute [local irreducible] Go.Px.sy Go.Px.syE
def plV (old:List Int) (m:Int) (l:List SyT):List Int × Int:=if (old.length:Int)=m then runV old l else ([],61)
def ctPl:Ctr:=⟨[.sl uB,iI,.sl syS],fun x=>List.length x.2.2.1<16777216,fun x=>[.win true uB 0 0 (plV x.1 x.2.1 x.2.2.1).1.length,.int .i64 (plV x.1 x.2.1 x.2.2.1).2],fun x=>[.row 5 uB (plV x.1 x.2.1 x.2.2.1).1]⟩
theorem pl_held:Held Tryz.prog G0 45 ctPl:=by
 refine Held.run cxP (fn:=Tryz.f45) rfl rfl ⟨by decide,by decide⟩ ?_
 rintro ⟨old,m,l,⟨⟩⟩ hp
 replace hp:l.length<16777216:=hp
 refine (vc_plain old m l _ _).mpr (bc_of (fun h=>?_) (fun h=>⟨hp,?_⟩))
 ·have h:(old.length:Int)≠m:=of_decide_eq_true h
  have hv:plV old m l=([],61):=if_neg h
  refine qc_nilI (e:=uB) (et:=5) (z:=61) ?_ ?_ rfl (by decide)
  ·show [_,_]=_;rw[hv];rfl
  ·show [_]=_;rw[hv]
 ·have h:¬ (old.length:Int)≠m:=of_decide_eq_false h
  have h:(old.length:Int)=m:=by simpa using h
  have hv:plV old m l=runV old l:=if_pos h
  refine qc_rowI (e:=uB) (et:=5) (a:=1057344) (z:=(runV old l).2) (xs:=(runV old l).1) ?_ ?_ rfl rfl rfl
  ·show [_,_]=_;rw[hv]
  ·show [_]=_;rw[hv]
theorem symF_len {m:Int}:∀ {l:List OpT},(∀ x∈l,isRB x m=true)→((symF l).length:Int)=lenS l
 | [],_=>rfl
 | x::l,h=>by
  have h1:=isRB_kind (h x (by simp))
  have h2:=symF_len (l:=l) fun y hy=>h y (by simp[hy])
  have hcl:(symsO x.1.toNat x).length=cntO x.1.toNat x:=by unfold symsO;exact gen_len _ _ _
  rw[lenS_cons,symF,List.length_append,hcl];omega
theorem symV_len (p:PaT):(symV p).1.length<16777216:=by
 unfold symV
 split
 ·rename_i h
  obtain ⟨h1,h2,h3,_⟩:=chkV_ok h
  have:=symF_len h1
  have h4:=h3.2
  simp only
  omega
 ·show 0<16777216
  decide
def smL:List OpT→List OpT→Bool
 | [],[]=>true
 | x::l,y::m=>soB x y&&smL l m
 | _,_=>false
def smB (p q:PaT):Bool:=(p.1 == q.1)&&(decide (p.2.1=q.2.1)&&(decide (p.2.2.1=q.2.2.1)&&(decide (p.2.2.2.length=q.2.2.2.length)&&smL p.2.2.2 q.2.2.2)))
def ctSm:Ctr:=⟨[paS,paS],fun x=>List.length x.1.2.2.2<1099511627776,fun x=>[.bool (smB x.1 x.2.1)],fun _=>[]⟩
theorem sm_loop (li li2:Bool) (m o m2 o2:Int) (l l2:List OpT) (hl:l.length<1099511627776) (he:l.length=l2.length):∀ (k i:Nat),l.length-i=k→i≤l.length →
  GD 29 Tryz.f29 (fun rs _=>rs=[.bool (smL (l.drop i) (l2.drop i))]) (hd Tryz.f29 0) ⟨[(2,.ptr 2 0),(3,.ptr 3 0),(5,.int .i64 (i:Nat))],[(2,.var [.bool li,.int .i64 m,.int .i64 o,.sl opS l]),(3,.var [.bool li2,.int .i64 m2,.int .i64 o2,.sl opS l2])]⟩:=by
 intro k
 induction k with
 | zero=>
  intro i hk hi
  have hi:i=l.length:=by omega
  subst hi
  refine sy_sound cxS _ _ _ ((vc_sameL li li2 m o m2 o2 l l2 _ _ _).mpr ?_)
  rw[decide_eq_false (by omega),bc_f,List.drop_length,he,List.drop_length]
  rfl
 | succ k ih=>
  intro i hk hi
  have hx:i<l.length:=by omega
  have hy:i<l2.length:=by omega
  refine sy_sound cxS _ _ _ ((vc_sameL li li2 m o m2 o2 l l2 i _ _).mpr ?_)
  rw[decide_eq_true (show (i:Int)<(l.length:Int) by omega),bc_t,Int.toNat_natCast,gtO_at hx,gtO_at hy,IntWalk.i64_in ((i:Int)+1) (by omega),dropc hx,dropc hy,smL]
  refine ⟨by omega,by omega,by omega,by omega,trivial,bc_of (fun h=>?_) (fun h=>?_)⟩
  ·have h:soB l[i] l2[i]=false:=by simpa using h
   rw[h];rfl
  ·have h:soB l[i] l2[i]=true:=by simpa using h
   rw[h]
   exact (ih (i+1) (by omega) (by omega)).only ⟨rfl,rfl,rfl,trivial⟩ ⟨rfl,rfl,trivial⟩
theorem sm_held:Held Tryz.prog G0 29 ctSm:=by
 refine Held.run cxS (fn:=Tryz.f29) rfl rfl ⟨by decide,by decide⟩ ?_
 rintro ⟨⟨li,m,o,l⟩,⟨li2,m2,o2,l2⟩,⟨⟩⟩ hp
 replace hp:l.length<1099511627776:=hp
 refine (vc_same li li2 m o m2 o2 l l2 _ _).mpr ?_
 cases e0:(li == li2)
 ·exact ⟨rfl,rfl,rfl,QC.flat (by show [SV.bool (smB _ _)]=_;simp only[smB,e0];rfl) rfl rfl⟩
 ·rw[Bool.not_true,bc_f]
  refine bc_of (fun h=>⟨rfl,rfl,?_⟩) (fun h=>bc_of (fun h2=>⟨rfl,?_⟩) (fun h2=>bc_of (fun h3=>?_) (fun h3=>?_)))
  ·have h:m≠m2:=of_decide_eq_true h
   exact QC.flat (by show [SV.bool (smB _ _)]=_;simp only[smB,e0,decide_eq_false h];rfl) rfl rfl
  ·have h2:o≠o2:=of_decide_eq_true h2
   exact QC.flat (by show [SV.bool (smB _ _)]=_;simp only[smB,e0,decide_eq_false h2,Bool.false_and,Bool.and_false]) rfl rfl
  ·have h3:(l.length:Int)≠l2.length:=of_decide_eq_true h3
   have h3:¬ l.length=l2.length:=by omega
   exact QC.flat (by show [SV.bool (smB _ _)]=_;simp only[smB,e0,decide_eq_false h3,Bool.false_and,Bool.and_false]) rfl rfl
  ·have h:m=m2:=by
    have h:¬ m≠m2:=of_decide_eq_false h
    simpa using h
   have h2:o=o2:=by
    have h2:¬ o≠o2:=of_decide_eq_false h2
    simpa using h2
   have h3:l.length=l2.length:=by
    have h3:¬ (l.length:Int)≠l2.length:=of_decide_eq_false h3
    omega
   refine ((sm_loop li li2 m o m2 o2 l l2 hp h3 _ 0 rfl (by omega)).post fun rs blk hq=>QC.flat ?_ rfl (by rw[hq];rfl)).only ⟨rfl,rfl,rfl,trivial⟩ ⟨rfl,rfl,trivial⟩
   rw[hq]
   show [SV.bool (smB _ _)]=_
   simp only[smB,e0,decide_eq_true h,decide_eq_true h2,decide_eq_true h3,Bool.true_and];rfl
end Go.Proofs.YtncocpjkaggnjaaGreatDoor
namespace Go.Proofs.YtncocpjkaggnjaaGreatDoor
open Go.Px Go.Ax
set_option maxRecDepth 100000
set_option maxRecDepth 100000
theorem vc_rin (n a b:Int) (Q:QT) (R:RT):sy tt G0 [] Tryz.f42.ntmps Tryz.f42.results.toList Q R 1000 [.code (bodyOf Tryz.f42)] (entry [iI,iI,iI] (n,a,b,())) =
  (bc (decide (a≤n)) (Q [.bool (decide (n≤b))] []) (false=false ∧
 Q [.bool false] [])):=by kernel_rfl
theorem vc_input (x:List Int) (n:Int) (Q:QT) (R:RT):sy tt G0 [] Tryz.f55.ntmps Tryz.f55.results.toList Q R 1000 [.code (bodyOf Tryz.f55)] (entry [.sl uB,iI] (x,n,())) =
  (R (hd Tryz.f55 0) { env:=[(0,.sl uB x),(1,.int .i64 n),(4,.nils),(5,.win true uB 8 0 (0:Nat)),(6,.int .i64 0),(8,.win true uB 8 0 (0:Nat))],blk:=[(8,.row 5 uB (List.replicate (0:Nat) uB.dflt))] }):=by kernel_rfl
theorem vc_inputL (x o:List Int) (n:Int) (i:Nat) (Q:QT) (R:RT):sy tt G0 [] Tryz.f55.ntmps Tryz.f55.results.toList Q R 1000 (hd Tryz.f55 0) ⟨[(0,.sl uB x),(1,.int .i64 n),(5,.win true uB 5 0 o.length),(6,.int .i64 (i:Nat))],[(5,.row 5 uB o)]⟩ =
  (bc (decide ((i:Int)<n)) (bc (decide ((i:Int)<(x.length:Int))) ((0:Int)≤(i:Int) ∧
 (i:Int)<(x.length:Int) ∧
 (0:Nat)+(1:Nat)≤([(gtB x (i:Int).toNat)]:List uB.D).length ∧
 o.length=o.length ∧
 (0:Nat)=(0:Nat) ∧
 o.length+(([(gtB x (i:Int).toNat)]:List uB.D)).length<(2:Nat) ^ (30:Nat) ∧
 (1:Nat)≤(2:Nat) ^ (10:Nat) ∧
 R (hd Tryz.f55 0) { env:=[(0,.sl uB x),(1,.int .i64 n),(5,.win true uB 28 0 (o.length+(([(gtB x (i:Int).toNat)]:List uB.D)).length)),(6,.int .i64 (IntKind.i64.wrap ((i:Int)+(1:Int)))),(7,.int .u8 (gtB x (i:Int).toNat)),(9,.int .i64 (i:Int)),(10,.int .i64 n),(11,.bool (decide ((i:Int)<n))),(12,.int .i64 (i:Int)),(13,.int .i64 (IntKind.i64.wrap ((i:Int)+(1:Int)))),(14,.int .i64 (i:Int)),(15,.int .i64 (IntKind.i64.wrap ((7:Int)*(i:Int)))),(16,.int .u8 (IntKind.u8.wrap (IntKind.i64.wrap ((7:Int)*(i:Int))))),(17,.int .i64 (i:Int)),(18,.sl uB x),(19,.int .i64 (x.length:Int)),(20,.bool (decide ((i:Int)<(x.length:Int)))),(21,.sl uB x),(22,.int .i64 (i:Int)),(23,.elv uB (gtB x (i:Int).toNat)),(24,.int .u8 (gtB x (i:Int).toNat)),(25,.dead),(26,.int .u8 (gtB x (i:Int).toNat)),(27,.win true uB 27 0 (1:Nat)),(28,.win true uB 28 0 (o.length+(([(gtB x (i:Int).toNat)]:List uB.D)).length))],blk:=[(27,.row 5 uB ([(gtB x (i:Int).toNat)]:List uB.D)),(28,.row 5 uB (o++([(gtB x (i:Int).toNat)]:List uB.D)))] }) ((0:Nat)+(1:Nat)≤([(IntKind.u8.wrap (IntKind.i64.wrap ((7:Int)*(i:Int))))]:List uB.D).length ∧
 o.length=o.length ∧
 (0:Nat)=(0:Nat) ∧
 o.length+(([(IntKind.u8.wrap (IntKind.i64.wrap ((7:Int)*(i:Int))))]:List uB.D)).length<(2:Nat) ^ (30:Nat) ∧
 (1:Nat)≤(2:Nat) ^ (10:Nat) ∧
 R (hd Tryz.f55 0) { env:=[(0,.sl uB x),(1,.int .i64 n),(5,.win true uB 28 0 (o.length+(([(IntKind.u8.wrap (IntKind.i64.wrap ((7:Int)*(i:Int))))]:List uB.D)).length)),(6,.int .i64 (IntKind.i64.wrap ((i:Int)+(1:Int)))),(7,.int .u8 (IntKind.u8.wrap (IntKind.i64.wrap ((7:Int)*(i:Int))))),(9,.int .i64 (i:Int)),(10,.int .i64 n),(11,.bool (decide ((i:Int)<n))),(12,.int .i64 (i:Int)),(13,.int .i64 (IntKind.i64.wrap ((i:Int)+(1:Int)))),(14,.int .i64 (i:Int)),(15,.int .i64 (IntKind.i64.wrap ((7:Int)*(i:Int)))),(16,.int .u8 (IntKind.u8.wrap (IntKind.i64.wrap ((7:Int)*(i:Int))))),(17,.int .i64 (i:Int)),(18,.sl uB x),(19,.int .i64 (x.length:Int)),(20,.bool (decide ((i:Int)<(x.length:Int)))),(25,.dead),(26,.int .u8 (IntKind.u8.wrap (IntKind.i64.wrap ((7:Int)*(i:Int))))),(27,.win true uB 27 0 (1:Nat)),(28,.win true uB 28 0 (o.length+(([(IntKind.u8.wrap (IntKind.i64.wrap ((7:Int)*(i:Int))))]:List uB.D)).length))],blk:=[(27,.row 5 uB ([(IntKind.u8.wrap (IntKind.i64.wrap ((7:Int)*(i:Int))))]:List uB.D)),(28,.row 5 uB (o++([(IntKind.u8.wrap (IntKind.i64.wrap ((7:Int)*(i:Int))))]:List uB.D)))] })) (Q [.win true uB 5 0 o.length] [(5,.row 5 uB o)])):=by kernel_rfl
end Go.Proofs.YtncocpjkaggnjaaGreatDoor
namespace Go.Proofs.YtncocpjkaggnjaaGreatDoor
open Go.Px Go.Ax
set_option maxRecDepth 100000
attribute [local irreducible] Go.Px.sy Go.Px.syE
theorem qc_row {ct:Ctr} {x:DL ct.args} {rs:List SV} {blk:List (Nat × LB)} {e:Sh} {et:TypeId} {a k:Nat} {xs:List e.D} (h:ct.out x=[.win true e 0 0 xs.length]) (hr:ct.rows x=[.row et e xs]) (hs:rs=[.win true e a 0 k]) (hk:k=xs.length) (hb:lk blk a=some (.row et e xs)):QC ct x rs blk:=by
 subst hs;subst hk
 refine ⟨fun i=>if i=0 then some a else none,?_,?_,fun i j b h1 h2=>?_,by rw[hr];rfl⟩
 ·rw[h]
  exact ⟨_,_,rfl,.inl ⟨true,a,rfl,rfl,fun h=>h⟩,rfl⟩
 ·rw[hr]
  exact ⟨.inl ⟨a,rfl,hb⟩,trivial⟩
 ·simp only at h1 h2
  split at h1
  ·split at h2
   ·omega
   ·cases h2
  ·cases h1
def ctIn:Ctr:=⟨[iI,iI,iI],fun _=>True,fun x=>[.bool (decide (x.2.1≤x.1)&&decide (x.1≤x.2.2.1))],fun _=>[]⟩
theorem in_held:Held Tryz.prog G0 42 ctIn:=by
 refine Held.run cx0 (fn:=Tryz.f42) rfl rfl ⟨by decide,by decide⟩ ?_
 rintro ⟨n,a,b,⟨⟩⟩ _
 refine (vc_rin n a b _ _).mpr (bc_of (fun h=>?_) (fun h=>⟨rfl,?_⟩))
 ·exact QC.flat (by simp only[ctIn,h];rfl) rfl rfl
 ·exact QC.flat (by simp only[ctIn,h];rfl) rfl rfl
def inB (x:List Int) (i:Nat):Int:=if i<x.length then gtB x i else IntKind.u8.wrap (IntKind.i64.wrap (7*(i:Int)))
def inpL (x:List Int) (n:Nat):List Int:=(List.range n).map (inB x)
theorem inpL_len (x:List Int) (n:Nat):(inpL x n).length=n:=by simp[inpL]
theorem inpL_succ (x:List Int) (i:Nat):inpL x (i+1)=inpL x i++[inB x i]:=by simp[inpL,List.range_succ]
def preI (n:Int):Prop:=0≤n∧n<16777216
def ctInp:Ctr:=⟨[.sl uB,iI],fun x=>preI x.2.1,fun x=>[.win true uB 0 0 (inpL x.1 x.2.1.toNat).length],fun x=>[.row 5 uB (inpL x.1 x.2.1.toNat)]⟩
abbrev IQ (x:List Int) (n:Int):List SV→List (Nat × LB)→Prop:=QC ctInp (x,n,())
theorem inp_loop (x:List Int) (n:Nat) (hn:n<16777216):∀ (k i:Nat),n-i=k→i≤n →
  GD 55 Tryz.f55 (IQ x n) (hd Tryz.f55 0) ⟨[(0,.sl uB x),(1,.int .i64 (n:Nat)),(5,.win true uB 5 0 (inpL x i).length),(6,.int .i64 (i:Nat))],[(5,.row 5 uB (inpL x i))]⟩:=by
 intro k
 induction k with
 | zero=>
  intro i hk hi
  have hi:i=n:=by omega
  subst hi
  refine sy_sound cx0 _ _ _ ((vc_inputL x (inpL x i) (i:Int) i _ _).mpr ?_)
  rw[decide_eq_false (by omega),bc_f]
  exact qc_row (e:=uB) (et:=5) (a:=5) (xs:=inpL x i) rfl rfl rfl rfl rfl
 | succ k ih=>
  intro i hk hi
  have nx:=ih (i+1) (by omega) (by omega)
  have hlen:=inpL_len x i
  rw[inpL_succ] at nx
  refine sy_sound cx0 _ _ _ ((vc_inputL x (inpL x i) (n:Int) i _ _).mpr ?_)
  rw[decide_eq_true (show (i:Int)<(n:Int) by omega),bc_t,Int.toNat_natCast,IntWalk.i64_in ((i:Int)+1) (by omega)]
  refine bc_of (fun h=>?_) (fun h=>?_)
  ·have h:i<x.length:=by have:=of_decide_eq_true h;omega
   have e:inB x i=gtB x i:=if_pos h
   rw[e] at nx
   refine ⟨by omega,by omega,Nat.le_refl 1,rfl,rfl,(show (inpL x i).length+1<2 ^ 30 by omega),by decide,?_⟩
   exact nx.onlyR [(5,28)] rfl ⟨rfl,rfl,by rw[List.length_append];rfl,rfl,trivial⟩ ⟨rfl,trivial⟩
  ·have h:¬ i<x.length:=by have:=of_decide_eq_false h;omega
   have e:inB x i=IntKind.u8.wrap (IntKind.i64.wrap (7*(i:Int))):=if_neg h
   rw[e] at nx
   refine ⟨Nat.le_refl 1,rfl,rfl,(show (inpL x i).length+1<2 ^ 30 by omega),by decide,?_⟩
   exact nx.onlyR [(5,28)] rfl ⟨rfl,rfl,by rw[List.length_append];rfl,rfl,trivial⟩ ⟨rfl,trivial⟩
theorem inp_held:Held Tryz.prog G0 55 ctInp:=by
 refine Held.run cx0 (fn:=Tryz.f55) rfl rfl ⟨by decide,by decide⟩ ?_
 rintro ⟨x,n,⟨⟩⟩ hp
 obtain ⟨h0,h1⟩:preI n:=hp
 obtain ⟨N,rfl⟩:=Int.eq_ofNat_of_zero_le h0
 refine (vc_input x (N:Int) _ _).mpr ?_
 exact (inp_loop x N (by omega) _ 0 rfl (by omega)).onlyR [(5,8)] rfl ⟨rfl,rfl,rfl,rfl,trivial⟩ ⟨rfl,trivial⟩
end Go.Proofs.YtncocpjkaggnjaaGreatDoor
namespace Go.Proofs.YtncocpjkaggnjaaGreatDoor
open Go.Px Go.Ax
set_option maxRecDepth 100000
set_option maxRecDepth 100000
theorem vc_op (x:List Int) (n:Int) (Q:QT) (R:RT):sy tt G0 [] Tryz.f74.ntmps Tryz.f74.results.toList Q (fun it S=>R it (keepS [2,4,5,6] [2,4,5] S)) 1000 [.code (bodyOf Tryz.f74)] (entry [.arr 4 uB,iI] (x,n,())) =
  ((0:Int)≤(0:Int) ∧
 (0:Int)<(↑(4:Nat):Int) ∧
 0<(4:Nat) ∧
 (4:Int)≠(0:Int) ∧
 (0:Int)≤(2:Int) ∧
 (2:Int)<(↑(4:Nat):Int) ∧
 2<(4:Nat) ∧
 (5:Int)≠(0:Int) ∧
 bc (decide (IntKind.i64.wrap ((1:Int)+(IntKind.i64.wrap (gtB x (0))).tmod (4:Int))≤(2:Int))) (bc (decide (n=(0:Int))) (R (hd Tryz.f74 0) { env:=[(2,.ptr 2 0),(4,.ptr 4 0),(5,.ptr 5 0),(6,.int .i64 0)],blk:=[(2,.var [.arr (4:Nat) uB x]),(4,.var [.int .i64 0,.int .i64 0,.int .i64 0,.int .u8 0,.nils]),(5,.var [.int .i64 4,.int .i64 0,.int .i64 (IntKind.i64.wrap ((1:Int)+(IntKind.i64.wrap (gtB x (2))).tmod (5:Int))),.int .u8 0,.nils])] }) ((0:Int)≤(1:Int) ∧
 (1:Int)<(↑(4:Nat):Int) ∧
 1<(4:Nat) ∧
 n≠(0:Int) ∧
 (0:Int)≤(2:Int) ∧
 (2:Int)<(↑(4:Nat):Int) ∧
 2<(4:Nat) ∧
 IntKind.i64.wrap (n-(IntKind.i64.wrap (gtB x (1))).tmod n)≠(0:Int) ∧
 (5:Int)≠(0:Int) ∧
 bc (decide (IntKind.i64.wrap ((1:Int)+(IntKind.i64.wrap (gtB x (0))).tmod (4:Int))=(3:Int))) ((0:Int)≤(3:Int) ∧
 (3:Int)<(↑(4:Nat):Int) ∧
 3<(4:Nat) ∧
 R (hd Tryz.f74 0) { env:=[(2,.ptr 2 0),(4,.ptr 4 0),(5,.ptr 5 0),(6,.int .i64 0)],blk:=[(2,.var [.arr (4:Nat) uB x]),(4,.var [.int .i64 0,.int .i64 0,.int .i64 0,.int .u8 0,.nils]),(5,.var [.int .i64 (IntKind.i64.wrap ((1:Int)+(IntKind.i64.wrap (gtB x (0))).tmod (4:Int))),.int .i64 ((IntKind.i64.wrap (gtB x (1))).tmod n),.int .i64 (IntKind.i64.wrap ((1:Int)+((IntKind.i64.wrap (gtB x (2))).tmod (IntKind.i64.wrap (n-(IntKind.i64.wrap (gtB x (1))).tmod n))).tmod (5:Int))),.int .u8 (gtB x (3)),.nils])] }) (R (hd Tryz.f74 0) { env:=[(2,.ptr 2 0),(4,.ptr 4 0),(5,.ptr 5 0),(6,.int .i64 0)],blk:=[(2,.var [.arr (4:Nat) uB x]),(4,.var [.int .i64 0,.int .i64 0,.int .i64 0,.int .u8 0,.nils]),(5,.var [.int .i64 (IntKind.i64.wrap ((1:Int)+(IntKind.i64.wrap (gtB x (0))).tmod (4:Int))),.int .i64 ((IntKind.i64.wrap (gtB x (1))).tmod n),.int .i64 (IntKind.i64.wrap ((1:Int)+((IntKind.i64.wrap (gtB x (2))).tmod (IntKind.i64.wrap (n-(IntKind.i64.wrap (gtB x (1))).tmod n))).tmod (5:Int))),.int .u8 0,.nils])] }))) (bc (decide (IntKind.i64.wrap ((1:Int)+(IntKind.i64.wrap (gtB x (0))).tmod (4:Int))=(3:Int))) ((0:Int)≤(3:Int) ∧
 (3:Int)<(↑(4:Nat):Int) ∧
 3<(4:Nat) ∧
 R (hd Tryz.f74 0) { env:=[(2,.ptr 2 0),(4,.ptr 4 0),(5,.ptr 5 0),(6,.int .i64 0)],blk:=[(2,.var [.arr (4:Nat) uB x]),(4,.var [.int .i64 0,.int .i64 0,.int .i64 0,.int .u8 0,.nils]),(5,.var [.int .i64 (IntKind.i64.wrap ((1:Int)+(IntKind.i64.wrap (gtB x (0))).tmod (4:Int))),.int .i64 0,.int .i64 (IntKind.i64.wrap ((1:Int)+(IntKind.i64.wrap (gtB x (2))).tmod (5:Int))),.int .u8 (gtB x (3)),.nils])] }) (R (hd Tryz.f74 0) { env:=[(2,.ptr 2 0),(4,.ptr 4 0),(5,.ptr 5 0),(6,.int .i64 0)],blk:=[(2,.var [.arr (4:Nat) uB x]),(4,.var [.int .i64 0,.int .i64 0,.int .i64 0,.int .u8 0,.nils]),(5,.var [.int .i64 (IntKind.i64.wrap ((1:Int)+(IntKind.i64.wrap (gtB x (0))).tmod (4:Int))),.int .i64 0,.int .i64 (IntKind.i64.wrap ((1:Int)+(IntKind.i64.wrap (gtB x (2))).tmod (5:Int))),.int .u8 0,.nils])] }))):=by kernel_rfl
def mem_opA_m0 (x:List Int) (k a n b:Int):List (Nat × LB):=[(2,.var [.arr (4:Nat) uB x]),(4,.var [.int .i64 k,.int .i64 a,.int .i64 n,.int .u8 b,.nils]),(5,.var [.int .i64 k,.int .i64 a,.int .i64 n,.int .u8 b,.nils])]
theorem vc_opA (x:List Int) (k a n b:Int) (i:Nat) (Q:QT) (R:RT):sy tt G0 [] Tryz.f74.ntmps Tryz.f74.results.toList Q (fun it S=>R it (keepS [2,4,5,6] [2,4,5,76] S)) 1000 (hd Tryz.f74 0) ⟨[(2,.ptr 2 0),(4,.ptr 4 0),(5,.ptr 5 0),(6,.int .i64 (i:Nat))],[(2,.var [.arr 4 uB x]),(4,.var [.int .i64 0,.int .i64 0,.int .i64 0,.int .u8 0,.nils]),(5,.var [.int .i64 k,.int .i64 a,.int .i64 n,.int .u8 b,.nils])]⟩ =
  (bc (decide ((i:Int)<n)) (bc (decide (k=(2:Int))) (true=true ∧
 (0:Int)≤(3:Int) ∧
 (3:Int)<(↑(4:Nat):Int) ∧
 3<(4:Nat) ∧
 (0:Int)≤(0:Int) ∧
 (0:Int)<(↑(4:Nat):Int) ∧
 0<(4:Nat) ∧
 (4:Int)≠(0:Int) ∧
 (0:Nat)+(1:Nat)≤([(IntKind.u8.wrap (gtB x (3)*IntKind.u8.wrap (IntKind.i64.wrap ((i:Int)+IntKind.i64.wrap ((IntKind.i64.wrap (gtB x (0))).tdiv (4:Int))))))]:List uB.D).length ∧
 (([(IntKind.u8.wrap (gtB x (3)*IntKind.u8.wrap (IntKind.i64.wrap ((i:Int)+IntKind.i64.wrap ((IntKind.i64.wrap (gtB x (0))).tdiv (4:Int))))))]:List uB.D)).length<(2:Nat) ^ (30:Nat) ∧
 (1:Nat)≤(2:Nat) ^ (10:Nat) ∧
 R (hd Tryz.f74 0) { env:=[(2,.ptr 2 0),(4,.ptr 4 0),(5,.ptr 5 0),(6,.int .i64 (IntKind.i64.wrap ((i:Int)+(1:Int))))],blk:=[(2,.var [.arr (4:Nat) uB x]),(4,.var [.int .i64 0,.int .i64 0,.int .i64 0,.int .u8 0,.nils]),(5,.var [.int .i64 k,.int .i64 a,.int .i64 n,.int .u8 b,.win true uB 76 0 (1:Nat)]),(76,.row 5 uB (([(IntKind.u8.wrap (gtB x (3)*IntKind.u8.wrap (IntKind.i64.wrap ((i:Int)+IntKind.i64.wrap ((IntKind.i64.wrap (gtB x (0))).tdiv (4:Int))))))]:List uB.D)))] }) (bc (decide (k=(4:Int))) ((0:Int)≤(3:Int) ∧
 (3:Int)<(↑(4:Nat):Int) ∧
 3<(4:Nat) ∧
 (0:Int)≤(0:Int) ∧
 (0:Int)<(↑(4:Nat):Int) ∧
 0<(4:Nat) ∧
 (4:Int)≠(0:Int) ∧
 (0:Nat)+(1:Nat)≤([(IntKind.u8.wrap (gtB x (3)*IntKind.u8.wrap (IntKind.i64.wrap ((i:Int)+IntKind.i64.wrap ((IntKind.i64.wrap (gtB x (0))).tdiv (4:Int))))))]:List uB.D).length ∧
 (([(IntKind.u8.wrap (gtB x (3)*IntKind.u8.wrap (IntKind.i64.wrap ((i:Int)+IntKind.i64.wrap ((IntKind.i64.wrap (gtB x (0))).tdiv (4:Int))))))]:List uB.D)).length<(2:Nat) ^ (30:Nat) ∧
 (1:Nat)≤(2:Nat) ^ (10:Nat) ∧
 R (hd Tryz.f74 0) { env:=[(2,.ptr 2 0),(4,.ptr 4 0),(5,.ptr 5 0),(6,.int .i64 (IntKind.i64.wrap ((i:Int)+(1:Int))))],blk:=[(2,.var [.arr (4:Nat) uB x]),(4,.var [.int .i64 0,.int .i64 0,.int .i64 0,.int .u8 0,.nils]),(5,.var [.int .i64 k,.int .i64 a,.int .i64 n,.int .u8 b,.win true uB 76 0 (1:Nat)]),(76,.row 5 uB (([(IntKind.u8.wrap (gtB x (3)*IntKind.u8.wrap (IntKind.i64.wrap ((i:Int)+IntKind.i64.wrap ((IntKind.i64.wrap (gtB x (0))).tdiv (4:Int))))))]:List uB.D)))] }) (Q [.agg [.int .i64 k,.int .i64 a,.int .i64 n,.int .u8 b,.nils]] (mem_opA_m0 x k a n b)))) (false=false ∧
 Q [.agg [.int .i64 k,.int .i64 a,.int .i64 n,.int .u8 b,.nils]] (mem_opA_m0 x k a n b))):=by kernel_rfl
def mem_opB_m0 (x d:List Int) (k a n b:Int):List (Nat × LB):=[(2,.var [.arr (4:Nat) uB x]),(4,.var [.int .i64 k,.int .i64 a,.int .i64 n,.int .u8 b,.win true uB 76 0 d.length]),(5,.var [.int .i64 k,.int .i64 a,.int .i64 n,.int .u8 b,.win true uB 76 0 d.length]),(76,.row 5 uB d)]
theorem vc_opB (x d:List Int) (k a n b:Int) (i:Nat) (Q:QT) (R:RT):sy tt G0 [] Tryz.f74.ntmps Tryz.f74.results.toList Q (fun it S=>R it (keepS [2,4,5,6] [2,4,5,76] S)) 1000 (hd Tryz.f74 0) ⟨[(2,.ptr 2 0),(4,.ptr 4 0),(5,.ptr 5 0),(6,.int .i64 (i:Nat))],[(2,.var [.arr 4 uB x]),(4,.var [.int .i64 0,.int .i64 0,.int .i64 0,.int .u8 0,.nils]),(5,.var [.int .i64 k,.int .i64 a,.int .i64 n,.int .u8 b,.win true uB 76 0 d.length]),(76,.row 5 uB d)]⟩ =
  (bc (decide ((i:Int)<n)) (bc (decide (k=(2:Int))) (true=true ∧
 (0:Int)≤(3:Int) ∧
 (3:Int)<(↑(4:Nat):Int) ∧
 3<(4:Nat) ∧
 (0:Int)≤(0:Int) ∧
 (0:Int)<(↑(4:Nat):Int) ∧
 0<(4:Nat) ∧
 (4:Int)≠(0:Int) ∧
 (0:Nat)+(1:Nat)≤([(IntKind.u8.wrap (gtB x (3)*IntKind.u8.wrap (IntKind.i64.wrap ((i:Int)+IntKind.i64.wrap ((IntKind.i64.wrap (gtB x (0))).tdiv (4:Int))))))]:List uB.D).length ∧
 d.length=d.length ∧
 (0:Nat)=(0:Nat) ∧
 d.length+(([(IntKind.u8.wrap (gtB x (3)*IntKind.u8.wrap (IntKind.i64.wrap ((i:Int)+IntKind.i64.wrap ((IntKind.i64.wrap (gtB x (0))).tdiv (4:Int))))))]:List uB.D)).length<(2:Nat) ^ (30:Nat) ∧
 (1:Nat)≤(2:Nat) ^ (10:Nat) ∧
 R (hd Tryz.f74 0) { env:=[(2,.ptr 2 0),(4,.ptr 4 0),(5,.ptr 5 0),(6,.int .i64 (IntKind.i64.wrap ((i:Int)+(1:Int))))],blk:=[(2,.var [.arr (4:Nat) uB x]),(4,.var [.int .i64 0,.int .i64 0,.int .i64 0,.int .u8 0,.nils]),(5,.var [.int .i64 k,.int .i64 a,.int .i64 n,.int .u8 b,.win true uB 76 0 (d.length+(([(IntKind.u8.wrap (gtB x (3)*IntKind.u8.wrap (IntKind.i64.wrap ((i:Int)+IntKind.i64.wrap ((IntKind.i64.wrap (gtB x (0))).tdiv (4:Int))))))]:List uB.D)).length)]),(76,.row 5 uB (d++([(IntKind.u8.wrap (gtB x (3)*IntKind.u8.wrap (IntKind.i64.wrap ((i:Int)+IntKind.i64.wrap ((IntKind.i64.wrap (gtB x (0))).tdiv (4:Int))))))]:List uB.D)))] }) (bc (decide (k=(4:Int))) ((0:Int)≤(3:Int) ∧
 (3:Int)<(↑(4:Nat):Int) ∧
 3<(4:Nat) ∧
 (0:Int)≤(0:Int) ∧
 (0:Int)<(↑(4:Nat):Int) ∧
 0<(4:Nat) ∧
 (4:Int)≠(0:Int) ∧
 (0:Nat)+(1:Nat)≤([(IntKind.u8.wrap (gtB x (3)*IntKind.u8.wrap (IntKind.i64.wrap ((i:Int)+IntKind.i64.wrap ((IntKind.i64.wrap (gtB x (0))).tdiv (4:Int))))))]:List uB.D).length ∧
 d.length=d.length ∧
 (0:Nat)=(0:Nat) ∧
 d.length+(([(IntKind.u8.wrap (gtB x (3)*IntKind.u8.wrap (IntKind.i64.wrap ((i:Int)+IntKind.i64.wrap ((IntKind.i64.wrap (gtB x (0))).tdiv (4:Int))))))]:List uB.D)).length<(2:Nat) ^ (30:Nat) ∧
 (1:Nat)≤(2:Nat) ^ (10:Nat) ∧
 R (hd Tryz.f74 0) { env:=[(2,.ptr 2 0),(4,.ptr 4 0),(5,.ptr 5 0),(6,.int .i64 (IntKind.i64.wrap ((i:Int)+(1:Int))))],blk:=[(2,.var [.arr (4:Nat) uB x]),(4,.var [.int .i64 0,.int .i64 0,.int .i64 0,.int .u8 0,.nils]),(5,.var [.int .i64 k,.int .i64 a,.int .i64 n,.int .u8 b,.win true uB 76 0 (d.length+(([(IntKind.u8.wrap (gtB x (3)*IntKind.u8.wrap (IntKind.i64.wrap ((i:Int)+IntKind.i64.wrap ((IntKind.i64.wrap (gtB x (0))).tdiv (4:Int))))))]:List uB.D)).length)]),(76,.row 5 uB (d++([(IntKind.u8.wrap (gtB x (3)*IntKind.u8.wrap (IntKind.i64.wrap ((i:Int)+IntKind.i64.wrap ((IntKind.i64.wrap (gtB x (0))).tdiv (4:Int))))))]:List uB.D)))] }) (Q [.agg [.int .i64 k,.int .i64 a,.int .i64 n,.int .u8 b,.win true uB 76 0 d.length]] (mem_opB_m0 x d k a n b)))) (false=false ∧
 Q [.agg [.int .i64 k,.int .i64 a,.int .i64 n,.int .u8 b,.win true uB 76 0 d.length]] (mem_opB_m0 x d k a n b))):=by kernel_rfl
def mem_opE_m0 (x d:List Int) (k a n b:Int):List (Nat × LB):=[(2,.var [.arr (4:Nat) uB x]),(4,.var [.int .i64 k,.int .i64 a,.int .i64 n,.int .u8 b,.sl uB d]),(5,.var [.int .i64 k,.int .i64 a,.int .i64 n,.int .u8 b,.sl uB d])]
theorem vc_opE (x d:List Int) (k a n b:Int) (i:Nat) (Q:QT) (R:RT):sy tt G0 [] Tryz.f74.ntmps Tryz.f74.results.toList Q (fun it S=>R it (keepS [2,4,5,6] [2,4,5,76] S)) 1000 (hd Tryz.f74 0) ⟨[(2,.ptr 2 0),(4,.ptr 4 0),(5,.ptr 5 0),(6,.int .i64 (i:Nat))],[(2,.var [.arr 4 uB x]),(4,.var [.int .i64 0,.int .i64 0,.int .i64 0,.int .u8 0,.nils]),(5,.var [.int .i64 k,.int .i64 a,.int .i64 n,.int .u8 b,.sl uB d])]⟩ =
  (bc (decide ((i:Int)<n)) (bc (decide (k=(2:Int))) (true=true ∧
 (0:Int)≤(3:Int) ∧
 (3:Int)<(↑(4:Nat):Int) ∧
 3<(4:Nat) ∧
 (0:Int)≤(0:Int) ∧
 (0:Int)<(↑(4:Nat):Int) ∧
 0<(4:Nat) ∧
 (4:Int)≠(0:Int) ∧
 False) (bc (decide (k=(4:Int))) ((0:Int)≤(3:Int) ∧
 (3:Int)<(↑(4:Nat):Int) ∧
 3<(4:Nat) ∧
 (0:Int)≤(0:Int) ∧
 (0:Int)<(↑(4:Nat):Int) ∧
 0<(4:Nat) ∧
 (4:Int)≠(0:Int) ∧
 False) (Q [.agg [.int .i64 k,.int .i64 a,.int .i64 n,.int .u8 b,.sl uB d]] (mem_opE_m0 x d k a n b)))) (false=false ∧
 Q [.agg [.int .i64 k,.int .i64 a,.int .i64 n,.int .u8 b,.sl uB d]] (mem_opE_m0 x d k a n b))):=by kernel_rfl
end Go.Proofs.YtncocpjkaggnjaaGreatDoor
namespace Go.Proofs.YtncocpjkaggnjaaGreatDoor
open Go.Px Go.Ax
set_option maxRecDepth 100000
attribute [local irreducible] Go.Px.sy Go.Px.syE
def elA (x:List Int) (i:Nat):Int:=IntKind.u8.wrap (gtB x 3*IntKind.u8.wrap (IntKind.i64.wrap ((i:Int)+IntKind.i64.wrap ((IntKind.i64.wrap (gtB x 0)).tdiv 4))))
def datA (x:List Int) (n:Nat):List Int:=(List.range n).map (elA x)
theorem datA_len (x:List Int) (n:Nat):(datA x n).length=n:=by simp[datA]
theorem datA_succ (x:List Int) (i:Nat):datA x (i+1)=datA x i++[elA x i]:=by simp[datA,List.range_succ]
def datO (x:List Int) (k n:Int):List Int:=if k=2∨k=4 then datA x n.toNat else []
def opV (x:List Int) (n:Int):OpT:=
 if 1+(gtB x 0).tmod 4≤2 then
  if n=0 then (4,0,1+(gtB x 2).tmod 5,0,datO x 4 (1+(gtB x 2).tmod 5))
  else (1+(gtB x 0).tmod 4,(gtB x 1).tmod n,1+((gtB x 2).tmod (n-(gtB x 1).tmod n)).tmod 5,0,datO x (1+(gtB x 0).tmod 4) (1+((gtB x 2).tmod (n-(gtB x 1).tmod n)).tmod 5))
 else (1+(gtB x 0).tmod 4,0,1+(gtB x 2).tmod 5,if 1+(gtB x 0).tmod 4=3 then gtB x 3 else 0,datO x (1+(gtB x 0).tmod 4) (1+(gtB x 2).tmod 5))
def preB4 (x:List Int):Prop:=∀ j,0≤gtB x j∧gtB x j<256
def preN (n:Int):Prop:=0≤n∧n<16777216
def ctOp:Ctr:=⟨[.arr 4 uB,iI],fun x=>preB4 x.1∧preN x.2.1,fun x=>mdV (opV x.1 x.2.1),fun _=>[]⟩
abbrev OpQ (o:OpT):List SV→List (Nat × LB)→Prop:=fun rs _=>MtL (fun _=>none) (mdV o) rs
theorem opB_loop (x:List Int) (k a b:Int) (n:Nat) (hn:n<16777216) (hk:k=2∨k=4):∀ (m i:Nat),n-i=m→i≤n →
  GD 74 Tryz.f74 (OpQ (k,a,n,b,datA x n)) (hd Tryz.f74 0) ⟨[(2,.ptr 2 0),(4,.ptr 4 0),(5,.ptr 5 0),(6,.int .i64 (i:Nat))],[(2,.var [.arr 4 uB x]),(4,.var [.int .i64 0,.int .i64 0,.int .i64 0,.int .u8 0,.nils]),(5,.var [.int .i64 k,.int .i64 a,.int .i64 (n:Nat),.int .u8 b,.win true uB 76 0 (datA x i).length]),(76,.row 5 uB (datA x i))]⟩:=by
 intro m
 induction m with
 | zero=>
  intro i hm hi
  have hi:i=n:=by omega
  subst hi
  refine Good.frz (i:=76) (e:=uB) (et:=5) (xs:=datA x i) rfl (fun c hc=>?_) ?_
  ·have hc:c∈[0+(datA x i).length≤(datA x i).length]:=hc
   rw[List.mem_singleton] at hc;subst hc;omega
  ·have e:GD 74 Tryz.f74 (OpQ (k,a,i,b,datA x i)) (hd Tryz.f74 0) ⟨[(2,.ptr 2 0),(4,.ptr 4 0),(5,.ptr 5 0),(6,.int .i64 (i:Nat))],[(2,.var [.arr 4 uB x]),(4,.var [.int .i64 0,.int .i64 0,.int .i64 0,.int .u8 0,.nils]),(5,.var [.int .i64 k,.int .i64 a,.int .i64 (i:Nat),.int .u8 b,.sl uB (winL uB 0 (datA x i).length (datA x i))])]⟩:=by
    refine sy_goK cx0 (vc_opE x (winL uB 0 (datA x i).length (datA x i)) k a i b i _ _) ?_
    rw[decide_eq_false (by omega),bc_f,winA]
    exact ⟨rfl,_,_,rfl,⟨_,rfl,_,_,rfl,rfl,_,_,rfl,rfl,_,_,rfl,rfl,_,_,rfl,rfl,_,_,rfl,.inl rfl,rfl⟩,rfl⟩
   exact e.only ⟨rfl,rfl,rfl,rfl,trivial⟩ ⟨rfl,rfl,rfl,trivial⟩
 | succ m ih=>
  intro i hm hi
  have nx:=ih (i+1) (by omega) (by omega)
  have hl:=datA_len x i
  have hl2:=datA_len x (i+1)
  rw[datA_succ] at nx hl2
  refine sy_goK cx0 (vc_opB x (datA x i) k a n b i _ _) ?_
  rw[decide_eq_true (show (i:Int)<(n:Int) by omega),bc_t,IntWalk.i64_in ((i:Int)+1) (by omega)]
  have tl:GD 74 Tryz.f74 (OpQ (k,a,n,b,datA x n)) (hd Tryz.f74 0) ⟨[(2,.ptr 2 0),(4,.ptr 4 0),(5,.ptr 5 0),(6,.int .i64 ((i:Int)+1))],[(2,.var [.arr 4 uB x]),(4,.var [.int .i64 0,.int .i64 0,.int .i64 0,.int .u8 0,.nils]),(5,.var [.int .i64 k,.int .i64 a,.int .i64 (n:Nat),.int .u8 b,.win true uB 76 0 ((datA x i).length+1)]),(76,.row 5 uB (datA x i++[elA x i]))]⟩:=
   nx.only ⟨rfl,rfl,rfl,rfl,trivial⟩ ⟨rfl,rfl,by rw[List.length_append];rfl,rfl,trivial⟩
  have h30:(datA x i).length+1<2 ^ 30:=by omega
  rcases hk with rfl | rfl
  ·rw[decide_eq_true rfl,bc_t]
   exact ⟨rfl,by decide,by decide,by decide,by decide,by decide,by decide,by decide,Nat.le_refl 1,rfl,rfl,h30,by decide,tl⟩
  ·rw[decide_eq_false (by decide),bc_f,decide_eq_true rfl,bc_t]
   exact ⟨by decide,by decide,by decide,by decide,by decide,by decide,by decide,Nat.le_refl 1,rfl,rfl,h30,by decide,tl⟩
theorem opA_loop (x:List Int) (k a b:Int) (n:Nat) (hn:n<16777216) (h0:0<n) :
  GD 74 Tryz.f74 (OpQ (k,a,n,b,datO x k n)) (hd Tryz.f74 0) ⟨[(2,.ptr 2 0),(4,.ptr 4 0),(5,.ptr 5 0),(6,.int .i64 0)],[(2,.var [.arr 4 uB x]),(4,.var [.int .i64 0,.int .i64 0,.int .i64 0,.int .u8 0,.nils]),(5,.var [.int .i64 k,.int .i64 a,.int .i64 (n:Nat),.int .u8 b,.nils])]⟩:=by
 refine sy_goK cx0 (vc_opA x k a n b 0 _ _) ?_
 rw[decide_eq_true (show ((0:Nat):Int)<(n:Int) by omega),bc_t,IntWalk.i64_in (((0:Nat):Int)+1) (by omega)]
 have tl:(k=2∨k=4)→GD 74 Tryz.f74 (OpQ (k,a,n,b,datO x k n)) (hd Tryz.f74 0) ⟨[(2,.ptr 2 0),(4,.ptr 4 0),(5,.ptr 5 0),(6,.int .i64 (((0:Nat):Int)+1))],[(2,.var [.arr 4 uB x]),(4,.var [.int .i64 0,.int .i64 0,.int .i64 0,.int .u8 0,.nils]),(5,.var [.int .i64 k,.int .i64 a,.int .i64 (n:Nat),.int .u8 b,.win true uB 76 0 1]),(76,.row 5 uB [elA x 0])]⟩:=fun hk=>by
  have:=opB_loop x k a b n hn hk _ 1 rfl (by omega)
  have e:datO x k n=datA x n:=by unfold datO;rw[if_pos hk,Int.toNat_natCast]
  rw[e]
  exact this
 refine bc_of (fun h=>?_) (fun h=>bc_of (fun h2=>?_) (fun h2=>?_))
 ·have h:k=2:=of_decide_eq_true h
  exact ⟨rfl,by decide,by decide,by decide,by decide,by decide,by decide,by decide,Nat.le_refl 1,(show 1<2 ^ 30 by decide),by decide,tl (.inl h)⟩
 ·have h2:k=4:=of_decide_eq_true h2
  exact ⟨by decide,by decide,by decide,by decide,by decide,by decide,by decide,Nat.le_refl 1,(show 1<2 ^ 30 by decide),by decide,tl (.inr h2)⟩
 ·have h:¬ k=2:=of_decide_eq_false h
  have h2:¬ k=4:=of_decide_eq_false h2
  have e:datO x k n=[]:=if_neg (by omega)
  rw[e]
  exact ⟨_,_,rfl,⟨_,rfl,_,_,rfl,rfl,_,_,rfl,rfl,_,_,rfl,rfl,_,_,rfl,rfl,_,_,rfl,.inr ⟨rfl,rfl⟩,rfl⟩,rfl⟩
theorem tm_pos {a b:Int} (h:0≤a) (hb:0<b):0≤a.tmod b∧a.tmod b<b:=⟨Int.tmod_nonneg _ h,Int.tmod_lt_of_pos _ hb⟩
theorem op_run (x:List Int) (n:Int) (hx:preB4 x) (hn0:0≤n) (hn1:n<16777216):GD 74 Tryz.f74 (QC ctOp (x,n,())) [.code (bodyOf Tryz.f74)] (entry [.arr 4 uB,iI] (x,n,())):=by
 have wx:∀ j,IntKind.i64.wrap (gtB x j)=gtB x j:=fun j=>IntWalk.i64_in _ (by have:=hx j;omega)
 have m0:=tm_pos (hx 0).1 (b:=4) (by decide)
 have m2:=tm_pos (hx 2).1 (b:=5) (by decide)
 have w0:IntKind.i64.wrap (1+(gtB x 0).tmod 4)=1+(gtB x 0).tmod 4:=IntWalk.i64_in _ (by omega)
 have w2:IntKind.i64.wrap (1+(gtB x 2).tmod 5)=1+(gtB x 2).tmod 5:=IntWalk.i64_in _ (by omega)
 have go:∀ (k a len b:Int),0<len→len<16777216→opV x n=(k,a,len,b,datO x k len)→GD 74 Tryz.f74 (QC ctOp (x,n,())) (hd Tryz.f74 0) ⟨[(2,.ptr 2 0),(4,.ptr 4 0),(5,.ptr 5 0),(6,.int .i64 0)],[(2,.var [.arr 4 uB x]),(4,.var [.int .i64 0,.int .i64 0,.int .i64 0,.int .u8 0,.nils]),(5,.var [.int .i64 k,.int .i64 a,.int .i64 len,.int .u8 b,.nils])]⟩:=fun k a len b h1 h2 h3=>by
  obtain ⟨N,rfl⟩:=Int.eq_ofNat_of_zero_le (Int.le_of_lt h1)
  refine (opA_loop x k a b N (by omega) (by omega)).post fun rs blk hq=>QC.mt ?_ rfl
  show MtL _ (mdV (opV x n)) _
  rw[h3];exact hq
 refine sy_goK cx0 (vc_op x n _ _) ?_
 simp only[wx,w0,w2]
 refine ⟨by decide,by decide,by decide,by decide,by decide,by decide,by decide,by decide,bc_of (fun h=>?_) (fun h=>?_)⟩
 ·have h:1+(gtB x 0).tmod 4≤2:=of_decide_eq_true h
  refine bc_of (fun h2=>?_) (fun h2=>?_)
  ·have h2:n=0:=of_decide_eq_true h2
   exact go _ _ _ _ (by omega) (by omega) (by unfold opV;rw[if_pos h,if_pos h2])
  ·have h2:¬ n=0:=of_decide_eq_false h2
   have m1:=tm_pos (hx 1).1 (b:=n) (by omega)
   have w1:IntKind.i64.wrap (n-(gtB x 1).tmod n)=n-(gtB x 1).tmod n:=IntWalk.i64_in _ (by omega)
   have m3:=tm_pos (hx 2).1 (b:=n-(gtB x 1).tmod n) (by omega)
   have m4:=tm_pos m3.1 (b:=5) (by decide)
   have w3:IntKind.i64.wrap (1+((gtB x 2).tmod (n-(gtB x 1).tmod n)).tmod 5)=1+((gtB x 2).tmod (n-(gtB x 1).tmod n)).tmod 5:=IntWalk.i64_in _ (by omega)
   rw[w1,w3]
   refine ⟨by decide,by decide,by decide,h2,by decide,by decide,by decide,by omega,by decide,bc_of (fun h3=>?_) (fun h3=>?_)⟩
   ·have h3:1+(gtB x 0).tmod 4=3:=of_decide_eq_true h3
    omega
   ·exact go _ _ _ _ (by omega) (by omega) (by unfold opV;rw[if_pos h,if_neg h2])
 ·have h:¬ 1+(gtB x 0).tmod 4≤2:=of_decide_eq_false h
  refine bc_of (fun h3=>?_) (fun h3=>?_)
  ·have h3:1+(gtB x 0).tmod 4=3:=of_decide_eq_true h3
   exact ⟨by decide,by decide,by decide,go _ _ _ _ (by omega) (by omega) (by unfold opV;rw[if_neg h,if_pos h3])⟩
  ·have h3:¬ 1+(gtB x 0).tmod 4=3:=of_decide_eq_false h3
   exact go _ _ _ _ (by omega) (by omega) (by unfold opV;rw[if_neg h,if_neg h3])
theorem op_held:Held Tryz.prog G0 74 ctOp:=
 Held.of cx0 (fn:=Tryz.f74) rfl rfl ⟨by decide,by decide⟩ fun ⟨x,n,_⟩ hp=>op_run x n hp.1 hp.2.1 hp.2.2
end Go.Proofs.YtncocpjkaggnjaaGreatDoor
namespace Go.Proofs.YtncocpjkaggnjaaGreatDoor
open Go.Px Go.Ax
set_option maxRecDepth 100000
abbrev a4S:Sh:=.arr 4 uB
abbrev raS:Sh:=.pair uB (.sl a4S)
def C54:CV:=[(74,.inl ctOp)]
theorem cx54:CxOK Tryz.prog tt G0 C54:=cx0.cons op_held (fn:=Tryz.f74) rfl rfl rfl
set_option maxRecDepth 100000
theorem vc_sized (z m:Int) (l:List (List Int)) (Q:QT) (R:RT):sy tt G0 C54 Tryz.f39.ntmps Tryz.f39.results.toList Q (fun it S=>R it (keepS [1,2,4,5,6] [2,4,5,32] S)) 1000 [.code (bodyOf Tryz.f39)] (entry [raS,iI] ((z,l),m,())) =
  (R (hd Tryz.f39 0) { env:=[(1,.int .i64 m),(2,.ptr 2 0),(4,.ptr 4 0),(5,.ptr 5 0),(6,.int .i64 0)],blk:=[(2,.var [.int .u8 z,.sl a4S l]),(4,.var [.bool false,.int .i64 0,.int .i64 0,.nils]),(5,.var [.bool false,.int .i64 m,.int .i64 0,.nils])] }):=by kernel_rfl
def mem_szA_m0 (z m o:Int) (l:List (List Int)):List (Nat × LB):=[(2,.var [.int .u8 z,.sl a4S l]),(4,.var [.bool false,.int .i64 m,.int .i64 o,.nils]),(5,.var [.bool false,.int .i64 m,.int .i64 o,.nils])]
theorem vc_szA (z m o:Int) (l:List (List Int)) (i:Nat) (Q:QT) (R:RT):sy tt G0 C54 Tryz.f39.ntmps Tryz.f39.results.toList Q (fun it S=>R it (keepS [1,2,4,5,6] [2,4,5,32] S)) 1000 (hd Tryz.f39 0) ⟨[(1,.int .i64 m),(2,.ptr 2 0),(4,.ptr 4 0),(5,.ptr 5 0),(6,.int .i64 (i:Nat))],[(2,.var [.int .u8 z,.sl a4S l]),(4,.var [.bool false,.int .i64 0,.int .i64 0,.nils]),(5,.var [.bool false,.int .i64 m,.int .i64 o,.nils])]⟩ =
  (bc (decide ((i:Int)<(l.length:Int))) (bc (decide ((i:Int)<(6:Int))) ((0:Int)≤(i:Int) ∧
 (i:Int)<(l.length:Int) ∧
 ctOp.pre (gt a4S l (i:Int).toNat,m,()) ∧
 (0:Nat)+(1:Nat)≤([(opV (gt a4S l (i:Int).toNat) m)]:List opS.D).length ∧
 (([(opV (gt a4S l (i:Int).toNat) m)]:List opS.D)).length<(2:Nat) ^ (30:Nat) ∧
 (56:Nat)≤(2:Nat) ^ (10:Nat) ∧
 R (hd Tryz.f39 0) { env:=[(1,.int .i64 m),(2,.ptr 2 0),(4,.ptr 4 0),(5,.ptr 5 0),(6,.int .i64 (IntKind.i64.wrap ((i:Int)+(1:Int))))],blk:=[(2,.var [.int .u8 z,.sl a4S l]),(4,.var [.bool false,.int .i64 0,.int .i64 0,.nils]),(5,.var [.bool false,.int .i64 m,.int .i64 (IntKind.i64.wrap (o+(opV (gt a4S l (i:Int).toNat) m).2.2.1)),.win true opS 32 0 (1:Nat)]),(32,.row 35 opS (([(opV (gt a4S l (i:Int).toNat) m)]:List opS.D)))] }) (Q [.agg [.bool false,.int .i64 m,.int .i64 o,.nils]] (mem_szA_m0 z m o l))) (false=false ∧
 Q [.agg [.bool false,.int .i64 m,.int .i64 o,.nils]] (mem_szA_m0 z m o l))):=by kernel_rfl
def mem_szB_m0 (z m o:Int) (l:List (List Int)) (d:List OpT):List (Nat × LB):=[(2,.var [.int .u8 z,.sl a4S l]),(4,.var [.bool false,.int .i64 m,.int .i64 o,.win true opS 32 0 d.length]),(5,.var [.bool false,.int .i64 m,.int .i64 o,.win true opS 32 0 d.length]),(32,.row 35 opS d)]
theorem vc_szB (z m o:Int) (l:List (List Int)) (d:List OpT) (i:Nat) (Q:QT) (R:RT):sy tt G0 C54 Tryz.f39.ntmps Tryz.f39.results.toList Q (fun it S=>R it (keepS [1,2,4,5,6] [2,4,5,32] S)) 1000 (hd Tryz.f39 0) ⟨[(1,.int .i64 m),(2,.ptr 2 0),(4,.ptr 4 0),(5,.ptr 5 0),(6,.int .i64 (i:Nat))],[(2,.var [.int .u8 z,.sl a4S l]),(4,.var [.bool false,.int .i64 0,.int .i64 0,.nils]),(5,.var [.bool false,.int .i64 m,.int .i64 o,.win true opS 32 0 d.length]),(32,.row 35 opS d)]⟩ =
  (bc (decide ((i:Int)<(l.length:Int))) (bc (decide ((i:Int)<(6:Int))) ((0:Int)≤(i:Int) ∧
 (i:Int)<(l.length:Int) ∧
 ctOp.pre (gt a4S l (i:Int).toNat,m,()) ∧
 (0:Nat)+(1:Nat)≤([(opV (gt a4S l (i:Int).toNat) m)]:List opS.D).length ∧
 d.length=d.length ∧
 (0:Nat)=(0:Nat) ∧
 d.length+(([(opV (gt a4S l (i:Int).toNat) m)]:List opS.D)).length<(2:Nat) ^ (30:Nat) ∧
 (56:Nat)≤(2:Nat) ^ (10:Nat) ∧
 R (hd Tryz.f39 0) { env:=[(1,.int .i64 m),(2,.ptr 2 0),(4,.ptr 4 0),(5,.ptr 5 0),(6,.int .i64 (IntKind.i64.wrap ((i:Int)+(1:Int))))],blk:=[(2,.var [.int .u8 z,.sl a4S l]),(4,.var [.bool false,.int .i64 0,.int .i64 0,.nils]),(5,.var [.bool false,.int .i64 m,.int .i64 (IntKind.i64.wrap (o+(opV (gt a4S l (i:Int).toNat) m).2.2.1)),.win true opS 32 0 (d.length+(([(opV (gt a4S l (i:Int).toNat) m)]:List opS.D)).length)]),(32,.row 35 opS (d++([(opV (gt a4S l (i:Int).toNat) m)]:List opS.D)))] }) (Q [.agg [.bool false,.int .i64 m,.int .i64 o,.win true opS 32 0 d.length]] (mem_szB_m0 z m o l d))) (false=false ∧
 Q [.agg [.bool false,.int .i64 m,.int .i64 o,.win true opS 32 0 d.length]] (mem_szB_m0 z m o l d))):=by kernel_rfl
def mem_szE_m0 (z m o:Int) (l:List (List Int)) (d:List OpT):List (Nat × LB):=[(2,.var [.int .u8 z,.sl a4S l]),(4,.var [.bool false,.int .i64 m,.int .i64 o,.sl opS d]),(5,.var [.bool false,.int .i64 m,.int .i64 o,.sl opS d])]
theorem vc_szE (z m o:Int) (l:List (List Int)) (d:List OpT) (i:Nat) (Q:QT) (R:RT):sy tt G0 C54 Tryz.f39.ntmps Tryz.f39.results.toList Q (fun it S=>R it (keepS [1,2,4,5,6] [2,4,5,32] S)) 1000 (hd Tryz.f39 0) ⟨[(1,.int .i64 m),(2,.ptr 2 0),(4,.ptr 4 0),(5,.ptr 5 0),(6,.int .i64 (i:Nat))],[(2,.var [.int .u8 z,.sl a4S l]),(4,.var [.bool false,.int .i64 0,.int .i64 0,.nils]),(5,.var [.bool false,.int .i64 m,.int .i64 o,.sl opS d])]⟩ =
  (bc (decide ((i:Int)<(l.length:Int))) (bc (decide ((i:Int)<(6:Int))) ((0:Int)≤(i:Int) ∧
 (i:Int)<(l.length:Int) ∧
 ctOp.pre (gt a4S l (i:Int).toNat,m,()) ∧
 False) (Q [.agg [.bool false,.int .i64 m,.int .i64 o,.sl opS d]] (mem_szE_m0 z m o l d))) (false=false ∧
 Q [.agg [.bool false,.int .i64 m,.int .i64 o,.sl opS d]] (mem_szE_m0 z m o l d))):=by kernel_rfl
end Go.Proofs.YtncocpjkaggnjaaGreatDoor
namespace Go.Proofs.YtncocpjkaggnjaaGreatDoor
open Go.Px Go.Ax
set_option maxRecDepth 100000
attribute [local irreducible] Go.Px.sy Go.Px.syE
def szL (l:List (List Int)) (m:Int) (i:Nat):List OpT:=(List.range i).map fun j=>opV (gt a4S l j) m
def szK (l:List (List Int)):Nat:=min l.length 6
def szO (l:List (List Int)) (m:Int):List OpT:=szL l m (szK l)
def szV (l:List (List Int)) (m:Int):PaT:=(false,m,lenS (szO l m),szO l m)
theorem szL_len (l:List (List Int)) (m:Int) (i:Nat):(szL l m i).length=i:=by simp[szL]
theorem szL_succ (l:List (List Int)) (m:Int) (i:Nat):szL l m (i+1)=szL l m i++[opV (gt a4S l i) m]:=by simp[szL,List.range_succ]
theorem lenS_app (a b:List OpT):lenS (a++b)=lenS a+lenS b:=by simp[lenS]
theorem opV_len {x:List Int} {m:Int} (hx:preB4 x) (h0:0≤m):1≤(opV x m).2.2.1∧(opV x m).2.2.1≤5:=by
 have m2:=tm_pos (hx 2).1 (b:=5) (by decide)
 unfold opV
 split
 ·split
  ·show 1≤1+_∧1+_≤5
   omega
  ·have m1:=tm_pos (hx 1).1 (b:=m) (by omega)
   have m3:=tm_pos (hx 2).1 (b:=m-(gtB x 1).tmod m) (by omega)
   have m4:=tm_pos m3.1 (b:=5) (by decide)
   show 1≤1+_∧1+_≤5
   omega
 ·show 1≤1+_∧1+_≤5
  omega
theorem szL_sum {l:List (List Int)} {m:Int} (hl:∀ j,preB4 (gt a4S l j)) (h0:0≤m):∀ i,0≤lenS (szL l m i)∧lenS (szL l m i)≤5*i
 | 0=>by simp[szL,lenS]
 | i+1=>by
  have:=szL_sum hl h0 i
  have h:=opV_len (hl i) h0
  rw[szL_succ,lenS_app]
  have e:lenS [opV (gt a4S l i) m]=(opV (gt a4S l i) m).2.2.1:=by simp[lenS]
  rw[e]
  omega
def preL4 (l:List (List Int)):Prop:=∀ j,preB4 (gt a4S l j)
def preSz (l:List (List Int)) (m:Int):Prop:=preL4 l∧preN m∧l.length<9223372036854775808
def ctSz:Ctr:=⟨[raS,iI],fun x=>preSz x.1.2 x.2.1,fun x=>[paV (szV x.1.2 x.2.1)],fun _=>[]⟩
abbrev PaQ (p:PaT):List SV→List (Nat × LB)→Prop:=fun rs _=>MtL (fun _=>none) [paV p] rs
section
variable (z m:Int) (l:List (List Int)) (hl:preL4 l) (hm0:0≤m) (hm1:m<16777216) (hn:l.length<9223372036854775808)
abbrev szBs (i:Nat) (d:List OpT) (o:Int):PS:=⟨[(1,.int .i64 m),(2,.ptr 2 0),(4,.ptr 4 0),(5,.ptr 5 0),(6,.int .i64 (i:Nat))],[(2,.var [.int .u8 z,.sl a4S l]),(4,.var [.bool false,.int .i64 0,.int .i64 0,.nils]),(5,.var [.bool false,.int .i64 m,.int .i64 o,.win true opS 32 0 d.length]),(32,.row 35 opS d)]⟩
include hl hm0 hm1 hn
theorem szB_end (i:Nat) (hi:i=szK l):GD 39 Tryz.f39 (PaQ (szV l m)) (hd Tryz.f39 0) (szBs z m l i (szL l m i) (lenS (szL l m i))):=by
 have _:=And.intro hl (And.intro hm0 (And.intro hm1 hn))
 have hd:szL l m i=szO l m:=by rw[hi];rfl
 rw[hd]
 refine Good.frz (i:=32) (e:=opS) (et:=35) (xs:=szO l m) rfl (fun c hc=>?_) ?_
 ·have hc:c∈[0+(szO l m).length≤(szO l m).length]:=hc
  rw[List.mem_singleton] at hc;subst hc;omega
 ·have e:GD 39 Tryz.f39 (PaQ (szV l m)) (Px.hd Tryz.f39 0) ⟨[(1,.int .i64 m),(2,.ptr 2 0),(4,.ptr 4 0),(5,.ptr 5 0),(6,.int .i64 (i:Nat))],[(2,.var [.int .u8 z,.sl a4S l]),(4,.var [.bool false,.int .i64 0,.int .i64 0,.nils]),(5,.var [.bool false,.int .i64 m,.int .i64 (lenS (szO l m)),.sl opS (winL opS 0 (szO l m).length (szO l m))])]⟩:=by
   refine sy_goK cx54 (vc_szE z m (lenS (szO l m)) l (winL opS 0 (szO l m).length (szO l m)) i _ _) ?_
   rw[winA]
   have fin:PaQ (szV l m) [SV.agg [SV.bool false,SV.int IntKind.i64 m,SV.int IntKind.i64 (lenS (szO l m)),SV.sl opS (szO l m)]] []:=⟨_,_,rfl,⟨_,rfl,_,_,rfl,rfl,_,_,rfl,rfl,_,_,rfl,rfl,_,_,rfl,.inl rfl,rfl⟩,rfl⟩
   refine bc_of (fun h=>bc_of (fun h2=>?_) (fun h2=>fin)) (fun h=>⟨rfl,fin⟩)
   have h:=of_decide_eq_true h
   have h2:=of_decide_eq_true h2
   unfold szK at hi
   omega
  exact e.only ⟨rfl,rfl,rfl,rfl,rfl,trivial⟩ ⟨rfl,rfl,rfl,trivial⟩
theorem szB_loop:∀ (k i:Nat),szK l-i=k→i≤szK l→GD 39 Tryz.f39 (PaQ (szV l m)) (hd Tryz.f39 0) (szBs z m l i (szL l m i) (lenS (szL l m i))):=by
 intro k
 induction k with
 | zero=>intro i hk hi;exact szB_end z m l hl hm0 hm1 hn i (by omega)
 | succ k ih=>
  intro i hk hi
  have nx:=ih (i+1) (by omega) (by omega)
  have hs:=szL_sum hl hm0 i
  have hs2:=szL_sum hl hm0 (i+1)
  have h6:i<l.length∧i<6:=by unfold szK at hk hi;omega
  rw[szL_succ,lenS_app] at nx hs2
  have e1:lenS [opV (gt a4S l i) m]=(opV (gt a4S l i) m).2.2.1:=by simp[lenS]
  rw[e1] at nx hs2
  refine sy_goK cx54 (vc_szB z m (lenS (szL l m i)) l (szL l m i) i _ _) ?_
  rw[decide_eq_true (show (i:Int)<(l.length:Int) by omega),bc_t,decide_eq_true (show (i:Int)<(6:Int) by omega),bc_t,Int.toNat_natCast,IntWalk.i64_in ((i:Int)+1) (by omega),IntWalk.i64_in (lenS (szL l m i)+(opV (gt a4S l i) m).2.2.1) (by omega)]
  refine ⟨by omega,by omega,⟨hl i,hm0,hm1⟩,Nat.le_refl 1,rfl,rfl,?_,by decide,nx.only ⟨rfl,rfl,rfl,rfl,rfl,trivial⟩ ⟨rfl,rfl,by rw[List.length_append];rfl,rfl,trivial⟩⟩
  show (szL l m i).length+1<2 ^ 30
  rw[szL_len];omega
theorem szA_loop:GD 39 Tryz.f39 (PaQ (szV l m)) (hd Tryz.f39 0) ⟨[(1,.int .i64 m),(2,.ptr 2 0),(4,.ptr 4 0),(5,.ptr 5 0),(6,.int .i64 0)],[(2,.var [.int .u8 z,.sl a4S l]),(4,.var [.bool false,.int .i64 0,.int .i64 0,.nils]),(5,.var [.bool false,.int .i64 m,.int .i64 0,.nils])]⟩:=by
 refine sy_goK cx54 (vc_szA z m 0 l 0 _ _) ?_
 refine bc_of (fun h=>bc_of (fun h2=>?_) (fun h2=>?_)) (fun h=>⟨rfl,?_⟩)
 ·have h:=of_decide_eq_true h
  have nx:=szB_loop z m l hl hm0 hm1 hn _ 1 rfl (by unfold szK;omega)
  have hs:=opV_len (hl 0) hm0
  have e0:szL l m 1=[opV (gt a4S l 0) m]:=rfl
  have e1:lenS [opV (gt a4S l 0) m]=(opV (gt a4S l 0) m).2.2.1:=by simp[lenS]
  rw[e0,e1] at nx
  rw[Int.toNat_natCast,IntWalk.i64_in (((0:Nat):Int)+1) (by omega),IntWalk.i64_in (0+(opV (gt a4S l 0) m).2.2.1) (by omega),Int.zero_add]
  exact ⟨by omega,by omega,⟨hl 0,hm0,hm1⟩,Nat.le_refl 1,(show 1<2 ^ 30 by decide),by decide,nx.only ⟨rfl,rfl,rfl,rfl,rfl,trivial⟩ ⟨rfl,rfl,rfl,rfl,trivial⟩⟩
 ·exact absurd (of_decide_eq_false h2) (by decide)
 ·have h:=of_decide_eq_false h
  have e:szO l m=[]:=by
   have:l.length=0:=by omega
   unfold szO szK;rw[this];rfl
  show MtL _ [paV (szV l m)] _
  unfold szV
  rw[e]
  exact ⟨_,_,rfl,⟨_,rfl,_,_,rfl,rfl,_,_,rfl,rfl,_,_,rfl,rfl,_,_,rfl,.inr ⟨rfl,rfl⟩,rfl⟩,rfl⟩
end
theorem sz_held:Held Tryz.prog G0 39 ctSz:=
 Held.of cx54 (fn:=Tryz.f39) rfl rfl ⟨by decide,by decide⟩ fun ⟨⟨z,l⟩,m,_⟩ hp=>
  sy_goK cx54 (vc_sized z m l _ _) ((szA_loop z m l hp.1 hp.2.1.1 hp.2.1.2 hp.2.2).post fun rs blk hq=>QC.mt hq rfl)
end Go.Proofs.YtncocpjkaggnjaaGreatDoor
namespace Go.Proofs.YtncocpjkaggnjaaGreatDoor
open Go.Px Go.Ax
set_option maxRecDepth 100000
def C30:CV:=[(39,.inl ctSz)]
theorem cx30:CxOK Tryz.prog tt G0 C30:=cx0.cons sz_held (fn:=Tryz.f39) rfl rfl rfl
set_option maxRecDepth 100000
theorem vc_made6 (z:Int) (l:List (List Int)) (Q:QT) (R:RT):sy tt G0 C30 Tryz.f11.ntmps Tryz.f11.results.toList Q R 1000 [.code (bodyOf Tryz.f11)] (entry [raS] ((z,l),())) =
  ((13:Int)≠(0:Int) ∧
 ctSz.pre ((z,l),(IntKind.i64.wrap z).tmod (13:Int),()) ∧
 Q [.agg [.bool (szV l ((IntKind.i64.wrap z).tmod (13:Int))).1,.int .i64 (szV l ((IntKind.i64.wrap z).tmod (13:Int))).2.1,.int .i64 (szV l ((IntKind.i64.wrap z).tmod (13:Int))).2.2.1,.sl opS (szV l ((IntKind.i64.wrap z).tmod (13:Int))).2.2.2]] [(1,.var [.int .u8 z,.sl (Sh.arr (4:Nat) uB) l]),(2,.var [.bool (szV l ((IntKind.i64.wrap z).tmod (13:Int))).1,.int .i64 (szV l ((IntKind.i64.wrap z).tmod (13:Int))).2.1,.int .i64 (szV l ((IntKind.i64.wrap z).tmod (13:Int))).2.2.1,.sl opS (szV l ((IntKind.i64.wrap z).tmod (13:Int))).2.2.2])]):=by kernel_rfl
end Go.Proofs.YtncocpjkaggnjaaGreatDoor
