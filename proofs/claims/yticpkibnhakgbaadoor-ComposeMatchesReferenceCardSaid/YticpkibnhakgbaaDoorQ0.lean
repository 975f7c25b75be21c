/-
  A part of the proof: what pieces of the program give; conditions: those of each theorem.
-/
import Derived.Test.YticpkibnhakgbaaDoorHD
import Derived.Test.YticpkibnhakgbaaDoorProg
set_option linter.unusedVariables false
set_option linter.unusedSimpArgs false
namespace Go.Proofs.YticpkibnhakgbaaDoor
open Go.Px Go.Ax
abbrev QT:Type:=List SV->List (Nat × LB)->Prop
abbrev RT:Type:=List Item->PS->Prop
def tyL:List (Nat × (Nat × Nat × Bool × TK × Sh × Option IntKind)):=[
 (1,(1,8,false,.other,.unit,none)),
 (2,(1,8,false,(.int .i64),(.int .i64),none)),
 (3,(1,8,false,(.int .i64),(.int .i64),none)),
 (4,(1,1,false,.bool,.bool,none)),
 (5,(1,1,false,(.int .u8),(.int .u8),none)),
 (6,(1,1,false,(.int .u8),(.int .u8),none)),
 (7,(4,24,true,(.struct [(0,2),(1,3),(2,4),(3,6)]),(.pair (.int .i64) (.pair (.int .i64) (.pair .bool (.int .u8)))),(some .i8))),
 (8,(4,24,true,(.struct [(0,2),(1,3),(2,4),(3,6)]),(.pair (.int .i64) (.pair (.int .i64) (.pair .bool (.int .u8)))),(some .i8))),
 (9,(1,16,false,.str,.str,none)),
 (10,(1,16,false,.str,.str,none)),
 (11,(1,16,false,.str,.str,none)),
 (12,(1,8,false,(.int .u64),(.int .u64),none)),
 (13,(2,24,true,(.struct [(0,9),(1,12)]),(.pair .str (.int .u64)),none)),
 (14,(2,24,true,(.struct [(0,9),(1,12)]),(.pair .str (.int .u64)),none)),
 (21,(1,4,false,(.int .i32),(.int .i32),none)),
 (22,(1,24,false,(.slice 47),(.sl (.pair (.int .u8) (.sl (.arr 4 (.int .u8))))),none)),
 (23,(1,24,false,(.slice 25),(.sl (.arr 2 (.int .u8))),none)),
 (24,(2,48,true,(.array 2 23),(.arr 2 (.sl (.arr 2 (.int .u8)))),none)),
 (25,(2,2,true,(.array 2 5),(.arr 2 (.int .u8)),(some .u8))),
 (26,(1,8,false,.other,.unit,none)),
 (27,(1,24,false,(.slice 31),(.sl (.pair .bool (.pair (.int .i64) (.pair (.int .i64) (.sl (.pair (.int .i64) (.pair (.int .i64) (.pair (.int .i64) (.pair (.int .u8) (.sl (.int .u8))))))))))),none)),
 (28,(1,8,false,.other,.unit,none)),
 (29,(1,24,false,(.slice 69),(.sl (.pair (.int .i64) (.pair (.int .i64) (.pair (.int .i64) (.pair (.int .u8) (.sl (.int .u8))))))),none)),
 (30,(4,48,true,(.struct [(0,4),(1,3),(2,3),(3,29)]),(.pair .bool (.pair (.int .i64) (.pair (.int .i64) (.sl (.pair (.int .i64) (.pair (.int .i64) (.pair (.int .i64) (.pair (.int .u8) (.sl (.int .u8)))))))))),none)),
 (31,(4,48,true,(.struct [(0,4),(1,3),(2,3),(3,29)]),(.pair .bool (.pair (.int .i64) (.pair (.int .i64) (.sl (.pair (.int .i64) (.pair (.int .i64) (.pair (.int .i64) (.pair (.int .u8) (.sl (.int .u8)))))))))),none)),
 (32,(1,8,false,(.int .i64),(.int .i64),none)),
 (34,(1,8,false,.other,.unit,none)),
 (35,(1,8,false,.other,.unit,none)),
 (36,(1,8,false,.other,.unit,none)),
 (37,(1,24,false,(.slice 66),(.sl (.pair .bool (.pair (.int .i64) (.int .u8)))),none)),
 (38,(1,8,false,.other,.unit,none)),
 (40,(1,8,false,.other,.unit,none)),
 (41,(1,8,false,.other,.unit,none)),
 (42,(1,8,false,.other,.unit,none)),
 (43,(1,8,false,.other,.unit,none)),
 (44,(1,8,false,.other,.unit,none)),
 (45,(1,24,false,(.slice 75),(.sl (.arr 4 (.int .u8))),none)),
 (46,(2,32,true,(.struct [(0,5),(1,45)]),(.pair (.int .u8) (.sl (.arr 4 (.int .u8)))),none)),
 (47,(2,32,true,(.struct [(0,5),(1,45)]),(.pair (.int .u8) (.sl (.arr 4 (.int .u8)))),none)),
 (48,(1,8,false,.other,.unit,none)),
 (49,(1,8,false,.other,.unit,none)),
 (50,(1,8,false,.other,.unit,none)),
 (51,(1,8,false,.other,.unit,none)),
 (52,(1,8,false,.other,.unit,none)),
 (53,(1,8,false,.other,.unit,none)),
 (54,(1,8,false,.other,.unit,none)),
 (55,(1,8,false,.other,.unit,none)),
 (56,(1,24,false,(.slice 5),(.sl (.int .u8)),none)),
 (57,(1,8,false,.other,.unit,none)),
 (59,(1,8,false,.other,.unit,none)),
 (60,(1,8,false,.other,.unit,none)),
 (61,(1,8,false,.other,.unit,none)),
 (62,(4,64,true,(.array 2 47),(.arr 2 (.pair (.int .u8) (.sl (.arr 4 (.int .u8))))),none)),
 (63,(3,3,true,(.array 3 4),(.arr 3 .bool),none)),
 (64,(1,1,false,(.int .i8),(.int .i8),none)),
 (65,(3,24,true,(.struct [(0,4),(1,3),(2,5)]),(.pair .bool (.pair (.int .i64) (.int .u8))),(some .i8))),
 (66,(3,24,true,(.struct [(0,4),(1,3),(2,5)]),(.pair .bool (.pair (.int .i64) (.int .u8))),(some .i8))),
 (67,(1,8,false,.other,.unit,none)),
 (68,(5,56,true,(.struct [(0,3),(1,3),(2,3),(3,5),(4,56)]),(.pair (.int .i64) (.pair (.int .i64) (.pair (.int .i64) (.pair (.int .u8) (.sl (.int .u8)))))),none)),
 (69,(5,56,true,(.struct [(0,3),(1,3),(2,3),(3,5),(4,56)]),(.pair (.int .i64) (.pair (.int .i64) (.pair (.int .i64) (.pair (.int .u8) (.sl (.int .u8)))))),none)),
 (70,(1,8,false,.other,.unit,none)),
 (71,(1,8,false,.other,.unit,none)),
 (72,(1,8,false,.other,.unit,none)),
 (73,(1,8,false,.other,.unit,none)),
 (74,(1,8,false,.other,.unit,none)),
 (75,(4,4,true,(.array 4 5),(.arr 4 (.int .u8)),(some .u8))),
 (77,(1,8,false,.other,.unit,none)),
 (80,(1,8,false,.other,.unit,none)),
 (81,(1,8,false,.other,.unit,none)),
 (82,(1,8,false,.other,.unit,none)),
 (83,(1,8,false,.other,.unit,none)),
 (84,(1,8,false,.other,.unit,none)),
 (85,(1,8,false,.other,.unit,none)),
 (86,(1,8,false,.other,.unit,none)),
 (87,(1,8,false,.other,.unit,none)),
 (88,(1,8,false,.other,.unit,none)),
 (89,(1,8,false,.other,.unit,none)),
 (90,(1,8,false,.other,.unit,none)),
 (91,(1,8,false,.other,.unit,none)),
 (92,(5,56,true,(.struct [(0,3),(1,3),(2,3),(3,5),(4,56)]),(.pair (.int .i64) (.pair (.int .i64) (.pair (.int .i64) (.pair (.int .u8) (.sl (.int .u8)))))),none)),
 (93,(5,56,true,(.struct [(0,3),(1,3),(2,3),(3,5),(4,56)]),(.pair (.int .i64) (.pair (.int .i64) (.pair (.int .i64) (.pair (.int .u8) (.sl (.int .u8)))))),none)),
 (94,(5,56,true,(.struct [(0,3),(1,3),(2,3),(3,5),(4,56)]),(.pair (.int .i64) (.pair (.int .i64) (.pair (.int .i64) (.pair (.int .u8) (.sl (.int .u8)))))),none)),
 (95,(5,56,true,(.struct [(0,3),(1,3),(2,3),(3,5),(4,56)]),(.pair (.int .i64) (.pair (.int .i64) (.pair (.int .i64) (.pair (.int .u8) (.sl (.int .u8)))))),none)),
 (96,(0,0,true,(.struct []),.unit,none)),
 (97,(0,0,true,(.struct []),.unit,none)),
 (98,(1,8,false,.other,.unit,none)),
 (99,(1,8,false,.other,.unit,none)),
 (100,(1,24,false,(.slice 102),(.sl (.pair (.int .i64) (.pair (.int .i64) (.pair (.int .i64) (.int .i64))))),none)),
 (101,(4,32,true,(.struct [(0,3),(1,3),(2,3),(3,3)]),(.pair (.int .i64) (.pair (.int .i64) (.pair (.int .i64) (.int .i64)))),(some .i64))),
 (102,(4,32,true,(.struct [(0,3),(1,3),(2,3),(3,3)]),(.pair (.int .i64) (.pair (.int .i64) (.pair (.int .i64) (.int .i64)))),(some .i64))),
 (103,(1,8,false,.other,.unit,none)),
 (104,(1,24,false,(.slice 109),(.sl (.pair (.int .i64) (.pair (.int .i64) (.pair (.int .i64) (.int .i64))))),none)),
 (105,(1,8,false,.other,.unit,none)),
 (106,(2,16,true,(.struct [(0,3),(1,3)]),(.pair (.int .i64) (.int .i64)),(some .i64))),
 (107,(2,16,true,(.struct [(0,3),(1,3)]),(.pair (.int .i64) (.int .i64)),(some .i64))),
 (108,(4,32,true,(.struct [(0,3),(1,3),(2,107)]),(.pair (.int .i64) (.pair (.int .i64) (.pair (.int .i64) (.int .i64)))),none)),
 (109,(4,32,true,(.struct [(0,3),(1,3),(2,107)]),(.pair (.int .i64) (.pair (.int .i64) (.pair (.int .i64) (.int .i64)))),none)),
 (110,(1,8,false,.other,.unit,none)),
 (111,(1,8,false,.other,.unit,none)),
 (112,(20,160,true,(.array 5 109),(.arr 5 (.pair (.int .i64) (.pair (.int .i64) (.pair (.int .i64) (.int .i64))))),none)),
 (113,(1,8,false,.other,.unit,none)),
 (114,(1,8,false,.other,.unit,none)),
 (115,(1,8,false,.other,.unit,none)),
 (116,(1,8,false,.other,.unit,none)),
 (117,(2,16,true,(.struct [(0,3),(1,3)]),(.pair (.int .i64) (.int .i64)),(some .i64))),
 (118,(10,80,true,(.array 5 117),(.arr 5 (.pair (.int .i64) (.int .i64))),none)),
 (119,(1,8,false,.other,.unit,none)),
 (120,(1,8,false,.other,.unit,none)),
 (121,(1,24,false,(.slice 3),(.sl (.int .i64)),none)),
 (122,(1,8,false,.other,.unit,none)),
 (128,(1,4,false,(.int .u32),(.int .u32),none)),
 (129,(1,1,false,(.int .u8),(.int .u8),none)),
 (130,(1,1,false,(.int .u8),(.int .u8),none)),
 (131,(1,8,false,.other,.unit,none)),
 (133,(1,4,false,(.int .i32),(.int .i32),none)),
 (134,(1,4,false,(.int .i32),(.int .i32),none))]
abbrev tt:TT:=ttOf tyL
set_option maxRecDepth 100000 in
theorem tyOK:ttB Tryd.prog tyL=true:=by decide +kernel
theorem ty:TTOK Tryd.prog tt:=q2b tyOK
theorem mixed:Tryd.prog.follows .mixedOrders=true:=by decide +kernel
end Go.Proofs.YticpkibnhakgbaaDoor
namespace Go.Proofs.YticpkibnhakgbaaDoor
open Go.Px Go.Ax
def mtb:List (Nat × (String × Nat)):=[
 (92, ("inlay/patch.isRight", 90)), (92, ("inlay/patch.cost", 89)), (92, ("inlay/patch.appendSymbols", 88)),
 (93, ("inlay/patch.isRight", 94)), (93, ("inlay/patch.cost", 93)), (93, ("inlay/patch.appendSymbols", 92)),
 (94, ("inlay/patch.isRight", 97)), (94, ("inlay/patch.cost", 96)), (94, ("inlay/patch.appendSymbols", 95)),
 (95, ("inlay/patch.isRight", 100)), (95, ("inlay/patch.cost", 99)), (95, ("inlay/patch.appendSymbols", 98)),
 (97, ("inlay/patch.isRight", 103)), (97, ("inlay/patch.cost", 102)), (97, ("inlay/patch.appendSymbols", 101))]
set_option maxRecDepth 100000 in
theorem q8j:(mtb.all fun p=>decide (qt1 Tryd.prog p.1 p.2.1=some p.2.2))=true:=by decide +kernel
abbrev coS:Sh:=.pair (.int .i64) (.int .i64)
def costsL:List coS.D:=[((0:Int),(0:Int)),((4:Int),(0:Int)),((4:Int),(1:Int)),((4:Int),(0:Int)),((2:Int),(1:Int))]
def qh5:List Value:=costsL.flatMap fun k=>[.int .i64 k.1,.int .i64 k.2]
def rawG:T ABlk:=.node .nil .nil (some (.cells qh5 118 2))
def G0:GV:=⟨[(0,⟨.arr 5 coS,costsL⟩)],rawG,mtb⟩
theorem cx0:CxOK Tryd.prog tt G0 []:=CxOK.nil ty mixed fun t nm f h=>by
 have:=List.all_eq_true.1 q8j _ h;simpa using this
abbrev iI:Sh:=.int .i64
abbrev uB:Sh:=.int .u8
abbrev opS:Sh:=.pair iI (.pair iI (.pair iI (.pair uB (.sl uB))))
abbrev syS:Sh:=.pair .bool (.pair iI uB)
abbrev paS:Sh:=.pair .bool (.pair iI (.pair iI (.sl opS)))
abbrev OpT:Type:=Int × Int × Int × Int × List Int
abbrev SyT:Type:=Bool × Int × Int
abbrev PaT:Type:=Bool × Int × Int × List OpT
abbrev gtO (l:List OpT) (i:Nat):OpT:=gt opS l i
abbrev gtY (l:List SyT) (i:Nat):SyT:=gt syS l i
abbrev gtB (l:List Int) (i:Nat):Int:=gt uB l i
def ifO (t:Nat) (x:OpT):SV:=.ifc t true [.int .i64 x.1,.int .i64 x.2.1,.int .i64 x.2.2.1,.int .u8 x.2.2.2.1,.sl uB x.2.2.2.2]
end Go.Proofs.YticpkibnhakgbaaDoor
namespace Go.Proofs.YticpkibnhakgbaaDoor
open Go.Px Go.Ax
set_option maxRecDepth 100000
set_option maxRecDepth 100000
theorem vc_th (a b:List SyT) (Q:QT) (R:RT):sy tt G0 [] Tryd.f17.ntmps Tryd.f17.results.toList Q (fun it S=>R it (qao [0,6,12,13,14] [11] S)) 1000 [.code (qae Tryd.f17)] (entry [.sl syS,.sl syS] (a,b,())) =
  ((0:Int)<=(b.length:Int) /\
 (b.length:Int)<=(b.length:Int) /\
 (b.length:Int)<2 ^ 24 /\
 (↑(24:Nat):Int)*(b.length:Int)<=2 ^ 48 /\
 R (hd Tryd.f17 0) { env:=[(0,.sl syS a),(6,.win true syS 11 0 (b.length:Int).toNat),(12,.sl syS b),(13,.int .i64 (b.length:Int)),(14,.int .i64 0)],blk:=[(11,.row 66 syS (List.replicate (b.length:Int).toNat syS.dflt))] }):=by kernel_rfl
def ql0 (b xs:List SyT) (i:Int):List (Nat × LB):=[(8,.var [.bool (gtY b i.toNat).1,.int .i64 (gtY b i.toNat).2.1,.int .u8 (gtY b i.toNat).2.2]),(11,.row 66 syS xs)]
theorem q1z (a b xs:List SyT) (i n:Int) (Q:QT) (R:RT):sy tt G0 [] Tryd.f17.ntmps Tryd.f17.results.toList Q (fun it S=>R it (qao [0,6,12,13,14] [11] S)) 1000 (hd Tryd.f17 0) ⟨[(0,.sl syS a),(6,.win true syS 11 0 n.toNat),(12,.sl syS b),(13,.int .i64 n),(14,.int .i64 i)],[(11,.row 66 syS xs)]⟩ =
  (bc (decide (i<n)) ((0:Int)<=i /\
 i<(b.length:Int) /\
 bc (!(gtY b i.toNat).1) ((0:Int)<=i /\
 i<(n.toNat:Int) /\
 0+i.toNat<xs.length /\
 R (hd Tryd.f17 0) { env:=[(0,.sl syS a),(6,.win true syS 11 0 n.toNat),(12,.sl syS b),(13,.int .i64 n),(14,.int .i64 (IntKind.i64.wrap (i+1)))],blk:=[(11,.row 66 syS (xs.set (0+i.toNat) ((gtY xs (0+i.toNat)).1,(gtY xs (0+i.toNat)).2.1,(gtY b i.toNat).2.2)))] }) (bc (decide ((gtY b i.toNat).2.1<0)) (true=true /\
 Q [.nils,.int .i64 61] (ql0 b xs i)) (bc (bif false then true else decide ((a.length:Int)<=(gtY b i.toNat).2.1)) (Q [.nils,.int .i64 61] (ql0 b xs i)) ((0:Int)<=(gtY b i.toNat).2.1 /\
 (gtY b i.toNat).2.1<(a.length:Int) /\
 (0:Int)<=i /\
 i<(n.toNat:Int) /\
 0+i.toNat<xs.length /\
 (0:Int)<=i /\
 i<(n.toNat:Int) /\
 0+i.toNat<(xs.set (0+i.toNat) (gtY a (Int.toNat (gtY b i.toNat).2.1))).length /\
 (0:Int)<=i /\
 i<(n.toNat:Int) /\
 0+i.toNat<(xs.set (0+i.toNat) (gtY a (Int.toNat (gtY b i.toNat).2.1))).length /\
 R (hd Tryd.f17 0) { env:=[(0,.sl syS a),(6,.win true syS 11 0 n.toNat),(12,.sl syS b),(13,.int .i64 n),(14,.int .i64 (IntKind.i64.wrap (i+1)))],blk:=[(11,.row 66 syS ((xs.set (0+i.toNat) (gtY a (Int.toNat (gtY b i.toNat).2.1))).set (0+i.toNat) ((gtY (xs.set (0+i.toNat) (gtY a (Int.toNat (gtY b i.toNat).2.1))) (0+i.toNat)).1,(gtY (xs.set (0+i.toNat) (gtY a (Int.toNat (gtY b i.toNat).2.1))) (0+i.toNat)).2.1,IntKind.u8.wrap ((gtY (xs.set (0+i.toNat) (gtY a (Int.toNat (gtY b i.toNat).2.1))) (0+i.toNat)).2.2+(gtY b i.toNat).2.2))))] })))) (Q [.win true syS 11 0 n.toNat,.int .i64 0] [(11,.row 66 syS xs)])):=by kernel_rfl
theorem q6n (a b:List SyT) (Q:QT) (R:RT):sy tt G0 [] Tryd.f18.ntmps Tryd.f18.results.toList Q (fun it S=>R it (qao [0,1,6,7] [9,63] S)) 1000 [.code (qae Tryd.f18)] (entry [.sl syS,.sl syS] (a,b,())) =
  (R (hd Tryd.f18 0) { env:=[(0,.sl syS a),(1,.sl syS b),(6,.win true syS 9 0 (0:Nat)),(7,.int .i64 0)],blk:=[(9,.row 66 syS (List.replicate (0:Nat) syS.dflt))] }):=by kernel_rfl
theorem qu2 (a b xs:List SyT) (i:Int) (Q:QT) (R:RT):sy tt G0 [] Tryd.f18.ntmps Tryd.f18.results.toList Q (fun it S=>R it (qao [0,1,6,7] [9,63] S)) 1000 (hd Tryd.f18 0) ⟨[(0,.sl syS a),(1,.sl syS b),(6,.win true syS 9 0 xs.length),(7,.int .i64 i)],[(9,.row 66 syS xs)]⟩ =
  (bc (decide (i<(b.length:Int))) ((0:Int)<=i /\
 i<(b.length:Int) /\
 (0:Int)<=i /\
 i<(b.length:Int) /\
 bc (gtY b i.toNat).1 ((0:Int)<=i /\
 i<(b.length:Int) /\
 bc (decide ((gtY b i.toNat).2.1<0)) (true=true /\
 Q [.nils,.int .i64 61] [(8,.var [.bool false,.int .i64 0,.int .u8 (gtY b i.toNat).2.2]),(9,.row 66 syS xs)]) ((0:Int)<=i /\
 i<(b.length:Int) /\
 bc (bif false then true else decide ((a.length:Int)<=(gtY b i.toNat).2.1)) (Q [.nils,.int .i64 61] [(8,.var [.bool false,.int .i64 0,.int .u8 (gtY b i.toNat).2.2]),(9,.row 66 syS xs)]) ((0:Int)<=i /\
 i<(b.length:Int) /\
 (0:Int)<=(gtY b i.toNat).2.1 /\
 (gtY b i.toNat).2.1<(a.length:Int) /\
 (0:Int)<=i /\
 i<(b.length:Int) /\
 0+1<=([((gtY a (Int.toNat (gtY b i.toNat).2.1)).1,(gtY a (Int.toNat (gtY b i.toNat).2.1)).2.1,IntKind.u8.wrap ((gtY a (Int.toNat (gtY b i.toNat).2.1)).2.2+(gtY b i.toNat).2.2))]:List syS.D).length /\
 xs.length=xs.length /\
 (0:Nat)=(0:Nat) /\
 xs.length+(([((gtY a (Int.toNat (gtY b i.toNat).2.1)).1,(gtY a (Int.toNat (gtY b i.toNat).2.1)).2.1,IntKind.u8.wrap ((gtY a (Int.toNat (gtY b i.toNat).2.1)).2.2+(gtY b i.toNat).2.2))]:List syS.D)).length<2 ^ 30 /\
 (24:Nat)<=2 ^ 10 /\
 R (hd Tryd.f18 0) { env:=[(0,.sl syS a),(1,.sl syS b),(6,.win true syS 63 0 (xs.length+(([((gtY a (Int.toNat (gtY b i.toNat).2.1)).1,(gtY a (Int.toNat (gtY b i.toNat).2.1)).2.1,IntKind.u8.wrap ((gtY a (Int.toNat (gtY b i.toNat).2.1)).2.2+(gtY b i.toNat).2.2))]:List syS.D)).length)),(7,.int .i64 (IntKind.i64.wrap (i+1)))],blk:=[(63,.row 66 syS (xs++([((gtY a (Int.toNat (gtY b i.toNat).2.1)).1,(gtY a (Int.toNat (gtY b i.toNat).2.1)).2.1,IntKind.u8.wrap ((gtY a (Int.toNat (gtY b i.toNat).2.1)).2.2+(gtY b i.toNat).2.2))]:List syS.D)))] }))) (0+1<=([(false,(0:Int),(gtY b i.toNat).2.2)]:List syS.D).length /\
 xs.length=xs.length /\
 (0:Nat)=(0:Nat) /\
 xs.length+(([(false,(0:Int),(gtY b i.toNat).2.2)]:List syS.D)).length<2 ^ 30 /\
 (24:Nat)<=2 ^ 10 /\
 R (hd Tryd.f18 0) { env:=[(0,.sl syS a),(1,.sl syS b),(6,.win true syS 63 0 (xs.length+(([(false,(0:Int),(gtY b i.toNat).2.2)]:List syS.D)).length)),(7,.int .i64 (IntKind.i64.wrap (i+1)))],blk:=[(63,.row 66 syS (xs++([(false,(0:Int),(gtY b i.toNat).2.2)]:List syS.D)))] })) (Q [.win true syS 9 0 xs.length,.int .i64 0] [(9,.row 66 syS xs)])):=by kernel_rfl
end Go.Proofs.YticpkibnhakgbaaDoor
namespace Go.Proofs.YticpkibnhakgbaaDoor
open Go.Px Go.Ax
set_option maxRecDepth 100000
theorem qu8 (n:Int) (Q:QT) (R:RT):sy tt G0 [] Tryd.f51.ntmps Tryd.f51.results.toList Q R 1000 [.code (qae Tryd.f51)] (entry [iI] (n,())) =
  (bc (decide ((0:Int)<=n)) (Q [.bool (bif true then decide (n<=65536) else false)] []) (false=false /\
 Q [.bool false] [])):=by kernel_rfl
theorem qu9 (f n m:Int) (Q:QT) (R:RT):sy tt G0 [] Tryd.f91.ntmps Tryd.f91.results.toList Q R 1000 [.code (qae Tryd.f91)] (entry [iI,iI,iI] (f,n,m,())) =
  (bc (decide ((0:Int)<=f)) (Q [.bool (bif true then decide (f<=IntKind.i64.wrap (m-n)) else false)] []) (false=false /\
 Q [.bool false] [])):=by kernel_rfl
theorem qj1 (k f n b:Int) (d:List Int) (Q:QT) (R:RT):sy tt G0 [] Tryd.f41.ntmps Tryd.f41.results.toList Q R 1000 [.code (qae Tryd.f41)] (entry [opS] ((k,f,n,b,d),())) =
  (bc (decide (k=(1:Int))) (Q [.ifc (92:Nat) true [.int .i64 k,.int .i64 f,.int .i64 n,.int .u8 b,.sl (Sh.int IntKind.u8) d]] [(1,.var [.int .i64 k,.int .i64 f,.int .i64 n,.int .u8 b,.sl (Sh.int IntKind.u8) d])]) (bc (decide (k=(2:Int))) (Q [.ifc (93:Nat) true [.int .i64 k,.int .i64 f,.int .i64 n,.int .u8 b,.sl (Sh.int IntKind.u8) d]] [(1,.var [.int .i64 k,.int .i64 f,.int .i64 n,.int .u8 b,.sl (Sh.int IntKind.u8) d])]) (bc (decide (k=(3:Int))) (Q [.ifc (94:Nat) true [.int .i64 k,.int .i64 f,.int .i64 n,.int .u8 b,.sl (Sh.int IntKind.u8) d]] [(1,.var [.int .i64 k,.int .i64 f,.int .i64 n,.int .u8 b,.sl (Sh.int IntKind.u8) d])]) (bc (decide (k=(4:Int))) (Q [.ifc (95:Nat) true [.int .i64 k,.int .i64 f,.int .i64 n,.int .u8 b,.sl (Sh.int IntKind.u8) d]] [(1,.var [.int .i64 k,.int .i64 f,.int .i64 n,.int .u8 b,.sl (Sh.int IntKind.u8) d])]) (Q [.ifc (97:Nat) true []] [(1,.var [.int .i64 k,.int .i64 f,.int .i64 n,.int .u8 b,.sl (Sh.int IntKind.u8) d])]))))):=by kernel_rfl
theorem q3b (k f n b m:Int) (d:List Int) (Q:QT) (R:RT):sy tt G0 [] Tryd.f97.ntmps Tryd.f97.results.toList Q R 1000 [.code (qae Tryd.f97)] (qb6 [.dat opS,.dat iI] ((k,f,n,b,d),m,())) =
  (bc (decide (f=(0:Int))) (Q [.bool (bif true then decide ((d.length:Int)=(0:Int)) else false)] [(2,.var [.int .i64 k,.int .i64 f,.int .i64 n,.int .u8 b,.sl (Sh.int IntKind.u8) d])]) (false=false /\
 Q [.bool false] [(2,.var [.int .i64 k,.int .i64 f,.int .i64 n,.int .u8 b,.sl (Sh.int IntKind.u8) d])])):=by kernel_rfl
theorem q3i (k f n b m:Int) (d:List Int) (Q:QT) (R:RT):sy tt G0 [] Tryd.f100.ntmps Tryd.f100.results.toList Q R 1000 [.code (qae Tryd.f100)] (qb6 [.dat opS,.dat iI] ((k,f,n,b,d),m,())) =
  (bc (decide (f=(0:Int))) (bc (bif true then decide (b=(0:Int)) else false) (Q [.bool (bif true then decide ((d.length:Int)=n) else false)] [(2,.var [.int .i64 k,.int .i64 f,.int .i64 n,.int .u8 b,.sl (Sh.int IntKind.u8) d])]) (false=false /\
 Q [.bool false] [(2,.var [.int .i64 k,.int .i64 f,.int .i64 n,.int .u8 b,.sl (Sh.int IntKind.u8) d])])) (false=false /\
 false=false /\
 Q [.bool false] [(2,.var [.int .i64 k,.int .i64 f,.int .i64 n,.int .u8 b,.sl (Sh.int IntKind.u8) d])])):=by kernel_rfl
theorem q7b (m:Int) (Q:QT) (R:RT):sy tt G0 [] Tryd.f103.ntmps Tryd.f103.results.toList Q R 1000 [.code (qae Tryd.f103)] (qb6 [.dat .unit,.dat iI] ((),m,())) =
  (Q [.bool false] [(2,.var [])]):=by kernel_rfl
theorem qy4 (k f n b:Int) (d:List Int) (Q:QT) (R:RT):sy tt G0 [] Tryd.f89.ntmps Tryd.f89.results.toList Q R 1000 [.code (qae Tryd.f89)] (qb6 [.dat opS] ((k,f,n,b,d),())) =
  (Q [.int .i64 4] [(1,.var [.int .i64 k,.int .i64 f,.int .i64 n,.int .u8 b,.sl (Sh.int IntKind.u8) d])]):=by kernel_rfl
theorem qy1 (k f n b:Int) (d:List Int) (Q:QT) (R:RT):sy tt G0 [] Tryd.f93.ntmps Tryd.f93.results.toList Q R 1000 [.code (qae Tryd.f93)] (qb6 [.dat opS] ((k,f,n,b,d),())) =
  (Q [.int .i64 (IntKind.i64.wrap ((4:Int)+n))] [(1,.var [.int .i64 k,.int .i64 f,.int .i64 n,.int .u8 b,.sl (Sh.int IntKind.u8) d])]):=by kernel_rfl
theorem q3c (k f n b:Int) (d:List Int) (Q:QT) (R:RT):sy tt G0 [] Tryd.f96.ntmps Tryd.f96.results.toList Q R 1000 [.code (qae Tryd.f96)] (qb6 [.dat opS] ((k,f,n,b,d),())) =
  (Q [.int .i64 4] [(1,.var [.int .i64 k,.int .i64 f,.int .i64 n,.int .u8 b,.sl (Sh.int IntKind.u8) d])]):=by kernel_rfl
theorem q3j (k f n b:Int) (d:List Int) (Q:QT) (R:RT):sy tt G0 [] Tryd.f99.ntmps Tryd.f99.results.toList Q R 1000 [.code (qae Tryd.f99)] (qb6 [.dat opS] ((k,f,n,b,d),())) =
  (Q [.int .i64 (IntKind.i64.wrap ((2:Int)+n))] [(1,.var [.int .i64 k,.int .i64 f,.int .i64 n,.int .u8 b,.sl (Sh.int IntKind.u8) d])]):=by kernel_rfl
theorem qu7 (o:Bool) (a b:Int) (Q:QT) (R:RT):sy tt G0 [] Tryd.f66.ntmps Tryd.f66.results.toList Q R 1000 [.code (qae Tryd.f66)] (entry [syS] ((o,a,b),())) =
  (bc (!o) (Q [.int .i64 4] [(1,.var [.bool o,.int .i64 a,.int .u8 b])]) (bc (decide (b≠0)) (Q [.int .i64 2] [(1,.var [.bool o,.int .i64 a,.int .u8 b])]) (Q [.int .i64 1] [(1,.var [.bool o,.int .i64 a,.int .u8 b])]))):=by kernel_rfl
end Go.Proofs.YticpkibnhakgbaaDoor
namespace Go.Proofs.YticpkibnhakgbaaDoor
open Go.Px Go.Ax
set_option maxRecDepth 100000
theorem QI.flat {ct:CtrI} {x:DI ct.args} {rs:List SV} {blk:List (Nat × LB)} (h:ct.out x=rs) (hs:qge rs=true) (hb:ct.blk x=[]):QI ct x rs blk:=
 .self h hs (by rw[hb];rfl) (by rw[hb];simp)
def i64 (n:Int):Prop := -9223372036854775808<=n/\n<=9223372036854775807
def ctSize:Ctr:=⟨[iI],fun _=>True,fun x=>[.bool (decide (0<=x.1)&&decide (x.1<=65536))],fun _=>[]⟩
theorem qvz:Held Tryd.prog G0 51 ctSize:=by
 refine Held.run cx0 (fn:=Tryd.f51) rfl rfl ⟨by decide,by decide⟩ ?_;rintro ⟨n,⟨⟩⟩ _;refine (qu8 n _ _).mpr (qaf (fun h=>?_) (fun h=>⟨rfl,?_⟩))
 ·exact QC.flat (by simp only[ctSize,h];rfl) rfl rfl
 ·exact QC.flat (by simp only[ctSize,h];rfl) rfl rfl
def qba (f n m:Int):Bool:=decide (0<=f)&&decide (f<=IntKind.i64.wrap (m-n))
def ctPart:Ctr:=⟨[iI,iI,iI],fun _=>True,fun x=>[.bool (qba x.1 x.2.1 x.2.2.1)],fun _=>[]⟩
theorem qwm:Held Tryd.prog G0 91 ctPart:=by
 refine Held.run cx0 (fn:=Tryd.f91) rfl rfl ⟨by decide,by decide⟩ ?_;rintro ⟨f,n,m,⟨⟩⟩ _;refine (qu9 f n m _ _).mpr (qaf (fun h=>?_) (fun h=>⟨rfl,?_⟩))
 ·exact QC.flat (by simp only[ctPart,qba,h];rfl) rfl rfl
 ·exact QC.flat (by simp only[ctPart,qba,h];rfl) rfl rfl
def ctO (k:Int) (t:Nat):Ctr:=⟨[opS],fun x=>x.1.1=k,fun x=>[ifO t x.1],fun _=>[]⟩
def ctO0:Ctr:=⟨[opS],fun x=>x.1.1≠1/\x.1.1≠2/\x.1.1≠3/\x.1.1≠4,fun _=>[.ifc 97 true []],fun _=>[]⟩
theorem qwy:Held Tryd.prog G0 41 (ctO 1 92):=by
 refine Held.run cx0 (fn:=Tryd.f41) rfl rfl ⟨by decide,by decide⟩ ?_;rintro ⟨⟨k,f,n,b,d⟩,⟨⟩⟩ hp;replace hp:k=1:=hp;subst hp;exact (qj1 _ f n b d _ _).mpr (QC.flat rfl rfl rfl)
theorem qwx:Held Tryd.prog G0 41 (ctO 2 93):=by
 refine Held.run cx0 (fn:=Tryd.f41) rfl rfl ⟨by decide,by decide⟩ ?_;rintro ⟨⟨k,f,n,b,d⟩,⟨⟩⟩ hp;replace hp:k=2:=hp;subst hp;exact (qj1 _ f n b d _ _).mpr (QC.flat rfl rfl rfl)
theorem qww:Held Tryd.prog G0 41 (ctO 3 94):=by
 refine Held.run cx0 (fn:=Tryd.f41) rfl rfl ⟨by decide,by decide⟩ ?_;rintro ⟨⟨k,f,n,b,d⟩,⟨⟩⟩ hp;replace hp:k=3:=hp;subst hp;exact (qj1 _ f n b d _ _).mpr (QC.flat rfl rfl rfl)
theorem qwv:Held Tryd.prog G0 41 (ctO 4 95):=by
 refine Held.run cx0 (fn:=Tryd.f41) rfl rfl ⟨by decide,by decide⟩ ?_;rintro ⟨⟨k,f,n,b,d⟩,⟨⟩⟩ hp;replace hp:k=4:=hp;subst hp;exact (qj1 _ f n b d _ _).mpr (QC.flat rfl rfl rfl)
theorem q4z:Held Tryd.prog G0 41 ctO0:=by
 refine Held.run cx0 (fn:=Tryd.f41) rfl rfl ⟨by decide,by decide⟩ ?_;rintro ⟨⟨k,f,n,b,d⟩,⟨⟩⟩ hp;obtain ⟨h1,h2,h3,h4⟩:k≠1/\k≠2/\k≠3/\k≠4:=hp;refine (qj1 k f n b d _ _).mpr ?_;rw[decide_eq_false h1,decide_eq_false h2,decide_eq_false h3,decide_eq_false h4];exact QC.flat rfl rfl rfl
abbrev KR:List AK:=[.dat opS,.dat iI]
def rB (t:Nat) (x:OpT) (m:Int):Bool:=match t with
 | 1=>qba x.2.1 x.2.2.1 m&&(decide (x.2.2.2.1=0)&&decide ((x.2.2.2.2.length:Int)=0))
 | 2=>qba x.2.1 x.2.2.1 m&&(decide (x.2.2.2.1=0)&&decide ((x.2.2.2.2.length:Int)=x.2.2.1))
 | 3=>decide (x.2.1=0)&&decide ((x.2.2.2.2.length:Int)=0)
 | _=>decide (x.2.1=0)&&(decide (x.2.2.2.1=0)&&decide ((x.2.2.2.2.length:Int)=x.2.2.1))
def ctR (t:Nat):CtrI:=⟨KR,fun _=>True,fun x=>[.bool (rB t x.1 x.2.1)],fun _=>[]⟩
def ctR0:CtrI:=⟨[.dat .unit,.dat iI],fun _=>True,fun _=>[.bool false],fun _=>[]⟩
theorem qv3:HeldI Tryd.prog G0 97 (ctR 3):=by
 refine HeldI.run cx0 (fn:=Tryd.f97) rfl rfl ⟨by decide,by decide⟩ ?_;rintro ⟨⟨k,f,n,b,d⟩,m,⟨⟩⟩ _;refine (q3b k f n b m d _ _).mpr (qaf (fun h=>?_) (fun h=>⟨rfl,?_⟩))
 ·exact QI.flat (by simp only[ctR,rB,h];rfl) rfl rfl
 ·exact QI.flat (by simp only[ctR,rB,h];rfl) rfl rfl
theorem qxc:HeldI Tryd.prog G0 100 (ctR 4):=by
 refine HeldI.run cx0 (fn:=Tryd.f100) rfl rfl ⟨by decide,by decide⟩ ?_;rintro ⟨⟨k,f,n,b,d⟩,m,⟨⟩⟩ _;refine (q3i k f n b m d _ _).mpr (qaf (fun h=>qaf (fun h2=>?_) (fun h2=>⟨rfl,?_⟩)) (fun h=>⟨rfl,rfl,?_⟩))
 ·have h2:decide (b=0)=true:=h2;exact QI.flat (by simp only[ctR,rB,h,h2];rfl) rfl rfl
 ·have h2:decide (b=0)=false:=h2;exact QI.flat (by simp only[ctR,rB,h,h2];rfl) rfl rfl
 ·exact QI.flat (by simp only[ctR,rB,h];rfl) rfl rfl
theorem qz9:HeldI Tryd.prog G0 103 ctR0:=by
 refine HeldI.run cx0 (fn:=Tryd.f103) rfl rfl ⟨by decide,by decide⟩ ?_;rintro ⟨⟨⟩,m,⟨⟩⟩ _;exact (q7b m _ _).mpr (QI.flat rfl rfl rfl)
abbrev KC:List AK:=[.dat opS]
def cN (t:Nat) (x:OpT):Int:=match t with
 | 2=>IntKind.i64.wrap (4+x.2.2.1)
 | 4=>IntKind.i64.wrap (2+x.2.2.1)
 | _=>4
def ctC (t:Nat):CtrI:=⟨KC,fun _=>True,fun x=>[.int .i64 (cN t x.1)],fun _=>[]⟩
theorem qup:HeldI Tryd.prog G0 89 (ctC 1):=by
 refine HeldI.run cx0 (fn:=Tryd.f89) rfl rfl ⟨by decide,by decide⟩ ?_;rintro ⟨⟨k,f,n,b,d⟩,⟨⟩⟩ _;exact (qy4 k f n b d _ _).mpr (QI.flat rfl rfl rfl)
theorem qui:HeldI Tryd.prog G0 93 (ctC 2):=by
 refine HeldI.run cx0 (fn:=Tryd.f93) rfl rfl ⟨by decide,by decide⟩ ?_;rintro ⟨⟨k,f,n,b,d⟩,⟨⟩⟩ _;exact (qy1 k f n b d _ _).mpr (QI.flat rfl rfl rfl)
theorem qv4:HeldI Tryd.prog G0 96 (ctC 3):=by
 refine HeldI.run cx0 (fn:=Tryd.f96) rfl rfl ⟨by decide,by decide⟩ ?_;rintro ⟨⟨k,f,n,b,d⟩,⟨⟩⟩ _;exact (q3c k f n b d _ _).mpr (QI.flat rfl rfl rfl)
theorem qxd:HeldI Tryd.prog G0 99 (ctC 4):=by
 refine HeldI.run cx0 (fn:=Tryd.f99) rfl rfl ⟨by decide,by decide⟩ ?_;rintro ⟨⟨k,f,n,b,d⟩,⟨⟩⟩ _;exact (q3j k f n b d _ _).mpr (QI.flat rfl rfl rfl)
def kndB (x:SyT):Int:=bif !x.1 then 4 else bif decide (x.2.2≠0) then 2 else 1
def ctKnd:Ctr:=⟨[syS],fun _=>True,fun x=>[.int .i64 (kndB x.1)],fun _=>[]⟩
theorem q0f:Held Tryd.prog G0 66 ctKnd:=by
 refine Held.run cx0 (fn:=Tryd.f66) rfl rfl ⟨by decide,by decide⟩ ?_;rintro ⟨⟨o,a,b⟩,⟨⟩⟩ _;refine (qu7 o a b _ _).mpr (qaf (fun h=>?_) (fun h=>qaf (fun h2=>?_) (fun h2=>?_)))
 ·exact QC.flat (by simp only[ctKnd,kndB,h];rfl) rfl rfl
 ·exact QC.flat (by simp only[ctKnd,kndB,h,h2];rfl) rfl rfl
 ·exact QC.flat (by simp only[ctKnd,kndB,h,h2];rfl) rfl rfl
end Go.Proofs.YticpkibnhakgbaaDoor
namespace Go.Proofs.YticpkibnhakgbaaDoor
open Go.Px Go.Ax
set_option maxRecDepth 100000
def C1:CV:=[(91,.inl ctPart),(51,.inl ctSize),(66,.inl ctKnd)]
theorem cx1:CxOK Tryd.prog tt G0 C1:=((cx0.cons q0f (fn:=Tryd.f66) rfl rfl rfl).cons qvz (fn:=Tryd.f51) rfl rfl rfl).cons qwm (fn:=Tryd.f91) rfl rfl rfl
set_option maxRecDepth 100000
theorem qy3 (k f n b m:Int) (d:List Int) (Q:QT) (R:RT):sy tt G0 C1 Tryd.f90.ntmps Tryd.f90.results.toList Q R 1000 [.code (qae Tryd.f90)] (qb6 [.dat opS,.dat iI] ((k,f,n,b,d),m,())) =
  (ctPart.pre (f,n,m,()) /\
 bc (qba f n m) (bc (bif true then decide (b=(0:Int)) else false) (Q [.bool (bif true then decide ((d.length:Int)=(0:Int)) else false)] [(2,.var [.int .i64 k,.int .i64 f,.int .i64 n,.int .u8 b,.sl (Sh.int IntKind.u8) d])]) (false=false /\
 Q [.bool false] [(2,.var [.int .i64 k,.int .i64 f,.int .i64 n,.int .u8 b,.sl (Sh.int IntKind.u8) d])])) (false=false /\
 false=false /\
 Q [.bool false] [(2,.var [.int .i64 k,.int .i64 f,.int .i64 n,.int .u8 b,.sl (Sh.int IntKind.u8) d])])):=by kernel_rfl
theorem qy0 (k f n b m:Int) (d:List Int) (Q:QT) (R:RT):sy tt G0 C1 Tryd.f94.ntmps Tryd.f94.results.toList Q R 1000 [.code (qae Tryd.f94)] (qb6 [.dat opS,.dat iI] ((k,f,n,b,d),m,())) =
  (ctPart.pre (f,n,m,()) /\
 bc (qba f n m) (bc (bif true then decide (b=(0:Int)) else false) (Q [.bool (bif true then decide ((d.length:Int)=n) else false)] [(2,.var [.int .i64 k,.int .i64 f,.int .i64 n,.int .u8 b,.sl (Sh.int IntKind.u8) d])]) (false=false /\
 Q [.bool false] [(2,.var [.int .i64 k,.int .i64 f,.int .i64 n,.int .u8 b,.sl (Sh.int IntKind.u8) d])])) (false=false /\
 false=false /\
 Q [.bool false] [(2,.var [.int .i64 k,.int .i64 f,.int .i64 n,.int .u8 b,.sl (Sh.int IntKind.u8) d])])):=by kernel_rfl
end Go.Proofs.YticpkibnhakgbaaDoor
namespace Go.Proofs.YticpkibnhakgbaaDoor
open Go.Px Go.Ax
set_option maxRecDepth 100000
theorem qun:HeldI Tryd.prog G0 90 (ctR 1):=by
 refine HeldI.run cx1 (fn:=Tryd.f90) rfl rfl ⟨by decide,by decide⟩ ?_;rintro ⟨⟨k,f,n,b,d⟩,m,⟨⟩⟩ _;refine (qy3 k f n b m d _ _).mpr ⟨trivial,qaf (fun h=>qaf (fun h2=>?_) (fun h2=>⟨rfl,?_⟩)) (fun h=>⟨rfl,rfl,?_⟩)⟩
 ·have h2:decide (b=0)=true:=h2;exact QI.flat (by simp only[ctR,rB,h,h2];rfl) rfl rfl
 ·have h2:decide (b=0)=false:=h2;exact QI.flat (by simp only[ctR,rB,h,h2];rfl) rfl rfl
 ·exact QI.flat (by simp only[ctR,rB,h];rfl) rfl rfl
theorem quh:HeldI Tryd.prog G0 94 (ctR 2):=by
 refine HeldI.run cx1 (fn:=Tryd.f94) rfl rfl ⟨by decide,by decide⟩ ?_;rintro ⟨⟨k,f,n,b,d⟩,m,⟨⟩⟩ _;refine (qy0 k f n b m d _ _).mpr ⟨trivial,qaf (fun h=>qaf (fun h2=>?_) (fun h2=>⟨rfl,?_⟩)) (fun h=>⟨rfl,rfl,?_⟩)⟩
 ·have h2:decide (b=0)=true:=h2;exact QI.flat (by simp only[ctR,rB,h,h2];rfl) rfl rfl
 ·have h2:decide (b=0)=false:=h2;exact QI.flat (by simp only[ctR,rB,h,h2];rfl) rfl rfl
 ·exact QI.flat (by simp only[ctR,rB,h];rfl) rfl rfl
def CM:CV:=(99,.inr (ctC 4))::(96,.inr (ctC 3))::(93,.inr (ctC 2))::(89,.inr (ctC 1))::(103,.inr ctR0)::(100,.inr (ctR 4))::(97,.inr (ctR 3))::(94,.inr (ctR 2))::(90,.inr (ctR 1))::C1
theorem cxM:CxOK Tryd.prog tt G0 CM:=((((((((cx1.consI qun (fn:=Tryd.f90) rfl rfl rfl).consI quh (fn:=Tryd.f94) rfl rfl rfl).consI qv3 (fn:=Tryd.f97) rfl rfl rfl).consI qxc (fn:=Tryd.f100) rfl rfl rfl).consI qz9 (fn:=Tryd.f103) rfl rfl rfl).consI qup (fn:=Tryd.f89) rfl rfl rfl).consI qui (fn:=Tryd.f93) rfl rfl rfl).consI qv4 (fn:=Tryd.f96) rfl rfl rfl).consI qxd (fn:=Tryd.f99) rfl rfl rfl
def D1:CV:=(41,.inl (ctO 1 92))::CM
def D2:CV:=(41,.inl (ctO 2 93))::CM
def D3:CV:=(41,.inl (ctO 3 94))::CM
def D4:CV:=(41,.inl (ctO 4 95))::CM
def D0:CV:=(41,.inl ctO0)::CM
theorem dx1:CxOK Tryd.prog tt G0 D1:=cxM.cons qwy (fn:=Tryd.f41) rfl rfl rfl
theorem dx2:CxOK Tryd.prog tt G0 D2:=cxM.cons qwx (fn:=Tryd.f41) rfl rfl rfl
theorem dx3:CxOK Tryd.prog tt G0 D3:=cxM.cons qww (fn:=Tryd.f41) rfl rfl rfl
theorem dx4:CxOK Tryd.prog tt G0 D4:=cxM.cons qwv (fn:=Tryd.f41) rfl rfl rfl
theorem dx0:CxOK Tryd.prog tt G0 D0:=cxM.cons q4z (fn:=Tryd.f41) rfl rfl rfl
end Go.Proofs.YticpkibnhakgbaaDoor
namespace Go.Proofs.YticpkibnhakgbaaDoor
open Go.Px Go.Ax
set_option maxRecDepth 100000
theorem q3p (f n b m:Int) (d:List Int) (Q:QT) (R:RT):sy tt G0 D1 Tryd.f52.ntmps Tryd.f52.results.toList Q R 1000 [.code (qae Tryd.f52)] (entry [opS,iI] ((1,f,n,b,d),m,())) =
  (bc (decide ((1:Int)<=n)) (bc (bif true then decide (n<=65536) else false) ((ctO (1:Int) (92:Nat)).pre (((1:iI.D),f,n,b,d),()) /\
 (ctR (1:Nat)).pre (((1:iI.D),f,n,b,d),m,()) /\
 Q [.bool (bif true then rB (1:Nat) ((1:iI.D),f,n,b,d) m else false)] [(2,.var [.int .i64 (1:iI.D),.int .i64 f,.int .i64 n,.int .u8 b,.sl (Sh.int IntKind.u8) d])]) (false=false /\
 Q [.bool false] [(2,.var [.int .i64 (1:iI.D),.int .i64 f,.int .i64 n,.int .u8 b,.sl (Sh.int IntKind.u8) d])])) (false=false /\
 false=false /\
 Q [.bool false] [(2,.var [.int .i64 (1:iI.D),.int .i64 f,.int .i64 n,.int .u8 b,.sl (Sh.int IntKind.u8) d])])):=by kernel_rfl
theorem q3o (f n b m:Int) (d:List Int) (Q:QT) (R:RT):sy tt G0 D2 Tryd.f52.ntmps Tryd.f52.results.toList Q R 1000 [.code (qae Tryd.f52)] (entry [opS,iI] ((2,f,n,b,d),m,())) =
  (bc (decide ((1:Int)<=n)) (bc (bif true then decide (n<=65536) else false) ((ctO (2:Int) (93:Nat)).pre (((2:iI.D),f,n,b,d),()) /\
 (ctR (2:Nat)).pre (((2:iI.D),f,n,b,d),m,()) /\
 Q [.bool (bif true then rB (2:Nat) ((2:iI.D),f,n,b,d) m else false)] [(2,.var [.int .i64 (2:iI.D),.int .i64 f,.int .i64 n,.int .u8 b,.sl (Sh.int IntKind.u8) d])]) (false=false /\
 Q [.bool false] [(2,.var [.int .i64 (2:iI.D),.int .i64 f,.int .i64 n,.int .u8 b,.sl (Sh.int IntKind.u8) d])])) (false=false /\
 false=false /\
 Q [.bool false] [(2,.var [.int .i64 (2:iI.D),.int .i64 f,.int .i64 n,.int .u8 b,.sl (Sh.int IntKind.u8) d])])):=by kernel_rfl
theorem q3n (f n b m:Int) (d:List Int) (Q:QT) (R:RT):sy tt G0 D3 Tryd.f52.ntmps Tryd.f52.results.toList Q R 1000 [.code (qae Tryd.f52)] (entry [opS,iI] ((3,f,n,b,d),m,())) =
  (bc (decide ((1:Int)<=n)) (bc (bif true then decide (n<=65536) else false) ((ctO (3:Int) (94:Nat)).pre (((3:iI.D),f,n,b,d),()) /\
 (ctR (3:Nat)).pre (((3:iI.D),f,n,b,d),m,()) /\
 Q [.bool (bif true then rB (3:Nat) ((3:iI.D),f,n,b,d) m else false)] [(2,.var [.int .i64 (3:iI.D),.int .i64 f,.int .i64 n,.int .u8 b,.sl (Sh.int IntKind.u8) d])]) (false=false /\
 Q [.bool false] [(2,.var [.int .i64 (3:iI.D),.int .i64 f,.int .i64 n,.int .u8 b,.sl (Sh.int IntKind.u8) d])])) (false=false /\
 false=false /\
 Q [.bool false] [(2,.var [.int .i64 (3:iI.D),.int .i64 f,.int .i64 n,.int .u8 b,.sl (Sh.int IntKind.u8) d])])):=by kernel_rfl
theorem q3m (f n b m:Int) (d:List Int) (Q:QT) (R:RT):sy tt G0 D4 Tryd.f52.ntmps Tryd.f52.results.toList Q R 1000 [.code (qae Tryd.f52)] (entry [opS,iI] ((4,f,n,b,d),m,())) =
  (bc (decide ((1:Int)<=n)) (bc (bif true then decide (n<=65536) else false) ((ctO (4:Int) (95:Nat)).pre (((4:iI.D),f,n,b,d),()) /\
 (ctR (4:Nat)).pre (((4:iI.D),f,n,b,d),m,()) /\
 Q [.bool (bif true then rB (4:Nat) ((4:iI.D),f,n,b,d) m else false)] [(2,.var [.int .i64 (4:iI.D),.int .i64 f,.int .i64 n,.int .u8 b,.sl (Sh.int IntKind.u8) d])]) (false=false /\
 Q [.bool false] [(2,.var [.int .i64 (4:iI.D),.int .i64 f,.int .i64 n,.int .u8 b,.sl (Sh.int IntKind.u8) d])])) (false=false /\
 false=false /\
 Q [.bool false] [(2,.var [.int .i64 (4:iI.D),.int .i64 f,.int .i64 n,.int .u8 b,.sl (Sh.int IntKind.u8) d])])):=by kernel_rfl
theorem q3q (k f n b m:Int) (d:List Int) (Q:QT) (R:RT):sy tt G0 D0 Tryd.f52.ntmps Tryd.f52.results.toList Q R 1000 [.code (qae Tryd.f52)] (entry [opS,iI] ((k,f,n,b,d),m,())) =
  (bc (decide ((1:Int)<=n)) (bc (bif true then decide (n<=65536) else false) (ctO0.pre ((k,f,n,b,d),()) /\
 ctR0.pre ((),m,()) /\
 Q [.bool (bif true then false else false)] [(2,.var [.int .i64 k,.int .i64 f,.int .i64 n,.int .u8 b,.sl (Sh.int IntKind.u8) d])]) (false=false /\
 Q [.bool false] [(2,.var [.int .i64 k,.int .i64 f,.int .i64 n,.int .u8 b,.sl (Sh.int IntKind.u8) d])])) (false=false /\
 false=false /\
 Q [.bool false] [(2,.var [.int .i64 k,.int .i64 f,.int .i64 n,.int .u8 b,.sl (Sh.int IntKind.u8) d])])):=by kernel_rfl
end Go.Proofs.YticpkibnhakgbaaDoor
namespace Go.Proofs.YticpkibnhakgbaaDoor
open Go.Px Go.Ax
set_option maxRecDepth 100000
def kR (x:OpT) (m:Int):Bool:=if x.1=1 then rB 1 x m else if x.1=2 then rB 2 x m else if x.1=3 then rB 3 x m else if x.1=4 then rB 4 x m else false
def isRB (x:OpT) (m:Int):Bool:=decide (1<=x.2.2.1)&&(decide (x.2.2.1<=65536)&&kR x m)
abbrev qx5 (p:Int->Prop):Ctr:=⟨[opS,iI],fun x=>p x.1.1,fun x=>[.bool (isRB x.1 x.2.1)],fun _=>[]⟩
theorem qxm:Held Tryd.prog G0 52 (qx5 (fun k=>k=1)):=by
 refine Held.run dx1 (fn:=Tryd.f52) rfl rfl ⟨by decide,by decide⟩ ?_;rintro ⟨⟨k,f,n,b,d⟩,m,⟨⟩⟩ hp;replace hp:k=1:=hp;subst hp;refine (q3p f n b m d _ _).mpr (qaf (fun h=>qaf (fun h2=>⟨rfl,trivial,?_⟩) (fun h2=>⟨rfl,?_⟩)) (fun h=>⟨rfl,rfl,?_⟩))
 ·have h2:decide (n<=65536)=true:=h2;exact QC.flat (by simp only[isRB,h,h2];rfl) rfl rfl
 ·have h2:decide (n<=65536)=false:=h2;exact QC.flat (by simp only[isRB,h,h2];rfl) rfl rfl
 ·exact QC.flat (by simp only[isRB,h];rfl) rfl rfl
theorem qxl:Held Tryd.prog G0 52 (qx5 (fun k=>k=2)):=by
 refine Held.run dx2 (fn:=Tryd.f52) rfl rfl ⟨by decide,by decide⟩ ?_;rintro ⟨⟨k,f,n,b,d⟩,m,⟨⟩⟩ hp;replace hp:k=2:=hp;subst hp;refine (q3o f n b m d _ _).mpr (qaf (fun h=>qaf (fun h2=>⟨rfl,trivial,?_⟩) (fun h2=>⟨rfl,?_⟩)) (fun h=>⟨rfl,rfl,?_⟩))
 ·have h2:decide (n<=65536)=true:=h2;exact QC.flat (by simp only[isRB,h,h2];rfl) rfl rfl
 ·have h2:decide (n<=65536)=false:=h2;exact QC.flat (by simp only[isRB,h,h2];rfl) rfl rfl
 ·exact QC.flat (by simp only[isRB,h];rfl) rfl rfl
theorem qxk:Held Tryd.prog G0 52 (qx5 (fun k=>k=3)):=by
 refine Held.run dx3 (fn:=Tryd.f52) rfl rfl ⟨by decide,by decide⟩ ?_;rintro ⟨⟨k,f,n,b,d⟩,m,⟨⟩⟩ hp;replace hp:k=3:=hp;subst hp;refine (q3n f n b m d _ _).mpr (qaf (fun h=>qaf (fun h2=>⟨rfl,trivial,?_⟩) (fun h2=>⟨rfl,?_⟩)) (fun h=>⟨rfl,rfl,?_⟩))
 ·have h2:decide (n<=65536)=true:=h2;exact QC.flat (by simp only[isRB,h,h2];rfl) rfl rfl
 ·have h2:decide (n<=65536)=false:=h2;exact QC.flat (by simp only[isRB,h,h2];rfl) rfl rfl
 ·exact QC.flat (by simp only[isRB,h];rfl) rfl rfl
theorem qxj:Held Tryd.prog G0 52 (qx5 (fun k=>k=4)):=by
 refine Held.run dx4 (fn:=Tryd.f52) rfl rfl ⟨by decide,by decide⟩ ?_;rintro ⟨⟨k,f,n,b,d⟩,m,⟨⟩⟩ hp;replace hp:k=4:=hp;subst hp;refine (q3m f n b m d _ _).mpr (qaf (fun h=>qaf (fun h2=>⟨rfl,trivial,?_⟩) (fun h2=>⟨rfl,?_⟩)) (fun h=>⟨rfl,rfl,?_⟩))
 ·have h2:decide (n<=65536)=true:=h2;exact QC.flat (by simp only[isRB,h,h2];rfl) rfl rfl
 ·have h2:decide (n<=65536)=false:=h2;exact QC.flat (by simp only[isRB,h,h2];rfl) rfl rfl
 ·exact QC.flat (by simp only[isRB,h];rfl) rfl rfl
theorem qxn:Held Tryd.prog G0 52 (qx5 (fun k=>k≠1/\k≠2/\k≠3/\k≠4)):=by
 refine Held.run dx0 (fn:=Tryd.f52) rfl rfl ⟨by decide,by decide⟩ ?_;rintro ⟨⟨k,f,n,b,d⟩,m,⟨⟩⟩ hp;replace hp:k≠1/\k≠2/\k≠3/\k≠4:=hp;have hk:kR (k,f,n,b,d) m=false:=by simp[kR,hp]
 refine (q3q k f n b m d _ _).mpr (qaf (fun h=>qaf (fun h2=>⟨hp,trivial,?_⟩) (fun h2=>⟨rfl,?_⟩)) (fun h=>⟨rfl,rfl,?_⟩))
 ·have h2:decide (n<=65536)=true:=h2;exact QC.flat (by simp only[isRB,h,h2,hk];rfl) rfl rfl
 ·have h2:decide (n<=65536)=false:=h2;exact QC.flat (by simp only[isRB,h,h2];rfl) rfl rfl
 ·exact QC.flat (by simp only[isRB,h];rfl) rfl rfl
def ctIsR:Ctr:=⟨[opS,iI],fun _=>True,fun x=>[.bool (isRB x.1 x.2.1)],fun _=>[]⟩
theorem q0i:Held Tryd.prog G0 52 ctIsR:=fun x _=>by
 by_cases h1:x.1.1=1
 ·exact qxm x h1
 ·by_cases h2:x.1.1=2
  ·exact qxl x h2
  ·by_cases h3:x.1.1=3
   ·exact qxk x h3
   ·by_cases h4:x.1.1=4
    ·exact qxj x h4
    ·exact qxn x ⟨h1,h2,h3,h4⟩
def DC:CV:=(52,.inl ctIsR)::C1
theorem dxC:CxOK Tryd.prog tt G0 DC:=cx1.cons q0i (fn:=Tryd.f52) rfl rfl rfl
end Go.Proofs.YticpkibnhakgbaaDoor
namespace Go.Proofs.YticpkibnhakgbaaDoor
open Go.Px Go.Ax
set_option maxRecDepth 100000
theorem qy6 (li:Bool) (m o:Int) (l:List OpT) (Q:QT) (R:RT):sy tt G0 DC Tryd.f40.ntmps Tryd.f40.results.toList Q R 1000 [.code (qae Tryd.f40)] (entry [paS] ((li,m,o,l),())) =
  (ctSize.pre (m,()) /\
 bc (!(decide ((0:iI.D)<=m)&&decide (m<=(65536:iI.D)))) (true=true /\
 true=true /\
 Q [.int .i64 (-1:Int),.int .i64 60] [(1,.var [.bool li,.int .i64 m,.int .i64 o,.sl opS l])]) (ctSize.pre (o,()) /\
 bc (bif false then true else !(decide ((0:iI.D)<=o)&&decide (o<=(65536:iI.D)))) (true=true /\
 Q [.int .i64 (-1:Int),.int .i64 60] [(1,.var [.bool li,.int .i64 m,.int .i64 o,.sl opS l])]) (bc (bif false then true else decide ((4096:Int)<(l.length:Int))) (Q [.int .i64 (-1:Int),.int .i64 60] [(1,.var [.bool li,.int .i64 m,.int .i64 o,.sl opS l])]) (R (hd Tryd.f40 0) { env:=[(0,.agg [.bool li,.int .i64 m,.int .i64 o,.sl opS l]),(1,.ptr 1 0),(2,.int .i64 0),(3,.int .i64 0),(4,.int .i64 o),(7,.ptr 1 1),(8,.int .i64 m),(9,.bool (decide ((0:iI.D)<=m)&&decide (m<=(65536:iI.D)))),(10,.bool !(decide ((0:iI.D)<=m)&&decide (m<=(65536:iI.D)))),(11,.bool false),(12,.ptr 1 2),(13,.int .i64 o),(14,.bool (decide ((0:iI.D)<=o)&&decide (o<=(65536:iI.D)))),(15,.bool !(decide ((0:iI.D)<=o)&&decide (o<=(65536:iI.D)))),(16,.bool (bif false then true else !(decide ((0:iI.D)<=o)&&decide (o<=(65536:iI.D))))),(17,.bool false),(18,.ptr 1 3),(19,.sl opS l),(20,.int .i64 (l.length:Int)),(21,.bool (decide ((4096:Int)<(l.length:Int)))),(22,.bool (bif false then true else decide ((4096:Int)<(l.length:Int)))),(23,.ptr 1 2),(24,.int .i64 o),(25,.ptr 1 3),(26,.sl opS l),(27,.int .i64 (l.length:Int)),(28,.int .i64 0)],blk:=[(1,.var [.bool li,.int .i64 m,.int .i64 o,.sl opS l])] })))):=by kernel_rfl
def qhr (li:Bool) (m o:Int) (l:List OpT) (i:Nat):List (Nat × LB):=[(1,.var [.bool li,.int .i64 m,.int .i64 o,.sl opS l]),(6,.var [.int .i64 (gtO l (i:Int).toNat).1,.int .i64 (gtO l (i:Int).toNat).2.1,.int .i64 (gtO l (i:Int).toNat).2.2.1,.int .u8 (gtO l (i:Int).toNat).2.2.2.1,.sl uB (gtO l (i:Int).toNat).2.2.2.2])]
theorem qn2 (li:Bool) (m o left:Int) (l:List OpT) (i:Nat) (Q:QT) (R:RT):sy tt G0 DC Tryd.f40.ntmps Tryd.f40.results.toList Q R 1000 (hd Tryd.f40 0) ⟨[(1,.ptr 1 0),(4,.int .i64 left),(26,.sl opS l),(27,.int .i64 l.length),(28,.int .i64 (i:Nat))],[(1,.var [.bool li,.int .i64 m,.int .i64 o,.sl opS l])]⟩ =
  (bc (decide ((i:Int)<(l.length:Int))) ((0:Int)<=(i:Int) /\
 (i:Int)<(l.length:Int) /\
 ctIsR.pre ((gtO l (i:Int).toNat),m,()) /\
 bc (!isRB (gtO l (i:Int).toNat) m) (true=true /\
 Q [.int .i64 (i:Int),.int .i64 60] (qhr li m o l i)) (bc (bif false then true else decide (left<(gtO l (i:Int).toNat).2.2.1)) (Q [.int .i64 (i:Int),.int .i64 60] (qhr li m o l i)) (R (hd Tryd.f40 0) { env:=[(1,.ptr 1 0),(4,.int .i64 (IntKind.i64.wrap (left-(gtO l (i:Int).toNat).2.2.1))),(5,.int .i64 (i:Int)),(6,.ptr 6 0),(26,.sl opS l),(27,.int .i64 (l.length:Int)),(28,.int .i64 (IntKind.i64.wrap ((i:Int)+1))),(29,.bool (decide ((i:Int)<(l.length:Int)))),(30,.int .i64 (i:Int)),(31,.elv opS (gtO l (i:Int).toNat)),(32,.agg [.int .i64 (gtO l (i:Int).toNat).1,.int .i64 (gtO l (i:Int).toNat).2.1,.int .i64 (gtO l (i:Int).toNat).2.2.1,.int .u8 (gtO l (i:Int).toNat).2.2.2.1,.sl uB (gtO l (i:Int).toNat).2.2.2.2]),(33,.agg [.int .i64 (gtO l (i:Int).toNat).1,.int .i64 (gtO l (i:Int).toNat).2.1,.int .i64 (gtO l (i:Int).toNat).2.2.1,.int .u8 (gtO l (i:Int).toNat).2.2.2.1,.sl uB (gtO l (i:Int).toNat).2.2.2.2]),(34,.ptr 1 1),(35,.int .i64 m),(36,.bool (isRB (gtO l (i:Int).toNat) m)),(37,.bool !isRB (gtO l (i:Int).toNat) m),(38,.bool false),(39,.ptr 6 2),(40,.int .i64 (gtO l (i:Int).toNat).2.2.1),(41,.int .i64 left),(42,.bool (decide (left<(gtO l (i:Int).toNat).2.2.1))),(43,.bool (bif false then true else decide (left<(gtO l (i:Int).toNat).2.2.1))),(45,.int .i64 left),(46,.ptr 6 2),(47,.int .i64 (gtO l (i:Int).toNat).2.2.1),(48,.int .i64 (IntKind.i64.wrap (left-(gtO l (i:Int).toNat).2.2.1))),(49,.int .i64 (IntKind.i64.wrap ((i:Int)+1)))],blk:=[(1,.var [.bool li,.int .i64 m,.int .i64 o,.sl opS l]),(6,.var [.int .i64 (gtO l (i:Int).toNat).1,.int .i64 (gtO l (i:Int).toNat).2.1,.int .i64 (gtO l (i:Int).toNat).2.2.1,.int .u8 (gtO l (i:Int).toNat).2.2.2.1,.sl uB (gtO l (i:Int).toNat).2.2.2.2])] }))) (bc (decide ((0:Int)<left)) (Q [.int .i64 (l.length:Int),.int .i64 60] [(1,.var [.bool li,.int .i64 m,.int .i64 o,.sl opS l])]) (Q [.int .i64 (l.length:Int),.int .i64 0] [(1,.var [.bool li,.int .i64 m,.int .i64 o,.sl opS l])]))):=by kernel_rfl
theorem q3v (l:List SyT) (m:Int) (Q:QT) (R:RT):sy tt G0 [] Tryd.f55.ntmps Tryd.f55.results.toList Q R 1000 [.code (qae Tryd.f55)] (entry [.sl syS,iI] (l,m,())) =
  (R (hd Tryd.f55 0) { env:=[(0,.sl syS l),(1,.int .i64 m),(4,.bool false),(8,.sl syS l),(9,.int .i64 (l.length:Int)),(10,.int .i64 0)],blk:=[] }):=by kernel_rfl
def qcw (l:List SyT) (i:Nat):List (Nat × LB):=[(6,.var [.bool (gtY l (i:Int).toNat).1,.int .i64 (gtY l (i:Int).toNat).2.1,.int .u8 (gtY l (i:Int).toNat).2.2])]
theorem qrk (l:List SyT) (m:Int) (i:Nat) (Q:QT) (R:RT):sy tt G0 [] Tryd.f55.ntmps Tryd.f55.results.toList Q R 1000 (hd Tryd.f55 0) ⟨[(1,.int .i64 m),(8,.sl syS l),(9,.int .i64 l.length),(10,.int .i64 (i:Nat))],[]⟩ =
  (bc (decide ((i:Int)<(l.length:Int))) ((0:Int)<=(i:Int) /\
 (i:Int)<(l.length:Int) /\
 bc (decide ((0:Int)<=(gtY l (i:Int).toNat).2.1)) (bc (gtY l (i:Int).toNat).1 (bc (bif true then !bif true then decide ((gtY l (i:Int).toNat).2.1<m) else false else false) (true=true /\
 Q [.bool false] (qcw l i)) (bc (!(gtY l (i:Int).toNat).1) (bc (bif false then true else bif true then decide ((gtY l (i:Int).toNat).2.1≠0) else false) (Q [.bool false] (qcw l i)) (R (hd Tryd.f55 0) { env:=[(1,.int .i64 m),(6,.ptr 6 0),(7,.bool (decide ((gtY l (i:Int).toNat).2.1<m))),(8,.sl syS l),(9,.int .i64 (l.length:Int)),(10,.int .i64 (IntKind.i64.wrap ((i:Int)+1))),(11,.bool (decide ((i:Int)<(l.length:Int)))),(12,.elv syS (gtY l (i:Int).toNat)),(13,.agg [.bool (gtY l (i:Int).toNat).1,.int .i64 (gtY l (i:Int).toNat).2.1,.int .u8 (gtY l (i:Int).toNat).2.2]),(14,.ptr 6 1),(15,.int .i64 (gtY l (i:Int).toNat).2.1),(16,.bool (decide ((0:Int)<=(gtY l (i:Int).toNat).2.1))),(17,.bool true),(18,.ptr 6 1),(19,.int .i64 (gtY l (i:Int).toNat).2.1),(20,.int .i64 m),(21,.bool (decide ((gtY l (i:Int).toNat).2.1<m))),(22,.bool (decide ((gtY l (i:Int).toNat).2.1<m))),(23,.ptr 6 0),(24,.bool (gtY l (i:Int).toNat).1),(25,.bool true),(26,.bool (decide ((gtY l (i:Int).toNat).2.1<m))),(27,.bool !bif true then decide ((gtY l (i:Int).toNat).2.1<m) else false),(28,.bool (bif true then !bif true then decide ((gtY l (i:Int).toNat).2.1<m) else false else false)),(29,.bool false),(30,.ptr 6 0),(31,.bool (gtY l (i:Int).toNat).1),(32,.bool !(gtY l (i:Int).toNat).1),(33,.bool true),(34,.ptr 6 1),(35,.int .i64 (gtY l (i:Int).toNat).2.1),(36,.bool (decide ((gtY l (i:Int).toNat).2.1≠0))),(37,.bool (decide ((gtY l (i:Int).toNat).2.1≠0))),(38,.bool (bif false then true else bif true then decide ((gtY l (i:Int).toNat).2.1≠0) else false)),(39,.int .i64 (IntKind.i64.wrap ((i:Int)+1)))],blk:=[(6,.var [.bool (gtY l (i:Int).toNat).1,.int .i64 (gtY l (i:Int).toNat).2.1,.int .u8 (gtY l (i:Int).toNat).2.2])] })) (false=false /\
 R (hd Tryd.f55 0) { env:=[(1,.int .i64 m),(6,.ptr 6 0),(7,.bool (decide ((gtY l (i:Int).toNat).2.1<m))),(8,.sl syS l),(9,.int .i64 (l.length:Int)),(10,.int .i64 (IntKind.i64.wrap ((i:Int)+1))),(11,.bool (decide ((i:Int)<(l.length:Int)))),(12,.elv syS (gtY l (i:Int).toNat)),(13,.agg [.bool (gtY l (i:Int).toNat).1,.int .i64 (gtY l (i:Int).toNat).2.1,.int .u8 (gtY l (i:Int).toNat).2.2]),(14,.ptr 6 1),(15,.int .i64 (gtY l (i:Int).toNat).2.1),(16,.bool (decide ((0:Int)<=(gtY l (i:Int).toNat).2.1))),(17,.bool true),(18,.ptr 6 1),(19,.int .i64 (gtY l (i:Int).toNat).2.1),(20,.int .i64 m),(21,.bool (decide ((gtY l (i:Int).toNat).2.1<m))),(22,.bool (decide ((gtY l (i:Int).toNat).2.1<m))),(23,.ptr 6 0),(24,.bool (gtY l (i:Int).toNat).1),(25,.bool true),(26,.bool (decide ((gtY l (i:Int).toNat).2.1<m))),(27,.bool !bif true then decide ((gtY l (i:Int).toNat).2.1<m) else false),(28,.bool (bif true then !bif true then decide ((gtY l (i:Int).toNat).2.1<m) else false else false)),(29,.bool false),(30,.ptr 6 0),(31,.bool (gtY l (i:Int).toNat).1),(32,.bool !(gtY l (i:Int).toNat).1),(33,.bool false),(34,SV.tup []),(35,SV.tup []),(36,SV.tup []),(37,.bool false),(38,.bool (bif false then true else false)),(39,.int .i64 (IntKind.i64.wrap ((i:Int)+1)))],blk:=[(6,.var [.bool (gtY l (i:Int).toNat).1,.int .i64 (gtY l (i:Int).toNat).2.1,.int .u8 (gtY l (i:Int).toNat).2.2])] }))) (false=false /\
 bc (!(gtY l (i:Int).toNat).1) (bc (bif false then true else bif true then decide ((gtY l (i:Int).toNat).2.1≠0) else false) (Q [.bool false] (qcw l i)) (R (hd Tryd.f55 0) { env:=[(1,.int .i64 m),(6,.ptr 6 0),(7,.bool (decide ((gtY l (i:Int).toNat).2.1<m))),(8,.sl syS l),(9,.int .i64 (l.length:Int)),(10,.int .i64 (IntKind.i64.wrap ((i:Int)+1))),(11,.bool (decide ((i:Int)<(l.length:Int)))),(12,.elv syS (gtY l (i:Int).toNat)),(13,.agg [.bool (gtY l (i:Int).toNat).1,.int .i64 (gtY l (i:Int).toNat).2.1,.int .u8 (gtY l (i:Int).toNat).2.2]),(14,.ptr 6 1),(15,.int .i64 (gtY l (i:Int).toNat).2.1),(16,.bool (decide ((0:Int)<=(gtY l (i:Int).toNat).2.1))),(17,.bool true),(18,.ptr 6 1),(19,.int .i64 (gtY l (i:Int).toNat).2.1),(20,.int .i64 m),(21,.bool (decide ((gtY l (i:Int).toNat).2.1<m))),(22,.bool (decide ((gtY l (i:Int).toNat).2.1<m))),(23,.ptr 6 0),(24,.bool (gtY l (i:Int).toNat).1),(25,.bool false),(26,SV.tup []),(27,SV.tup []),(28,.bool false),(29,.bool false),(30,.ptr 6 0),(31,.bool (gtY l (i:Int).toNat).1),(32,.bool !(gtY l (i:Int).toNat).1),(33,.bool true),(34,.ptr 6 1),(35,.int .i64 (gtY l (i:Int).toNat).2.1),(36,.bool (decide ((gtY l (i:Int).toNat).2.1≠0))),(37,.bool (decide ((gtY l (i:Int).toNat).2.1≠0))),(38,.bool (bif false then true else bif true then decide ((gtY l (i:Int).toNat).2.1≠0) else false)),(39,.int .i64 (IntKind.i64.wrap ((i:Int)+1)))],blk:=[(6,.var [.bool (gtY l (i:Int).toNat).1,.int .i64 (gtY l (i:Int).toNat).2.1,.int .u8 (gtY l (i:Int).toNat).2.2])] })) (false=false /\
 R (hd Tryd.f55 0) { env:=[(1,.int .i64 m),(6,.ptr 6 0),(7,.bool (decide ((gtY l (i:Int).toNat).2.1<m))),(8,.sl syS l),(9,.int .i64 (l.length:Int)),(10,.int .i64 (IntKind.i64.wrap ((i:Int)+1))),(11,.bool (decide ((i:Int)<(l.length:Int)))),(12,.elv syS (gtY l (i:Int).toNat)),(13,.agg [.bool (gtY l (i:Int).toNat).1,.int .i64 (gtY l (i:Int).toNat).2.1,.int .u8 (gtY l (i:Int).toNat).2.2]),(14,.ptr 6 1),(15,.int .i64 (gtY l (i:Int).toNat).2.1),(16,.bool (decide ((0:Int)<=(gtY l (i:Int).toNat).2.1))),(17,.bool true),(18,.ptr 6 1),(19,.int .i64 (gtY l (i:Int).toNat).2.1),(20,.int .i64 m),(21,.bool (decide ((gtY l (i:Int).toNat).2.1<m))),(22,.bool (decide ((gtY l (i:Int).toNat).2.1<m))),(23,.ptr 6 0),(24,.bool (gtY l (i:Int).toNat).1),(25,.bool false),(26,SV.tup []),(27,SV.tup []),(28,.bool false),(29,.bool false),(30,.ptr 6 0),(31,.bool (gtY l (i:Int).toNat).1),(32,.bool !(gtY l (i:Int).toNat).1),(33,.bool false),(34,SV.tup []),(35,SV.tup []),(36,SV.tup []),(37,.bool false),(38,.bool (bif false then true else false)),(39,.int .i64 (IntKind.i64.wrap ((i:Int)+1)))],blk:=[(6,.var [.bool (gtY l (i:Int).toNat).1,.int .i64 (gtY l (i:Int).toNat).2.1,.int .u8 (gtY l (i:Int).toNat).2.2])] }))) (false=false /\
 bc (gtY l (i:Int).toNat).1 (true=true /\
 Q [.bool false] (qcw l i)) (false=false /\
 bc (!(gtY l (i:Int).toNat).1) (bc (bif false then true else bif true then decide ((gtY l (i:Int).toNat).2.1≠0) else false) (Q [.bool false] (qcw l i)) (R (hd Tryd.f55 0) { env:=[(1,.int .i64 m),(6,.ptr 6 0),(7,.bool false),(8,.sl syS l),(9,.int .i64 (l.length:Int)),(10,.int .i64 (IntKind.i64.wrap ((i:Int)+1))),(11,.bool (decide ((i:Int)<(l.length:Int)))),(12,.elv syS (gtY l (i:Int).toNat)),(13,.agg [.bool (gtY l (i:Int).toNat).1,.int .i64 (gtY l (i:Int).toNat).2.1,.int .u8 (gtY l (i:Int).toNat).2.2]),(14,.ptr 6 1),(15,.int .i64 (gtY l (i:Int).toNat).2.1),(16,.bool (decide ((0:Int)<=(gtY l (i:Int).toNat).2.1))),(17,.bool false),(18,SV.tup []),(19,SV.tup []),(20,SV.tup []),(21,SV.tup []),(22,.bool false),(23,.ptr 6 0),(24,.bool (gtY l (i:Int).toNat).1),(25,.bool false),(26,SV.tup []),(27,SV.tup []),(28,.bool false),(29,.bool false),(30,.ptr 6 0),(31,.bool (gtY l (i:Int).toNat).1),(32,.bool !(gtY l (i:Int).toNat).1),(33,.bool true),(34,.ptr 6 1),(35,.int .i64 (gtY l (i:Int).toNat).2.1),(36,.bool (decide ((gtY l (i:Int).toNat).2.1≠0))),(37,.bool (decide ((gtY l (i:Int).toNat).2.1≠0))),(38,.bool (bif false then true else bif true then decide ((gtY l (i:Int).toNat).2.1≠0) else false)),(39,.int .i64 (IntKind.i64.wrap ((i:Int)+1)))],blk:=[(6,.var [.bool (gtY l (i:Int).toNat).1,.int .i64 (gtY l (i:Int).toNat).2.1,.int .u8 (gtY l (i:Int).toNat).2.2])] })) (false=false /\
 R (hd Tryd.f55 0) { env:=[(1,.int .i64 m),(6,.ptr 6 0),(7,.bool false),(8,.sl syS l),(9,.int .i64 (l.length:Int)),(10,.int .i64 (IntKind.i64.wrap ((i:Int)+1))),(11,.bool (decide ((i:Int)<(l.length:Int)))),(12,.elv syS (gtY l (i:Int).toNat)),(13,.agg [.bool (gtY l (i:Int).toNat).1,.int .i64 (gtY l (i:Int).toNat).2.1,.int .u8 (gtY l (i:Int).toNat).2.2]),(14,.ptr 6 1),(15,.int .i64 (gtY l (i:Int).toNat).2.1),(16,.bool (decide ((0:Int)<=(gtY l (i:Int).toNat).2.1))),(17,.bool false),(18,SV.tup []),(19,SV.tup []),(20,SV.tup []),(21,SV.tup []),(22,.bool false),(23,.ptr 6 0),(24,.bool (gtY l (i:Int).toNat).1),(25,.bool false),(26,SV.tup []),(27,SV.tup []),(28,.bool false),(29,.bool false),(30,.ptr 6 0),(31,.bool (gtY l (i:Int).toNat).1),(32,.bool !(gtY l (i:Int).toNat).1),(33,.bool false),(34,SV.tup []),(35,SV.tup []),(36,SV.tup []),(37,.bool false),(38,.bool (bif false then true else false)),(39,.int .i64 (IntKind.i64.wrap ((i:Int)+1)))],blk:=[(6,.var [.bool (gtY l (i:Int).toNat).1,.int .i64 (gtY l (i:Int).toNat).2.1,.int .u8 (gtY l (i:Int).toNat).2.2])] })))) (Q [.bool true] [])):=by kernel_rfl
def qgx (s t:SyT):List (Nat × LB):=[(2,.var [.bool s.1,.int .i64 s.2.1,.int .u8 s.2.2]),(3,.var [.bool t.1,.int .i64 t.2.1,.int .u8 t.2.2])]
theorem q3s (s t:SyT) (Q:QT) (R:RT):sy tt G0 C1 Tryd.f62.ntmps Tryd.f62.results.toList Q R 1000 [.code (qae Tryd.f62)] (entry [syS,syS] (s,t,())) =
  (ctKnd.pre (s,()) /\
 ctKnd.pre (t,()) /\
 bc (decide (kndB s=kndB t)) (bc (!s.1) (true=true /\
 Q [.bool true] (qgx s t)) (Q [.bool (decide (t.2.1=IntKind.i64.wrap (s.2.1+1)))] (qgx s t))) (false=false /\
 Q [.bool false] (qgx s t))):=by kernel_rfl
theorem qyv (k a:Int) (b:List Int) (l:List SyT) (i:Nat) (Q:QT) (R:RT):sy tt G0 C1 Tryd.f63.ntmps Tryd.f63.results.toList Q R 1000 (hd Tryd.f63 0) ⟨[(2,.ptr 2 0),(3,.ptr 3 0),(25,.sl syS l),(26,.int .i64 l.length),(27,.int .i64 (i:Nat))],[(2,.var [.int .i64 0,.int .i64 0,.int .i64 0,.int .u8 0,.nils]),(3,.var [.int .i64 k,.int .i64 a,.int .i64 l.length,.int .u8 0,.win true uB 23 0 b.length]),(23,.row 5 uB b)]⟩ =
  (bc (decide ((i:Int)<(l.length:Int))) ((0:Int)<=(i:Int) /\
 (i:Int)<(l.length:Int) /\
 (0:Int)<=(i:Int) /\
 (i:Int)<(b.length:Int) /\
 (0:Nat)+(i:Int).toNat<b.length /\
 R (hd Tryd.f63 0) { env:=[(2,.ptr 2 0),(3,.ptr 3 0),(4,.int .i64 (i:Int)),(5,.ptr 5 0),(25,.sl syS l),(26,.int .i64 (l.length:Int)),(27,.int .i64 (IntKind.i64.wrap ((i:Int)+1))),(28,.bool (decide ((i:Int)<(l.length:Int)))),(29,.int .i64 (i:Int)),(30,.elv syS (gtY l (i:Int).toNat)),(31,.agg [.bool (gtY l (i:Int).toNat).1,.int .i64 (gtY l (i:Int).toNat).2.1,.int .u8 (gtY l (i:Int).toNat).2.2]),(32,.ptr 3 4),(33,.win true uB 23 0 b.length),(34,.int .i64 (i:Int)),(35,.ptr 5 2),(36,.int .u8 (gtY l (i:Int).toNat).2.2),(37,.elp uB (23:Nat) ((0:Nat)+(i:Int).toNat) (0:Nat)),(38,.int .i64 (IntKind.i64.wrap ((i:Int)+1)))],blk:=[(2,.var [.int .i64 0,.int .i64 0,.int .i64 0,.int .u8 0,.nils]),(3,.var [.int .i64 k,.int .i64 a,.int .i64 (l.length:Int),.int .u8 0,.win true uB 23 0 b.length]),(5,.var [.bool (gtY l (i:Int).toNat).1,.int .i64 (gtY l (i:Int).toNat).2.1,.int .u8 (gtY l (i:Int).toNat).2.2]),(23,.row 5 uB (b.set ((0:Nat)+(i:Int).toNat) (gtY l (i:Int).toNat).2.2))] }) (Q [.agg [.int .i64 k,.int .i64 a,.int .i64 (l.length:Int),.int .u8 0,.win true uB 23 0 b.length]] [(2,.var [.int .i64 k,.int .i64 a,.int .i64 (l.length:Int),.int .u8 0,.win true uB 23 0 b.length]),(3,.var [.int .i64 k,.int .i64 a,.int .i64 (l.length:Int),.int .u8 0,.win true uB 23 0 b.length]),(23,.row 5 uB b)])):=by kernel_rfl
theorem q3h (l:List SyT) (Q:QT) (R:RT):sy tt G0 C1 Tryd.f63.ntmps Tryd.f63.results.toList Q R 1000 [.code (qae Tryd.f63)] (entry [.sl syS] (l,())) =
  ((0:Int)<=0 /\
 (0:Int)<(l.length:Int) /\
 ctKnd.pre ((gtY l (0)),()) /\
 (0:Int)<=0 /\
 (0:Int)<(l.length:Int) /\
 bc (decide (kndB (gtY l (0))=(1:Int))) (Q [.agg [.int .i64 (kndB (gtY l (0))),.int .i64 (gtY l (0)).2.1,.int .i64 (l.length:Int),.int .u8 0,.nils]] [(2,.var [.int .i64 (kndB (gtY l (0))),.int .i64 (gtY l (0)).2.1,.int .i64 (l.length:Int),.int .u8 0,.nils]),(3,.var [.int .i64 (kndB (gtY l (0))),.int .i64 (gtY l (0)).2.1,.int .i64 (l.length:Int),.int .u8 0,.nils])]) ((0:Int)<=(l.length:Int) /\
 (l.length:Int)<=(l.length:Int) /\
 (l.length:Int)<2 ^ 24 /\
 (↑(1:Nat):Int)*(l.length:Int)<=2 ^ 48 /\
 R (hd Tryd.f63 0) { env:=[(0,.sl syS l),(2,.ptr 2 0),(3,.ptr 3 0),(6,.sl syS l),(7,.elv syS (gtY l (0))),(8,.agg [.bool (gtY l (0)).1,.int .i64 (gtY l (0)).2.1,.int .u8 (gtY l (0)).2.2]),(9,.int .i64 (kndB (gtY l (0)))),(10,.sl syS l),(11,.elv syS (gtY l (0))),(12,.elv iI (gtY l (0)).2.1),(13,.int .i64 (gtY l (0)).2.1),(14,.sl syS l),(15,.int .i64 (l.length:Int)),(16,.agg [.int .i64 (kndB (gtY l (0))),.int .i64 (gtY l (0)).2.1,.int .i64 (l.length:Int),.int .u8 0,.nils]),(17,.ptr 3 0),(18,.int .i64 (kndB (gtY l (0)))),(19,.bool (decide (kndB (gtY l (0))=(1:Int)))),(21,.sl syS l),(22,.int .i64 (l.length:Int)),(23,.win true uB 23 0 (l.length:Int).toNat),(24,.ptr 3 4),(25,.sl syS l),(26,.int .i64 (l.length:Int)),(27,.int .i64 0)],blk:=[(2,.var [.int .i64 0,.int .i64 0,.int .i64 0,.int .u8 0,.nils]),(3,.var [.int .i64 (kndB (gtY l (0))),.int .i64 (gtY l (0)).2.1,.int .i64 (l.length:Int),.int .u8 0,.win true uB 23 0 (l.length:Int).toNat]),(23,.row 5 uB (List.replicate (l.length:Int).toNat uB.dflt))] })):=by kernel_rfl
end Go.Proofs.YticpkibnhakgbaaDoor
namespace Go.Proofs.YticpkibnhakgbaaDoor
open Go.Px Go.Ax
set_option maxRecDepth 100000
attribute [local irreducible] Go.Px.sy Go.Px.syE
theorem gtE {e:Sh} {l:List e.D} {i:Nat} (h:i<l.length):gt e l i=l[i]:=by
 show (l[i]?).getD _=l[i]
 rw[List.getElem?_eq_getElem h];rfl
theorem qgh {l:List OpT} {i:Nat} (h:i<l.length):gtO l i=l[i]:=gtE (e:=opS) h
theorem qbi {l:List SyT} {i:Nat} (h:i<l.length):gtY l i=l[i]:=gtE (e:=syS) h
theorem qug {α:Type} {l:List α} {i:Nat} (h:i<l.length):l.drop i=l[i]::l.drop (i+1):=List.drop_eq_getElem_cons h
abbrev GD (f:Nat) (fn:Func) (Q:List SV->List (Nat × LB)->Prop) (it:List Item) (S:PS):Prop:=Px.Good Tryd.prog tt G0 f fn.ntmps fn.results.toList Q it S
def szB (n:Int):Bool:=decide (0<=n)&&decide (n<=65536)
def chkF (m N:Int):List OpT->Int->Int->Int × Int
 | [],left,_=>if 0<left then (N,60) else (N,0)
 | x::l,left,i=>if isRB x m=false then (i,60) else if left<x.2.2.1 then (i,60) else chkF m N l (left-x.2.2.1) (i+1)
def chkV (p:PaT):Int × Int:=if szB p.2.1=true/\szB p.2.2.1=true/\p.2.2.2.length<=4096 then chkF p.2.1 p.2.2.2.length p.2.2.2 p.2.2.1 0 else (-1,60)
def ctChk:Ctr:=⟨[paS],fun _=>True,fun x=>[.int .i64 (chkV x.1).1,.int .i64 (chkV x.1).2],fun _=>[]⟩
theorem qdp {x:OpT} {m:Int} (h:isRB x m=true):1<=x.2.2.1/\x.2.2.1<=65536:=by
 unfold isRB at h;simp only[Bool.and_eq_true,decide_eq_true_eq] at h;exact ⟨h.1,h.2.1⟩
theorem q06 (li:Bool) (m o:Int) (l:List OpT) (hl:l.length<=4096):∀ (k i:Nat) (left:Int),l.length-i=k->i<=l.length->0<=left/\left<=65536 ->
  GD 40 Tryd.f40 (fun rs _=>rs=[.int .i64 (chkF m l.length (l.drop i) left i).1,.int .i64 (chkF m l.length (l.drop i) left i).2]) (hd Tryd.f40 0) ⟨[(1,.ptr 1 0),(4,.int .i64 left),(26,.sl opS l),(27,.int .i64 l.length),(28,.int .i64 (i:Nat))],[(1,.var [.bool li,.int .i64 m,.int .i64 o,.sl opS l])]⟩:=by
 intro k
 induction k with
 | zero=>
  intro i left hk hi hb;have hi:i=l.length:=by omega
  subst hi;refine qak dxC _ _ _ ((qn2 li m o left l _ _ _).mpr ?_);rw[decide_eq_false (by omega),bc_f,List.drop_length];refine qaf (fun h=>?_) (fun h=>?_)
  ·rw[chkF,if_pos (of_decide_eq_true h)]
  ·rw[chkF,if_neg (of_decide_eq_false h)]
 | succ k ih=>
  intro i left hk hi hb;have hil:i<l.length:=by omega
  refine qak dxC _ _ _ ((qn2 li m o left l i _ _).mpr ?_);rw[decide_eq_true (show (i:Int)<(l.length:Int) by omega),bc_t,Int.toNat_natCast,qgh hil,qug hil];refine ⟨by omega,by omega,trivial,qaf (fun h=>⟨rfl,?_⟩) (fun h=>qaf (fun h2=>?_) (fun h2=>?_))⟩
  ·rw[chkF,if_pos (by simpa using h)]
  ·have h:isRB l[i] m=true:=by simpa using h
   rw[chkF,if_neg (by rw[h];decide),if_pos (of_decide_eq_true h2)]
  ·have h:isRB l[i] m=true:=by simpa using h
   have hn:=qdp h;have h2:¬ left<l[i].2.2.1:=of_decide_eq_false h2;rw[chkF,if_neg (by rw[h];decide),if_neg h2,IntWalk.i64_in (left-l[i].2.2.1) (by omega),IntWalk.i64_in ((i:Int)+1) (by omega)];exact (ih (i+1) (left-l[i].2.2.1) (by omega) (by omega) (by omega)).only ⟨rfl,rfl,rfl,rfl,rfl,trivial⟩ ⟨rfl,trivial⟩
theorem q07:Held Tryd.prog G0 40 ctChk:=by
 refine Held.run dxC (fn:=Tryd.f40) rfl rfl ⟨by decide,by decide⟩ ?_;rintro ⟨⟨li,m,o,l⟩,⟨⟩⟩ _;refine (qy6 li m o l _ _).mpr ⟨trivial,qaf (fun h=>⟨rfl,rfl,?_⟩) (fun h=>⟨trivial,qaf (fun h2=>⟨rfl,?_⟩) (fun h2=>qaf (fun h3=>?_) (fun h3=>?_))⟩)⟩
 ·have hv:chkV (li,m,o,l)=(-1,60):=if_neg fun q=>by
   have h:(!szB m)=true:=h;rw[q.1] at h;cases h
  exact QC.flat (by simp only[ctChk,hv]) rfl rfl
 ·have hv:chkV (li,m,o,l)=(-1,60):=if_neg fun q=>by
   have h2:(!szB o)=true:=h2;rw[q.2.1] at h2;cases h2
  exact QC.flat (by simp only[ctChk,hv]) rfl rfl
 ·have hv:chkV (li,m,o,l)=(-1,60):=if_neg fun q=>by
   have h3:(4096:Int)<(l.length:Int):=of_decide_eq_true h3;have:=q.2.2;simp only at this;omega
  exact QC.flat (by simp only[ctChk,hv]) rfl rfl
 ·have h:szB m=true:=by
   have h:(!szB m)=false:=h;simpa using h
  have h2:szB o=true:=by
   have h2:(!szB o)=false:=h2;simpa using h2
  have h3:l.length<=4096:=by
   have h3:¬ (4096:Int)<(l.length:Int):=of_decide_eq_false h3;omega
  have hv:chkV (li,m,o,l)=chkF m l.length l o 0:=if_pos ⟨h,h2,h3⟩;have ho:0<=o/\o<=65536:=by
   unfold szB at h2;simpa only[Bool.and_eq_true,decide_eq_true_eq] using h2
  have e:=q06 li m o l h3 _ 0 o rfl (by omega) ho;refine (e.post fun rs blk hq=>QC.flat ?_ rfl (by rw[hq];rfl)).only ⟨rfl,rfl,rfl,rfl,rfl,trivial⟩ ⟨rfl,trivial⟩;rw[hq];simp only[ctChk,hv];rfl
def goB (s t:SyT):Bool:=decide (kndB s=kndB t)&&(!s.1 || decide (t.2.1=IntKind.i64.wrap (s.2.1+1)))
def ctGo:Ctr:=⟨[syS,syS],fun _=>True,fun x=>[.bool (goB x.1 x.2.1)],fun _=>[]⟩
theorem q5p:Held Tryd.prog G0 62 ctGo:=by
 refine Held.run cx1 (fn:=Tryd.f62) rfl rfl ⟨by decide,by decide⟩ ?_;rintro ⟨s,t,⟨⟩⟩ _;refine (q3s s t _ _).mpr ⟨trivial,trivial,qaf (fun h=>qaf (fun h2=>⟨rfl,?_⟩) (fun h2=>?_)) (fun h=>⟨rfl,?_⟩)⟩
 ·exact QC.flat (by simp only[ctGo,goB,h,h2];rfl) rfl rfl
 ·exact QC.flat (by simp only[ctGo,goB,h,h2];rfl) rfl rfl
 ·exact QC.flat (by simp only[ctGo,goB,h];rfl) rfl rfl
def sOK (m:Int) (s:SyT):Bool:=if s.1=true then decide (0<=s.2.1)&&decide (s.2.1<m) else decide (s.2.1=0)
def ctAre:Ctr:=⟨[.sl syS,iI],fun x=>List.length x.1<1099511627776,fun x=>[.bool (List.all x.1 (sOK x.2.1))],fun _=>[]⟩
theorem q1e (l:List SyT) (m:Int) (hl:l.length<1099511627776):∀ (k i:Nat),l.length-i=k->i<=l.length ->
  GD 55 Tryd.f55 (fun rs _=>rs=[.bool ((l.drop i).all (sOK m))]) (hd Tryd.f55 0) ⟨[(1,.int .i64 m),(8,.sl syS l),(9,.int .i64 l.length),(10,.int .i64 (i:Nat))],[]⟩:=by
 intro k
 induction k with
 | zero=>
  intro i hk hi;have hi:i=l.length:=by omega
  subst hi;refine qak cx0 _ _ _ ((qrk l m _ _ _).mpr ?_);rw[decide_eq_false (by omega),bc_f,List.drop_length];rfl
 | succ k ih=>
  intro i hk hi;have hil:i<l.length:=by omega
  refine qak cx0 _ _ _ ((qrk l m i _ _).mpr ?_);rw[decide_eq_true (show (i:Int)<(l.length:Int) by omega),bc_t,Int.toNat_natCast,qbi hil,qug hil];generalize hs:l[i]=s;obtain ⟨o,a,b⟩:=s;have go:sOK m (o,a,b)=true->GD 55 Tryd.f55 (fun rs _=>rs=[.bool (((o,a,b)::l.drop (i+1)).all (sOK m))]) (hd Tryd.f55 0) ⟨[(1,.int .i64 m),(8,.sl syS l),(9,.int .i64 l.length),(10,.int .i64 ((i+1:Nat):Int))],[]⟩:=fun h=>by
   have:=ih (i+1) (by omega) (by omega);rw[List.all_cons,h,Bool.true_and];exact this
  rw[IntWalk.i64_in ((i:Int)+1) (by omega)];refine ⟨by omega,by omega,?_⟩;have fin:sOK m (o,a,b)=false->[SV.bool false]=[SV.bool (((o,a,b)::l.drop (i+1)).all (sOK m))]:=fun h=>by
   rw[List.all_cons,h,Bool.false_and]
  rcases o with _ | _ <;> cases e0:decide (0<=a) <;> cases e1:decide (a<m) <;> cases e2:decide (a=0) <;>
   simp only[e0,e1,e2,decide_not,bc_t,bc_f,cond_true,cond_false,Bool.not_true,Bool.not_false,true_and,ne_eq] <;>
   first
   | (exact (go (by simp only[sOK,e0,e1,e2];rfl)).only ⟨rfl,rfl,rfl,rfl,trivial⟩ trivial)
   | (exact fin (by simp only[sOK,e0,e1,e2];rfl))
theorem q1f:Held Tryd.prog G0 55 ctAre:=by
 refine Held.run cx0 (fn:=Tryd.f55) rfl rfl ⟨by decide,by decide⟩ ?_;rintro ⟨l,m,⟨⟩⟩ hp;replace hp:l.length<1099511627776:=hp;refine (q3v l m _ _).mpr ?_;refine ((q1e l m hp _ 0 rfl (by omega)).post fun rs blk hq=>QC.flat ?_ rfl (by rw[hq];rfl)).only ⟨rfl,rfl,rfl,rfl,trivial⟩ trivial;rw[hq];rfl
end Go.Proofs.YticpkibnhakgbaaDoor
namespace Go.Proofs.YticpkibnhakgbaaDoor
open Go.Px Go.Ax
def mdO (l:List SyT):OpT:=(kndB (gtY l 0),(gtY l 0).2.1,l.length,0,if kndB (gtY l 0)=1 then [] else l.map fun s=>s.2.2)
def mdV (x:OpT):List SV:=[.agg [.int .i64 x.1,.int .i64 x.2.1,.int .i64 x.2.2.1,.int .u8 x.2.2.2.1,.sl uB x.2.2.2.2]]
def qtu (l:List SyT):Prop:=0<l.length/\l.length<16777216
def ctMd:Ctr:=⟨[.sl syS],fun x=>qtu x.1,fun x=>mdV (mdO x.1),fun _=>[]⟩
def DO:CV:=(63,.inl ctMd)::(62,.inl ctGo)::C1
set_option maxRecDepth 100000
theorem qyw (k a:Int) (d:List Int) (l:List SyT) (i:Nat) (Q:QT) (R:RT):sy tt G0 C1 Tryd.f63.ntmps Tryd.f63.results.toList Q R 1000 (hd Tryd.f63 0) ⟨[(2,.ptr 2 0),(3,.ptr 3 0),(25,.sl syS l),(26,.int .i64 l.length),(27,.int .i64 (i:Nat))],[(2,.var [.int .i64 0,.int .i64 0,.int .i64 0,.int .u8 0,.nils]),(3,.var [.int .i64 k,.int .i64 a,.int .i64 l.length,.int .u8 0,.sl uB d])]⟩ =
  (bc (decide ((i:Int)<(l.length:Int))) ((0:Int)<=(i:Int) /\
 (i:Int)<(l.length:Int) /\
 (0:Int)<=(i:Int) /\
 (i:Int)<(d.length:Int) /\
 False) (Q [.agg [.int .i64 k,.int .i64 a,.int .i64 (l.length:Int),.int .u8 0,.sl uB d]] [(2,.var [.int .i64 k,.int .i64 a,.int .i64 (l.length:Int),.int .u8 0,.sl uB d]),(3,.var [.int .i64 k,.int .i64 a,.int .i64 (l.length:Int),.int .u8 0,.sl uB d])])):=by kernel_rfl
theorem q15 (l:List SyT) (Q:QT) (R:RT):sy tt G0 DO Tryd.f56.ntmps Tryd.f56.results.toList Q R 1000 [.code (qae Tryd.f56)] (entry [.sl syS] (l,())) =
  (R (hd Tryd.f56 0) { env:=[(0,.sl syS l),(2,.nils),(3,.nils),(4,.int .i64 0),(5,.int .i64 1)],blk:=[] }):=by kernel_rfl
theorem qu6 (l:List SyT) (a i:Nat) (Q:QT) (R:RT):sy tt G0 DO Tryd.f56.ntmps Tryd.f56.results.toList Q R 1000 (hd Tryd.f56 0) ⟨[(0,.sl syS l),(3,.nils),(4,.int .i64 (a:Nat)),(5,.int .i64 (i:Nat))],[]⟩ =
  (bc (decide ((i:Int)<=(l.length:Int))) (bc (decide ((i:Int)=(l.length:Int))) (true=true /\
 (0:Int)<=(a:Int) /\
 (a:Int)<=(i:Int) /\
 (i:Int)<=(l.length:Int) /\
 ctMd.pre (Px.part l (some (a:Int)) (some (i:Int)),()) /\
 (0:Nat)+1<=([(mdO (Px.part l (some (a:Int)) (some (i:Int))))]:List opS.D).length /\
 (([(mdO (Px.part l (some (a:Int)) (some (i:Int))))]:List opS.D)).length<2 ^ 30 /\
 (56:Nat)<=2 ^ 10 /\
 R (hd Tryd.f56 0) { env:=[(0,.sl syS l),(3,.win true opS 36 0 (1:Nat)),(4,.int .i64 (i:Int)),(5,.int .i64 (IntKind.i64.wrap ((i:Int)+1))),(6,.int .i64 (i:Int)),(7,.sl syS l),(8,.int .i64 (l.length:Int)),(9,.bool (decide ((i:Int)<=(l.length:Int)))),(10,.int .i64 (i:Int)),(11,.int .i64 (IntKind.i64.wrap ((i:Int)+1))),(12,.int .i64 (i:Int)),(13,.sl syS l),(14,.int .i64 (l.length:Int)),(15,.bool (decide ((i:Int)=(l.length:Int)))),(16,.bool true),(17,SV.tup []),(18,SV.tup []),(19,SV.tup []),(20,SV.tup []),(21,SV.tup []),(22,SV.tup []),(23,SV.tup []),(24,SV.tup []),(25,SV.tup []),(26,SV.tup []),(27,SV.tup []),(28,.bool true),(29,.nils),(30,.sl syS l),(31,.int .i64 (a:Int)),(32,.int .i64 (i:Int)),(33,.sl syS (Px.part l (some (a:Int)) (some (i:Int)))),(34,.agg [.int .i64 (mdO (Px.part l (some (a:Int)) (some (i:Int)))).1,.int .i64 (mdO (Px.part l (some (a:Int)) (some (i:Int)))).2.1,.int .i64 (mdO (Px.part l (some (a:Int)) (some (i:Int)))).2.2.1,.int .u8 (mdO (Px.part l (some (a:Int)) (some (i:Int)))).2.2.2.1,.sl uB (mdO (Px.part l (some (a:Int)) (some (i:Int)))).2.2.2.2]),(35,.win true opS 35 0 (1:Nat)),(36,.win true opS 36 0 (1:Nat)),(37,.int .i64 (i:Int))],blk:=[(35,.row 69 opS ([(mdO (Px.part l (some (a:Int)) (some (i:Int))))]:List opS.D)),(36,.row 69 opS (([(mdO (Px.part l (some (a:Int)) (some (i:Int))))]:List opS.D)))] }) ((0:Int)<=IntKind.i64.wrap ((i:Int)-1) /\
 IntKind.i64.wrap ((i:Int)-1)<(l.length:Int) /\
 (0:Int)<=(i:Int) /\
 (i:Int)<(l.length:Int) /\
 ctGo.pre ((gtY l (IntKind.i64.wrap ((i:Int)-1)).toNat),(gtY l (i:Int).toNat),()) /\
 bc (bif false then true else !goB (gtY l (IntKind.i64.wrap ((i:Int)-1)).toNat) (gtY l (i:Int).toNat)) ((0:Int)<=(a:Int) /\
 (a:Int)<=(i:Int) /\
 (i:Int)<=(l.length:Int) /\
 ctMd.pre (Px.part l (some (a:Int)) (some (i:Int)),()) /\
 (0:Nat)+1<=([(mdO (Px.part l (some (a:Int)) (some (i:Int))))]:List opS.D).length /\
 (([(mdO (Px.part l (some (a:Int)) (some (i:Int))))]:List opS.D)).length<2 ^ 30 /\
 (56:Nat)<=2 ^ 10 /\
 R (hd Tryd.f56 0) { env:=[(0,.sl syS l),(3,.win true opS 36 0 (1:Nat)),(4,.int .i64 (i:Int)),(5,.int .i64 (IntKind.i64.wrap ((i:Int)+1))),(6,.int .i64 (i:Int)),(7,.sl syS l),(8,.int .i64 (l.length:Int)),(9,.bool (decide ((i:Int)<=(l.length:Int)))),(10,.int .i64 (i:Int)),(11,.int .i64 (IntKind.i64.wrap ((i:Int)+1))),(12,.int .i64 (i:Int)),(13,.sl syS l),(14,.int .i64 (l.length:Int)),(15,.bool (decide ((i:Int)=(l.length:Int)))),(16,.bool false),(17,.sl syS l),(18,.int .i64 (i:Int)),(19,.int .i64 (IntKind.i64.wrap ((i:Int)-1))),(20,.elv syS (gtY l (IntKind.i64.wrap ((i:Int)-1)).toNat)),(21,.agg [.bool (gtY l (IntKind.i64.wrap ((i:Int)-1)).toNat).1,.int .i64 (gtY l (IntKind.i64.wrap ((i:Int)-1)).toNat).2.1,.int .u8 (gtY l (IntKind.i64.wrap ((i:Int)-1)).toNat).2.2]),(22,.sl syS l),(23,.int .i64 (i:Int)),(24,.elv syS (gtY l (i:Int).toNat)),(25,.agg [.bool (gtY l (i:Int).toNat).1,.int .i64 (gtY l (i:Int).toNat).2.1,.int .u8 (gtY l (i:Int).toNat).2.2]),(26,.bool (goB (gtY l (IntKind.i64.wrap ((i:Int)-1)).toNat) (gtY l (i:Int).toNat))),(27,.bool !goB (gtY l (IntKind.i64.wrap ((i:Int)-1)).toNat) (gtY l (i:Int).toNat)),(28,.bool (bif false then true else !goB (gtY l (IntKind.i64.wrap ((i:Int)-1)).toNat) (gtY l (i:Int).toNat))),(29,.nils),(30,.sl syS l),(31,.int .i64 (a:Int)),(32,.int .i64 (i:Int)),(33,.sl syS (Px.part l (some (a:Int)) (some (i:Int)))),(34,.agg [.int .i64 (mdO (Px.part l (some (a:Int)) (some (i:Int)))).1,.int .i64 (mdO (Px.part l (some (a:Int)) (some (i:Int)))).2.1,.int .i64 (mdO (Px.part l (some (a:Int)) (some (i:Int)))).2.2.1,.int .u8 (mdO (Px.part l (some (a:Int)) (some (i:Int)))).2.2.2.1,.sl uB (mdO (Px.part l (some (a:Int)) (some (i:Int)))).2.2.2.2]),(35,.win true opS 35 0 (1:Nat)),(36,.win true opS 36 0 (1:Nat)),(37,.int .i64 (i:Int))],blk:=[(35,.row 69 opS ([(mdO (Px.part l (some (a:Int)) (some (i:Int))))]:List opS.D)),(36,.row 69 opS (([(mdO (Px.part l (some (a:Int)) (some (i:Int))))]:List opS.D)))] }) (R (hd Tryd.f56 0) { env:=[(0,.sl syS l),(3,.nils),(4,.int .i64 (a:Int)),(5,.int .i64 (IntKind.i64.wrap ((i:Int)+1))),(6,.int .i64 (i:Int)),(7,.sl syS l),(8,.int .i64 (l.length:Int)),(9,.bool (decide ((i:Int)<=(l.length:Int)))),(10,.int .i64 (i:Int)),(11,.int .i64 (IntKind.i64.wrap ((i:Int)+1))),(12,.int .i64 (i:Int)),(13,.sl syS l),(14,.int .i64 (l.length:Int)),(15,.bool (decide ((i:Int)=(l.length:Int)))),(16,.bool false),(17,.sl syS l),(18,.int .i64 (i:Int)),(19,.int .i64 (IntKind.i64.wrap ((i:Int)-1))),(20,.elv syS (gtY l (IntKind.i64.wrap ((i:Int)-1)).toNat)),(21,.agg [.bool (gtY l (IntKind.i64.wrap ((i:Int)-1)).toNat).1,.int .i64 (gtY l (IntKind.i64.wrap ((i:Int)-1)).toNat).2.1,.int .u8 (gtY l (IntKind.i64.wrap ((i:Int)-1)).toNat).2.2]),(22,.sl syS l),(23,.int .i64 (i:Int)),(24,.elv syS (gtY l (i:Int).toNat)),(25,.agg [.bool (gtY l (i:Int).toNat).1,.int .i64 (gtY l (i:Int).toNat).2.1,.int .u8 (gtY l (i:Int).toNat).2.2]),(26,.bool (goB (gtY l (IntKind.i64.wrap ((i:Int)-1)).toNat) (gtY l (i:Int).toNat))),(27,.bool !goB (gtY l (IntKind.i64.wrap ((i:Int)-1)).toNat) (gtY l (i:Int).toNat)),(28,.bool (bif false then true else !goB (gtY l (IntKind.i64.wrap ((i:Int)-1)).toNat) (gtY l (i:Int).toNat)))],blk:=[] }))) (Q [.nils] [])):=by kernel_rfl
theorem q3g (l:List SyT) (o:List OpT) (a i:Nat) (Q:QT) (R:RT):sy tt G0 DO Tryd.f56.ntmps Tryd.f56.results.toList Q R 1000 (hd Tryd.f56 0) ⟨[(0,.sl syS l),(3,.win true opS 3 0 o.length),(4,.int .i64 (a:Nat)),(5,.int .i64 (i:Nat))],[(3,.row 69 opS o)]⟩ =
  (bc (decide ((i:Int)<=(l.length:Int))) (bc (decide ((i:Int)=(l.length:Int))) (true=true /\
 (0:Int)<=(a:Int) /\
 (a:Int)<=(i:Int) /\
 (i:Int)<=(l.length:Int) /\
 ctMd.pre (Px.part l (some (a:Int)) (some (i:Int)),()) /\
 (0:Nat)+1<=([(mdO (Px.part l (some (a:Int)) (some (i:Int))))]:List opS.D).length /\
 o.length=o.length /\
 (0:Nat)=(0:Nat) /\
 o.length+(([(mdO (Px.part l (some (a:Int)) (some (i:Int))))]:List opS.D)).length<2 ^ 30 /\
 (56:Nat)<=2 ^ 10 /\
 R (hd Tryd.f56 0) { env:=[(0,.sl syS l),(3,.win true opS 36 0 (o.length+(([(mdO (Px.part l (some (a:Int)) (some (i:Int))))]:List opS.D)).length)),(4,.int .i64 (i:Int)),(5,.int .i64 (IntKind.i64.wrap ((i:Int)+1))),(6,.int .i64 (i:Int)),(7,.sl syS l),(8,.int .i64 (l.length:Int)),(9,.bool (decide ((i:Int)<=(l.length:Int)))),(10,.int .i64 (i:Int)),(11,.int .i64 (IntKind.i64.wrap ((i:Int)+1))),(12,.int .i64 (i:Int)),(13,.sl syS l),(14,.int .i64 (l.length:Int)),(15,.bool (decide ((i:Int)=(l.length:Int)))),(16,.bool true),(17,SV.tup []),(18,SV.tup []),(19,SV.tup []),(20,SV.tup []),(21,SV.tup []),(22,SV.tup []),(23,SV.tup []),(24,SV.tup []),(25,SV.tup []),(26,SV.tup []),(27,SV.tup []),(28,.bool true),(29,.dead),(30,.sl syS l),(31,.int .i64 (a:Int)),(32,.int .i64 (i:Int)),(33,.sl syS (Px.part l (some (a:Int)) (some (i:Int)))),(34,.agg [.int .i64 (mdO (Px.part l (some (a:Int)) (some (i:Int)))).1,.int .i64 (mdO (Px.part l (some (a:Int)) (some (i:Int)))).2.1,.int .i64 (mdO (Px.part l (some (a:Int)) (some (i:Int)))).2.2.1,.int .u8 (mdO (Px.part l (some (a:Int)) (some (i:Int)))).2.2.2.1,.sl uB (mdO (Px.part l (some (a:Int)) (some (i:Int)))).2.2.2.2]),(35,.win true opS 35 0 (1:Nat)),(36,.win true opS 36 0 (o.length+(([(mdO (Px.part l (some (a:Int)) (some (i:Int))))]:List opS.D)).length)),(37,.int .i64 (i:Int))],blk:=[(35,.row 69 opS ([(mdO (Px.part l (some (a:Int)) (some (i:Int))))]:List opS.D)),(36,.row 69 opS (o++([(mdO (Px.part l (some (a:Int)) (some (i:Int))))]:List opS.D)))] }) ((0:Int)<=IntKind.i64.wrap ((i:Int)-1) /\
 IntKind.i64.wrap ((i:Int)-1)<(l.length:Int) /\
 (0:Int)<=(i:Int) /\
 (i:Int)<(l.length:Int) /\
 ctGo.pre ((gtY l (IntKind.i64.wrap ((i:Int)-1)).toNat),(gtY l (i:Int).toNat),()) /\
 bc (bif false then true else !goB (gtY l (IntKind.i64.wrap ((i:Int)-1)).toNat) (gtY l (i:Int).toNat)) ((0:Int)<=(a:Int) /\
 (a:Int)<=(i:Int) /\
 (i:Int)<=(l.length:Int) /\
 ctMd.pre (Px.part l (some (a:Int)) (some (i:Int)),()) /\
 (0:Nat)+1<=([(mdO (Px.part l (some (a:Int)) (some (i:Int))))]:List opS.D).length /\
 o.length=o.length /\
 (0:Nat)=(0:Nat) /\
 o.length+(([(mdO (Px.part l (some (a:Int)) (some (i:Int))))]:List opS.D)).length<2 ^ 30 /\
 (56:Nat)<=2 ^ 10 /\
 R (hd Tryd.f56 0) { env:=[(0,.sl syS l),(3,.win true opS 36 0 (o.length+(([(mdO (Px.part l (some (a:Int)) (some (i:Int))))]:List opS.D)).length)),(4,.int .i64 (i:Int)),(5,.int .i64 (IntKind.i64.wrap ((i:Int)+1))),(6,.int .i64 (i:Int)),(7,.sl syS l),(8,.int .i64 (l.length:Int)),(9,.bool (decide ((i:Int)<=(l.length:Int)))),(10,.int .i64 (i:Int)),(11,.int .i64 (IntKind.i64.wrap ((i:Int)+1))),(12,.int .i64 (i:Int)),(13,.sl syS l),(14,.int .i64 (l.length:Int)),(15,.bool (decide ((i:Int)=(l.length:Int)))),(16,.bool false),(17,.sl syS l),(18,.int .i64 (i:Int)),(19,.int .i64 (IntKind.i64.wrap ((i:Int)-1))),(20,.elv syS (gtY l (IntKind.i64.wrap ((i:Int)-1)).toNat)),(21,.agg [.bool (gtY l (IntKind.i64.wrap ((i:Int)-1)).toNat).1,.int .i64 (gtY l (IntKind.i64.wrap ((i:Int)-1)).toNat).2.1,.int .u8 (gtY l (IntKind.i64.wrap ((i:Int)-1)).toNat).2.2]),(22,.sl syS l),(23,.int .i64 (i:Int)),(24,.elv syS (gtY l (i:Int).toNat)),(25,.agg [.bool (gtY l (i:Int).toNat).1,.int .i64 (gtY l (i:Int).toNat).2.1,.int .u8 (gtY l (i:Int).toNat).2.2]),(26,.bool (goB (gtY l (IntKind.i64.wrap ((i:Int)-1)).toNat) (gtY l (i:Int).toNat))),(27,.bool !goB (gtY l (IntKind.i64.wrap ((i:Int)-1)).toNat) (gtY l (i:Int).toNat)),(28,.bool (bif false then true else !goB (gtY l (IntKind.i64.wrap ((i:Int)-1)).toNat) (gtY l (i:Int).toNat))),(29,.dead),(30,.sl syS l),(31,.int .i64 (a:Int)),(32,.int .i64 (i:Int)),(33,.sl syS (Px.part l (some (a:Int)) (some (i:Int)))),(34,.agg [.int .i64 (mdO (Px.part l (some (a:Int)) (some (i:Int)))).1,.int .i64 (mdO (Px.part l (some (a:Int)) (some (i:Int)))).2.1,.int .i64 (mdO (Px.part l (some (a:Int)) (some (i:Int)))).2.2.1,.int .u8 (mdO (Px.part l (some (a:Int)) (some (i:Int)))).2.2.2.1,.sl uB (mdO (Px.part l (some (a:Int)) (some (i:Int)))).2.2.2.2]),(35,.win true opS 35 0 (1:Nat)),(36,.win true opS 36 0 (o.length+(([(mdO (Px.part l (some (a:Int)) (some (i:Int))))]:List opS.D)).length)),(37,.int .i64 (i:Int))],blk:=[(35,.row 69 opS ([(mdO (Px.part l (some (a:Int)) (some (i:Int))))]:List opS.D)),(36,.row 69 opS (o++([(mdO (Px.part l (some (a:Int)) (some (i:Int))))]:List opS.D)))] }) (R (hd Tryd.f56 0) { env:=[(0,.sl syS l),(3,.win true opS 3 0 o.length),(4,.int .i64 (a:Int)),(5,.int .i64 (IntKind.i64.wrap ((i:Int)+1))),(6,.int .i64 (i:Int)),(7,.sl syS l),(8,.int .i64 (l.length:Int)),(9,.bool (decide ((i:Int)<=(l.length:Int)))),(10,.int .i64 (i:Int)),(11,.int .i64 (IntKind.i64.wrap ((i:Int)+1))),(12,.int .i64 (i:Int)),(13,.sl syS l),(14,.int .i64 (l.length:Int)),(15,.bool (decide ((i:Int)=(l.length:Int)))),(16,.bool false),(17,.sl syS l),(18,.int .i64 (i:Int)),(19,.int .i64 (IntKind.i64.wrap ((i:Int)-1))),(20,.elv syS (gtY l (IntKind.i64.wrap ((i:Int)-1)).toNat)),(21,.agg [.bool (gtY l (IntKind.i64.wrap ((i:Int)-1)).toNat).1,.int .i64 (gtY l (IntKind.i64.wrap ((i:Int)-1)).toNat).2.1,.int .u8 (gtY l (IntKind.i64.wrap ((i:Int)-1)).toNat).2.2]),(22,.sl syS l),(23,.int .i64 (i:Int)),(24,.elv syS (gtY l (i:Int).toNat)),(25,.agg [.bool (gtY l (i:Int).toNat).1,.int .i64 (gtY l (i:Int).toNat).2.1,.int .u8 (gtY l (i:Int).toNat).2.2]),(26,.bool (goB (gtY l (IntKind.i64.wrap ((i:Int)-1)).toNat) (gtY l (i:Int).toNat))),(27,.bool !goB (gtY l (IntKind.i64.wrap ((i:Int)-1)).toNat) (gtY l (i:Int).toNat)),(28,.bool (bif false then true else !goB (gtY l (IntKind.i64.wrap ((i:Int)-1)).toNat) (gtY l (i:Int).toNat)))],blk:=[(3,.row 69 opS o)] }))) (Q [.win true opS 3 0 o.length] [(3,.row 69 opS o)])):=by kernel_rfl
theorem q3f (l:List SyT) (o:List OpT) (a i:Nat) (Q:QT) (R:RT):sy tt G0 DO Tryd.f56.ntmps Tryd.f56.results.toList Q R 1000 (hd Tryd.f56 0) ⟨[(0,.sl syS l),(3,.sl opS o),(4,.int .i64 (a:Nat)),(5,.int .i64 (i:Nat))],[]⟩ =
  (bc (decide ((i:Int)<=(l.length:Int))) (bc (decide ((i:Int)=(l.length:Int))) (true=true /\
 (0:Int)<=(a:Int) /\
 (a:Int)<=(i:Int) /\
 (i:Int)<=(l.length:Int) /\
 ctMd.pre (Px.part l (some (a:Int)) (some (i:Int)),()) /\
 False) ((0:Int)<=IntKind.i64.wrap ((i:Int)-1) /\
 IntKind.i64.wrap ((i:Int)-1)<(l.length:Int) /\
 (0:Int)<=(i:Int) /\
 (i:Int)<(l.length:Int) /\
 ctGo.pre ((gtY l (IntKind.i64.wrap ((i:Int)-1)).toNat),(gtY l (i:Int).toNat),()) /\
 bc (bif false then true else !goB (gtY l (IntKind.i64.wrap ((i:Int)-1)).toNat) (gtY l (i:Int).toNat)) ((0:Int)<=(a:Int) /\
 (a:Int)<=(i:Int) /\
 (i:Int)<=(l.length:Int) /\
 ctMd.pre (Px.part l (some (a:Int)) (some (i:Int)),()) /\
 False) (R (hd Tryd.f56 0) { env:=[(0,.sl syS l),(3,.sl opS o),(4,.int .i64 (a:Int)),(5,.int .i64 (IntKind.i64.wrap ((i:Int)+1))),(6,.int .i64 (i:Int)),(7,.sl syS l),(8,.int .i64 (l.length:Int)),(9,.bool (decide ((i:Int)<=(l.length:Int)))),(10,.int .i64 (i:Int)),(11,.int .i64 (IntKind.i64.wrap ((i:Int)+1))),(12,.int .i64 (i:Int)),(13,.sl syS l),(14,.int .i64 (l.length:Int)),(15,.bool (decide ((i:Int)=(l.length:Int)))),(16,.bool false),(17,.sl syS l),(18,.int .i64 (i:Int)),(19,.int .i64 (IntKind.i64.wrap ((i:Int)-1))),(20,.elv syS (gtY l (IntKind.i64.wrap ((i:Int)-1)).toNat)),(21,.agg [.bool (gtY l (IntKind.i64.wrap ((i:Int)-1)).toNat).1,.int .i64 (gtY l (IntKind.i64.wrap ((i:Int)-1)).toNat).2.1,.int .u8 (gtY l (IntKind.i64.wrap ((i:Int)-1)).toNat).2.2]),(22,.sl syS l),(23,.int .i64 (i:Int)),(24,.elv syS (gtY l (i:Int).toNat)),(25,.agg [.bool (gtY l (i:Int).toNat).1,.int .i64 (gtY l (i:Int).toNat).2.1,.int .u8 (gtY l (i:Int).toNat).2.2]),(26,.bool (goB (gtY l (IntKind.i64.wrap ((i:Int)-1)).toNat) (gtY l (i:Int).toNat))),(27,.bool !goB (gtY l (IntKind.i64.wrap ((i:Int)-1)).toNat) (gtY l (i:Int).toNat)),(28,.bool (bif false then true else !goB (gtY l (IntKind.i64.wrap ((i:Int)-1)).toNat) (gtY l (i:Int).toNat)))],blk:=[] }))) (Q [.sl opS o] [])):=by kernel_rfl
end Go.Proofs.YticpkibnhakgbaaDoor
namespace Go.Proofs.YticpkibnhakgbaaDoor
open Go.Px Go.Ax
set_option maxRecDepth 100000
attribute [local irreducible] Go.Px.sy Go.Px.syE
theorem winA {e:Sh} (l:List e.D):winL e 0 l.length l=l:=by
 show (List.drop 0 l).take l.length=l
 rw[List.drop_zero,List.take_of_length_le (Nat.le_refl _)]
theorem QC.mt {ct:Ctr} {x:DL ct.args} {rs:List SV} {blk:List (Nat × LB)} (h:MtL (fun _=>none) (ct.out x) rs) (hr:ct.rows x=[]):QC ct x rs blk:=⟨fun _=>none,h,by rw[hr];trivial,fun _ _ _ e=>by simp at e,by rw[hr];rfl⟩
theorem qw6 (k a:Int) (l:List SyT) (hl:l.length<16777216):∀ (n i:Nat) (b:List Int),l.length-i=n->i<=l.length->b.length=l.length->(∀ j,j<i->b[j]?=(l.map fun s=>s.2.2)[j]?) ->
  GD 63 Tryd.f63 (fun rs _=>rs=[.agg [.int .i64 k,.int .i64 a,.int .i64 l.length,.int .u8 0,.sl uB (l.map fun s=>s.2.2)]]) (hd Tryd.f63 0) ⟨[(2,.ptr 2 0),(3,.ptr 3 0),(25,.sl syS l),(26,.int .i64 l.length),(27,.int .i64 (i:Nat))],[(2,.var [.int .i64 0,.int .i64 0,.int .i64 0,.int .u8 0,.nils]),(3,.var [.int .i64 k,.int .i64 a,.int .i64 l.length,.int .u8 0,.win true uB 23 0 b.length]),(23,.row 5 uB b)]⟩:=by
 intro n
 induction n with
 | zero=>
  intro i b hk hi hb hj;have hi:i=l.length:=by omega
  subst hi;have hbl:b=l.map fun s=>s.2.2:=by
   refine List.ext_getElem? fun j=>?_
   by_cases h:j<l.length
   ·exact hj j h
   ·rw[List.getElem?_eq_none (by omega),List.getElem?_eq_none (by rw[List.length_map];omega)]
  refine Good.frz (i:=23) (e:=uB) (et:=5) (xs:=b) rfl (fun c hc=>?_) ?_
  ·have hc:c∈[0+b.length<=b.length]:=hc;rw[List.mem_singleton] at hc;subst hc;omega
  ·have e:GD 63 Tryd.f63 (fun rs _=>rs=[.agg [.int .i64 k,.int .i64 a,.int .i64 l.length,.int .u8 0,.sl uB (l.map fun s=>s.2.2)]]) (hd Tryd.f63 0) ⟨[(2,.ptr 2 0),(3,.ptr 3 0),(25,.sl syS l),(26,.int .i64 l.length),(27,.int .i64 (l.length:Nat))],[(2,.var [.int .i64 0,.int .i64 0,.int .i64 0,.int .u8 0,.nils]),(3,.var [.int .i64 k,.int .i64 a,.int .i64 l.length,.int .u8 0,.sl uB (winL uB 0 b.length b)])]⟩:=by
    refine qak cx1 _ _ _ ((qyw k a (winL uB 0 b.length b) l l.length _ _).mpr ?_);rw[decide_eq_false (by omega),bc_f,winA,hbl]
   exact e.only ⟨rfl,rfl,rfl,rfl,rfl,trivial⟩ ⟨rfl,rfl,trivial⟩
 | succ n ih=>
  intro i b hk hi hb hj;have hil:i<l.length:=by omega
  refine qak cx1 _ _ _ ((qyv k a b l i _ _).mpr ?_);rw[decide_eq_true (show (i:Int)<(l.length:Int) by omega),bc_t,Int.toNat_natCast,qbi hil,IntWalk.i64_in ((i:Int)+1) (by omega),Nat.zero_add];refine ⟨by omega,by omega,by omega,by omega,by omega,?_⟩;refine (ih (i+1) (b.set i l[i].2.2) (by omega) (by omega) (by rw[List.length_set];exact hb) (fun j h=>?_)).only ⟨rfl,rfl,rfl,rfl,rfl,trivial⟩ ⟨rfl,?_,rfl,trivial⟩
  ·rw[List.getElem?_set];by_cases hji:i=j
   ·subst hji;rw[if_pos rfl,if_pos (by omega),List.getElem?_map,List.getElem?_eq_getElem hil];rfl
   ·rw[if_neg hji];exact hj j (by omega)
  ·rw[List.length_set];rfl
theorem qw7:Held Tryd.prog G0 63 ctMd:=by
 refine Held.run cx1 (fn:=Tryd.f63) rfl rfl ⟨by decide,by decide⟩ ?_;rintro ⟨l,⟨⟩⟩ hp;obtain ⟨h0,h1⟩:qtu l:=hp;refine (q3h l _ _).mpr ⟨Int.le_refl 0,by omega,trivial,Int.le_refl 0,by omega,qaf (fun h=>?_) (fun h=>?_)⟩
 ·have h:=of_decide_eq_true h;refine QC.mt ?_ rfl
  show MtL _ (mdV (mdO l)) _
  unfold mdO;rw[if_pos h];exact ⟨_,_,rfl,⟨_,rfl,_,_,rfl,rfl,_,_,rfl,rfl,_,_,rfl,rfl,_,_,rfl,rfl,_,_,rfl,.inr ⟨rfl,rfl⟩,rfl⟩,rfl⟩
 ·have h:=of_decide_eq_false h;refine ⟨by omega,by omega,?_,?_,?_⟩
  ·show (l.length:Int)<16777216
   omega
  ·show (1:Int)*(l.length:Int)<=281474976710656
   omega
  ·refine ((qw6 (kndB (gtY l 0)) (gtY l 0).2.1 l h1 _ 0 (List.replicate (l.length:Int).toNat 0) rfl (by omega) (by rw[List.length_replicate,Int.toNat_natCast]) (fun j h=>by omega)).post fun rs blk hq=>QC.flat ?_ rfl (by rw[hq];rfl)).only ⟨rfl,rfl,rfl,rfl,rfl,trivial⟩ ⟨rfl,?_,rfl,trivial⟩
   ·rw[hq]
    show mdV (mdO l)=_
    unfold mdO;rw[if_neg h];rfl
   ·rw[List.length_replicate];rfl
theorem dxO:CxOK Tryd.prog tt G0 DO:=(cx1.cons q5p (fn:=Tryd.f62) rfl rfl rfl).cons qw7 (fn:=Tryd.f63) rfl rfl rfl
abbrev ptL (l:List SyT) (a i:Nat):List SyT:=Px.part l (some (a:Int)) (some (i:Int))
theorem qwi {l:List SyT} {a i:Nat} (h:a<=i) (hi:i<=l.length):(ptL l a i).length=i-a:=by
 simp[ptL,Px.part];omega
def opsF (l:List SyT):Nat->Nat->Nat->List OpT
 | 0,_,_=>[]
 | k+1,a,i=>if i=l.length\/goB (gtY l (i-1)) (gtY l i)=false then mdO (ptL l a i)::opsF l k i (i+1) else opsF l k a (i+1)
def opsL (l:List SyT):List OpT:=opsF l l.length 0 1
def ctOps:Ctr:=⟨[.sl syS],fun x=>qtu x.1,fun x=>[.sl opS (opsL x.1)],fun _=>[]⟩
theorem cut1 {l:List SyT} {k a i:Nat} (h:i=l.length\/goB (gtY l (i-1)) (gtY l i)=false):opsF l (k+1) a i=mdO (ptL l a i)::opsF l k i (i+1):=by rw[opsF,if_pos h]
theorem cut0 {l:List SyT} {k a i:Nat} (h:¬ (i=l.length\/goB (gtY l (i-1)) (gtY l i)=false)):opsF l (k+1) a i=opsF l k a (i+1):=by rw[opsF,if_neg h]
abbrev OQ (x:List OpT):List SV->List (Nat × LB)->Prop:=fun rs _=>rs=[.sl opS x]
theorem qwo (l:List SyT) (hl:l.length<16777216):∀ (k a i:Nat) (o:List OpT),l.length+1-i=k->1<=i->i<=l.length+1->a<i->o.length<=i ->
  GD 56 Tryd.f56 (OQ (o++opsF l k a i)) (hd Tryd.f56 0) ⟨[(0,.sl syS l),(3,.win true opS 3 0 o.length),(4,.int .i64 (a:Nat)),(5,.int .i64 (i:Nat))],[(3,.row 69 opS o)]⟩:=by
 intro k
 induction k with
 | zero=>
  intro a i o hk h1 hi ha ho;have hi:i=l.length+1:=by omega
  subst hi;refine Good.frz (i:=3) (e:=opS) (et:=69) (xs:=o) rfl (fun c hc=>?_) ?_
  ·have hc:c∈[0+o.length<=o.length]:=hc;rw[List.mem_singleton] at hc;subst hc;omega
  ·have e:GD 56 Tryd.f56 (OQ (o++opsF l 0 a (l.length+1))) (hd Tryd.f56 0) ⟨[(0,.sl syS l),(3,.sl opS (winL opS 0 o.length o)),(4,.int .i64 (a:Nat)),(5,.int .i64 ((l.length+1:Nat):Int))],[]⟩:=by
    refine qak dxO _ _ _ ((q3f l (winL opS 0 o.length o) a (l.length+1) _ _).mpr ?_);rw[decide_eq_false (by omega),bc_f,winA,opsF,List.append_nil]
   exact e.only ⟨rfl,rfl,rfl,rfl,trivial⟩ trivial
 | succ k ih=>
  intro a i o hk h1 hi ha ho;have hil:i<=l.length:=by omega
  have hpt:qtu (ptL l a i):=by
   have:=qwi (l:=l) (a:=a) (i:=i) (by omega) hil;exact ⟨by omega,by omega⟩
  have wi:IntKind.i64.wrap ((i:Int)+1)=((i+1:Nat):Int):=by rw[IntWalk.i64_in _ (by omega)];omega
  have wj:IntKind.i64.wrap ((i:Int)-1)=((i-1:Nat):Int):=by rw[IntWalk.i64_in _ (by omega)];omega
  have step:(i=l.length\/goB (gtY l (i-1)) (gtY l i)=false)->GD 56 Tryd.f56 (OQ (o++opsF l (k+1) a i)) (hd Tryd.f56 0) ⟨[(0,.sl syS l),(3,.win true opS 3 0 (o++[mdO (ptL l a i)]).length),(4,.int .i64 (i:Nat)),(5,.int .i64 ((i+1:Nat):Int))],[(3,.row 69 opS (o++[mdO (ptL l a i)]))]⟩:=fun h=>by
   rw[cut1 h];have:=ih i (i+1) (o++[mdO (ptL l a i)]) (by omega) (by omega) (by omega) (by omega) (by rw[List.length_append,List.length_singleton];omega);rw[List.append_assoc] at this;exact this
  refine qak dxO _ _ _ ((q3g l o a i _ _).mpr ?_);rw[decide_eq_true (show (i:Int)<=(l.length:Int) by omega),bc_t,wi,wj,Int.toNat_natCast,Int.toNat_natCast];refine qaf (fun h=>?_) (fun h=>?_)
  ·have h:=of_decide_eq_true h;refine ⟨rfl,by omega,by omega,by omega,hpt,Nat.le_refl 1,rfl,rfl,?_,by decide,?_⟩
   ·show o.length+1<2 ^ 30
    omega
   ·exact (step (.inl (by omega))).onlyR [(3,36)] rfl ⟨rfl,by rw[List.length_append];rfl,rfl,rfl,trivial⟩ ⟨rfl,trivial⟩
  ·have h:=of_decide_eq_false h;refine ⟨by omega,by omega,by omega,by omega,trivial,qaf (fun h2=>?_) (fun h2=>?_)⟩
   ·have h2:goB (gtY l (i-1)) (gtY l i)=false:=by
     have h2:(!goB (gtY l (i-1)) (gtY l i))=true:=h2;simpa using h2
    refine ⟨by omega,by omega,by omega,hpt,Nat.le_refl 1,rfl,rfl,?_,by decide,?_⟩
    ·show o.length+1<2 ^ 30
     omega
    ·exact (step (.inr h2)).onlyR [(3,36)] rfl ⟨rfl,by rw[List.length_append];rfl,rfl,rfl,trivial⟩ ⟨rfl,trivial⟩
   ·have h2:goB (gtY l (i-1)) (gtY l i)=true:=by
     have h2:(!goB (gtY l (i-1)) (gtY l i))=false:=h2;simpa using h2
    rw[cut0 (fun q=>by rcases q with q | q;exact h (by omega);rw[h2] at q;cases q)];exact (ih a (i+1) o (by omega) (by omega) (by omega) (by omega) (by omega)).only ⟨rfl,rfl,rfl,rfl,trivial⟩ ⟨rfl,trivial⟩
theorem qwp (l:List SyT) (hl:l.length<16777216):∀ (k a i:Nat),l.length+1-i=k->1<=i->i<=l.length->a<i ->
  GD 56 Tryd.f56 (OQ (opsF l k a i)) (hd Tryd.f56 0) ⟨[(0,.sl syS l),(3,.nils),(4,.int .i64 (a:Nat)),(5,.int .i64 (i:Nat))],[]⟩:=by
 intro k
 induction k with
 | zero=>intro a i hk h1 hi ha;omega
 | succ k ih=>
  intro a i hk h1 hil ha;have hpt:qtu (ptL l a i):=by
   have:=qwi (l:=l) (a:=a) (i:=i) (by omega) hil;exact ⟨by omega,by omega⟩
  have wi:IntKind.i64.wrap ((i:Int)+1)=((i+1:Nat):Int):=by rw[IntWalk.i64_in _ (by omega)];omega
  have wj:IntKind.i64.wrap ((i:Int)-1)=((i-1:Nat):Int):=by rw[IntWalk.i64_in _ (by omega)];omega
  have step:(i=l.length\/goB (gtY l (i-1)) (gtY l i)=false)->GD 56 Tryd.f56 (OQ (opsF l (k+1) a i)) (hd Tryd.f56 0) ⟨[(0,.sl syS l),(3,.win true opS 3 0 1),(4,.int .i64 (i:Nat)),(5,.int .i64 ((i+1:Nat):Int))],[(3,.row 69 opS [mdO (ptL l a i)])]⟩:=fun h=>by
   rw[cut1 h];exact qwo l hl k i (i+1) [mdO (ptL l a i)] (by omega) (by omega) (by omega) (by omega) (by simp)
  refine qak dxO _ _ _ ((qu6 l a i _ _).mpr ?_);rw[decide_eq_true (show (i:Int)<=(l.length:Int) by omega),bc_t,wi,wj,Int.toNat_natCast,Int.toNat_natCast];refine qaf (fun h=>?_) (fun h=>?_)
  ·have h:=of_decide_eq_true h;refine ⟨rfl,by omega,by omega,by omega,hpt,Nat.le_refl 1,(show 1<2 ^ 30 by decide),by decide,?_⟩;exact (step (.inl (by omega))).onlyR [(3,36)] rfl ⟨rfl,rfl,rfl,rfl,trivial⟩ ⟨rfl,trivial⟩
  ·have h:=of_decide_eq_false h;refine ⟨by omega,by omega,by omega,by omega,trivial,qaf (fun h2=>?_) (fun h2=>?_)⟩
   ·have h2:goB (gtY l (i-1)) (gtY l i)=false:=by
     have h2:(!goB (gtY l (i-1)) (gtY l i))=true:=h2;simpa using h2
    refine ⟨by omega,by omega,by omega,hpt,Nat.le_refl 1,(show 1<2 ^ 30 by decide),by decide,?_⟩;exact (step (.inr h2)).onlyR [(3,36)] rfl ⟨rfl,rfl,rfl,rfl,trivial⟩ ⟨rfl,trivial⟩
   ·have h2:goB (gtY l (i-1)) (gtY l i)=true:=by
     have h2:(!goB (gtY l (i-1)) (gtY l i))=false:=h2;simpa using h2
    rw[cut0 (fun q=>by rcases q with q | q;exact h (by omega);rw[h2] at q;cases q)];exact (ih a (i+1) (by omega) (by omega) (by omega) (by omega)).only ⟨rfl,rfl,rfl,rfl,trivial⟩ trivial
theorem qz2:Held Tryd.prog G0 56 ctOps:=by
 refine Held.run dxO (fn:=Tryd.f56) rfl rfl ⟨by decide,by decide⟩ ?_;rintro ⟨l,⟨⟩⟩ hp;obtain ⟨h0,h1⟩:qtu l:=hp;refine (q15 l _ _).mpr ?_;exact ((qwp l h1 l.length 0 1 (by omega) (by omega) (by omega) (by omega)).post fun rs blk hq=>QC.flat (by rw[hq];rfl) rfl (by rw[hq];rfl)).only ⟨rfl,rfl,rfl,rfl,trivial⟩ trivial
end Go.Proofs.YticpkibnhakgbaaDoor
