/-
  A part of the proof: what pieces of the program give; conditions: those of each theorem.
-/
import Derived.Test.YtncocpjkaggnjaaGreatDoorHD
import Derived.Test.YtncocpjkaggnjaaGreatDoorProg
set_option linter.unusedVariables false
set_option linter.unusedSimpArgs false
namespace Go.Proofs.YtncocpjkaggnjaaGreatDoor
open Go.Px Go.Ax
abbrev QT:Type:=List SV→List (Nat × LB)→Prop
abbrev RT:Type:=List Item→PS→Prop
def tyL:List (Nat × (Nat × Nat × Bool × TK × Sh × Option IntKind)):=[
 (1,(1,8,false,.other,.unit,none)),
 (2,(1,8,false,(.int .i64),(.int .i64),none)),
 (3,(1,8,false,(.int .i64),(.int .i64),none)),
 (4,(1,1,false,.bool,.bool,none)),
 (5,(1,1,false,(.int .u8),(.int .u8),none)),
 (6,(1,1,false,(.int .u8),(.int .u8),none)),
 (7,(4,24,true,(.struct [(0,2),(1,3),(2,4),(3,6)]),(.pair (.int .i64) (.pair (.int .i64) (.pair .bool (.int .u8)))),(some .i8))),
 (8,(4,24,true,(.struct [(0,2),(1,3),(2,4),(3,6)]),(.pair (.int .i64) (.pair (.int .i64) (.pair .bool (.int .u8)))),(some .i8))),
 (9,(1,16,false,.str,.str,none)),
 (10,(1,16,false,.str,.str,none)),
 (11,(1,16,false,.str,.str,none)),
 (12,(1,8,false,(.int .u64),(.int .u64),none)),
 (13,(2,24,true,(.struct [(0,9),(1,12)]),(.pair .str (.int .u64)),none)),
 (14,(2,24,true,(.struct [(0,9),(1,12)]),(.pair .str (.int .u64)),none)),
 (21,(1,4,false,(.int .i32),(.int .i32),none)),
 (22,(1,24,false,(.slice 35),(.sl (.pair (.int .i64) (.pair (.int .i64) (.pair (.int .i64) (.pair (.int .u8) (.sl (.int .u8))))))),none)),
 (23,(4,48,true,(.struct [(0,4),(1,3),(2,3),(3,22)]),(.pair .bool (.pair (.int .i64) (.pair (.int .i64) (.sl (.pair (.int .i64) (.pair (.int .i64) (.pair (.int .i64) (.pair (.int .u8) (.sl (.int .u8)))))))))),none)),
 (24,(4,48,true,(.struct [(0,4),(1,3),(2,3),(3,22)]),(.pair .bool (.pair (.int .i64) (.pair (.int .i64) (.sl (.pair (.int .i64) (.pair (.int .i64) (.pair (.int .i64) (.pair (.int .u8) (.sl (.int .u8)))))))))),none)),
 (25,(1,24,false,(.slice 98),(.sl (.arr 4 (.int .u8))),none)),
 (26,(2,32,true,(.struct [(0,5),(1,25)]),(.pair (.int .u8) (.sl (.arr 4 (.int .u8)))),none)),
 (27,(2,32,true,(.struct [(0,5),(1,25)]),(.pair (.int .u8) (.sl (.arr 4 (.int .u8)))),none)),
 (28,(1,2,false,(.int .i16),(.int .i16),none)),
 (29,(4,8,true,(.array 4 28),(.arr 4 (.int .i16)),(some .i16))),
 (30,(1,8,false,.other,.unit,none)),
 (31,(1,8,false,.other,.unit,none)),
 (32,(1,2,false,(.int .u16),(.int .u16),none)),
 (33,(1,24,false,(.slice 5),(.sl (.int .u8)),none)),
 (34,(5,56,true,(.struct [(0,3),(1,3),(2,3),(3,5),(4,33)]),(.pair (.int .i64) (.pair (.int .i64) (.pair (.int .i64) (.pair (.int .u8) (.sl (.int .u8)))))),none)),
 (35,(5,56,true,(.struct [(0,3),(1,3),(2,3),(3,5),(4,33)]),(.pair (.int .i64) (.pair (.int .i64) (.pair (.int .i64) (.pair (.int .u8) (.sl (.int .u8)))))),none)),
 (36,(20,224,true,(.array 4 35),(.arr 4 (.pair (.int .i64) (.pair (.int .i64) (.pair (.int .i64) (.pair (.int .u8) (.sl (.int .u8))))))),none)),
 (37,(8,96,true,(.array 2 24),(.arr 2 (.pair .bool (.pair (.int .i64) (.pair (.int .i64) (.sl (.pair (.int .i64) (.pair (.int .i64) (.pair (.int .i64) (.pair (.int .u8) (.sl (.int .u8))))))))))),none)),
 (38,(1,8,false,(.int .i64),(.int .i64),none)),
 (40,(1,8,false,.other,.unit,none)),
 (42,(1,8,false,.other,.unit,none)),
 (43,(1,24,false,(.slice 83),(.sl (.pair .bool (.pair (.int .i64) (.int .u8)))),none)),
 (45,(1,8,false,.other,.unit,none)),
 (46,(1,8,false,.other,.unit,none)),
 (47,(1,24,false,(.slice 99),(.sl (.arr 4 (.int .u8))),none)),
 (48,(2,2,true,(.array 2 5),(.arr 2 (.int .u8)),(some .u8))),
 (49,(1,8,false,.other,.unit,none)),
 (50,(1,24,false,(.slice 96),(.sl (.int .u32)),none)),
 (51,(1,24,false,(.slice 4),(.sl .bool),none)),
 (52,(1,24,false,(.slice 3),(.sl (.int .i64)),none)),
 (53,(3,72,true,(.struct [(0,50),(1,51),(2,52)]),(.pair (.sl (.int .u32)) (.pair (.sl .bool) (.sl (.int .i64)))),none)),
 (54,(3,72,true,(.struct [(0,50),(1,51),(2,52)]),(.pair (.sl (.int .u32)) (.pair (.sl .bool) (.sl (.int .i64)))),none)),
 (56,(1,8,false,.other,.unit,none)),
 (57,(1,8,false,.other,.unit,none)),
 (58,(1,8,false,.other,.unit,none)),
 (59,(1,8,false,.other,.unit,none)),
 (60,(1,8,false,.other,.unit,none)),
 (61,(2,48,true,(.array 2 47),(.arr 2 (.sl (.arr 4 (.int .u8)))),none)),
 (63,(1,8,false,.other,.unit,none)),
 (64,(1,8,false,.other,.unit,none)),
 (65,(1,24,false,(.slice 24),(.sl (.pair .bool (.pair (.int .i64) (.pair (.int .i64) (.sl (.pair (.int .i64) (.pair (.int .i64) (.pair (.int .i64) (.pair (.int .u8) (.sl (.int .u8))))))))))),none)),
 (66,(1,8,false,.other,.unit,none)),
 (67,(1,24,false,(.slice 33),(.sl (.sl (.int .u8))),none)),
 (69,(1,8,false,.other,.unit,none)),
 (70,(1,24,false,(.slice 81),(.sl (.pair (.int .i64) (.int .i64))),none)),
 (72,(1,8,false,.other,.unit,none)),
 (73,(1,8,false,.other,.unit,none)),
 (74,(1,8,false,.other,.unit,none)),
 (75,(1,8,false,.other,.unit,none)),
 (76,(1,8,false,.other,.unit,none)),
 (77,(1,8,false,.other,.unit,none)),
 (78,(1,8,false,.other,.unit,none)),
 (79,(1,8,false,.other,.unit,none)),
 (80,(2,16,true,(.struct [(0,3),(1,3)]),(.pair (.int .i64) (.int .i64)),(some .i64))),
 (81,(2,16,true,(.struct [(0,3),(1,3)]),(.pair (.int .i64) (.int .i64)),(some .i64))),
 (82,(3,24,true,(.struct [(0,4),(1,3),(2,5)]),(.pair .bool (.pair (.int .i64) (.int .u8))),(some .i8))),
 (83,(3,24,true,(.struct [(0,4),(1,3),(2,5)]),(.pair .bool (.pair (.int .i64) (.int .u8))),(some .i8))),
 (84,(1,8,false,.other,.unit,none)),
 (85,(1,8,false,.other,.unit,none)),
 (86,(1,8,false,.other,.unit,none)),
 (87,(1,8,false,.other,.unit,none)),
 (88,(1,8,false,.other,.unit,none)),
 (89,(1,8,false,.other,.unit,none)),
 (90,(1,8,false,.other,.unit,none)),
 (91,(1,8,false,.other,.unit,none)),
 (94,(1,8,false,.other,.unit,none)),
 (95,(1,8,false,.other,.unit,none)),
 (96,(1,4,false,(.int .u32),(.int .u32),none)),
 (97,(1,8,false,.other,.unit,none)),
 (98,(4,4,true,(.array 4 5),(.arr 4 (.int .u8)),(some .u8))),
 (99,(4,4,true,(.array 4 5),(.arr 4 (.int .u8)),(some .u8))),
 (100,(5,40,true,(.struct [(0,3),(1,3),(2,3),(3,3),(4,3)]),(.pair (.int .i64) (.pair (.int .i64) (.pair (.int .i64) (.pair (.int .i64) (.int .i64))))),(some .i64))),
 (101,(5,40,true,(.struct [(0,3),(1,3),(2,3),(3,3),(4,3)]),(.pair (.int .i64) (.pair (.int .i64) (.pair (.int .i64) (.pair (.int .i64) (.int .i64))))),(some .i64))),
 (103,(1,8,false,.other,.unit,none)),
 (104,(1,8,false,.other,.unit,none)),
 (106,(1,8,false,.other,.unit,none)),
 (107,(1,8,false,.other,.unit,none)),
 (108,(1,8,false,.other,.unit,none)),
 (109,(1,8,false,.other,.unit,none)),
 (110,(1,8,false,.other,.unit,none)),
 (111,(1,8,false,(.map 3 83),.unit,none)),
 (112,(1,8,false,.other,.unit,none)),
 (113,(1,8,false,.other,.unit,none)),
 (114,(1,8,false,.other,.unit,none)),
 (115,(1,8,false,.other,.unit,none)),
 (117,(1,8,false,.other,.unit,none)),
 (118,(1,8,false,.other,.unit,none)),
 (119,(1,8,false,.other,.unit,none)),
 (120,(1,8,false,.other,.unit,none)),
 (121,(1,8,false,.other,.unit,none)),
 (122,(1,8,false,.other,.unit,none)),
 (123,(1,8,false,.other,.unit,none)),
 (124,(1,8,false,.other,.unit,none)),
 (125,(1,8,false,.other,.unit,none)),
 (126,(5,56,true,(.struct [(0,3),(1,3),(2,3),(3,5),(4,33)]),(.pair (.int .i64) (.pair (.int .i64) (.pair (.int .i64) (.pair (.int .u8) (.sl (.int .u8)))))),none)),
 (127,(5,56,true,(.struct [(0,3),(1,3),(2,3),(3,5),(4,33)]),(.pair (.int .i64) (.pair (.int .i64) (.pair (.int .i64) (.pair (.int .u8) (.sl (.int .u8)))))),none)),
 (128,(5,56,true,(.struct [(0,3),(1,3),(2,3),(3,5),(4,33)]),(.pair (.int .i64) (.pair (.int .i64) (.pair (.int .i64) (.pair (.int .u8) (.sl (.int .u8)))))),none)),
 (129,(5,56,true,(.struct [(0,3),(1,3),(2,3),(3,5),(4,33)]),(.pair (.int .i64) (.pair (.int .i64) (.pair (.int .i64) (.pair (.int .u8) (.sl (.int .u8)))))),none)),
 (130,(0,0,true,(.struct []),.unit,none)),
 (131,(0,0,true,(.struct []),.unit,none)),
 (132,(1,8,false,(.int .u64),(.int .u64),none)),
 (133,(1,8,false,.other,.unit,none)),
 (134,(1,8,false,.other,.unit,none)),
 (135,(1,8,false,.other,.unit,none)),
 (136,(1,8,false,.other,.unit,none)),
 (137,(1,8,false,.other,.unit,none)),
 (138,(1,8,false,.other,.unit,none)),
 (139,(1,8,false,.other,.unit,none)),
 (140,(1,8,false,.other,.unit,none)),
 (141,(1,8,false,.other,.unit,none)),
 (142,(1,8,false,.other,.unit,none)),
 (143,(1,8,false,.other,.unit,none)),
 (144,(1,8,false,.other,.unit,none)),
 (145,(1,8,false,.other,.unit,none)),
 (146,(1,8,false,.other,.unit,none)),
 (147,(1,8,false,.other,.unit,none)),
 (148,(1,8,false,.other,.unit,none)),
 (150,(1,8,false,.other,.unit,none)),
 (151,(1,8,false,.other,.unit,none)),
 (152,(1,8,false,.other,.unit,none)),
 (153,(1,8,false,.other,.unit,none)),
 (155,(1,8,false,.other,.unit,none)),
 (156,(1,8,false,.other,.unit,none)),
 (157,(1,8,false,.other,.unit,none)),
 (158,(1,8,false,.other,.unit,none)),
 (159,(1,8,false,.other,.unit,none)),
 (160,(1,8,false,.other,.unit,none)),
 (161,(1,8,false,.other,.unit,none)),
 (162,(1,8,false,.other,.unit,none)),
 (163,(1,24,false,(.slice 166),(.sl (.pair (.int .i64) (.pair (.int .i64) (.pair (.int .i64) (.int .i64))))),none)),
 (164,(1,8,false,.other,.unit,none)),
 (165,(4,32,true,(.struct [(0,3),(1,3),(2,3),(3,3)]),(.pair (.int .i64) (.pair (.int .i64) (.pair (.int .i64) (.int .i64)))),(some .i64))),
 (166,(4,32,true,(.struct [(0,3),(1,3),(2,3),(3,3)]),(.pair (.int .i64) (.pair (.int .i64) (.pair (.int .i64) (.int .i64)))),(some .i64))),
 (167,(1,8,false,.other,.unit,none)),
 (168,(1,8,false,.other,.unit,none)),
 (169,(1,8,false,.other,.unit,none)),
 (170,(1,8,false,.other,.unit,none)),
 (171,(1,8,false,.other,.unit,none)),
 (172,(1,8,false,.other,.unit,none)),
 (173,(1,8,false,.other,.unit,none)),
 (174,(1,8,false,.other,.unit,none)),
 (175,(1,8,false,.other,.unit,none)),
 (176,(1,8,false,.other,.unit,none)),
 (177,(1,8,false,.other,.unit,none)),
 (178,(1,4,false,(.int .u32),(.int .u32),none)),
 (179,(5,40,true,(.struct [(0,9),(1,3),(2,3),(3,4),(4,4)]),(.pair .str (.pair (.int .i64) (.pair (.int .i64) (.pair .bool .bool)))),none)),
 (180,(5,40,true,(.struct [(0,9),(1,3),(2,3),(3,4),(4,4)]),(.pair .str (.pair (.int .i64) (.pair (.int .i64) (.pair .bool .bool)))),none)),
 (181,(45,360,true,(.array 9 180),(.arr 9 (.pair .str (.pair (.int .i64) (.pair (.int .i64) (.pair .bool .bool))))),none)),
 (182,(3,24,true,(.array 3 3),(.arr 3 (.int .i64)),(some .i64))),
 (183,(1,8,false,.other,.unit,none)),
 (184,(1,24,false,(.slice 189),(.sl (.pair (.int .i64) (.pair (.int .i64) (.pair (.int .i64) (.int .i64))))),none)),
 (185,(1,8,false,.other,.unit,none)),
 (186,(2,16,true,(.struct [(0,3),(1,3)]),(.pair (.int .i64) (.int .i64)),(some .i64))),
 (187,(2,16,true,(.struct [(0,3),(1,3)]),(.pair (.int .i64) (.int .i64)),(some .i64))),
 (188,(4,32,true,(.struct [(0,3),(1,3),(2,187)]),(.pair (.int .i64) (.pair (.int .i64) (.pair (.int .i64) (.int .i64)))),none)),
 (189,(4,32,true,(.struct [(0,3),(1,3),(2,187)]),(.pair (.int .i64) (.pair (.int .i64) (.pair (.int .i64) (.int .i64)))),none)),
 (190,(1,8,false,.other,.unit,none)),
 (191,(1,8,false,.other,.unit,none)),
 (192,(1,8,false,(.int .i64),(.int .i64),none)),
 (194,(1,8,false,.other,.unit,none)),
 (195,(1,8,false,.other,.unit,none)),
 (196,(1,8,false,.other,.unit,none)),
 (197,(1,8,false,.other,.unit,none)),
 (199,(1,8,false,.other,.unit,none)),
 (200,(1,8,false,.other,.unit,none)),
 (201,(1,8,false,.other,.unit,none)),
 (202,(1,8,false,(.int .u64),(.int .u64),none)),
 (203,(20,160,true,(.array 5 189),(.arr 5 (.pair (.int .i64) (.pair (.int .i64) (.pair (.int .i64) (.int .i64))))),none)),
 (204,(1,8,false,.other,.unit,none)),
 (205,(1,8,false,.other,.unit,none)),
 (206,(1,8,false,(.int .u64),(.int .u64),none)),
 (207,(1,8,false,.other,.unit,none)),
 (208,(1,8,false,.other,.unit,none)),
 (209,(1,8,false,.other,.unit,none)),
 (211,(1,8,false,.other,.unit,none)),
 (212,(1,8,false,.other,.unit,none)),
 (213,(2,16,true,(.struct [(0,3),(1,3)]),(.pair (.int .i64) (.int .i64)),(some .i64))),
 (214,(10,80,true,(.array 5 213),(.arr 5 (.pair (.int .i64) (.int .i64))),none)),
 (215,(1,8,false,.other,.unit,none)),
 (216,(1,8,false,.other,.unit,none)),
 (219,(1,8,false,.other,.unit,none)),
 (220,(1,8,false,.other,.unit,none)),
 (226,(1,1,false,(.int .u8),(.int .u8),none)),
 (227,(1,1,false,(.int .u8),(.int .u8),none)),
 (228,(1,8,false,.other,.unit,none)),
 (230,(1,4,false,(.int .i32),(.int .i32),none)),
 (231,(1,4,false,(.int .i32),(.int .i32),none))]
abbrev tt:TT:=ttOf tyL
set_option maxRecDepth 100000 in
theorem tyOK:ttB Tryz.prog tyL=true:=by decide +kernel
theorem ty:TTOK Tryz.prog tt:=ttB_ok tyOK
theorem mixed:Tryz.prog.follows .mixedOrders=true:=by decide +kernel
end Go.Proofs.YtncocpjkaggnjaaGreatDoor
namespace Go.Proofs.YtncocpjkaggnjaaGreatDoor
open Go.Px Go.Ax
def mtb:List (Nat × (String × Nat)):=[
 (126, ("inlay/patch.isRight", 179)), (126, ("inlay/patch.cost", 178)), (126, ("inlay/patch.appendSymbols", 177)),
 (127, ("inlay/patch.isRight", 183)), (127, ("inlay/patch.cost", 182)), (127, ("inlay/patch.appendSymbols", 181)),
 (128, ("inlay/patch.isRight", 186)), (128, ("inlay/patch.cost", 185)), (128, ("inlay/patch.appendSymbols", 184)),
 (129, ("inlay/patch.isRight", 189)), (129, ("inlay/patch.cost", 188)), (129, ("inlay/patch.appendSymbols", 187)),
 (131, ("inlay/patch.isRight", 192)), (131, ("inlay/patch.cost", 191)), (131, ("inlay/patch.appendSymbols", 190))]
set_option maxRecDepth 100000 in
theorem mtb_ok:(mtb.all fun p=>decide (mthOf Tryz.prog p.1 p.2.1=some p.2.2))=true:=by decide +kernel
abbrev coS:Sh:=.pair (.int .i64) (.int .i64)
def costsL:List coS.D:=[((0:Int),(0:Int)),((4:Int),(0:Int)),((4:Int),(1:Int)),((4:Int),(0:Int)),((2:Int),(1:Int))]
def costCells:List Value:=costsL.flatMap fun k=>[.int .i64 k.1,.int .i64 k.2]
def kn (s:List UInt8) (r b:Int) (g t:Bool):List UInt8 × Int × Int × Bool × Bool:=(s,r,b,g,t)
abbrev kindSh:Sh:=.pair .str (.pair (.int .i64) (.pair (.int .i64) (.pair .bool .bool)))
def kindsL:List kindSh.D:=[kn [100,97,116,97] 0 32 false false,kn [97,100,100] 3 0 false false,kn [115,101,116] 1 16 false false,kn [108,111,97,100] 3 0 false false,kn [115,116,111,114,101] 3 0 false false,
 kn [106,117,109,112] 0 24 true true,kn [99,97,108,108] 0 24 true true,kn [98,114,97,110,99,104] 1 16 true true,kn [112,111,111,108] 1 16 false true]
def kindCells:List Value:=kindsL.flatMap fun k=>[bstr k.1,.int .i64 k.2.1,.int .i64 k.2.2.1,.bool k.2.2.2.1,.bool k.2.2.2.2]
def rawG:T ABlk:=.node (.node .nil .nil (some (.cells costCells 214 2))) .nil (some (.cells kindCells 181 2))
def G0:GV:=⟨[(0,⟨.arr 9 kindSh,kindsL⟩),(1,⟨.arr 5 coS,costsL⟩)],rawG,mtb⟩
theorem cx0:CxOK Tryz.prog tt G0 []:=CxOK.nil ty mixed fun t nm f h=>by
 have:=List.all_eq_true.1 mtb_ok _ h
 simpa using this
abbrev iI:Sh:=.int .i64
abbrev uB:Sh:=.int .u8
abbrev opS:Sh:=.pair iI (.pair iI (.pair iI (.pair uB (.sl uB))))
abbrev syS:Sh:=.pair .bool (.pair iI uB)
abbrev paS:Sh:=.pair .bool (.pair iI (.pair iI (.sl opS)))
abbrev OpT:Type:=Int × Int × Int × Int × List Int
abbrev SyT:Type:=Bool × Int × Int
abbrev PaT:Type:=Bool × Int × Int × List OpT
abbrev gtO (l:List OpT) (i:Nat):OpT:=gt opS l i
abbrev gtY (l:List SyT) (i:Nat):SyT:=gt syS l i
abbrev gtB (l:List Int) (i:Nat):Int:=gt uB l i
def ifO (t:Nat) (x:OpT):SV:=.ifc t true [.int .i64 x.1,.int .i64 x.2.1,.int .i64 x.2.2.1,.int .u8 x.2.2.2.1,.sl uB x.2.2.2.2]
end Go.Proofs.YtncocpjkaggnjaaGreatDoor
namespace Go.Proofs.YtncocpjkaggnjaaGreatDoor
open Go.Px Go.Ax
set_option maxRecDepth 100000
theorem vc_isSize (n:Int) (Q:QT) (R:RT):sy tt G0 [] Tryz.f40.ntmps Tryz.f40.results.toList Q R 1000 [.code (bodyOf Tryz.f40)] (entry [iI] (n,())) =
  (bc (decide ((0:Int)≤n)) (Q [.bool (bif true then decide (n≤(65536:Int)) else false)] []) (false=false ∧
 Q [.bool false] [])):=by kernel_rfl
theorem vc_isPart (f n m:Int) (Q:QT) (R:RT):sy tt G0 [] Tryz.f180.ntmps Tryz.f180.results.toList Q R 1000 [.code (bodyOf Tryz.f180)] (entry [iI,iI,iI] (f,n,m,())) =
  (bc (decide ((0:Int)≤f)) (Q [.bool (bif true then decide (f≤IntKind.i64.wrap (m-n)) else false)] []) (false=false ∧
 Q [.bool false] [])):=by kernel_rfl
theorem vc_opOf (k f n b:Int) (d:List Int) (Q:QT) (R:RT):sy tt G0 [] Tryz.f46.ntmps Tryz.f46.results.toList Q R 1000 [.code (bodyOf Tryz.f46)] (entry [opS] ((k,f,n,b,d),())) =
  (bc (decide (k=(1:Int))) (Q [.ifc (126:Nat) true [.int .i64 k,.int .i64 f,.int .i64 n,.int .u8 b,.sl (Sh.int IntKind.u8) d]] [(1,.var [.int .i64 k,.int .i64 f,.int .i64 n,.int .u8 b,.sl (Sh.int IntKind.u8) d])]) (bc (decide (k=(2:Int))) (Q [.ifc (127:Nat) true [.int .i64 k,.int .i64 f,.int .i64 n,.int .u8 b,.sl (Sh.int IntKind.u8) d]] [(1,.var [.int .i64 k,.int .i64 f,.int .i64 n,.int .u8 b,.sl (Sh.int IntKind.u8) d])]) (bc (decide (k=(3:Int))) (Q [.ifc (128:Nat) true [.int .i64 k,.int .i64 f,.int .i64 n,.int .u8 b,.sl (Sh.int IntKind.u8) d]] [(1,.var [.int .i64 k,.int .i64 f,.int .i64 n,.int .u8 b,.sl (Sh.int IntKind.u8) d])]) (bc (decide (k=(4:Int))) (Q [.ifc (129:Nat) true [.int .i64 k,.int .i64 f,.int .i64 n,.int .u8 b,.sl (Sh.int IntKind.u8) d]] [(1,.var [.int .i64 k,.int .i64 f,.int .i64 n,.int .u8 b,.sl (Sh.int IntKind.u8) d])]) (Q [.ifc (131:Nat) true []] [(1,.var [.int .i64 k,.int .i64 f,.int .i64 n,.int .u8 b,.sl (Sh.int IntKind.u8) d])]))))):=by kernel_rfl
theorem vc_runR (k f n b m:Int) (d:List Int) (Q:QT) (R:RT):sy tt G0 [] Tryz.f186.ntmps Tryz.f186.results.toList Q R 1000 [.code (bodyOf Tryz.f186)] (entryI [.dat opS,.dat iI] ((k,f,n,b,d),m,())) =
  (bc (decide (f=(0:Int))) (Q [.bool (bif true then decide ((d.length:Int)=(0:Int)) else false)] [(2,.var [.int .i64 k,.int .i64 f,.int .i64 n,.int .u8 b,.sl (Sh.int IntKind.u8) d])]) (false=false ∧
 Q [.bool false] [(2,.var [.int .i64 k,.int .i64 f,.int .i64 n,.int .u8 b,.sl (Sh.int IntKind.u8) d])])):=by kernel_rfl
theorem vc_litR (k f n b m:Int) (d:List Int) (Q:QT) (R:RT):sy tt G0 [] Tryz.f189.ntmps Tryz.f189.results.toList Q R 1000 [.code (bodyOf Tryz.f189)] (entryI [.dat opS,.dat iI] ((k,f,n,b,d),m,())) =
  (bc (decide (f=(0:Int))) (bc (bif true then decide (b=(0:Int)) else false) (Q [.bool (bif true then decide ((d.length:Int)=n) else false)] [(2,.var [.int .i64 k,.int .i64 f,.int .i64 n,.int .u8 b,.sl (Sh.int IntKind.u8) d])]) (false=false ∧
 Q [.bool false] [(2,.var [.int .i64 k,.int .i64 f,.int .i64 n,.int .u8 b,.sl (Sh.int IntKind.u8) d])])) (false=false ∧
 false=false ∧
 Q [.bool false] [(2,.var [.int .i64 k,.int .i64 f,.int .i64 n,.int .u8 b,.sl (Sh.int IntKind.u8) d])])):=by kernel_rfl
theorem vc_noR (m:Int) (Q:QT) (R:RT):sy tt G0 [] Tryz.f192.ntmps Tryz.f192.results.toList Q R 1000 [.code (bodyOf Tryz.f192)] (entryI [.dat .unit,.dat iI] ((),m,())) =
  (Q [.bool false] [(2,.var [])]):=by kernel_rfl
theorem vc_copyC (k f n b:Int) (d:List Int) (Q:QT) (R:RT):sy tt G0 [] Tryz.f178.ntmps Tryz.f178.results.toList Q R 1000 [.code (bodyOf Tryz.f178)] (entryI [.dat opS] ((k,f,n,b,d),())) =
  (Q [.int .i64 4] [(1,.var [.int .i64 k,.int .i64 f,.int .i64 n,.int .u8 b,.sl (Sh.int IntKind.u8) d])]):=by kernel_rfl
theorem vc_diffC (k f n b:Int) (d:List Int) (Q:QT) (R:RT):sy tt G0 [] Tryz.f182.ntmps Tryz.f182.results.toList Q R 1000 [.code (bodyOf Tryz.f182)] (entryI [.dat opS] ((k,f,n,b,d),())) =
  (Q [.int .i64 (IntKind.i64.wrap ((4:Int)+n))] [(1,.var [.int .i64 k,.int .i64 f,.int .i64 n,.int .u8 b,.sl (Sh.int IntKind.u8) d])]):=by kernel_rfl
theorem vc_runC (k f n b:Int) (d:List Int) (Q:QT) (R:RT):sy tt G0 [] Tryz.f185.ntmps Tryz.f185.results.toList Q R 1000 [.code (bodyOf Tryz.f185)] (entryI [.dat opS] ((k,f,n,b,d),())) =
  (Q [.int .i64 4] [(1,.var [.int .i64 k,.int .i64 f,.int .i64 n,.int .u8 b,.sl (Sh.int IntKind.u8) d])]):=by kernel_rfl
theorem vc_litC (k f n b:Int) (d:List Int) (Q:QT) (R:RT):sy tt G0 [] Tryz.f188.ntmps Tryz.f188.results.toList Q R 1000 [.code (bodyOf Tryz.f188)] (entryI [.dat opS] ((k,f,n,b,d),())) =
  (Q [.int .i64 (IntKind.i64.wrap ((2:Int)+n))] [(1,.var [.int .i64 k,.int .i64 f,.int .i64 n,.int .u8 b,.sl (Sh.int IntKind.u8) d])]):=by kernel_rfl
theorem vc_kindOf (o:Bool) (a b:Int) (Q:QT) (R:RT):sy tt G0 [] Tryz.f117.ntmps Tryz.f117.results.toList Q R 1000 [.code (bodyOf Tryz.f117)] (entry [syS] ((o,a,b),())) =
  (bc (!o) (Q [.int .i64 4] [(1,.var [.bool o,.int .i64 a,.int .u8 b])]) (bc (decide (b≠(0:Int))) (Q [.int .i64 2] [(1,.var [.bool o,.int .i64 a,.int .u8 b])]) (Q [.int .i64 1] [(1,.var [.bool o,.int .i64 a,.int .u8 b])]))):=by kernel_rfl
end Go.Proofs.YtncocpjkaggnjaaGreatDoor
namespace Go.Proofs.YtncocpjkaggnjaaGreatDoor
open Go.Px Go.Ax
set_option maxRecDepth 100000
theorem QI.flat {ct:CtrI} {x:DI ct.args} {rs:List SV} {blk:List (Nat × LB)} (h:ct.out x=rs) (hs:selfSL rs=true) (hb:ct.blk x=[]):QI ct x rs blk:=
 .self h hs (by rw[hb];rfl) (by rw[hb];simp)
def i64 (n:Int):Prop := -9223372036854775808≤n∧n≤9223372036854775807
def ctSize:Ctr:=⟨[iI],fun _=>True,fun x=>[.bool (decide (0≤x.1)&&decide (x.1≤65536))],fun _=>[]⟩
theorem size_held:Held Tryz.prog G0 40 ctSize:=by
 refine Held.run cx0 (fn:=Tryz.f40) rfl rfl ⟨by decide,by decide⟩ ?_
 rintro ⟨n,⟨⟩⟩ _
 refine (vc_isSize n _ _).mpr (bc_of (fun h=>?_) (fun h=>⟨rfl,?_⟩))
 ·exact QC.flat (by simp only[ctSize,h];rfl) rfl rfl
 ·exact QC.flat (by simp only[ctSize,h];rfl) rfl rfl
def isPartB (f n m:Int):Bool:=decide (0≤f)&&decide (f≤IntKind.i64.wrap (m-n))
def ctPart:Ctr:=⟨[iI,iI,iI],fun _=>True,fun x=>[.bool (isPartB x.1 x.2.1 x.2.2.1)],fun _=>[]⟩
theorem part_held:Held Tryz.prog G0 180 ctPart:=by
 refine Held.run cx0 (fn:=Tryz.f180) rfl rfl ⟨by decide,by decide⟩ ?_
 rintro ⟨f,n,m,⟨⟩⟩ _
 refine (vc_isPart f n m _ _).mpr (bc_of (fun h=>?_) (fun h=>⟨rfl,?_⟩))
 ·exact QC.flat (by simp only[ctPart,isPartB,h];rfl) rfl rfl
 ·exact QC.flat (by simp only[ctPart,isPartB,h];rfl) rfl rfl
def ctO (k:Int) (t:Nat):Ctr:=⟨[opS],fun x=>x.1.1=k,fun x=>[ifO t x.1],fun _=>[]⟩
def ctO0:Ctr:=⟨[opS],fun x=>x.1.1≠1∧x.1.1≠2∧x.1.1≠3∧x.1.1≠4,fun _=>[.ifc 131 true []],fun _=>[]⟩
theorem o1_held:Held Tryz.prog G0 46 (ctO 1 126):=by
 refine Held.run cx0 (fn:=Tryz.f46) rfl rfl ⟨by decide,by decide⟩ ?_
 rintro ⟨⟨k,f,n,b,d⟩,⟨⟩⟩ hp
 replace hp:k=1:=hp
 subst hp
 exact (vc_opOf _ f n b d _ _).mpr (QC.flat rfl rfl rfl)
theorem o2_held:Held Tryz.prog G0 46 (ctO 2 127):=by
 refine Held.run cx0 (fn:=Tryz.f46) rfl rfl ⟨by decide,by decide⟩ ?_
 rintro ⟨⟨k,f,n,b,d⟩,⟨⟩⟩ hp
 replace hp:k=2:=hp
 subst hp
 exact (vc_opOf _ f n b d _ _).mpr (QC.flat rfl rfl rfl)
theorem o3_held:Held Tryz.prog G0 46 (ctO 3 128):=by
 refine Held.run cx0 (fn:=Tryz.f46) rfl rfl ⟨by decide,by decide⟩ ?_
 rintro ⟨⟨k,f,n,b,d⟩,⟨⟩⟩ hp
 replace hp:k=3:=hp
 subst hp
 exact (vc_opOf _ f n b d _ _).mpr (QC.flat rfl rfl rfl)
theorem o4_held:Held Tryz.prog G0 46 (ctO 4 129):=by
 refine Held.run cx0 (fn:=Tryz.f46) rfl rfl ⟨by decide,by decide⟩ ?_
 rintro ⟨⟨k,f,n,b,d⟩,⟨⟩⟩ hp
 replace hp:k=4:=hp
 subst hp
 exact (vc_opOf _ f n b d _ _).mpr (QC.flat rfl rfl rfl)
theorem o0_held:Held Tryz.prog G0 46 ctO0:=by
 refine Held.run cx0 (fn:=Tryz.f46) rfl rfl ⟨by decide,by decide⟩ ?_
 rintro ⟨⟨k,f,n,b,d⟩,⟨⟩⟩ hp
 obtain ⟨h1,h2,h3,h4⟩:k≠1∧k≠2∧k≠3∧k≠4:=hp
 refine (vc_opOf k f n b d _ _).mpr ?_
 rw[decide_eq_false h1,decide_eq_false h2,decide_eq_false h3,decide_eq_false h4]
 exact QC.flat rfl rfl rfl
abbrev KR:List AK:=[.dat opS,.dat iI]
def rB (t:Nat) (x:OpT) (m:Int):Bool:=match t with
 | 1=>isPartB x.2.1 x.2.2.1 m&&(decide (x.2.2.2.1=0)&&decide ((x.2.2.2.2.length:Int)=0))
 | 2=>isPartB x.2.1 x.2.2.1 m&&(decide (x.2.2.2.1=0)&&decide ((x.2.2.2.2.length:Int)=x.2.2.1))
 | 3=>decide (x.2.1=0)&&decide ((x.2.2.2.2.length:Int)=0)
 | _=>decide (x.2.1=0)&&(decide (x.2.2.2.1=0)&&decide ((x.2.2.2.2.length:Int)=x.2.2.1))
def ctR (t:Nat):CtrI:=⟨KR,fun _=>True,fun x=>[.bool (rB t x.1 x.2.1)],fun _=>[]⟩
def ctR0:CtrI:=⟨[.dat .unit,.dat iI],fun _=>True,fun _=>[.bool false],fun _=>[]⟩
theorem runR_held:HeldI Tryz.prog G0 186 (ctR 3):=by
 refine HeldI.run cx0 (fn:=Tryz.f186) rfl rfl ⟨by decide,by decide⟩ ?_
 rintro ⟨⟨k,f,n,b,d⟩,m,⟨⟩⟩ _
 refine (vc_runR k f n b m d _ _).mpr (bc_of (fun h=>?_) (fun h=>⟨rfl,?_⟩))
 ·exact QI.flat (by simp only[ctR,rB,h];rfl) rfl rfl
 ·exact QI.flat (by simp only[ctR,rB,h];rfl) rfl rfl
theorem litR_held:HeldI Tryz.prog G0 189 (ctR 4):=by
 refine HeldI.run cx0 (fn:=Tryz.f189) rfl rfl ⟨by decide,by decide⟩ ?_
 rintro ⟨⟨k,f,n,b,d⟩,m,⟨⟩⟩ _
 refine (vc_litR k f n b m d _ _).mpr (bc_of (fun h=>bc_of (fun h2=>?_) (fun h2=>⟨rfl,?_⟩)) (fun h=>⟨rfl,rfl,?_⟩))
 ·have h2:decide (b=0)=true:=h2
  exact QI.flat (by simp only[ctR,rB,h,h2];rfl) rfl rfl
 ·have h2:decide (b=0)=false:=h2
  exact QI.flat (by simp only[ctR,rB,h,h2];rfl) rfl rfl
 ·exact QI.flat (by simp only[ctR,rB,h];rfl) rfl rfl
theorem noR_held:HeldI Tryz.prog G0 192 ctR0:=by
 refine HeldI.run cx0 (fn:=Tryz.f192) rfl rfl ⟨by decide,by decide⟩ ?_
 rintro ⟨⟨⟩,m,⟨⟩⟩ _
 exact (vc_noR m _ _).mpr (QI.flat rfl rfl rfl)
abbrev KC:List AK:=[.dat opS]
def cN (t:Nat) (x:OpT):Int:=match t with
 | 2=>IntKind.i64.wrap (4+x.2.2.1)
 | 4=>IntKind.i64.wrap (2+x.2.2.1)
 | _=>4
def ctC (t:Nat):CtrI:=⟨KC,fun _=>True,fun x=>[.int .i64 (cN t x.1)],fun _=>[]⟩
theorem copyC_held:HeldI Tryz.prog G0 178 (ctC 1):=by
 refine HeldI.run cx0 (fn:=Tryz.f178) rfl rfl ⟨by decide,by decide⟩ ?_
 rintro ⟨⟨k,f,n,b,d⟩,⟨⟩⟩ _
 exact (vc_copyC k f n b d _ _).mpr (QI.flat rfl rfl rfl)
theorem diffC_held:HeldI Tryz.prog G0 182 (ctC 2):=by
 refine HeldI.run cx0 (fn:=Tryz.f182) rfl rfl ⟨by decide,by decide⟩ ?_
 rintro ⟨⟨k,f,n,b,d⟩,⟨⟩⟩ _
 exact (vc_diffC k f n b d _ _).mpr (QI.flat rfl rfl rfl)
theorem runC_held:HeldI Tryz.prog G0 185 (ctC 3):=by
 refine HeldI.run cx0 (fn:=Tryz.f185) rfl rfl ⟨by decide,by decide⟩ ?_
 rintro ⟨⟨k,f,n,b,d⟩,⟨⟩⟩ _
 exact (vc_runC k f n b d _ _).mpr (QI.flat rfl rfl rfl)
theorem litC_held:HeldI Tryz.prog G0 188 (ctC 4):=by
 refine HeldI.run cx0 (fn:=Tryz.f188) rfl rfl ⟨by decide,by decide⟩ ?_
 rintro ⟨⟨k,f,n,b,d⟩,⟨⟩⟩ _
 exact (vc_litC k f n b d _ _).mpr (QI.flat rfl rfl rfl)
def kndB (x:SyT):Int:=bif !x.1 then 4 else bif decide (x.2.2≠0) then 2 else 1
def ctKnd:Ctr:=⟨[syS],fun _=>True,fun x=>[.int .i64 (kndB x.1)],fun _=>[]⟩
theorem knd_held:Held Tryz.prog G0 117 ctKnd:=by
 refine Held.run cx0 (fn:=Tryz.f117) rfl rfl ⟨by decide,by decide⟩ ?_
 rintro ⟨⟨o,a,b⟩,⟨⟩⟩ _
 refine (vc_kindOf o a b _ _).mpr (bc_of (fun h=>?_) (fun h=>bc_of (fun h2=>?_) (fun h2=>?_)))
 ·exact QC.flat (by simp only[ctKnd,kndB,h];rfl) rfl rfl
 ·exact QC.flat (by simp only[ctKnd,kndB,h,h2];rfl) rfl rfl
 ·exact QC.flat (by simp only[ctKnd,kndB,h,h2];rfl) rfl rfl
end Go.Proofs.YtncocpjkaggnjaaGreatDoor
namespace Go.Proofs.YtncocpjkaggnjaaGreatDoor
open Go.Px Go.Ax
set_option maxRecDepth 100000
def C1:CV:=[(180,.inl ctPart),(40,.inl ctSize),(117,.inl ctKnd)]
theorem cx1:CxOK Tryz.prog tt G0 C1:=((cx0.cons knd_held (fn:=Tryz.f117) rfl rfl rfl).cons size_held (fn:=Tryz.f40) rfl rfl rfl).cons part_held (fn:=Tryz.f180) rfl rfl rfl
set_option maxRecDepth 100000
theorem vc_copyR (k f n b m:Int) (d:List Int) (Q:QT) (R:RT):sy tt G0 C1 Tryz.f179.ntmps Tryz.f179.results.toList Q R 1000 [.code (bodyOf Tryz.f179)] (entryI [.dat opS,.dat iI] ((k,f,n,b,d),m,())) =
  (ctPart.pre (f,n,m,()) ∧
 bc (isPartB f n m) (bc (bif true then decide (b=(0:Int)) else false) (Q [.bool (bif true then decide ((d.length:Int)=(0:Int)) else false)] [(2,.var [.int .i64 k,.int .i64 f,.int .i64 n,.int .u8 b,.sl (Sh.int IntKind.u8) d])]) (false=false ∧
 Q [.bool false] [(2,.var [.int .i64 k,.int .i64 f,.int .i64 n,.int .u8 b,.sl (Sh.int IntKind.u8) d])])) (false=false ∧
 false=false ∧
 Q [.bool false] [(2,.var [.int .i64 k,.int .i64 f,.int .i64 n,.int .u8 b,.sl (Sh.int IntKind.u8) d])])):=by kernel_rfl
theorem vc_diffR (k f n b m:Int) (d:List Int) (Q:QT) (R:RT):sy tt G0 C1 Tryz.f183.ntmps Tryz.f183.results.toList Q R 1000 [.code (bodyOf Tryz.f183)] (entryI [.dat opS,.dat iI] ((k,f,n,b,d),m,())) =
  (ctPart.pre (f,n,m,()) ∧
 bc (isPartB f n m) (bc (bif true then decide (b=(0:Int)) else false) (Q [.bool (bif true then decide ((d.length:Int)=n) else false)] [(2,.var [.int .i64 k,.int .i64 f,.int .i64 n,.int .u8 b,.sl (Sh.int IntKind.u8) d])]) (false=false ∧
 Q [.bool false] [(2,.var [.int .i64 k,.int .i64 f,.int .i64 n,.int .u8 b,.sl (Sh.int IntKind.u8) d])])) (false=false ∧
 false=false ∧
 Q [.bool false] [(2,.var [.int .i64 k,.int .i64 f,.int .i64 n,.int .u8 b,.sl (Sh.int IntKind.u8) d])])):=by kernel_rfl
end Go.Proofs.YtncocpjkaggnjaaGreatDoor
namespace Go.Proofs.YtncocpjkaggnjaaGreatDoor
open Go.Px Go.Ax
set_option maxRecDepth 100000
theorem copyR_held:HeldI Tryz.prog G0 179 (ctR 1):=by
 refine HeldI.run cx1 (fn:=Tryz.f179) rfl rfl ⟨by decide,by decide⟩ ?_
 rintro ⟨⟨k,f,n,b,d⟩,m,⟨⟩⟩ _
 refine (vc_copyR k f n b m d _ _).mpr ⟨trivial,bc_of (fun h=>bc_of (fun h2=>?_) (fun h2=>⟨rfl,?_⟩)) (fun h=>⟨rfl,rfl,?_⟩)⟩
 ·have h2:decide (b=0)=true:=h2
  exact QI.flat (by simp only[ctR,rB,h,h2];rfl) rfl rfl
 ·have h2:decide (b=0)=false:=h2
  exact QI.flat (by simp only[ctR,rB,h,h2];rfl) rfl rfl
 ·exact QI.flat (by simp only[ctR,rB,h];rfl) rfl rfl
theorem diffR_held:HeldI Tryz.prog G0 183 (ctR 2):=by
 refine HeldI.run cx1 (fn:=Tryz.f183) rfl rfl ⟨by decide,by decide⟩ ?_
 rintro ⟨⟨k,f,n,b,d⟩,m,⟨⟩⟩ _
 refine (vc_diffR k f n b m d _ _).mpr ⟨trivial,bc_of (fun h=>bc_of (fun h2=>?_) (fun h2=>⟨rfl,?_⟩)) (fun h=>⟨rfl,rfl,?_⟩)⟩
 ·have h2:decide (b=0)=true:=h2
  exact QI.flat (by simp only[ctR,rB,h,h2];rfl) rfl rfl
 ·have h2:decide (b=0)=false:=h2
  exact QI.flat (by simp only[ctR,rB,h,h2];rfl) rfl rfl
 ·exact QI.flat (by simp only[ctR,rB,h];rfl) rfl rfl
def CM:CV:=(188,.inr (ctC 4))::(185,.inr (ctC 3))::(182,.inr (ctC 2))::(178,.inr (ctC 1))::(192,.inr ctR0)::(189,.inr (ctR 4))::(186,.inr (ctR 3))::(183,.inr (ctR 2))::(179,.inr (ctR 1))::C1
theorem cxM:CxOK Tryz.prog tt G0 CM:=((((((((cx1.consI copyR_held (fn:=Tryz.f179) rfl rfl rfl).consI diffR_held (fn:=Tryz.f183) rfl rfl rfl).consI runR_held (fn:=Tryz.f186) rfl rfl rfl).consI litR_held (fn:=Tryz.f189) rfl rfl rfl).consI noR_held (fn:=Tryz.f192) rfl rfl rfl).consI copyC_held (fn:=Tryz.f178) rfl rfl rfl).consI diffC_held (fn:=Tryz.f182) rfl rfl rfl).consI runC_held (fn:=Tryz.f185) rfl rfl rfl).consI litC_held (fn:=Tryz.f188) rfl rfl rfl
def D1:CV:=(46,.inl (ctO 1 126))::CM
def D2:CV:=(46,.inl (ctO 2 127))::CM
def D3:CV:=(46,.inl (ctO 3 128))::CM
def D4:CV:=(46,.inl (ctO 4 129))::CM
def D0:CV:=(46,.inl ctO0)::CM
theorem dx1:CxOK Tryz.prog tt G0 D1:=cxM.cons o1_held (fn:=Tryz.f46) rfl rfl rfl
theorem dx2:CxOK Tryz.prog tt G0 D2:=cxM.cons o2_held (fn:=Tryz.f46) rfl rfl rfl
theorem dx3:CxOK Tryz.prog tt G0 D3:=cxM.cons o3_held (fn:=Tryz.f46) rfl rfl rfl
theorem dx4:CxOK Tryz.prog tt G0 D4:=cxM.cons o4_held (fn:=Tryz.f46) rfl rfl rfl
theorem dx0:CxOK Tryz.prog tt G0 D0:=cxM.cons o0_held (fn:=Tryz.f46) rfl rfl rfl
end Go.Proofs.YtncocpjkaggnjaaGreatDoor
namespace Go.Proofs.YtncocpjkaggnjaaGreatDoor
open Go.Px Go.Ax
set_option maxRecDepth 100000
theorem vc_isR1 (f n b m:Int) (d:List Int) (Q:QT) (R:RT):sy tt G0 D1 Tryz.f41.ntmps Tryz.f41.results.toList Q R 1000 [.code (bodyOf Tryz.f41)] (entry [opS,iI] ((1,f,n,b,d),m,())) =
  (bc (decide ((1:Int)≤n)) (bc (bif true then decide (n≤(65536:Int)) else false) ((ctO (1:Int) (126:Nat)).pre (((1:iI.D),f,n,b,d),()) ∧
 (ctR (1:Nat)).pre (((1:iI.D),f,n,b,d),m,()) ∧
 Q [.bool (bif true then rB (1:Nat) ((1:iI.D),f,n,b,d) m else false)] [(2,.var [.int .i64 (1:iI.D),.int .i64 f,.int .i64 n,.int .u8 b,.sl (Sh.int IntKind.u8) d])]) (false=false ∧
 Q [.bool false] [(2,.var [.int .i64 (1:iI.D),.int .i64 f,.int .i64 n,.int .u8 b,.sl (Sh.int IntKind.u8) d])])) (false=false ∧
 false=false ∧
 Q [.bool false] [(2,.var [.int .i64 (1:iI.D),.int .i64 f,.int .i64 n,.int .u8 b,.sl (Sh.int IntKind.u8) d])])):=by kernel_rfl
theorem vc_isR2 (f n b m:Int) (d:List Int) (Q:QT) (R:RT):sy tt G0 D2 Tryz.f41.ntmps Tryz.f41.results.toList Q R 1000 [.code (bodyOf Tryz.f41)] (entry [opS,iI] ((2,f,n,b,d),m,())) =
  (bc (decide ((1:Int)≤n)) (bc (bif true then decide (n≤(65536:Int)) else false) ((ctO (2:Int) (127:Nat)).pre (((2:iI.D),f,n,b,d),()) ∧
 (ctR (2:Nat)).pre (((2:iI.D),f,n,b,d),m,()) ∧
 Q [.bool (bif true then rB (2:Nat) ((2:iI.D),f,n,b,d) m else false)] [(2,.var [.int .i64 (2:iI.D),.int .i64 f,.int .i64 n,.int .u8 b,.sl (Sh.int IntKind.u8) d])]) (false=false ∧
 Q [.bool false] [(2,.var [.int .i64 (2:iI.D),.int .i64 f,.int .i64 n,.int .u8 b,.sl (Sh.int IntKind.u8) d])])) (false=false ∧
 false=false ∧
 Q [.bool false] [(2,.var [.int .i64 (2:iI.D),.int .i64 f,.int .i64 n,.int .u8 b,.sl (Sh.int IntKind.u8) d])])):=by kernel_rfl
theorem vc_isR3 (f n b m:Int) (d:List Int) (Q:QT) (R:RT):sy tt G0 D3 Tryz.f41.ntmps Tryz.f41.results.toList Q R 1000 [.code (bodyOf Tryz.f41)] (entry [opS,iI] ((3,f,n,b,d),m,())) =
  (bc (decide ((1:Int)≤n)) (bc (bif true then decide (n≤(65536:Int)) else false) ((ctO (3:Int) (128:Nat)).pre (((3:iI.D),f,n,b,d),()) ∧
 (ctR (3:Nat)).pre (((3:iI.D),f,n,b,d),m,()) ∧
 Q [.bool (bif true then rB (3:Nat) ((3:iI.D),f,n,b,d) m else false)] [(2,.var [.int .i64 (3:iI.D),.int .i64 f,.int .i64 n,.int .u8 b,.sl (Sh.int IntKind.u8) d])]) (false=false ∧
 Q [.bool false] [(2,.var [.int .i64 (3:iI.D),.int .i64 f,.int .i64 n,.int .u8 b,.sl (Sh.int IntKind.u8) d])])) (false=false ∧
 false=false ∧
 Q [.bool false] [(2,.var [.int .i64 (3:iI.D),.int .i64 f,.int .i64 n,.int .u8 b,.sl (Sh.int IntKind.u8) d])])):=by kernel_rfl
theorem vc_isR4 (f n b m:Int) (d:List Int) (Q:QT) (R:RT):sy tt G0 D4 Tryz.f41.ntmps Tryz.f41.results.toList Q R 1000 [.code (bodyOf Tryz.f41)] (entry [opS,iI] ((4,f,n,b,d),m,())) =
  (bc (decide ((1:Int)≤n)) (bc (bif true then decide (n≤(65536:Int)) else false) ((ctO (4:Int) (129:Nat)).pre (((4:iI.D),f,n,b,d),()) ∧
 (ctR (4:Nat)).pre (((4:iI.D),f,n,b,d),m,()) ∧
 Q [.bool (bif true then rB (4:Nat) ((4:iI.D),f,n,b,d) m else false)] [(2,.var [.int .i64 (4:iI.D),.int .i64 f,.int .i64 n,.int .u8 b,.sl (Sh.int IntKind.u8) d])]) (false=false ∧
 Q [.bool false] [(2,.var [.int .i64 (4:iI.D),.int .i64 f,.int .i64 n,.int .u8 b,.sl (Sh.int IntKind.u8) d])])) (false=false ∧
 false=false ∧
 Q [.bool false] [(2,.var [.int .i64 (4:iI.D),.int .i64 f,.int .i64 n,.int .u8 b,.sl (Sh.int IntKind.u8) d])])):=by kernel_rfl
theorem vc_isR0 (k f n b m:Int) (d:List Int) (Q:QT) (R:RT):sy tt G0 D0 Tryz.f41.ntmps Tryz.f41.results.toList Q R 1000 [.code (bodyOf Tryz.f41)] (entry [opS,iI] ((k,f,n,b,d),m,())) =
  (bc (decide ((1:Int)≤n)) (bc (bif true then decide (n≤(65536:Int)) else false) (ctO0.pre ((k,f,n,b,d),()) ∧
 ctR0.pre ((),m,()) ∧
 Q [.bool (bif true then false else false)] [(2,.var [.int .i64 k,.int .i64 f,.int .i64 n,.int .u8 b,.sl (Sh.int IntKind.u8) d])]) (false=false ∧
 Q [.bool false] [(2,.var [.int .i64 k,.int .i64 f,.int .i64 n,.int .u8 b,.sl (Sh.int IntKind.u8) d])])) (false=false ∧
 false=false ∧
 Q [.bool false] [(2,.var [.int .i64 k,.int .i64 f,.int .i64 n,.int .u8 b,.sl (Sh.int IntKind.u8) d])])):=by kernel_rfl
end Go.Proofs.YtncocpjkaggnjaaGreatDoor
namespace Go.Proofs.YtncocpjkaggnjaaGreatDoor
open Go.Px Go.Ax
set_option maxRecDepth 100000
def kR (x:OpT) (m:Int):Bool:=if x.1=1 then rB 1 x m else if x.1=2 then rB 2 x m else if x.1=3 then rB 3 x m else if x.1=4 then rB 4 x m else false
def isRB (x:OpT) (m:Int):Bool:=decide (1≤x.2.2.1)&&(decide (x.2.2.1≤65536)&&kR x m)
abbrev ctIsP (p:Int→Prop):Ctr:=⟨[opS,iI],fun x=>p x.1.1,fun x=>[.bool (isRB x.1 x.2.1)],fun _=>[]⟩
theorem isR1_held:Held Tryz.prog G0 41 (ctIsP (fun k=>k=1)):=by
 refine Held.run dx1 (fn:=Tryz.f41) rfl rfl ⟨by decide,by decide⟩ ?_
 rintro ⟨⟨k,f,n,b,d⟩,m,⟨⟩⟩ hp
 replace hp:k=1:=hp
 subst hp
 refine (vc_isR1 f n b m d _ _).mpr (bc_of (fun h=>bc_of (fun h2=>⟨rfl,trivial,?_⟩) (fun h2=>⟨rfl,?_⟩)) (fun h=>⟨rfl,rfl,?_⟩))
 ·have h2:decide (n≤65536)=true:=h2
  exact QC.flat (by simp only[isRB,h,h2];rfl) rfl rfl
 ·have h2:decide (n≤65536)=false:=h2
  exact QC.flat (by simp only[isRB,h,h2];rfl) rfl rfl
 ·exact QC.flat (by simp only[isRB,h];rfl) rfl rfl
theorem isR2_held:Held Tryz.prog G0 41 (ctIsP (fun k=>k=2)):=by
 refine Held.run dx2 (fn:=Tryz.f41) rfl rfl ⟨by decide,by decide⟩ ?_
 rintro ⟨⟨k,f,n,b,d⟩,m,⟨⟩⟩ hp
 replace hp:k=2:=hp
 subst hp
 refine (vc_isR2 f n b m d _ _).mpr (bc_of (fun h=>bc_of (fun h2=>⟨rfl,trivial,?_⟩) (fun h2=>⟨rfl,?_⟩)) (fun h=>⟨rfl,rfl,?_⟩))
 ·have h2:decide (n≤65536)=true:=h2
  exact QC.flat (by simp only[isRB,h,h2];rfl) rfl rfl
 ·have h2:decide (n≤65536)=false:=h2
  exact QC.flat (by simp only[isRB,h,h2];rfl) rfl rfl
 ·exact QC.flat (by simp only[isRB,h];rfl) rfl rfl
theorem isR3_held:Held Tryz.prog G0 41 (ctIsP (fun k=>k=3)):=by
 refine Held.run dx3 (fn:=Tryz.f41) rfl rfl ⟨by decide,by decide⟩ ?_
 rintro ⟨⟨k,f,n,b,d⟩,m,⟨⟩⟩ hp
 replace hp:k=3:=hp
 subst hp
 refine (vc_isR3 f n b m d _ _).mpr (bc_of (fun h=>bc_of (fun h2=>⟨rfl,trivial,?_⟩) (fun h2=>⟨rfl,?_⟩)) (fun h=>⟨rfl,rfl,?_⟩))
 ·have h2:decide (n≤65536)=true:=h2
  exact QC.flat (by simp only[isRB,h,h2];rfl) rfl rfl
 ·have h2:decide (n≤65536)=false:=h2
  exact QC.flat (by simp only[isRB,h,h2];rfl) rfl rfl
 ·exact QC.flat (by simp only[isRB,h];rfl) rfl rfl
theorem isR4_held:Held Tryz.prog G0 41 (ctIsP (fun k=>k=4)):=by
 refine Held.run dx4 (fn:=Tryz.f41) rfl rfl ⟨by decide,by decide⟩ ?_
 rintro ⟨⟨k,f,n,b,d⟩,m,⟨⟩⟩ hp
 replace hp:k=4:=hp
 subst hp
 refine (vc_isR4 f n b m d _ _).mpr (bc_of (fun h=>bc_of (fun h2=>⟨rfl,trivial,?_⟩) (fun h2=>⟨rfl,?_⟩)) (fun h=>⟨rfl,rfl,?_⟩))
 ·have h2:decide (n≤65536)=true:=h2
  exact QC.flat (by simp only[isRB,h,h2];rfl) rfl rfl
 ·have h2:decide (n≤65536)=false:=h2
  exact QC.flat (by simp only[isRB,h,h2];rfl) rfl rfl
 ·exact QC.flat (by simp only[isRB,h];rfl) rfl rfl
theorem isR0_held:Held Tryz.prog G0 41 (ctIsP (fun k=>k≠1∧k≠2∧k≠3∧k≠4)):=by
 refine Held.run dx0 (fn:=Tryz.f41) rfl rfl ⟨by decide,by decide⟩ ?_
 rintro ⟨⟨k,f,n,b,d⟩,m,⟨⟩⟩ hp
 replace hp:k≠1∧k≠2∧k≠3∧k≠4:=hp
 have hk:kR (k,f,n,b,d) m=false:=by simp[kR,hp]
 refine (vc_isR0 k f n b m d _ _).mpr (bc_of (fun h=>bc_of (fun h2=>⟨hp,trivial,?_⟩) (fun h2=>⟨rfl,?_⟩)) (fun h=>⟨rfl,rfl,?_⟩))
 ·have h2:decide (n≤65536)=true:=h2
  exact QC.flat (by simp only[isRB,h,h2,hk];rfl) rfl rfl
 ·have h2:decide (n≤65536)=false:=h2
  exact QC.flat (by simp only[isRB,h,h2];rfl) rfl rfl
 ·exact QC.flat (by simp only[isRB,h];rfl) rfl rfl
def ctIsR:Ctr:=⟨[opS,iI],fun _=>True,fun x=>[.bool (isRB x.1 x.2.1)],fun _=>[]⟩
theorem isR_held:Held Tryz.prog G0 41 ctIsR:=fun x _=>by
 by_cases h1:x.1.1=1
 ·exact isR1_held x h1
 ·by_cases h2:x.1.1=2
  ·exact isR2_held x h2
  ·by_cases h3:x.1.1=3
   ·exact isR3_held x h3
   ·by_cases h4:x.1.1=4
    ·exact isR4_held x h4
    ·exact isR0_held x ⟨h1,h2,h3,h4⟩
def DC:CV:=(41,.inl ctIsR)::C1
theorem dxC:CxOK Tryz.prog tt G0 DC:=cx1.cons isR_held (fn:=Tryz.f41) rfl rfl rfl
end Go.Proofs.YtncocpjkaggnjaaGreatDoor
namespace Go.Proofs.YtncocpjkaggnjaaGreatDoor
open Go.Px Go.Ax
set_option maxRecDepth 100000
theorem vc_check (li:Bool) (m o:Int) (l:List OpT) (Q:QT) (R:RT):sy tt G0 DC Tryz.f12.ntmps Tryz.f12.results.toList Q R 1000 [.code (bodyOf Tryz.f12)] (entry [paS] ((li,m,o,l),())) =
  (ctSize.pre (m,()) ∧
 bc (!(decide ((0:iI.D)≤m)&&decide (m≤(65536:iI.D)))) (true=true ∧
 true=true ∧
 Q [.int .i64 (-1:Int),.int .i64 60] [(1,.var [.bool li,.int .i64 m,.int .i64 o,.sl opS l])]) (ctSize.pre (o,()) ∧
 bc (bif false then true else !(decide ((0:iI.D)≤o)&&decide (o≤(65536:iI.D)))) (true=true ∧
 Q [.int .i64 (-1:Int),.int .i64 60] [(1,.var [.bool li,.int .i64 m,.int .i64 o,.sl opS l])]) (bc (bif false then true else decide ((4096:Int)<(l.length:Int))) (Q [.int .i64 (-1:Int),.int .i64 60] [(1,.var [.bool li,.int .i64 m,.int .i64 o,.sl opS l])]) (R (hd Tryz.f12 0) { env:=[(0,.agg [.bool li,.int .i64 m,.int .i64 o,.sl opS l]),(1,.ptr 1 0),(2,.int .i64 0),(3,.int .i64 0),(4,.int .i64 o),(7,.ptr 1 1),(8,.int .i64 m),(9,.bool (decide ((0:iI.D)≤m)&&decide (m≤(65536:iI.D)))),(10,.bool !(decide ((0:iI.D)≤m)&&decide (m≤(65536:iI.D)))),(11,.bool false),(12,.ptr 1 2),(13,.int .i64 o),(14,.bool (decide ((0:iI.D)≤o)&&decide (o≤(65536:iI.D)))),(15,.bool !(decide ((0:iI.D)≤o)&&decide (o≤(65536:iI.D)))),(16,.bool (bif false then true else !(decide ((0:iI.D)≤o)&&decide (o≤(65536:iI.D))))),(17,.bool false),(18,.ptr 1 3),(19,.sl opS l),(20,.int .i64 (l.length:Int)),(21,.bool (decide ((4096:Int)<(l.length:Int)))),(22,.bool (bif false then true else decide ((4096:Int)<(l.length:Int)))),(23,.ptr 1 2),(24,.int .i64 o),(25,.ptr 1 3),(26,.sl opS l),(27,.int .i64 (l.length:Int)),(28,.int .i64 0)],blk:=[(1,.var [.bool li,.int .i64 m,.int .i64 o,.sl opS l])] })))):=by kernel_rfl
def mem_checkL_m0 (li:Bool) (m o:Int) (l:List OpT) (i:Nat):List (Nat × LB):=[(1,.var [.bool li,.int .i64 m,.int .i64 o,.sl opS l]),(6,.var [.int .i64 (gtO l (i:Int).toNat).1,.int .i64 (gtO l (i:Int).toNat).2.1,.int .i64 (gtO l (i:Int).toNat).2.2.1,.int .u8 (gtO l (i:Int).toNat).2.2.2.1,.sl uB (gtO l (i:Int).toNat).2.2.2.2])]
theorem vc_checkL (li:Bool) (m o left:Int) (l:List OpT) (i:Nat) (Q:QT) (R:RT):sy tt G0 DC Tryz.f12.ntmps Tryz.f12.results.toList Q R 1000 (hd Tryz.f12 0) ⟨[(1,.ptr 1 0),(4,.int .i64 left),(26,.sl opS l),(27,.int .i64 l.length),(28,.int .i64 (i:Nat))],[(1,.var [.bool li,.int .i64 m,.int .i64 o,.sl opS l])]⟩ =
  (bc (decide ((i:Int)<(l.length:Int))) ((0:Int)≤(i:Int) ∧
 (i:Int)<(l.length:Int) ∧
 ctIsR.pre ((gtO l (i:Int).toNat),m,()) ∧
 bc (!isRB (gtO l (i:Int).toNat) m) (true=true ∧
 Q [.int .i64 (i:Int),.int .i64 60] (mem_checkL_m0 li m o l i)) (bc (bif false then true else decide (left<(gtO l (i:Int).toNat).2.2.1)) (Q [.int .i64 (i:Int),.int .i64 60] (mem_checkL_m0 li m o l i)) (R (hd Tryz.f12 0) { env:=[(1,.ptr 1 0),(4,.int .i64 (IntKind.i64.wrap (left-(gtO l (i:Int).toNat).2.2.1))),(5,.int .i64 (i:Int)),(6,.ptr 6 0),(26,.sl opS l),(27,.int .i64 (l.length:Int)),(28,.int .i64 (IntKind.i64.wrap ((i:Int)+(1:Int)))),(29,.bool (decide ((i:Int)<(l.length:Int)))),(30,.int .i64 (i:Int)),(31,.elv opS (gtO l (i:Int).toNat)),(32,.agg [.int .i64 (gtO l (i:Int).toNat).1,.int .i64 (gtO l (i:Int).toNat).2.1,.int .i64 (gtO l (i:Int).toNat).2.2.1,.int .u8 (gtO l (i:Int).toNat).2.2.2.1,.sl uB (gtO l (i:Int).toNat).2.2.2.2]),(33,.agg [.int .i64 (gtO l (i:Int).toNat).1,.int .i64 (gtO l (i:Int).toNat).2.1,.int .i64 (gtO l (i:Int).toNat).2.2.1,.int .u8 (gtO l (i:Int).toNat).2.2.2.1,.sl uB (gtO l (i:Int).toNat).2.2.2.2]),(34,.ptr 1 1),(35,.int .i64 m),(36,.bool (isRB (gtO l (i:Int).toNat) m)),(37,.bool !isRB (gtO l (i:Int).toNat) m),(38,.bool false),(39,.ptr 6 2),(40,.int .i64 (gtO l (i:Int).toNat).2.2.1),(41,.int .i64 left),(42,.bool (decide (left<(gtO l (i:Int).toNat).2.2.1))),(43,.bool (bif false then true else decide (left<(gtO l (i:Int).toNat).2.2.1))),(45,.int .i64 left),(46,.ptr 6 2),(47,.int .i64 (gtO l (i:Int).toNat).2.2.1),(48,.int .i64 (IntKind.i64.wrap (left-(gtO l (i:Int).toNat).2.2.1))),(49,.int .i64 (IntKind.i64.wrap ((i:Int)+(1:Int))))],blk:=[(1,.var [.bool li,.int .i64 m,.int .i64 o,.sl opS l]),(6,.var [.int .i64 (gtO l (i:Int).toNat).1,.int .i64 (gtO l (i:Int).toNat).2.1,.int .i64 (gtO l (i:Int).toNat).2.2.1,.int .u8 (gtO l (i:Int).toNat).2.2.2.1,.sl uB (gtO l (i:Int).toNat).2.2.2.2])] }))) (bc (decide ((0:Int)<left)) (Q [.int .i64 (l.length:Int),.int .i64 60] [(1,.var [.bool li,.int .i64 m,.int .i64 o,.sl opS l])]) (Q [.int .i64 (l.length:Int),.int .i64 0] [(1,.var [.bool li,.int .i64 m,.int .i64 o,.sl opS l])]))):=by kernel_rfl
theorem vc_run (old:List Int) (l:List SyT) (Q:QT) (R:RT):sy tt G0 [] Tryz.f77.ntmps Tryz.f77.results.toList Q R 1000 [.code (bodyOf Tryz.f77)] (entry [.sl uB,.sl syS] (old,l,())) =
  ((0:Int)≤(l.length:Int) ∧
 (l.length:Int)≤(l.length:Int) ∧
 (l.length:Int)<(2:Int) ^ (24:Nat) ∧
 (↑(1:Nat):Int)*(l.length:Int)≤(2:Int) ^ (48:Nat) ∧
 R (hd Tryz.f77 0) { env:=[(0,.sl uB old),(1,.sl syS l),(4,.nils),(5,.int .i64 0),(6,.win true uB 11 0 (l.length:Int).toNat),(9,.sl syS l),(10,.int .i64 (l.length:Int)),(11,.win true uB 11 0 (l.length:Int).toNat),(12,.sl syS l),(13,.int .i64 (l.length:Int)),(14,.int .i64 0)],blk:=[(11,.row 5 uB (List.replicate (l.length:Int).toNat uB.dflt))] }):=by kernel_rfl
def mem_runL_m0 (b:List Int) (l:List SyT) (i:Nat):List (Nat × LB):=[(8,.var [.bool (gtY l (i:Int).toNat).1,.int .i64 (gtY l (i:Int).toNat).2.1,.int .u8 (gtY l (i:Int).toNat).2.2]),(11,.row 5 uB (b.set ((0:Nat)+(i:Int).toNat) (gtY l (i:Int).toNat).2.2))]
theorem vc_runL (old b:List Int) (l:List SyT) (i:Nat) (Q:QT) (R:RT):sy tt G0 [] Tryz.f77.ntmps Tryz.f77.results.toList Q R 1000 (hd Tryz.f77 0) ⟨[(0,.sl uB old),(6,.win true uB 11 0 b.length),(12,.sl syS l),(13,.int .i64 l.length),(14,.int .i64 (i:Nat))],[(11,.row 5 uB b)]⟩ =
  (bc (decide ((i:Int)<(l.length:Int))) ((0:Int)≤(i:Int) ∧
 (i:Int)<(l.length:Int) ∧
 (0:Int)≤(i:Int) ∧
 (i:Int)<(b.length:Int) ∧
 (0:Nat)+(i:Int).toNat<b.length ∧
 bc (!(gtY l (i:Int).toNat).1) (R (hd Tryz.f77 0) { env:=[(0,.sl uB old),(6,.win true uB 11 0 b.length),(7,.int .i64 (i:Int)),(8,.ptr 8 0),(12,.sl syS l),(13,.int .i64 (l.length:Int)),(14,.int .i64 (IntKind.i64.wrap ((i:Int)+(1:Int)))),(15,.bool (decide ((i:Int)<(l.length:Int)))),(16,.int .i64 (i:Int)),(17,.elv syS (gtY l (i:Int).toNat)),(18,.agg [.bool (gtY l (i:Int).toNat).1,.int .i64 (gtY l (i:Int).toNat).2.1,.int .u8 (gtY l (i:Int).toNat).2.2]),(19,.win true uB 11 0 b.length),(20,.int .i64 (i:Int)),(21,.ptr 8 2),(22,.int .u8 (gtY l (i:Int).toNat).2.2),(23,.elp uB (11:Nat) ((0:Nat)+(i:Int).toNat) (0:Nat)),(24,.ptr 8 0),(25,.bool (gtY l (i:Int).toNat).1),(26,.bool !(gtY l (i:Int).toNat).1),(48,.int .i64 (IntKind.i64.wrap ((i:Int)+(1:Int))))],blk:=[(8,.var [.bool (gtY l (i:Int).toNat).1,.int .i64 (gtY l (i:Int).toNat).2.1,.int .u8 (gtY l (i:Int).toNat).2.2]),(11,.row 5 uB (b.set ((0:Nat)+(i:Int).toNat) (gtY l (i:Int).toNat).2.2))] }) (bc (decide ((gtY l (i:Int).toNat).2.1<(0:Int))) (true=true ∧
 Q [.nils,.int .i64 61] (mem_runL_m0 b l i)) (bc (bif false then true else decide ((old.length:Int)≤(gtY l (i:Int).toNat).2.1)) (Q [.nils,.int .i64 61] (mem_runL_m0 b l i)) ((0:Int)≤(i:Int) ∧
 (i:Int)<(b.length:Int) ∧
 (0:Nat)+(i:Int).toNat<(b.set ((0:Nat)+(i:Int).toNat) (gtY l (i:Int).toNat).2.2).length ∧
 (0:Int)≤(gtY l (i:Int).toNat).2.1 ∧
 (gtY l (i:Int).toNat).2.1<(old.length:Int) ∧
 (0:Int)≤(i:Int) ∧
 (i:Int)<(b.length:Int) ∧
 (0:Nat)+(i:Int).toNat<(b.set ((0:Nat)+(i:Int).toNat) (gtY l (i:Int).toNat).2.2).length ∧
 R (hd Tryz.f77 0) { env:=[(0,.sl uB old),(6,.win true uB 11 0 b.length),(7,.int .i64 (i:Int)),(8,.ptr 8 0),(12,.sl syS l),(13,.int .i64 (l.length:Int)),(14,.int .i64 (IntKind.i64.wrap ((i:Int)+(1:Int)))),(15,.bool (decide ((i:Int)<(l.length:Int)))),(16,.int .i64 (i:Int)),(17,.elv syS (gtY l (i:Int).toNat)),(18,.agg [.bool (gtY l (i:Int).toNat).1,.int .i64 (gtY l (i:Int).toNat).2.1,.int .u8 (gtY l (i:Int).toNat).2.2]),(19,.win true uB 11 0 b.length),(20,.int .i64 (i:Int)),(21,.ptr 8 2),(22,.int .u8 (gtY l (i:Int).toNat).2.2),(23,.elp uB (11:Nat) ((0:Nat)+(i:Int).toNat) (0:Nat)),(24,.ptr 8 0),(25,.bool (gtY l (i:Int).toNat).1),(26,.bool !(gtY l (i:Int).toNat).1),(27,.ptr 8 1),(28,.int .i64 (gtY l (i:Int).toNat).2.1),(29,.bool (decide ((gtY l (i:Int).toNat).2.1<(0:Int)))),(30,.bool false),(31,.ptr 8 1),(32,.int .i64 (gtY l (i:Int).toNat).2.1),(33,.sl uB old),(34,.int .i64 (old.length:Int)),(35,.bool (decide ((old.length:Int)≤(gtY l (i:Int).toNat).2.1))),(36,.bool (bif false then true else decide ((old.length:Int)≤(gtY l (i:Int).toNat).2.1))),(37,.win true uB 11 0 b.length),(38,.int .i64 (i:Int)),(39,.elp uB (11:Nat) ((0:Nat)+(i:Int).toNat) (0:Nat)),(40,.int .u8 (gtB (b.set ((0:Nat)+(i:Int).toNat) (gtY l (i:Int).toNat).2.2) ((0:Nat)+(i:Int).toNat))),(41,.sl uB old),(42,.ptr 8 1),(43,.int .i64 (gtY l (i:Int).toNat).2.1),(44,.elv uB (gtB old (Int.toNat (gtY l (i:Int).toNat).2.1))),(45,.int .u8 (gtB old (Int.toNat (gtY l (i:Int).toNat).2.1))),(46,.int .u8 (IntKind.u8.wrap (gtB (b.set ((0:Nat)+(i:Int).toNat) (gtY l (i:Int).toNat).2.2) ((0:Nat)+(i:Int).toNat)+gtB old (Int.toNat (gtY l (i:Int).toNat).2.1)))),(47,.elp uB (11:Nat) ((0:Nat)+(i:Int).toNat) (0:Nat)),(48,.int .i64 (IntKind.i64.wrap ((i:Int)+(1:Int))))],blk:=[(8,.var [.bool (gtY l (i:Int).toNat).1,.int .i64 (gtY l (i:Int).toNat).2.1,.int .u8 (gtY l (i:Int).toNat).2.2]),(11,.row 5 uB ((b.set ((0:Nat)+(i:Int).toNat) (gtY l (i:Int).toNat).2.2).set ((0:Nat)+(i:Int).toNat) (IntKind.u8.wrap (gtB (b.set ((0:Nat)+(i:Int).toNat) (gtY l (i:Int).toNat).2.2) ((0:Nat)+(i:Int).toNat)+gtB old (Int.toNat (gtY l (i:Int).toNat).2.1)))))] })))) (Q [.win true uB 11 0 b.length,.int .i64 0] [(11,.row 5 uB b)])):=by kernel_rfl
theorem vc_areR (l:List SyT) (m:Int) (Q:QT) (R:RT):sy tt G0 [] Tryz.f72.ntmps Tryz.f72.results.toList Q R 1000 [.code (bodyOf Tryz.f72)] (entry [.sl syS,iI] (l,m,())) =
  (R (hd Tryz.f72 0) { env:=[(0,.sl syS l),(1,.int .i64 m),(4,.bool false),(8,.sl syS l),(9,.int .i64 (l.length:Int)),(10,.int .i64 0)],blk:=[] }):=by kernel_rfl
def mem_areRL_m0 (l:List SyT) (i:Nat):List (Nat × LB):=[(6,.var [.bool (gtY l (i:Int).toNat).1,.int .i64 (gtY l (i:Int).toNat).2.1,.int .u8 (gtY l (i:Int).toNat).2.2])]
theorem vc_areRL (l:List SyT) (m:Int) (i:Nat) (Q:QT) (R:RT):sy tt G0 [] Tryz.f72.ntmps Tryz.f72.results.toList Q R 1000 (hd Tryz.f72 0) ⟨[(1,.int .i64 m),(8,.sl syS l),(9,.int .i64 l.length),(10,.int .i64 (i:Nat))],[]⟩ =
  (bc (decide ((i:Int)<(l.length:Int))) ((0:Int)≤(i:Int) ∧
 (i:Int)<(l.length:Int) ∧
 bc (decide ((0:Int)≤(gtY l (i:Int).toNat).2.1)) (bc (gtY l (i:Int).toNat).1 (bc (bif true then !bif true then decide ((gtY l (i:Int).toNat).2.1<m) else false else false) (true=true ∧
 Q [.bool false] (mem_areRL_m0 l i)) (bc (!(gtY l (i:Int).toNat).1) (bc (bif false then true else bif true then decide ((gtY l (i:Int).toNat).2.1≠(0:Int)) else false) (Q [.bool false] (mem_areRL_m0 l i)) (R (hd Tryz.f72 0) { env:=[(1,.int .i64 m),(6,.ptr 6 0),(7,.bool (decide ((gtY l (i:Int).toNat).2.1<m))),(8,.sl syS l),(9,.int .i64 (l.length:Int)),(10,.int .i64 (IntKind.i64.wrap ((i:Int)+(1:Int)))),(11,.bool (decide ((i:Int)<(l.length:Int)))),(12,.elv syS (gtY l (i:Int).toNat)),(13,.agg [.bool (gtY l (i:Int).toNat).1,.int .i64 (gtY l (i:Int).toNat).2.1,.int .u8 (gtY l (i:Int).toNat).2.2]),(14,.ptr 6 1),(15,.int .i64 (gtY l (i:Int).toNat).2.1),(16,.bool (decide ((0:Int)≤(gtY l (i:Int).toNat).2.1))),(17,.bool true),(18,.ptr 6 1),(19,.int .i64 (gtY l (i:Int).toNat).2.1),(20,.int .i64 m),(21,.bool (decide ((gtY l (i:Int).toNat).2.1<m))),(22,.bool (decide ((gtY l (i:Int).toNat).2.1<m))),(23,.ptr 6 0),(24,.bool (gtY l (i:Int).toNat).1),(25,.bool true),(26,.bool (decide ((gtY l (i:Int).toNat).2.1<m))),(27,.bool !bif true then decide ((gtY l (i:Int).toNat).2.1<m) else false),(28,.bool (bif true then !bif true then decide ((gtY l (i:Int).toNat).2.1<m) else false else false)),(29,.bool false),(30,.ptr 6 0),(31,.bool (gtY l (i:Int).toNat).1),(32,.bool !(gtY l (i:Int).toNat).1),(33,.bool true),(34,.ptr 6 1),(35,.int .i64 (gtY l (i:Int).toNat).2.1),(36,.bool (decide ((gtY l (i:Int).toNat).2.1≠(0:Int)))),(37,.bool (decide ((gtY l (i:Int).toNat).2.1≠(0:Int)))),(38,.bool (bif false then true else bif true then decide ((gtY l (i:Int).toNat).2.1≠(0:Int)) else false)),(39,.int .i64 (IntKind.i64.wrap ((i:Int)+(1:Int))))],blk:=[(6,.var [.bool (gtY l (i:Int).toNat).1,.int .i64 (gtY l (i:Int).toNat).2.1,.int .u8 (gtY l (i:Int).toNat).2.2])] })) (false=false ∧
 R (hd Tryz.f72 0) { env:=[(1,.int .i64 m),(6,.ptr 6 0),(7,.bool (decide ((gtY l (i:Int).toNat).2.1<m))),(8,.sl syS l),(9,.int .i64 (l.length:Int)),(10,.int .i64 (IntKind.i64.wrap ((i:Int)+(1:Int)))),(11,.bool (decide ((i:Int)<(l.length:Int)))),(12,.elv syS (gtY l (i:Int).toNat)),(13,.agg [.bool (gtY l (i:Int).toNat).1,.int .i64 (gtY l (i:Int).toNat).2.1,.int .u8 (gtY l (i:Int).toNat).2.2]),(14,.ptr 6 1),(15,.int .i64 (gtY l (i:Int).toNat).2.1),(16,.bool (decide ((0:Int)≤(gtY l (i:Int).toNat).2.1))),(17,.bool true),(18,.ptr 6 1),(19,.int .i64 (gtY l (i:Int).toNat).2.1),(20,.int .i64 m),(21,.bool (decide ((gtY l (i:Int).toNat).2.1<m))),(22,.bool (decide ((gtY l (i:Int).toNat).2.1<m))),(23,.ptr 6 0),(24,.bool (gtY l (i:Int).toNat).1),(25,.bool true),(26,.bool (decide ((gtY l (i:Int).toNat).2.1<m))),(27,.bool !bif true then decide ((gtY l (i:Int).toNat).2.1<m) else false),(28,.bool (bif true then !bif true then decide ((gtY l (i:Int).toNat).2.1<m) else false else false)),(29,.bool false),(30,.ptr 6 0),(31,.bool (gtY l (i:Int).toNat).1),(32,.bool !(gtY l (i:Int).toNat).1),(33,.bool false),(34,SV.tup []),(35,SV.tup []),(36,SV.tup []),(37,.bool false),(38,.bool (bif false then true else false)),(39,.int .i64 (IntKind.i64.wrap ((i:Int)+(1:Int))))],blk:=[(6,.var [.bool (gtY l (i:Int).toNat).1,.int .i64 (gtY l (i:Int).toNat).2.1,.int .u8 (gtY l (i:Int).toNat).2.2])] }))) (false=false ∧
 bc (!(gtY l (i:Int).toNat).1) (bc (bif false then true else bif true then decide ((gtY l (i:Int).toNat).2.1≠(0:Int)) else false) (Q [.bool false] (mem_areRL_m0 l i)) (R (hd Tryz.f72 0) { env:=[(1,.int .i64 m),(6,.ptr 6 0),(7,.bool (decide ((gtY l (i:Int).toNat).2.1<m))),(8,.sl syS l),(9,.int .i64 (l.length:Int)),(10,.int .i64 (IntKind.i64.wrap ((i:Int)+(1:Int)))),(11,.bool (decide ((i:Int)<(l.length:Int)))),(12,.elv syS (gtY l (i:Int).toNat)),(13,.agg [.bool (gtY l (i:Int).toNat).1,.int .i64 (gtY l (i:Int).toNat).2.1,.int .u8 (gtY l (i:Int).toNat).2.2]),(14,.ptr 6 1),(15,.int .i64 (gtY l (i:Int).toNat).2.1),(16,.bool (decide ((0:Int)≤(gtY l (i:Int).toNat).2.1))),(17,.bool true),(18,.ptr 6 1),(19,.int .i64 (gtY l (i:Int).toNat).2.1),(20,.int .i64 m),(21,.bool (decide ((gtY l (i:Int).toNat).2.1<m))),(22,.bool (decide ((gtY l (i:Int).toNat).2.1<m))),(23,.ptr 6 0),(24,.bool (gtY l (i:Int).toNat).1),(25,.bool false),(26,SV.tup []),(27,SV.tup []),(28,.bool false),(29,.bool false),(30,.ptr 6 0),(31,.bool (gtY l (i:Int).toNat).1),(32,.bool !(gtY l (i:Int).toNat).1),(33,.bool true),(34,.ptr 6 1),(35,.int .i64 (gtY l (i:Int).toNat).2.1),(36,.bool (decide ((gtY l (i:Int).toNat).2.1≠(0:Int)))),(37,.bool (decide ((gtY l (i:Int).toNat).2.1≠(0:Int)))),(38,.bool (bif false then true else bif true then decide ((gtY l (i:Int).toNat).2.1≠(0:Int)) else false)),(39,.int .i64 (IntKind.i64.wrap ((i:Int)+(1:Int))))],blk:=[(6,.var [.bool (gtY l (i:Int).toNat).1,.int .i64 (gtY l (i:Int).toNat).2.1,.int .u8 (gtY l (i:Int).toNat).2.2])] })) (false=false ∧
 R (hd Tryz.f72 0) { env:=[(1,.int .i64 m),(6,.ptr 6 0),(7,.bool (decide ((gtY l (i:Int).toNat).2.1<m))),(8,.sl syS l),(9,.int .i64 (l.length:Int)),(10,.int .i64 (IntKind.i64.wrap ((i:Int)+(1:Int)))),(11,.bool (decide ((i:Int)<(l.length:Int)))),(12,.elv syS (gtY l (i:Int).toNat)),(13,.agg [.bool (gtY l (i:Int).toNat).1,.int .i64 (gtY l (i:Int).toNat).2.1,.int .u8 (gtY l (i:Int).toNat).2.2]),(14,.ptr 6 1),(15,.int .i64 (gtY l (i:Int).toNat).2.1),(16,.bool (decide ((0:Int)≤(gtY l (i:Int).toNat).2.1))),(17,.bool true),(18,.ptr 6 1),(19,.int .i64 (gtY l (i:Int).toNat).2.1),(20,.int .i64 m),(21,.bool (decide ((gtY l (i:Int).toNat).2.1<m))),(22,.bool (decide ((gtY l (i:Int).toNat).2.1<m))),(23,.ptr 6 0),(24,.bool (gtY l (i:Int).toNat).1),(25,.bool false),(26,SV.tup []),(27,SV.tup []),(28,.bool false),(29,.bool false),(30,.ptr 6 0),(31,.bool (gtY l (i:Int).toNat).1),(32,.bool !(gtY l (i:Int).toNat).1),(33,.bool false),(34,SV.tup []),(35,SV.tup []),(36,SV.tup []),(37,.bool false),(38,.bool (bif false then true else false)),(39,.int .i64 (IntKind.i64.wrap ((i:Int)+(1:Int))))],blk:=[(6,.var [.bool (gtY l (i:Int).toNat).1,.int .i64 (gtY l (i:Int).toNat).2.1,.int .u8 (gtY l (i:Int).toNat).2.2])] }))) (false=false ∧
 bc (gtY l (i:Int).toNat).1 (true=true ∧
 Q [.bool false] (mem_areRL_m0 l i)) (false=false ∧
 bc (!(gtY l (i:Int).toNat).1) (bc (bif false then true else bif true then decide ((gtY l (i:Int).toNat).2.1≠(0:Int)) else false) (Q [.bool false] (mem_areRL_m0 l i)) (R (hd Tryz.f72 0) { env:=[(1,.int .i64 m),(6,.ptr 6 0),(7,.bool false),(8,.sl syS l),(9,.int .i64 (l.length:Int)),(10,.int .i64 (IntKind.i64.wrap ((i:Int)+(1:Int)))),(11,.bool (decide ((i:Int)<(l.length:Int)))),(12,.elv syS (gtY l (i:Int).toNat)),(13,.agg [.bool (gtY l (i:Int).toNat).1,.int .i64 (gtY l (i:Int).toNat).2.1,.int .u8 (gtY l (i:Int).toNat).2.2]),(14,.ptr 6 1),(15,.int .i64 (gtY l (i:Int).toNat).2.1),(16,.bool (decide ((0:Int)≤(gtY l (i:Int).toNat).2.1))),(17,.bool false),(18,SV.tup []),(19,SV.tup []),(20,SV.tup []),(21,SV.tup []),(22,.bool false),(23,.ptr 6 0),(24,.bool (gtY l (i:Int).toNat).1),(25,.bool false),(26,SV.tup []),(27,SV.tup []),(28,.bool false),(29,.bool false),(30,.ptr 6 0),(31,.bool (gtY l (i:Int).toNat).1),(32,.bool !(gtY l (i:Int).toNat).1),(33,.bool true),(34,.ptr 6 1),(35,.int .i64 (gtY l (i:Int).toNat).2.1),(36,.bool (decide ((gtY l (i:Int).toNat).2.1≠(0:Int)))),(37,.bool (decide ((gtY l (i:Int).toNat).2.1≠(0:Int)))),(38,.bool (bif false then true else bif true then decide ((gtY l (i:Int).toNat).2.1≠(0:Int)) else false)),(39,.int .i64 (IntKind.i64.wrap ((i:Int)+(1:Int))))],blk:=[(6,.var [.bool (gtY l (i:Int).toNat).1,.int .i64 (gtY l (i:Int).toNat).2.1,.int .u8 (gtY l (i:Int).toNat).2.2])] })) (false=false ∧
 R (hd Tryz.f72 0) { env:=[(1,.int .i64 m),(6,.ptr 6 0),(7,.bool false),(8,.sl syS l),(9,.int .i64 (l.length:Int)),(10,.int .i64 (IntKind.i64.wrap ((i:Int)+(1:Int)))),(11,.bool (decide ((i:Int)<(l.length:Int)))),(12,.elv syS (gtY l (i:Int).toNat)),(13,.agg [.bool (gtY l (i:Int).toNat).1,.int .i64 (gtY l (i:Int).toNat).2.1,.int .u8 (gtY l (i:Int).toNat).2.2]),(14,.ptr 6 1),(15,.int .i64 (gtY l (i:Int).toNat).2.1),(16,.bool (decide ((0:Int)≤(gtY l (i:Int).toNat).2.1))),(17,.bool false),(18,SV.tup []),(19,SV.tup []),(20,SV.tup []),(21,SV.tup []),(22,.bool false),(23,.ptr 6 0),(24,.bool (gtY l (i:Int).toNat).1),(25,.bool false),(26,SV.tup []),(27,SV.tup []),(28,.bool false),(29,.bool false),(30,.ptr 6 0),(31,.bool (gtY l (i:Int).toNat).1),(32,.bool !(gtY l (i:Int).toNat).1),(33,.bool false),(34,SV.tup []),(35,SV.tup []),(36,SV.tup []),(37,.bool false),(38,.bool (bif false then true else false)),(39,.int .i64 (IntKind.i64.wrap ((i:Int)+(1:Int))))],blk:=[(6,.var [.bool (gtY l (i:Int).toNat).1,.int .i64 (gtY l (i:Int).toNat).2.1,.int .u8 (gtY l (i:Int).toNat).2.2])] })))) (Q [.bool true] [])):=by kernel_rfl
def mem_goOn_m0 (s t:SyT):List (Nat × LB):=[(2,.var [.bool s.1,.int .i64 s.2.1,.int .u8 s.2.2]),(3,.var [.bool t.1,.int .i64 t.2.1,.int .u8 t.2.2])]
theorem vc_goOn (s t:SyT) (Q:QT) (R:RT):sy tt G0 C1 Tryz.f99.ntmps Tryz.f99.results.toList Q R 1000 [.code (bodyOf Tryz.f99)] (entry [syS,syS] (s,t,())) =
  (ctKnd.pre (s,()) ∧
 ctKnd.pre (t,()) ∧
 bc (decide (kndB s=kndB t)) (bc (!s.1) (true=true ∧
 Q [.bool true] (mem_goOn_m0 s t)) (Q [.bool (decide (t.2.1=IntKind.i64.wrap (s.2.1+(1:Int))))] (mem_goOn_m0 s t))) (false=false ∧
 Q [.bool false] (mem_goOn_m0 s t))):=by kernel_rfl
theorem vc_madeL (k a:Int) (b:List Int) (l:List SyT) (i:Nat) (Q:QT) (R:RT):sy tt G0 C1 Tryz.f100.ntmps Tryz.f100.results.toList Q R 1000 (hd Tryz.f100 0) ⟨[(2,.ptr 2 0),(3,.ptr 3 0),(25,.sl syS l),(26,.int .i64 l.length),(27,.int .i64 (i:Nat))],[(2,.var [.int .i64 0,.int .i64 0,.int .i64 0,.int .u8 0,.nils]),(3,.var [.int .i64 k,.int .i64 a,.int .i64 l.length,.int .u8 0,.win true uB 23 0 b.length]),(23,.row 5 uB b)]⟩ =
  (bc (decide ((i:Int)<(l.length:Int))) ((0:Int)≤(i:Int) ∧
 (i:Int)<(l.length:Int) ∧
 (0:Int)≤(i:Int) ∧
 (i:Int)<(b.length:Int) ∧
 (0:Nat)+(i:Int).toNat<b.length ∧
 R (hd Tryz.f100 0) { env:=[(2,.ptr 2 0),(3,.ptr 3 0),(4,.int .i64 (i:Int)),(5,.ptr 5 0),(25,.sl syS l),(26,.int .i64 (l.length:Int)),(27,.int .i64 (IntKind.i64.wrap ((i:Int)+(1:Int)))),(28,.bool (decide ((i:Int)<(l.length:Int)))),(29,.int .i64 (i:Int)),(30,.elv syS (gtY l (i:Int).toNat)),(31,.agg [.bool (gtY l (i:Int).toNat).1,.int .i64 (gtY l (i:Int).toNat).2.1,.int .u8 (gtY l (i:Int).toNat).2.2]),(32,.ptr 3 4),(33,.win true uB 23 0 b.length),(34,.int .i64 (i:Int)),(35,.ptr 5 2),(36,.int .u8 (gtY l (i:Int).toNat).2.2),(37,.elp uB (23:Nat) ((0:Nat)+(i:Int).toNat) (0:Nat)),(38,.int .i64 (IntKind.i64.wrap ((i:Int)+(1:Int))))],blk:=[(2,.var [.int .i64 0,.int .i64 0,.int .i64 0,.int .u8 0,.nils]),(3,.var [.int .i64 k,.int .i64 a,.int .i64 (l.length:Int),.int .u8 0,.win true uB 23 0 b.length]),(5,.var [.bool (gtY l (i:Int).toNat).1,.int .i64 (gtY l (i:Int).toNat).2.1,.int .u8 (gtY l (i:Int).toNat).2.2]),(23,.row 5 uB (b.set ((0:Nat)+(i:Int).toNat) (gtY l (i:Int).toNat).2.2))] }) (Q [.agg [.int .i64 k,.int .i64 a,.int .i64 (l.length:Int),.int .u8 0,.win true uB 23 0 b.length]] [(2,.var [.int .i64 k,.int .i64 a,.int .i64 (l.length:Int),.int .u8 0,.win true uB 23 0 b.length]),(3,.var [.int .i64 k,.int .i64 a,.int .i64 (l.length:Int),.int .u8 0,.win true uB 23 0 b.length]),(23,.row 5 uB b)])):=by kernel_rfl
theorem vc_made (l:List SyT) (Q:QT) (R:RT):sy tt G0 C1 Tryz.f100.ntmps Tryz.f100.results.toList Q R 1000 [.code (bodyOf Tryz.f100)] (entry [.sl syS] (l,())) =
  ((0:Int)≤(0:Int) ∧
 (0:Int)<(l.length:Int) ∧
 ctKnd.pre ((gtY l (0)),()) ∧
 (0:Int)≤(0:Int) ∧
 (0:Int)<(l.length:Int) ∧
 bc (decide (kndB (gtY l (0))=(1:Int))) (Q [.agg [.int .i64 (kndB (gtY l (0))),.int .i64 (gtY l (0)).2.1,.int .i64 (l.length:Int),.int .u8 0,.nils]] [(2,.var [.int .i64 (kndB (gtY l (0))),.int .i64 (gtY l (0)).2.1,.int .i64 (l.length:Int),.int .u8 0,.nils]),(3,.var [.int .i64 (kndB (gtY l (0))),.int .i64 (gtY l (0)).2.1,.int .i64 (l.length:Int),.int .u8 0,.nils])]) ((0:Int)≤(l.length:Int) ∧
 (l.length:Int)≤(l.length:Int) ∧
 (l.length:Int)<(2:Int) ^ (24:Nat) ∧
 (↑(1:Nat):Int)*(l.length:Int)≤(2:Int) ^ (48:Nat) ∧
 R (hd Tryz.f100 0) { env:=[(0,.sl syS l),(2,.ptr 2 0),(3,.ptr 3 0),(6,.sl syS l),(7,.elv syS (gtY l (0))),(8,.agg [.bool (gtY l (0)).1,.int .i64 (gtY l (0)).2.1,.int .u8 (gtY l (0)).2.2]),(9,.int .i64 (kndB (gtY l (0)))),(10,.sl syS l),(11,.elv syS (gtY l (0))),(12,.elv iI (gtY l (0)).2.1),(13,.int .i64 (gtY l (0)).2.1),(14,.sl syS l),(15,.int .i64 (l.length:Int)),(16,.agg [.int .i64 (kndB (gtY l (0))),.int .i64 (gtY l (0)).2.1,.int .i64 (l.length:Int),.int .u8 0,.nils]),(17,.ptr 3 0),(18,.int .i64 (kndB (gtY l (0)))),(19,.bool (decide (kndB (gtY l (0))=(1:Int)))),(21,.sl syS l),(22,.int .i64 (l.length:Int)),(23,.win true uB 23 0 (l.length:Int).toNat),(24,.ptr 3 4),(25,.sl syS l),(26,.int .i64 (l.length:Int)),(27,.int .i64 0)],blk:=[(2,.var [.int .i64 0,.int .i64 0,.int .i64 0,.int .u8 0,.nils]),(3,.var [.int .i64 (kndB (gtY l (0))),.int .i64 (gtY l (0)).2.1,.int .i64 (l.length:Int),.int .u8 0,.win true uB 23 0 (l.length:Int).toNat]),(23,.row 5 uB (List.replicate (l.length:Int).toNat uB.dflt))] })):=by kernel_rfl
end Go.Proofs.YtncocpjkaggnjaaGreatDoor
namespace Go.Proofs.YtncocpjkaggnjaaGreatDoor
open Go.Px Go.Ax
set_option maxRecDepth 100000
attribute [local irreducible] Go.Px.sy Go.Px.syE
theorem gtE {e:Sh} {l:List e.D} {i:Nat} (h:i<l.length):gt e l i=l[i]:=by
 show (l[i]?).getD _=l[i]
 rw[List.getElem?_eq_getElem h];rfl
theorem gtO_at {l:List OpT} {i:Nat} (h:i<l.length):gtO l i=l[i]:=gtE (e:=opS) h
theorem gtY_at {l:List SyT} {i:Nat} (h:i<l.length):gtY l i=l[i]:=gtE (e:=syS) h
theorem dropc {α:Type} {l:List α} {i:Nat} (h:i<l.length):l.drop i=l[i]::l.drop (i+1):=List.drop_eq_getElem_cons h
abbrev GD (f:Nat) (fn:Func) (Q:List SV→List (Nat × LB)→Prop) (it:List Item) (S:PS):Prop:=Px.Good Tryz.prog tt G0 f fn.ntmps fn.results.toList Q it S
def szB (n:Int):Bool:=decide (0≤n)&&decide (n≤65536)
def chkF (m N:Int):List OpT→Int→Int→Int × Int
 | [],left,_=>if 0<left then (N,60) else (N,0)
 | x::l,left,i=>if isRB x m=false then (i,60) else if left<x.2.2.1 then (i,60) else chkF m N l (left-x.2.2.1) (i+1)
def chkV (p:PaT):Int × Int:=if szB p.2.1=true∧szB p.2.2.1=true∧p.2.2.2.length≤4096 then chkF p.2.1 p.2.2.2.length p.2.2.2 p.2.2.1 0 else (-1,60)
def ctChk:Ctr:=⟨[paS],fun _=>True,fun x=>[.int .i64 (chkV x.1).1,.int .i64 (chkV x.1).2],fun _=>[]⟩
theorem isRB_len {x:OpT} {m:Int} (h:isRB x m=true):1≤x.2.2.1∧x.2.2.1≤65536:=by
 unfold isRB at h
 simp only[Bool.and_eq_true,decide_eq_true_eq] at h
 exact ⟨h.1,h.2.1⟩
theorem chk_loop (li:Bool) (m o:Int) (l:List OpT) (hl:l.length≤4096):∀ (k i:Nat) (left:Int),l.length-i=k→i≤l.length→0≤left∧left≤65536 →
  GD 12 Tryz.f12 (fun rs _=>rs=[.int .i64 (chkF m l.length (l.drop i) left i).1,.int .i64 (chkF m l.length (l.drop i) left i).2]) (hd Tryz.f12 0) ⟨[(1,.ptr 1 0),(4,.int .i64 left),(26,.sl opS l),(27,.int .i64 l.length),(28,.int .i64 (i:Nat))],[(1,.var [.bool li,.int .i64 m,.int .i64 o,.sl opS l])]⟩:=by
 intro k
 induction k with
 | zero=>
  intro i left hk hi hb
  have hi:i=l.length:=by omega
  subst hi
  refine sy_sound dxC _ _ _ ((vc_checkL li m o left l _ _ _).mpr ?_)
  rw[decide_eq_false (by omega),bc_f,List.drop_length]
  refine bc_of (fun h=>?_) (fun h=>?_)
  ·rw[chkF,if_pos (of_decide_eq_true h)]
  ·rw[chkF,if_neg (of_decide_eq_false h)]
 | succ k ih=>
  intro i left hk hi hb
  have hil:i<l.length:=by omega
  refine sy_sound dxC _ _ _ ((vc_checkL li m o left l i _ _).mpr ?_)
  rw[decide_eq_true (show (i:Int)<(l.length:Int) by omega),bc_t,Int.toNat_natCast,gtO_at hil,dropc hil]
  refine ⟨by omega,by omega,trivial,bc_of (fun h=>⟨rfl,?_⟩) (fun h=>bc_of (fun h2=>?_) (fun h2=>?_))⟩
  ·rw[chkF,if_pos (by simpa using h)]
  ·have h:isRB l[i] m=true:=by simpa using h
   rw[chkF,if_neg (by rw[h];decide),if_pos (of_decide_eq_true h2)]
  ·have h:isRB l[i] m=true:=by simpa using h
   have hn:=isRB_len h
   have h2:¬ left<l[i].2.2.1:=of_decide_eq_false h2
   rw[chkF,if_neg (by rw[h];decide),if_neg h2,IntWalk.i64_in (left-l[i].2.2.1) (by omega),IntWalk.i64_in ((i:Int)+1) (by omega)]
   exact (ih (i+1) (left-l[i].2.2.1) (by omega) (by omega) (by omega)).only ⟨rfl,rfl,rfl,rfl,rfl,trivial⟩ ⟨rfl,trivial⟩
theorem chk_held:Held Tryz.prog G0 12 ctChk:=by
 refine Held.run dxC (fn:=Tryz.f12) rfl rfl ⟨by decide,by decide⟩ ?_
 rintro ⟨⟨li,m,o,l⟩,⟨⟩⟩ _
 refine (vc_check li m o l _ _).mpr ⟨trivial,bc_of (fun h=>⟨rfl,rfl,?_⟩) (fun h=>⟨trivial,bc_of (fun h2=>⟨rfl,?_⟩) (fun h2=>bc_of (fun h3=>?_) (fun h3=>?_))⟩)⟩
 ·have hv:chkV (li,m,o,l)=(-1,60):=if_neg fun q=>by
   have h:(!szB m)=true:=h
   rw[q.1] at h;cases h
  exact QC.flat (by simp only[ctChk,hv]) rfl rfl
 ·have hv:chkV (li,m,o,l)=(-1,60):=if_neg fun q=>by
   have h2:(!szB o)=true:=h2
   rw[q.2.1] at h2;cases h2
  exact QC.flat (by simp only[ctChk,hv]) rfl rfl
 ·have hv:chkV (li,m,o,l)=(-1,60):=if_neg fun q=>by
   have h3:(4096:Int)<(l.length:Int):=of_decide_eq_true h3
   have:=q.2.2;simp only at this;omega
  exact QC.flat (by simp only[ctChk,hv]) rfl rfl
 ·have h:szB m=true:=by
   have h:(!szB m)=false:=h
   simpa using h
  have h2:szB o=true:=by
   have h2:(!szB o)=false:=h2
   simpa using h2
  have h3:l.length≤4096:=by
   have h3:¬ (4096:Int)<(l.length:Int):=of_decide_eq_false h3
   omega
  have hv:chkV (li,m,o,l)=chkF m l.length l o 0:=if_pos ⟨h,h2,h3⟩
  have ho:0≤o∧o≤65536:=by
   unfold szB at h2
   simpa only[Bool.and_eq_true,decide_eq_true_eq] using h2
  have e:=chk_loop li m o l h3 _ 0 o rfl (by omega) ho
  refine (e.post fun rs blk hq=>QC.flat ?_ rfl (by rw[hq];rfl)).only ⟨rfl,rfl,rfl,rfl,rfl,trivial⟩ ⟨rfl,trivial⟩
  rw[hq];simp only[ctChk,hv];rfl
def goB (s t:SyT):Bool:=decide (kndB s=kndB t)&&(!s.1 || decide (t.2.1=IntKind.i64.wrap (s.2.1+1)))
def ctGo:Ctr:=⟨[syS,syS],fun _=>True,fun x=>[.bool (goB x.1 x.2.1)],fun _=>[]⟩
theorem go_held:Held Tryz.prog G0 99 ctGo:=by
 refine Held.run cx1 (fn:=Tryz.f99) rfl rfl ⟨by decide,by decide⟩ ?_
 rintro ⟨s,t,⟨⟩⟩ _
 refine (vc_goOn s t _ _).mpr ⟨trivial,trivial,bc_of (fun h=>bc_of (fun h2=>⟨rfl,?_⟩) (fun h2=>?_)) (fun h=>⟨rfl,?_⟩)⟩
 ·exact QC.flat (by simp only[ctGo,goB,h,h2];rfl) rfl rfl
 ·exact QC.flat (by simp only[ctGo,goB,h,h2];rfl) rfl rfl
 ·exact QC.flat (by simp only[ctGo,goB,h];rfl) rfl rfl
def sOK (m:Int) (s:SyT):Bool:=if s.1=true then decide (0≤s.2.1)&&decide (s.2.1<m) else decide (s.2.1=0)
def ctAre:Ctr:=⟨[.sl syS,iI],fun x=>List.length x.1<1099511627776,fun x=>[.bool (List.all x.1 (sOK x.2.1))],fun _=>[]⟩
theorem are_loop (l:List SyT) (m:Int) (hl:l.length<1099511627776):∀ (k i:Nat),l.length-i=k→i≤l.length →
  GD 72 Tryz.f72 (fun rs _=>rs=[.bool ((l.drop i).all (sOK m))]) (hd Tryz.f72 0) ⟨[(1,.int .i64 m),(8,.sl syS l),(9,.int .i64 l.length),(10,.int .i64 (i:Nat))],[]⟩:=by
 intro k
 induction k with
 | zero=>
  intro i hk hi
  have hi:i=l.length:=by omega
  subst hi
  refine sy_sound cx0 _ _ _ ((vc_areRL l m _ _ _).mpr ?_)
  rw[decide_eq_false (by omega),bc_f,List.drop_length]
  rfl
 | succ k ih=>
  intro i hk hi
  have hil:i<l.length:=by omega
  refine sy_sound cx0 _ _ _ ((vc_areRL l m i _ _).mpr ?_)
  rw[decide_eq_true (show (i:Int)<(l.length:Int) by omega),bc_t,Int.toNat_natCast,gtY_at hil,dropc hil]
  generalize hs:l[i]=s
  obtain ⟨o,a,b⟩:=s
  have go:sOK m (o,a,b)=true→GD 72 Tryz.f72 (fun rs _=>rs=[.bool (((o,a,b)::l.drop (i+1)).all (sOK m))]) (hd Tryz.f72 0) ⟨[(1,.int .i64 m),(8,.sl syS l),(9,.int .i64 l.length),(10,.int .i64 ((i+1:Nat):Int))],[]⟩:=fun h=>by
   have:=ih (i+1) (by omega) (by omega)
   rw[List.all_cons,h,Bool.true_and]
   exact this
  rw[IntWalk.i64_in ((i:Int)+1) (by omega)]
  refine ⟨by omega,by omega,?_⟩
  have fin:sOK m (o,a,b)=false→[SV.bool false]=[SV.bool (((o,a,b)::l.drop (i+1)).all (sOK m))]:=fun h=>by
   rw[List.all_cons,h,Bool.false_and]
  rcases o with _ | _ <;> cases e0:decide (0≤a) <;> cases e1:decide (a<m) <;> cases e2:decide (a=0) <;>
   simp only[e0,e1,e2,decide_not,bc_t,bc_f,cond_true,cond_false,Bool.not_true,Bool.not_false,true_and,ne_eq] <;>
   first
   | (exact (go (by simp only[sOK,e0,e1,e2];rfl)).only ⟨rfl,rfl,rfl,rfl,trivial⟩ trivial)
   | (exact fin (by simp only[sOK,e0,e1,e2];rfl))
theorem are_held:Held Tryz.prog G0 72 ctAre:=by
 refine Held.run cx0 (fn:=Tryz.f72) rfl rfl ⟨by decide,by decide⟩ ?_
 rintro ⟨l,m,⟨⟩⟩ hp
 replace hp:l.length<1099511627776:=hp
 refine (vc_areR l m _ _).mpr ?_
 refine ((are_loop l m hp _ 0 rfl (by omega)).post fun rs blk hq=>QC.flat ?_ rfl (by rw[hq];rfl)).only ⟨rfl,rfl,rfl,rfl,trivial⟩ trivial
 rw[hq];rfl
end Go.Proofs.YtncocpjkaggnjaaGreatDoor
namespace Go.Proofs.YtncocpjkaggnjaaGreatDoor
open Go.Px Go.Ax
def mdO (l:List SyT):OpT:=(kndB (gtY l 0),(gtY l 0).2.1,l.length,0,if kndB (gtY l 0)=1 then [] else l.map fun s=>s.2.2)
def mdV (x:OpT):List SV:=[.agg [.int .i64 x.1,.int .i64 x.2.1,.int .i64 x.2.2.1,.int .u8 x.2.2.2.1,.sl uB x.2.2.2.2]]
def preMd (l:List SyT):Prop:=0<l.length∧l.length<16777216
def ctMd:Ctr:=⟨[.sl syS],fun x=>preMd x.1,fun x=>mdV (mdO x.1),fun _=>[]⟩
def DO:CV:=(100,.inl ctMd)::(99,.inl ctGo)::C1
set_option maxRecDepth 100000
theorem vc_madeE (k a:Int) (d:List Int) (l:List SyT) (i:Nat) (Q:QT) (R:RT):sy tt G0 C1 Tryz.f100.ntmps Tryz.f100.results.toList Q R 1000 (hd Tryz.f100 0) ⟨[(2,.ptr 2 0),(3,.ptr 3 0),(25,.sl syS l),(26,.int .i64 l.length),(27,.int .i64 (i:Nat))],[(2,.var [.int .i64 0,.int .i64 0,.int .i64 0,.int .u8 0,.nils]),(3,.var [.int .i64 k,.int .i64 a,.int .i64 l.length,.int .u8 0,.sl uB d])]⟩ =
  (bc (decide ((i:Int)<(l.length:Int))) ((0:Int)≤(i:Int) ∧
 (i:Int)<(l.length:Int) ∧
 (0:Int)≤(i:Int) ∧
 (i:Int)<(d.length:Int) ∧
 False) (Q [.agg [.int .i64 k,.int .i64 a,.int .i64 (l.length:Int),.int .u8 0,.sl uB d]] [(2,.var [.int .i64 k,.int .i64 a,.int .i64 (l.length:Int),.int .u8 0,.sl uB d]),(3,.var [.int .i64 k,.int .i64 a,.int .i64 (l.length:Int),.int .u8 0,.sl uB d])])):=by kernel_rfl
theorem vc_ops (l:List SyT) (Q:QT) (R:RT):sy tt G0 DO Tryz.f73.ntmps Tryz.f73.results.toList Q R 1000 [.code (bodyOf Tryz.f73)] (entry [.sl syS] (l,())) =
  (R (hd Tryz.f73 0) { env:=[(0,.sl syS l),(2,.nils),(3,.nils),(4,.int .i64 0),(5,.int .i64 1)],blk:=[] }):=by kernel_rfl
theorem vc_opsA (l:List SyT) (a i:Nat) (Q:QT) (R:RT):sy tt G0 DO Tryz.f73.ntmps Tryz.f73.results.toList Q R 1000 (hd Tryz.f73 0) ⟨[(0,.sl syS l),(3,.nils),(4,.int .i64 (a:Nat)),(5,.int .i64 (i:Nat))],[]⟩ =
  (bc (decide ((i:Int)≤(l.length:Int))) (bc (decide ((i:Int)=(l.length:Int))) (true=true ∧
 (0:Int)≤(a:Int) ∧
 (a:Int)≤(i:Int) ∧
 (i:Int)≤(l.length:Int) ∧
 ctMd.pre (Px.part l (some (a:Int)) (some (i:Int)),()) ∧
 (0:Nat)+(1:Nat)≤([(mdO (Px.part l (some (a:Int)) (some (i:Int))))]:List opS.D).length ∧
 (([(mdO (Px.part l (some (a:Int)) (some (i:Int))))]:List opS.D)).length<(2:Nat) ^ (30:Nat) ∧
 (56:Nat)≤(2:Nat) ^ (10:Nat) ∧
 R (hd Tryz.f73 0) { env:=[(0,.sl syS l),(3,.win true opS 36 0 (1:Nat)),(4,.int .i64 (i:Int)),(5,.int .i64 (IntKind.i64.wrap ((i:Int)+(1:Int)))),(6,.int .i64 (i:Int)),(7,.sl syS l),(8,.int .i64 (l.length:Int)),(9,.bool (decide ((i:Int)≤(l.length:Int)))),(10,.int .i64 (i:Int)),(11,.int .i64 (IntKind.i64.wrap ((i:Int)+(1:Int)))),(12,.int .i64 (i:Int)),(13,.sl syS l),(14,.int .i64 (l.length:Int)),(15,.bool (decide ((i:Int)=(l.length:Int)))),(16,.bool true),(17,SV.tup []),(18,SV.tup []),(19,SV.tup []),(20,SV.tup []),(21,SV.tup []),(22,SV.tup []),(23,SV.tup []),(24,SV.tup []),(25,SV.tup []),(26,SV.tup []),(27,SV.tup []),(28,.bool true),(29,.nils),(30,.sl syS l),(31,.int .i64 (a:Int)),(32,.int .i64 (i:Int)),(33,.sl syS (Px.part l (some (a:Int)) (some (i:Int)))),(34,.agg [.int .i64 (mdO (Px.part l (some (a:Int)) (some (i:Int)))).1,.int .i64 (mdO (Px.part l (some (a:Int)) (some (i:Int)))).2.1,.int .i64 (mdO (Px.part l (some (a:Int)) (some (i:Int)))).2.2.1,.int .u8 (mdO (Px.part l (some (a:Int)) (some (i:Int)))).2.2.2.1,.sl uB (mdO (Px.part l (some (a:Int)) (some (i:Int)))).2.2.2.2]),(35,.win true opS 35 0 (1:Nat)),(36,.win true opS 36 0 (1:Nat)),(37,.int .i64 (i:Int))],blk:=[(35,.row 35 opS ([(mdO (Px.part l (some (a:Int)) (some (i:Int))))]:List opS.D)),(36,.row 35 opS (([(mdO (Px.part l (some (a:Int)) (some (i:Int))))]:List opS.D)))] }) ((0:Int)≤IntKind.i64.wrap ((i:Int)-(1:Int)) ∧
 IntKind.i64.wrap ((i:Int)-(1:Int))<(l.length:Int) ∧
 (0:Int)≤(i:Int) ∧
 (i:Int)<(l.length:Int) ∧
 ctGo.pre ((gtY l (IntKind.i64.wrap ((i:Int)-(1:Int))).toNat),(gtY l (i:Int).toNat),()) ∧
 bc (bif false then true else !goB (gtY l (IntKind.i64.wrap ((i:Int)-(1:Int))).toNat) (gtY l (i:Int).toNat)) ((0:Int)≤(a:Int) ∧
 (a:Int)≤(i:Int) ∧
 (i:Int)≤(l.length:Int) ∧
 ctMd.pre (Px.part l (some (a:Int)) (some (i:Int)),()) ∧
 (0:Nat)+(1:Nat)≤([(mdO (Px.part l (some (a:Int)) (some (i:Int))))]:List opS.D).length ∧
 (([(mdO (Px.part l (some (a:Int)) (some (i:Int))))]:List opS.D)).length<(2:Nat) ^ (30:Nat) ∧
 (56:Nat)≤(2:Nat) ^ (10:Nat) ∧
 R (hd Tryz.f73 0) { env:=[(0,.sl syS l),(3,.win true opS 36 0 (1:Nat)),(4,.int .i64 (i:Int)),(5,.int .i64 (IntKind.i64.wrap ((i:Int)+(1:Int)))),(6,.int .i64 (i:Int)),(7,.sl syS l),(8,.int .i64 (l.length:Int)),(9,.bool (decide ((i:Int)≤(l.length:Int)))),(10,.int .i64 (i:Int)),(11,.int .i64 (IntKind.i64.wrap ((i:Int)+(1:Int)))),(12,.int .i64 (i:Int)),(13,.sl syS l),(14,.int .i64 (l.length:Int)),(15,.bool (decide ((i:Int)=(l.length:Int)))),(16,.bool false),(17,.sl syS l),(18,.int .i64 (i:Int)),(19,.int .i64 (IntKind.i64.wrap ((i:Int)-(1:Int)))),(20,.elv syS (gtY l (IntKind.i64.wrap ((i:Int)-(1:Int))).toNat)),(21,.agg [.bool (gtY l (IntKind.i64.wrap ((i:Int)-(1:Int))).toNat).1,.int .i64 (gtY l (IntKind.i64.wrap ((i:Int)-(1:Int))).toNat).2.1,.int .u8 (gtY l (IntKind.i64.wrap ((i:Int)-(1:Int))).toNat).2.2]),(22,.sl syS l),(23,.int .i64 (i:Int)),(24,.elv syS (gtY l (i:Int).toNat)),(25,.agg [.bool (gtY l (i:Int).toNat).1,.int .i64 (gtY l (i:Int).toNat).2.1,.int .u8 (gtY l (i:Int).toNat).2.2]),(26,.bool (goB (gtY l (IntKind.i64.wrap ((i:Int)-(1:Int))).toNat) (gtY l (i:Int).toNat))),(27,.bool !goB (gtY l (IntKind.i64.wrap ((i:Int)-(1:Int))).toNat) (gtY l (i:Int).toNat)),(28,.bool (bif false then true else !goB (gtY l (IntKind.i64.wrap ((i:Int)-(1:Int))).toNat) (gtY l (i:Int).toNat))),(29,.nils),(30,.sl syS l),(31,.int .i64 (a:Int)),(32,.int .i64 (i:Int)),(33,.sl syS (Px.part l (some (a:Int)) (some (i:Int)))),(34,.agg [.int .i64 (mdO (Px.part l (some (a:Int)) (some (i:Int)))).1,.int .i64 (mdO (Px.part l (some (a:Int)) (some (i:Int)))).2.1,.int .i64 (mdO (Px.part l (some (a:Int)) (some (i:Int)))).2.2.1,.int .u8 (mdO (Px.part l (some (a:Int)) (some (i:Int)))).2.2.2.1,.sl uB (mdO (Px.part l (some (a:Int)) (some (i:Int)))).2.2.2.2]),(35,.win true opS 35 0 (1:Nat)),(36,.win true opS 36 0 (1:Nat)),(37,.int .i64 (i:Int))],blk:=[(35,.row 35 opS ([(mdO (Px.part l (some (a:Int)) (some (i:Int))))]:List opS.D)),(36,.row 35 opS (([(mdO (Px.part l (some (a:Int)) (some (i:Int))))]:List opS.D)))] }) (R (hd Tryz.f73 0) { env:=[(0,.sl syS l),(3,.nils),(4,.int .i64 (a:Int)),(5,.int .i64 (IntKind.i64.wrap ((i:Int)+(1:Int)))),(6,.int .i64 (i:Int)),(7,.sl syS l),(8,.int .i64 (l.length:Int)),(9,.bool (decide ((i:Int)≤(l.length:Int)))),(10,.int .i64 (i:Int)),(11,.int .i64 (IntKind.i64.wrap ((i:Int)+(1:Int)))),(12,.int .i64 (i:Int)),(13,.sl syS l),(14,.int .i64 (l.length:Int)),(15,.bool (decide ((i:Int)=(l.length:Int)))),(16,.bool false),(17,.sl syS l),(18,.int .i64 (i:Int)),(19,.int .i64 (IntKind.i64.wrap ((i:Int)-(1:Int)))),(20,.elv syS (gtY l (IntKind.i64.wrap ((i:Int)-(1:Int))).toNat)),(21,.agg [.bool (gtY l (IntKind.i64.wrap ((i:Int)-(1:Int))).toNat).1,.int .i64 (gtY l (IntKind.i64.wrap ((i:Int)-(1:Int))).toNat).2.1,.int .u8 (gtY l (IntKind.i64.wrap ((i:Int)-(1:Int))).toNat).2.2]),(22,.sl syS l),(23,.int .i64 (i:Int)),(24,.elv syS (gtY l (i:Int).toNat)),(25,.agg [.bool (gtY l (i:Int).toNat).1,.int .i64 (gtY l (i:Int).toNat).2.1,.int .u8 (gtY l (i:Int).toNat).2.2]),(26,.bool (goB (gtY l (IntKind.i64.wrap ((i:Int)-(1:Int))).toNat) (gtY l (i:Int).toNat))),(27,.bool !goB (gtY l (IntKind.i64.wrap ((i:Int)-(1:Int))).toNat) (gtY l (i:Int).toNat)),(28,.bool (bif false then true else !goB (gtY l (IntKind.i64.wrap ((i:Int)-(1:Int))).toNat) (gtY l (i:Int).toNat)))],blk:=[] }))) (Q [.nils] [])):=by kernel_rfl
theorem vc_opsB (l:List SyT) (o:List OpT) (a i:Nat) (Q:QT) (R:RT):sy tt G0 DO Tryz.f73.ntmps Tryz.f73.results.toList Q R 1000 (hd Tryz.f73 0) ⟨[(0,.sl syS l),(3,.win true opS 3 0 o.length),(4,.int .i64 (a:Nat)),(5,.int .i64 (i:Nat))],[(3,.row 35 opS o)]⟩ =
  (bc (decide ((i:Int)≤(l.length:Int))) (bc (decide ((i:Int)=(l.length:Int))) (true=true ∧
 (0:Int)≤(a:Int) ∧
 (a:Int)≤(i:Int) ∧
 (i:Int)≤(l.length:Int) ∧
 ctMd.pre (Px.part l (some (a:Int)) (some (i:Int)),()) ∧
 (0:Nat)+(1:Nat)≤([(mdO (Px.part l (some (a:Int)) (some (i:Int))))]:List opS.D).length ∧
 o.length=o.length ∧
 (0:Nat)=(0:Nat) ∧
 o.length+(([(mdO (Px.part l (some (a:Int)) (some (i:Int))))]:List opS.D)).length<(2:Nat) ^ (30:Nat) ∧
 (56:Nat)≤(2:Nat) ^ (10:Nat) ∧
 R (hd Tryz.f73 0) { env:=[(0,.sl syS l),(3,.win true opS 36 0 (o.length+(([(mdO (Px.part l (some (a:Int)) (some (i:Int))))]:List opS.D)).length)),(4,.int .i64 (i:Int)),(5,.int .i64 (IntKind.i64.wrap ((i:Int)+(1:Int)))),(6,.int .i64 (i:Int)),(7,.sl syS l),(8,.int .i64 (l.length:Int)),(9,.bool (decide ((i:Int)≤(l.length:Int)))),(10,.int .i64 (i:Int)),(11,.int .i64 (IntKind.i64.wrap ((i:Int)+(1:Int)))),(12,.int .i64 (i:Int)),(13,.sl syS l),(14,.int .i64 (l.length:Int)),(15,.bool (decide ((i:Int)=(l.length:Int)))),(16,.bool true),(17,SV.tup []),(18,SV.tup []),(19,SV.tup []),(20,SV.tup []),(21,SV.tup []),(22,SV.tup []),(23,SV.tup []),(24,SV.tup []),(25,SV.tup []),(26,SV.tup []),(27,SV.tup []),(28,.bool true),(29,.dead),(30,.sl syS l),(31,.int .i64 (a:Int)),(32,.int .i64 (i:Int)),(33,.sl syS (Px.part l (some (a:Int)) (some (i:Int)))),(34,.agg [.int .i64 (mdO (Px.part l (some (a:Int)) (some (i:Int)))).1,.int .i64 (mdO (Px.part l (some (a:Int)) (some (i:Int)))).2.1,.int .i64 (mdO (Px.part l (some (a:Int)) (some (i:Int)))).2.2.1,.int .u8 (mdO (Px.part l (some (a:Int)) (some (i:Int)))).2.2.2.1,.sl uB (mdO (Px.part l (some (a:Int)) (some (i:Int)))).2.2.2.2]),(35,.win true opS 35 0 (1:Nat)),(36,.win true opS 36 0 (o.length+(([(mdO (Px.part l (some (a:Int)) (some (i:Int))))]:List opS.D)).length)),(37,.int .i64 (i:Int))],blk:=[(35,.row 35 opS ([(mdO (Px.part l (some (a:Int)) (some (i:Int))))]:List opS.D)),(36,.row 35 opS (o++([(mdO (Px.part l (some (a:Int)) (some (i:Int))))]:List opS.D)))] }) ((0:Int)≤IntKind.i64.wrap ((i:Int)-(1:Int)) ∧
 IntKind.i64.wrap ((i:Int)-(1:Int))<(l.length:Int) ∧
 (0:Int)≤(i:Int) ∧
 (i:Int)<(l.length:Int) ∧
 ctGo.pre ((gtY l (IntKind.i64.wrap ((i:Int)-(1:Int))).toNat),(gtY l (i:Int).toNat),()) ∧
 bc (bif false then true else !goB (gtY l (IntKind.i64.wrap ((i:Int)-(1:Int))).toNat) (gtY l (i:Int).toNat)) ((0:Int)≤(a:Int) ∧
 (a:Int)≤(i:Int) ∧
 (i:Int)≤(l.length:Int) ∧
 ctMd.pre (Px.part l (some (a:Int)) (some (i:Int)),()) ∧
 (0:Nat)+(1:Nat)≤([(mdO (Px.part l (some (a:Int)) (some (i:Int))))]:List opS.D).length ∧
 o.length=o.length ∧
 (0:Nat)=(0:Nat) ∧
 o.length+(([(mdO (Px.part l (some (a:Int)) (some (i:Int))))]:List opS.D)).length<(2:Nat) ^ (30:Nat) ∧
 (56:Nat)≤(2:Nat) ^ (10:Nat) ∧
 R (hd Tryz.f73 0) { env:=[(0,.sl syS l),(3,.win true opS 36 0 (o.length+(([(mdO (Px.part l (some (a:Int)) (some (i:Int))))]:List opS.D)).length)),(4,.int .i64 (i:Int)),(5,.int .i64 (IntKind.i64.wrap ((i:Int)+(1:Int)))),(6,.int .i64 (i:Int)),(7,.sl syS l),(8,.int .i64 (l.length:Int)),(9,.bool (decide ((i:Int)≤(l.length:Int)))),(10,.int .i64 (i:Int)),(11,.int .i64 (IntKind.i64.wrap ((i:Int)+(1:Int)))),(12,.int .i64 (i:Int)),(13,.sl syS l),(14,.int .i64 (l.length:Int)),(15,.bool (decide ((i:Int)=(l.length:Int)))),(16,.bool false),(17,.sl syS l),(18,.int .i64 (i:Int)),(19,.int .i64 (IntKind.i64.wrap ((i:Int)-(1:Int)))),(20,.elv syS (gtY l (IntKind.i64.wrap ((i:Int)-(1:Int))).toNat)),(21,.agg [.bool (gtY l (IntKind.i64.wrap ((i:Int)-(1:Int))).toNat).1,.int .i64 (gtY l (IntKind.i64.wrap ((i:Int)-(1:Int))).toNat).2.1,.int .u8 (gtY l (IntKind.i64.wrap ((i:Int)-(1:Int))).toNat).2.2]),(22,.sl syS l),(23,.int .i64 (i:Int)),(24,.elv syS (gtY l (i:Int).toNat)),(25,.agg [.bool (gtY l (i:Int).toNat).1,.int .i64 (gtY l (i:Int).toNat).2.1,.int .u8 (gtY l (i:Int).toNat).2.2]),(26,.bool (goB (gtY l (IntKind.i64.wrap ((i:Int)-(1:Int))).toNat) (gtY l (i:Int).toNat))),(27,.bool !goB (gtY l (IntKind.i64.wrap ((i:Int)-(1:Int))).toNat) (gtY l (i:Int).toNat)),(28,.bool (bif false then true else !goB (gtY l (IntKind.i64.wrap ((i:Int)-(1:Int))).toNat) (gtY l (i:Int).toNat))),(29,.dead),(30,.sl syS l),(31,.int .i64 (a:Int)),(32,.int .i64 (i:Int)),(33,.sl syS (Px.part l (some (a:Int)) (some (i:Int)))),(34,.agg [.int .i64 (mdO (Px.part l (some (a:Int)) (some (i:Int)))).1,.int .i64 (mdO (Px.part l (some (a:Int)) (some (i:Int)))).2.1,.int .i64 (mdO (Px.part l (some (a:Int)) (some (i:Int)))).2.2.1,.int .u8 (mdO (Px.part l (some (a:Int)) (some (i:Int)))).2.2.2.1,.sl uB (mdO (Px.part l (some (a:Int)) (some (i:Int)))).2.2.2.2]),(35,.win true opS 35 0 (1:Nat)),(36,.win true opS 36 0 (o.length+(([(mdO (Px.part l (some (a:Int)) (some (i:Int))))]:List opS.D)).length)),(37,.int .i64 (i:Int))],blk:=[(35,.row 35 opS ([(mdO (Px.part l (some (a:Int)) (some (i:Int))))]:List opS.D)),(36,.row 35 opS (o++([(mdO (Px.part l (some (a:Int)) (some (i:Int))))]:List opS.D)))] }) (R (hd Tryz.f73 0) { env:=[(0,.sl syS l),(3,.win true opS 3 0 o.length),(4,.int .i64 (a:Int)),(5,.int .i64 (IntKind.i64.wrap ((i:Int)+(1:Int)))),(6,.int .i64 (i:Int)),(7,.sl syS l),(8,.int .i64 (l.length:Int)),(9,.bool (decide ((i:Int)≤(l.length:Int)))),(10,.int .i64 (i:Int)),(11,.int .i64 (IntKind.i64.wrap ((i:Int)+(1:Int)))),(12,.int .i64 (i:Int)),(13,.sl syS l),(14,.int .i64 (l.length:Int)),(15,.bool (decide ((i:Int)=(l.length:Int)))),(16,.bool false),(17,.sl syS l),(18,.int .i64 (i:Int)),(19,.int .i64 (IntKind.i64.wrap ((i:Int)-(1:Int)))),(20,.elv syS (gtY l (IntKind.i64.wrap ((i:Int)-(1:Int))).toNat)),(21,.agg [.bool (gtY l (IntKind.i64.wrap ((i:Int)-(1:Int))).toNat).1,.int .i64 (gtY l (IntKind.i64.wrap ((i:Int)-(1:Int))).toNat).2.1,.int .u8 (gtY l (IntKind.i64.wrap ((i:Int)-(1:Int))).toNat).2.2]),(22,.sl syS l),(23,.int .i64 (i:Int)),(24,.elv syS (gtY l (i:Int).toNat)),(25,.agg [.bool (gtY l (i:Int).toNat).1,.int .i64 (gtY l (i:Int).toNat).2.1,.int .u8 (gtY l (i:Int).toNat).2.2]),(26,.bool (goB (gtY l (IntKind.i64.wrap ((i:Int)-(1:Int))).toNat) (gtY l (i:Int).toNat))),(27,.bool !goB (gtY l (IntKind.i64.wrap ((i:Int)-(1:Int))).toNat) (gtY l (i:Int).toNat)),(28,.bool (bif false then true else !goB (gtY l (IntKind.i64.wrap ((i:Int)-(1:Int))).toNat) (gtY l (i:Int).toNat)))],blk:=[(3,.row 35 opS o)] }))) (Q [.win true opS 3 0 o.length] [(3,.row 35 opS o)])):=by kernel_rfl
theorem vc_opsE (l:List SyT) (o:List OpT) (a i:Nat) (Q:QT) (R:RT):sy tt G0 DO Tryz.f73.ntmps Tryz.f73.results.toList Q R 1000 (hd Tryz.f73 0) ⟨[(0,.sl syS l),(3,.sl opS o),(4,.int .i64 (a:Nat)),(5,.int .i64 (i:Nat))],[]⟩ =
  (bc (decide ((i:Int)≤(l.length:Int))) (bc (decide ((i:Int)=(l.length:Int))) (true=true ∧
 (0:Int)≤(a:Int) ∧
 (a:Int)≤(i:Int) ∧
 (i:Int)≤(l.length:Int) ∧
 ctMd.pre (Px.part l (some (a:Int)) (some (i:Int)),()) ∧
 False) ((0:Int)≤IntKind.i64.wrap ((i:Int)-(1:Int)) ∧
 IntKind.i64.wrap ((i:Int)-(1:Int))<(l.length:Int) ∧
 (0:Int)≤(i:Int) ∧
 (i:Int)<(l.length:Int) ∧
 ctGo.pre ((gtY l (IntKind.i64.wrap ((i:Int)-(1:Int))).toNat),(gtY l (i:Int).toNat),()) ∧
 bc (bif false then true else !goB (gtY l (IntKind.i64.wrap ((i:Int)-(1:Int))).toNat) (gtY l (i:Int).toNat)) ((0:Int)≤(a:Int) ∧
 (a:Int)≤(i:Int) ∧
 (i:Int)≤(l.length:Int) ∧
 ctMd.pre (Px.part l (some (a:Int)) (some (i:Int)),()) ∧
 False) (R (hd Tryz.f73 0) { env:=[(0,.sl syS l),(3,.sl opS o),(4,.int .i64 (a:Int)),(5,.int .i64 (IntKind.i64.wrap ((i:Int)+(1:Int)))),(6,.int .i64 (i:Int)),(7,.sl syS l),(8,.int .i64 (l.length:Int)),(9,.bool (decide ((i:Int)≤(l.length:Int)))),(10,.int .i64 (i:Int)),(11,.int .i64 (IntKind.i64.wrap ((i:Int)+(1:Int)))),(12,.int .i64 (i:Int)),(13,.sl syS l),(14,.int .i64 (l.length:Int)),(15,.bool (decide ((i:Int)=(l.length:Int)))),(16,.bool false),(17,.sl syS l),(18,.int .i64 (i:Int)),(19,.int .i64 (IntKind.i64.wrap ((i:Int)-(1:Int)))),(20,.elv syS (gtY l (IntKind.i64.wrap ((i:Int)-(1:Int))).toNat)),(21,.agg [.bool (gtY l (IntKind.i64.wrap ((i:Int)-(1:Int))).toNat).1,.int .i64 (gtY l (IntKind.i64.wrap ((i:Int)-(1:Int))).toNat).2.1,.int .u8 (gtY l (IntKind.i64.wrap ((i:Int)-(1:Int))).toNat).2.2]),(22,.sl syS l),(23,.int .i64 (i:Int)),(24,.elv syS (gtY l (i:Int).toNat)),(25,.agg [.bool (gtY l (i:Int).toNat).1,.int .i64 (gtY l (i:Int).toNat).2.1,.int .u8 (gtY l (i:Int).toNat).2.2]),(26,.bool (goB (gtY l (IntKind.i64.wrap ((i:Int)-(1:Int))).toNat) (gtY l (i:Int).toNat))),(27,.bool !goB (gtY l (IntKind.i64.wrap ((i:Int)-(1:Int))).toNat) (gtY l (i:Int).toNat)),(28,.bool (bif false then true else !goB (gtY l (IntKind.i64.wrap ((i:Int)-(1:Int))).toNat) (gtY l (i:Int).toNat)))],blk:=[] }))) (Q [.sl opS o] [])):=by kernel_rfl
end Go.Proofs.YtncocpjkaggnjaaGreatDoor
namespace Go.Proofs.YtncocpjkaggnjaaGreatDoor
open Go.Px Go.Ax
set_option maxRecDepth 100000
attribute [local irreducible] Go.Px.sy Go.Px.syE
theorem winA {e:Sh} (l:List e.D):winL e 0 l.length l=l:=by
 show (List.drop 0 l).take l.length=l
 rw[List.drop_zero,List.take_of_length_le (Nat.le_refl _)]
theorem QC.mt {ct:Ctr} {x:DL ct.args} {rs:List SV} {blk:List (Nat × LB)} (h:MtL (fun _=>none) (ct.out x) rs) (hr:ct.rows x=[]):QC ct x rs blk:=⟨fun _=>none,h,by rw[hr];trivial,fun _ _ _ e=>by simp at e,by rw[hr];rfl⟩
theorem made_loop (k a:Int) (l:List SyT) (hl:l.length<16777216):∀ (n i:Nat) (b:List Int),l.length-i=n→i≤l.length→b.length=l.length→(∀ j,j<i→b[j]?=(l.map fun s=>s.2.2)[j]?) →
  GD 100 Tryz.f100 (fun rs _=>rs=[.agg [.int .i64 k,.int .i64 a,.int .i64 l.length,.int .u8 0,.sl uB (l.map fun s=>s.2.2)]]) (hd Tryz.f100 0) ⟨[(2,.ptr 2 0),(3,.ptr 3 0),(25,.sl syS l),(26,.int .i64 l.length),(27,.int .i64 (i:Nat))],[(2,.var [.int .i64 0,.int .i64 0,.int .i64 0,.int .u8 0,.nils]),(3,.var [.int .i64 k,.int .i64 a,.int .i64 l.length,.int .u8 0,.win true uB 23 0 b.length]),(23,.row 5 uB b)]⟩:=by
 intro n
 induction n with
 | zero=>
  intro i b hk hi hb hj
  have hi:i=l.length:=by omega
  subst hi
  have hbl:b=l.map fun s=>s.2.2:=by
   refine List.ext_getElem? fun j=>?_
   by_cases h:j<l.length
   ·exact hj j h
   ·rw[List.getElem?_eq_none (by omega),List.getElem?_eq_none (by rw[List.length_map];omega)]
  refine Good.frz (i:=23) (e:=uB) (et:=5) (xs:=b) rfl (fun c hc=>?_) ?_
  ·have hc:c∈[0+b.length≤b.length]:=hc
   rw[List.mem_singleton] at hc;subst hc;omega
  ·have e:GD 100 Tryz.f100 (fun rs _=>rs=[.agg [.int .i64 k,.int .i64 a,.int .i64 l.length,.int .u8 0,.sl uB (l.map fun s=>s.2.2)]]) (hd Tryz.f100 0) ⟨[(2,.ptr 2 0),(3,.ptr 3 0),(25,.sl syS l),(26,.int .i64 l.length),(27,.int .i64 (l.length:Nat))],[(2,.var [.int .i64 0,.int .i64 0,.int .i64 0,.int .u8 0,.nils]),(3,.var [.int .i64 k,.int .i64 a,.int .i64 l.length,.int .u8 0,.sl uB (winL uB 0 b.length b)])]⟩:=by
    refine sy_sound cx1 _ _ _ ((vc_madeE k a (winL uB 0 b.length b) l l.length _ _).mpr ?_)
    rw[decide_eq_false (by omega),bc_f,winA,hbl]
   exact e.only ⟨rfl,rfl,rfl,rfl,rfl,trivial⟩ ⟨rfl,rfl,trivial⟩
 | succ n ih=>
  intro i b hk hi hb hj
  have hil:i<l.length:=by omega
  refine sy_sound cx1 _ _ _ ((vc_madeL k a b l i _ _).mpr ?_)
  rw[decide_eq_true (show (i:Int)<(l.length:Int) by omega),bc_t,Int.toNat_natCast,gtY_at hil,IntWalk.i64_in ((i:Int)+1) (by omega),Nat.zero_add]
  refine ⟨by omega,by omega,by omega,by omega,by omega,?_⟩
  refine (ih (i+1) (b.set i l[i].2.2) (by omega) (by omega) (by rw[List.length_set];exact hb) (fun j h=>?_)).only ⟨rfl,rfl,rfl,rfl,rfl,trivial⟩ ⟨rfl,?_,rfl,trivial⟩
  ·rw[List.getElem?_set]
   by_cases hji:i=j
   ·subst hji
    rw[if_pos rfl,if_pos (by omega),List.getElem?_map,List.getElem?_eq_getElem hil];rfl
   ·rw[if_neg hji];exact hj j (by omega)
  ·rw[List.length_set];rfl
theorem made_held:Held Tryz.prog G0 100 ctMd:=by
 refine Held.run cx1 (fn:=Tryz.f100) rfl rfl ⟨by decide,by decide⟩ ?_
 rintro ⟨l,⟨⟩⟩ hp
 obtain ⟨h0,h1⟩:preMd l:=hp
 refine (vc_made l _ _).mpr ⟨Int.le_refl 0,by omega,trivial,Int.le_refl 0,by omega,bc_of (fun h=>?_) (fun h=>?_)⟩
 ·have h:=of_decide_eq_true h
  refine QC.mt ?_ rfl
  show MtL _ (mdV (mdO l)) _
  unfold mdO
  rw[if_pos h]
  exact ⟨_,_,rfl,⟨_,rfl,_,_,rfl,rfl,_,_,rfl,rfl,_,_,rfl,rfl,_,_,rfl,rfl,_,_,rfl,.inr ⟨rfl,rfl⟩,rfl⟩,rfl⟩
 ·have h:=of_decide_eq_false h
  refine ⟨by omega,by omega,?_,?_,?_⟩
  ·show (l.length:Int)<16777216
   omega
  ·show (1:Int)*(l.length:Int)≤281474976710656
   omega
  ·refine ((made_loop (kndB (gtY l 0)) (gtY l 0).2.1 l h1 _ 0 (List.replicate (l.length:Int).toNat 0) rfl (by omega) (by rw[List.length_replicate,Int.toNat_natCast]) (fun j h=>by omega)).post fun rs blk hq=>QC.flat ?_ rfl (by rw[hq];rfl)).only ⟨rfl,rfl,rfl,rfl,rfl,trivial⟩ ⟨rfl,?_,rfl,trivial⟩
   ·rw[hq]
    show mdV (mdO l)=_
    unfold mdO
    rw[if_neg h];rfl
   ·rw[List.length_replicate];rfl
theorem dxO:CxOK Tryz.prog tt G0 DO:=(cx1.cons go_held (fn:=Tryz.f99) rfl rfl rfl).cons made_held (fn:=Tryz.f100) rfl rfl rfl
abbrev ptL (l:List SyT) (a i:Nat):List SyT:=Px.part l (some (a:Int)) (some (i:Int))
theorem ptL_len {l:List SyT} {a i:Nat} (h:a≤i) (hi:i≤l.length):(ptL l a i).length=i-a:=by
 simp[ptL,Px.part];omega
def opsF (l:List SyT):Nat→Nat→Nat→List OpT
 | 0,_,_=>[]
 | k+1,a,i=>if i=l.length∨goB (gtY l (i-1)) (gtY l i)=false then mdO (ptL l a i)::opsF l k i (i+1) else opsF l k a (i+1)
def opsL (l:List SyT):List OpT:=opsF l l.length 0 1
def ctOps:Ctr:=⟨[.sl syS],fun x=>preMd x.1,fun x=>[.sl opS (opsL x.1)],fun _=>[]⟩
theorem cut1 {l:List SyT} {k a i:Nat} (h:i=l.length∨goB (gtY l (i-1)) (gtY l i)=false):opsF l (k+1) a i=mdO (ptL l a i)::opsF l k i (i+1):=by rw[opsF,if_pos h]
theorem cut0 {l:List SyT} {k a i:Nat} (h:¬ (i=l.length∨goB (gtY l (i-1)) (gtY l i)=false)):opsF l (k+1) a i=opsF l k a (i+1):=by rw[opsF,if_neg h]
abbrev OQ (x:List OpT):List SV→List (Nat × LB)→Prop:=fun rs _=>rs=[.sl opS x]
theorem opsB_loop (l:List SyT) (hl:l.length<16777216):∀ (k a i:Nat) (o:List OpT),l.length+1-i=k→1≤i→i≤l.length+1→a<i→o.length≤i →
  GD 73 Tryz.f73 (OQ (o++opsF l k a i)) (hd Tryz.f73 0) ⟨[(0,.sl syS l),(3,.win true opS 3 0 o.length),(4,.int .i64 (a:Nat)),(5,.int .i64 (i:Nat))],[(3,.row 35 opS o)]⟩:=by
 intro k
 induction k with
 | zero=>
  intro a i o hk h1 hi ha ho
  have hi:i=l.length+1:=by omega
  subst hi
  refine Good.frz (i:=3) (e:=opS) (et:=35) (xs:=o) rfl (fun c hc=>?_) ?_
  ·have hc:c∈[0+o.length≤o.length]:=hc
   rw[List.mem_singleton] at hc;subst hc;omega
  ·have e:GD 73 Tryz.f73 (OQ (o++opsF l 0 a (l.length+1))) (hd Tryz.f73 0) ⟨[(0,.sl syS l),(3,.sl opS (winL opS 0 o.length o)),(4,.int .i64 (a:Nat)),(5,.int .i64 ((l.length+1:Nat):Int))],[]⟩:=by
    refine sy_sound dxO _ _ _ ((vc_opsE l (winL opS 0 o.length o) a (l.length+1) _ _).mpr ?_)
    rw[decide_eq_false (by omega),bc_f,winA,opsF,List.append_nil]
   exact e.only ⟨rfl,rfl,rfl,rfl,trivial⟩ trivial
 | succ k ih=>
  intro a i o hk h1 hi ha ho
  have hil:i≤l.length:=by omega
  have hpt:preMd (ptL l a i):=by
   have:=ptL_len (l:=l) (a:=a) (i:=i) (by omega) hil
   exact ⟨by omega,by omega⟩
  have wi:IntKind.i64.wrap ((i:Int)+1)=((i+1:Nat):Int):=by rw[IntWalk.i64_in _ (by omega)];omega
  have wj:IntKind.i64.wrap ((i:Int)-1)=((i-1:Nat):Int):=by rw[IntWalk.i64_in _ (by omega)];omega
  have step:(i=l.length∨goB (gtY l (i-1)) (gtY l i)=false)→GD 73 Tryz.f73 (OQ (o++opsF l (k+1) a i)) (hd Tryz.f73 0) ⟨[(0,.sl syS l),(3,.win true opS 3 0 (o++[mdO (ptL l a i)]).length),(4,.int .i64 (i:Nat)),(5,.int .i64 ((i+1:Nat):Int))],[(3,.row 35 opS (o++[mdO (ptL l a i)]))]⟩:=fun h=>by
   rw[cut1 h]
   have:=ih i (i+1) (o++[mdO (ptL l a i)]) (by omega) (by omega) (by omega) (by omega) (by rw[List.length_append,List.length_singleton];omega)
   rw[List.append_assoc] at this
   exact this
  refine sy_sound dxO _ _ _ ((vc_opsB l o a i _ _).mpr ?_)
  rw[decide_eq_true (show (i:Int)≤(l.length:Int) by omega),bc_t,wi,wj,Int.toNat_natCast,Int.toNat_natCast]
  refine bc_of (fun h=>?_) (fun h=>?_)
  ·have h:=of_decide_eq_true h
   refine ⟨rfl,by omega,by omega,by omega,hpt,Nat.le_refl 1,rfl,rfl,?_,by decide,?_⟩
   ·show o.length+1<2 ^ 30
    omega
   ·exact (step (.inl (by omega))).onlyR [(3,36)] rfl ⟨rfl,by rw[List.length_append];rfl,rfl,rfl,trivial⟩ ⟨rfl,trivial⟩
  ·have h:=of_decide_eq_false h
   refine ⟨by omega,by omega,by omega,by omega,trivial,bc_of (fun h2=>?_) (fun h2=>?_)⟩
   ·have h2:goB (gtY l (i-1)) (gtY l i)=false:=by
     have h2:(!goB (gtY l (i-1)) (gtY l i))=true:=h2
     simpa using h2
    refine ⟨by omega,by omega,by omega,hpt,Nat.le_refl 1,rfl,rfl,?_,by decide,?_⟩
    ·show o.length+1<2 ^ 30
     omega
    ·exact (step (.inr h2)).onlyR [(3,36)] rfl ⟨rfl,by rw[List.length_append];rfl,rfl,rfl,trivial⟩ ⟨rfl,trivial⟩
   ·have h2:goB (gtY l (i-1)) (gtY l i)=true:=by
     have h2:(!goB (gtY l (i-1)) (gtY l i))=false:=h2
     simpa using h2
    rw[cut0 (fun q=>by rcases q with q | q;exact h (by omega);rw[h2] at q;cases q)]
    exact (ih a (i+1) o (by omega) (by omega) (by omega) (by omega) (by omega)).only ⟨rfl,rfl,rfl,rfl,trivial⟩ ⟨rfl,trivial⟩
theorem opsA_loop (l:List SyT) (hl:l.length<16777216):∀ (k a i:Nat),l.length+1-i=k→1≤i→i≤l.length→a<i →
  GD 73 Tryz.f73 (OQ (opsF l k a i)) (hd Tryz.f73 0) ⟨[(0,.sl syS l),(3,.nils),(4,.int .i64 (a:Nat)),(5,.int .i64 (i:Nat))],[]⟩:=by
 intro k
 induction k with
 | zero=>intro a i hk h1 hi ha;omega
 | succ k ih=>
  intro a i hk h1 hil ha
  have hpt:preMd (ptL l a i):=by
   have:=ptL_len (l:=l) (a:=a) (i:=i) (by omega) hil
   exact ⟨by omega,by omega⟩
  have wi:IntKind.i64.wrap ((i:Int)+1)=((i+1:Nat):Int):=by rw[IntWalk.i64_in _ (by omega)];omega
  have wj:IntKind.i64.wrap ((i:Int)-1)=((i-1:Nat):Int):=by rw[IntWalk.i64_in _ (by omega)];omega
  have step:(i=l.length∨goB (gtY l (i-1)) (gtY l i)=false)→GD 73 Tryz.f73 (OQ (opsF l (k+1) a i)) (hd Tryz.f73 0) ⟨[(0,.sl syS l),(3,.win true opS 3 0 1),(4,.int .i64 (i:Nat)),(5,.int .i64 ((i+1:Nat):Int))],[(3,.row 35 opS [mdO (ptL l a i)])]⟩:=fun h=>by
   rw[cut1 h]
   exact opsB_loop l hl k i (i+1) [mdO (ptL l a i)] (by omega) (by omega) (by omega) (by omega) (by simp)
  refine sy_sound dxO _ _ _ ((vc_opsA l a i _ _).mpr ?_)
  rw[decide_eq_true (show (i:Int)≤(l.length:Int) by omega),bc_t,wi,wj,Int.toNat_natCast,Int.toNat_natCast]
  refine bc_of (fun h=>?_) (fun h=>?_)
  ·have h:=of_decide_eq_true h
   refine ⟨rfl,by omega,by omega,by omega,hpt,Nat.le_refl 1,(show 1<2 ^ 30 by decide),by decide,?_⟩
   exact (step (.inl (by omega))).onlyR [(3,36)] rfl ⟨rfl,rfl,rfl,rfl,trivial⟩ ⟨rfl,trivial⟩
  ·have h:=of_decide_eq_false h
   refine ⟨by omega,by omega,by omega,by omega,trivial,bc_of (fun h2=>?_) (fun h2=>?_)⟩
   ·have h2:goB (gtY l (i-1)) (gtY l i)=false:=by
     have h2:(!goB (gtY l (i-1)) (gtY l i))=true:=h2
     simpa using h2
    refine ⟨by omega,by omega,by omega,hpt,Nat.le_refl 1,(show 1<2 ^ 30 by decide),by decide,?_⟩
    exact (step (.inr h2)).onlyR [(3,36)] rfl ⟨rfl,rfl,rfl,rfl,trivial⟩ ⟨rfl,trivial⟩
   ·have h2:goB (gtY l (i-1)) (gtY l i)=true:=by
     have h2:(!goB (gtY l (i-1)) (gtY l i))=false:=h2
     simpa using h2
    rw[cut0 (fun q=>by rcases q with q | q;exact h (by omega);rw[h2] at q;cases q)]
    exact (ih a (i+1) (by omega) (by omega) (by omega) (by omega)).only ⟨rfl,rfl,rfl,rfl,trivial⟩ trivial
theorem ops_held:Held Tryz.prog G0 73 ctOps:=by
 refine Held.run dxO (fn:=Tryz.f73) rfl rfl ⟨by decide,by decide⟩ ?_
 rintro ⟨l,⟨⟩⟩ hp
 obtain ⟨h0,h1⟩:preMd l:=hp
 refine (vc_ops l _ _).mpr ?_
 exact ((opsA_loop l h1 l.length 0 1 (by omega) (by omega) (by omega) (by omega)).post fun rs blk hq=>QC.flat (by rw[hq];rfl) rfl (by rw[hq];rfl)).only ⟨rfl,rfl,rfl,rfl,trivial⟩ trivial
end Go.Proofs.YtncocpjkaggnjaaGreatDoor
