/-
  A part of the proof: what pieces of the program give; conditions: those of each theorem.
-/
import Derived.Test.YtnmkfdgnenkhpaaDoorHD
import Derived.Test.YtnmkfdgnenkhpaaDoorProg
set_option linter.unusedVariables false
set_option linter.unusedSimpArgs false
namespace Go.Proofs.YtnmkfdgnenkhpaaDoor
open Go.Px Go.Ax
abbrev QT:Type:=List SV->List (Nat × LB)->Prop
abbrev RT:Type:=List Item->PS->Prop
def tyL:List (Nat × (Nat × Nat × Bool × TK × Sh × Option IntKind)):=[
 (1,(1,8,false,.other,.unit,none)),
 (2,(1,8,false,(.int .i64),(.int .i64),none)),
 (3,(1,8,false,(.int .i64),(.int .i64),none)),
 (4,(1,1,false,.bool,.bool,none)),
 (5,(1,1,false,(.int .u8),(.int .u8),none)),
 (6,(1,1,false,(.int .u8),(.int .u8),none)),
 (7,(4,24,true,(.struct [(0,2),(1,3),(2,4),(3,6)]),(.pair (.int .i64) (.pair (.int .i64) (.pair .bool (.int .u8)))),(some .i8))),
 (8,(4,24,true,(.struct [(0,2),(1,3),(2,4),(3,6)]),(.pair (.int .i64) (.pair (.int .i64) (.pair .bool (.int .u8)))),(some .i8))),
 (9,(1,16,false,.str,.str,none)),
 (10,(1,16,false,.str,.str,none)),
 (11,(1,16,false,.str,.str,none)),
 (12,(1,8,false,(.int .u64),(.int .u64),none)),
 (13,(2,24,true,(.struct [(0,9),(1,12)]),(.pair .str (.int .u64)),none)),
 (14,(2,24,true,(.struct [(0,9),(1,12)]),(.pair .str (.int .u64)),none)),
 (21,(1,4,false,(.int .i32),(.int .i32),none)),
 (22,(1,24,false,(.slice 71),(.sl (.arr 4 (.int .u8))),none)),
 (23,(2,32,true,(.struct [(0,5),(1,22)]),(.pair (.int .u8) (.sl (.arr 4 (.int .u8)))),none)),
 (24,(2,32,true,(.struct [(0,5),(1,22)]),(.pair (.int .u8) (.sl (.arr 4 (.int .u8)))),none)),
 (25,(6,96,true,(.array 3 24),(.arr 3 (.pair (.int .u8) (.sl (.arr 4 (.int .u8))))),none)),
 (26,(1,8,false,.other,.unit,none)),
 (27,(1,24,false,(.slice 56),(.sl (.pair (.int .i64) (.pair (.int .i64) (.pair (.int .i64) (.pair (.int .u8) (.sl (.int .u8))))))),none)),
 (28,(4,48,true,(.struct [(0,4),(1,3),(2,3),(3,27)]),(.pair .bool (.pair (.int .i64) (.pair (.int .i64) (.sl (.pair (.int .i64) (.pair (.int .i64) (.pair (.int .i64) (.pair (.int .u8) (.sl (.int .u8)))))))))),none)),
 (29,(4,48,true,(.struct [(0,4),(1,3),(2,3),(3,27)]),(.pair .bool (.pair (.int .i64) (.pair (.int .i64) (.sl (.pair (.int .i64) (.pair (.int .i64) (.pair (.int .i64) (.pair (.int .u8) (.sl (.int .u8)))))))))),none)),
 (30,(1,8,false,.other,.unit,none)),
 (31,(1,8,false,.other,.unit,none)),
 (32,(1,8,false,(.int .i64),(.int .i64),none)),
 (34,(1,8,false,.other,.unit,none)),
 (35,(1,8,false,.other,.unit,none)),
 (36,(1,8,false,.other,.unit,none)),
 (37,(1,8,false,.other,.unit,none)),
 (38,(1,8,false,.other,.unit,none)),
 (39,(4,64,true,(.array 2 24),(.arr 2 (.pair (.int .u8) (.sl (.arr 4 (.int .u8))))),none)),
 (40,(1,24,false,(.slice 69),(.sl (.pair (.int .i64) (.int .i64))),none)),
 (42,(1,8,false,.other,.unit,none)),
 (43,(1,8,false,.other,.unit,none)),
 (44,(1,8,false,.other,.unit,none)),
 (45,(1,24,false,(.slice 4),(.sl .bool),none)),
 (46,(1,8,false,.other,.unit,none)),
 (47,(1,24,false,(.slice 51),(.sl (.pair .bool (.pair (.int .i64) (.int .u8)))),none)),
 (49,(1,8,false,.other,.unit,none)),
 (50,(3,24,true,(.struct [(0,4),(1,3),(2,5)]),(.pair .bool (.pair (.int .i64) (.int .u8))),(some .i8))),
 (51,(3,24,true,(.struct [(0,4),(1,3),(2,5)]),(.pair .bool (.pair (.int .i64) (.int .u8))),(some .i8))),
 (52,(1,8,false,.other,.unit,none)),
 (53,(2,2,true,(.array 2 5),(.arr 2 (.int .u8)),(some .u8))),
 (54,(1,24,false,(.slice 5),(.sl (.int .u8)),none)),
 (55,(5,56,true,(.struct [(0,3),(1,3),(2,3),(3,5),(4,54)]),(.pair (.int .i64) (.pair (.int .i64) (.pair (.int .i64) (.pair (.int .u8) (.sl (.int .u8)))))),none)),
 (56,(5,56,true,(.struct [(0,3),(1,3),(2,3),(3,5),(4,54)]),(.pair (.int .i64) (.pair (.int .i64) (.pair (.int .i64) (.pair (.int .u8) (.sl (.int .u8)))))),none)),
 (57,(1,24,false,(.slice 29),(.sl (.pair .bool (.pair (.int .i64) (.pair (.int .i64) (.sl (.pair (.int .i64) (.pair (.int .i64) (.pair (.int .i64) (.pair (.int .u8) (.sl (.int .u8))))))))))),none)),
 (58,(1,24,false,(.slice 32),(.sl (.int .i64)),none)),
 (59,(1,8,false,.other,.unit,none)),
 (60,(9,104,true,(.struct [(0,29),(4,29),(8,32)]),(.pair (.pair .bool (.pair (.int .i64) (.pair (.int .i64) (.sl (.pair (.int .i64) (.pair (.int .i64) (.pair (.int .i64) (.pair (.int .u8) (.sl (.int .u8)))))))))) (.pair (.pair .bool (.pair (.int .i64) (.pair (.int .i64) (.sl (.pair (.int .i64) (.pair (.int .i64) (.pair (.int .i64) (.pair (.int .u8) (.sl (.int .u8)))))))))) (.int .i64))),none)),
 (61,(9,104,true,(.struct [(0,29),(4,29),(8,32)]),(.pair (.pair .bool (.pair (.int .i64) (.pair (.int .i64) (.sl (.pair (.int .i64) (.pair (.int .i64) (.pair (.int .i64) (.pair (.int .u8) (.sl (.int .u8)))))))))) (.pair (.pair .bool (.pair (.int .i64) (.pair (.int .i64) (.sl (.pair (.int .i64) (.pair (.int .i64) (.pair (.int .i64) (.pair (.int .u8) (.sl (.int .u8)))))))))) (.int .i64))),none)),
 (62,(1,8,false,.other,.unit,none)),
 (63,(1,8,false,.other,.unit,none)),
 (64,(1,8,false,.other,.unit,none)),
 (65,(12,144,true,(.array 3 29),(.arr 3 (.pair .bool (.pair (.int .i64) (.pair (.int .i64) (.sl (.pair (.int .i64) (.pair (.int .i64) (.pair (.int .i64) (.pair (.int .u8) (.sl (.int .u8))))))))))),none)),
 (66,(1,8,false,.other,.unit,none)),
 (67,(1,8,false,.other,.unit,none)),
 (68,(2,16,true,(.struct [(0,3),(1,3)]),(.pair (.int .i64) (.int .i64)),(some .i64))),
 (69,(2,16,true,(.struct [(0,3),(1,3)]),(.pair (.int .i64) (.int .i64)),(some .i64))),
 (70,(1,8,false,.other,.unit,none)),
 (71,(4,4,true,(.array 4 5),(.arr 4 (.int .u8)),(some .u8))),
 (72,(1,8,false,.other,.unit,none)),
 (73,(1,24,false,(.slice 47),(.sl (.sl (.pair .bool (.pair (.int .i64) (.int .u8))))),none)),
 (75,(1,8,false,.other,.unit,none)),
 (76,(1,8,false,.other,.unit,none)),
 (77,(1,8,false,.other,.unit,none)),
 (78,(1,8,false,.other,.unit,none)),
 (79,(1,8,false,.other,.unit,none)),
 (80,(1,8,false,.other,.unit,none)),
 (81,(1,8,false,.other,.unit,none)),
 (82,(1,8,false,.other,.unit,none)),
 (83,(1,8,false,.other,.unit,none)),
 (84,(1,8,false,.other,.unit,none)),
 (85,(1,8,false,.other,.unit,none)),
 (87,(1,8,false,.other,.unit,none)),
 (88,(1,8,false,.other,.unit,none)),
 (89,(1,8,false,.other,.unit,none)),
 (90,(1,8,false,.other,.unit,none)),
 (91,(1,8,false,.other,.unit,none)),
 (92,(1,8,false,.other,.unit,none)),
 (93,(1,8,false,.other,.unit,none)),
 (94,(1,8,false,.other,.unit,none)),
 (95,(1,8,false,.other,.unit,none)),
 (96,(1,8,false,.other,.unit,none)),
 (97,(1,8,false,.other,.unit,none)),
 (100,(1,8,false,.other,.unit,none)),
 (103,(1,8,false,.other,.unit,none)),
 (104,(1,8,false,.other,.unit,none)),
 (105,(1,8,false,.other,.unit,none)),
 (106,(1,8,false,.other,.unit,none)),
 (107,(1,8,false,.other,.unit,none)),
 (108,(1,8,false,.other,.unit,none)),
 (109,(5,56,true,(.struct [(0,3),(1,3),(2,3),(3,5),(4,54)]),(.pair (.int .i64) (.pair (.int .i64) (.pair (.int .i64) (.pair (.int .u8) (.sl (.int .u8)))))),none)),
 (110,(5,56,true,(.struct [(0,3),(1,3),(2,3),(3,5),(4,54)]),(.pair (.int .i64) (.pair (.int .i64) (.pair (.int .i64) (.pair (.int .u8) (.sl (.int .u8)))))),none)),
 (111,(5,56,true,(.struct [(0,3),(1,3),(2,3),(3,5),(4,54)]),(.pair (.int .i64) (.pair (.int .i64) (.pair (.int .i64) (.pair (.int .u8) (.sl (.int .u8)))))),none)),
 (112,(5,56,true,(.struct [(0,3),(1,3),(2,3),(3,5),(4,54)]),(.pair (.int .i64) (.pair (.int .i64) (.pair (.int .i64) (.pair (.int .u8) (.sl (.int .u8)))))),none)),
 (113,(0,0,true,(.struct []),.unit,none)),
 (114,(0,0,true,(.struct []),.unit,none)),
 (115,(1,24,false,(.slice 120),(.sl (.pair (.int .i64) (.pair (.int .i64) (.pair (.int .i64) (.int .i64))))),none)),
 (116,(1,8,false,.other,.unit,none)),
 (117,(2,16,true,(.struct [(0,3),(1,3)]),(.pair (.int .i64) (.int .i64)),(some .i64))),
 (118,(2,16,true,(.struct [(0,3),(1,3)]),(.pair (.int .i64) (.int .i64)),(some .i64))),
 (119,(4,32,true,(.struct [(0,3),(1,3),(2,118)]),(.pair (.int .i64) (.pair (.int .i64) (.pair (.int .i64) (.int .i64)))),none)),
 (120,(4,32,true,(.struct [(0,3),(1,3),(2,118)]),(.pair (.int .i64) (.pair (.int .i64) (.pair (.int .i64) (.int .i64)))),none)),
 (121,(1,8,false,.other,.unit,none)),
 (122,(1,8,false,.other,.unit,none)),
 (123,(1,8,false,.other,.unit,none)),
 (124,(20,160,true,(.array 5 120),(.arr 5 (.pair (.int .i64) (.pair (.int .i64) (.pair (.int .i64) (.int .i64))))),none)),
 (125,(1,8,false,.other,.unit,none)),
 (126,(1,8,false,.other,.unit,none)),
 (127,(1,8,false,.other,.unit,none)),
 (128,(2,16,true,(.struct [(0,3),(1,3)]),(.pair (.int .i64) (.int .i64)),(some .i64))),
 (129,(10,80,true,(.array 5 128),(.arr 5 (.pair (.int .i64) (.int .i64))),none)),
 (130,(1,8,false,.other,.unit,none)),
 (131,(1,8,false,.other,.unit,none)),
 (132,(1,8,false,.other,.unit,none)),
 (133,(1,24,false,(.slice 3),(.sl (.int .i64)),none)),
 (134,(1,8,false,.other,.unit,none)),
 (140,(1,8,false,.other,.unit,none)),
 (141,(1,4,false,(.int .u32),(.int .u32),none)),
 (142,(1,1,false,(.int .u8),(.int .u8),none)),
 (143,(1,1,false,(.int .u8),(.int .u8),none)),
 (144,(1,8,false,.other,.unit,none)),
 (146,(1,4,false,(.int .i32),(.int .i32),none)),
 (147,(1,4,false,(.int .i32),(.int .i32),none))]
abbrev tt:TT:=ttOf tyL
set_option maxRecDepth 100000 in
theorem tyOK:ttB Tryd.prog tyL=true:=by decide +kernel
theorem ty:TTOK Tryd.prog tt:=q1o tyOK
theorem mixed:Tryd.prog.follows .mixedOrders=true:=by decide +kernel
def mtb:List (Nat × (String × Nat)):=[
 (109, ("inlay/patch.isRight", 98)), (109, ("inlay/patch.cost", 97)), (109, ("inlay/patch.appendSymbols", 96)),
 (110, ("inlay/patch.isRight", 102)), (110, ("inlay/patch.cost", 101)), (110, ("inlay/patch.appendSymbols", 100)),
 (111, ("inlay/patch.isRight", 105)), (111, ("inlay/patch.cost", 104)), (111, ("inlay/patch.appendSymbols", 103)),
 (112, ("inlay/patch.isRight", 108)), (112, ("inlay/patch.cost", 107)), (112, ("inlay/patch.appendSymbols", 106)),
 (114, ("inlay/patch.isRight", 111)), (114, ("inlay/patch.cost", 110)), (114, ("inlay/patch.appendSymbols", 109))]
set_option maxRecDepth 100000 in
theorem q88:(mtb.all fun p=>decide (qs2 Tryd.prog p.1 p.2.1=some p.2.2))=true:=by decide +kernel
abbrev coS:Sh:=.pair (.int .i64) (.int .i64)
def costsL:List coS.D:=[((0:Int),(0:Int)),((4:Int),(0:Int)),((4:Int),(1:Int)),((4:Int),(0:Int)),((2:Int),(1:Int))]
def qhp:List Value:=costsL.flatMap fun k=>[.int .i64 k.1,.int .i64 k.2]
def rawG:T ABlk:=.node .nil .nil (some (.cells qhp 129 2))
def G0:GV:=⟨[(0,⟨.arr 5 coS,costsL⟩)],rawG,mtb⟩
theorem cx0:CxOK Tryd.prog tt G0 []:=CxOK.nil ty mixed fun t nm f h=>by
 have:=List.all_eq_true.1 q88 _ h;simpa using this
abbrev iI:Sh:=.int .i64
abbrev uB:Sh:=.int .u8
abbrev opS:Sh:=.pair iI (.pair iI (.pair iI (.pair uB (.sl uB))))
abbrev syS:Sh:=.pair .bool (.pair iI uB)
abbrev paS:Sh:=.pair .bool (.pair iI (.pair iI (.sl opS)))
abbrev OpT:Type:=Int × Int × Int × Int × List Int
abbrev SyT:Type:=Bool × Int × Int
abbrev PaT:Type:=Bool × Int × Int × List OpT
abbrev gtO (l:List OpT) (i:Nat):OpT:=gt opS l i
abbrev gtY (l:List SyT) (i:Nat):SyT:=gt syS l i
abbrev gtB (l:List Int) (i:Nat):Int:=gt uB l i
def ifO (t:Nat) (x:OpT):SV:=.ifc t true [.int .i64 x.1,.int .i64 x.2.1,.int .i64 x.2.2.1,.int .u8 x.2.2.2.1,.sl uB x.2.2.2.2]
open Go.IntKind(i64 u32 u8)
set_option maxRecDepth 100000
theorem quc (n:Int) (Q:QT) (R:RT):sy tt G0 [] Tryd.f62.ntmps Tryd.f62.results.toList Q R 1000 [.code (qae Tryd.f62)] (entry [iI] (n,())) =
  (bc (decide ((0:Int)<=n)) (Q [.bool (bif true then decide (n<=65536) else false)] []) (false=false /\
 Q [.bool false] [])):=by kernel_rfl
theorem qud (f n m:Int) (Q:QT) (R:RT):sy tt G0 [] Tryd.f99.ntmps Tryd.f99.results.toList Q R 1000 [.code (qae Tryd.f99)] (entry [iI,iI,iI] (f,n,m,())) =
  (bc (decide ((0:Int)<=f)) (Q [.bool (bif true then decide (f<=i64.wrap (m-n)) else false)] []) (false=false /\
 Q [.bool false] [])):=by kernel_rfl
theorem qjp (k f n b:Int) (d:List Int) (Q:QT) (R:RT):sy tt G0 [] Tryd.f51.ntmps Tryd.f51.results.toList Q R 1000 [.code (qae Tryd.f51)] (entry [opS] ((k,f,n,b,d),())) =
  (bc (decide (k=(1:Int))) (Q [.ifc (109:Nat) true [.int .i64 k,.int .i64 f,.int .i64 n,.int .u8 b,.sl (Sh.int u8) d]] [(1,.var [.int .i64 k,.int .i64 f,.int .i64 n,.int .u8 b,.sl (Sh.int u8) d])]) (bc (decide (k=(2:Int))) (Q [.ifc (110:Nat) true [.int .i64 k,.int .i64 f,.int .i64 n,.int .u8 b,.sl (Sh.int u8) d]] [(1,.var [.int .i64 k,.int .i64 f,.int .i64 n,.int .u8 b,.sl (Sh.int u8) d])]) (bc (decide (k=(3:Int))) (Q [.ifc (111:Nat) true [.int .i64 k,.int .i64 f,.int .i64 n,.int .u8 b,.sl (Sh.int u8) d]] [(1,.var [.int .i64 k,.int .i64 f,.int .i64 n,.int .u8 b,.sl (Sh.int u8) d])]) (bc (decide (k=(4:Int))) (Q [.ifc (112:Nat) true [.int .i64 k,.int .i64 f,.int .i64 n,.int .u8 b,.sl (Sh.int u8) d]] [(1,.var [.int .i64 k,.int .i64 f,.int .i64 n,.int .u8 b,.sl (Sh.int u8) d])]) (Q [.ifc (114:Nat) true []] [(1,.var [.int .i64 k,.int .i64 f,.int .i64 n,.int .u8 b,.sl (Sh.int u8) d])]))))):=by kernel_rfl
theorem q25 (k f n b m:Int) (d:List Int) (Q:QT) (R:RT):sy tt G0 [] Tryd.f105.ntmps Tryd.f105.results.toList Q R 1000 [.code (qae Tryd.f105)] (qbj [.dat opS,.dat iI] ((k,f,n,b,d),m,())) =
  (bc (decide (f=(0:Int))) (Q [.bool (bif true then decide ((d.length:Int)=(0:Int)) else false)] [(2,.var [.int .i64 k,.int .i64 f,.int .i64 n,.int .u8 b,.sl (Sh.int u8) d])]) (false=false /\
 Q [.bool false] [(2,.var [.int .i64 k,.int .i64 f,.int .i64 n,.int .u8 b,.sl (Sh.int u8) d])])):=by kernel_rfl
theorem q3s (k f n b m:Int) (d:List Int) (Q:QT) (R:RT):sy tt G0 [] Tryd.f108.ntmps Tryd.f108.results.toList Q R 1000 [.code (qae Tryd.f108)] (qbj [.dat opS,.dat iI] ((k,f,n,b,d),m,())) =
  (bc (decide (f=(0:Int))) (bc (bif true then decide (b=(0:Int)) else false) (Q [.bool (bif true then decide ((d.length:Int)=n) else false)] [(2,.var [.int .i64 k,.int .i64 f,.int .i64 n,.int .u8 b,.sl (Sh.int u8) d])]) (false=false /\
 Q [.bool false] [(2,.var [.int .i64 k,.int .i64 f,.int .i64 n,.int .u8 b,.sl (Sh.int u8) d])])) (false=false /\
 false=false /\
 Q [.bool false] [(2,.var [.int .i64 k,.int .i64 f,.int .i64 n,.int .u8 b,.sl (Sh.int u8) d])])):=by kernel_rfl
theorem q7m (m:Int) (Q:QT) (R:RT):sy tt G0 [] Tryd.f111.ntmps Tryd.f111.results.toList Q R 1000 [.code (qae Tryd.f111)] (qbj [.dat .unit,.dat iI] ((),m,())) =
  (Q [.bool false] [(2,.var [])]):=by kernel_rfl
theorem qt8 (o:Bool) (a b:Int) (Q:QT) (R:RT):sy tt G0 [] Tryd.f78.ntmps Tryd.f78.results.toList Q R 1000 [.code (qae Tryd.f78)] (entry [syS] ((o,a,b),())) =
  (bc (!o) (Q [.int .i64 4] [(1,.var [.bool o,.int .i64 a,.int .u8 b])]) (bc (decide (b≠0)) (Q [.int .i64 2] [(1,.var [.bool o,.int .i64 a,.int .u8 b])]) (Q [.int .i64 1] [(1,.var [.bool o,.int .i64 a,.int .u8 b])]))):=by kernel_rfl
theorem QI.flat {ct:CtrI} {x:DI ct.args} {rs:List SV} {blk:List (Nat × LB)} (h:ct.out x=rs) (hs:qgb rs=true) (hb:ct.blk x=[]):QI ct x rs blk:=
 .self h hs (by rw[hb];rfl) (by rw[hb];simp)
def ctSize:Ctr:=⟨[iI],fun _=>True,fun x=>[.bool (decide (0<=x.1)&&decide (x.1<=65536))],fun _=>[]⟩
theorem quy:Held Tryd.prog G0 62 ctSize:=by
 refine Held.run cx0 (fn:=Tryd.f62) rfl rfl ⟨by decide,by decide⟩ ?_;rintro ⟨n,⟨⟩⟩ _;refine (quc n _ _).mpr (qaf (fun h=>?_) (fun h=>⟨rfl,?_⟩))
 ·exact QC.flat (by simp only[ctSize,h];rfl) rfl rfl
 ·exact QC.flat (by simp only[ctSize,h];rfl) rfl rfl
def qbg (f n m:Int):Bool:=decide (0<=f)&&decide (f<=IntKind.i64.wrap (m-n))
def ctPart:Ctr:=⟨[iI,iI,iI],fun _=>True,fun x=>[.bool (qbg x.1 x.2.1 x.2.2.1)],fun _=>[]⟩
theorem qvp:Held Tryd.prog G0 99 ctPart:=by
 refine Held.run cx0 (fn:=Tryd.f99) rfl rfl ⟨by decide,by decide⟩ ?_;rintro ⟨f,n,m,⟨⟩⟩ _;refine (qud f n m _ _).mpr (qaf (fun h=>?_) (fun h=>⟨rfl,?_⟩))
 ·exact QC.flat (by simp only[ctPart,qbg,h];rfl) rfl rfl
 ·exact QC.flat (by simp only[ctPart,qbg,h];rfl) rfl rfl
def ctO (k:Int) (t:Nat):Ctr:=⟨[opS],fun x=>x.1.1=k,fun x=>[ifO t x.1],fun _=>[]⟩
def ctO0:Ctr:=⟨[opS],fun x=>x.1.1≠1/\x.1.1≠2/\x.1.1≠3/\x.1.1≠4,fun _=>[.ifc 114 true []],fun _=>[]⟩
theorem qv5:Held Tryd.prog G0 51 (ctO 1 109):=by
 refine Held.run cx0 (fn:=Tryd.f51) rfl rfl ⟨by decide,by decide⟩ ?_;rintro ⟨⟨k,f,n,b,d⟩,⟨⟩⟩ hp;replace hp:k=1:=hp;subst hp;exact (qjp _ f n b d _ _).mpr (QC.flat rfl rfl rfl)
theorem qv4:Held Tryd.prog G0 51 (ctO 2 110):=by
 refine Held.run cx0 (fn:=Tryd.f51) rfl rfl ⟨by decide,by decide⟩ ?_;rintro ⟨⟨k,f,n,b,d⟩,⟨⟩⟩ hp;replace hp:k=2:=hp;subst hp;exact (qjp _ f n b d _ _).mpr (QC.flat rfl rfl rfl)
theorem qv3:Held Tryd.prog G0 51 (ctO 3 111):=by
 refine Held.run cx0 (fn:=Tryd.f51) rfl rfl ⟨by decide,by decide⟩ ?_;rintro ⟨⟨k,f,n,b,d⟩,⟨⟩⟩ hp;replace hp:k=3:=hp;subst hp;exact (qjp _ f n b d _ _).mpr (QC.flat rfl rfl rfl)
theorem qv2:Held Tryd.prog G0 51 (ctO 4 112):=by
 refine Held.run cx0 (fn:=Tryd.f51) rfl rfl ⟨by decide,by decide⟩ ?_;rintro ⟨⟨k,f,n,b,d⟩,⟨⟩⟩ hp;replace hp:k=4:=hp;subst hp;exact (qjp _ f n b d _ _).mpr (QC.flat rfl rfl rfl)
theorem q5m:Held Tryd.prog G0 51 ctO0:=by
 refine Held.run cx0 (fn:=Tryd.f51) rfl rfl ⟨by decide,by decide⟩ ?_;rintro ⟨⟨k,f,n,b,d⟩,⟨⟩⟩ hp;obtain ⟨h1,h2,h3,h4⟩:k≠1/\k≠2/\k≠3/\k≠4:=hp;refine (qjp k f n b d _ _).mpr ?_;rw[decide_eq_false h1,decide_eq_false h2,decide_eq_false h3,decide_eq_false h4];exact QC.flat rfl rfl rfl
abbrev KR:List AK:=[.dat opS,.dat iI]
def rB (t:Nat) (x:OpT) (m:Int):Bool:=match t with
 | 1=>qbg x.2.1 x.2.2.1 m&&(decide (x.2.2.2.1=0)&&decide ((x.2.2.2.2.length:Int)=0))
 | 2=>qbg x.2.1 x.2.2.1 m&&(decide (x.2.2.2.1=0)&&decide ((x.2.2.2.2.length:Int)=x.2.2.1))
 | 3=>decide (x.2.1=0)&&decide ((x.2.2.2.2.length:Int)=0)
 | _=>decide (x.2.1=0)&&(decide (x.2.2.2.1=0)&&decide ((x.2.2.2.2.length:Int)=x.2.2.1))
def ctR (t:Nat):CtrI:=⟨KR,fun _=>True,fun x=>[.bool (rB t x.1 x.2.1)],fun _=>[]⟩
def ctR0:CtrI:=⟨[.dat .unit,.dat iI],fun _=>True,fun _=>[.bool false],fun _=>[]⟩
theorem qu1:HeldI Tryd.prog G0 105 (ctR 3):=by
 refine HeldI.run cx0 (fn:=Tryd.f105) rfl rfl ⟨by decide,by decide⟩ ?_;rintro ⟨⟨k,f,n,b,d⟩,m,⟨⟩⟩ _;refine (q25 k f n b m d _ _).mpr (qaf (fun h=>?_) (fun h=>⟨rfl,?_⟩))
 ·exact QI.flat (by simp only[ctR,rB,h];rfl) rfl rfl
 ·exact QI.flat (by simp only[ctR,rB,h];rfl) rfl rfl
theorem qwj:HeldI Tryd.prog G0 108 (ctR 4):=by
 refine HeldI.run cx0 (fn:=Tryd.f108) rfl rfl ⟨by decide,by decide⟩ ?_;rintro ⟨⟨k,f,n,b,d⟩,m,⟨⟩⟩ _;refine (q3s k f n b m d _ _).mpr (qaf (fun h=>qaf (fun h2=>?_) (fun h2=>⟨rfl,?_⟩)) (fun h=>⟨rfl,rfl,?_⟩))
 ·have h2:decide (b=0)=true:=h2;exact QI.flat (by simp only[ctR,rB,h,h2];rfl) rfl rfl
 ·have h2:decide (b=0)=false:=h2;exact QI.flat (by simp only[ctR,rB,h,h2];rfl) rfl rfl
 ·exact QI.flat (by simp only[ctR,rB,h];rfl) rfl rfl
theorem qzc:HeldI Tryd.prog G0 111 ctR0:=by
 refine HeldI.run cx0 (fn:=Tryd.f111) rfl rfl ⟨by decide,by decide⟩ ?_;rintro ⟨⟨⟩,m,⟨⟩⟩ _;exact (q7m m _ _).mpr (QI.flat rfl rfl rfl)
def cN (t:Nat) (x:OpT):Int:=match t with
 | 2=>IntKind.i64.wrap (4+x.2.2.1)
 | 4=>IntKind.i64.wrap (2+x.2.2.1)
 | _=>4
def kndB (x:SyT):Int:=bif !x.1 then 4 else bif decide (x.2.2≠0) then 2 else 1
def ctKnd:Ctr:=⟨[syS],fun _=>True,fun x=>[.int .i64 (kndB x.1)],fun _=>[]⟩
theorem qzq:Held Tryd.prog G0 78 ctKnd:=by
 refine Held.run cx0 (fn:=Tryd.f78) rfl rfl ⟨by decide,by decide⟩ ?_;rintro ⟨⟨o,a,b⟩,⟨⟩⟩ _;refine (qt8 o a b _ _).mpr (qaf (fun h=>?_) (fun h=>qaf (fun h2=>?_) (fun h2=>?_)))
 ·exact QC.flat (by simp only[ctKnd,kndB,h];rfl) rfl rfl
 ·exact QC.flat (by simp only[ctKnd,kndB,h,h2];rfl) rfl rfl
 ·exact QC.flat (by simp only[ctKnd,kndB,h,h2];rfl) rfl rfl
def C1:CV:=[(99,.inl ctPart),(62,.inl ctSize),(78,.inl ctKnd)]
theorem cx1:CxOK Tryd.prog tt G0 C1:=((cx0.cons qzq (fn:=Tryd.f78) rfl rfl rfl).cons quy (fn:=Tryd.f62) rfl rfl rfl).cons qvp (fn:=Tryd.f99) rfl rfl rfl
set_option maxRecDepth 100000
theorem qx1 (k f n b m:Int) (d:List Int) (Q:QT) (R:RT):sy tt G0 C1 Tryd.f98.ntmps Tryd.f98.results.toList Q R 1000 [.code (qae Tryd.f98)] (qbj [.dat opS,.dat iI] ((k,f,n,b,d),m,())) =
  (ctPart.pre (f,n,m,()) /\
 bc (qbg f n m) (bc (bif true then decide (b=(0:Int)) else false) (Q [.bool (bif true then decide ((d.length:Int)=(0:Int)) else false)] [(2,.var [.int .i64 k,.int .i64 f,.int .i64 n,.int .u8 b,.sl (Sh.int u8) d])]) (false=false /\
 Q [.bool false] [(2,.var [.int .i64 k,.int .i64 f,.int .i64 n,.int .u8 b,.sl (Sh.int u8) d])])) (false=false /\
 false=false /\
 Q [.bool false] [(2,.var [.int .i64 k,.int .i64 f,.int .i64 n,.int .u8 b,.sl (Sh.int u8) d])])):=by kernel_rfl
theorem qxz (k f n b m:Int) (d:List Int) (Q:QT) (R:RT):sy tt G0 C1 Tryd.f102.ntmps Tryd.f102.results.toList Q R 1000 [.code (qae Tryd.f102)] (qbj [.dat opS,.dat iI] ((k,f,n,b,d),m,())) =
  (ctPart.pre (f,n,m,()) /\
 bc (qbg f n m) (bc (bif true then decide (b=(0:Int)) else false) (Q [.bool (bif true then decide ((d.length:Int)=n) else false)] [(2,.var [.int .i64 k,.int .i64 f,.int .i64 n,.int .u8 b,.sl (Sh.int u8) d])]) (false=false /\
 Q [.bool false] [(2,.var [.int .i64 k,.int .i64 f,.int .i64 n,.int .u8 b,.sl (Sh.int u8) d])])) (false=false /\
 false=false /\
 Q [.bool false] [(2,.var [.int .i64 k,.int .i64 f,.int .i64 n,.int .u8 b,.sl (Sh.int u8) d])])):=by kernel_rfl
theorem qtm:HeldI Tryd.prog G0 98 (ctR 1):=by
 refine HeldI.run cx1 (fn:=Tryd.f98) rfl rfl ⟨by decide,by decide⟩ ?_;rintro ⟨⟨k,f,n,b,d⟩,m,⟨⟩⟩ _;refine (qx1 k f n b m d _ _).mpr ⟨trivial,qaf (fun h=>qaf (fun h2=>?_) (fun h2=>⟨rfl,?_⟩)) (fun h=>⟨rfl,rfl,?_⟩)⟩
 ·have h2:decide (b=0)=true:=h2;exact QI.flat (by simp only[ctR,rB,h,h2];rfl) rfl rfl
 ·have h2:decide (b=0)=false:=h2;exact QI.flat (by simp only[ctR,rB,h,h2];rfl) rfl rfl
 ·exact QI.flat (by simp only[ctR,rB,h];rfl) rfl rfl
theorem qth:HeldI Tryd.prog G0 102 (ctR 2):=by
 refine HeldI.run cx1 (fn:=Tryd.f102) rfl rfl ⟨by decide,by decide⟩ ?_;rintro ⟨⟨k,f,n,b,d⟩,m,⟨⟩⟩ _;refine (qxz k f n b m d _ _).mpr ⟨trivial,qaf (fun h=>qaf (fun h2=>?_) (fun h2=>⟨rfl,?_⟩)) (fun h=>⟨rfl,rfl,?_⟩)⟩
 ·have h2:decide (b=0)=true:=h2;exact QI.flat (by simp only[ctR,rB,h,h2];rfl) rfl rfl
 ·have h2:decide (b=0)=false:=h2;exact QI.flat (by simp only[ctR,rB,h,h2];rfl) rfl rfl
 ·exact QI.flat (by simp only[ctR,rB,h];rfl) rfl rfl
def CM:CV:=(111,.inr ctR0)::(108,.inr (ctR 4))::(105,.inr (ctR 3))::(102,.inr (ctR 2))::(98,.inr (ctR 1))::C1
theorem cxM:CxOK Tryd.prog tt G0 CM:=((((cx1.consI qtm (fn:=Tryd.f98) rfl rfl rfl).consI qth (fn:=Tryd.f102) rfl rfl rfl).consI qu1 (fn:=Tryd.f105) rfl rfl rfl).consI qwj (fn:=Tryd.f108) rfl rfl rfl).consI qzc (fn:=Tryd.f111) rfl rfl rfl
def D1:CV:=(51,.inl (ctO 1 109))::CM
def D2:CV:=(51,.inl (ctO 2 110))::CM
def D3:CV:=(51,.inl (ctO 3 111))::CM
def D4:CV:=(51,.inl (ctO 4 112))::CM
def D0:CV:=(51,.inl ctO0)::CM
theorem dx1:CxOK Tryd.prog tt G0 D1:=cxM.cons qv5 (fn:=Tryd.f51) rfl rfl rfl
theorem dx2:CxOK Tryd.prog tt G0 D2:=cxM.cons qv4 (fn:=Tryd.f51) rfl rfl rfl
theorem dx3:CxOK Tryd.prog tt G0 D3:=cxM.cons qv3 (fn:=Tryd.f51) rfl rfl rfl
theorem dx4:CxOK Tryd.prog tt G0 D4:=cxM.cons qv2 (fn:=Tryd.f51) rfl rfl rfl
theorem dx0:CxOK Tryd.prog tt G0 D0:=cxM.cons q5m (fn:=Tryd.f51) rfl rfl rfl
theorem q3x (f n b m:Int) (d:List Int) (Q:QT) (R:RT):sy tt G0 D1 Tryd.f63.ntmps Tryd.f63.results.toList Q R 1000 [.code (qae Tryd.f63)] (entry [opS,iI] ((1,f,n,b,d),m,())) =
  (bc (decide ((1:Int)<=n)) (bc (bif true then decide (n<=65536) else false) ((ctO (1:Int) (109:Nat)).pre (((1:iI.D),f,n,b,d),()) /\
 (ctR (1:Nat)).pre (((1:iI.D),f,n,b,d),m,()) /\
 Q [.bool (bif true then rB (1:Nat) ((1:iI.D),f,n,b,d) m else false)] [(2,.var [.int .i64 (1:iI.D),.int .i64 f,.int .i64 n,.int .u8 b,.sl (Sh.int u8) d])]) (false=false /\
 Q [.bool false] [(2,.var [.int .i64 (1:iI.D),.int .i64 f,.int .i64 n,.int .u8 b,.sl (Sh.int u8) d])])) (false=false /\
 false=false /\
 Q [.bool false] [(2,.var [.int .i64 (1:iI.D),.int .i64 f,.int .i64 n,.int .u8 b,.sl (Sh.int u8) d])])):=by kernel_rfl
theorem q3w (f n b m:Int) (d:List Int) (Q:QT) (R:RT):sy tt G0 D2 Tryd.f63.ntmps Tryd.f63.results.toList Q R 1000 [.code (qae Tryd.f63)] (entry [opS,iI] ((2,f,n,b,d),m,())) =
  (bc (decide ((1:Int)<=n)) (bc (bif true then decide (n<=65536) else false) ((ctO (2:Int) (110:Nat)).pre (((2:iI.D),f,n,b,d),()) /\
 (ctR (2:Nat)).pre (((2:iI.D),f,n,b,d),m,()) /\
 Q [.bool (bif true then rB (2:Nat) ((2:iI.D),f,n,b,d) m else false)] [(2,.var [.int .i64 (2:iI.D),.int .i64 f,.int .i64 n,.int .u8 b,.sl (Sh.int u8) d])]) (false=false /\
 Q [.bool false] [(2,.var [.int .i64 (2:iI.D),.int .i64 f,.int .i64 n,.int .u8 b,.sl (Sh.int u8) d])])) (false=false /\
 false=false /\
 Q [.bool false] [(2,.var [.int .i64 (2:iI.D),.int .i64 f,.int .i64 n,.int .u8 b,.sl (Sh.int u8) d])])):=by kernel_rfl
theorem q3v (f n b m:Int) (d:List Int) (Q:QT) (R:RT):sy tt G0 D3 Tryd.f63.ntmps Tryd.f63.results.toList Q R 1000 [.code (qae Tryd.f63)] (entry [opS,iI] ((3,f,n,b,d),m,())) =
  (bc (decide ((1:Int)<=n)) (bc (bif true then decide (n<=65536) else false) ((ctO (3:Int) (111:Nat)).pre (((3:iI.D),f,n,b,d),()) /\
 (ctR (3:Nat)).pre (((3:iI.D),f,n,b,d),m,()) /\
 Q [.bool (bif true then rB (3:Nat) ((3:iI.D),f,n,b,d) m else false)] [(2,.var [.int .i64 (3:iI.D),.int .i64 f,.int .i64 n,.int .u8 b,.sl (Sh.int u8) d])]) (false=false /\
 Q [.bool false] [(2,.var [.int .i64 (3:iI.D),.int .i64 f,.int .i64 n,.int .u8 b,.sl (Sh.int u8) d])])) (false=false /\
 false=false /\
 Q [.bool false] [(2,.var [.int .i64 (3:iI.D),.int .i64 f,.int .i64 n,.int .u8 b,.sl (Sh.int u8) d])])):=by kernel_rfl
theorem q3u (f n b m:Int) (d:List Int) (Q:QT) (R:RT):sy tt G0 D4 Tryd.f63.ntmps Tryd.f63.results.toList Q R 1000 [.code (qae Tryd.f63)] (entry [opS,iI] ((4,f,n,b,d),m,())) =
  (bc (decide ((1:Int)<=n)) (bc (bif true then decide (n<=65536) else false) ((ctO (4:Int) (112:Nat)).pre (((4:iI.D),f,n,b,d),()) /\
 (ctR (4:Nat)).pre (((4:iI.D),f,n,b,d),m,()) /\
 Q [.bool (bif true then rB (4:Nat) ((4:iI.D),f,n,b,d) m else false)] [(2,.var [.int .i64 (4:iI.D),.int .i64 f,.int .i64 n,.int .u8 b,.sl (Sh.int u8) d])]) (false=false /\
 Q [.bool false] [(2,.var [.int .i64 (4:iI.D),.int .i64 f,.int .i64 n,.int .u8 b,.sl (Sh.int u8) d])])) (false=false /\
 false=false /\
 Q [.bool false] [(2,.var [.int .i64 (4:iI.D),.int .i64 f,.int .i64 n,.int .u8 b,.sl (Sh.int u8) d])])):=by kernel_rfl
theorem q3y (k f n b m:Int) (d:List Int) (Q:QT) (R:RT):sy tt G0 D0 Tryd.f63.ntmps Tryd.f63.results.toList Q R 1000 [.code (qae Tryd.f63)] (entry [opS,iI] ((k,f,n,b,d),m,())) =
  (bc (decide ((1:Int)<=n)) (bc (bif true then decide (n<=65536) else false) (ctO0.pre ((k,f,n,b,d),()) /\
 ctR0.pre ((),m,()) /\
 Q [.bool (bif true then false else false)] [(2,.var [.int .i64 k,.int .i64 f,.int .i64 n,.int .u8 b,.sl (Sh.int u8) d])]) (false=false /\
 Q [.bool false] [(2,.var [.int .i64 k,.int .i64 f,.int .i64 n,.int .u8 b,.sl (Sh.int u8) d])])) (false=false /\
 false=false /\
 Q [.bool false] [(2,.var [.int .i64 k,.int .i64 f,.int .i64 n,.int .u8 b,.sl (Sh.int u8) d])])):=by kernel_rfl
def kR (x:OpT) (m:Int):Bool:=if x.1=1 then rB 1 x m else if x.1=2 then rB 2 x m else if x.1=3 then rB 3 x m else if x.1=4 then rB 4 x m else false
def isRB (x:OpT) (m:Int):Bool:=decide (1<=x.2.2.1)&&(decide (x.2.2.1<=65536)&&kR x m)
abbrev qw8 (p:Int->Prop):Ctr:=⟨[opS,iI],fun x=>p x.1.1,fun x=>[.bool (isRB x.1 x.2.1)],fun _=>[]⟩
theorem qws:Held Tryd.prog G0 63 (qw8 (fun k=>k=1)):=by
 refine Held.run dx1 (fn:=Tryd.f63) rfl rfl ⟨by decide,by decide⟩ ?_;rintro ⟨⟨k,f,n,b,d⟩,m,⟨⟩⟩ hp;replace hp:k=1:=hp;subst hp;refine (q3x f n b m d _ _).mpr (qaf (fun h=>qaf (fun h2=>⟨rfl,trivial,?_⟩) (fun h2=>⟨rfl,?_⟩)) (fun h=>⟨rfl,rfl,?_⟩))
 ·have h2:decide (n<=65536)=true:=h2;exact QC.flat (by simp only[isRB,h,h2];rfl) rfl rfl
 ·have h2:decide (n<=65536)=false:=h2;exact QC.flat (by simp only[isRB,h,h2];rfl) rfl rfl
 ·exact QC.flat (by simp only[isRB,h];rfl) rfl rfl
theorem qwr:Held Tryd.prog G0 63 (qw8 (fun k=>k=2)):=by
 refine Held.run dx2 (fn:=Tryd.f63) rfl rfl ⟨by decide,by decide⟩ ?_;rintro ⟨⟨k,f,n,b,d⟩,m,⟨⟩⟩ hp;replace hp:k=2:=hp;subst hp;refine (q3w f n b m d _ _).mpr (qaf (fun h=>qaf (fun h2=>⟨rfl,trivial,?_⟩) (fun h2=>⟨rfl,?_⟩)) (fun h=>⟨rfl,rfl,?_⟩))
 ·have h2:decide (n<=65536)=true:=h2;exact QC.flat (by simp only[isRB,h,h2];rfl) rfl rfl
 ·have h2:decide (n<=65536)=false:=h2;exact QC.flat (by simp only[isRB,h,h2];rfl) rfl rfl
 ·exact QC.flat (by simp only[isRB,h];rfl) rfl rfl
theorem qwq:Held Tryd.prog G0 63 (qw8 (fun k=>k=3)):=by
 refine Held.run dx3 (fn:=Tryd.f63) rfl rfl ⟨by decide,by decide⟩ ?_;rintro ⟨⟨k,f,n,b,d⟩,m,⟨⟩⟩ hp;replace hp:k=3:=hp;subst hp;refine (q3v f n b m d _ _).mpr (qaf (fun h=>qaf (fun h2=>⟨rfl,trivial,?_⟩) (fun h2=>⟨rfl,?_⟩)) (fun h=>⟨rfl,rfl,?_⟩))
 ·have h2:decide (n<=65536)=true:=h2;exact QC.flat (by simp only[isRB,h,h2];rfl) rfl rfl
 ·have h2:decide (n<=65536)=false:=h2;exact QC.flat (by simp only[isRB,h,h2];rfl) rfl rfl
 ·exact QC.flat (by simp only[isRB,h];rfl) rfl rfl
theorem qwp:Held Tryd.prog G0 63 (qw8 (fun k=>k=4)):=by
 refine Held.run dx4 (fn:=Tryd.f63) rfl rfl ⟨by decide,by decide⟩ ?_;rintro ⟨⟨k,f,n,b,d⟩,m,⟨⟩⟩ hp;replace hp:k=4:=hp;subst hp;refine (q3u f n b m d _ _).mpr (qaf (fun h=>qaf (fun h2=>⟨rfl,trivial,?_⟩) (fun h2=>⟨rfl,?_⟩)) (fun h=>⟨rfl,rfl,?_⟩))
 ·have h2:decide (n<=65536)=true:=h2;exact QC.flat (by simp only[isRB,h,h2];rfl) rfl rfl
 ·have h2:decide (n<=65536)=false:=h2;exact QC.flat (by simp only[isRB,h,h2];rfl) rfl rfl
 ·exact QC.flat (by simp only[isRB,h];rfl) rfl rfl
theorem qwt:Held Tryd.prog G0 63 (qw8 (fun k=>k≠1/\k≠2/\k≠3/\k≠4)):=by
 refine Held.run dx0 (fn:=Tryd.f63) rfl rfl ⟨by decide,by decide⟩ ?_;rintro ⟨⟨k,f,n,b,d⟩,m,⟨⟩⟩ hp;replace hp:k≠1/\k≠2/\k≠3/\k≠4:=hp;have hk:kR (k,f,n,b,d) m=false:=by simp[kR,hp]
 refine (q3y k f n b m d _ _).mpr (qaf (fun h=>qaf (fun h2=>⟨hp,trivial,?_⟩) (fun h2=>⟨rfl,?_⟩)) (fun h=>⟨rfl,rfl,?_⟩))
 ·have h2:decide (n<=65536)=true:=h2;exact QC.flat (by simp only[isRB,h,h2,hk];rfl) rfl rfl
 ·have h2:decide (n<=65536)=false:=h2;exact QC.flat (by simp only[isRB,h,h2];rfl) rfl rfl
 ·exact QC.flat (by simp only[isRB,h];rfl) rfl rfl
def ctIsR:Ctr:=⟨[opS,iI],fun _=>True,fun x=>[.bool (isRB x.1 x.2.1)],fun _=>[]⟩
theorem qzz:Held Tryd.prog G0 63 ctIsR:=fun x _=>by
 by_cases h1:x.1.1=1
 ·exact qws x h1
 ·by_cases h2:x.1.1=2
  ·exact qwr x h2
  ·by_cases h3:x.1.1=3
   ·exact qwq x h3
   ·by_cases h4:x.1.1=4
    ·exact qwp x h4
    ·exact qwt x ⟨h1,h2,h3,h4⟩
def DC:CV:=(63,.inl ctIsR)::C1
theorem dxC:CxOK Tryd.prog tt G0 DC:=cx1.cons qzz (fn:=Tryd.f63) rfl rfl rfl
theorem qx3 (li:Bool) (m o:Int) (l:List OpT) (Q:QT) (R:RT):sy tt G0 DC Tryd.f50.ntmps Tryd.f50.results.toList Q R 1000 [.code (qae Tryd.f50)] (entry [paS] ((li,m,o,l),())) =
  (ctSize.pre (m,()) /\
 bc (!(decide ((0:iI.D)<=m)&&decide (m<=(65536:iI.D)))) (true=true /\
 true=true /\
 Q [.int .i64 (-1:Int),.int .i64 60] [(1,.var [.bool li,.int .i64 m,.int .i64 o,.sl opS l])]) (ctSize.pre (o,()) /\
 bc (bif false then true else !(decide ((0:iI.D)<=o)&&decide (o<=(65536:iI.D)))) (true=true /\
 Q [.int .i64 (-1:Int),.int .i64 60] [(1,.var [.bool li,.int .i64 m,.int .i64 o,.sl opS l])]) (bc (bif false then true else decide ((4096:Int)<(l.length:Int))) (Q [.int .i64 (-1:Int),.int .i64 60] [(1,.var [.bool li,.int .i64 m,.int .i64 o,.sl opS l])]) (R (hd Tryd.f50 0) { env:=[(0,.agg [.bool li,.int .i64 m,.int .i64 o,.sl opS l]),(1,.ptr 1 0),(2,.int .i64 0),(3,.int .i64 0),(4,.int .i64 o),(7,.ptr 1 1),(8,.int .i64 m),(9,.bool (decide ((0:iI.D)<=m)&&decide (m<=(65536:iI.D)))),(10,.bool !(decide ((0:iI.D)<=m)&&decide (m<=(65536:iI.D)))),(11,.bool false),(12,.ptr 1 2),(13,.int .i64 o),(14,.bool (decide ((0:iI.D)<=o)&&decide (o<=(65536:iI.D)))),(15,.bool !(decide ((0:iI.D)<=o)&&decide (o<=(65536:iI.D)))),(16,.bool (bif false then true else !(decide ((0:iI.D)<=o)&&decide (o<=(65536:iI.D))))),(17,.bool false),(18,.ptr 1 3),(19,.sl opS l),(20,.int .i64 (l.length:Int)),(21,.bool (decide ((4096:Int)<(l.length:Int)))),(22,.bool (bif false then true else decide ((4096:Int)<(l.length:Int)))),(23,.ptr 1 2),(24,.int .i64 o),(25,.ptr 1 3),(26,.sl opS l),(27,.int .i64 (l.length:Int)),(28,.int .i64 0)],blk:=[(1,.var [.bool li,.int .i64 m,.int .i64 o,.sl opS l])] })))):=by kernel_rfl
def qhf (li:Bool) (m o:Int) (l:List OpT) (i:Nat):List (Nat × LB):=[(1,.var [.bool li,.int .i64 m,.int .i64 o,.sl opS l]),(6,.var [.int .i64 (gtO l (i:Int).toNat).1,.int .i64 (gtO l (i:Int).toNat).2.1,.int .i64 (gtO l (i:Int).toNat).2.2.1,.int .u8 (gtO l (i:Int).toNat).2.2.2.1,.sl uB (gtO l (i:Int).toNat).2.2.2.2])]
theorem qnq (li:Bool) (m o left:Int) (l:List OpT) (i:Nat) (Q:QT) (R:RT):sy tt G0 DC Tryd.f50.ntmps Tryd.f50.results.toList Q R 1000 (hd Tryd.f50 0) ⟨[(1,.ptr 1 0),(4,.int .i64 left),(26,.sl opS l),(27,.int .i64 l.length),(28,.int .i64 (i:Nat))],[(1,.var [.bool li,.int .i64 m,.int .i64 o,.sl opS l])]⟩ =
  (bc (decide ((i:Int)<(l.length:Int))) ((0:Int)<=(i:Int) /\
 (i:Int)<(l.length:Int) /\
 ctIsR.pre ((gtO l (i:Int).toNat),m,()) /\
 bc (!isRB (gtO l (i:Int).toNat) m) (true=true /\
 Q [.int .i64 (i:Int),.int .i64 60] (qhf li m o l i)) (bc (bif false then true else decide (left<(gtO l (i:Int).toNat).2.2.1)) (Q [.int .i64 (i:Int),.int .i64 60] (qhf li m o l i)) (R (hd Tryd.f50 0) { env:=[(1,.ptr 1 0),(4,.int .i64 (i64.wrap (left-(gtO l (i:Int).toNat).2.2.1))),(5,.int .i64 (i:Int)),(6,.ptr 6 0),(26,.sl opS l),(27,.int .i64 (l.length:Int)),(28,.int .i64 (i64.wrap ((i:Int)+1))),(29,.bool (decide ((i:Int)<(l.length:Int)))),(30,.int .i64 (i:Int)),(31,.elv opS (gtO l (i:Int).toNat)),(32,.agg [.int .i64 (gtO l (i:Int).toNat).1,.int .i64 (gtO l (i:Int).toNat).2.1,.int .i64 (gtO l (i:Int).toNat).2.2.1,.int .u8 (gtO l (i:Int).toNat).2.2.2.1,.sl uB (gtO l (i:Int).toNat).2.2.2.2]),(33,.agg [.int .i64 (gtO l (i:Int).toNat).1,.int .i64 (gtO l (i:Int).toNat).2.1,.int .i64 (gtO l (i:Int).toNat).2.2.1,.int .u8 (gtO l (i:Int).toNat).2.2.2.1,.sl uB (gtO l (i:Int).toNat).2.2.2.2]),(34,.ptr 1 1),(35,.int .i64 m),(36,.bool (isRB (gtO l (i:Int).toNat) m)),(37,.bool !isRB (gtO l (i:Int).toNat) m),(38,.bool false),(39,.ptr 6 2),(40,.int .i64 (gtO l (i:Int).toNat).2.2.1),(41,.int .i64 left),(42,.bool (decide (left<(gtO l (i:Int).toNat).2.2.1))),(43,.bool (bif false then true else decide (left<(gtO l (i:Int).toNat).2.2.1))),(45,.int .i64 left),(46,.ptr 6 2),(47,.int .i64 (gtO l (i:Int).toNat).2.2.1),(48,.int .i64 (i64.wrap (left-(gtO l (i:Int).toNat).2.2.1))),(49,.int .i64 (i64.wrap ((i:Int)+1)))],blk:=[(1,.var [.bool li,.int .i64 m,.int .i64 o,.sl opS l]),(6,.var [.int .i64 (gtO l (i:Int).toNat).1,.int .i64 (gtO l (i:Int).toNat).2.1,.int .i64 (gtO l (i:Int).toNat).2.2.1,.int .u8 (gtO l (i:Int).toNat).2.2.2.1,.sl uB (gtO l (i:Int).toNat).2.2.2.2])] }))) (bc (decide ((0:Int)<left)) (Q [.int .i64 (l.length:Int),.int .i64 60] [(1,.var [.bool li,.int .i64 m,.int .i64 o,.sl opS l])]) (Q [.int .i64 (l.length:Int),.int .i64 0] [(1,.var [.bool li,.int .i64 m,.int .i64 o,.sl opS l])]))):=by kernel_rfl
theorem q34 (l:List SyT) (m:Int) (Q:QT) (R:RT):sy tt G0 [] Tryd.f67.ntmps Tryd.f67.results.toList Q R 1000 [.code (qae Tryd.f67)] (entry [.sl syS,iI] (l,m,())) =
  (R (hd Tryd.f67 0) { env:=[(0,.sl syS l),(1,.int .i64 m),(4,.bool false),(8,.sl syS l),(9,.int .i64 (l.length:Int)),(10,.int .i64 0)],blk:=[] }):=by kernel_rfl
def qcx (l:List SyT) (i:Nat):List (Nat × LB):=[(6,.var [.bool (gtY l (i:Int).toNat).1,.int .i64 (gtY l (i:Int).toNat).2.1,.int .u8 (gtY l (i:Int).toNat).2.2])]
theorem qqp (l:List SyT) (m:Int) (i:Nat) (Q:QT) (R:RT):sy tt G0 [] Tryd.f67.ntmps Tryd.f67.results.toList Q R 1000 (hd Tryd.f67 0) ⟨[(1,.int .i64 m),(8,.sl syS l),(9,.int .i64 l.length),(10,.int .i64 (i:Nat))],[]⟩ =
  (bc (decide ((i:Int)<(l.length:Int))) ((0:Int)<=(i:Int) /\
 (i:Int)<(l.length:Int) /\
 bc (decide ((0:Int)<=(gtY l (i:Int).toNat).2.1)) (bc (gtY l (i:Int).toNat).1 (bc (bif true then !bif true then decide ((gtY l (i:Int).toNat).2.1<m) else false else false) (true=true /\
 Q [.bool false] (qcx l i)) (bc (!(gtY l (i:Int).toNat).1) (bc (bif false then true else bif true then decide ((gtY l (i:Int).toNat).2.1≠0) else false) (Q [.bool false] (qcx l i)) (R (hd Tryd.f67 0) { env:=[(1,.int .i64 m),(6,.ptr 6 0),(7,.bool (decide ((gtY l (i:Int).toNat).2.1<m))),(8,.sl syS l),(9,.int .i64 (l.length:Int)),(10,.int .i64 (i64.wrap ((i:Int)+1))),(11,.bool (decide ((i:Int)<(l.length:Int)))),(12,.elv syS (gtY l (i:Int).toNat)),(13,.agg [.bool (gtY l (i:Int).toNat).1,.int .i64 (gtY l (i:Int).toNat).2.1,.int .u8 (gtY l (i:Int).toNat).2.2]),(14,.ptr 6 1),(15,.int .i64 (gtY l (i:Int).toNat).2.1),(16,.bool (decide ((0:Int)<=(gtY l (i:Int).toNat).2.1))),(17,.bool true),(18,.ptr 6 1),(19,.int .i64 (gtY l (i:Int).toNat).2.1),(20,.int .i64 m),(21,.bool (decide ((gtY l (i:Int).toNat).2.1<m))),(22,.bool (decide ((gtY l (i:Int).toNat).2.1<m))),(23,.ptr 6 0),(24,.bool (gtY l (i:Int).toNat).1),(25,.bool true),(26,.bool (decide ((gtY l (i:Int).toNat).2.1<m))),(27,.bool !bif true then decide ((gtY l (i:Int).toNat).2.1<m) else false),(28,.bool (bif true then !bif true then decide ((gtY l (i:Int).toNat).2.1<m) else false else false)),(29,.bool false),(30,.ptr 6 0),(31,.bool (gtY l (i:Int).toNat).1),(32,.bool !(gtY l (i:Int).toNat).1),(33,.bool true),(34,.ptr 6 1),(35,.int .i64 (gtY l (i:Int).toNat).2.1),(36,.bool (decide ((gtY l (i:Int).toNat).2.1≠0))),(37,.bool (decide ((gtY l (i:Int).toNat).2.1≠0))),(38,.bool (bif false then true else bif true then decide ((gtY l (i:Int).toNat).2.1≠0) else false)),(39,.int .i64 (i64.wrap ((i:Int)+1)))],blk:=[(6,.var [.bool (gtY l (i:Int).toNat).1,.int .i64 (gtY l (i:Int).toNat).2.1,.int .u8 (gtY l (i:Int).toNat).2.2])] })) (false=false /\
 R (hd Tryd.f67 0) { env:=[(1,.int .i64 m),(6,.ptr 6 0),(7,.bool (decide ((gtY l (i:Int).toNat).2.1<m))),(8,.sl syS l),(9,.int .i64 (l.length:Int)),(10,.int .i64 (i64.wrap ((i:Int)+1))),(11,.bool (decide ((i:Int)<(l.length:Int)))),(12,.elv syS (gtY l (i:Int).toNat)),(13,.agg [.bool (gtY l (i:Int).toNat).1,.int .i64 (gtY l (i:Int).toNat).2.1,.int .u8 (gtY l (i:Int).toNat).2.2]),(14,.ptr 6 1),(15,.int .i64 (gtY l (i:Int).toNat).2.1),(16,.bool (decide ((0:Int)<=(gtY l (i:Int).toNat).2.1))),(17,.bool true),(18,.ptr 6 1),(19,.int .i64 (gtY l (i:Int).toNat).2.1),(20,.int .i64 m),(21,.bool (decide ((gtY l (i:Int).toNat).2.1<m))),(22,.bool (decide ((gtY l (i:Int).toNat).2.1<m))),(23,.ptr 6 0),(24,.bool (gtY l (i:Int).toNat).1),(25,.bool true),(26,.bool (decide ((gtY l (i:Int).toNat).2.1<m))),(27,.bool !bif true then decide ((gtY l (i:Int).toNat).2.1<m) else false),(28,.bool (bif true then !bif true then decide ((gtY l (i:Int).toNat).2.1<m) else false else false)),(29,.bool false),(30,.ptr 6 0),(31,.bool (gtY l (i:Int).toNat).1),(32,.bool !(gtY l (i:Int).toNat).1),(33,.bool false),(34,SV.tup []),(35,SV.tup []),(36,SV.tup []),(37,.bool false),(38,.bool (bif false then true else false)),(39,.int .i64 (i64.wrap ((i:Int)+1)))],blk:=[(6,.var [.bool (gtY l (i:Int).toNat).1,.int .i64 (gtY l (i:Int).toNat).2.1,.int .u8 (gtY l (i:Int).toNat).2.2])] }))) (false=false /\
 bc (!(gtY l (i:Int).toNat).1) (bc (bif false then true else bif true then decide ((gtY l (i:Int).toNat).2.1≠0) else false) (Q [.bool false] (qcx l i)) (R (hd Tryd.f67 0) { env:=[(1,.int .i64 m),(6,.ptr 6 0),(7,.bool (decide ((gtY l (i:Int).toNat).2.1<m))),(8,.sl syS l),(9,.int .i64 (l.length:Int)),(10,.int .i64 (i64.wrap ((i:Int)+1))),(11,.bool (decide ((i:Int)<(l.length:Int)))),(12,.elv syS (gtY l (i:Int).toNat)),(13,.agg [.bool (gtY l (i:Int).toNat).1,.int .i64 (gtY l (i:Int).toNat).2.1,.int .u8 (gtY l (i:Int).toNat).2.2]),(14,.ptr 6 1),(15,.int .i64 (gtY l (i:Int).toNat).2.1),(16,.bool (decide ((0:Int)<=(gtY l (i:Int).toNat).2.1))),(17,.bool true),(18,.ptr 6 1),(19,.int .i64 (gtY l (i:Int).toNat).2.1),(20,.int .i64 m),(21,.bool (decide ((gtY l (i:Int).toNat).2.1<m))),(22,.bool (decide ((gtY l (i:Int).toNat).2.1<m))),(23,.ptr 6 0),(24,.bool (gtY l (i:Int).toNat).1),(25,.bool false),(26,SV.tup []),(27,SV.tup []),(28,.bool false),(29,.bool false),(30,.ptr 6 0),(31,.bool (gtY l (i:Int).toNat).1),(32,.bool !(gtY l (i:Int).toNat).1),(33,.bool true),(34,.ptr 6 1),(35,.int .i64 (gtY l (i:Int).toNat).2.1),(36,.bool (decide ((gtY l (i:Int).toNat).2.1≠0))),(37,.bool (decide ((gtY l (i:Int).toNat).2.1≠0))),(38,.bool (bif false then true else bif true then decide ((gtY l (i:Int).toNat).2.1≠0) else false)),(39,.int .i64 (i64.wrap ((i:Int)+1)))],blk:=[(6,.var [.bool (gtY l (i:Int).toNat).1,.int .i64 (gtY l (i:Int).toNat).2.1,.int .u8 (gtY l (i:Int).toNat).2.2])] })) (false=false /\
 R (hd Tryd.f67 0) { env:=[(1,.int .i64 m),(6,.ptr 6 0),(7,.bool (decide ((gtY l (i:Int).toNat).2.1<m))),(8,.sl syS l),(9,.int .i64 (l.length:Int)),(10,.int .i64 (i64.wrap ((i:Int)+1))),(11,.bool (decide ((i:Int)<(l.length:Int)))),(12,.elv syS (gtY l (i:Int).toNat)),(13,.agg [.bool (gtY l (i:Int).toNat).1,.int .i64 (gtY l (i:Int).toNat).2.1,.int .u8 (gtY l (i:Int).toNat).2.2]),(14,.ptr 6 1),(15,.int .i64 (gtY l (i:Int).toNat).2.1),(16,.bool (decide ((0:Int)<=(gtY l (i:Int).toNat).2.1))),(17,.bool true),(18,.ptr 6 1),(19,.int .i64 (gtY l (i:Int).toNat).2.1),(20,.int .i64 m),(21,.bool (decide ((gtY l (i:Int).toNat).2.1<m))),(22,.bool (decide ((gtY l (i:Int).toNat).2.1<m))),(23,.ptr 6 0),(24,.bool (gtY l (i:Int).toNat).1),(25,.bool false),(26,SV.tup []),(27,SV.tup []),(28,.bool false),(29,.bool false),(30,.ptr 6 0),(31,.bool (gtY l (i:Int).toNat).1),(32,.bool !(gtY l (i:Int).toNat).1),(33,.bool false),(34,SV.tup []),(35,SV.tup []),(36,SV.tup []),(37,.bool false),(38,.bool (bif false then true else false)),(39,.int .i64 (i64.wrap ((i:Int)+1)))],blk:=[(6,.var [.bool (gtY l (i:Int).toNat).1,.int .i64 (gtY l (i:Int).toNat).2.1,.int .u8 (gtY l (i:Int).toNat).2.2])] }))) (false=false /\
 bc (gtY l (i:Int).toNat).1 (true=true /\
 Q [.bool false] (qcx l i)) (false=false /\
 bc (!(gtY l (i:Int).toNat).1) (bc (bif false then true else bif true then decide ((gtY l (i:Int).toNat).2.1≠0) else false) (Q [.bool false] (qcx l i)) (R (hd Tryd.f67 0) { env:=[(1,.int .i64 m),(6,.ptr 6 0),(7,.bool false),(8,.sl syS l),(9,.int .i64 (l.length:Int)),(10,.int .i64 (i64.wrap ((i:Int)+1))),(11,.bool (decide ((i:Int)<(l.length:Int)))),(12,.elv syS (gtY l (i:Int).toNat)),(13,.agg [.bool (gtY l (i:Int).toNat).1,.int .i64 (gtY l (i:Int).toNat).2.1,.int .u8 (gtY l (i:Int).toNat).2.2]),(14,.ptr 6 1),(15,.int .i64 (gtY l (i:Int).toNat).2.1),(16,.bool (decide ((0:Int)<=(gtY l (i:Int).toNat).2.1))),(17,.bool false),(18,SV.tup []),(19,SV.tup []),(20,SV.tup []),(21,SV.tup []),(22,.bool false),(23,.ptr 6 0),(24,.bool (gtY l (i:Int).toNat).1),(25,.bool false),(26,SV.tup []),(27,SV.tup []),(28,.bool false),(29,.bool false),(30,.ptr 6 0),(31,.bool (gtY l (i:Int).toNat).1),(32,.bool !(gtY l (i:Int).toNat).1),(33,.bool true),(34,.ptr 6 1),(35,.int .i64 (gtY l (i:Int).toNat).2.1),(36,.bool (decide ((gtY l (i:Int).toNat).2.1≠0))),(37,.bool (decide ((gtY l (i:Int).toNat).2.1≠0))),(38,.bool (bif false then true else bif true then decide ((gtY l (i:Int).toNat).2.1≠0) else false)),(39,.int .i64 (i64.wrap ((i:Int)+1)))],blk:=[(6,.var [.bool (gtY l (i:Int).toNat).1,.int .i64 (gtY l (i:Int).toNat).2.1,.int .u8 (gtY l (i:Int).toNat).2.2])] })) (false=false /\
 R (hd Tryd.f67 0) { env:=[(1,.int .i64 m),(6,.ptr 6 0),(7,.bool false),(8,.sl syS l),(9,.int .i64 (l.length:Int)),(10,.int .i64 (i64.wrap ((i:Int)+1))),(11,.bool (decide ((i:Int)<(l.length:Int)))),(12,.elv syS (gtY l (i:Int).toNat)),(13,.agg [.bool (gtY l (i:Int).toNat).1,.int .i64 (gtY l (i:Int).toNat).2.1,.int .u8 (gtY l (i:Int).toNat).2.2]),(14,.ptr 6 1),(15,.int .i64 (gtY l (i:Int).toNat).2.1),(16,.bool (decide ((0:Int)<=(gtY l (i:Int).toNat).2.1))),(17,.bool false),(18,SV.tup []),(19,SV.tup []),(20,SV.tup []),(21,SV.tup []),(22,.bool false),(23,.ptr 6 0),(24,.bool (gtY l (i:Int).toNat).1),(25,.bool false),(26,SV.tup []),(27,SV.tup []),(28,.bool false),(29,.bool false),(30,.ptr 6 0),(31,.bool (gtY l (i:Int).toNat).1),(32,.bool !(gtY l (i:Int).toNat).1),(33,.bool false),(34,SV.tup []),(35,SV.tup []),(36,SV.tup []),(37,.bool false),(38,.bool (bif false then true else false)),(39,.int .i64 (i64.wrap ((i:Int)+1)))],blk:=[(6,.var [.bool (gtY l (i:Int).toNat).1,.int .i64 (gtY l (i:Int).toNat).2.1,.int .u8 (gtY l (i:Int).toNat).2.2])] })))) (Q [.bool true] [])):=by kernel_rfl
def qgp (s t:SyT):List (Nat × LB):=[(2,.var [.bool s.1,.int .i64 s.2.1,.int .u8 s.2.2]),(3,.var [.bool t.1,.int .i64 t.2.1,.int .u8 t.2.2])]
theorem q30 (s t:SyT) (Q:QT) (R:RT):sy tt G0 C1 Tryd.f72.ntmps Tryd.f72.results.toList Q R 1000 [.code (qae Tryd.f72)] (entry [syS,syS] (s,t,())) =
  (ctKnd.pre (s,()) /\
 ctKnd.pre (t,()) /\
 bc (decide (kndB s=kndB t)) (bc (!s.1) (true=true /\
 Q [.bool true] (qgp s t)) (Q [.bool (decide (t.2.1=i64.wrap (s.2.1+1)))] (qgp s t))) (false=false /\
 Q [.bool false] (qgp s t))):=by kernel_rfl
theorem qxv (k a:Int) (b:List Int) (l:List SyT) (i:Nat) (Q:QT) (R:RT):sy tt G0 C1 Tryd.f73.ntmps Tryd.f73.results.toList Q R 1000 (hd Tryd.f73 0) ⟨[(2,.ptr 2 0),(3,.ptr 3 0),(25,.sl syS l),(26,.int .i64 l.length),(27,.int .i64 (i:Nat))],[(2,.var [.int .i64 0,.int .i64 0,.int .i64 0,.int .u8 0,.nils]),(3,.var [.int .i64 k,.int .i64 a,.int .i64 l.length,.int .u8 0,.win true uB 23 0 b.length]),(23,.row 5 uB b)]⟩ =
  (bc (decide ((i:Int)<(l.length:Int))) ((0:Int)<=(i:Int) /\
 (i:Int)<(l.length:Int) /\
 (0:Int)<=(i:Int) /\
 (i:Int)<(b.length:Int) /\
 (0:Nat)+(i:Int).toNat<b.length /\
 R (hd Tryd.f73 0) { env:=[(2,.ptr 2 0),(3,.ptr 3 0),(4,.int .i64 (i:Int)),(5,.ptr 5 0),(25,.sl syS l),(26,.int .i64 (l.length:Int)),(27,.int .i64 (i64.wrap ((i:Int)+1))),(28,.bool (decide ((i:Int)<(l.length:Int)))),(29,.int .i64 (i:Int)),(30,.elv syS (gtY l (i:Int).toNat)),(31,.agg [.bool (gtY l (i:Int).toNat).1,.int .i64 (gtY l (i:Int).toNat).2.1,.int .u8 (gtY l (i:Int).toNat).2.2]),(32,.ptr 3 4),(33,.win true uB 23 0 b.length),(34,.int .i64 (i:Int)),(35,.ptr 5 2),(36,.int .u8 (gtY l (i:Int).toNat).2.2),(37,.elp uB (23:Nat) ((0:Nat)+(i:Int).toNat) (0:Nat)),(38,.int .i64 (i64.wrap ((i:Int)+1)))],blk:=[(2,.var [.int .i64 0,.int .i64 0,.int .i64 0,.int .u8 0,.nils]),(3,.var [.int .i64 k,.int .i64 a,.int .i64 (l.length:Int),.int .u8 0,.win true uB 23 0 b.length]),(5,.var [.bool (gtY l (i:Int).toNat).1,.int .i64 (gtY l (i:Int).toNat).2.1,.int .u8 (gtY l (i:Int).toNat).2.2]),(23,.row 5 uB (b.set ((0:Nat)+(i:Int).toNat) (gtY l (i:Int).toNat).2.2))] }) (Q [.agg [.int .i64 k,.int .i64 a,.int .i64 (l.length:Int),.int .u8 0,.win true uB 23 0 b.length]] [(2,.var [.int .i64 k,.int .i64 a,.int .i64 (l.length:Int),.int .u8 0,.win true uB 23 0 b.length]),(3,.var [.int .i64 k,.int .i64 a,.int .i64 (l.length:Int),.int .u8 0,.win true uB 23 0 b.length]),(23,.row 5 uB b)])):=by kernel_rfl
theorem q3o (l:List SyT) (Q:QT) (R:RT):sy tt G0 C1 Tryd.f73.ntmps Tryd.f73.results.toList Q R 1000 [.code (qae Tryd.f73)] (entry [.sl syS] (l,())) =
  ((0:Int)<=0 /\
 (0:Int)<(l.length:Int) /\
 ctKnd.pre ((gtY l (0)),()) /\
 (0:Int)<=0 /\
 (0:Int)<(l.length:Int) /\
 bc (decide (kndB (gtY l (0))=(1:Int))) (Q [.agg [.int .i64 (kndB (gtY l (0))),.int .i64 (gtY l (0)).2.1,.int .i64 (l.length:Int),.int .u8 0,.nils]] [(2,.var [.int .i64 (kndB (gtY l (0))),.int .i64 (gtY l (0)).2.1,.int .i64 (l.length:Int),.int .u8 0,.nils]),(3,.var [.int .i64 (kndB (gtY l (0))),.int .i64 (gtY l (0)).2.1,.int .i64 (l.length:Int),.int .u8 0,.nils])]) ((0:Int)<=(l.length:Int) /\
 (l.length:Int)<=(l.length:Int) /\
 (l.length:Int)<2 ^ 24 /\
 (↑(1:Nat):Int)*(l.length:Int)<=2 ^ 48 /\
 R (hd Tryd.f73 0) { env:=[(0,.sl syS l),(2,.ptr 2 0),(3,.ptr 3 0),(6,.sl syS l),(7,.elv syS (gtY l (0))),(8,.agg [.bool (gtY l (0)).1,.int .i64 (gtY l (0)).2.1,.int .u8 (gtY l (0)).2.2]),(9,.int .i64 (kndB (gtY l (0)))),(10,.sl syS l),(11,.elv syS (gtY l (0))),(12,.elv iI (gtY l (0)).2.1),(13,.int .i64 (gtY l (0)).2.1),(14,.sl syS l),(15,.int .i64 (l.length:Int)),(16,.agg [.int .i64 (kndB (gtY l (0))),.int .i64 (gtY l (0)).2.1,.int .i64 (l.length:Int),.int .u8 0,.nils]),(17,.ptr 3 0),(18,.int .i64 (kndB (gtY l (0)))),(19,.bool (decide (kndB (gtY l (0))=(1:Int)))),(21,.sl syS l),(22,.int .i64 (l.length:Int)),(23,.win true uB 23 0 (l.length:Int).toNat),(24,.ptr 3 4),(25,.sl syS l),(26,.int .i64 (l.length:Int)),(27,.int .i64 0)],blk:=[(2,.var [.int .i64 0,.int .i64 0,.int .i64 0,.int .u8 0,.nils]),(3,.var [.int .i64 (kndB (gtY l (0))),.int .i64 (gtY l (0)).2.1,.int .i64 (l.length:Int),.int .u8 0,.win true uB 23 0 (l.length:Int).toNat]),(23,.row 5 uB (List.replicate (l.length:Int).toNat uB.dflt))] })):=by kernel_rfl
attribute [local irreducible] Go.Px.sy Go.Px.syE
theorem gtE {e:Sh} {l:List e.D} {i:Nat} (h:i<l.length):gt e l i=l[i]:=by
 show (l[i]?).getD _=l[i]
 rw[List.getElem?_eq_getElem h];rfl
theorem qge {l:List OpT} {i:Nat} (h:i<l.length):gtO l i=l[i]:=gtE (e:=opS) h
theorem qbn {l:List SyT} {i:Nat} (h:i<l.length):gtY l i=l[i]:=gtE (e:=syS) h
theorem qtg {α:Type} {l:List α} {i:Nat} (h:i<l.length):l.drop i=l[i]::l.drop (i+1):=List.drop_eq_getElem_cons h
abbrev GD (f:Nat) (fn:Func) (Q:List SV->List (Nat × LB)->Prop) (it:List Item) (S:PS):Prop:=Px.Good Tryd.prog tt G0 f fn.ntmps fn.results.toList Q it S
def szB (n:Int):Bool:=decide (0<=n)&&decide (n<=65536)
def chkF (m N:Int):List OpT->Int->Int->Int × Int
 | [],left,_=>if 0<left then (N,60) else (N,0)
 | x::l,left,i=>if isRB x m=false then (i,60) else if left<x.2.2.1 then (i,60) else chkF m N l (left-x.2.2.1) (i+1)
def chkV (p:PaT):Int × Int:=if szB p.2.1=true/\szB p.2.2.1=true/\p.2.2.2.length<=4096 then chkF p.2.1 p.2.2.2.length p.2.2.2 p.2.2.1 0 else (-1,60)
def ctChk:Ctr:=⟨[paS],fun _=>True,fun x=>[.int .i64 (chkV x.1).1,.int .i64 (chkV x.1).2],fun _=>[]⟩
theorem qds {x:OpT} {m:Int} (h:isRB x m=true):1<=x.2.2.1/\x.2.2.1<=65536:=by
 unfold isRB at h;simp only[Bool.and_eq_true,decide_eq_true_eq] at h;exact ⟨h.1,h.2.1⟩
theorem q0m (li:Bool) (m o:Int) (l:List OpT) (hl:l.length<=4096):∀ (k i:Nat) (left:Int),l.length-i=k->i<=l.length->0<=left/\left<=65536 ->
  GD 50 Tryd.f50 (fun rs _=>rs=[.int .i64 (chkF m l.length (l.drop i) left i).1,.int .i64 (chkF m l.length (l.drop i) left i).2]) (hd Tryd.f50 0) ⟨[(1,.ptr 1 0),(4,.int .i64 left),(26,.sl opS l),(27,.int .i64 l.length),(28,.int .i64 (i:Nat))],[(1,.var [.bool li,.int .i64 m,.int .i64 o,.sl opS l])]⟩:=by
 intro k
 induction k with
 | zero=>
  intro i left hk hi hb;have hi:i=l.length:=by omega
  subst hi;refine qaj dxC _ _ _ ((qnq li m o left l _ _ _).mpr ?_);rw[decide_eq_false (by omega),bc_f,List.drop_length];refine qaf (fun h=>?_) (fun h=>?_)
  ·rw[chkF,if_pos (of_decide_eq_true h)]
  ·rw[chkF,if_neg (of_decide_eq_false h)]
 | succ k ih=>
  intro i left hk hi hb;have hil:i<l.length:=by omega
  refine qaj dxC _ _ _ ((qnq li m o left l i _ _).mpr ?_);rw[decide_eq_true (show (i:Int)<(l.length:Int) by omega),bc_t,Int.toNat_natCast,qge hil,qtg hil];refine ⟨by omega,by omega,trivial,qaf (fun h=>⟨rfl,?_⟩) (fun h=>qaf (fun h2=>?_) (fun h2=>?_))⟩
  ·rw[chkF,if_pos (by simpa using h)]
  ·have h:isRB l[i] m=true:=by simpa using h
   rw[chkF,if_neg (by rw[h];decide),if_pos (of_decide_eq_true h2)]
  ·have h:isRB l[i] m=true:=by simpa using h
   have hn:=qds h;have h2:¬ left<l[i].2.2.1:=of_decide_eq_false h2;rw[chkF,if_neg (by rw[h];decide),if_neg h2,IntWalk.i64_in (left-l[i].2.2.1) (by omega),IntWalk.i64_in ((i:Int)+1) (by omega)];exact (ih (i+1) (left-l[i].2.2.1) (by omega) (by omega) (by omega)).only ⟨rfl,rfl,rfl,rfl,rfl,trivial⟩ ⟨rfl,trivial⟩
theorem q0n:Held Tryd.prog G0 50 ctChk:=by
 refine Held.run dxC (fn:=Tryd.f50) rfl rfl ⟨by decide,by decide⟩ ?_;rintro ⟨⟨li,m,o,l⟩,⟨⟩⟩ _;refine (qx3 li m o l _ _).mpr ⟨trivial,qaf (fun h=>⟨rfl,rfl,?_⟩) (fun h=>⟨trivial,qaf (fun h2=>⟨rfl,?_⟩) (fun h2=>qaf (fun h3=>?_) (fun h3=>?_))⟩)⟩
 ·have hv:chkV (li,m,o,l)=(-1,60):=if_neg fun q=>by
   have h:(!szB m)=true:=h;rw[q.1] at h;cases h
  exact QC.flat (by simp only[ctChk,hv]) rfl rfl
 ·have hv:chkV (li,m,o,l)=(-1,60):=if_neg fun q=>by
   have h2:(!szB o)=true:=h2;rw[q.2.1] at h2;cases h2
  exact QC.flat (by simp only[ctChk,hv]) rfl rfl
 ·have hv:chkV (li,m,o,l)=(-1,60):=if_neg fun q=>by
   have h3:(4096:Int)<(l.length:Int):=of_decide_eq_true h3;have:=q.2.2;simp only at this;omega
  exact QC.flat (by simp only[ctChk,hv]) rfl rfl
 ·have h:szB m=true:=by
   have h:(!szB m)=false:=h;simpa using h
  have h2:szB o=true:=by
   have h2:(!szB o)=false:=h2;simpa using h2
  have h3:l.length<=4096:=by
   have h3:¬ (4096:Int)<(l.length:Int):=of_decide_eq_false h3;omega
  have hv:chkV (li,m,o,l)=chkF m l.length l o 0:=if_pos ⟨h,h2,h3⟩;have ho:0<=o/\o<=65536:=by
   unfold szB at h2;simpa only[Bool.and_eq_true,decide_eq_true_eq] using h2
  have e:=q0m li m o l h3 _ 0 o rfl (by omega) ho;refine (e.post fun rs blk hq=>QC.flat ?_ rfl (by rw[hq];rfl)).only ⟨rfl,rfl,rfl,rfl,rfl,trivial⟩ ⟨rfl,trivial⟩;rw[hq];simp only[ctChk,hv];rfl
def goB (s t:SyT):Bool:=decide (kndB s=kndB t)&&(!s.1 || decide (t.2.1=IntKind.i64.wrap (s.2.1+1)))
def ctGo:Ctr:=⟨[syS,syS],fun _=>True,fun x=>[.bool (goB x.1 x.2.1)],fun _=>[]⟩
theorem q6e:Held Tryd.prog G0 72 ctGo:=by
 refine Held.run cx1 (fn:=Tryd.f72) rfl rfl ⟨by decide,by decide⟩ ?_;rintro ⟨s,t,⟨⟩⟩ _;refine (q30 s t _ _).mpr ⟨trivial,trivial,qaf (fun h=>qaf (fun h2=>⟨rfl,?_⟩) (fun h2=>?_)) (fun h=>⟨rfl,?_⟩)⟩
 ·exact QC.flat (by simp only[ctGo,goB,h,h2];rfl) rfl rfl
 ·exact QC.flat (by simp only[ctGo,goB,h,h2];rfl) rfl rfl
 ·exact QC.flat (by simp only[ctGo,goB,h];rfl) rfl rfl
def sOK (m:Int) (s:SyT):Bool:=if s.1=true then decide (0<=s.2.1)&&decide (s.2.1<m) else decide (s.2.1=0)
def ctAre:Ctr:=⟨[.sl syS,iI],fun x=>List.length x.1<1099511627776,fun x=>[.bool (List.all x.1 (sOK x.2.1))],fun _=>[]⟩
theorem q0t (l:List SyT) (m:Int) (hl:l.length<1099511627776):∀ (k i:Nat),l.length-i=k->i<=l.length ->
  GD 67 Tryd.f67 (fun rs _=>rs=[.bool ((l.drop i).all (sOK m))]) (hd Tryd.f67 0) ⟨[(1,.int .i64 m),(8,.sl syS l),(9,.int .i64 l.length),(10,.int .i64 (i:Nat))],[]⟩:=by
 intro k
 induction k with
 | zero=>
  intro i hk hi;have hi:i=l.length:=by omega
  subst hi;refine qaj cx0 _ _ _ ((qqp l m _ _ _).mpr ?_);rw[decide_eq_false (by omega),bc_f,List.drop_length];rfl
 | succ k ih=>
  intro i hk hi;have hil:i<l.length:=by omega
  refine qaj cx0 _ _ _ ((qqp l m i _ _).mpr ?_);rw[decide_eq_true (show (i:Int)<(l.length:Int) by omega),bc_t,Int.toNat_natCast,qbn hil,qtg hil];generalize hs:l[i]=s;obtain ⟨o,a,b⟩:=s;have go:sOK m (o,a,b)=true->GD 67 Tryd.f67 (fun rs _=>rs=[.bool (((o,a,b)::l.drop (i+1)).all (sOK m))]) (hd Tryd.f67 0) ⟨[(1,.int .i64 m),(8,.sl syS l),(9,.int .i64 l.length),(10,.int .i64 ((i+1:Nat):Int))],[]⟩:=fun h=>by
   have:=ih (i+1) (by omega) (by omega);rw[List.all_cons,h,Bool.true_and];exact this
  rw[IntWalk.i64_in ((i:Int)+1) (by omega)];refine ⟨by omega,by omega,?_⟩;have fin:sOK m (o,a,b)=false->[SV.bool false]=[SV.bool (((o,a,b)::l.drop (i+1)).all (sOK m))]:=fun h=>by
   rw[List.all_cons,h,Bool.false_and]
  rcases o with _ | _ <;> cases e0:decide (0<=a) <;> cases e1:decide (a<m) <;> cases e2:decide (a=0) <;>
   simp only[e0,e1,e2,decide_not,bc_t,bc_f,cond_true,cond_false,Bool.not_true,Bool.not_false,true_and,ne_eq] <;>
   first
   | (exact (go (by simp only[sOK,e0,e1,e2];rfl)).only ⟨rfl,rfl,rfl,rfl,trivial⟩ trivial)
   | (exact fin (by simp only[sOK,e0,e1,e2];rfl))
theorem q0u:Held Tryd.prog G0 67 ctAre:=by
 refine Held.run cx0 (fn:=Tryd.f67) rfl rfl ⟨by decide,by decide⟩ ?_;rintro ⟨l,m,⟨⟩⟩ hp;replace hp:l.length<1099511627776:=hp;refine (q34 l m _ _).mpr ?_;refine ((q0t l m hp _ 0 rfl (by omega)).post fun rs blk hq=>QC.flat ?_ rfl (by rw[hq];rfl)).only ⟨rfl,rfl,rfl,rfl,trivial⟩ trivial;rw[hq];rfl
def mdO (l:List SyT):OpT:=(kndB (gtY l 0),(gtY l 0).2.1,l.length,0,if kndB (gtY l 0)=1 then [] else l.map fun s=>s.2.2)
def mdV (x:OpT):List SV:=[.agg [.int .i64 x.1,.int .i64 x.2.1,.int .i64 x.2.2.1,.int .u8 x.2.2.2.1,.sl uB x.2.2.2.2]]
def qst (l:List SyT):Prop:=0<l.length/\l.length<16777216
def ctMd:Ctr:=⟨[.sl syS],fun x=>qst x.1,fun x=>mdV (mdO x.1),fun _=>[]⟩
def DO:CV:=(73,.inl ctMd)::(72,.inl ctGo)::C1
set_option maxRecDepth 100000
theorem qxw (k a:Int) (d:List Int) (l:List SyT) (i:Nat) (Q:QT) (R:RT):sy tt G0 C1 Tryd.f73.ntmps Tryd.f73.results.toList Q R 1000 (hd Tryd.f73 0) ⟨[(2,.ptr 2 0),(3,.ptr 3 0),(25,.sl syS l),(26,.int .i64 l.length),(27,.int .i64 (i:Nat))],[(2,.var [.int .i64 0,.int .i64 0,.int .i64 0,.int .u8 0,.nils]),(3,.var [.int .i64 k,.int .i64 a,.int .i64 l.length,.int .u8 0,.sl uB d])]⟩ =
  (bc (decide ((i:Int)<(l.length:Int))) ((0:Int)<=(i:Int) /\
 (i:Int)<(l.length:Int) /\
 (0:Int)<=(i:Int) /\
 (i:Int)<(d.length:Int) /\
 False) (Q [.agg [.int .i64 k,.int .i64 a,.int .i64 (l.length:Int),.int .u8 0,.sl uB d]] [(2,.var [.int .i64 k,.int .i64 a,.int .i64 (l.length:Int),.int .u8 0,.sl uB d]),(3,.var [.int .i64 k,.int .i64 a,.int .i64 (l.length:Int),.int .u8 0,.sl uB d])])):=by kernel_rfl
theorem q1l (l:List SyT) (Q:QT) (R:RT):sy tt G0 DO Tryd.f68.ntmps Tryd.f68.results.toList Q R 1000 [.code (qae Tryd.f68)] (entry [.sl syS] (l,())) =
  (R (hd Tryd.f68 0) { env:=[(0,.sl syS l),(2,.nils),(3,.nils),(4,.int .i64 0),(5,.int .i64 1)],blk:=[] }):=by kernel_rfl
theorem qt6 (l:List SyT) (a i:Nat) (Q:QT) (R:RT):sy tt G0 DO Tryd.f68.ntmps Tryd.f68.results.toList Q R 1000 (hd Tryd.f68 0) ⟨[(0,.sl syS l),(3,.nils),(4,.int .i64 (a:Nat)),(5,.int .i64 (i:Nat))],[]⟩ =
  (bc (decide ((i:Int)<=(l.length:Int))) (bc (decide ((i:Int)=(l.length:Int))) (true=true /\
 (0:Int)<=(a:Int) /\
 (a:Int)<=(i:Int) /\
 (i:Int)<=(l.length:Int) /\
 ctMd.pre (Px.part l (some (a:Int)) (some (i:Int)),()) /\
 (0:Nat)+1<=([(mdO (Px.part l (some (a:Int)) (some (i:Int))))]:List opS.D).length /\
 (([(mdO (Px.part l (some (a:Int)) (some (i:Int))))]:List opS.D)).length<2 ^ 30 /\
 (56:Nat)<=2 ^ 10 /\
 R (hd Tryd.f68 0) { env:=[(0,.sl syS l),(3,.win true opS 36 0 (1:Nat)),(4,.int .i64 (i:Int)),(5,.int .i64 (i64.wrap ((i:Int)+1))),(6,.int .i64 (i:Int)),(7,.sl syS l),(8,.int .i64 (l.length:Int)),(9,.bool (decide ((i:Int)<=(l.length:Int)))),(10,.int .i64 (i:Int)),(11,.int .i64 (i64.wrap ((i:Int)+1))),(12,.int .i64 (i:Int)),(13,.sl syS l),(14,.int .i64 (l.length:Int)),(15,.bool (decide ((i:Int)=(l.length:Int)))),(16,.bool true),(17,SV.tup []),(18,SV.tup []),(19,SV.tup []),(20,SV.tup []),(21,SV.tup []),(22,SV.tup []),(23,SV.tup []),(24,SV.tup []),(25,SV.tup []),(26,SV.tup []),(27,SV.tup []),(28,.bool true),(29,.nils),(30,.sl syS l),(31,.int .i64 (a:Int)),(32,.int .i64 (i:Int)),(33,.sl syS (Px.part l (some (a:Int)) (some (i:Int)))),(34,.agg [.int .i64 (mdO (Px.part l (some (a:Int)) (some (i:Int)))).1,.int .i64 (mdO (Px.part l (some (a:Int)) (some (i:Int)))).2.1,.int .i64 (mdO (Px.part l (some (a:Int)) (some (i:Int)))).2.2.1,.int .u8 (mdO (Px.part l (some (a:Int)) (some (i:Int)))).2.2.2.1,.sl uB (mdO (Px.part l (some (a:Int)) (some (i:Int)))).2.2.2.2]),(35,.win true opS 35 0 (1:Nat)),(36,.win true opS 36 0 (1:Nat)),(37,.int .i64 (i:Int))],blk:=[(35,.row 56 opS ([(mdO (Px.part l (some (a:Int)) (some (i:Int))))]:List opS.D)),(36,.row 56 opS (([(mdO (Px.part l (some (a:Int)) (some (i:Int))))]:List opS.D)))] }) ((0:Int)<=i64.wrap ((i:Int)-1) /\
 i64.wrap ((i:Int)-1)<(l.length:Int) /\
 (0:Int)<=(i:Int) /\
 (i:Int)<(l.length:Int) /\
 ctGo.pre ((gtY l (i64.wrap ((i:Int)-1)).toNat),(gtY l (i:Int).toNat),()) /\
 bc (bif false then true else !goB (gtY l (i64.wrap ((i:Int)-1)).toNat) (gtY l (i:Int).toNat)) ((0:Int)<=(a:Int) /\
 (a:Int)<=(i:Int) /\
 (i:Int)<=(l.length:Int) /\
 ctMd.pre (Px.part l (some (a:Int)) (some (i:Int)),()) /\
 (0:Nat)+1<=([(mdO (Px.part l (some (a:Int)) (some (i:Int))))]:List opS.D).length /\
 (([(mdO (Px.part l (some (a:Int)) (some (i:Int))))]:List opS.D)).length<2 ^ 30 /\
 (56:Nat)<=2 ^ 10 /\
 R (hd Tryd.f68 0) { env:=[(0,.sl syS l),(3,.win true opS 36 0 (1:Nat)),(4,.int .i64 (i:Int)),(5,.int .i64 (i64.wrap ((i:Int)+1))),(6,.int .i64 (i:Int)),(7,.sl syS l),(8,.int .i64 (l.length:Int)),(9,.bool (decide ((i:Int)<=(l.length:Int)))),(10,.int .i64 (i:Int)),(11,.int .i64 (i64.wrap ((i:Int)+1))),(12,.int .i64 (i:Int)),(13,.sl syS l),(14,.int .i64 (l.length:Int)),(15,.bool (decide ((i:Int)=(l.length:Int)))),(16,.bool false),(17,.sl syS l),(18,.int .i64 (i:Int)),(19,.int .i64 (i64.wrap ((i:Int)-1))),(20,.elv syS (gtY l (i64.wrap ((i:Int)-1)).toNat)),(21,.agg [.bool (gtY l (i64.wrap ((i:Int)-1)).toNat).1,.int .i64 (gtY l (i64.wrap ((i:Int)-1)).toNat).2.1,.int .u8 (gtY l (i64.wrap ((i:Int)-1)).toNat).2.2]),(22,.sl syS l),(23,.int .i64 (i:Int)),(24,.elv syS (gtY l (i:Int).toNat)),(25,.agg [.bool (gtY l (i:Int).toNat).1,.int .i64 (gtY l (i:Int).toNat).2.1,.int .u8 (gtY l (i:Int).toNat).2.2]),(26,.bool (goB (gtY l (i64.wrap ((i:Int)-1)).toNat) (gtY l (i:Int).toNat))),(27,.bool !goB (gtY l (i64.wrap ((i:Int)-1)).toNat) (gtY l (i:Int).toNat)),(28,.bool (bif false then true else !goB (gtY l (i64.wrap ((i:Int)-1)).toNat) (gtY l (i:Int).toNat))),(29,.nils),(30,.sl syS l),(31,.int .i64 (a:Int)),(32,.int .i64 (i:Int)),(33,.sl syS (Px.part l (some (a:Int)) (some (i:Int)))),(34,.agg [.int .i64 (mdO (Px.part l (some (a:Int)) (some (i:Int)))).1,.int .i64 (mdO (Px.part l (some (a:Int)) (some (i:Int)))).2.1,.int .i64 (mdO (Px.part l (some (a:Int)) (some (i:Int)))).2.2.1,.int .u8 (mdO (Px.part l (some (a:Int)) (some (i:Int)))).2.2.2.1,.sl uB (mdO (Px.part l (some (a:Int)) (some (i:Int)))).2.2.2.2]),(35,.win true opS 35 0 (1:Nat)),(36,.win true opS 36 0 (1:Nat)),(37,.int .i64 (i:Int))],blk:=[(35,.row 56 opS ([(mdO (Px.part l (some (a:Int)) (some (i:Int))))]:List opS.D)),(36,.row 56 opS (([(mdO (Px.part l (some (a:Int)) (some (i:Int))))]:List opS.D)))] }) (R (hd Tryd.f68 0) { env:=[(0,.sl syS l),(3,.nils),(4,.int .i64 (a:Int)),(5,.int .i64 (i64.wrap ((i:Int)+1))),(6,.int .i64 (i:Int)),(7,.sl syS l),(8,.int .i64 (l.length:Int)),(9,.bool (decide ((i:Int)<=(l.length:Int)))),(10,.int .i64 (i:Int)),(11,.int .i64 (i64.wrap ((i:Int)+1))),(12,.int .i64 (i:Int)),(13,.sl syS l),(14,.int .i64 (l.length:Int)),(15,.bool (decide ((i:Int)=(l.length:Int)))),(16,.bool false),(17,.sl syS l),(18,.int .i64 (i:Int)),(19,.int .i64 (i64.wrap ((i:Int)-1))),(20,.elv syS (gtY l (i64.wrap ((i:Int)-1)).toNat)),(21,.agg [.bool (gtY l (i64.wrap ((i:Int)-1)).toNat).1,.int .i64 (gtY l (i64.wrap ((i:Int)-1)).toNat).2.1,.int .u8 (gtY l (i64.wrap ((i:Int)-1)).toNat).2.2]),(22,.sl syS l),(23,.int .i64 (i:Int)),(24,.elv syS (gtY l (i:Int).toNat)),(25,.agg [.bool (gtY l (i:Int).toNat).1,.int .i64 (gtY l (i:Int).toNat).2.1,.int .u8 (gtY l (i:Int).toNat).2.2]),(26,.bool (goB (gtY l (i64.wrap ((i:Int)-1)).toNat) (gtY l (i:Int).toNat))),(27,.bool !goB (gtY l (i64.wrap ((i:Int)-1)).toNat) (gtY l (i:Int).toNat)),(28,.bool (bif false then true else !goB (gtY l (i64.wrap ((i:Int)-1)).toNat) (gtY l (i:Int).toNat)))],blk:=[] }))) (Q [.nils] [])):=by kernel_rfl
theorem q3g (l:List SyT) (o:List OpT) (a i:Nat) (Q:QT) (R:RT):sy tt G0 DO Tryd.f68.ntmps Tryd.f68.results.toList Q R 1000 (hd Tryd.f68 0) ⟨[(0,.sl syS l),(3,.win true opS 3 0 o.length),(4,.int .i64 (a:Nat)),(5,.int .i64 (i:Nat))],[(3,.row 56 opS o)]⟩ =
  (bc (decide ((i:Int)<=(l.length:Int))) (bc (decide ((i:Int)=(l.length:Int))) (true=true /\
 (0:Int)<=(a:Int) /\
 (a:Int)<=(i:Int) /\
 (i:Int)<=(l.length:Int) /\
 ctMd.pre (Px.part l (some (a:Int)) (some (i:Int)),()) /\
 (0:Nat)+1<=([(mdO (Px.part l (some (a:Int)) (some (i:Int))))]:List opS.D).length /\
 o.length=o.length /\
 (0:Nat)=(0:Nat) /\
 o.length+(([(mdO (Px.part l (some (a:Int)) (some (i:Int))))]:List opS.D)).length<2 ^ 30 /\
 (56:Nat)<=2 ^ 10 /\
 R (hd Tryd.f68 0) { env:=[(0,.sl syS l),(3,.win true opS 36 0 (o.length+(([(mdO (Px.part l (some (a:Int)) (some (i:Int))))]:List opS.D)).length)),(4,.int .i64 (i:Int)),(5,.int .i64 (i64.wrap ((i:Int)+1))),(6,.int .i64 (i:Int)),(7,.sl syS l),(8,.int .i64 (l.length:Int)),(9,.bool (decide ((i:Int)<=(l.length:Int)))),(10,.int .i64 (i:Int)),(11,.int .i64 (i64.wrap ((i:Int)+1))),(12,.int .i64 (i:Int)),(13,.sl syS l),(14,.int .i64 (l.length:Int)),(15,.bool (decide ((i:Int)=(l.length:Int)))),(16,.bool true),(17,SV.tup []),(18,SV.tup []),(19,SV.tup []),(20,SV.tup []),(21,SV.tup []),(22,SV.tup []),(23,SV.tup []),(24,SV.tup []),(25,SV.tup []),(26,SV.tup []),(27,SV.tup []),(28,.bool true),(29,.dead),(30,.sl syS l),(31,.int .i64 (a:Int)),(32,.int .i64 (i:Int)),(33,.sl syS (Px.part l (some (a:Int)) (some (i:Int)))),(34,.agg [.int .i64 (mdO (Px.part l (some (a:Int)) (some (i:Int)))).1,.int .i64 (mdO (Px.part l (some (a:Int)) (some (i:Int)))).2.1,.int .i64 (mdO (Px.part l (some (a:Int)) (some (i:Int)))).2.2.1,.int .u8 (mdO (Px.part l (some (a:Int)) (some (i:Int)))).2.2.2.1,.sl uB (mdO (Px.part l (some (a:Int)) (some (i:Int)))).2.2.2.2]),(35,.win true opS 35 0 (1:Nat)),(36,.win true opS 36 0 (o.length+(([(mdO (Px.part l (some (a:Int)) (some (i:Int))))]:List opS.D)).length)),(37,.int .i64 (i:Int))],blk:=[(35,.row 56 opS ([(mdO (Px.part l (some (a:Int)) (some (i:Int))))]:List opS.D)),(36,.row 56 opS (o++([(mdO (Px.part l (some (a:Int)) (some (i:Int))))]:List opS.D)))] }) ((0:Int)<=i64.wrap ((i:Int)-1) /\
 i64.wrap ((i:Int)-1)<(l.length:Int) /\
 (0:Int)<=(i:Int) /\
 (i:Int)<(l.length:Int) /\
 ctGo.pre ((gtY l (i64.wrap ((i:Int)-1)).toNat),(gtY l (i:Int).toNat),()) /\
 bc (bif false then true else !goB (gtY l (i64.wrap ((i:Int)-1)).toNat) (gtY l (i:Int).toNat)) ((0:Int)<=(a:Int) /\
 (a:Int)<=(i:Int) /\
 (i:Int)<=(l.length:Int) /\
 ctMd.pre (Px.part l (some (a:Int)) (some (i:Int)),()) /\
 (0:Nat)+1<=([(mdO (Px.part l (some (a:Int)) (some (i:Int))))]:List opS.D).length /\
 o.length=o.length /\
 (0:Nat)=(0:Nat) /\
 o.length+(([(mdO (Px.part l (some (a:Int)) (some (i:Int))))]:List opS.D)).length<2 ^ 30 /\
 (56:Nat)<=2 ^ 10 /\
 R (hd Tryd.f68 0) { env:=[(0,.sl syS l),(3,.win true opS 36 0 (o.length+(([(mdO (Px.part l (some (a:Int)) (some (i:Int))))]:List opS.D)).length)),(4,.int .i64 (i:Int)),(5,.int .i64 (i64.wrap ((i:Int)+1))),(6,.int .i64 (i:Int)),(7,.sl syS l),(8,.int .i64 (l.length:Int)),(9,.bool (decide ((i:Int)<=(l.length:Int)))),(10,.int .i64 (i:Int)),(11,.int .i64 (i64.wrap ((i:Int)+1))),(12,.int .i64 (i:Int)),(13,.sl syS l),(14,.int .i64 (l.length:Int)),(15,.bool (decide ((i:Int)=(l.length:Int)))),(16,.bool false),(17,.sl syS l),(18,.int .i64 (i:Int)),(19,.int .i64 (i64.wrap ((i:Int)-1))),(20,.elv syS (gtY l (i64.wrap ((i:Int)-1)).toNat)),(21,.agg [.bool (gtY l (i64.wrap ((i:Int)-1)).toNat).1,.int .i64 (gtY l (i64.wrap ((i:Int)-1)).toNat).2.1,.int .u8 (gtY l (i64.wrap ((i:Int)-1)).toNat).2.2]),(22,.sl syS l),(23,.int .i64 (i:Int)),(24,.elv syS (gtY l (i:Int).toNat)),(25,.agg [.bool (gtY l (i:Int).toNat).1,.int .i64 (gtY l (i:Int).toNat).2.1,.int .u8 (gtY l (i:Int).toNat).2.2]),(26,.bool (goB (gtY l (i64.wrap ((i:Int)-1)).toNat) (gtY l (i:Int).toNat))),(27,.bool !goB (gtY l (i64.wrap ((i:Int)-1)).toNat) (gtY l (i:Int).toNat)),(28,.bool (bif false then true else !goB (gtY l (i64.wrap ((i:Int)-1)).toNat) (gtY l (i:Int).toNat))),(29,.dead),(30,.sl syS l),(31,.int .i64 (a:Int)),(32,.int .i64 (i:Int)),(33,.sl syS (Px.part l (some (a:Int)) (some (i:Int)))),(34,.agg [.int .i64 (mdO (Px.part l (some (a:Int)) (some (i:Int)))).1,.int .i64 (mdO (Px.part l (some (a:Int)) (some (i:Int)))).2.1,.int .i64 (mdO (Px.part l (some (a:Int)) (some (i:Int)))).2.2.1,.int .u8 (mdO (Px.part l (some (a:Int)) (some (i:Int)))).2.2.2.1,.sl uB (mdO (Px.part l (some (a:Int)) (some (i:Int)))).2.2.2.2]),(35,.win true opS 35 0 (1:Nat)),(36,.win true opS 36 0 (o.length+(([(mdO (Px.part l (some (a:Int)) (some (i:Int))))]:List opS.D)).length)),(37,.int .i64 (i:Int))],blk:=[(35,.row 56 opS ([(mdO (Px.part l (some (a:Int)) (some (i:Int))))]:List opS.D)),(36,.row 56 opS (o++([(mdO (Px.part l (some (a:Int)) (some (i:Int))))]:List opS.D)))] }) (R (hd Tryd.f68 0) { env:=[(0,.sl syS l),(3,.win true opS 3 0 o.length),(4,.int .i64 (a:Int)),(5,.int .i64 (i64.wrap ((i:Int)+1))),(6,.int .i64 (i:Int)),(7,.sl syS l),(8,.int .i64 (l.length:Int)),(9,.bool (decide ((i:Int)<=(l.length:Int)))),(10,.int .i64 (i:Int)),(11,.int .i64 (i64.wrap ((i:Int)+1))),(12,.int .i64 (i:Int)),(13,.sl syS l),(14,.int .i64 (l.length:Int)),(15,.bool (decide ((i:Int)=(l.length:Int)))),(16,.bool false),(17,.sl syS l),(18,.int .i64 (i:Int)),(19,.int .i64 (i64.wrap ((i:Int)-1))),(20,.elv syS (gtY l (i64.wrap ((i:Int)-1)).toNat)),(21,.agg [.bool (gtY l (i64.wrap ((i:Int)-1)).toNat).1,.int .i64 (gtY l (i64.wrap ((i:Int)-1)).toNat).2.1,.int .u8 (gtY l (i64.wrap ((i:Int)-1)).toNat).2.2]),(22,.sl syS l),(23,.int .i64 (i:Int)),(24,.elv syS (gtY l (i:Int).toNat)),(25,.agg [.bool (gtY l (i:Int).toNat).1,.int .i64 (gtY l (i:Int).toNat).2.1,.int .u8 (gtY l (i:Int).toNat).2.2]),(26,.bool (goB (gtY l (i64.wrap ((i:Int)-1)).toNat) (gtY l (i:Int).toNat))),(27,.bool !goB (gtY l (i64.wrap ((i:Int)-1)).toNat) (gtY l (i:Int).toNat)),(28,.bool (bif false then true else !goB (gtY l (i64.wrap ((i:Int)-1)).toNat) (gtY l (i:Int).toNat)))],blk:=[(3,.row 56 opS o)] }))) (Q [.win true opS 3 0 o.length] [(3,.row 56 opS o)])):=by kernel_rfl
theorem q3f (l:List SyT) (o:List OpT) (a i:Nat) (Q:QT) (R:RT):sy tt G0 DO Tryd.f68.ntmps Tryd.f68.results.toList Q R 1000 (hd Tryd.f68 0) ⟨[(0,.sl syS l),(3,.sl opS o),(4,.int .i64 (a:Nat)),(5,.int .i64 (i:Nat))],[]⟩ =
  (bc (decide ((i:Int)<=(l.length:Int))) (bc (decide ((i:Int)=(l.length:Int))) (true=true /\
 (0:Int)<=(a:Int) /\
 (a:Int)<=(i:Int) /\
 (i:Int)<=(l.length:Int) /\
 ctMd.pre (Px.part l (some (a:Int)) (some (i:Int)),()) /\
 False) ((0:Int)<=i64.wrap ((i:Int)-1) /\
 i64.wrap ((i:Int)-1)<(l.length:Int) /\
 (0:Int)<=(i:Int) /\
 (i:Int)<(l.length:Int) /\
 ctGo.pre ((gtY l (i64.wrap ((i:Int)-1)).toNat),(gtY l (i:Int).toNat),()) /\
 bc (bif false then true else !goB (gtY l (i64.wrap ((i:Int)-1)).toNat) (gtY l (i:Int).toNat)) ((0:Int)<=(a:Int) /\
 (a:Int)<=(i:Int) /\
 (i:Int)<=(l.length:Int) /\
 ctMd.pre (Px.part l (some (a:Int)) (some (i:Int)),()) /\
 False) (R (hd Tryd.f68 0) { env:=[(0,.sl syS l),(3,.sl opS o),(4,.int .i64 (a:Int)),(5,.int .i64 (i64.wrap ((i:Int)+1))),(6,.int .i64 (i:Int)),(7,.sl syS l),(8,.int .i64 (l.length:Int)),(9,.bool (decide ((i:Int)<=(l.length:Int)))),(10,.int .i64 (i:Int)),(11,.int .i64 (i64.wrap ((i:Int)+1))),(12,.int .i64 (i:Int)),(13,.sl syS l),(14,.int .i64 (l.length:Int)),(15,.bool (decide ((i:Int)=(l.length:Int)))),(16,.bool false),(17,.sl syS l),(18,.int .i64 (i:Int)),(19,.int .i64 (i64.wrap ((i:Int)-1))),(20,.elv syS (gtY l (i64.wrap ((i:Int)-1)).toNat)),(21,.agg [.bool (gtY l (i64.wrap ((i:Int)-1)).toNat).1,.int .i64 (gtY l (i64.wrap ((i:Int)-1)).toNat).2.1,.int .u8 (gtY l (i64.wrap ((i:Int)-1)).toNat).2.2]),(22,.sl syS l),(23,.int .i64 (i:Int)),(24,.elv syS (gtY l (i:Int).toNat)),(25,.agg [.bool (gtY l (i:Int).toNat).1,.int .i64 (gtY l (i:Int).toNat).2.1,.int .u8 (gtY l (i:Int).toNat).2.2]),(26,.bool (goB (gtY l (i64.wrap ((i:Int)-1)).toNat) (gtY l (i:Int).toNat))),(27,.bool !goB (gtY l (i64.wrap ((i:Int)-1)).toNat) (gtY l (i:Int).toNat)),(28,.bool (bif false then true else !goB (gtY l (i64.wrap ((i:Int)-1)).toNat) (gtY l (i:Int).toNat)))],blk:=[] }))) (Q [.sl opS o] [])):=by kernel_rfl
theorem winA {e:Sh} (l:List e.D):winL e 0 l.length l=l:=by
 show (List.drop 0 l).take l.length=l
 rw[List.drop_zero,List.take_of_length_le (Nat.le_refl _)]
theorem QC.mt {ct:Ctr} {x:DL ct.args} {rs:List SV} {blk:List (Nat × LB)} (h:MtL (fun _=>none) (ct.out x) rs) (hr:ct.rows x=[]):QC ct x rs blk:=⟨fun _=>none,h,by rw[hr];trivial,fun _ _ _ e=>by simp at e,by rw[hr];rfl⟩
theorem qwe (k a:Int) (l:List SyT) (hl:l.length<16777216):∀ (n i:Nat) (b:List Int),l.length-i=n->i<=l.length->b.length=l.length->(∀ j,j<i->b[j]?=(l.map fun s=>s.2.2)[j]?) ->
  GD 73 Tryd.f73 (fun rs _=>rs=[.agg [.int .i64 k,.int .i64 a,.int .i64 l.length,.int .u8 0,.sl uB (l.map fun s=>s.2.2)]]) (hd Tryd.f73 0) ⟨[(2,.ptr 2 0),(3,.ptr 3 0),(25,.sl syS l),(26,.int .i64 l.length),(27,.int .i64 (i:Nat))],[(2,.var [.int .i64 0,.int .i64 0,.int .i64 0,.int .u8 0,.nils]),(3,.var [.int .i64 k,.int .i64 a,.int .i64 l.length,.int .u8 0,.win true uB 23 0 b.length]),(23,.row 5 uB b)]⟩:=by
 intro n
 induction n with
 | zero=>
  intro i b hk hi hb hj;have hi:i=l.length:=by omega
  subst hi;have hbl:b=l.map fun s=>s.2.2:=by
   refine List.ext_getElem? fun j=>?_
   by_cases h:j<l.length
   ·exact hj j h
   ·rw[List.getElem?_eq_none (by omega),List.getElem?_eq_none (by rw[List.length_map];omega)]
  refine Good.frz (i:=23) (e:=uB) (et:=5) (xs:=b) rfl (fun c hc=>?_) ?_
  ·have hc:c∈[0+b.length<=b.length]:=hc;rw[List.mem_singleton] at hc;subst hc;omega
  ·have e:GD 73 Tryd.f73 (fun rs _=>rs=[.agg [.int .i64 k,.int .i64 a,.int .i64 l.length,.int .u8 0,.sl uB (l.map fun s=>s.2.2)]]) (hd Tryd.f73 0) ⟨[(2,.ptr 2 0),(3,.ptr 3 0),(25,.sl syS l),(26,.int .i64 l.length),(27,.int .i64 (l.length:Nat))],[(2,.var [.int .i64 0,.int .i64 0,.int .i64 0,.int .u8 0,.nils]),(3,.var [.int .i64 k,.int .i64 a,.int .i64 l.length,.int .u8 0,.sl uB (winL uB 0 b.length b)])]⟩:=by
    refine qaj cx1 _ _ _ ((qxw k a (winL uB 0 b.length b) l l.length _ _).mpr ?_);rw[decide_eq_false (by omega),bc_f,winA,hbl]
   exact e.only ⟨rfl,rfl,rfl,rfl,rfl,trivial⟩ ⟨rfl,rfl,trivial⟩
 | succ n ih=>
  intro i b hk hi hb hj;have hil:i<l.length:=by omega
  refine qaj cx1 _ _ _ ((qxv k a b l i _ _).mpr ?_);rw[decide_eq_true (show (i:Int)<(l.length:Int) by omega),bc_t,Int.toNat_natCast,qbn hil,IntWalk.i64_in ((i:Int)+1) (by omega),Nat.zero_add];refine ⟨by omega,by omega,by omega,by omega,by omega,?_⟩;refine (ih (i+1) (b.set i l[i].2.2) (by omega) (by omega) (by rw[List.length_set];exact hb) (fun j h=>?_)).only ⟨rfl,rfl,rfl,rfl,rfl,trivial⟩ ⟨rfl,?_,rfl,trivial⟩
  ·rw[List.getElem?_set];by_cases hji:i=j
   ·subst hji;rw[if_pos rfl,if_pos (by omega),List.getElem?_map,List.getElem?_eq_getElem hil];rfl
   ·rw[if_neg hji];exact hj j (by omega)
  ·rw[List.length_set];rfl
theorem qwf:Held Tryd.prog G0 73 ctMd:=by
 refine Held.run cx1 (fn:=Tryd.f73) rfl rfl ⟨by decide,by decide⟩ ?_;rintro ⟨l,⟨⟩⟩ hp;obtain ⟨h0,h1⟩:qst l:=hp;refine (q3o l _ _).mpr ⟨Int.le_refl 0,by omega,trivial,Int.le_refl 0,by omega,qaf (fun h=>?_) (fun h=>?_)⟩
 ·have h:=of_decide_eq_true h;refine QC.mt ?_ rfl
  show MtL _ (mdV (mdO l)) _
  unfold mdO;rw[if_pos h];exact ⟨_,_,rfl,⟨_,rfl,_,_,rfl,rfl,_,_,rfl,rfl,_,_,rfl,rfl,_,_,rfl,rfl,_,_,rfl,.inr ⟨rfl,rfl⟩,rfl⟩,rfl⟩
 ·have h:=of_decide_eq_false h;refine ⟨by omega,by omega,?_,?_,?_⟩
  ·show (l.length:Int)<16777216
   omega
  ·show (1:Int)*(l.length:Int)<=281474976710656
   omega
  ·refine ((qwe (kndB (gtY l 0)) (gtY l 0).2.1 l h1 _ 0 (List.replicate (l.length:Int).toNat 0) rfl (by omega) (by rw[List.length_replicate,Int.toNat_natCast]) (fun j h=>by omega)).post fun rs blk hq=>QC.flat ?_ rfl (by rw[hq];rfl)).only ⟨rfl,rfl,rfl,rfl,rfl,trivial⟩ ⟨rfl,?_,rfl,trivial⟩
   ·rw[hq]
    show mdV (mdO l)=_
    unfold mdO;rw[if_neg h];rfl
   ·rw[List.length_replicate];rfl
theorem dxO:CxOK Tryd.prog tt G0 DO:=(cx1.cons q6e (fn:=Tryd.f72) rfl rfl rfl).cons qwf (fn:=Tryd.f73) rfl rfl rfl
abbrev ptL (l:List SyT) (a i:Nat):List SyT:=Px.part l (some (a:Int)) (some (i:Int))
theorem qvk {l:List SyT} {a i:Nat} (h:a<=i) (hi:i<=l.length):(ptL l a i).length=i-a:=by
 simp[ptL,Px.part];omega
def opsF (l:List SyT):Nat->Nat->Nat->List OpT
 | 0,_,_=>[]
 | k+1,a,i=>if i=l.length\/goB (gtY l (i-1)) (gtY l i)=false then mdO (ptL l a i)::opsF l k i (i+1) else opsF l k a (i+1)
def opsL (l:List SyT):List OpT:=opsF l l.length 0 1
def ctOps:Ctr:=⟨[.sl syS],fun x=>qst x.1,fun x=>[.sl opS (opsL x.1)],fun _=>[]⟩
theorem cut1 {l:List SyT} {k a i:Nat} (h:i=l.length\/goB (gtY l (i-1)) (gtY l i)=false):opsF l (k+1) a i=mdO (ptL l a i)::opsF l k i (i+1):=by rw[opsF,if_pos h]
theorem cut0 {l:List SyT} {k a i:Nat} (h:¬ (i=l.length\/goB (gtY l (i-1)) (gtY l i)=false)):opsF l (k+1) a i=opsF l k a (i+1):=by rw[opsF,if_neg h]
abbrev OQ (x:List OpT):List SV->List (Nat × LB)->Prop:=fun rs _=>rs=[.sl opS x]
theorem qvr (l:List SyT) (hl:l.length<16777216):∀ (k a i:Nat) (o:List OpT),l.length+1-i=k->1<=i->i<=l.length+1->a<i->o.length<=i ->
  GD 68 Tryd.f68 (OQ (o++opsF l k a i)) (hd Tryd.f68 0) ⟨[(0,.sl syS l),(3,.win true opS 3 0 o.length),(4,.int .i64 (a:Nat)),(5,.int .i64 (i:Nat))],[(3,.row 56 opS o)]⟩:=by
 intro k
 induction k with
 | zero=>
  intro a i o hk h1 hi ha ho;have hi:i=l.length+1:=by omega
  subst hi;refine Good.frz (i:=3) (e:=opS) (et:=56) (xs:=o) rfl (fun c hc=>?_) ?_
  ·have hc:c∈[0+o.length<=o.length]:=hc;rw[List.mem_singleton] at hc;subst hc;omega
  ·have e:GD 68 Tryd.f68 (OQ (o++opsF l 0 a (l.length+1))) (hd Tryd.f68 0) ⟨[(0,.sl syS l),(3,.sl opS (winL opS 0 o.length o)),(4,.int .i64 (a:Nat)),(5,.int .i64 ((l.length+1:Nat):Int))],[]⟩:=by
    refine qaj dxO _ _ _ ((q3f l (winL opS 0 o.length o) a (l.length+1) _ _).mpr ?_);rw[decide_eq_false (by omega),bc_f,winA,opsF,List.append_nil]
   exact e.only ⟨rfl,rfl,rfl,rfl,trivial⟩ trivial
 | succ k ih=>
  intro a i o hk h1 hi ha ho;have hil:i<=l.length:=by omega
  have hpt:qst (ptL l a i):=by
   have:=qvk (l:=l) (a:=a) (i:=i) (by omega) hil;exact ⟨by omega,by omega⟩
  have wi:IntKind.i64.wrap ((i:Int)+1)=((i+1:Nat):Int):=by rw[IntWalk.i64_in _ (by omega)];omega
  have wj:IntKind.i64.wrap ((i:Int)-1)=((i-1:Nat):Int):=by rw[IntWalk.i64_in _ (by omega)];omega
  have step:(i=l.length\/goB (gtY l (i-1)) (gtY l i)=false)->GD 68 Tryd.f68 (OQ (o++opsF l (k+1) a i)) (hd Tryd.f68 0) ⟨[(0,.sl syS l),(3,.win true opS 3 0 (o++[mdO (ptL l a i)]).length),(4,.int .i64 (i:Nat)),(5,.int .i64 ((i+1:Nat):Int))],[(3,.row 56 opS (o++[mdO (ptL l a i)]))]⟩:=fun h=>by
   rw[cut1 h];have:=ih i (i+1) (o++[mdO (ptL l a i)]) (by omega) (by omega) (by omega) (by omega) (by rw[List.length_append,List.length_singleton];omega);rw[List.append_assoc] at this;exact this
  refine qaj dxO _ _ _ ((q3g l o a i _ _).mpr ?_);rw[decide_eq_true (show (i:Int)<=(l.length:Int) by omega),bc_t,wi,wj,Int.toNat_natCast,Int.toNat_natCast];refine qaf (fun h=>?_) (fun h=>?_)
  ·have h:=of_decide_eq_true h;refine ⟨rfl,by omega,by omega,by omega,hpt,Nat.le_refl 1,rfl,rfl,?_,by decide,?_⟩
   ·show o.length+1<2 ^ 30
    omega
   ·exact (step (.inl (by omega))).onlyR [(3,36)] rfl ⟨rfl,by rw[List.length_append];rfl,rfl,rfl,trivial⟩ ⟨rfl,trivial⟩
  ·have h:=of_decide_eq_false h;refine ⟨by omega,by omega,by omega,by omega,trivial,qaf (fun h2=>?_) (fun h2=>?_)⟩
   ·have h2:goB (gtY l (i-1)) (gtY l i)=false:=by
     have h2:(!goB (gtY l (i-1)) (gtY l i))=true:=h2;simpa using h2
    refine ⟨by omega,by omega,by omega,hpt,Nat.le_refl 1,rfl,rfl,?_,by decide,?_⟩
    ·show o.length+1<2 ^ 30
     omega
    ·exact (step (.inr h2)).onlyR [(3,36)] rfl ⟨rfl,by rw[List.length_append];rfl,rfl,rfl,trivial⟩ ⟨rfl,trivial⟩
   ·have h2:goB (gtY l (i-1)) (gtY l i)=true:=by
     have h2:(!goB (gtY l (i-1)) (gtY l i))=false:=h2;simpa using h2
    rw[cut0 (fun q=>by rcases q with q | q;exact h (by omega);rw[h2] at q;cases q)];exact (ih a (i+1) o (by omega) (by omega) (by omega) (by omega) (by omega)).only ⟨rfl,rfl,rfl,rfl,trivial⟩ ⟨rfl,trivial⟩
theorem qvs (l:List SyT) (hl:l.length<16777216):∀ (k a i:Nat),l.length+1-i=k->1<=i->i<=l.length->a<i ->
  GD 68 Tryd.f68 (OQ (opsF l k a i)) (hd Tryd.f68 0) ⟨[(0,.sl syS l),(3,.nils),(4,.int .i64 (a:Nat)),(5,.int .i64 (i:Nat))],[]⟩:=by
 intro k
 induction k with
 | zero=>intro a i hk h1 hi ha;omega
 | succ k ih=>
  intro a i hk h1 hil ha;have hpt:qst (ptL l a i):=by
   have:=qvk (l:=l) (a:=a) (i:=i) (by omega) hil;exact ⟨by omega,by omega⟩
  have wi:IntKind.i64.wrap ((i:Int)+1)=((i+1:Nat):Int):=by rw[IntWalk.i64_in _ (by omega)];omega
  have wj:IntKind.i64.wrap ((i:Int)-1)=((i-1:Nat):Int):=by rw[IntWalk.i64_in _ (by omega)];omega
  have step:(i=l.length\/goB (gtY l (i-1)) (gtY l i)=false)->GD 68 Tryd.f68 (OQ (opsF l (k+1) a i)) (hd Tryd.f68 0) ⟨[(0,.sl syS l),(3,.win true opS 3 0 1),(4,.int .i64 (i:Nat)),(5,.int .i64 ((i+1:Nat):Int))],[(3,.row 56 opS [mdO (ptL l a i)])]⟩:=fun h=>by
   rw[cut1 h];exact qvr l hl k i (i+1) [mdO (ptL l a i)] (by omega) (by omega) (by omega) (by omega) (by simp)
  refine qaj dxO _ _ _ ((qt6 l a i _ _).mpr ?_);rw[decide_eq_true (show (i:Int)<=(l.length:Int) by omega),bc_t,wi,wj,Int.toNat_natCast,Int.toNat_natCast];refine qaf (fun h=>?_) (fun h=>?_)
  ·have h:=of_decide_eq_true h;refine ⟨rfl,by omega,by omega,by omega,hpt,Nat.le_refl 1,(show 1<2 ^ 30 by decide),by decide,?_⟩;exact (step (.inl (by omega))).onlyR [(3,36)] rfl ⟨rfl,rfl,rfl,rfl,trivial⟩ ⟨rfl,trivial⟩
  ·have h:=of_decide_eq_false h;refine ⟨by omega,by omega,by omega,by omega,trivial,qaf (fun h2=>?_) (fun h2=>?_)⟩
   ·have h2:goB (gtY l (i-1)) (gtY l i)=false:=by
     have h2:(!goB (gtY l (i-1)) (gtY l i))=true:=h2;simpa using h2
    refine ⟨by omega,by omega,by omega,hpt,Nat.le_refl 1,(show 1<2 ^ 30 by decide),by decide,?_⟩;exact (step (.inr h2)).onlyR [(3,36)] rfl ⟨rfl,rfl,rfl,rfl,trivial⟩ ⟨rfl,trivial⟩
   ·have h2:goB (gtY l (i-1)) (gtY l i)=true:=by
     have h2:(!goB (gtY l (i-1)) (gtY l i))=false:=h2;simpa using h2
    rw[cut0 (fun q=>by rcases q with q | q;exact h (by omega);rw[h2] at q;cases q)];exact (ih a (i+1) (by omega) (by omega) (by omega) (by omega)).only ⟨rfl,rfl,rfl,rfl,trivial⟩ trivial
theorem qy4:Held Tryd.prog G0 68 ctOps:=by
 refine Held.run dxO (fn:=Tryd.f68) rfl rfl ⟨by decide,by decide⟩ ?_;rintro ⟨l,⟨⟩⟩ hp;obtain ⟨h0,h1⟩:qst l:=hp;refine (q1l l _ _).mpr ?_;exact ((qvs l h1 l.length 0 1 (by omega) (by omega) (by omega) (by omega)).post fun rs blk hq=>QC.flat (by rw[hq];rfl) rfl (by rw[hq];rfl)).only ⟨rfl,rfl,rfl,rfl,trivial⟩ trivial
theorem qx2 (k f n b:Int) (d:List Int) (o:List SyT) (Q:QT) (R:RT):sy tt G0 [] Tryd.f96.ntmps Tryd.f96.results.toList Q R 1000 [.code (qae Tryd.f96)] (qbj [.dat opS,.row 51 syS] ((k,f,n,b,d),o,())) =
  (R (hd Tryd.f96 0) { env:=[(0,.agg [.int .i64 k,.int .i64 f,.int .i64 n,.int .u8 b,.sl uB d]),(1,.win true syS 1099511627776 0 o.length),(2,.ptr 2 0),(4,.nils),(6,.ptr 2 2),(7,.int .i64 n),(8,.int .i64 0)],blk:=[(2,.var [.int .i64 k,.int .i64 f,.int .i64 n,.int .u8 b,.sl uB d]),(1099511627776,.row 51 syS o)] }):=by kernel_rfl
theorem quj (k f n b:Int) (d:List Int) (o:List SyT) (i:Nat) (Q:QT) (R:RT):sy tt G0 [] Tryd.f96.ntmps Tryd.f96.results.toList Q R 1000 (hd Tryd.f96 0) ⟨[(1,.win true syS 1099511627776 0 o.length),(2,.ptr 2 0),(7,.int .i64 n),(8,.int .i64 (i:Nat))],[(2,.var [.int .i64 k,.int .i64 f,.int .i64 n,.int .u8 b,.sl uB d]),(1099511627776,.row 51 syS o)]⟩ =
  (bc (decide ((i:Int)<n)) ((0:Nat)+1<=([(true,i64.wrap (f+(i:Int)),(0:Int))]:List syS.D).length /\
 o.length=o.length /\
 (0:Nat)=(0:Nat) /\
 o.length+(winL syS 0 1 ([(true,i64.wrap (f+(i:Int)),(0:Int))]:List syS.D)).length<2 ^ 30 /\
 (24:Nat)<=2 ^ 10 /\
 R (hd Tryd.f96 0) { env:=[(1,.win true syS 18 0 (o.length+(winL syS 0 1 ([(true,i64.wrap (f+(i:Int)),(0:Int))]:List syS.D)).length)),(2,.ptr 2 0),(5,.int .i64 (i:Int)),(7,.int .i64 n),(8,.int .i64 (i64.wrap ((i:Int)+1))),(9,.bool (decide ((i:Int)<n))),(10,.int .i64 (i:Int)),(11,.dead),(12,.ptr 2 1),(13,.int .i64 f),(14,.int .i64 (i:Int)),(15,.int .i64 (i64.wrap (f+(i:Int)))),(16,.agg [.bool true,.int .i64 (i64.wrap (f+(i:Int))),.int .u8 0]),(17,.win true syS 17 0 (1:Nat)),(18,.win true syS 18 0 (o.length+(winL syS 0 1 ([(true,i64.wrap (f+(i:Int)),(0:Int))]:List syS.D)).length)),(19,.int .i64 (i64.wrap ((i:Int)+1)))],blk:=[(2,.var [.int .i64 k,.int .i64 f,.int .i64 n,.int .u8 b,.sl uB d]),(17,.row 51 syS ([(true,i64.wrap (f+(i:Int)),(0:Int))]:List syS.D)),(18,.row 51 syS (o++([(true,i64.wrap (f+(i:Int)),(0:Int))]:List syS.D)))] }) (Q [.win true syS 1099511627776 0 o.length] [(2,.var [.int .i64 k,.int .i64 f,.int .i64 n,.int .u8 b,.sl uB d]),(1099511627776,.row 51 syS o)])):=by kernel_rfl
theorem qnp (k f n b:Int) (d:List Int) (o:List SyT) (i:Nat) (Q:QT) (R:RT):sy tt G0 [] Tryd.f96.ntmps Tryd.f96.results.toList Q R 1000 (hd Tryd.f96 0) ⟨[(1,.win true syS 1 0 o.length),(2,.ptr 2 0),(7,.int .i64 n),(8,.int .i64 (i:Nat))],[(2,.var [.int .i64 k,.int .i64 f,.int .i64 n,.int .u8 b,.sl uB d]),(1,.row 51 syS o)]⟩ =
  (bc (decide ((i:Int)<n)) ((0:Nat)+1<=([(true,i64.wrap (f+(i:Int)),(0:Int))]:List syS.D).length /\
 o.length=o.length /\
 (0:Nat)=(0:Nat) /\
 o.length+(winL syS 0 1 ([(true,i64.wrap (f+(i:Int)),(0:Int))]:List syS.D)).length<2 ^ 30 /\
 (24:Nat)<=2 ^ 10 /\
 R (hd Tryd.f96 0) { env:=[(1,.win true syS 18 0 (o.length+(winL syS 0 1 ([(true,i64.wrap (f+(i:Int)),(0:Int))]:List syS.D)).length)),(2,.ptr 2 0),(5,.int .i64 (i:Int)),(7,.int .i64 n),(8,.int .i64 (i64.wrap ((i:Int)+1))),(9,.bool (decide ((i:Int)<n))),(10,.int .i64 (i:Int)),(11,.dead),(12,.ptr 2 1),(13,.int .i64 f),(14,.int .i64 (i:Int)),(15,.int .i64 (i64.wrap (f+(i:Int)))),(16,.agg [.bool true,.int .i64 (i64.wrap (f+(i:Int))),.int .u8 0]),(17,.win true syS 17 0 (1:Nat)),(18,.win true syS 18 0 (o.length+(winL syS 0 1 ([(true,i64.wrap (f+(i:Int)),(0:Int))]:List syS.D)).length)),(19,.int .i64 (i64.wrap ((i:Int)+1)))],blk:=[(2,.var [.int .i64 k,.int .i64 f,.int .i64 n,.int .u8 b,.sl uB d]),(17,.row 51 syS ([(true,i64.wrap (f+(i:Int)),(0:Int))]:List syS.D)),(18,.row 51 syS (o++([(true,i64.wrap (f+(i:Int)),(0:Int))]:List syS.D)))] }) (Q [.win true syS 1 0 o.length] [(2,.var [.int .i64 k,.int .i64 f,.int .i64 n,.int .u8 b,.sl uB d]),(1,.row 51 syS o)])):=by kernel_rfl
theorem qx0 (k f n b:Int) (d:List Int) (o:List SyT) (Q:QT) (R:RT):sy tt G0 [] Tryd.f100.ntmps Tryd.f100.results.toList Q R 1000 [.code (qae Tryd.f100)] (qbj [.dat opS,.row 51 syS] ((k,f,n,b,d),o,())) =
  (R (hd Tryd.f100 0) { env:=[(0,.agg [.int .i64 k,.int .i64 f,.int .i64 n,.int .u8 b,.sl uB d]),(1,.win true syS 1099511627776 0 o.length),(2,.ptr 2 0),(4,.nils),(7,.ptr 2 4),(8,.sl uB d),(9,.int .i64 (d.length:Int)),(10,.int .i64 0)],blk:=[(2,.var [.int .i64 k,.int .i64 f,.int .i64 n,.int .u8 b,.sl uB d]),(1099511627776,.row 51 syS o)] }):=by kernel_rfl
theorem qui (k f n b:Int) (d:List Int) (o:List SyT) (i:Nat) (Q:QT) (R:RT):sy tt G0 [] Tryd.f100.ntmps Tryd.f100.results.toList Q R 1000 (hd Tryd.f100 0) ⟨[(1,.win true syS 1099511627776 0 o.length),(2,.ptr 2 0),(8,.sl uB d),(9,.int .i64 d.length),(10,.int .i64 (i:Nat))],[(2,.var [.int .i64 k,.int .i64 f,.int .i64 n,.int .u8 b,.sl uB d]),(1099511627776,.row 51 syS o)]⟩ =
  (bc (decide ((i:Int)<(d.length:Int))) ((0:Int)<=(i:Int) /\
 (i:Int)<(d.length:Int) /\
 (0:Nat)+1<=([(true,i64.wrap (f+(i:Int)),gtB d (i:Int).toNat)]:List syS.D).length /\
 o.length=o.length /\
 (0:Nat)=(0:Nat) /\
 o.length+(winL syS 0 1 ([(true,i64.wrap (f+(i:Int)),gtB d (i:Int).toNat)]:List syS.D)).length<2 ^ 30 /\
 (24:Nat)<=2 ^ 10 /\
 R (hd Tryd.f100 0) { env:=[(1,.win true syS 23 0 (o.length+(winL syS 0 1 ([(true,i64.wrap (f+(i:Int)),gtB d (i:Int).toNat)]:List syS.D)).length)),(2,.ptr 2 0),(5,.int .i64 (i:Int)),(6,.int .u8 (gtB d (i:Int).toNat)),(8,.sl uB d),(9,.int .i64 (d.length:Int)),(10,.int .i64 (i64.wrap ((i:Int)+1))),(11,.bool (decide ((i:Int)<(d.length:Int)))),(12,.int .i64 (i:Int)),(13,.elv uB (gtB d (i:Int).toNat)),(14,.int .u8 (gtB d (i:Int).toNat)),(15,.dead),(16,.ptr 2 1),(17,.int .i64 f),(18,.int .i64 (i:Int)),(19,.int .i64 (i64.wrap (f+(i:Int)))),(20,.int .u8 (gtB d (i:Int).toNat)),(21,.agg [.bool true,.int .i64 (i64.wrap (f+(i:Int))),.int .u8 (gtB d (i:Int).toNat)]),(22,.win true syS 22 0 (1:Nat)),(23,.win true syS 23 0 (o.length+(winL syS 0 1 ([(true,i64.wrap (f+(i:Int)),gtB d (i:Int).toNat)]:List syS.D)).length)),(24,.int .i64 (i64.wrap ((i:Int)+1)))],blk:=[(2,.var [.int .i64 k,.int .i64 f,.int .i64 n,.int .u8 b,.sl uB d]),(22,.row 51 syS ([(true,i64.wrap (f+(i:Int)),gtB d (i:Int).toNat)]:List syS.D)),(23,.row 51 syS (o++([(true,i64.wrap (f+(i:Int)),gtB d (i:Int).toNat)]:List syS.D)))] }) (Q [.win true syS 1099511627776 0 o.length] [(2,.var [.int .i64 k,.int .i64 f,.int .i64 n,.int .u8 b,.sl uB d]),(1099511627776,.row 51 syS o)])):=by kernel_rfl
theorem qno (k f n b:Int) (d:List Int) (o:List SyT) (i:Nat) (Q:QT) (R:RT):sy tt G0 [] Tryd.f100.ntmps Tryd.f100.results.toList Q R 1000 (hd Tryd.f100 0) ⟨[(1,.win true syS 1 0 o.length),(2,.ptr 2 0),(8,.sl uB d),(9,.int .i64 d.length),(10,.int .i64 (i:Nat))],[(2,.var [.int .i64 k,.int .i64 f,.int .i64 n,.int .u8 b,.sl uB d]),(1,.row 51 syS o)]⟩ =
  (bc (decide ((i:Int)<(d.length:Int))) ((0:Int)<=(i:Int) /\
 (i:Int)<(d.length:Int) /\
 (0:Nat)+1<=([(true,i64.wrap (f+(i:Int)),gtB d (i:Int).toNat)]:List syS.D).length /\
 o.length=o.length /\
 (0:Nat)=(0:Nat) /\
 o.length+(winL syS 0 1 ([(true,i64.wrap (f+(i:Int)),gtB d (i:Int).toNat)]:List syS.D)).length<2 ^ 30 /\
 (24:Nat)<=2 ^ 10 /\
 R (hd Tryd.f100 0) { env:=[(1,.win true syS 23 0 (o.length+(winL syS 0 1 ([(true,i64.wrap (f+(i:Int)),gtB d (i:Int).toNat)]:List syS.D)).length)),(2,.ptr 2 0),(5,.int .i64 (i:Int)),(6,.int .u8 (gtB d (i:Int).toNat)),(8,.sl uB d),(9,.int .i64 (d.length:Int)),(10,.int .i64 (i64.wrap ((i:Int)+1))),(11,.bool (decide ((i:Int)<(d.length:Int)))),(12,.int .i64 (i:Int)),(13,.elv uB (gtB d (i:Int).toNat)),(14,.int .u8 (gtB d (i:Int).toNat)),(15,.dead),(16,.ptr 2 1),(17,.int .i64 f),(18,.int .i64 (i:Int)),(19,.int .i64 (i64.wrap (f+(i:Int)))),(20,.int .u8 (gtB d (i:Int).toNat)),(21,.agg [.bool true,.int .i64 (i64.wrap (f+(i:Int))),.int .u8 (gtB d (i:Int).toNat)]),(22,.win true syS 22 0 (1:Nat)),(23,.win true syS 23 0 (o.length+(winL syS 0 1 ([(true,i64.wrap (f+(i:Int)),gtB d (i:Int).toNat)]:List syS.D)).length)),(24,.int .i64 (i64.wrap ((i:Int)+1)))],blk:=[(2,.var [.int .i64 k,.int .i64 f,.int .i64 n,.int .u8 b,.sl uB d]),(22,.row 51 syS ([(true,i64.wrap (f+(i:Int)),gtB d (i:Int).toNat)]:List syS.D)),(23,.row 51 syS (o++([(true,i64.wrap (f+(i:Int)),gtB d (i:Int).toNat)]:List syS.D)))] }) (Q [.win true syS 1 0 o.length] [(2,.var [.int .i64 k,.int .i64 f,.int .i64 n,.int .u8 b,.sl uB d]),(1,.row 51 syS o)])):=by kernel_rfl
theorem q26 (k f n b:Int) (d:List Int) (o:List SyT) (Q:QT) (R:RT):sy tt G0 [] Tryd.f103.ntmps Tryd.f103.results.toList Q R 1000 [.code (qae Tryd.f103)] (qbj [.dat opS,.row 51 syS] ((k,f,n,b,d),o,())) =
  (R (hd Tryd.f103 0) { env:=[(0,.agg [.int .i64 k,.int .i64 f,.int .i64 n,.int .u8 b,.sl uB d]),(1,.win true syS 1099511627776 0 o.length),(2,.ptr 2 0),(4,.nils),(5,.ptr 2 2),(6,.int .i64 n),(7,.int .i64 0)],blk:=[(2,.var [.int .i64 k,.int .i64 f,.int .i64 n,.int .u8 b,.sl uB d]),(1099511627776,.row 51 syS o)] }):=by kernel_rfl
theorem qxs (k f n b:Int) (d:List Int) (o:List SyT) (i:Nat) (Q:QT) (R:RT):sy tt G0 [] Tryd.f103.ntmps Tryd.f103.results.toList Q R 1000 (hd Tryd.f103 0) ⟨[(1,.win true syS 1099511627776 0 o.length),(2,.ptr 2 0),(6,.int .i64 n),(7,.int .i64 (i:Nat))],[(2,.var [.int .i64 k,.int .i64 f,.int .i64 n,.int .u8 b,.sl uB d]),(1099511627776,.row 51 syS o)]⟩ =
  (bc (decide ((i:Int)<n)) ((0:Nat)+1<=([(false,(0:Int),b)]:List syS.D).length /\
 o.length=o.length /\
 (0:Nat)=(0:Nat) /\
 o.length+(winL syS 0 1 ([(false,(0:Int),b)]:List syS.D)).length<2 ^ 30 /\
 (24:Nat)<=2 ^ 10 /\
 R (hd Tryd.f103 0) { env:=[(1,.win true syS 14 0 (o.length+(winL syS 0 1 ([(false,(0:Int),b)]:List syS.D)).length)),(2,.ptr 2 0),(6,.int .i64 n),(7,.int .i64 (i64.wrap ((i:Int)+1))),(8,.bool (decide ((i:Int)<n))),(9,.dead),(10,.ptr 2 3),(11,.int .u8 b),(12,.agg [.bool false,.int .i64 0,.int .u8 b]),(13,.win true syS 13 0 (1:Nat)),(14,.win true syS 14 0 (o.length+(winL syS 0 1 ([(false,(0:Int),b)]:List syS.D)).length)),(15,.int .i64 (i64.wrap ((i:Int)+1)))],blk:=[(2,.var [.int .i64 k,.int .i64 f,.int .i64 n,.int .u8 b,.sl uB d]),(13,.row 51 syS ([(false,(0:Int),b)]:List syS.D)),(14,.row 51 syS (o++([(false,(0:Int),b)]:List syS.D)))] }) (Q [.win true syS 1099511627776 0 o.length] [(2,.var [.int .i64 k,.int .i64 f,.int .i64 n,.int .u8 b,.sl uB d]),(1099511627776,.row 51 syS o)])):=by kernel_rfl
theorem qqm (k f n b:Int) (d:List Int) (o:List SyT) (i:Nat) (Q:QT) (R:RT):sy tt G0 [] Tryd.f103.ntmps Tryd.f103.results.toList Q R 1000 (hd Tryd.f103 0) ⟨[(1,.win true syS 1 0 o.length),(2,.ptr 2 0),(6,.int .i64 n),(7,.int .i64 (i:Nat))],[(2,.var [.int .i64 k,.int .i64 f,.int .i64 n,.int .u8 b,.sl uB d]),(1,.row 51 syS o)]⟩ =
  (bc (decide ((i:Int)<n)) ((0:Nat)+1<=([(false,(0:Int),b)]:List syS.D).length /\
 o.length=o.length /\
 (0:Nat)=(0:Nat) /\
 o.length+(winL syS 0 1 ([(false,(0:Int),b)]:List syS.D)).length<2 ^ 30 /\
 (24:Nat)<=2 ^ 10 /\
 R (hd Tryd.f103 0) { env:=[(1,.win true syS 14 0 (o.length+(winL syS 0 1 ([(false,(0:Int),b)]:List syS.D)).length)),(2,.ptr 2 0),(6,.int .i64 n),(7,.int .i64 (i64.wrap ((i:Int)+1))),(8,.bool (decide ((i:Int)<n))),(9,.dead),(10,.ptr 2 3),(11,.int .u8 b),(12,.agg [.bool false,.int .i64 0,.int .u8 b]),(13,.win true syS 13 0 (1:Nat)),(14,.win true syS 14 0 (o.length+(winL syS 0 1 ([(false,(0:Int),b)]:List syS.D)).length)),(15,.int .i64 (i64.wrap ((i:Int)+1)))],blk:=[(2,.var [.int .i64 k,.int .i64 f,.int .i64 n,.int .u8 b,.sl uB d]),(13,.row 51 syS ([(false,(0:Int),b)]:List syS.D)),(14,.row 51 syS (o++([(false,(0:Int),b)]:List syS.D)))] }) (Q [.win true syS 1 0 o.length] [(2,.var [.int .i64 k,.int .i64 f,.int .i64 n,.int .u8 b,.sl uB d]),(1,.row 51 syS o)])):=by kernel_rfl
theorem q3t (k f n b:Int) (d:List Int) (o:List SyT) (Q:QT) (R:RT):sy tt G0 [] Tryd.f106.ntmps Tryd.f106.results.toList Q R 1000 [.code (qae Tryd.f106)] (qbj [.dat opS,.row 51 syS] ((k,f,n,b,d),o,())) =
  (R (hd Tryd.f106 0) { env:=[(0,.agg [.int .i64 k,.int .i64 f,.int .i64 n,.int .u8 b,.sl uB d]),(1,.win true syS 1099511627776 0 o.length),(2,.ptr 2 0),(4,.nils),(7,.ptr 2 4),(8,.sl uB d),(9,.int .i64 (d.length:Int)),(10,.int .i64 0)],blk:=[(2,.var [.int .i64 k,.int .i64 f,.int .i64 n,.int .u8 b,.sl uB d]),(1099511627776,.row 51 syS o)] }):=by kernel_rfl
theorem qxx (k f n b:Int) (d:List Int) (o:List SyT) (i:Nat) (Q:QT) (R:RT):sy tt G0 [] Tryd.f106.ntmps Tryd.f106.results.toList Q R 1000 (hd Tryd.f106 0) ⟨[(1,.win true syS 1099511627776 0 o.length),(2,.ptr 2 0),(8,.sl uB d),(9,.int .i64 d.length),(10,.int .i64 (i:Nat))],[(2,.var [.int .i64 k,.int .i64 f,.int .i64 n,.int .u8 b,.sl uB d]),(1099511627776,.row 51 syS o)]⟩ =
  (bc (decide ((i:Int)<(d.length:Int))) ((0:Int)<=(i:Int) /\
 (i:Int)<(d.length:Int) /\
 (0:Nat)+1<=([(false,(0:Int),gtB d (i:Int).toNat)]:List syS.D).length /\
 o.length=o.length /\
 (0:Nat)=(0:Nat) /\
 o.length+(winL syS 0 1 ([(false,(0:Int),gtB d (i:Int).toNat)]:List syS.D)).length<2 ^ 30 /\
 (24:Nat)<=2 ^ 10 /\
 R (hd Tryd.f106 0) { env:=[(1,.win true syS 18 0 (o.length+(winL syS 0 1 ([(false,(0:Int),gtB d (i:Int).toNat)]:List syS.D)).length)),(2,.ptr 2 0),(6,.int .u8 (gtB d (i:Int).toNat)),(8,.sl uB d),(9,.int .i64 (d.length:Int)),(10,.int .i64 (i64.wrap ((i:Int)+1))),(11,.bool (decide ((i:Int)<(d.length:Int)))),(12,.elv uB (gtB d (i:Int).toNat)),(13,.int .u8 (gtB d (i:Int).toNat)),(14,.dead),(15,.int .u8 (gtB d (i:Int).toNat)),(16,.agg [.bool false,.int .i64 0,.int .u8 (gtB d (i:Int).toNat)]),(17,.win true syS 17 0 (1:Nat)),(18,.win true syS 18 0 (o.length+(winL syS 0 1 ([(false,(0:Int),gtB d (i:Int).toNat)]:List syS.D)).length)),(19,.int .i64 (i64.wrap ((i:Int)+1)))],blk:=[(2,.var [.int .i64 k,.int .i64 f,.int .i64 n,.int .u8 b,.sl uB d]),(17,.row 51 syS ([(false,(0:Int),gtB d (i:Int).toNat)]:List syS.D)),(18,.row 51 syS (o++([(false,(0:Int),gtB d (i:Int).toNat)]:List syS.D)))] }) (Q [.win true syS 1099511627776 0 o.length] [(2,.var [.int .i64 k,.int .i64 f,.int .i64 n,.int .u8 b,.sl uB d]),(1099511627776,.row 51 syS o)])):=by kernel_rfl
theorem qqo (k f n b:Int) (d:List Int) (o:List SyT) (i:Nat) (Q:QT) (R:RT):sy tt G0 [] Tryd.f106.ntmps Tryd.f106.results.toList Q R 1000 (hd Tryd.f106 0) ⟨[(1,.win true syS 1 0 o.length),(2,.ptr 2 0),(8,.sl uB d),(9,.int .i64 d.length),(10,.int .i64 (i:Nat))],[(2,.var [.int .i64 k,.int .i64 f,.int .i64 n,.int .u8 b,.sl uB d]),(1,.row 51 syS o)]⟩ =
  (bc (decide ((i:Int)<(d.length:Int))) ((0:Int)<=(i:Int) /\
 (i:Int)<(d.length:Int) /\
 (0:Nat)+1<=([(false,(0:Int),gtB d (i:Int).toNat)]:List syS.D).length /\
 o.length=o.length /\
 (0:Nat)=(0:Nat) /\
 o.length+(winL syS 0 1 ([(false,(0:Int),gtB d (i:Int).toNat)]:List syS.D)).length<2 ^ 30 /\
 (24:Nat)<=2 ^ 10 /\
 R (hd Tryd.f106 0) { env:=[(1,.win true syS 18 0 (o.length+(winL syS 0 1 ([(false,(0:Int),gtB d (i:Int).toNat)]:List syS.D)).length)),(2,.ptr 2 0),(6,.int .u8 (gtB d (i:Int).toNat)),(8,.sl uB d),(9,.int .i64 (d.length:Int)),(10,.int .i64 (i64.wrap ((i:Int)+1))),(11,.bool (decide ((i:Int)<(d.length:Int)))),(12,.elv uB (gtB d (i:Int).toNat)),(13,.int .u8 (gtB d (i:Int).toNat)),(14,.dead),(15,.int .u8 (gtB d (i:Int).toNat)),(16,.agg [.bool false,.int .i64 0,.int .u8 (gtB d (i:Int).toNat)]),(17,.win true syS 17 0 (1:Nat)),(18,.win true syS 18 0 (o.length+(winL syS 0 1 ([(false,(0:Int),gtB d (i:Int).toNat)]:List syS.D)).length)),(19,.int .i64 (i64.wrap ((i:Int)+1)))],blk:=[(2,.var [.int .i64 k,.int .i64 f,.int .i64 n,.int .u8 b,.sl uB d]),(17,.row 51 syS ([(false,(0:Int),gtB d (i:Int).toNat)]:List syS.D)),(18,.row 51 syS (o++([(false,(0:Int),gtB d (i:Int).toNat)]:List syS.D)))] }) (Q [.win true syS 1 0 o.length] [(2,.var [.int .i64 k,.int .i64 f,.int .i64 n,.int .u8 b,.sl uB d]),(1,.row 51 syS o)])):=by kernel_rfl
end Go.Proofs.YtnmkfdgnenkhpaaDoor
