/-
  A part of the proof: what pieces of the program give; conditions: those of each theorem.
-/
import Derived.Test.YtdeacfammdjajaaDoorHD
import Derived.Test.YtdeacfammdjajaaDoorProg
set_option linter.unusedVariables false
set_option linter.unusedSimpArgs false
namespace Go.Proofs.YtdeacfammdjajaaDoor
open Go.Px Go.Ax
abbrev _root_.Go.Px.SV.i (n:Int):SV:=.int .i64 n
abbrev _root_.Go.Px.SV.u (n:Int):SV:=.int .u8 n
theorem _root_.Go.Px.CxOK.k {P : Program} {tt : TT} {G : GV} {C : CV} (hx : CxOK P tt G C) {f : FuncId} {fn : Func} {ct : Ctr} (hh : Held P G f ct) (hf : P.funcs[f]? = some fn := by rfl) (hn : (fn.name == "runtime.NumGoroutine") = false := by rfl) (hb : fn.body.isSome = true := by rfl) : CxOK P tt G ((f, .inl ct) :: C) := hx.cons hh hf hn hb
abbrev QT:Type:=List SV->List (Nat × LB)->Prop
abbrev RT:Type:=List Item->PS->Prop
def tyL:List (Nat × (Nat × Nat × Bool × TK × Sh × Option IntKind)):=[
 (1,(1,8,false,.other,.unit,none)),
 (2,(1,8,false,(.int .i64),(.int .i64),none)),
 (3,(1,8,false,(.int .i64),(.int .i64),none)),
 (4,(1,1,false,.bool,.bool,none)),
 (5,(1,1,false,(.int .u8),(.int .u8),none)),
 (6,(1,1,false,(.int .u8),(.int .u8),none)),
 (7,(4,24,true,(.struct [(0,2),(1,3),(2,4),(3,6)]),(.pair (.int .i64) (.pair (.int .i64) (.pair .bool (.int .u8)))),(some .i8))),
 (8,(4,24,true,(.struct [(0,2),(1,3),(2,4),(3,6)]),(.pair (.int .i64) (.pair (.int .i64) (.pair .bool (.int .u8)))),(some .i8))),
 (9,(1,16,false,.str,.str,none)),
 (10,(1,16,false,.str,.str,none)),
 (11,(1,16,false,.str,.str,none)),
 (12,(1,8,false,(.int .u64),(.int .u64),none)),
 (13,(2,24,true,(.struct [(0,9),(1,12)]),(.pair .str (.int .u64)),none)),
 (14,(2,24,true,(.struct [(0,9),(1,12)]),(.pair .str (.int .u64)),none)),
 (21,(1,4,false,(.int .i32),(.int .i32),none)),
 (22,(1,24,false,(.slice 45),(.sl (.pair (.int .u8) (.sl (.arr 4 (.int .u8))))),none)),
 (23,(1,24,false,(.slice 63),(.sl (.pair (.int .u8) (.pair (.int .u8) (.pair (.int .u8) .bool)))),none)),
 (24,(1,1,false,(.int .i8),(.int .i8),none)),
 (25,(2,2,true,(.array 2 24),(.arr 2 (.int .i8)),(some .i8))),
 (26,(1,8,false,.other,.unit,none)),
 (27,(1,24,false,(.slice 31),(.sl (.pair .bool (.pair (.int .i64) (.pair (.int .i64) (.sl (.pair (.int .i64) (.pair (.int .i64) (.pair (.int .i64) (.pair (.int .u8) (.sl (.int .u8))))))))))),none)),
 (28,(1,8,false,.other,.unit,none)),
 (29,(1,24,false,(.slice 55),(.sl (.pair (.int .i64) (.pair (.int .i64) (.pair (.int .i64) (.pair (.int .u8) (.sl (.int .u8))))))),none)),
 (30,(4,48,true,(.struct [(0,4),(1,3),(2,3),(3,29)]),(.pair .bool (.pair (.int .i64) (.pair (.int .i64) (.sl (.pair (.int .i64) (.pair (.int .i64) (.pair (.int .i64) (.pair (.int .u8) (.sl (.int .u8)))))))))),none)),
 (31,(4,48,true,(.struct [(0,4),(1,3),(2,3),(3,29)]),(.pair .bool (.pair (.int .i64) (.pair (.int .i64) (.sl (.pair (.int .i64) (.pair (.int .i64) (.pair (.int .i64) (.pair (.int .u8) (.sl (.int .u8)))))))))),none)),
 (32,(1,24,false,(.slice 59),(.sl (.pair .str (.pair (.int .i64) (.pair (.int .i64) .bool)))),none)),
 (33,(1,8,false,.other,.unit,none)),
 (34,(1,8,false,(.int .i64),(.int .i64),none)),
 (36,(1,8,false,.other,.unit,none)),
 (37,(1,8,false,.other,.unit,none)),
 (39,(1,8,false,.other,.unit,none)),
 (40,(1,8,false,.other,.unit,none)),
 (41,(1,8,false,.other,.unit,none)),
 (42,(1,8,false,.other,.unit,none)),
 (43,(1,24,false,(.slice 88),(.sl (.arr 4 (.int .u8))),none)),
 (44,(2,32,true,(.struct [(0,5),(1,43)]),(.pair (.int .u8) (.sl (.arr 4 (.int .u8)))),none)),
 (45,(2,32,true,(.struct [(0,5),(1,43)]),(.pair (.int .u8) (.sl (.arr 4 (.int .u8)))),none)),
 (46,(4,64,true,(.array 2 45),(.arr 2 (.pair (.int .u8) (.sl (.arr 4 (.int .u8))))),none)),
 (47,(1,8,false,.other,.unit,none)),
 (48,(1,8,false,.other,.unit,none)),
 (49,(1,8,false,.other,.unit,none)),
 (50,(6,96,true,(.array 3 45),(.arr 3 (.pair (.int .u8) (.sl (.arr 4 (.int .u8))))),none)),
 (51,(3,3,true,(.array 3 4),(.arr 3 .bool),none)),
 (52,(1,2,false,(.int .i16),(.int .i16),none)),
 (53,(1,24,false,(.slice 5),(.sl (.int .u8)),none)),
 (54,(5,56,true,(.struct [(0,3),(1,3),(2,3),(3,5),(4,53)]),(.pair (.int .i64) (.pair (.int .i64) (.pair (.int .i64) (.pair (.int .u8) (.sl (.int .u8)))))),none)),
 (55,(5,56,true,(.struct [(0,3),(1,3),(2,3),(3,5),(4,53)]),(.pair (.int .i64) (.pair (.int .i64) (.pair (.int .i64) (.pair (.int .u8) (.sl (.int .u8)))))),none)),
 (56,(1,8,false,.other,.unit,none)),
 (57,(1,8,false,.other,.unit,none)),
 (58,(4,40,true,(.struct [(0,9),(1,3),(2,3),(3,4)]),(.pair .str (.pair (.int .i64) (.pair (.int .i64) .bool))),none)),
 (59,(4,40,true,(.struct [(0,9),(1,3),(2,3),(3,4)]),(.pair .str (.pair (.int .i64) (.pair (.int .i64) .bool))),none)),
 (60,(1,8,false,.other,.unit,none)),
 (61,(1,24,false,(.slice 9),(.sl .str),none)),
 (62,(4,4,true,(.struct [(0,5),(1,5),(2,5),(3,4)]),(.pair (.int .u8) (.pair (.int .u8) (.pair (.int .u8) .bool))),(some .i8))),
 (63,(4,4,true,(.struct [(0,5),(1,5),(2,5),(3,4)]),(.pair (.int .u8) (.pair (.int .u8) (.pair (.int .u8) .bool))),(some .i8))),
 (64,(1,24,false,(.slice 82),(.sl (.pair .bool (.pair (.int .i64) (.int .u8)))),none)),
 (66,(1,8,false,.other,.unit,none)),
 (67,(1,8,false,.other,.unit,none)),
 (68,(1,8,false,.other,.unit,none)),
 (69,(1,8,false,.other,.unit,none)),
 (70,(1,8,false,.other,.unit,none)),
 (71,(1,8,false,.other,.unit,none)),
 (72,(1,8,false,.other,.unit,none)),
 (73,(1,8,false,.other,.unit,none)),
 (74,(1,8,false,.other,.unit,none)),
 (75,(1,8,false,.other,.unit,none)),
 (76,(1,24,false,(.slice 78),(.sl (.pair (.int .i64) (.int .i64))),none)),
 (77,(2,16,true,(.struct [(0,3),(1,3)]),(.pair (.int .i64) (.int .i64)),(some .i64))),
 (78,(2,16,true,(.struct [(0,3),(1,3)]),(.pair (.int .i64) (.int .i64)),(some .i64))),
 (79,(1,8,false,.other,.unit,none)),
 (80,(1,8,false,.other,.unit,none)),
 (81,(3,24,true,(.struct [(0,4),(1,3),(2,5)]),(.pair .bool (.pair (.int .i64) (.int .u8))),(some .i8))),
 (82,(3,24,true,(.struct [(0,4),(1,3),(2,5)]),(.pair .bool (.pair (.int .i64) (.int .u8))),(some .i8))),
 (83,(1,8,false,.other,.unit,none)),
 (84,(1,8,false,.other,.unit,none)),
 (85,(1,8,false,.other,.unit,none)),
 (86,(1,8,false,.other,.unit,none)),
 (87,(1,8,false,.other,.unit,none)),
 (88,(4,4,true,(.array 4 5),(.arr 4 (.int .u8)),(some .u8))),
 (89,(1,8,false,.other,.unit,none)),
 (90,(1,8,false,.other,.unit,none)),
 (91,(1,8,false,.other,.unit,none)),
 (92,(1,8,false,.other,.unit,none)),
 (93,(1,8,false,.other,.unit,none)),
 (95,(1,8,false,.other,.unit,none)),
 (96,(1,8,false,.other,.unit,none)),
 (97,(1,8,false,.other,.unit,none)),
 (98,(1,8,false,.other,.unit,none)),
 (99,(1,8,false,.other,.unit,none)),
 (100,(1,8,false,.other,.unit,none)),
 (103,(1,8,false,.other,.unit,none)),
 (104,(1,8,false,.other,.unit,none)),
 (105,(1,8,false,.other,.unit,none)),
 (106,(1,8,false,.other,.unit,none)),
 (107,(1,8,false,.other,.unit,none)),
 (108,(1,8,false,.other,.unit,none)),
 (109,(1,8,false,.other,.unit,none)),
 (110,(1,8,false,.other,.unit,none)),
 (111,(1,24,false,(.slice 114),(.sl (.pair (.int .i64) (.pair (.int .i64) (.pair (.int .i64) (.int .i64))))),none)),
 (112,(1,8,false,.other,.unit,none)),
 (113,(4,32,true,(.struct [(0,3),(1,3),(2,3),(3,3)]),(.pair (.int .i64) (.pair (.int .i64) (.pair (.int .i64) (.int .i64)))),(some .i64))),
 (114,(4,32,true,(.struct [(0,3),(1,3),(2,3),(3,3)]),(.pair (.int .i64) (.pair (.int .i64) (.pair (.int .i64) (.int .i64)))),(some .i64))),
 (115,(1,8,false,.other,.unit,none)),
 (116,(1,8,false,.other,.unit,none)),
 (117,(5,56,true,(.struct [(0,3),(1,3),(2,3),(3,5),(4,53)]),(.pair (.int .i64) (.pair (.int .i64) (.pair (.int .i64) (.pair (.int .u8) (.sl (.int .u8)))))),none)),
 (118,(5,56,true,(.struct [(0,3),(1,3),(2,3),(3,5),(4,53)]),(.pair (.int .i64) (.pair (.int .i64) (.pair (.int .i64) (.pair (.int .u8) (.sl (.int .u8)))))),none)),
 (119,(5,56,true,(.struct [(0,3),(1,3),(2,3),(3,5),(4,53)]),(.pair (.int .i64) (.pair (.int .i64) (.pair (.int .i64) (.pair (.int .u8) (.sl (.int .u8)))))),none)),
 (120,(5,56,true,(.struct [(0,3),(1,3),(2,3),(3,5),(4,53)]),(.pair (.int .i64) (.pair (.int .i64) (.pair (.int .i64) (.pair (.int .u8) (.sl (.int .u8)))))),none)),
 (121,(0,0,true,(.struct []),.unit,none)),
 (122,(0,0,true,(.struct []),.unit,none)),
 (123,(1,8,false,.other,.unit,none)),
 (124,(1,8,false,.other,.unit,none)),
 (125,(1,24,false,(.slice 130),(.sl (.pair (.int .i64) (.pair (.int .i64) (.pair (.int .i64) (.int .i64))))),none)),
 (126,(1,8,false,.other,.unit,none)),
 (127,(2,16,true,(.struct [(0,3),(1,3)]),(.pair (.int .i64) (.int .i64)),(some .i64))),
 (128,(2,16,true,(.struct [(0,3),(1,3)]),(.pair (.int .i64) (.int .i64)),(some .i64))),
 (129,(4,32,true,(.struct [(0,3),(1,3),(2,128)]),(.pair (.int .i64) (.pair (.int .i64) (.pair (.int .i64) (.int .i64)))),none)),
 (130,(4,32,true,(.struct [(0,3),(1,3),(2,128)]),(.pair (.int .i64) (.pair (.int .i64) (.pair (.int .i64) (.int .i64)))),none)),
 (131,(1,8,false,.other,.unit,none)),
 (132,(1,8,false,.other,.unit,none)),
 (133,(20,160,true,(.array 5 130),(.arr 5 (.pair (.int .i64) (.pair (.int .i64) (.pair (.int .i64) (.int .i64))))),none)),
 (134,(1,8,false,.other,.unit,none)),
 (135,(1,8,false,.other,.unit,none)),
 (136,(1,8,false,.other,.unit,none)),
 (137,(2,16,true,(.struct [(0,3),(1,3)]),(.pair (.int .i64) (.int .i64)),(some .i64))),
 (138,(10,80,true,(.array 5 137),(.arr 5 (.pair (.int .i64) (.int .i64))),none)),
 (139,(1,8,false,.other,.unit,none)),
 (140,(1,8,false,.other,.unit,none)),
 (141,(1,24,false,(.slice 3),(.sl (.int .i64)),none)),
 (142,(1,8,false,.other,.unit,none)),
 (148,(1,8,false,.other,.unit,none)),
 (149,(1,4,false,(.int .u32),(.int .u32),none)),
 (150,(1,1,false,(.int .u8),(.int .u8),none)),
 (151,(1,1,false,(.int .u8),(.int .u8),none)),
 (152,(1,8,false,.other,.unit,none)),
 (154,(1,4,false,(.int .i32),(.int .i32),none)),
 (155,(1,4,false,(.int .i32),(.int .i32),none))]
abbrev tt:TT:=ttOf tyL
set_option maxRecDepth 100000 in
theorem tyOK:ttB Tryd.prog tyL=true:=by decide +kernel
theorem ty:TTOK Tryd.prog tt:=q36 tyOK
theorem mixed:Tryd.prog.follows .mixedOrders=true:=by decide +kernel
def mtb:List (Nat × (String × Nat)):=[
 (117, ("inlay/patch.isRight", 101)), (117, ("inlay/patch.cost", 100)), (117, ("inlay/patch.appendSymbols", 99)),
 (118, ("inlay/patch.isRight", 105)), (118, ("inlay/patch.cost", 104)), (118, ("inlay/patch.appendSymbols", 103)),
 (119, ("inlay/patch.isRight", 108)), (119, ("inlay/patch.cost", 107)), (119, ("inlay/patch.appendSymbols", 106)),
 (120, ("inlay/patch.isRight", 111)), (120, ("inlay/patch.cost", 110)), (120, ("inlay/patch.appendSymbols", 109)),
 (122, ("inlay/patch.isRight", 114)), (122, ("inlay/patch.cost", 113)), (122, ("inlay/patch.appendSymbols", 112))]
set_option maxRecDepth 100000 in
theorem zbz:(mtb.all λ p=>decide (qud Tryd.prog p.1 p.2.1=some p.2.2))=true:=by decide +kernel
abbrev coS:Sh:=.pair (.int .i64) (.int .i64)
def costsL:List coS.D:=[((0:Int),(0:Int)),((4:Int),(0:Int)),((4:Int),(1:Int)),((4:Int),(0:Int)),((2:Int),(1:Int))]
def qh6:List Value:=costsL.flatMap λ k=>[.int .i64 k.1,.int .i64 k.2]
def rawG:T ABlk:=.node .nil .nil (some (.cells qh6 138 2))
def G0:GV:=⟨[(0,⟨.arr 5 coS,costsL⟩)],rawG,mtb⟩
theorem cx0:CxOK Tryd.prog tt G0 []:=CxOK.nil ty mixed λ t nm f h=>by
 have:=List.all_eq_true.1 zbz _ h;simpa using this
abbrev iI:Sh:=.int .i64
abbrev uB:Sh:=.int .u8
abbrev opS:Sh:=.pair iI (.pair iI (.pair iI (.pair uB (.sl uB))))
abbrev syS:Sh:=.pair .bool (.pair iI uB)
abbrev paS:Sh:=.pair .bool (.pair iI (.pair iI (.sl opS)))
abbrev OpT:Type:=Int × Int × Int × Int × List Int
abbrev SyT:Type:=Bool × Int × Int
abbrev PaT:Type:=Bool × Int × Int × List OpT
abbrev gtO (l:List OpT) (i:Nat):OpT:=gt opS l i
abbrev oI (o:OpT):List SV:=[.i o.1,.i o.2.1,.i o.2.2.1,.u o.2.2.2.1,.sl uB o.2.2.2.2]
abbrev gtY (l:List SyT) (i:Nat):SyT:=gt syS l i
abbrev yI (y:SyT):List SV:=[.bool y.1,.i y.2.1,.u y.2.2]
abbrev gtB (l:List Int) (i:Nat):Int:=gt uB l i
def ifO (t:Nat) (x:OpT):SV:=.ifc t true [.i x.1,.i x.2.1,.i x.2.2.1,.u x.2.2.2.1,.sl uB x.2.2.2.2]
open Go.IntKind(i64 u32 u8)
set_option maxRecDepth 100000
abbrev sA (C:CV) (f:Func) (Q:QT) (R:RT) (l:List Item) (S:PS):Prop:=sy tt G0 C f.ntmps f.results.toList Q R 1000 l S
theorem qvn (n:Int) (Q:QT) (R:RT):sA [] Tryd.f61 Q R [.code (qad Tryd.f61)] (entry [iI] (n,())) =
  (bc (decide ((0:Int)<=n)) (Q [.bool (bif true then decide (n<=65536) else false)] []) (false=false/\Q [.bool false] [])):=by kernel_rfl
theorem qvo (f n m:Int) (Q:QT) (R:RT):sA [] Tryd.f102 Q R [.code (qad Tryd.f102)] (entry [iI,iI,iI] (f,n,m,())) =
  (bc (decide ((0:Int)<=f)) (Q [.bool (bif true then decide (f<=i64.wrap (m-n)) else false)] []) (false=false/\Q [.bool false] [])):=by kernel_rfl
theorem qj6 (k f n b:Int) (d:List Int) (Q:QT) (R:RT):sA [] Tryd.f55 Q R [.code (qad Tryd.f55)] (entry [opS] ((k,f,n,b,d),())) =
  (bc (decide (k=(1:Int))) (Q [.ifc (117:Nat) true [.i k,.i f,.i n,.u b,.sl (Sh.int u8) d]] [(1,.var [.i k,.i f,.i n,.u b,.sl (Sh.int u8) d])]) (bc (decide (k=(2:Int))) (Q [.ifc (118:Nat) true [.i k,.i f,.i n,.u b,.sl (Sh.int u8) d]] [(1,.var [.i k,.i f,.i n,.u b,.sl (Sh.int u8) d])]) (bc (decide (k=(3:Int))) (Q [.ifc (119:Nat) true [.i k,.i f,.i n,.u b,.sl (Sh.int u8) d]] [(1,.var [.i k,.i f,.i n,.u b,.sl (Sh.int u8) d])]) (bc (decide (k=(4:Int))) (Q [.ifc (120:Nat) true [.i k,.i f,.i n,.u b,.sl (Sh.int u8) d]] [(1,.var [.i k,.i f,.i n,.u b,.sl (Sh.int u8) d])]) (Q [.ifc (122:Nat) true []] [(1,.var [.i k,.i f,.i n,.u b,.sl (Sh.int u8) d])]))))):=by kernel_rfl
theorem q5d (k f n b m:Int) (d:List Int) (Q:QT) (R:RT):sA [] Tryd.f108 Q R [.code (qad Tryd.f108)] (qb1 [.dat opS,.dat iI] ((k,f,n,b,d),m,())) =
  (bc (decide (f=(0:Int))) (Q [.bool (bif true then decide ((d.length:Int)=(0:Int)) else false)] [(2,.var [.i k,.i f,.i n,.u b,.sl (Sh.int u8) d])]) (false=false/\Q [.bool false] [(2,.var [.i k,.i f,.i n,.u b,.sl (Sh.int u8) d])])):=by kernel_rfl
theorem q5p (k f n b m:Int) (d:List Int) (Q:QT) (R:RT):sA [] Tryd.f111 Q R [.code (qad Tryd.f111)] (qb1 [.dat opS,.dat iI] ((k,f,n,b,d),m,())) =
  (bc (decide (f=(0:Int))) (bc (bif true then decide (b=(0:Int)) else false) (Q [.bool (bif true then decide ((d.length:Int)=n) else false)] [(2,.var [.i k,.i f,.i n,.u b,.sl (Sh.int u8) d])]) (false=false/\Q [.bool false] [(2,.var [.i k,.i f,.i n,.u b,.sl (Sh.int u8) d])])) (false=false/\false=false/\Q [.bool false] [(2,.var [.i k,.i f,.i n,.u b,.sl (Sh.int u8) d])])):=by kernel_rfl
theorem zaf (m:Int) (Q:QT) (R:RT):sA [] Tryd.f114 Q R [.code (qad Tryd.f114)] (qb1 [.dat .unit,.dat iI] ((),m,())) =
  (Q [.bool false] [(2,.var [])]):=by kernel_rfl
theorem qvl (o:Bool) (a b:Int) (Q:QT) (R:RT):sA [] Tryd.f75 Q R [.code (qad Tryd.f75)] (entry [syS] ((o,a,b),())) =
  (bc (!o) (Q [.i 4] [(1,.var [.bool o,.i a,.u b])]) (bc (decide (b≠0)) (Q [.i 2] [(1,.var [.bool o,.i a,.u b])]) (Q [.i 1] [(1,.var [.bool o,.i a,.u b])]))):=by kernel_rfl
theorem QI.flat {ct:CtrI} {x:DI ct.args} {rs:List SV} {blk:List (Nat × LB)} (h:ct.out x=rs) (hs:qgo rs=true) (hb:ct.blk x=[]):QI ct x rs blk:=
 .self h hs (by rw[hb];rfl) (by rw[hb];simp)
def ctSize:Ctr:=⟨[iI],λ _=>True,λ x=>[.bool (decide (0<=x.1)&&decide (x.1<=65536))],λ _=>[]⟩
theorem qwj:Held Tryd.prog G0 61 ctSize:=by
 refine Held.run cx0 (fn:=Tryd.f61) rfl rfl ⟨by decide,by decide⟩ ?_;rintro ⟨n,⟨⟩⟩ _;refine (qvn n _ _).mpr (qaf (λ h=>?_) (λ h=>⟨rfl,?_⟩))
 ·exact QC.flat (by simp only[ctSize,h];rfl) rfl rfl
 ·exact QC.flat (by simp only[ctSize,h];rfl) rfl rfl
def qbd (f n m:Int):Bool:=decide (0<=f)&&decide (f<=IntKind.i64.wrap (m-n))
def ctPart:Ctr:=⟨[iI,iI,iI],λ _=>True,λ x=>[.bool (qbd x.1 x.2.1 x.2.2.1)],λ _=>[]⟩
theorem qxd:Held Tryd.prog G0 102 ctPart:=by
 refine Held.run cx0 (fn:=Tryd.f102) rfl rfl ⟨by decide,by decide⟩ ?_;rintro ⟨f,n,m,⟨⟩⟩ _;refine (qvo f n m _ _).mpr (qaf (λ h=>?_) (λ h=>⟨rfl,?_⟩))
 ·exact QC.flat (by simp only[ctPart,qbd,h];rfl) rfl rfl
 ·exact QC.flat (by simp only[ctPart,qbd,h];rfl) rfl rfl
def ctO (k:Int) (t:Nat):Ctr:=⟨[opS],λ x=>x.1.1=k,λ x=>[ifO t x.1],λ _=>[]⟩
def ctO0:Ctr:=⟨[opS],λ x=>x.1.1≠1/\x.1.1≠2/\x.1.1≠3/\x.1.1≠4,λ _=>[.ifc 122 true []],λ _=>[]⟩
theorem qxt:Held Tryd.prog G0 55 (ctO 1 117):=by
 refine Held.run cx0 (fn:=Tryd.f55) rfl rfl ⟨by decide,by decide⟩ ?_;rintro ⟨⟨k,f,n,b,d⟩,⟨⟩⟩ hp;replace hp:k=1:=hp;subst hp;exact (qj6 _ f n b d _ _).mpr (QC.flat rfl rfl rfl)
theorem qxs:Held Tryd.prog G0 55 (ctO 2 118):=by
 refine Held.run cx0 (fn:=Tryd.f55) rfl rfl ⟨by decide,by decide⟩ ?_;rintro ⟨⟨k,f,n,b,d⟩,⟨⟩⟩ hp;replace hp:k=2:=hp;subst hp;exact (qj6 _ f n b d _ _).mpr (QC.flat rfl rfl rfl)
theorem qxr:Held Tryd.prog G0 55 (ctO 3 119):=by
 refine Held.run cx0 (fn:=Tryd.f55) rfl rfl ⟨by decide,by decide⟩ ?_;rintro ⟨⟨k,f,n,b,d⟩,⟨⟩⟩ hp;replace hp:k=3:=hp;subst hp;exact (qj6 _ f n b d _ _).mpr (QC.flat rfl rfl rfl)
theorem qxq:Held Tryd.prog G0 55 (ctO 4 120):=by
 refine Held.run cx0 (fn:=Tryd.f55) rfl rfl ⟨by decide,by decide⟩ ?_;rintro ⟨⟨k,f,n,b,d⟩,⟨⟩⟩ hp;replace hp:k=4:=hp;subst hp;exact (qj6 _ f n b d _ _).mpr (QC.flat rfl rfl rfl)
theorem q7o:Held Tryd.prog G0 55 ctO0:=by
 refine Held.run cx0 (fn:=Tryd.f55) rfl rfl ⟨by decide,by decide⟩ ?_;rintro ⟨⟨k,f,n,b,d⟩,⟨⟩⟩ hp;obtain ⟨h1,h2,h3,h4⟩:k≠1/\k≠2/\k≠3/\k≠4:=hp;refine (qj6 k f n b d _ _).mpr ?_;rw[decide_eq_false h1,decide_eq_false h2,decide_eq_false h3,decide_eq_false h4];exact QC.flat rfl rfl rfl
abbrev KR:List AK:=[.dat opS,.dat iI]
def rB (t:Nat) (x:OpT) (m:Int):Bool:=match t with
 | 1=>qbd x.2.1 x.2.2.1 m&&(decide (x.2.2.2.1=0)&&decide ((x.2.2.2.2.length:Int)=0))
 | 2=>qbd x.2.1 x.2.2.1 m&&(decide (x.2.2.2.1=0)&&decide ((x.2.2.2.2.length:Int)=x.2.2.1))
 | 3=>decide (x.2.1=0)&&decide ((x.2.2.2.2.length:Int)=0)
 | _=>decide (x.2.1=0)&&(decide (x.2.2.2.1=0)&&decide ((x.2.2.2.2.length:Int)=x.2.2.1))
def ctR (t:Nat):CtrI:=⟨KR,λ _=>True,λ x=>[.bool (rB t x.1 x.2.1)],λ _=>[]⟩
def ctR0:CtrI:=⟨[.dat .unit,.dat iI],λ _=>True,λ _=>[.bool false],λ _=>[]⟩
theorem qwq:HeldI Tryd.prog G0 108 (ctR 3):=by
 refine HeldI.run cx0 (fn:=Tryd.f108) rfl rfl ⟨by decide,by decide⟩ ?_;rintro ⟨⟨k,f,n,b,d⟩,m,⟨⟩⟩ _;refine (q5d k f n b m d _ _).mpr (qaf (λ h=>?_) (λ h=>⟨rfl,?_⟩))
 ·exact QI.flat (by simp only[ctR,rB,h];rfl) rfl rfl
 ·exact QI.flat (by simp only[ctR,rB,h];rfl) rfl rfl
theorem qx6:HeldI Tryd.prog G0 111 (ctR 4):=by
 refine HeldI.run cx0 (fn:=Tryd.f111) rfl rfl ⟨by decide,by decide⟩ ?_;rintro ⟨⟨k,f,n,b,d⟩,m,⟨⟩⟩ _;refine (q5p k f n b m d _ _).mpr (qaf (λ h=>qaf (λ h2=>?_) (λ h2=>⟨rfl,?_⟩)) (λ h=>⟨rfl,rfl,?_⟩))
 ·have h2:decide (b=0)=true:=h2;exact QI.flat (by simp only[ctR,rB,h,h2];rfl) rfl rfl
 ·have h2:decide (b=0)=false:=h2;exact QI.flat (by simp only[ctR,rB,h,h2];rfl) rfl rfl
 ·exact QI.flat (by simp only[ctR,rB,h];rfl) rfl rfl
theorem q1p:HeldI Tryd.prog G0 114 ctR0:=by
 refine HeldI.run cx0 (fn:=Tryd.f114) rfl rfl ⟨by decide,by decide⟩ ?_;rintro ⟨⟨⟩,m,⟨⟩⟩ _;exact (zaf m _ _).mpr (QI.flat rfl rfl rfl)
def cN (t:Nat) (x:OpT):Int:=match t with
 | 2=>IntKind.i64.wrap (4+x.2.2.1)
 | 4=>IntKind.i64.wrap (2+x.2.2.1)
 | _=>4
def kndB (x:SyT):Int:=bif !x.1 then 4 else bif decide (x.2.2≠0) then 2 else 1
def ctKnd:Ctr:=⟨[syS],λ _=>True,λ x=>[.i (kndB x.1)],λ _=>[]⟩
theorem q12:Held Tryd.prog G0 75 ctKnd:=by
 refine Held.run cx0 (fn:=Tryd.f75) rfl rfl ⟨by decide,by decide⟩ ?_;rintro ⟨⟨o,a,b⟩,⟨⟩⟩ _;refine (qvl o a b _ _).mpr (qaf (λ h=>?_) (λ h=>qaf (λ h2=>?_) (λ h2=>?_)))
 ·exact QC.flat (by simp only[ctKnd,kndB,h];rfl) rfl rfl
 ·exact QC.flat (by simp only[ctKnd,kndB,h,h2];rfl) rfl rfl
 ·exact QC.flat (by simp only[ctKnd,kndB,h,h2];rfl) rfl rfl
def C1:CV:=[(102,.inl ctPart),(61,.inl ctSize),(75,.inl ctKnd)]
theorem cx1:CxOK Tryd.prog tt G0 C1:=((cx0.k q12 (fn:=Tryd.f75)).k qwj (fn:=Tryd.f61)).k qxd (fn:=Tryd.f102)
set_option maxRecDepth 100000
theorem qz0 (k f n b m:Int) (d:List Int) (Q:QT) (R:RT):sA C1 Tryd.f101 Q R [.code (qad Tryd.f101)] (qb1 [.dat opS,.dat iI] ((k,f,n,b,d),m,())) =
  (ctPart.pre (f,n,m,())/\bc (qbd f n m) (bc (bif true then decide (b=(0:Int)) else false) (Q [.bool (bif true then decide ((d.length:Int)=(0:Int)) else false)] [(2,.var [.i k,.i f,.i n,.u b,.sl (Sh.int u8) d])]) (false=false/\Q [.bool false] [(2,.var [.i k,.i f,.i n,.u b,.sl (Sh.int u8) d])])) (false=false/\false=false/\Q [.bool false] [(2,.var [.i k,.i f,.i n,.u b,.sl (Sh.int u8) d])])):=by kernel_rfl
theorem qzy (k f n b m:Int) (d:List Int) (Q:QT) (R:RT):sA C1 Tryd.f105 Q R [.code (qad Tryd.f105)] (qb1 [.dat opS,.dat iI] ((k,f,n,b,d),m,())) =
  (ctPart.pre (f,n,m,())/\bc (qbd f n m) (bc (bif true then decide (b=(0:Int)) else false) (Q [.bool (bif true then decide ((d.length:Int)=n) else false)] [(2,.var [.i k,.i f,.i n,.u b,.sl (Sh.int u8) d])]) (false=false/\Q [.bool false] [(2,.var [.i k,.i f,.i n,.u b,.sl (Sh.int u8) d])])) (false=false/\false=false/\Q [.bool false] [(2,.var [.i k,.i f,.i n,.u b,.sl (Sh.int u8) d])])):=by kernel_rfl
theorem qux:HeldI Tryd.prog G0 101 (ctR 1):=by
 refine HeldI.run cx1 (fn:=Tryd.f101) rfl rfl ⟨by decide,by decide⟩ ?_;rintro ⟨⟨k,f,n,b,d⟩,m,⟨⟩⟩ _;refine (qz0 k f n b m d _ _).mpr ⟨trivial,qaf (λ h=>qaf (λ h2=>?_) (λ h2=>⟨rfl,?_⟩)) (λ h=>⟨rfl,rfl,?_⟩)⟩
 ·have h2:decide (b=0)=true:=h2;exact QI.flat (by simp only[ctR,rB,h,h2];rfl) rfl rfl
 ·have h2:decide (b=0)=false:=h2;exact QI.flat (by simp only[ctR,rB,h,h2];rfl) rfl rfl
 ·exact QI.flat (by simp only[ctR,rB,h];rfl) rfl rfl
theorem qut:HeldI Tryd.prog G0 105 (ctR 2):=by
 refine HeldI.run cx1 (fn:=Tryd.f105) rfl rfl ⟨by decide,by decide⟩ ?_;rintro ⟨⟨k,f,n,b,d⟩,m,⟨⟩⟩ _;refine (qzy k f n b m d _ _).mpr ⟨trivial,qaf (λ h=>qaf (λ h2=>?_) (λ h2=>⟨rfl,?_⟩)) (λ h=>⟨rfl,rfl,?_⟩)⟩
 ·have h2:decide (b=0)=true:=h2;exact QI.flat (by simp only[ctR,rB,h,h2];rfl) rfl rfl
 ·have h2:decide (b=0)=false:=h2;exact QI.flat (by simp only[ctR,rB,h,h2];rfl) rfl rfl
 ·exact QI.flat (by simp only[ctR,rB,h];rfl) rfl rfl
def CM:CV:=(114,.inr ctR0)::(111,.inr (ctR 4))::(108,.inr (ctR 3))::(105,.inr (ctR 2))::(101,.inr (ctR 1))::C1
theorem cxM:CxOK Tryd.prog tt G0 CM:=((((cx1.consI qux (fn:=Tryd.f101) rfl rfl rfl).consI qut (fn:=Tryd.f105) rfl rfl rfl).consI qwq (fn:=Tryd.f108) rfl rfl rfl).consI qx6 (fn:=Tryd.f111) rfl rfl rfl).consI q1p (fn:=Tryd.f114) rfl rfl rfl
def D1:CV:=(55,.inl (ctO 1 117))::CM
def D2:CV:=(55,.inl (ctO 2 118))::CM
def D3:CV:=(55,.inl (ctO 3 119))::CM
def D4:CV:=(55,.inl (ctO 4 120))::CM
def D0:CV:=(55,.inl ctO0)::CM
theorem dx1:CxOK Tryd.prog tt G0 D1:=cxM.k qxt (fn:=Tryd.f55)
theorem dx2:CxOK Tryd.prog tt G0 D2:=cxM.k qxs (fn:=Tryd.f55)
theorem dx3:CxOK Tryd.prog tt G0 D3:=cxM.k qxr (fn:=Tryd.f55)
theorem dx4:CxOK Tryd.prog tt G0 D4:=cxM.k qxq (fn:=Tryd.f55)
theorem dx0:CxOK Tryd.prog tt G0 D0:=cxM.k q7o (fn:=Tryd.f55)
theorem q5w (f n b m:Int) (d:List Int) (Q:QT) (R:RT):sA D1 Tryd.f62 Q R [.code (qad Tryd.f62)] (entry [opS,iI] ((1,f,n,b,d),m,())) =
  (bc (decide ((1:Int)<=n)) (bc (bif true then decide (n<=65536) else false) ((ctO (1:Int) (117:Nat)).pre (((1:iI.D),f,n,b,d),())/\(ctR (1:Nat)).pre (((1:iI.D),f,n,b,d),m,())/\Q [.bool (bif true then rB (1:Nat) ((1:iI.D),f,n,b,d) m else false)] [(2,.var [.i (1:iI.D),.i f,.i n,.u b,.sl (Sh.int u8) d])]) (false=false/\Q [.bool false] [(2,.var [.i (1:iI.D),.i f,.i n,.u b,.sl (Sh.int u8) d])])) (false=false/\false=false/\Q [.bool false] [(2,.var [.i (1:iI.D),.i f,.i n,.u b,.sl (Sh.int u8) d])])):=by kernel_rfl
theorem q5v (f n b m:Int) (d:List Int) (Q:QT) (R:RT):sA D2 Tryd.f62 Q R [.code (qad Tryd.f62)] (entry [opS,iI] ((2,f,n,b,d),m,())) =
  (bc (decide ((1:Int)<=n)) (bc (bif true then decide (n<=65536) else false) ((ctO (2:Int) (118:Nat)).pre (((2:iI.D),f,n,b,d),())/\(ctR (2:Nat)).pre (((2:iI.D),f,n,b,d),m,())/\Q [.bool (bif true then rB (2:Nat) ((2:iI.D),f,n,b,d) m else false)] [(2,.var [.i (2:iI.D),.i f,.i n,.u b,.sl (Sh.int u8) d])]) (false=false/\Q [.bool false] [(2,.var [.i (2:iI.D),.i f,.i n,.u b,.sl (Sh.int u8) d])])) (false=false/\false=false/\Q [.bool false] [(2,.var [.i (2:iI.D),.i f,.i n,.u b,.sl (Sh.int u8) d])])):=by kernel_rfl
theorem q5u (f n b m:Int) (d:List Int) (Q:QT) (R:RT):sA D3 Tryd.f62 Q R [.code (qad Tryd.f62)] (entry [opS,iI] ((3,f,n,b,d),m,())) =
  (bc (decide ((1:Int)<=n)) (bc (bif true then decide (n<=65536) else false) ((ctO (3:Int) (119:Nat)).pre (((3:iI.D),f,n,b,d),())/\(ctR (3:Nat)).pre (((3:iI.D),f,n,b,d),m,())/\Q [.bool (bif true then rB (3:Nat) ((3:iI.D),f,n,b,d) m else false)] [(2,.var [.i (3:iI.D),.i f,.i n,.u b,.sl (Sh.int u8) d])]) (false=false/\Q [.bool false] [(2,.var [.i (3:iI.D),.i f,.i n,.u b,.sl (Sh.int u8) d])])) (false=false/\false=false/\Q [.bool false] [(2,.var [.i (3:iI.D),.i f,.i n,.u b,.sl (Sh.int u8) d])])):=by kernel_rfl
theorem q5t (f n b m:Int) (d:List Int) (Q:QT) (R:RT):sA D4 Tryd.f62 Q R [.code (qad Tryd.f62)] (entry [opS,iI] ((4,f,n,b,d),m,())) =
  (bc (decide ((1:Int)<=n)) (bc (bif true then decide (n<=65536) else false) ((ctO (4:Int) (120:Nat)).pre (((4:iI.D),f,n,b,d),())/\(ctR (4:Nat)).pre (((4:iI.D),f,n,b,d),m,())/\Q [.bool (bif true then rB (4:Nat) ((4:iI.D),f,n,b,d) m else false)] [(2,.var [.i (4:iI.D),.i f,.i n,.u b,.sl (Sh.int u8) d])]) (false=false/\Q [.bool false] [(2,.var [.i (4:iI.D),.i f,.i n,.u b,.sl (Sh.int u8) d])])) (false=false/\false=false/\Q [.bool false] [(2,.var [.i (4:iI.D),.i f,.i n,.u b,.sl (Sh.int u8) d])])):=by kernel_rfl
theorem q5x (k f n b m:Int) (d:List Int) (Q:QT) (R:RT):sA D0 Tryd.f62 Q R [.code (qad Tryd.f62)] (entry [opS,iI] ((k,f,n,b,d),m,())) =
  (bc (decide ((1:Int)<=n)) (bc (bif true then decide (n<=65536) else false) (ctO0.pre ((k,f,n,b,d),())/\ctR0.pre ((),m,())/\Q [.bool (bif true then false else false)] [(2,.var [.i k,.i f,.i n,.u b,.sl (Sh.int u8) d])]) (false=false/\Q [.bool false] [(2,.var [.i k,.i f,.i n,.u b,.sl (Sh.int u8) d])])) (false=false/\false=false/\Q [.bool false] [(2,.var [.i k,.i f,.i n,.u b,.sl (Sh.int u8) d])])):=by kernel_rfl
def kR (x:OpT) (m:Int):Bool:=if x.1=1 then rB 1 x m else if x.1=2 then rB 2 x m else if x.1=3 then rB 3 x m else if x.1=4 then rB 4 x m else false
def isRB (x:OpT) (m:Int):Bool:=decide (1<=x.2.2.1)&&(decide (x.2.2.1<=65536)&&kR x m)
abbrev qy4 (p:Int->Prop):Ctr:=⟨[opS,iI],λ x=>p x.1.1,λ x=>[.bool (isRB x.1 x.2.1)],λ _=>[]⟩
theorem qyi:Held Tryd.prog G0 62 (qy4 (λ k=>k=1)):=by
 refine Held.run dx1 (fn:=Tryd.f62) rfl rfl ⟨by decide,by decide⟩ ?_;rintro ⟨⟨k,f,n,b,d⟩,m,⟨⟩⟩ hp;replace hp:k=1:=hp;subst hp;refine (q5w f n b m d _ _).mpr (qaf (λ h=>qaf (λ h2=>⟨rfl,trivial,?_⟩) (λ h2=>⟨rfl,?_⟩)) (λ h=>⟨rfl,rfl,?_⟩))
 ·have h2:decide (n<=65536)=true:=h2;exact QC.flat (by simp only[isRB,h,h2];rfl) rfl rfl
 ·have h2:decide (n<=65536)=false:=h2;exact QC.flat (by simp only[isRB,h,h2];rfl) rfl rfl
 ·exact QC.flat (by simp only[isRB,h];rfl) rfl rfl
theorem qyh:Held Tryd.prog G0 62 (qy4 (λ k=>k=2)):=by
 refine Held.run dx2 (fn:=Tryd.f62) rfl rfl ⟨by decide,by decide⟩ ?_;rintro ⟨⟨k,f,n,b,d⟩,m,⟨⟩⟩ hp;replace hp:k=2:=hp;subst hp;refine (q5v f n b m d _ _).mpr (qaf (λ h=>qaf (λ h2=>⟨rfl,trivial,?_⟩) (λ h2=>⟨rfl,?_⟩)) (λ h=>⟨rfl,rfl,?_⟩))
 ·have h2:decide (n<=65536)=true:=h2;exact QC.flat (by simp only[isRB,h,h2];rfl) rfl rfl
 ·have h2:decide (n<=65536)=false:=h2;exact QC.flat (by simp only[isRB,h,h2];rfl) rfl rfl
 ·exact QC.flat (by simp only[isRB,h];rfl) rfl rfl
theorem qyg:Held Tryd.prog G0 62 (qy4 (λ k=>k=3)):=by
 refine Held.run dx3 (fn:=Tryd.f62) rfl rfl ⟨by decide,by decide⟩ ?_;rintro ⟨⟨k,f,n,b,d⟩,m,⟨⟩⟩ hp;replace hp:k=3:=hp;subst hp;refine (q5u f n b m d _ _).mpr (qaf (λ h=>qaf (λ h2=>⟨rfl,trivial,?_⟩) (λ h2=>⟨rfl,?_⟩)) (λ h=>⟨rfl,rfl,?_⟩))
 ·have h2:decide (n<=65536)=true:=h2;exact QC.flat (by simp only[isRB,h,h2];rfl) rfl rfl
 ·have h2:decide (n<=65536)=false:=h2;exact QC.flat (by simp only[isRB,h,h2];rfl) rfl rfl
 ·exact QC.flat (by simp only[isRB,h];rfl) rfl rfl
theorem qyf:Held Tryd.prog G0 62 (qy4 (λ k=>k=4)):=by
 refine Held.run dx4 (fn:=Tryd.f62) rfl rfl ⟨by decide,by decide⟩ ?_;rintro ⟨⟨k,f,n,b,d⟩,m,⟨⟩⟩ hp;replace hp:k=4:=hp;subst hp;refine (q5t f n b m d _ _).mpr (qaf (λ h=>qaf (λ h2=>⟨rfl,trivial,?_⟩) (λ h2=>⟨rfl,?_⟩)) (λ h=>⟨rfl,rfl,?_⟩))
 ·have h2:decide (n<=65536)=true:=h2;exact QC.flat (by simp only[isRB,h,h2];rfl) rfl rfl
 ·have h2:decide (n<=65536)=false:=h2;exact QC.flat (by simp only[isRB,h,h2];rfl) rfl rfl
 ·exact QC.flat (by simp only[isRB,h];rfl) rfl rfl
theorem qyj:Held Tryd.prog G0 62 (qy4 (λ k=>k≠1/\k≠2/\k≠3/\k≠4)):=by
 refine Held.run dx0 (fn:=Tryd.f62) rfl rfl ⟨by decide,by decide⟩ ?_;rintro ⟨⟨k,f,n,b,d⟩,m,⟨⟩⟩ hp;replace hp:k≠1/\k≠2/\k≠3/\k≠4:=hp;have hk:kR (k,f,n,b,d) m=false:=by simp[kR,hp]
 refine (q5x k f n b m d _ _).mpr (qaf (λ h=>qaf (λ h2=>⟨hp,trivial,?_⟩) (λ h2=>⟨rfl,?_⟩)) (λ h=>⟨rfl,rfl,?_⟩))
 ·have h2:decide (n<=65536)=true:=h2;exact QC.flat (by simp only[isRB,h,h2,hk];rfl) rfl rfl
 ·have h2:decide (n<=65536)=false:=h2;exact QC.flat (by simp only[isRB,h,h2];rfl) rfl rfl
 ·exact QC.flat (by simp only[isRB,h];rfl) rfl rfl
def ctIsR:Ctr:=⟨[opS,iI],λ _=>True,λ x=>[.bool (isRB x.1 x.2.1)],λ _=>[]⟩
theorem q16:Held Tryd.prog G0 62 ctIsR:=λ x _=>by
 by_cases h1:x.1.1=1
 ·exact qyi x h1
 ·by_cases h2:x.1.1=2
  ·exact qyh x h2
  ·by_cases h3:x.1.1=3
   ·exact qyg x h3
   ·by_cases h4:x.1.1=4
    ·exact qyf x h4
    ·exact qyj x ⟨h1,h2,h3,h4⟩
def DC:CV:=(62,.inl ctIsR)::C1
theorem dxC:CxOK Tryd.prog tt G0 DC:=cx1.k q16 (fn:=Tryd.f62)
theorem qz2 (li:Bool) (m o:Int) (l:List OpT) (Q:QT) (R:RT):sA DC Tryd.f46 Q R [.code (qad Tryd.f46)] (entry [paS] ((li,m,o,l),())) =
  (ctSize.pre (m,())/\bc (!(decide ((0:iI.D)<=m)&&decide (m<=(65536:iI.D)))) (true=true/\true=true/\Q [.i (-1:Int),.i 60] [(1,.var [.bool li,.i m,.i o,.sl opS l])]) (ctSize.pre (o,())/\bc (bif false then true else !(decide ((0:iI.D)<=o)&&decide (o<=(65536:iI.D)))) (true=true/\Q [.i (-1:Int),.i 60] [(1,.var [.bool li,.i m,.i o,.sl opS l])]) (bc (bif false then true else decide ((4096:Int)<(l.length:Int))) (Q [.i (-1:Int),.i 60] [(1,.var [.bool li,.i m,.i o,.sl opS l])]) (R (hd Tryd.f46 0) { env:=[(0,.agg [.bool li,.i m,.i o,.sl opS l]),(1,.ptr 1 0),(2,.i 0),(3,.i 0),(4,.i o),(7,.ptr 1 1),(8,.i m),(9,.bool (decide ((0:iI.D)<=m)&&decide (m<=(65536:iI.D)))),(10,.bool !(decide ((0:iI.D)<=m)&&decide (m<=(65536:iI.D)))),(11,.bool false),(12,.ptr 1 2),(13,.i o),(14,.bool (decide ((0:iI.D)<=o)&&decide (o<=(65536:iI.D)))),(15,.bool !(decide ((0:iI.D)<=o)&&decide (o<=(65536:iI.D)))),(16,.bool (bif false then true else !(decide ((0:iI.D)<=o)&&decide (o<=(65536:iI.D))))),(17,.bool false),(18,.ptr 1 3),(19,.sl opS l),(20,.i (l.length:Int)),(21,.bool (decide ((4096:Int)<(l.length:Int)))),(22,.bool (bif false then true else decide ((4096:Int)<(l.length:Int)))),(23,.ptr 1 2),(24,.i o),(25,.ptr 1 3),(26,.sl opS l),(27,.i (l.length:Int)),(28,.i 0)],blk:=[(1,.var [.bool li,.i m,.i o,.sl opS l])] })))):=by kernel_rfl
def qhv (li:Bool) (m o:Int) (l:List OpT) (i:Nat):List (Nat × LB):=[(1,.var [.bool li,.i m,.i o,.sl opS l]),(6,.var (oI (gtO l (i:Int).toNat)))]
theorem qoe (li:Bool) (m o left:Int) (l:List OpT) (i:Nat) (Q:QT) (R:RT):sA DC Tryd.f46 Q R (hd Tryd.f46 0) ⟨[(1,.ptr 1 0),(4,.i left),(26,.sl opS l),(27,.i l.length),(28,.i (i:Nat))],[(1,.var [.bool li,.i m,.i o,.sl opS l])]⟩ =
  (bc (decide ((i:Int)<(l.length:Int))) ((0:Int)<=(i:Int)/\(i:Int)<(l.length:Int)/\ctIsR.pre ((gtO l (i:Int).toNat),m,())/\bc (!isRB (gtO l (i:Int).toNat) m) (true=true/\Q [.i (i:Int),.i 60] (qhv li m o l i)) (bc (bif false then true else decide (left<(gtO l (i:Int).toNat).2.2.1)) (Q [.i (i:Int),.i 60] (qhv li m o l i)) (R (hd Tryd.f46 0) { env:=[(1,.ptr 1 0),(4,.i (i64.wrap (left-(gtO l (i:Int).toNat).2.2.1))),(5,.i (i:Int)),(6,.ptr 6 0),(26,.sl opS l),(27,.i (l.length:Int)),(28,.i (i64.wrap ((i:Int)+1))),(29,.bool (decide ((i:Int)<(l.length:Int)))),(30,.i (i:Int)),(31,.elv opS (gtO l (i:Int).toNat)),(32,.agg (oI (gtO l (i:Int).toNat))),(33,.agg (oI (gtO l (i:Int).toNat))),(34,.ptr 1 1),(35,.i m),(36,.bool (isRB (gtO l (i:Int).toNat) m)),(37,.bool !isRB (gtO l (i:Int).toNat) m),(38,.bool false),(39,.ptr 6 2),(40,.i (gtO l (i:Int).toNat).2.2.1),(41,.i left),(42,.bool (decide (left<(gtO l (i:Int).toNat).2.2.1))),(43,.bool (bif false then true else decide (left<(gtO l (i:Int).toNat).2.2.1))),(45,.i left),(46,.ptr 6 2),(47,.i (gtO l (i:Int).toNat).2.2.1),(48,.i (i64.wrap (left-(gtO l (i:Int).toNat).2.2.1))),(49,.i (i64.wrap ((i:Int)+1)))],blk:=[(1,.var [.bool li,.i m,.i o,.sl opS l]),(6,.var (oI (gtO l (i:Int).toNat)))] }))) (bc (decide ((0:Int)<left)) (Q [.i (l.length:Int),.i 60] [(1,.var [.bool li,.i m,.i o,.sl opS l])]) (Q [.i (l.length:Int),.i 0] [(1,.var [.bool li,.i m,.i o,.sl opS l])]))):=by kernel_rfl
theorem q52 (l:List SyT) (m:Int) (Q:QT) (R:RT):sA [] Tryd.f64 Q R [.code (qad Tryd.f64)] (entry [.sl syS,iI] (l,m,())) =
  (R (hd Tryd.f64 0) { env:=[(0,.sl syS l),(1,.i m),(4,.bool false),(8,.sl syS l),(9,.i (l.length:Int)),(10,.i 0)],blk:=[] }):=by kernel_rfl
def qc2 (l:List SyT) (i:Nat):List (Nat × LB):=[(6,.var (yI (gtY l (i:Int).toNat)))]
theorem qro (l:List SyT) (m:Int) (i:Nat) (Q:QT) (R:RT):sA [] Tryd.f64 Q (λ it S=>R it (qaj [1,8,9,10] [] S)) (hd Tryd.f64 0) ⟨[(1,.i m),(8,.sl syS l),(9,.i l.length),(10,.i (i:Nat))],[]⟩ =
  (bc (decide ((i:Int)<(l.length:Int))) ((0:Int)<=(i:Int)/\(i:Int)<(l.length:Int)/\bc (decide ((0:Int)<=(gtY l (i:Int).toNat).2.1)) (bc (gtY l (i:Int).toNat).1 (bc (bif true then !bif true then decide ((gtY l (i:Int).toNat).2.1<m) else false else false) (true=true/\Q [.bool false] (qc2 l i)) (bc (!(gtY l (i:Int).toNat).1) (bc (bif false then true else bif true then decide ((gtY l (i:Int).toNat).2.1≠0) else false) (Q [.bool false] (qc2 l i)) (R (hd Tryd.f64 0) { env:=[(1,.i m),(8,.sl syS l),(9,.i (l.length:Int)),(10,.i (i64.wrap ((i:Int)+1)))],blk:=[] })) (false=false/\R (hd Tryd.f64 0) { env:=[(1,.i m),(8,.sl syS l),(9,.i (l.length:Int)),(10,.i (i64.wrap ((i:Int)+1)))],blk:=[] }))) (false=false/\bc (!(gtY l (i:Int).toNat).1) (bc (bif false then true else bif true then decide ((gtY l (i:Int).toNat).2.1≠0) else false) (Q [.bool false] (qc2 l i)) (R (hd Tryd.f64 0) { env:=[(1,.i m),(8,.sl syS l),(9,.i (l.length:Int)),(10,.i (i64.wrap ((i:Int)+1)))],blk:=[] })) (false=false/\R (hd Tryd.f64 0) { env:=[(1,.i m),(8,.sl syS l),(9,.i (l.length:Int)),(10,.i (i64.wrap ((i:Int)+1)))],blk:=[] }))) (false=false/\bc (gtY l (i:Int).toNat).1 (true=true/\Q [.bool false] (qc2 l i)) (false=false/\bc (!(gtY l (i:Int).toNat).1) (bc (bif false then true else bif true then decide ((gtY l (i:Int).toNat).2.1≠0) else false) (Q [.bool false] (qc2 l i)) (R (hd Tryd.f64 0) { env:=[(1,.i m),(8,.sl syS l),(9,.i (l.length:Int)),(10,.i (i64.wrap ((i:Int)+1)))],blk:=[] })) (false=false/\R (hd Tryd.f64 0) { env:=[(1,.i m),(8,.sl syS l),(9,.i (l.length:Int)),(10,.i (i64.wrap ((i:Int)+1)))],blk:=[] })))) (Q [.bool true] [])):=by kernel_rfl
def qg2 (s t:SyT):List (Nat × LB):=[(2,.var [.bool s.1,.i s.2.1,.u s.2.2]),(3,.var [.bool t.1,.i t.2.1,.u t.2.2])]
theorem q5z (s t:SyT) (Q:QT) (R:RT):sA C1 Tryd.f70 Q R [.code (qad Tryd.f70)] (entry [syS,syS] (s,t,())) =
  (ctKnd.pre (s,())/\ctKnd.pre (t,())/\bc (decide (kndB s=kndB t)) (bc (!s.1) (true=true/\Q [.bool true] (qg2 s t)) (Q [.bool (decide (t.2.1=i64.wrap (s.2.1+1)))] (qg2 s t))) (false=false/\Q [.bool false] (qg2 s t))):=by kernel_rfl
theorem qzt (k a:Int) (b:List Int) (l:List SyT) (i:Nat) (Q:QT) (R:RT):sA C1 Tryd.f71 Q R (hd Tryd.f71 0) ⟨[(2,.ptr 2 0),(3,.ptr 3 0),(25,.sl syS l),(26,.i l.length),(27,.i (i:Nat))],[(2,.var [.i 0,.i 0,.i 0,.u 0,.nils]),(3,.var [.i k,.i a,.i l.length,.u 0,.win true uB 23 0 b.length]),(23,.row 5 uB b)]⟩ =
  (bc (decide ((i:Int)<(l.length:Int))) ((0:Int)<=(i:Int)/\(i:Int)<(l.length:Int)/\(0:Int)<=(i:Int)/\(i:Int)<(b.length:Int)/\(0:Nat)+(i:Int).toNat<b.length/\R (hd Tryd.f71 0) { env:=[(2,.ptr 2 0),(3,.ptr 3 0),(4,.i (i:Int)),(5,.ptr 5 0),(25,.sl syS l),(26,.i (l.length:Int)),(27,.i (i64.wrap ((i:Int)+1))),(28,.bool (decide ((i:Int)<(l.length:Int)))),(29,.i (i:Int)),(30,.elv syS (gtY l (i:Int).toNat)),(31,.agg (yI (gtY l (i:Int).toNat))),(32,.ptr 3 4),(33,.win true uB 23 0 b.length),(34,.i (i:Int)),(35,.ptr 5 2),(36,.u (gtY l (i:Int).toNat).2.2),(37,.elp uB (23:Nat) ((0:Nat)+(i:Int).toNat) (0:Nat)),(38,.i (i64.wrap ((i:Int)+1)))],blk:=[(2,.var [.i 0,.i 0,.i 0,.u 0,.nils]),(3,.var [.i k,.i a,.i (l.length:Int),.u 0,.win true uB 23 0 b.length]),(5,.var (yI (gtY l (i:Int).toNat))),(23,.row 5 uB (b.set ((0:Nat)+(i:Int).toNat) (gtY l (i:Int).toNat).2.2))] }) (Q [.agg [.i k,.i a,.i (l.length:Int),.u 0,.win true uB 23 0 b.length]] [(2,.var [.i k,.i a,.i (l.length:Int),.u 0,.win true uB 23 0 b.length]),(3,.var [.i k,.i a,.i (l.length:Int),.u 0,.win true uB 23 0 b.length]),(23,.row 5 uB b)])):=by kernel_rfl
theorem q5o (l:List SyT) (Q:QT) (R:RT):sA C1 Tryd.f71 Q R [.code (qad Tryd.f71)] (entry [.sl syS] (l,())) =
  ((0:Int)<=0/\(0:Int)<(l.length:Int)/\ctKnd.pre ((gtY l (0)),())/\(0:Int)<=0/\(0:Int)<(l.length:Int)/\bc (decide (kndB (gtY l (0))=(1:Int))) (Q [.agg [.i (kndB (gtY l (0))),.i (gtY l (0)).2.1,.i (l.length:Int),.u 0,.nils]] [(2,.var [.i (kndB (gtY l (0))),.i (gtY l (0)).2.1,.i (l.length:Int),.u 0,.nils]),(3,.var [.i (kndB (gtY l (0))),.i (gtY l (0)).2.1,.i (l.length:Int),.u 0,.nils])]) ((0:Int)<=(l.length:Int)/\(l.length:Int)<=(l.length:Int)/\(l.length:Int)<2 ^ 24/\(↑(1:Nat):Int)*(l.length:Int)<=2 ^ 48/\R (hd Tryd.f71 0) { env:=[(0,.sl syS l),(2,.ptr 2 0),(3,.ptr 3 0),(6,.sl syS l),(7,.elv syS (gtY l (0))),(8,.agg (yI (gtY l (0)))),(9,.i (kndB (gtY l (0)))),(10,.sl syS l),(11,.elv syS (gtY l (0))),(12,.elv iI (gtY l (0)).2.1),(13,.i (gtY l (0)).2.1),(14,.sl syS l),(15,.i (l.length:Int)),(16,.agg [.i (kndB (gtY l (0))),.i (gtY l (0)).2.1,.i (l.length:Int),.u 0,.nils]),(17,.ptr 3 0),(18,.i (kndB (gtY l (0)))),(19,.bool (decide (kndB (gtY l (0))=(1:Int)))),(21,.sl syS l),(22,.i (l.length:Int)),(23,.win true uB 23 0 (l.length:Int).toNat),(24,.ptr 3 4),(25,.sl syS l),(26,.i (l.length:Int)),(27,.i 0)],blk:=[(2,.var [.i 0,.i 0,.i 0,.u 0,.nils]),(3,.var [.i (kndB (gtY l (0))),.i (gtY l (0)).2.1,.i (l.length:Int),.u 0,.win true uB 23 0 (l.length:Int).toNat]),(23,.row 5 uB (List.replicate (l.length:Int).toNat uB.dflt))] })):=by kernel_rfl
attribute [local irreducible] Go.Px.sy Go.Px.syE
theorem gtE {e:Sh} {l:List e.D} {i:Nat} (h:i<l.length):gt e l i=l[i]:=by
 show (l[i]?).getD _=l[i]
 rw[List.getElem?_eq_getElem h];rfl
theorem qgs {l:List OpT} {i:Nat} (h:i<l.length):gtO l i=l[i]:=gtE (e:=opS) h
theorem qjd {l:List SyT} {i:Nat} (h:i<l.length):gtY l i=l[i]:=gtE (e:=syS) h
theorem qlf {α:Type} {l:List α} {i:Nat} (h:i<l.length):l.drop i=l[i]::l.drop (i+1):=List.drop_eq_getElem_cons h
abbrev GD (f:Nat) (fn:Func) (Q:List SV->List (Nat × LB)->Prop) (it:List Item) (S:PS):Prop:=Px.Good Tryd.prog tt G0 f fn.ntmps fn.results.toList Q it S
def szB (n:Int):Bool:=decide (0<=n)&&decide (n<=65536)
def chkF (m N:Int):List OpT->Int->Int->Int × Int
 | [],left,_=>if 0<left then (N,60) else (N,0)
 | x::l,left,i=>if isRB x m=false then (i,60) else if left<x.2.2.1 then (i,60) else chkF m N l (left-x.2.2.1) (i+1)
def chkV (p:PaT):Int × Int:=if szB p.2.1=true/\szB p.2.2.1=true/\p.2.2.2.length<=4096 then chkF p.2.1 p.2.2.2.length p.2.2.2 p.2.2.1 0 else (-1,60)
def ctChk:Ctr:=⟨[paS],λ _=>True,λ x=>[.i (chkV x.1).1,.i (chkV x.1).2],λ _=>[]⟩
theorem qdy {x:OpT} {m:Int} (h:isRB x m=true):1<=x.2.2.1/\x.2.2.1<=65536:=by
 unfold isRB at h;simp only[Bool.and_eq_true,decide_eq_true_eq] at h;exact ⟨h.1,h.2.1⟩
theorem q2y (li:Bool) (m o:Int) (l:List OpT) (hl:l.length<=4096):∀ (k i:Nat) (left:Int),l.length-i=k->i<=l.length->0<=left/\left<=65536 ->
  GD 46 Tryd.f46 (λ rs _=>rs=[.i (chkF m l.length (l.drop i) left i).1,.i (chkF m l.length (l.drop i) left i).2]) (hd Tryd.f46 0) ⟨[(1,.ptr 1 0),(4,.i left),(26,.sl opS l),(27,.i l.length),(28,.i (i:Nat))],[(1,.var [.bool li,.i m,.i o,.sl opS l])]⟩:=by
 intro k
 induction k with
 | zero=>
  intro i left hk hi hb;have hi:i=l.length:=by omega
  subst hi;refine qak dxC _ _ _ ((qoe li m o left l _ _ _).mpr ?_);rw[decide_eq_false (by omega),bc_f,List.drop_length];refine qaf (λ h=>?_) (λ h=>?_)
  ·rw[chkF,if_pos (of_decide_eq_true h)]
  ·rw[chkF,if_neg (of_decide_eq_false h)]
 | succ k ih=>
  intro i left hk hi hb;have hil:i<l.length:=by omega
  refine qak dxC _ _ _ ((qoe li m o left l i _ _).mpr ?_);rw[decide_eq_true (show (i:Int)<(l.length:Int) by omega),bc_t,Int.toNat_natCast,qgs hil,qlf hil];refine ⟨by omega,by omega,trivial,qaf (λ h=>⟨rfl,?_⟩) (λ h=>qaf (λ h2=>?_) (λ h2=>?_))⟩
  ·rw[chkF,if_pos (by simpa using h)]
  ·have h:isRB l[i] m=true:=by simpa using h
   rw[chkF,if_neg (by rw[h];decide),if_pos (of_decide_eq_true h2)]
  ·have h:isRB l[i] m=true:=by simpa using h
   have hn:=qdy h;have h2:¬ left<l[i].2.2.1:=of_decide_eq_false h2;rw[chkF,if_neg (by rw[h];decide),if_neg h2,IntWalk.i64_in (left-l[i].2.2.1) (by omega),IntWalk.i64_in ((i:Int)+1) (by omega)];exact (ih (i+1) (left-l[i].2.2.1) (by omega) (by omega) (by omega)).only ⟨rfl,rfl,rfl,rfl,rfl,trivial⟩ ⟨rfl,trivial⟩
theorem qs9:Held Tryd.prog G0 46 ctChk:=by
 refine Held.run dxC (fn:=Tryd.f46) rfl rfl ⟨by decide,by decide⟩ ?_;rintro ⟨⟨li,m,o,l⟩,⟨⟩⟩ _;refine (qz2 li m o l _ _).mpr ⟨trivial,qaf (λ h=>⟨rfl,rfl,?_⟩) (λ h=>⟨trivial,qaf (λ h2=>⟨rfl,?_⟩) (λ h2=>qaf (λ h3=>?_) (λ h3=>?_))⟩)⟩
 ·have hv:chkV (li,m,o,l)=(-1,60):=if_neg λ q=>by
   have h:(!szB m)=true:=h;rw[q.1] at h;cases h
  exact QC.flat (by simp only[ctChk,hv]) rfl rfl
 ·have hv:chkV (li,m,o,l)=(-1,60):=if_neg λ q=>by
   have h2:(!szB o)=true:=h2;rw[q.2.1] at h2;cases h2
  exact QC.flat (by simp only[ctChk,hv]) rfl rfl
 ·have hv:chkV (li,m,o,l)=(-1,60):=if_neg λ q=>by
   have h3:(4096:Int)<(l.length:Int):=of_decide_eq_true h3;have:=q.2.2;simp only at this;omega
  exact QC.flat (by simp only[ctChk,hv]) rfl rfl
 ·have h:szB m=true:=by
   have h:(!szB m)=false:=h;simpa using h
  have h2:szB o=true:=by
   have h2:(!szB o)=false:=h2;simpa using h2
  have h3:l.length<=4096:=by
   have h3:¬ (4096:Int)<(l.length:Int):=of_decide_eq_false h3;omega
  have hv:chkV (li,m,o,l)=chkF m l.length l o 0:=if_pos ⟨h,h2,h3⟩;have ho:0<=o/\o<=65536:=by
   unfold szB at h2;simpa only[Bool.and_eq_true,decide_eq_true_eq] using h2
  have e:=q2y li m o l h3 _ 0 o rfl (by omega) ho;refine (e.post λ rs blk hq=>QC.flat ?_ rfl (by rw[hq];rfl)).only ⟨rfl,rfl,rfl,rfl,rfl,trivial⟩ ⟨rfl,trivial⟩;rw[hq];simp only[ctChk,hv];rfl
def goB (s t:SyT):Bool:=decide (kndB s=kndB t)&&(!s.1 || decide (t.2.1=IntKind.i64.wrap (s.2.1+1)))
def ctGo:Ctr:=⟨[syS,syS],λ _=>True,λ x=>[.bool (goB x.1 x.2.1)],λ _=>[]⟩
theorem q8i:Held Tryd.prog G0 70 ctGo:=by
 refine Held.run cx1 (fn:=Tryd.f70) rfl rfl ⟨by decide,by decide⟩ ?_;rintro ⟨s,t,⟨⟩⟩ _;refine (q5z s t _ _).mpr ⟨trivial,trivial,qaf (λ h=>qaf (λ h2=>⟨rfl,?_⟩) (λ h2=>?_)) (λ h=>⟨rfl,?_⟩)⟩
 ·exact QC.flat (by simp only[ctGo,goB,h,h2];rfl) rfl rfl
 ·exact QC.flat (by simp only[ctGo,goB,h,h2];rfl) rfl rfl
 ·exact QC.flat (by simp only[ctGo,goB,h];rfl) rfl rfl
def sOK (m:Int) (s:SyT):Bool:=if s.1=true then decide (0<=s.2.1)&&decide (s.2.1<m) else decide (s.2.1=0)
def ctAre:Ctr:=⟨[.sl syS,iI],λ x=>List.length x.1<1099511627776,λ x=>[.bool (List.all x.1 (sOK x.2.1))],λ _=>[]⟩
theorem q26 (l:List SyT) (m:Int) (hl:l.length<1099511627776):∀ (k i:Nat),l.length-i=k->i<=l.length ->
  GD 64 Tryd.f64 (λ rs _=>rs=[.bool ((l.drop i).all (sOK m))]) (hd Tryd.f64 0) ⟨[(1,.i m),(8,.sl syS l),(9,.i l.length),(10,.i (i:Nat))],[]⟩:=by
 intro k
 induction k with
 | zero=>
  intro i hk hi;have hi:i=l.length:=by omega
  subst hi;refine qah cx0 (qro l m _ _ _) ?_;rw[decide_eq_false (by omega),bc_f,List.drop_length];rfl
 | succ k ih=>
  intro i hk hi;have hil:i<l.length:=by omega
  refine qah cx0 (qro l m i _ _) ?_;rw[decide_eq_true (show (i:Int)<(l.length:Int) by omega),bc_t,Int.toNat_natCast,qjd hil,qlf hil];generalize hs:l[i]=s;obtain ⟨o,a,b⟩:=s;have go:sOK m (o,a,b)=true->GD 64 Tryd.f64 (λ rs _=>rs=[.bool (((o,a,b)::l.drop (i+1)).all (sOK m))]) (hd Tryd.f64 0) ⟨[(1,.i m),(8,.sl syS l),(9,.i l.length),(10,.i ((i+1:Nat):Int))],[]⟩:=λ h=>by
   have:=ih (i+1) (by omega) (by omega);rw[List.all_cons,h,Bool.true_and];exact this
  rw[IntWalk.i64_in ((i:Int)+1) (by omega)];refine ⟨by omega,by omega,?_⟩;have fin:sOK m (o,a,b)=false->[SV.bool false]=[SV.bool (((o,a,b)::l.drop (i+1)).all (sOK m))]:=λ h=>by
   rw[List.all_cons,h,Bool.false_and]
  rcases o with _ | _ <;> cases e0:decide (0<=a) <;> cases e1:decide (a<m) <;> cases e2:decide (a=0) <;>
   simp only[e0,e1,e2,decide_not,bc_t,bc_f,cond_true,cond_false,Bool.not_true,Bool.not_false,true_and,ne_eq] <;>
   first
   | (exact (go (by simp only[sOK,e0,e1,e2];rfl)).only ⟨rfl,rfl,rfl,rfl,trivial⟩ trivial)
   | (exact fin (by simp only[sOK,e0,e1,e2];rfl))
theorem q27:Held Tryd.prog G0 64 ctAre:=by
 refine Held.run cx0 (fn:=Tryd.f64) rfl rfl ⟨by decide,by decide⟩ ?_;rintro ⟨l,m,⟨⟩⟩ hp;replace hp:l.length<1099511627776:=hp;refine (q52 l m _ _).mpr ?_;refine ((q26 l m hp _ 0 rfl (by omega)).post λ rs blk hq=>QC.flat ?_ rfl (by rw[hq];rfl)).only ⟨rfl,rfl,rfl,rfl,trivial⟩ trivial;rw[hq];rfl
def mdO (l:List SyT):OpT:=(kndB (gtY l 0),(gtY l 0).2.1,l.length,0,if kndB (gtY l 0)=1 then [] else l.map λ s=>s.2.2)
def mdV (x:OpT):List SV:=[.agg [.i x.1,.i x.2.1,.i x.2.2.1,.u x.2.2.2.1,.sl uB x.2.2.2.2]]
def qt4 (l:List SyT):Prop:=0<l.length/\l.length<16777216
def ctMd:Ctr:=⟨[.sl syS],λ x=>qt4 x.1,λ x=>mdV (mdO x.1),λ _=>[]⟩
def DO:CV:=(71,.inl ctMd)::(70,.inl ctGo)::C1
set_option maxRecDepth 100000
theorem qzu (k a:Int) (d:List Int) (l:List SyT) (i:Nat) (Q:QT) (R:RT):sA C1 Tryd.f71 Q R (hd Tryd.f71 0) ⟨[(2,.ptr 2 0),(3,.ptr 3 0),(25,.sl syS l),(26,.i l.length),(27,.i (i:Nat))],[(2,.var [.i 0,.i 0,.i 0,.u 0,.nils]),(3,.var [.i k,.i a,.i l.length,.u 0,.sl uB d])]⟩ =
  (bc (decide ((i:Int)<(l.length:Int))) ((0:Int)<=(i:Int)/\(i:Int)<(l.length:Int)/\(0:Int)<=(i:Int)/\(i:Int)<(d.length:Int)/\False) (Q [.agg [.i k,.i a,.i (l.length:Int),.u 0,.sl uB d]] [(2,.var [.i k,.i a,.i (l.length:Int),.u 0,.sl uB d]),(3,.var [.i k,.i a,.i (l.length:Int),.u 0,.sl uB d])])):=by kernel_rfl
theorem q3w (l:List SyT) (Q:QT) (R:RT):sA DO Tryd.f65 Q R [.code (qad Tryd.f65)] (entry [.sl syS] (l,())) =
  (R (hd Tryd.f65 0) { env:=[(0,.sl syS l),(2,.nils),(3,.nils),(4,.i 0),(5,.i 1)],blk:=[] }):=by kernel_rfl
theorem qvj (l:List SyT) (a i:Nat) (Q:QT) (R:RT):sA DO Tryd.f65 Q (λ it S=>R it (qaj [0,3,4,5] [3,35,36] S)) (hd Tryd.f65 0) ⟨[(0,.sl syS l),(3,.nils),(4,.i (a:Nat)),(5,.i (i:Nat))],[]⟩ =
  (bc (decide ((i:Int)<=(l.length:Int))) (bc (decide ((i:Int)=(l.length:Int))) (true=true/\(0:Int)<=(a:Int)/\(a:Int)<=(i:Int)/\(i:Int)<=(l.length:Int)/\ctMd.pre (Px.part l (some (a:Int)) (some (i:Int)),())/\(0:Nat)+1<=([(mdO (Px.part l (some (a:Int)) (some (i:Int))))]:List opS.D).length/\(([(mdO (Px.part l (some (a:Int)) (some (i:Int))))]:List opS.D)).length<2 ^ 30/\(56:Nat)<=2 ^ 10/\R (hd Tryd.f65 0) { env:=[(0,.sl syS l),(3,.win true opS 36 0 (1:Nat)),(4,.i (i:Int)),(5,.i (i64.wrap ((i:Int)+1)))],blk:=[(35,.row 55 opS ([(mdO (Px.part l (some (a:Int)) (some (i:Int))))]:List opS.D)),(36,.row 55 opS (([(mdO (Px.part l (some (a:Int)) (some (i:Int))))]:List opS.D)))] }) ((0:Int)<=i64.wrap ((i:Int)-1)/\i64.wrap ((i:Int)-1)<(l.length:Int)/\(0:Int)<=(i:Int)/\(i:Int)<(l.length:Int)/\ctGo.pre ((gtY l (i64.wrap ((i:Int)-1)).toNat),(gtY l (i:Int).toNat),())/\bc (bif false then true else !goB (gtY l (i64.wrap ((i:Int)-1)).toNat) (gtY l (i:Int).toNat)) ((0:Int)<=(a:Int)/\(a:Int)<=(i:Int)/\(i:Int)<=(l.length:Int)/\ctMd.pre (Px.part l (some (a:Int)) (some (i:Int)),())/\(0:Nat)+1<=([(mdO (Px.part l (some (a:Int)) (some (i:Int))))]:List opS.D).length/\(([(mdO (Px.part l (some (a:Int)) (some (i:Int))))]:List opS.D)).length<2 ^ 30/\(56:Nat)<=2 ^ 10/\R (hd Tryd.f65 0) { env:=[(0,.sl syS l),(3,.win true opS 36 0 (1:Nat)),(4,.i (i:Int)),(5,.i (i64.wrap ((i:Int)+1)))],blk:=[(35,.row 55 opS ([(mdO (Px.part l (some (a:Int)) (some (i:Int))))]:List opS.D)),(36,.row 55 opS (([(mdO (Px.part l (some (a:Int)) (some (i:Int))))]:List opS.D)))] }) (R (hd Tryd.f65 0) { env:=[(0,.sl syS l),(3,.nils),(4,.i (a:Int)),(5,.i (i64.wrap ((i:Int)+1)))],blk:=[] }))) (Q [.nils] [])):=by kernel_rfl
theorem q5l (l:List SyT) (o:List OpT) (a i:Nat) (Q:QT) (R:RT):sA DO Tryd.f65 Q (λ it S=>R it (qaj [0,3,4,5] [3,35,36] S)) (hd Tryd.f65 0) ⟨[(0,.sl syS l),(3,.win true opS 3 0 o.length),(4,.i (a:Nat)),(5,.i (i:Nat))],[(3,.row 55 opS o)]⟩ =
  (bc (decide ((i:Int)<=(l.length:Int))) (bc (decide ((i:Int)=(l.length:Int))) (true=true/\(0:Int)<=(a:Int)/\(a:Int)<=(i:Int)/\(i:Int)<=(l.length:Int)/\ctMd.pre (Px.part l (some (a:Int)) (some (i:Int)),())/\(0:Nat)+1<=([(mdO (Px.part l (some (a:Int)) (some (i:Int))))]:List opS.D).length/\o.length=o.length/\(0:Nat)=(0:Nat)/\o.length+(([(mdO (Px.part l (some (a:Int)) (some (i:Int))))]:List opS.D)).length<2 ^ 30/\(56:Nat)<=2 ^ 10/\R (hd Tryd.f65 0) { env:=[(0,.sl syS l),(3,.win true opS 36 0 (o.length+(([(mdO (Px.part l (some (a:Int)) (some (i:Int))))]:List opS.D)).length)),(4,.i (i:Int)),(5,.i (i64.wrap ((i:Int)+1)))],blk:=[(35,.row 55 opS ([(mdO (Px.part l (some (a:Int)) (some (i:Int))))]:List opS.D)),(36,.row 55 opS (o++([(mdO (Px.part l (some (a:Int)) (some (i:Int))))]:List opS.D)))] }) ((0:Int)<=i64.wrap ((i:Int)-1)/\i64.wrap ((i:Int)-1)<(l.length:Int)/\(0:Int)<=(i:Int)/\(i:Int)<(l.length:Int)/\ctGo.pre ((gtY l (i64.wrap ((i:Int)-1)).toNat),(gtY l (i:Int).toNat),())/\bc (bif false then true else !goB (gtY l (i64.wrap ((i:Int)-1)).toNat) (gtY l (i:Int).toNat)) ((0:Int)<=(a:Int)/\(a:Int)<=(i:Int)/\(i:Int)<=(l.length:Int)/\ctMd.pre (Px.part l (some (a:Int)) (some (i:Int)),())/\(0:Nat)+1<=([(mdO (Px.part l (some (a:Int)) (some (i:Int))))]:List opS.D).length/\o.length=o.length/\(0:Nat)=(0:Nat)/\o.length+(([(mdO (Px.part l (some (a:Int)) (some (i:Int))))]:List opS.D)).length<2 ^ 30/\(56:Nat)<=2 ^ 10/\R (hd Tryd.f65 0) { env:=[(0,.sl syS l),(3,.win true opS 36 0 (o.length+(([(mdO (Px.part l (some (a:Int)) (some (i:Int))))]:List opS.D)).length)),(4,.i (i:Int)),(5,.i (i64.wrap ((i:Int)+1)))],blk:=[(35,.row 55 opS ([(mdO (Px.part l (some (a:Int)) (some (i:Int))))]:List opS.D)),(36,.row 55 opS (o++([(mdO (Px.part l (some (a:Int)) (some (i:Int))))]:List opS.D)))] }) (R (hd Tryd.f65 0) { env:=[(0,.sl syS l),(3,.win true opS 3 0 o.length),(4,.i (a:Int)),(5,.i (i64.wrap ((i:Int)+1)))],blk:=[(3,.row 55 opS o)] }))) (Q [.win true opS 3 0 o.length] [(3,.row 55 opS o)])):=by kernel_rfl
theorem q5k (l:List SyT) (o:List OpT) (a i:Nat) (Q:QT) (R:RT):sA DO Tryd.f65 Q R (hd Tryd.f65 0) ⟨[(0,.sl syS l),(3,.sl opS o),(4,.i (a:Nat)),(5,.i (i:Nat))],[]⟩ =
  (bc (decide ((i:Int)<=(l.length:Int))) (bc (decide ((i:Int)=(l.length:Int))) (true=true/\(0:Int)<=(a:Int)/\(a:Int)<=(i:Int)/\(i:Int)<=(l.length:Int)/\ctMd.pre (Px.part l (some (a:Int)) (some (i:Int)),())/\False) ((0:Int)<=i64.wrap ((i:Int)-1)/\i64.wrap ((i:Int)-1)<(l.length:Int)/\(0:Int)<=(i:Int)/\(i:Int)<(l.length:Int)/\ctGo.pre ((gtY l (i64.wrap ((i:Int)-1)).toNat),(gtY l (i:Int).toNat),())/\bc (bif false then true else !goB (gtY l (i64.wrap ((i:Int)-1)).toNat) (gtY l (i:Int).toNat)) ((0:Int)<=(a:Int)/\(a:Int)<=(i:Int)/\(i:Int)<=(l.length:Int)/\ctMd.pre (Px.part l (some (a:Int)) (some (i:Int)),())/\False) (R (hd Tryd.f65 0) { env:=[(0,.sl syS l),(3,.sl opS o),(4,.i (a:Int)),(5,.i (i64.wrap ((i:Int)+1))),(6,.i (i:Int)),(7,.sl syS l),(8,.i (l.length:Int)),(9,.bool (decide ((i:Int)<=(l.length:Int)))),(10,.i (i:Int)),(11,.i (i64.wrap ((i:Int)+1))),(12,.i (i:Int)),(13,.sl syS l),(14,.i (l.length:Int)),(15,.bool (decide ((i:Int)=(l.length:Int)))),(16,.bool false),(17,.sl syS l),(18,.i (i:Int)),(19,.i (i64.wrap ((i:Int)-1))),(20,.elv syS (gtY l (i64.wrap ((i:Int)-1)).toNat)),(21,.agg (yI (gtY l (i64.wrap ((i:Int)-1)).toNat))),(22,.sl syS l),(23,.i (i:Int)),(24,.elv syS (gtY l (i:Int).toNat)),(25,.agg (yI (gtY l (i:Int).toNat))),(26,.bool (goB (gtY l (i64.wrap ((i:Int)-1)).toNat) (gtY l (i:Int).toNat))),(27,.bool !goB (gtY l (i64.wrap ((i:Int)-1)).toNat) (gtY l (i:Int).toNat)),(28,.bool (bif false then true else !goB (gtY l (i64.wrap ((i:Int)-1)).toNat) (gtY l (i:Int).toNat)))],blk:=[] }))) (Q [.sl opS o] [])):=by kernel_rfl
theorem winA {e:Sh} (l:List e.D):winL e 0 l.length l=l:=by
 show (List.drop 0 l).take l.length=l
 rw[List.drop_zero,List.take_of_length_le (Nat.le_refl _)]
theorem QC.mt {ct:Ctr} {x:DL ct.args} {rs:List SV} {blk:List (Nat × LB)} (h:MtL (λ _=>none) (ct.out x) rs) (hr:ct.rows x=[]):QC ct x rs blk:=⟨λ _=>none,h,by rw[hr];trivial,λ _ _ _ e=>by simp at e,by rw[hr];rfl⟩
theorem qx1 (k a:Int) (l:List SyT) (hl:l.length<16777216):∀ (n i:Nat) (b:List Int),l.length-i=n->i<=l.length->b.length=l.length->(∀ j,j<i->b[j]?=(l.map λ s=>s.2.2)[j]?) ->
  GD 71 Tryd.f71 (λ rs _=>rs=[.agg [.i k,.i a,.i l.length,.u 0,.sl uB (l.map λ s=>s.2.2)]]) (hd Tryd.f71 0) ⟨[(2,.ptr 2 0),(3,.ptr 3 0),(25,.sl syS l),(26,.i l.length),(27,.i (i:Nat))],[(2,.var [.i 0,.i 0,.i 0,.u 0,.nils]),(3,.var [.i k,.i a,.i l.length,.u 0,.win true uB 23 0 b.length]),(23,.row 5 uB b)]⟩:=by
 intro n
 induction n with
 | zero=>
  intro i b hk hi hb hj;have hi:i=l.length:=by omega
  subst hi;have hbl:b=l.map λ s=>s.2.2:=by
   refine List.ext_getElem? λ j=>?_
   by_cases h:j<l.length
   ·exact hj j h
   ·rw[List.getElem?_eq_none (by omega),List.getElem?_eq_none (by rw[List.length_map];omega)]
  refine Good.frz (i:=23) (e:=uB) (et:=5) (xs:=b) rfl (λ c hc=>?_) ?_
  ·have hc:c∈[0+b.length<=b.length]:=hc;rw[List.mem_singleton] at hc;subst hc;omega
  ·have e:GD 71 Tryd.f71 (λ rs _=>rs=[.agg [.i k,.i a,.i l.length,.u 0,.sl uB (l.map λ s=>s.2.2)]]) (hd Tryd.f71 0) ⟨[(2,.ptr 2 0),(3,.ptr 3 0),(25,.sl syS l),(26,.i l.length),(27,.i (l.length:Nat))],[(2,.var [.i 0,.i 0,.i 0,.u 0,.nils]),(3,.var [.i k,.i a,.i l.length,.u 0,.sl uB (winL uB 0 b.length b)])]⟩:=by
    refine qak cx1 _ _ _ ((qzu k a (winL uB 0 b.length b) l l.length _ _).mpr ?_);rw[decide_eq_false (by omega),bc_f,winA,hbl]
   exact e.only ⟨rfl,rfl,rfl,rfl,rfl,trivial⟩ ⟨rfl,rfl,trivial⟩
 | succ n ih=>
  intro i b hk hi hb hj;have hil:i<l.length:=by omega
  refine qak cx1 _ _ _ ((qzt k a b l i _ _).mpr ?_);rw[decide_eq_true (show (i:Int)<(l.length:Int) by omega),bc_t,Int.toNat_natCast,qjd hil,IntWalk.i64_in ((i:Int)+1) (by omega),Nat.zero_add];refine ⟨by omega,by omega,by omega,by omega,by omega,?_⟩;refine (ih (i+1) (b.set i l[i].2.2) (by omega) (by omega) (by rw[List.length_set];exact hb) (λ j h=>?_)).only ⟨rfl,rfl,rfl,rfl,rfl,trivial⟩ ⟨rfl,?_,rfl,trivial⟩
  ·rw[List.getElem?_set];by_cases hji:i=j
   ·subst hji;rw[if_pos rfl,if_pos (by omega),List.getElem?_map,List.getElem?_eq_getElem hil];rfl
   ·rw[if_neg hji];exact hj j (by omega)
  ·rw[List.length_set];rfl
theorem qx2:Held Tryd.prog G0 71 ctMd:=by
 refine Held.run cx1 (fn:=Tryd.f71) rfl rfl ⟨by decide,by decide⟩ ?_;rintro ⟨l,⟨⟩⟩ hp;obtain ⟨h0,h1⟩:qt4 l:=hp;refine (q5o l _ _).mpr ⟨Int.le_refl 0,by omega,trivial,Int.le_refl 0,by omega,qaf (λ h=>?_) (λ h=>?_)⟩
 ·have h:=of_decide_eq_true h;refine QC.mt ?_ rfl
  show MtL _ (mdV (mdO l)) _
  unfold mdO;rw[if_pos h];exact ⟨_,_,rfl,⟨_,rfl,_,_,rfl,rfl,_,_,rfl,rfl,_,_,rfl,rfl,_,_,rfl,rfl,_,_,rfl,.inr ⟨rfl,rfl⟩,rfl⟩,rfl⟩
 ·have h:=of_decide_eq_false h;refine ⟨by omega,by omega,?_,?_,?_⟩
  ·show (l.length:Int)<16777216
   omega
  ·show (1:Int)*(l.length:Int)<=281474976710656
   omega
  ·refine ((qx1 (kndB (gtY l 0)) (gtY l 0).2.1 l h1 _ 0 (List.replicate (l.length:Int).toNat 0) rfl (by omega) (by rw[List.length_replicate,Int.toNat_natCast]) (λ j h=>by omega)).post λ rs blk hq=>QC.flat ?_ rfl (by rw[hq];rfl)).only ⟨rfl,rfl,rfl,rfl,rfl,trivial⟩ ⟨rfl,?_,rfl,trivial⟩
   ·rw[hq]
    show mdV (mdO l)=_
    unfold mdO;rw[if_neg h];rfl
   ·rw[List.length_replicate];rfl
theorem dxO:CxOK Tryd.prog tt G0 DO:=(cx1.k q8i (fn:=Tryd.f70)).k qx2 (fn:=Tryd.f71)
abbrev ptL (l:List SyT) (a i:Nat):List SyT:=Px.part l (some (a:Int)) (some (i:Int))
theorem qw7 {l:List SyT} {a i:Nat} (h:a<=i) (hi:i<=l.length):(ptL l a i).length=i-a:=by
 simp[ptL,Px.part];omega
def opsF (l:List SyT):Nat->Nat->Nat->List OpT
 | 0,_,_=>[]
 | k+1,a,i=>if i=l.length\/goB (gtY l (i-1)) (gtY l i)=false then mdO (ptL l a i)::opsF l k i (i+1) else opsF l k a (i+1)
def opsL (l:List SyT):List OpT:=opsF l l.length 0 1
def ctOps:Ctr:=⟨[.sl syS],λ x=>qt4 x.1,λ x=>[.sl opS (opsL x.1)],λ _=>[]⟩
theorem cut1 {l:List SyT} {k a i:Nat} (h:i=l.length\/goB (gtY l (i-1)) (gtY l i)=false):opsF l (k+1) a i=mdO (ptL l a i)::opsF l k i (i+1):=by rw[opsF,if_pos h]
theorem cut0 {l:List SyT} {k a i:Nat} (h:¬ (i=l.length\/goB (gtY l (i-1)) (gtY l i)=false)):opsF l (k+1) a i=opsF l k a (i+1):=by rw[opsF,if_neg h]
abbrev OQ (x:List OpT):List SV->List (Nat × LB)->Prop:=λ rs _=>rs=[.sl opS x]
theorem qxg (l:List SyT) (hl:l.length<16777216):∀ (k a i:Nat) (o:List OpT),l.length+1-i=k->1<=i->i<=l.length+1->a<i->o.length<=i ->
  GD 65 Tryd.f65 (OQ (o++opsF l k a i)) (hd Tryd.f65 0) ⟨[(0,.sl syS l),(3,.win true opS 3 0 o.length),(4,.i (a:Nat)),(5,.i (i:Nat))],[(3,.row 55 opS o)]⟩:=by
 intro k
 induction k with
 | zero=>
  intro a i o hk h1 hi ha ho;have hi:i=l.length+1:=by omega
  subst hi;refine Good.frz (i:=3) (e:=opS) (et:=55) (xs:=o) rfl (λ c hc=>?_) ?_
  ·have hc:c∈[0+o.length<=o.length]:=hc;rw[List.mem_singleton] at hc;subst hc;omega
  ·have e:GD 65 Tryd.f65 (OQ (o++opsF l 0 a (l.length+1))) (hd Tryd.f65 0) ⟨[(0,.sl syS l),(3,.sl opS (winL opS 0 o.length o)),(4,.i (a:Nat)),(5,.i ((l.length+1:Nat):Int))],[]⟩:=by
    refine qak dxO _ _ _ ((q5k l (winL opS 0 o.length o) a (l.length+1) _ _).mpr ?_);rw[decide_eq_false (by omega),bc_f,winA,opsF,List.append_nil]
   exact e.only ⟨rfl,rfl,rfl,rfl,trivial⟩ trivial
 | succ k ih=>
  intro a i o hk h1 hi ha ho;have hil:i<=l.length:=by omega
  have hpt:qt4 (ptL l a i):=by
   have:=qw7 (l:=l) (a:=a) (i:=i) (by omega) hil;exact ⟨by omega,by omega⟩
  have wi:IntKind.i64.wrap ((i:Int)+1)=((i+1:Nat):Int):=by rw[IntWalk.i64_in _ (by omega)];omega
  have wj:IntKind.i64.wrap ((i:Int)-1)=((i-1:Nat):Int):=by rw[IntWalk.i64_in _ (by omega)];omega
  have step:(i=l.length\/goB (gtY l (i-1)) (gtY l i)=false)->GD 65 Tryd.f65 (OQ (o++opsF l (k+1) a i)) (hd Tryd.f65 0) ⟨[(0,.sl syS l),(3,.win true opS 3 0 (o++[mdO (ptL l a i)]).length),(4,.i (i:Nat)),(5,.i ((i+1:Nat):Int))],[(3,.row 55 opS (o++[mdO (ptL l a i)]))]⟩:=λ h=>by
   rw[cut1 h];have:=ih i (i+1) (o++[mdO (ptL l a i)]) (by omega) (by omega) (by omega) (by omega) (by rw[List.length_append,List.length_singleton];omega);rw[List.append_assoc] at this;exact this
  refine qah dxO (q5l l o a i _ _) ?_;rw[decide_eq_true (show (i:Int)<=(l.length:Int) by omega),bc_t,wi,wj,Int.toNat_natCast,Int.toNat_natCast];refine qaf (λ h=>?_) (λ h=>?_)
  ·have h:=of_decide_eq_true h;refine ⟨rfl,by omega,by omega,by omega,hpt,Nat.le_refl 1,rfl,rfl,?_,by decide,?_⟩
   ·show o.length+1<2 ^ 30
    omega
   ·exact (step (.inl (by omega))).onlyR [(3,36)] rfl ⟨rfl,by rw[List.length_append];rfl,rfl,rfl,trivial⟩ ⟨rfl,trivial⟩
  ·have h:=of_decide_eq_false h;refine ⟨by omega,by omega,by omega,by omega,trivial,qaf (λ h2=>?_) (λ h2=>?_)⟩
   ·have h2:goB (gtY l (i-1)) (gtY l i)=false:=by
     have h2:(!goB (gtY l (i-1)) (gtY l i))=true:=h2;simpa using h2
    refine ⟨by omega,by omega,by omega,hpt,Nat.le_refl 1,rfl,rfl,?_,by decide,?_⟩
    ·show o.length+1<2 ^ 30
     omega
    ·exact (step (.inr h2)).onlyR [(3,36)] rfl ⟨rfl,by rw[List.length_append];rfl,rfl,rfl,trivial⟩ ⟨rfl,trivial⟩
   ·have h2:goB (gtY l (i-1)) (gtY l i)=true:=by
     have h2:(!goB (gtY l (i-1)) (gtY l i))=false:=h2;simpa using h2
    rw[cut0 (λ q=>by rcases q with q | q;exact h (by omega);rw[h2] at q;cases q)];exact (ih a (i+1) o (by omega) (by omega) (by omega) (by omega) (by omega)).only ⟨rfl,rfl,rfl,rfl,trivial⟩ ⟨rfl,trivial⟩
theorem qxh (l:List SyT) (hl:l.length<16777216):∀ (k a i:Nat),l.length+1-i=k->1<=i->i<=l.length->a<i ->
  GD 65 Tryd.f65 (OQ (opsF l k a i)) (hd Tryd.f65 0) ⟨[(0,.sl syS l),(3,.nils),(4,.i (a:Nat)),(5,.i (i:Nat))],[]⟩:=by
 intro k
 induction k with
 | zero=>intro a i hk h1 hi ha;omega
 | succ k ih=>
  intro a i hk h1 hil ha;have hpt:qt4 (ptL l a i):=by
   have:=qw7 (l:=l) (a:=a) (i:=i) (by omega) hil;exact ⟨by omega,by omega⟩
  have wi:IntKind.i64.wrap ((i:Int)+1)=((i+1:Nat):Int):=by rw[IntWalk.i64_in _ (by omega)];omega
  have wj:IntKind.i64.wrap ((i:Int)-1)=((i-1:Nat):Int):=by rw[IntWalk.i64_in _ (by omega)];omega
  have step:(i=l.length\/goB (gtY l (i-1)) (gtY l i)=false)->GD 65 Tryd.f65 (OQ (opsF l (k+1) a i)) (hd Tryd.f65 0) ⟨[(0,.sl syS l),(3,.win true opS 3 0 1),(4,.i (i:Nat)),(5,.i ((i+1:Nat):Int))],[(3,.row 55 opS [mdO (ptL l a i)])]⟩:=λ h=>by
   rw[cut1 h];exact qxg l hl k i (i+1) [mdO (ptL l a i)] (by omega) (by omega) (by omega) (by omega) (by simp)
  refine qah dxO (qvj l a i _ _) ?_;rw[decide_eq_true (show (i:Int)<=(l.length:Int) by omega),bc_t,wi,wj,Int.toNat_natCast,Int.toNat_natCast];refine qaf (λ h=>?_) (λ h=>?_)
  ·have h:=of_decide_eq_true h;refine ⟨rfl,by omega,by omega,by omega,hpt,Nat.le_refl 1,(show 1<2 ^ 30 by decide),by decide,?_⟩;exact (step (.inl (by omega))).onlyR [(3,36)] rfl ⟨rfl,rfl,rfl,rfl,trivial⟩ ⟨rfl,trivial⟩
  ·have h:=of_decide_eq_false h;refine ⟨by omega,by omega,by omega,by omega,trivial,qaf (λ h2=>?_) (λ h2=>?_)⟩
   ·have h2:goB (gtY l (i-1)) (gtY l i)=false:=by
     have h2:(!goB (gtY l (i-1)) (gtY l i))=true:=h2;simpa using h2
    refine ⟨by omega,by omega,by omega,hpt,Nat.le_refl 1,(show 1<2 ^ 30 by decide),by decide,?_⟩;exact (step (.inr h2)).onlyR [(3,36)] rfl ⟨rfl,rfl,rfl,rfl,trivial⟩ ⟨rfl,trivial⟩
   ·have h2:goB (gtY l (i-1)) (gtY l i)=true:=by
     have h2:(!goB (gtY l (i-1)) (gtY l i))=false:=h2;simpa using h2
    rw[cut0 (λ q=>by rcases q with q | q;exact h (by omega);rw[h2] at q;cases q)];exact (ih a (i+1) (by omega) (by omega) (by omega) (by omega)).only ⟨rfl,rfl,rfl,rfl,trivial⟩ trivial
theorem q1f:Held Tryd.prog G0 65 ctOps:=by
 refine Held.run dxO (fn:=Tryd.f65) rfl rfl ⟨by decide,by decide⟩ ?_;rintro ⟨l,⟨⟩⟩ hp;obtain ⟨h0,h1⟩:qt4 l:=hp;refine (q3w l _ _).mpr ?_;exact ((qxh l h1 l.length 0 1 (by omega) (by omega) (by omega) (by omega)).post λ rs blk hq=>QC.flat (by rw[hq];rfl) rfl (by rw[hq];rfl)).only ⟨rfl,rfl,rfl,rfl,trivial⟩ trivial
theorem qz1 (k f n b:Int) (d:List Int) (o:List SyT) (Q:QT) (R:RT):sA [] Tryd.f99 Q R [.code (qad Tryd.f99)] (qb1 [.dat opS,.row 82 syS] ((k,f,n,b,d),o,())) =
  (R (hd Tryd.f99 0) { env:=[(0,.agg [.i k,.i f,.i n,.u b,.sl uB d]),(1,.win true syS 1099511627776 0 o.length),(2,.ptr 2 0),(4,.nils),(6,.ptr 2 2),(7,.i n),(8,.i 0)],blk:=[(2,.var [.i k,.i f,.i n,.u b,.sl uB d]),(1099511627776,.row 82 syS o)] }):=by kernel_rfl
theorem qvw (k f n b:Int) (d:List Int) (o:List SyT) (i:Nat) (Q:QT) (R:RT):sA [] Tryd.f99 Q R (hd Tryd.f99 0) ⟨[(1,.win true syS 1099511627776 0 o.length),(2,.ptr 2 0),(7,.i n),(8,.i (i:Nat))],[(2,.var [.i k,.i f,.i n,.u b,.sl uB d]),(1099511627776,.row 82 syS o)]⟩ =
  (bc (decide ((i:Int)<n)) ((0:Nat)+1<=([(true,i64.wrap (f+(i:Int)),(0:Int))]:List syS.D).length/\o.length=o.length/\(0:Nat)=(0:Nat)/\o.length+(winL syS 0 1 ([(true,i64.wrap (f+(i:Int)),(0:Int))]:List syS.D)).length<2 ^ 30/\(24:Nat)<=2 ^ 10/\R (hd Tryd.f99 0) { env:=[(1,.win true syS 18 0 (o.length+(winL syS 0 1 ([(true,i64.wrap (f+(i:Int)),(0:Int))]:List syS.D)).length)),(2,.ptr 2 0),(5,.i (i:Int)),(7,.i n),(8,.i (i64.wrap ((i:Int)+1))),(9,.bool (decide ((i:Int)<n))),(10,.i (i:Int)),(11,.dead),(12,.ptr 2 1),(13,.i f),(14,.i (i:Int)),(15,.i (i64.wrap (f+(i:Int)))),(16,.agg [.bool true,.i (i64.wrap (f+(i:Int))),.u 0]),(17,.win true syS 17 0 (1:Nat)),(18,.win true syS 18 0 (o.length+(winL syS 0 1 ([(true,i64.wrap (f+(i:Int)),(0:Int))]:List syS.D)).length)),(19,.i (i64.wrap ((i:Int)+1)))],blk:=[(2,.var [.i k,.i f,.i n,.u b,.sl uB d]),(17,.row 82 syS ([(true,i64.wrap (f+(i:Int)),(0:Int))]:List syS.D)),(18,.row 82 syS (o++([(true,i64.wrap (f+(i:Int)),(0:Int))]:List syS.D)))] }) (Q [.win true syS 1099511627776 0 o.length] [(2,.var [.i k,.i f,.i n,.u b,.sl uB d]),(1099511627776,.row 82 syS o)])):=by kernel_rfl
theorem qod (k f n b:Int) (d:List Int) (o:List SyT) (i:Nat) (Q:QT) (R:RT):sA [] Tryd.f99 Q R (hd Tryd.f99 0) ⟨[(1,.win true syS 1 0 o.length),(2,.ptr 2 0),(7,.i n),(8,.i (i:Nat))],[(2,.var [.i k,.i f,.i n,.u b,.sl uB d]),(1,.row 82 syS o)]⟩ =
  (bc (decide ((i:Int)<n)) ((0:Nat)+1<=([(true,i64.wrap (f+(i:Int)),(0:Int))]:List syS.D).length/\o.length=o.length/\(0:Nat)=(0:Nat)/\o.length+(winL syS 0 1 ([(true,i64.wrap (f+(i:Int)),(0:Int))]:List syS.D)).length<2 ^ 30/\(24:Nat)<=2 ^ 10/\R (hd Tryd.f99 0) { env:=[(1,.win true syS 18 0 (o.length+(winL syS 0 1 ([(true,i64.wrap (f+(i:Int)),(0:Int))]:List syS.D)).length)),(2,.ptr 2 0),(5,.i (i:Int)),(7,.i n),(8,.i (i64.wrap ((i:Int)+1))),(9,.bool (decide ((i:Int)<n))),(10,.i (i:Int)),(11,.dead),(12,.ptr 2 1),(13,.i f),(14,.i (i:Int)),(15,.i (i64.wrap (f+(i:Int)))),(16,.agg [.bool true,.i (i64.wrap (f+(i:Int))),.u 0]),(17,.win true syS 17 0 (1:Nat)),(18,.win true syS 18 0 (o.length+(winL syS 0 1 ([(true,i64.wrap (f+(i:Int)),(0:Int))]:List syS.D)).length)),(19,.i (i64.wrap ((i:Int)+1)))],blk:=[(2,.var [.i k,.i f,.i n,.u b,.sl uB d]),(17,.row 82 syS ([(true,i64.wrap (f+(i:Int)),(0:Int))]:List syS.D)),(18,.row 82 syS (o++([(true,i64.wrap (f+(i:Int)),(0:Int))]:List syS.D)))] }) (Q [.win true syS 1 0 o.length] [(2,.var [.i k,.i f,.i n,.u b,.sl uB d]),(1,.row 82 syS o)])):=by kernel_rfl
theorem qzz (k f n b:Int) (d:List Int) (o:List SyT) (Q:QT) (R:RT):sA [] Tryd.f103 Q R [.code (qad Tryd.f103)] (qb1 [.dat opS,.row 82 syS] ((k,f,n,b,d),o,())) =
  (R (hd Tryd.f103 0) { env:=[(0,.agg [.i k,.i f,.i n,.u b,.sl uB d]),(1,.win true syS 1099511627776 0 o.length),(2,.ptr 2 0),(4,.nils),(7,.ptr 2 4),(8,.sl uB d),(9,.i (d.length:Int)),(10,.i 0)],blk:=[(2,.var [.i k,.i f,.i n,.u b,.sl uB d]),(1099511627776,.row 82 syS o)] }):=by kernel_rfl
theorem qvv (k f n b:Int) (d:List Int) (o:List SyT) (i:Nat) (Q:QT) (R:RT):sA [] Tryd.f103 Q R (hd Tryd.f103 0) ⟨[(1,.win true syS 1099511627776 0 o.length),(2,.ptr 2 0),(8,.sl uB d),(9,.i d.length),(10,.i (i:Nat))],[(2,.var [.i k,.i f,.i n,.u b,.sl uB d]),(1099511627776,.row 82 syS o)]⟩ =
  (bc (decide ((i:Int)<(d.length:Int))) ((0:Int)<=(i:Int)/\(i:Int)<(d.length:Int)/\(0:Nat)+1<=([(true,i64.wrap (f+(i:Int)),gtB d (i:Int).toNat)]:List syS.D).length/\o.length=o.length/\(0:Nat)=(0:Nat)/\o.length+(winL syS 0 1 ([(true,i64.wrap (f+(i:Int)),gtB d (i:Int).toNat)]:List syS.D)).length<2 ^ 30/\(24:Nat)<=2 ^ 10/\R (hd Tryd.f103 0) { env:=[(1,.win true syS 23 0 (o.length+(winL syS 0 1 ([(true,i64.wrap (f+(i:Int)),gtB d (i:Int).toNat)]:List syS.D)).length)),(2,.ptr 2 0),(5,.i (i:Int)),(6,.u (gtB d (i:Int).toNat)),(8,.sl uB d),(9,.i (d.length:Int)),(10,.i (i64.wrap ((i:Int)+1))),(11,.bool (decide ((i:Int)<(d.length:Int)))),(12,.i (i:Int)),(13,.elv uB (gtB d (i:Int).toNat)),(14,.u (gtB d (i:Int).toNat)),(15,.dead),(16,.ptr 2 1),(17,.i f),(18,.i (i:Int)),(19,.i (i64.wrap (f+(i:Int)))),(20,.u (gtB d (i:Int).toNat)),(21,.agg [.bool true,.i (i64.wrap (f+(i:Int))),.u (gtB d (i:Int).toNat)]),(22,.win true syS 22 0 (1:Nat)),(23,.win true syS 23 0 (o.length+(winL syS 0 1 ([(true,i64.wrap (f+(i:Int)),gtB d (i:Int).toNat)]:List syS.D)).length)),(24,.i (i64.wrap ((i:Int)+1)))],blk:=[(2,.var [.i k,.i f,.i n,.u b,.sl uB d]),(22,.row 82 syS ([(true,i64.wrap (f+(i:Int)),gtB d (i:Int).toNat)]:List syS.D)),(23,.row 82 syS (o++([(true,i64.wrap (f+(i:Int)),gtB d (i:Int).toNat)]:List syS.D)))] }) (Q [.win true syS 1099511627776 0 o.length] [(2,.var [.i k,.i f,.i n,.u b,.sl uB d]),(1099511627776,.row 82 syS o)])):=by kernel_rfl
theorem qoc (k f n b:Int) (d:List Int) (o:List SyT) (i:Nat) (Q:QT) (R:RT):sA [] Tryd.f103 Q R (hd Tryd.f103 0) ⟨[(1,.win true syS 1 0 o.length),(2,.ptr 2 0),(8,.sl uB d),(9,.i d.length),(10,.i (i:Nat))],[(2,.var [.i k,.i f,.i n,.u b,.sl uB d]),(1,.row 82 syS o)]⟩ =
  (bc (decide ((i:Int)<(d.length:Int))) ((0:Int)<=(i:Int)/\(i:Int)<(d.length:Int)/\(0:Nat)+1<=([(true,i64.wrap (f+(i:Int)),gtB d (i:Int).toNat)]:List syS.D).length/\o.length=o.length/\(0:Nat)=(0:Nat)/\o.length+(winL syS 0 1 ([(true,i64.wrap (f+(i:Int)),gtB d (i:Int).toNat)]:List syS.D)).length<2 ^ 30/\(24:Nat)<=2 ^ 10/\R (hd Tryd.f103 0) { env:=[(1,.win true syS 23 0 (o.length+(winL syS 0 1 ([(true,i64.wrap (f+(i:Int)),gtB d (i:Int).toNat)]:List syS.D)).length)),(2,.ptr 2 0),(5,.i (i:Int)),(6,.u (gtB d (i:Int).toNat)),(8,.sl uB d),(9,.i (d.length:Int)),(10,.i (i64.wrap ((i:Int)+1))),(11,.bool (decide ((i:Int)<(d.length:Int)))),(12,.i (i:Int)),(13,.elv uB (gtB d (i:Int).toNat)),(14,.u (gtB d (i:Int).toNat)),(15,.dead),(16,.ptr 2 1),(17,.i f),(18,.i (i:Int)),(19,.i (i64.wrap (f+(i:Int)))),(20,.u (gtB d (i:Int).toNat)),(21,.agg [.bool true,.i (i64.wrap (f+(i:Int))),.u (gtB d (i:Int).toNat)]),(22,.win true syS 22 0 (1:Nat)),(23,.win true syS 23 0 (o.length+(winL syS 0 1 ([(true,i64.wrap (f+(i:Int)),gtB d (i:Int).toNat)]:List syS.D)).length)),(24,.i (i64.wrap ((i:Int)+1)))],blk:=[(2,.var [.i k,.i f,.i n,.u b,.sl uB d]),(22,.row 82 syS ([(true,i64.wrap (f+(i:Int)),gtB d (i:Int).toNat)]:List syS.D)),(23,.row 82 syS (o++([(true,i64.wrap (f+(i:Int)),gtB d (i:Int).toNat)]:List syS.D)))] }) (Q [.win true syS 1 0 o.length] [(2,.var [.i k,.i f,.i n,.u b,.sl uB d]),(1,.row 82 syS o)])):=by kernel_rfl
theorem q5e (k f n b:Int) (d:List Int) (o:List SyT) (Q:QT) (R:RT):sA [] Tryd.f106 Q R [.code (qad Tryd.f106)] (qb1 [.dat opS,.row 82 syS] ((k,f,n,b,d),o,())) =
  (R (hd Tryd.f106 0) { env:=[(0,.agg [.i k,.i f,.i n,.u b,.sl uB d]),(1,.win true syS 1099511627776 0 o.length),(2,.ptr 2 0),(4,.nils),(5,.ptr 2 2),(6,.i n),(7,.i 0)],blk:=[(2,.var [.i k,.i f,.i n,.u b,.sl uB d]),(1099511627776,.row 82 syS o)] }):=by kernel_rfl
theorem qzp (k f n b:Int) (d:List Int) (o:List SyT) (i:Nat) (Q:QT) (R:RT):sA [] Tryd.f106 Q R (hd Tryd.f106 0) ⟨[(1,.win true syS 1099511627776 0 o.length),(2,.ptr 2 0),(6,.i n),(7,.i (i:Nat))],[(2,.var [.i k,.i f,.i n,.u b,.sl uB d]),(1099511627776,.row 82 syS o)]⟩ =
  (bc (decide ((i:Int)<n)) ((0:Nat)+1<=([(false,(0:Int),b)]:List syS.D).length/\o.length=o.length/\(0:Nat)=(0:Nat)/\o.length+(winL syS 0 1 ([(false,(0:Int),b)]:List syS.D)).length<2 ^ 30/\(24:Nat)<=2 ^ 10/\R (hd Tryd.f106 0) { env:=[(1,.win true syS 14 0 (o.length+(winL syS 0 1 ([(false,(0:Int),b)]:List syS.D)).length)),(2,.ptr 2 0),(6,.i n),(7,.i (i64.wrap ((i:Int)+1))),(8,.bool (decide ((i:Int)<n))),(9,.dead),(10,.ptr 2 3),(11,.u b),(12,.agg [.bool false,.i 0,.u b]),(13,.win true syS 13 0 (1:Nat)),(14,.win true syS 14 0 (o.length+(winL syS 0 1 ([(false,(0:Int),b)]:List syS.D)).length)),(15,.i (i64.wrap ((i:Int)+1)))],blk:=[(2,.var [.i k,.i f,.i n,.u b,.sl uB d]),(13,.row 82 syS ([(false,(0:Int),b)]:List syS.D)),(14,.row 82 syS (o++([(false,(0:Int),b)]:List syS.D)))] }) (Q [.win true syS 1099511627776 0 o.length] [(2,.var [.i k,.i f,.i n,.u b,.sl uB d]),(1099511627776,.row 82 syS o)])):=by kernel_rfl
theorem qrh (k f n b:Int) (d:List Int) (o:List SyT) (i:Nat) (Q:QT) (R:RT):sA [] Tryd.f106 Q R (hd Tryd.f106 0) ⟨[(1,.win true syS 1 0 o.length),(2,.ptr 2 0),(6,.i n),(7,.i (i:Nat))],[(2,.var [.i k,.i f,.i n,.u b,.sl uB d]),(1,.row 82 syS o)]⟩ =
  (bc (decide ((i:Int)<n)) ((0:Nat)+1<=([(false,(0:Int),b)]:List syS.D).length/\o.length=o.length/\(0:Nat)=(0:Nat)/\o.length+(winL syS 0 1 ([(false,(0:Int),b)]:List syS.D)).length<2 ^ 30/\(24:Nat)<=2 ^ 10/\R (hd Tryd.f106 0) { env:=[(1,.win true syS 14 0 (o.length+(winL syS 0 1 ([(false,(0:Int),b)]:List syS.D)).length)),(2,.ptr 2 0),(6,.i n),(7,.i (i64.wrap ((i:Int)+1))),(8,.bool (decide ((i:Int)<n))),(9,.dead),(10,.ptr 2 3),(11,.u b),(12,.agg [.bool false,.i 0,.u b]),(13,.win true syS 13 0 (1:Nat)),(14,.win true syS 14 0 (o.length+(winL syS 0 1 ([(false,(0:Int),b)]:List syS.D)).length)),(15,.i (i64.wrap ((i:Int)+1)))],blk:=[(2,.var [.i k,.i f,.i n,.u b,.sl uB d]),(13,.row 82 syS ([(false,(0:Int),b)]:List syS.D)),(14,.row 82 syS (o++([(false,(0:Int),b)]:List syS.D)))] }) (Q [.win true syS 1 0 o.length] [(2,.var [.i k,.i f,.i n,.u b,.sl uB d]),(1,.row 82 syS o)])):=by kernel_rfl
theorem q5q (k f n b:Int) (d:List Int) (o:List SyT) (Q:QT) (R:RT):sA [] Tryd.f109 Q R [.code (qad Tryd.f109)] (qb1 [.dat opS,.row 82 syS] ((k,f,n,b,d),o,())) =
  (R (hd Tryd.f109 0) { env:=[(0,.agg [.i k,.i f,.i n,.u b,.sl uB d]),(1,.win true syS 1099511627776 0 o.length),(2,.ptr 2 0),(4,.nils),(7,.ptr 2 4),(8,.sl uB d),(9,.i (d.length:Int)),(10,.i 0)],blk:=[(2,.var [.i k,.i f,.i n,.u b,.sl uB d]),(1099511627776,.row 82 syS o)] }):=by kernel_rfl
theorem qzw (k f n b:Int) (d:List Int) (o:List SyT) (i:Nat) (Q:QT) (R:RT):sA [] Tryd.f109 Q R (hd Tryd.f109 0) ⟨[(1,.win true syS 1099511627776 0 o.length),(2,.ptr 2 0),(8,.sl uB d),(9,.i d.length),(10,.i (i:Nat))],[(2,.var [.i k,.i f,.i n,.u b,.sl uB d]),(1099511627776,.row 82 syS o)]⟩ =
  (bc (decide ((i:Int)<(d.length:Int))) ((0:Int)<=(i:Int)/\(i:Int)<(d.length:Int)/\(0:Nat)+1<=([(false,(0:Int),gtB d (i:Int).toNat)]:List syS.D).length/\o.length=o.length/\(0:Nat)=(0:Nat)/\o.length+(winL syS 0 1 ([(false,(0:Int),gtB d (i:Int).toNat)]:List syS.D)).length<2 ^ 30/\(24:Nat)<=2 ^ 10/\R (hd Tryd.f109 0) { env:=[(1,.win true syS 18 0 (o.length+(winL syS 0 1 ([(false,(0:Int),gtB d (i:Int).toNat)]:List syS.D)).length)),(2,.ptr 2 0),(6,.u (gtB d (i:Int).toNat)),(8,.sl uB d),(9,.i (d.length:Int)),(10,.i (i64.wrap ((i:Int)+1))),(11,.bool (decide ((i:Int)<(d.length:Int)))),(12,.elv uB (gtB d (i:Int).toNat)),(13,.u (gtB d (i:Int).toNat)),(14,.dead),(15,.u (gtB d (i:Int).toNat)),(16,.agg [.bool false,.i 0,.u (gtB d (i:Int).toNat)]),(17,.win true syS 17 0 (1:Nat)),(18,.win true syS 18 0 (o.length+(winL syS 0 1 ([(false,(0:Int),gtB d (i:Int).toNat)]:List syS.D)).length)),(19,.i (i64.wrap ((i:Int)+1)))],blk:=[(2,.var [.i k,.i f,.i n,.u b,.sl uB d]),(17,.row 82 syS ([(false,(0:Int),gtB d (i:Int).toNat)]:List syS.D)),(18,.row 82 syS (o++([(false,(0:Int),gtB d (i:Int).toNat)]:List syS.D)))] }) (Q [.win true syS 1099511627776 0 o.length] [(2,.var [.i k,.i f,.i n,.u b,.sl uB d]),(1099511627776,.row 82 syS o)])):=by kernel_rfl
theorem qrn (k f n b:Int) (d:List Int) (o:List SyT) (i:Nat) (Q:QT) (R:RT):sA [] Tryd.f109 Q R (hd Tryd.f109 0) ⟨[(1,.win true syS 1 0 o.length),(2,.ptr 2 0),(8,.sl uB d),(9,.i d.length),(10,.i (i:Nat))],[(2,.var [.i k,.i f,.i n,.u b,.sl uB d]),(1,.row 82 syS o)]⟩ =
  (bc (decide ((i:Int)<(d.length:Int))) ((0:Int)<=(i:Int)/\(i:Int)<(d.length:Int)/\(0:Nat)+1<=([(false,(0:Int),gtB d (i:Int).toNat)]:List syS.D).length/\o.length=o.length/\(0:Nat)=(0:Nat)/\o.length+(winL syS 0 1 ([(false,(0:Int),gtB d (i:Int).toNat)]:List syS.D)).length<2 ^ 30/\(24:Nat)<=2 ^ 10/\R (hd Tryd.f109 0) { env:=[(1,.win true syS 18 0 (o.length+(winL syS 0 1 ([(false,(0:Int),gtB d (i:Int).toNat)]:List syS.D)).length)),(2,.ptr 2 0),(6,.u (gtB d (i:Int).toNat)),(8,.sl uB d),(9,.i (d.length:Int)),(10,.i (i64.wrap ((i:Int)+1))),(11,.bool (decide ((i:Int)<(d.length:Int)))),(12,.elv uB (gtB d (i:Int).toNat)),(13,.u (gtB d (i:Int).toNat)),(14,.dead),(15,.u (gtB d (i:Int).toNat)),(16,.agg [.bool false,.i 0,.u (gtB d (i:Int).toNat)]),(17,.win true syS 17 0 (1:Nat)),(18,.win true syS 18 0 (o.length+(winL syS 0 1 ([(false,(0:Int),gtB d (i:Int).toNat)]:List syS.D)).length)),(19,.i (i64.wrap ((i:Int)+1)))],blk:=[(2,.var [.i k,.i f,.i n,.u b,.sl uB d]),(17,.row 82 syS ([(false,(0:Int),gtB d (i:Int).toNat)]:List syS.D)),(18,.row 82 syS (o++([(false,(0:Int),gtB d (i:Int).toNat)]:List syS.D)))] }) (Q [.win true syS 1 0 o.length] [(2,.var [.i k,.i f,.i n,.u b,.sl uB d]),(1,.row 82 syS o)])):=by kernel_rfl
theorem QI.row {ct:CtrI} {x:DI ct.args} {rs:List SV} {blk:List (Nat × LB)} {e:Sh} {et:TypeId} {a k:Nat} {xs:List e.D} (h:ct.out x=[.win true e 0 0 xs.length]) (hr:ct.blk x=[(0,.row et e xs)]) (hs:rs=[.win true e a 0 k]) (hk:k=xs.length) (hb:lk blk a=some (.row et e xs)) (ha:a<BIG):QI ct x rs blk:=by
 subst hs;subst hk;refine ⟨[(0,a)],?_,?_,by simp,λ p hp=>by simp at hp;subst hp;exact ha⟩
 ·rw[h];exact ⟨_,_,rfl,.inl ⟨true,a,rfl,rfl,λ h=>h⟩,rfl⟩
 ·rw[hr];exact ⟨.inl ⟨a,_,rfl,hb,rfl⟩,trivial⟩
def gen (el:Nat->SyT):Nat->Nat->List SyT
 | 0,_=>[]
 | k+1,i=>el i::gen el k (i+1)
theorem qns (el:Nat->SyT):∀ k i,(gen el k i).length=k
 | 0,_=>rfl
 | k+1,i=>by rw[gen,List.length_cons,qns el k]
def elO (t:Nat) (x:OpT) (i:Nat):SyT:=match t with
 | 1=>(true,IntKind.i64.wrap (x.2.1+i),0)
 | 2=>(true,IntKind.i64.wrap (x.2.1+i),gtB x.2.2.2.2 i)
 | 3=>(false,0,x.2.2.2.1)
 | _=>(false,0,gtB x.2.2.2.2 i)
def cntO (t:Nat) (x:OpT):Nat:=match t with
 | 1=>x.2.2.1.toNat
 | 3=>x.2.2.1.toNat
 | _=>x.2.2.2.2.length
def qaz (t:Nat) (x:OpT):List SyT:=gen (elO t x) (cntO t x) 0
def preA (t:Nat) (x:OpT) (o:List SyT):Prop:=1<=cntO t x/\o.length+cntO t x<268435456/\x.2.2.1<268435456
abbrev KA:List AK:=[.dat opS,.row 82 syS]
def ctA (t:Nat):CtrI:=⟨KA,λ x=>preA t x.1 x.2.1,λ x=>[.win true syS 0 0 (List.length (x.2.1++qaz t x.1))],λ x=>[(0,.row 82 syS (x.2.1++qaz t x.1))]⟩
abbrev GQ (t:Nat) (x:OpT) (o:List SyT):List SV->List (Nat × LB)->Prop:=QI (ctA t) (x,o,())
theorem quy (k f n b:Int) (d:List Int) (o0:List SyT) (hb:n<268435456/\True):∀ (c i:Nat) (o:List SyT),cntO 1 (k,f,n,b,d)-i=c->i<=cntO 1 (k,f,n,b,d)->o.length+c<268435456->o++gen (elO 1 (k,f,n,b,d)) c i=o0++qaz 1 (k,f,n,b,d) ->
  GD 99 Tryd.f99 (GQ 1 (k,f,n,b,d) o0) (hd Tryd.f99 0) ⟨[(1,.win true syS 1 0 o.length),(2,.ptr 2 0),(7,.i n),(8,.i (i:Nat))],[(2,.var [.i k,.i f,.i n,.u b,.sl uB d]),(1,.row 82 syS o)]⟩:=by
 intro c
 induction c with
 | zero=>
  intro i o hc hi hl he;have hn:cntO 1 (k,f,n,b,d)=n.toNat:=rfl;refine qak cx0 _ _ _ ((qod k f n b d o i _ _).mpr ?_);rw[decide_eq_false (by omega),bc_f];have he:o=o0++qaz 1 (k,f,n,b,d):=by simpa [gen] using he
  exact QI.row (e:=syS) (et:=82) (a:=1) (xs:=o0++qaz 1 (k,f,n,b,d)) rfl rfl (by rw[he]) rfl (by rw[he];rfl) (by decide)
 | succ c ih=>
  intro i o hc hi hl he;have hn:cntO 1 (k,f,n,b,d)=n.toNat:=rfl;refine qak cx0 _ _ _ ((qod k f n b d o i _ _).mpr ?_);rw[decide_eq_true (show (i:Int)<n by omega),bc_t,IntWalk.i64_in ((i:Int)+1) (by omega)];refine ⟨Nat.le_refl 1,rfl,rfl,?_,by decide,?_⟩
  ·show o.length+1<2 ^ 30
   omega
  ·refine Good.onlyR (ih (i+1) (o++[elO 1 (k,f,n,b,d) i]) (by omega) (by omega) (by rw[List.length_append,List.length_singleton];omega) (by rw[List.append_assoc];exact he)) [(1,18)] rfl ⟨by rw[List.length_append];rfl,rfl,rfl,rfl,trivial⟩ ⟨rfl,rfl,trivial⟩
theorem quz:HeldI Tryd.prog G0 99 (ctA 1):=by
 refine HeldI.run cx0 (fn:=Tryd.f99) rfl rfl ⟨by decide,by decide⟩ ?_;rintro ⟨⟨k,f,n,b,d⟩,o,⟨⟩⟩ hp;obtain ⟨h1,h2,h3⟩:preA 1 (k,f,n,b,d) o:=hp;have hn:cntO 1 (k,f,n,b,d)=n.toNat:=rfl;replace h3:n<268435456:=h3;refine (qz1 k f n b d o _ _).mpr ?_;have hb:n<268435456/\True:=⟨h3,trivial⟩;obtain ⟨c,hc⟩:∃ c,cntO 1 (k,f,n,b,d)=c+1:=⟨cntO 1 (k,f,n,b,d)-1,by omega⟩;have e:GD 99 Tryd.f99 (GQ 1 (k,f,n,b,d) o) (hd Tryd.f99 0) ⟨[(1,.win true syS 1099511627776 0 o.length),(2,.ptr 2 0),(7,.i n),(8,.i ((0:Nat):Int))],[(2,.var [.i k,.i f,.i n,.u b,.sl uB d]),(1099511627776,.row 82 syS o)]⟩:=by
  refine qak cx0 _ _ _ ((qvw k f n b d o 0 _ _).mpr ?_);rw[decide_eq_true (show ((0:Nat):Int)<n by omega),bc_t,IntWalk.i64_in (((0:Nat):Int)+1) (by omega)];refine ⟨Nat.le_refl 1,rfl,rfl,?_,by decide,?_⟩
  ·show o.length+1<2 ^ 30
   omega
  ·refine Good.onlyR (quy k f n b d o ⟨h3,trivial⟩ c 1 (o++[elO 1 (k,f,n,b,d) 0]) (by omega) (by omega) (by rw[List.length_append,List.length_singleton];omega) (by rw[List.append_assoc];unfold qaz;rw[hc];rfl)) [(1,18)] rfl ⟨by rw[List.length_append];rfl,rfl,rfl,rfl,trivial⟩ ⟨rfl,rfl,trivial⟩
 exact e.only ⟨rfl,rfl,rfl,rfl,trivial⟩ ⟨rfl,rfl,trivial⟩
theorem quu (k f n b:Int) (d:List Int) (o0:List SyT) (hb:n<268435456/\d.length<268435456):∀ (c i:Nat) (o:List SyT),cntO 2 (k,f,n,b,d)-i=c->i<=cntO 2 (k,f,n,b,d)->o.length+c<268435456->o++gen (elO 2 (k,f,n,b,d)) c i=o0++qaz 2 (k,f,n,b,d) ->
  GD 103 Tryd.f103 (GQ 2 (k,f,n,b,d) o0) (hd Tryd.f103 0) ⟨[(1,.win true syS 1 0 o.length),(2,.ptr 2 0),(8,.sl uB d),(9,.i d.length),(10,.i (i:Nat))],[(2,.var [.i k,.i f,.i n,.u b,.sl uB d]),(1,.row 82 syS o)]⟩:=by
 intro c
 induction c with
 | zero=>
  intro i o hc hi hl he;have hn:cntO 2 (k,f,n,b,d)=d.length:=rfl;refine qak cx0 _ _ _ ((qoc k f n b d o i _ _).mpr ?_);rw[decide_eq_false (by omega),bc_f];have he:o=o0++qaz 2 (k,f,n,b,d):=by simpa [gen] using he
  exact QI.row (e:=syS) (et:=82) (a:=1) (xs:=o0++qaz 2 (k,f,n,b,d)) rfl rfl (by rw[he]) rfl (by rw[he];rfl) (by decide)
 | succ c ih=>
  intro i o hc hi hl he;have hn:cntO 2 (k,f,n,b,d)=d.length:=rfl;refine qak cx0 _ _ _ ((qoc k f n b d o i _ _).mpr ?_);rw[decide_eq_true (show (i:Int)<(d.length:Int) by omega),bc_t,IntWalk.i64_in ((i:Int)+1) (by omega),Int.toNat_natCast];refine ⟨by omega,by omega,Nat.le_refl 1,rfl,rfl,?_,by decide,?_⟩
  ·show o.length+1<2 ^ 30
   omega
  ·refine Good.onlyR (ih (i+1) (o++[elO 2 (k,f,n,b,d) i]) (by omega) (by omega) (by rw[List.length_append,List.length_singleton];omega) (by rw[List.append_assoc];exact he)) [(1,23)] rfl ⟨by rw[List.length_append];rfl,rfl,rfl,rfl,rfl,trivial⟩ ⟨rfl,rfl,trivial⟩
theorem quv:HeldI Tryd.prog G0 103 (ctA 2):=by
 refine HeldI.run cx0 (fn:=Tryd.f103) rfl rfl ⟨by decide,by decide⟩ ?_;rintro ⟨⟨k,f,n,b,d⟩,o,⟨⟩⟩ hp;obtain ⟨h1,h2,h3⟩:preA 2 (k,f,n,b,d) o:=hp;have hn:cntO 2 (k,f,n,b,d)=d.length:=rfl;replace h3:n<268435456:=h3;refine (qzz k f n b d o _ _).mpr ?_;have hb:n<268435456/\d.length<268435456:=⟨h3,by omega⟩;obtain ⟨c,hc⟩:∃ c,cntO 2 (k,f,n,b,d)=c+1:=⟨cntO 2 (k,f,n,b,d)-1,by omega⟩;have e:GD 103 Tryd.f103 (GQ 2 (k,f,n,b,d) o) (hd Tryd.f103 0) ⟨[(1,.win true syS 1099511627776 0 o.length),(2,.ptr 2 0),(8,.sl uB d),(9,.i d.length),(10,.i ((0:Nat):Int))],[(2,.var [.i k,.i f,.i n,.u b,.sl uB d]),(1099511627776,.row 82 syS o)]⟩:=by
  refine qak cx0 _ _ _ ((qvv k f n b d o 0 _ _).mpr ?_);rw[decide_eq_true (show ((0:Nat):Int)<(d.length:Int) by omega),bc_t,IntWalk.i64_in (((0:Nat):Int)+1) (by omega),Int.toNat_natCast];refine ⟨by omega,by omega,Nat.le_refl 1,rfl,rfl,?_,by decide,?_⟩
  ·show o.length+1<2 ^ 30
   omega
  ·refine Good.onlyR (quu k f n b d o hb c 1 (o++[elO 2 (k,f,n,b,d) 0]) (by omega) (by omega) (by rw[List.length_append,List.length_singleton];omega) (by rw[List.append_assoc];unfold qaz;rw[hc];rfl)) [(1,23)] rfl ⟨by rw[List.length_append];rfl,rfl,rfl,rfl,rfl,trivial⟩ ⟨rfl,rfl,trivial⟩
 exact e.only ⟨rfl,rfl,rfl,rfl,rfl,trivial⟩ ⟨rfl,rfl,trivial⟩
theorem qwr (k f n b:Int) (d:List Int) (o0:List SyT) (hb:n<268435456/\True):∀ (c i:Nat) (o:List SyT),cntO 3 (k,f,n,b,d)-i=c->i<=cntO 3 (k,f,n,b,d)->o.length+c<268435456->o++gen (elO 3 (k,f,n,b,d)) c i=o0++qaz 3 (k,f,n,b,d) ->
  GD 106 Tryd.f106 (GQ 3 (k,f,n,b,d) o0) (hd Tryd.f106 0) ⟨[(1,.win true syS 1 0 o.length),(2,.ptr 2 0),(6,.i n),(7,.i (i:Nat))],[(2,.var [.i k,.i f,.i n,.u b,.sl uB d]),(1,.row 82 syS o)]⟩:=by
 intro c
 induction c with
 | zero=>
  intro i o hc hi hl he;have hn:cntO 3 (k,f,n,b,d)=n.toNat:=rfl;refine qak cx0 _ _ _ ((qrh k f n b d o i _ _).mpr ?_);rw[decide_eq_false (by omega),bc_f];have he:o=o0++qaz 3 (k,f,n,b,d):=by simpa [gen] using he
  exact QI.row (e:=syS) (et:=82) (a:=1) (xs:=o0++qaz 3 (k,f,n,b,d)) rfl rfl (by rw[he]) rfl (by rw[he];rfl) (by decide)
 | succ c ih=>
  intro i o hc hi hl he;have hn:cntO 3 (k,f,n,b,d)=n.toNat:=rfl;refine qak cx0 _ _ _ ((qrh k f n b d o i _ _).mpr ?_);rw[decide_eq_true (show (i:Int)<n by omega),bc_t,IntWalk.i64_in ((i:Int)+1) (by omega)];refine ⟨Nat.le_refl 1,rfl,rfl,?_,by decide,?_⟩
  ·show o.length+1<2 ^ 30
   omega
  ·refine Good.onlyR (ih (i+1) (o++[elO 3 (k,f,n,b,d) i]) (by omega) (by omega) (by rw[List.length_append,List.length_singleton];omega) (by rw[List.append_assoc];exact he)) [(1,14)] rfl ⟨by rw[List.length_append];rfl,rfl,rfl,rfl,trivial⟩ ⟨rfl,rfl,trivial⟩
theorem qws:HeldI Tryd.prog G0 106 (ctA 3):=by
 refine HeldI.run cx0 (fn:=Tryd.f106) rfl rfl ⟨by decide,by decide⟩ ?_;rintro ⟨⟨k,f,n,b,d⟩,o,⟨⟩⟩ hp;obtain ⟨h1,h2,h3⟩:preA 3 (k,f,n,b,d) o:=hp;have hn:cntO 3 (k,f,n,b,d)=n.toNat:=rfl;replace h3:n<268435456:=h3;refine (q5e k f n b d o _ _).mpr ?_;have hb:n<268435456/\True:=⟨h3,trivial⟩;obtain ⟨c,hc⟩:∃ c,cntO 3 (k,f,n,b,d)=c+1:=⟨cntO 3 (k,f,n,b,d)-1,by omega⟩;have e:GD 106 Tryd.f106 (GQ 3 (k,f,n,b,d) o) (hd Tryd.f106 0) ⟨[(1,.win true syS 1099511627776 0 o.length),(2,.ptr 2 0),(6,.i n),(7,.i ((0:Nat):Int))],[(2,.var [.i k,.i f,.i n,.u b,.sl uB d]),(1099511627776,.row 82 syS o)]⟩:=by
  refine qak cx0 _ _ _ ((qzp k f n b d o 0 _ _).mpr ?_);rw[decide_eq_true (show ((0:Nat):Int)<n by omega),bc_t,IntWalk.i64_in (((0:Nat):Int)+1) (by omega)];refine ⟨Nat.le_refl 1,rfl,rfl,?_,by decide,?_⟩
  ·show o.length+1<2 ^ 30
   omega
  ·refine Good.onlyR (qwr k f n b d o ⟨h3,trivial⟩ c 1 (o++[elO 3 (k,f,n,b,d) 0]) (by omega) (by omega) (by rw[List.length_append,List.length_singleton];omega) (by rw[List.append_assoc];unfold qaz;rw[hc];rfl)) [(1,14)] rfl ⟨by rw[List.length_append];rfl,rfl,rfl,rfl,trivial⟩ ⟨rfl,rfl,trivial⟩
 exact e.only ⟨rfl,rfl,rfl,rfl,trivial⟩ ⟨rfl,rfl,trivial⟩
theorem qx7 (k f n b:Int) (d:List Int) (o0:List SyT) (hb:n<268435456/\d.length<268435456):∀ (c i:Nat) (o:List SyT),cntO 4 (k,f,n,b,d)-i=c->i<=cntO 4 (k,f,n,b,d)->o.length+c<268435456->o++gen (elO 4 (k,f,n,b,d)) c i=o0++qaz 4 (k,f,n,b,d) ->
  GD 109 Tryd.f109 (GQ 4 (k,f,n,b,d) o0) (hd Tryd.f109 0) ⟨[(1,.win true syS 1 0 o.length),(2,.ptr 2 0),(8,.sl uB d),(9,.i d.length),(10,.i (i:Nat))],[(2,.var [.i k,.i f,.i n,.u b,.sl uB d]),(1,.row 82 syS o)]⟩:=by
 intro c
 induction c with
 | zero=>
  intro i o hc hi hl he;have hn:cntO 4 (k,f,n,b,d)=d.length:=rfl;refine qak cx0 _ _ _ ((qrn k f n b d o i _ _).mpr ?_);rw[decide_eq_false (by omega),bc_f];have he:o=o0++qaz 4 (k,f,n,b,d):=by simpa [gen] using he
  exact QI.row (e:=syS) (et:=82) (a:=1) (xs:=o0++qaz 4 (k,f,n,b,d)) rfl rfl (by rw[he]) rfl (by rw[he];rfl) (by decide)
 | succ c ih=>
  intro i o hc hi hl he;have hn:cntO 4 (k,f,n,b,d)=d.length:=rfl;refine qak cx0 _ _ _ ((qrn k f n b d o i _ _).mpr ?_);rw[decide_eq_true (show (i:Int)<(d.length:Int) by omega),bc_t,IntWalk.i64_in ((i:Int)+1) (by omega),Int.toNat_natCast];refine ⟨by omega,by omega,Nat.le_refl 1,rfl,rfl,?_,by decide,?_⟩
  ·show o.length+1<2 ^ 30
   omega
  ·refine Good.onlyR (ih (i+1) (o++[elO 4 (k,f,n,b,d) i]) (by omega) (by omega) (by rw[List.length_append,List.length_singleton];omega) (by rw[List.append_assoc];exact he)) [(1,18)] rfl ⟨by rw[List.length_append];rfl,rfl,rfl,rfl,rfl,trivial⟩ ⟨rfl,rfl,trivial⟩
theorem qx8:HeldI Tryd.prog G0 109 (ctA 4):=by
 refine HeldI.run cx0 (fn:=Tryd.f109) rfl rfl ⟨by decide,by decide⟩ ?_;rintro ⟨⟨k,f,n,b,d⟩,o,⟨⟩⟩ hp;obtain ⟨h1,h2,h3⟩:preA 4 (k,f,n,b,d) o:=hp;have hn:cntO 4 (k,f,n,b,d)=d.length:=rfl;replace h3:n<268435456:=h3;refine (q5q k f n b d o _ _).mpr ?_;have hb:n<268435456/\d.length<268435456:=⟨h3,by omega⟩;obtain ⟨c,hc⟩:∃ c,cntO 4 (k,f,n,b,d)=c+1:=⟨cntO 4 (k,f,n,b,d)-1,by omega⟩;have e:GD 109 Tryd.f109 (GQ 4 (k,f,n,b,d) o) (hd Tryd.f109 0) ⟨[(1,.win true syS 1099511627776 0 o.length),(2,.ptr 2 0),(8,.sl uB d),(9,.i d.length),(10,.i ((0:Nat):Int))],[(2,.var [.i k,.i f,.i n,.u b,.sl uB d]),(1099511627776,.row 82 syS o)]⟩:=by
  refine qak cx0 _ _ _ ((qzw k f n b d o 0 _ _).mpr ?_);rw[decide_eq_true (show ((0:Nat):Int)<(d.length:Int) by omega),bc_t,IntWalk.i64_in (((0:Nat):Int)+1) (by omega),Int.toNat_natCast];refine ⟨by omega,by omega,Nat.le_refl 1,rfl,rfl,?_,by decide,?_⟩
  ·show o.length+1<2 ^ 30
   omega
  ·refine Good.onlyR (qx7 k f n b d o hb c 1 (o++[elO 4 (k,f,n,b,d) 0]) (by omega) (by omega) (by rw[List.length_append,List.length_singleton];omega) (by rw[List.append_assoc];unfold qaz;rw[hc];rfl)) [(1,18)] rfl ⟨by rw[List.length_append];rfl,rfl,rfl,rfl,rfl,trivial⟩ ⟨rfl,rfl,trivial⟩
 exact e.only ⟨rfl,rfl,rfl,rfl,rfl,trivial⟩ ⟨rfl,rfl,trivial⟩
end Go.Proofs.YtdeacfammdjajaaDoor
