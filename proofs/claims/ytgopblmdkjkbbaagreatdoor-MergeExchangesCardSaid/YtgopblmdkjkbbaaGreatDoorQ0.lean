/-
  A part of the proof: what pieces of the program give; conditions: those of each theorem.
-/
import Derived.Test.YtgopblmdkjkbbaaGreatDoorHD
import Derived.Test.YtgopblmdkjkbbaaGreatDoorProg
set_option linter.unusedVariables false
set_option linter.unusedSimpArgs false
namespace Go.Proofs.YtgopblmdkjkbbaaGreatDoor
open Go.Px Go.Ax
abbrev _root_.Go.Px.SV.i (n:Int):SV:=.int .i64 n
abbrev _root_.Go.Px.SV.u (n:Int):SV:=.int .u8 n
theorem _root_.Go.Px.CxOK.k {P : Program} {tt : TT} {G : GV} {C : CV} (hx : CxOK P tt G C) {f : FuncId} {fn : Func} {ct : Ctr} (hh : Held P G f ct) (hf : P.funcs[f]? = some fn := by rfl) (hn : (fn.name == "runtime.NumGoroutine") = false := by rfl) (hb : fn.body.isSome = true := by rfl) : CxOK P tt G ((f, .inl ct) :: C) := hx.cons hh hf hn hb
abbrev QT:Type:=List SV->List (Nat × LB)->Prop
abbrev RT:Type:=List Item->PS->Prop
def tyL:List (Nat × (Nat × Nat × Bool × TK × Sh × Option IntKind)):=[
 (1,(1,8,false,.other,.unit,none)),
 (2,(1,8,false,(.int .i64),(.int .i64),none)),
 (3,(1,8,false,(.int .i64),(.int .i64),none)),
 (4,(1,1,false,.bool,.bool,none)),
 (5,(1,1,false,(.int .u8),(.int .u8),none)),
 (6,(1,1,false,(.int .u8),(.int .u8),none)),
 (7,(4,24,true,(.struct [(0,2),(1,3),(2,4),(3,6)]),(.pair (.int .i64) (.pair (.int .i64) (.pair .bool (.int .u8)))),(some .i8))),
 (8,(4,24,true,(.struct [(0,2),(1,3),(2,4),(3,6)]),(.pair (.int .i64) (.pair (.int .i64) (.pair .bool (.int .u8)))),(some .i8))),
 (9,(1,16,false,.str,.str,none)),
 (22,(1,24,false,(.slice 129),(.sl (.arr 4 (.int .u8))),none)),
 (25,(1,24,false,(.slice 5),(.sl (.int .u8)),none)),
 (28,(1,24,false,(.slice 91),(.sl (.pair (.int .i64) (.pair (.int .i64) (.pair (.int .i64) (.pair (.int .u8) (.sl (.int .u8))))))),none)),
 (30,(4,48,true,(.struct [(0,4),(1,3),(2,3),(3,28)]),(.pair .bool (.pair (.int .i64) (.pair (.int .i64) (.sl (.pair (.int .i64) (.pair (.int .i64) (.pair (.int .i64) (.pair (.int .u8) (.sl (.int .u8)))))))))),none)),
 (33,(1,24,false,(.slice 93),(.sl (.pair .bool (.pair (.int .i64) (.int .u8)))),none)),
 (34,(1,8,false,(.int .i64),(.int .i64),none)),
 (52,(2,32,true,(.struct [(0,5),(1,22)]),(.pair (.int .u8) (.sl (.arr 4 (.int .u8)))),none)),
 (53,(4,64,true,(.array 2 52),(.arr 2 (.pair (.int .u8) (.sl (.arr 4 (.int .u8))))),none)),
 (56,(1,24,false,(.slice 30),(.sl (.pair .bool (.pair (.int .i64) (.pair (.int .i64) (.sl (.pair (.int .i64) (.pair (.int .i64) (.pair (.int .i64) (.pair (.int .u8) (.sl (.int .u8))))))))))),none)),
 (57,(1,24,false,(.slice 127),(.sl (.pair (.int .i64) (.int .i64))),none)),
 (65,(9,104,true,(.struct [(0,30),(4,30),(8,34)]),(.pair (.pair .bool (.pair (.int .i64) (.pair (.int .i64) (.sl (.pair (.int .i64) (.pair (.int .i64) (.pair (.int .i64) (.pair (.int .u8) (.sl (.int .u8)))))))))) (.pair (.pair .bool (.pair (.int .i64) (.pair (.int .i64) (.sl (.pair (.int .i64) (.pair (.int .i64) (.pair (.int .i64) (.pair (.int .u8) (.sl (.int .u8)))))))))) (.int .i64))),none)),
 (72,(1,24,false,(.slice 4),(.sl .bool),none)),
 (91,(5,56,true,(.struct [(0,3),(1,3),(2,3),(3,5),(4,25)]),(.pair (.int .i64) (.pair (.int .i64) (.pair (.int .i64) (.pair (.int .u8) (.sl (.int .u8)))))),none)),
 (93,(3,24,true,(.struct [(0,4),(1,3),(2,5)]),(.pair .bool (.pair (.int .i64) (.int .u8))),(some .i8))),
 (95,(1,8,false,.other,.unit,none)),
 (100,(1,24,false,(.slice 3),(.sl (.int .i64)),none)),
 (123,(12,144,true,(.array 3 30),(.arr 3 (.pair .bool (.pair (.int .i64) (.pair (.int .i64) (.sl (.pair (.int .i64) (.pair (.int .i64) (.pair (.int .i64) (.pair (.int .u8) (.sl (.int .u8))))))))))),none)),
 (127,(2,16,true,(.struct [(0,3),(1,3)]),(.pair (.int .i64) (.int .i64)),(some .i64))),
 (129,(4,4,true,(.array 4 5),(.arr 4 (.int .u8)),(some .u8))),
 (130,(1,24,false,(.slice 33),(.sl (.sl (.pair .bool (.pair (.int .i64) (.int .u8))))),none)),
 (134,(1,8,false,.other,.unit,none)),
 (135,(1,8,false,.other,.unit,none)),
 (137,(1,8,false,.other,.unit,none)),
 (140,(1,8,false,.other,.unit,none)),
 (142,(1,8,false,.other,.unit,none)),
 (143,(1,8,false,.other,.unit,none)),
 (181,(5,56,true,(.struct [(0,3),(1,3),(2,3),(3,5),(4,25)]),(.pair (.int .i64) (.pair (.int .i64) (.pair (.int .i64) (.pair (.int .u8) (.sl (.int .u8)))))),none)),
 (182,(5,56,true,(.struct [(0,3),(1,3),(2,3),(3,5),(4,25)]),(.pair (.int .i64) (.pair (.int .i64) (.pair (.int .i64) (.pair (.int .u8) (.sl (.int .u8)))))),none)),
 (183,(5,56,true,(.struct [(0,3),(1,3),(2,3),(3,5),(4,25)]),(.pair (.int .i64) (.pair (.int .i64) (.pair (.int .i64) (.pair (.int .u8) (.sl (.int .u8)))))),none)),
 (184,(5,56,true,(.struct [(0,3),(1,3),(2,3),(3,5),(4,25)]),(.pair (.int .i64) (.pair (.int .i64) (.pair (.int .i64) (.pair (.int .u8) (.sl (.int .u8)))))),none)),
 (186,(0,0,true,(.struct []),.unit,none)),
 (210,(1,24,false,(.slice 215),(.sl (.pair (.int .i64) (.pair (.int .i64) (.pair (.int .i64) (.int .i64))))),none)),
 (213,(2,16,true,(.struct [(0,3),(1,3)]),(.pair (.int .i64) (.int .i64)),(some .i64))),
 (215,(4,32,true,(.struct [(0,3),(1,3),(2,213)]),(.pair (.int .i64) (.pair (.int .i64) (.pair (.int .i64) (.int .i64)))),none)),
 (231,(20,160,true,(.array 5 215),(.arr 5 (.pair (.int .i64) (.pair (.int .i64) (.pair (.int .i64) (.int .i64))))),none)),
 (239,(2,16,true,(.struct [(0,3),(1,3)]),(.pair (.int .i64) (.int .i64)),(some .i64))),
 (240,(10,80,true,(.array 5 239),(.arr 5 (.pair (.int .i64) (.int .i64))),none))]
abbrev tt:TT:=ttOf tyL
set_option maxRecDepth 100000 in
theorem tyOK:ttB Tryz.prog tyL=true:=by decide +kernel
theorem ty:TTOK Tryz.prog tt:=q2v tyOK
theorem mixed:Tryz.prog.follows .mixedOrders=true:=by decide +kernel
def mtb:List (Nat × (String × Nat)):=[
 (181, ("inlay/patch.isRight", 238)), (181, ("inlay/patch.cost", 237)), (181, ("inlay/patch.appendSymbols", 236)),
 (182, ("inlay/patch.isRight", 242)), (182, ("inlay/patch.cost", 241)), (182, ("inlay/patch.appendSymbols", 240)),
 (183, ("inlay/patch.isRight", 245)), (183, ("inlay/patch.cost", 244)), (183, ("inlay/patch.appendSymbols", 243)),
 (184, ("inlay/patch.isRight", 248)), (184, ("inlay/patch.cost", 247)), (184, ("inlay/patch.appendSymbols", 246)),
 (186, ("inlay/patch.isRight", 251)), (186, ("inlay/patch.cost", 250)), (186, ("inlay/patch.appendSymbols", 249))]
set_option maxRecDepth 100000 in
theorem zac:(mtb.all λ p=>decide (qto Tryz.prog p.1 p.2.1=some p.2.2))=true:=by decide +kernel
abbrev coS:Sh:=.pair (.int .i64) (.int .i64)
def costsL:List coS.D:=[((0:Int),(0:Int)),((4:Int),(0:Int)),((4:Int),(1:Int)),((4:Int),(0:Int)),((2:Int),(1:Int))]
def qhu:List Value:=costsL.flatMap λ k=>[.int .i64 k.1,.int .i64 k.2]
def kn (s:List UInt8) (r b:Int) (g t:Bool):List UInt8 × Int × Int × Bool × Bool:=(s,r,b,g,t)
abbrev kindSh:Sh:=.pair .str (.pair (.int .i64) (.pair (.int .i64) (.pair .bool .bool)))
def kindsL:List kindSh.D:=[kn [100,97,116,97] 0 32 false false,kn [97,100,100] 3 0 false false,kn [115,101,116] 1 16 false false,kn [108,111,97,100] 3 0 false false,kn [115,116,111,114,101] 3 0 false false,
 kn [106,117,109,112] 0 24 true true,kn [99,97,108,108] 0 24 true true,kn [98,114,97,110,99,104] 1 16 true true,kn [112,111,111,108] 1 16 false true]
def qhp:List Value:=kindsL.flatMap λ k=>[bstr k.1,.int .i64 k.2.1,.int .i64 k.2.2.1,.bool k.2.2.2.1,.bool k.2.2.2.2]
def rawG:T ABlk:=.node (.node .nil .nil (some (.cells qhp 248 2))) .nil (some (.cells qhu 240 2))
def G0:GV:=⟨[(0,⟨.arr 5 coS,costsL⟩),(1,⟨.arr 9 kindSh,kindsL⟩)],rawG,mtb⟩
theorem cx0:CxOK Tryz.prog tt G0 []:=CxOK.nil ty mixed λ t nm f h=>by
 have:=List.all_eq_true.1 zac _ h;simpa using this
abbrev iI:Sh:=.int .i64
abbrev uB:Sh:=.int .u8
abbrev opS:Sh:=.pair iI (.pair iI (.pair iI (.pair uB (.sl uB))))
abbrev syS:Sh:=.pair .bool (.pair iI uB)
abbrev paS:Sh:=.pair .bool (.pair iI (.pair iI (.sl opS)))
abbrev OpT:Type:=Int × Int × Int × Int × List Int
abbrev SyT:Type:=Bool × Int × Int
abbrev PaT:Type:=Bool × Int × Int × List OpT
abbrev gtO (l:List OpT) (i:Nat):OpT:=gt opS l i
abbrev oJ (a b c d:Int) (l:List Int):List SV:=[.i a,.i b,.i c,.u d,.sl uB l]
abbrev pL (a:Bool) (b c:Int) (l:List OpT):List SV:=[.bool a,.i b,.i c,.sl opS l]
abbrev oI (o:OpT):List SV:=(oJ o.1 o.2.1 o.2.2.1 o.2.2.2.1 o.2.2.2.2)
abbrev gtY (l:List SyT) (i:Nat):SyT:=gt syS l i
abbrev yI (y:SyT):List SV:=[.bool y.1,.i y.2.1,.u y.2.2]
abbrev gtB (l:List Int) (i:Nat):Int:=gt uB l i
def ifO (t:Nat) (x:OpT):SV:=.ifc t true (oJ x.1 x.2.1 x.2.2.1 x.2.2.2.1 x.2.2.2.2)
open Go.IntKind(i64 u32 u8)
set_option maxRecDepth 100000
abbrev sA (C:CV) (f:Func) (Q:QT) (R:RT) (l:List Item) (S:PS):Prop:=sy tt G0 C f.ntmps f.results.toList Q R 1000 l S
theorem qux (n:Int) (Q:QT) (R:RT):sA [] Tryz.f69 Q R [.code (qad Tryz.f69)] (entry [iI] (n,())) =
  (bc (decide ((0:Int)<=n)) (Q [.bool (bif true then decide (n<=65536) else false)] []) (false=false/\Q [.bool false] [])):=by kernel_rfl
theorem quy (f n m:Int) (Q:QT) (R:RT):sA [] Tryz.f239 Q R [.code (qad Tryz.f239)] (entry [iI,iI,iI] (f,n,m,())) =
  (bc (decide ((0:Int)<=f)) (Q [.bool (bif true then decide (f<=i64.wrap (m-n)) else false)] []) (false=false/\Q [.bool false] [])):=by kernel_rfl
theorem qjy (k f n b:Int) (d:List Int) (Q:QT) (R:RT):sA [] Tryz.f68 Q R [.code (qad Tryz.f68)] (entry [opS] ((k,f,n,b,d),())) =
  (bc (decide (k=(1:Int))) (Q [.ifc (181:Nat) true [.i k,.i f,.i n,.u b,.sl (Sh.int u8) d]] [(1,.var [.i k,.i f,.i n,.u b,.sl (Sh.int u8) d])]) (bc (decide (k=(2:Int))) (Q [.ifc (182:Nat) true [.i k,.i f,.i n,.u b,.sl (Sh.int u8) d]] [(1,.var [.i k,.i f,.i n,.u b,.sl (Sh.int u8) d])]) (bc (decide (k=(3:Int))) (Q [.ifc (183:Nat) true [.i k,.i f,.i n,.u b,.sl (Sh.int u8) d]] [(1,.var [.i k,.i f,.i n,.u b,.sl (Sh.int u8) d])]) (bc (decide (k=(4:Int))) (Q [.ifc (184:Nat) true [.i k,.i f,.i n,.u b,.sl (Sh.int u8) d]] [(1,.var [.i k,.i f,.i n,.u b,.sl (Sh.int u8) d])]) (Q [.ifc (186:Nat) true []] [(1,.var [.i k,.i f,.i n,.u b,.sl (Sh.int u8) d])]))))):=by kernel_rfl
theorem q37 (k f n b m:Int) (d:List Int) (Q:QT) (R:RT):sA [] Tryz.f245 Q R [.code (qad Tryz.f245)] (qa7 [.dat opS,.dat iI] ((k,f,n,b,d),m,())) =
  (bc (decide (f=(0:Int))) (Q [.bool (bif true then decide ((d.length:Int)=(0:Int)) else false)] [(2,.var [.i k,.i f,.i n,.u b,.sl (Sh.int u8) d])]) (false=false/\Q [.bool false] [(2,.var [.i k,.i f,.i n,.u b,.sl (Sh.int u8) d])])):=by kernel_rfl
theorem q4v (k f n b m:Int) (d:List Int) (Q:QT) (R:RT):sA [] Tryz.f248 Q R [.code (qad Tryz.f248)] (qa7 [.dat opS,.dat iI] ((k,f,n,b,d),m,())) =
  (bc (decide (f=(0:Int))) (bc (bif true then decide (b=(0:Int)) else false) (Q [.bool (bif true then decide ((d.length:Int)=n) else false)] [(2,.var [.i k,.i f,.i n,.u b,.sl (Sh.int u8) d])]) (false=false/\Q [.bool false] [(2,.var [.i k,.i f,.i n,.u b,.sl (Sh.int u8) d])])) (false=false/\false=false/\Q [.bool false] [(2,.var [.i k,.i f,.i n,.u b,.sl (Sh.int u8) d])])):=by kernel_rfl
theorem q8r (m:Int) (Q:QT) (R:RT):sA [] Tryz.f251 Q R [.code (qad Tryz.f251)] (qa7 [.dat .unit,.dat iI] ((),m,())) =
  (Q [.bool false] [(2,.var [])]):=by kernel_rfl
theorem qy0 (k f n b:Int) (d:List Int) (Q:QT) (R:RT):sA [] Tryz.f237 Q R [.code (qad Tryz.f237)] (qa7 [.dat opS] ((k,f,n,b,d),())) =
  (Q [.i 4] [(1,.var [.i k,.i f,.i n,.u b,.sl (Sh.int u8) d])]):=by kernel_rfl
theorem qyx (k f n b:Int) (d:List Int) (Q:QT) (R:RT):sA [] Tryz.f241 Q R [.code (qad Tryz.f241)] (qa7 [.dat opS] ((k,f,n,b,d),())) =
  (Q [.i (i64.wrap ((4:Int)+n))] [(1,.var [.i k,.i f,.i n,.u b,.sl (Sh.int u8) d])]):=by kernel_rfl
theorem q38 (k f n b:Int) (d:List Int) (Q:QT) (R:RT):sA [] Tryz.f244 Q R [.code (qad Tryz.f244)] (qa7 [.dat opS] ((k,f,n,b,d),())) =
  (Q [.i 4] [(1,.var [.i k,.i f,.i n,.u b,.sl (Sh.int u8) d])]):=by kernel_rfl
theorem q4w (k f n b:Int) (d:List Int) (Q:QT) (R:RT):sA [] Tryz.f247 Q R [.code (qad Tryz.f247)] (qa7 [.dat opS] ((k,f,n,b,d),())) =
  (Q [.i (i64.wrap ((2:Int)+n))] [(1,.var [.i k,.i f,.i n,.u b,.sl (Sh.int u8) d])]):=by kernel_rfl
theorem qut (o:Bool) (a b:Int) (Q:QT) (R:RT):sA [] Tryz.f157 Q R [.code (qad Tryz.f157)] (entry [syS] ((o,a,b),())) =
  (bc (!o) (Q [.i 4] [(1,.var [.bool o,.i a,.u b])]) (bc (decide (b≠0)) (Q [.i 2] [(1,.var [.bool o,.i a,.u b])]) (Q [.i 1] [(1,.var [.bool o,.i a,.u b])]))):=by kernel_rfl
theorem QI.flat {ct:CtrI} {x:DI ct.args} {rs:List SV} {blk:List (Nat × LB)} (h:ct.out x=rs) (hs:qge rs=true) (hb:ct.blk x=[]):QI ct x rs blk:=
 .self h hs (by rw[hb];rfl) (by rw[hb];simp)
def ctSize:Ctr:=⟨[iI],λ _=>True,λ x=>[.bool (decide (0<=x.1)&&decide (x.1<=65536))],λ _=>[]⟩
theorem qvj:Held Tryz.prog G0 69 ctSize:=by
 refine Held.run cx0 (fn:=Tryz.f69) rfl rfl ⟨by decide,by decide⟩ ?_;rintro ⟨n,⟨⟩⟩ _;refine (qux n _ _).mpr (qaf (λ h=>?_) (λ h=>⟨rfl,?_⟩))
 ·exact QC.flat (by simp only[ctSize,h];rfl) rfl rfl
 ·exact QC.flat (by simp only[ctSize,h];rfl) rfl rfl
def qbi (f n m:Int):Bool:=decide (0<=f)&&decide (f<=IntKind.i64.wrap (m-n))
def ctPart:Ctr:=⟨[iI,iI,iI],λ _=>True,λ x=>[.bool (qbi x.1 x.2.1 x.2.2.1)],λ _=>[]⟩
theorem qwc:Held Tryz.prog G0 239 ctPart:=by
 refine Held.run cx0 (fn:=Tryz.f239) rfl rfl ⟨by decide,by decide⟩ ?_;rintro ⟨f,n,m,⟨⟩⟩ _;refine (quy f n m _ _).mpr (qaf (λ h=>?_) (λ h=>⟨rfl,?_⟩))
 ·exact QC.flat (by simp only[ctPart,qbi,h];rfl) rfl rfl
 ·exact QC.flat (by simp only[ctPart,qbi,h];rfl) rfl rfl
def ctO (k:Int) (t:Nat):Ctr:=⟨[opS],λ x=>x.1.1=k,λ x=>[ifO t x.1],λ _=>[]⟩
def ctO0:Ctr:=⟨[opS],λ x=>x.1.1≠1/\x.1.1≠2/\x.1.1≠3/\x.1.1≠4,λ _=>[.ifc 186 true []],λ _=>[]⟩
theorem qws:Held Tryz.prog G0 68 (ctO 1 181):=by
 refine Held.run cx0 (fn:=Tryz.f68) rfl rfl ⟨by decide,by decide⟩ ?_;rintro ⟨⟨k,f,n,b,d⟩,⟨⟩⟩ hp;replace hp:k=1:=hp;subst hp;exact (qjy _ f n b d _ _).mpr (QC.flat rfl rfl rfl)
theorem qwr:Held Tryz.prog G0 68 (ctO 2 182):=by
 refine Held.run cx0 (fn:=Tryz.f68) rfl rfl ⟨by decide,by decide⟩ ?_;rintro ⟨⟨k,f,n,b,d⟩,⟨⟩⟩ hp;replace hp:k=2:=hp;subst hp;exact (qjy _ f n b d _ _).mpr (QC.flat rfl rfl rfl)
theorem qwq:Held Tryz.prog G0 68 (ctO 3 183):=by
 refine Held.run cx0 (fn:=Tryz.f68) rfl rfl ⟨by decide,by decide⟩ ?_;rintro ⟨⟨k,f,n,b,d⟩,⟨⟩⟩ hp;replace hp:k=3:=hp;subst hp;exact (qjy _ f n b d _ _).mpr (QC.flat rfl rfl rfl)
theorem qwp:Held Tryz.prog G0 68 (ctO 4 184):=by
 refine Held.run cx0 (fn:=Tryz.f68) rfl rfl ⟨by decide,by decide⟩ ?_;rintro ⟨⟨k,f,n,b,d⟩,⟨⟩⟩ hp;replace hp:k=4:=hp;subst hp;exact (qjy _ f n b d _ _).mpr (QC.flat rfl rfl rfl)
theorem q6n:Held Tryz.prog G0 68 ctO0:=by
 refine Held.run cx0 (fn:=Tryz.f68) rfl rfl ⟨by decide,by decide⟩ ?_;rintro ⟨⟨k,f,n,b,d⟩,⟨⟩⟩ hp;obtain ⟨h1,h2,h3,h4⟩:k≠1/\k≠2/\k≠3/\k≠4:=hp;refine (qjy k f n b d _ _).mpr ?_;rw[decide_eq_false h1,decide_eq_false h2,decide_eq_false h3,decide_eq_false h4];exact QC.flat rfl rfl rfl
abbrev KR:List AK:=[.dat opS,.dat iI]
def rB (t:Nat) (x:OpT) (m:Int):Bool:=match t with
 | 1=>qbi x.2.1 x.2.2.1 m&&(decide (x.2.2.2.1=0)&&decide ((x.2.2.2.2.length:Int)=0))
 | 2=>qbi x.2.1 x.2.2.1 m&&(decide (x.2.2.2.1=0)&&decide ((x.2.2.2.2.length:Int)=x.2.2.1))
 | 3=>decide (x.2.1=0)&&decide ((x.2.2.2.2.length:Int)=0)
 | _=>decide (x.2.1=0)&&(decide (x.2.2.2.1=0)&&decide ((x.2.2.2.2.length:Int)=x.2.2.1))
def ctR (t:Nat):CtrI:=⟨KR,λ _=>True,λ x=>[.bool (rB t x.1 x.2.1)],λ _=>[]⟩
def ctR0:CtrI:=⟨[.dat .unit,.dat iI],λ _=>True,λ _=>[.bool false],λ _=>[]⟩
theorem qvp:HeldI Tryz.prog G0 245 (ctR 3):=by
 refine HeldI.run cx0 (fn:=Tryz.f245) rfl rfl ⟨by decide,by decide⟩ ?_;rintro ⟨⟨k,f,n,b,d⟩,m,⟨⟩⟩ _;refine (q37 k f n b m d _ _).mpr (qaf (λ h=>?_) (λ h=>⟨rfl,?_⟩))
 ·exact QI.flat (by simp only[ctR,rB,h];rfl) rfl rfl
 ·exact QI.flat (by simp only[ctR,rB,h];rfl) rfl rfl
theorem qw6:HeldI Tryz.prog G0 248 (ctR 4):=by
 refine HeldI.run cx0 (fn:=Tryz.f248) rfl rfl ⟨by decide,by decide⟩ ?_;rintro ⟨⟨k,f,n,b,d⟩,m,⟨⟩⟩ _;refine (q4v k f n b m d _ _).mpr (qaf (λ h=>qaf (λ h2=>?_) (λ h2=>⟨rfl,?_⟩)) (λ h=>⟨rfl,rfl,?_⟩))
 ·have h2:decide (b=0)=true:=h2;exact QI.flat (by simp only[ctR,rB,h,h2];rfl) rfl rfl
 ·have h2:decide (b=0)=false:=h2;exact QI.flat (by simp only[ctR,rB,h,h2];rfl) rfl rfl
 ·exact QI.flat (by simp only[ctR,rB,h];rfl) rfl rfl
theorem q0e:HeldI Tryz.prog G0 251 ctR0:=by
 refine HeldI.run cx0 (fn:=Tryz.f251) rfl rfl ⟨by decide,by decide⟩ ?_;rintro ⟨⟨⟩,m,⟨⟩⟩ _;exact (q8r m _ _).mpr (QI.flat rfl rfl rfl)
abbrev KC:List AK:=[.dat opS]
def cN (t:Nat) (x:OpT):Int:=match t with
 | 2=>IntKind.i64.wrap (4+x.2.2.1)
 | 4=>IntKind.i64.wrap (2+x.2.2.1)
 | _=>4
def ctC (t:Nat):CtrI:=⟨KC,λ _=>True,λ x=>[.i (cN t x.1)],λ _=>[]⟩
theorem qt9:HeldI Tryz.prog G0 237 (ctC 1):=by
 refine HeldI.run cx0 (fn:=Tryz.f237) rfl rfl ⟨by decide,by decide⟩ ?_;rintro ⟨⟨k,f,n,b,d⟩,⟨⟩⟩ _;exact (qy0 k f n b d _ _).mpr (QI.flat rfl rfl rfl)
theorem qt3:HeldI Tryz.prog G0 241 (ctC 2):=by
 refine HeldI.run cx0 (fn:=Tryz.f241) rfl rfl ⟨by decide,by decide⟩ ?_;rintro ⟨⟨k,f,n,b,d⟩,⟨⟩⟩ _;exact (qyx k f n b d _ _).mpr (QI.flat rfl rfl rfl)
theorem qvq:HeldI Tryz.prog G0 244 (ctC 3):=by
 refine HeldI.run cx0 (fn:=Tryz.f244) rfl rfl ⟨by decide,by decide⟩ ?_;rintro ⟨⟨k,f,n,b,d⟩,⟨⟩⟩ _;exact (q38 k f n b d _ _).mpr (QI.flat rfl rfl rfl)
theorem qw7:HeldI Tryz.prog G0 247 (ctC 4):=by
 refine HeldI.run cx0 (fn:=Tryz.f247) rfl rfl ⟨by decide,by decide⟩ ?_;rintro ⟨⟨k,f,n,b,d⟩,⟨⟩⟩ _;exact (q4w k f n b d _ _).mpr (QI.flat rfl rfl rfl)
def kndB (x:SyT):Int:=bif !x.1 then 4 else bif decide (x.2.2≠0) then 2 else 1
def ctKnd:Ctr:=⟨[syS],λ _=>True,λ x=>[.i (kndB x.1)],λ _=>[]⟩
theorem q0t:Held Tryz.prog G0 157 ctKnd:=by
 refine Held.run cx0 (fn:=Tryz.f157) rfl rfl ⟨by decide,by decide⟩ ?_;rintro ⟨⟨o,a,b⟩,⟨⟩⟩ _;refine (qut o a b _ _).mpr (qaf (λ h=>?_) (λ h=>qaf (λ h2=>?_) (λ h2=>?_)))
 ·exact QC.flat (by simp only[ctKnd,kndB,h];rfl) rfl rfl
 ·exact QC.flat (by simp only[ctKnd,kndB,h,h2];rfl) rfl rfl
 ·exact QC.flat (by simp only[ctKnd,kndB,h,h2];rfl) rfl rfl
def C1:CV:=[(239,.inl ctPart),(69,.inl ctSize),(157,.inl ctKnd)]
theorem cx1:CxOK Tryz.prog tt G0 C1:=((cx0.k q0t (fn:=Tryz.f157)).k qvj (fn:=Tryz.f69)).k qwc (fn:=Tryz.f239)
set_option maxRecDepth 100000
theorem qyz (k f n b m:Int) (d:List Int) (Q:QT) (R:RT):sA C1 Tryz.f238 Q R [.code (qad Tryz.f238)] (qa7 [.dat opS,.dat iI] ((k,f,n,b,d),m,())) =
  (ctPart.pre (f,n,m,())/\bc (qbi f n m) (bc (bif true then decide (b=(0:Int)) else false) (Q [.bool (bif true then decide ((d.length:Int)=(0:Int)) else false)] [(2,.var [.i k,.i f,.i n,.u b,.sl (Sh.int u8) d])]) (false=false/\Q [.bool false] [(2,.var [.i k,.i f,.i n,.u b,.sl (Sh.int u8) d])])) (false=false/\false=false/\Q [.bool false] [(2,.var [.i k,.i f,.i n,.u b,.sl (Sh.int u8) d])])):=by kernel_rfl
theorem qyw (k f n b m:Int) (d:List Int) (Q:QT) (R:RT):sA C1 Tryz.f242 Q R [.code (qad Tryz.f242)] (qa7 [.dat opS,.dat iI] ((k,f,n,b,d),m,())) =
  (ctPart.pre (f,n,m,())/\bc (qbi f n m) (bc (bif true then decide (b=(0:Int)) else false) (Q [.bool (bif true then decide ((d.length:Int)=n) else false)] [(2,.var [.i k,.i f,.i n,.u b,.sl (Sh.int u8) d])]) (false=false/\Q [.bool false] [(2,.var [.i k,.i f,.i n,.u b,.sl (Sh.int u8) d])])) (false=false/\false=false/\Q [.bool false] [(2,.var [.i k,.i f,.i n,.u b,.sl (Sh.int u8) d])])):=by kernel_rfl
theorem qt8:HeldI Tryz.prog G0 238 (ctR 1):=by
 refine HeldI.run cx1 (fn:=Tryz.f238) rfl rfl ⟨by decide,by decide⟩ ?_;rintro ⟨⟨k,f,n,b,d⟩,m,⟨⟩⟩ _;refine (qyz k f n b m d _ _).mpr ⟨trivial,qaf (λ h=>qaf (λ h2=>?_) (λ h2=>⟨rfl,?_⟩)) (λ h=>⟨rfl,rfl,?_⟩)⟩
 ·have h2:decide (b=0)=true:=h2;exact QI.flat (by simp only[ctR,rB,h,h2];rfl) rfl rfl
 ·have h2:decide (b=0)=false:=h2;exact QI.flat (by simp only[ctR,rB,h,h2];rfl) rfl rfl
 ·exact QI.flat (by simp only[ctR,rB,h];rfl) rfl rfl
theorem qt2:HeldI Tryz.prog G0 242 (ctR 2):=by
 refine HeldI.run cx1 (fn:=Tryz.f242) rfl rfl ⟨by decide,by decide⟩ ?_;rintro ⟨⟨k,f,n,b,d⟩,m,⟨⟩⟩ _;refine (qyw k f n b m d _ _).mpr ⟨trivial,qaf (λ h=>qaf (λ h2=>?_) (λ h2=>⟨rfl,?_⟩)) (λ h=>⟨rfl,rfl,?_⟩)⟩
 ·have h2:decide (b=0)=true:=h2;exact QI.flat (by simp only[ctR,rB,h,h2];rfl) rfl rfl
 ·have h2:decide (b=0)=false:=h2;exact QI.flat (by simp only[ctR,rB,h,h2];rfl) rfl rfl
 ·exact QI.flat (by simp only[ctR,rB,h];rfl) rfl rfl
def CM:CV:=(247,.inr (ctC 4))::(244,.inr (ctC 3))::(241,.inr (ctC 2))::(237,.inr (ctC 1))::(251,.inr ctR0)::(248,.inr (ctR 4))::(245,.inr (ctR 3))::(242,.inr (ctR 2))::(238,.inr (ctR 1))::C1
theorem cxM:CxOK Tryz.prog tt G0 CM:=((((((((cx1.consI qt8 (fn:=Tryz.f238) rfl rfl rfl).consI qt2 (fn:=Tryz.f242) rfl rfl rfl).consI qvp (fn:=Tryz.f245) rfl rfl rfl).consI qw6 (fn:=Tryz.f248) rfl rfl rfl).consI q0e (fn:=Tryz.f251) rfl rfl rfl).consI qt9 (fn:=Tryz.f237) rfl rfl rfl).consI qt3 (fn:=Tryz.f241) rfl rfl rfl).consI qvq (fn:=Tryz.f244) rfl rfl rfl).consI qw7 (fn:=Tryz.f247) rfl rfl rfl
def D1:CV:=(68,.inl (ctO 1 181))::CM
def D2:CV:=(68,.inl (ctO 2 182))::CM
def D3:CV:=(68,.inl (ctO 3 183))::CM
def D4:CV:=(68,.inl (ctO 4 184))::CM
def D0:CV:=(68,.inl ctO0)::CM
theorem dx1:CxOK Tryz.prog tt G0 D1:=cxM.k qws (fn:=Tryz.f68)
theorem dx2:CxOK Tryz.prog tt G0 D2:=cxM.k qwr (fn:=Tryz.f68)
theorem dx3:CxOK Tryz.prog tt G0 D3:=cxM.k qwq (fn:=Tryz.f68)
theorem dx4:CxOK Tryz.prog tt G0 D4:=cxM.k qwp (fn:=Tryz.f68)
theorem dx0:CxOK Tryz.prog tt G0 D0:=cxM.k q6n (fn:=Tryz.f68)
theorem q41 (f n b m:Int) (d:List Int) (Q:QT) (R:RT):sA D1 Tryz.f75 Q R [.code (qad Tryz.f75)] (entry [opS,iI] ((1,f,n,b,d),m,())) =
  (bc (decide ((1:Int)<=n)) (bc (bif true then decide (n<=65536) else false) ((ctO (1:Int) (181:Nat)).pre (((1:iI.D),f,n,b,d),())/\(ctR (1:Nat)).pre (((1:iI.D),f,n,b,d),m,())/\Q [.bool (bif true then rB (1:Nat) ((1:iI.D),f,n,b,d) m else false)] [(2,.var [.i (1:iI.D),.i f,.i n,.u b,.sl (Sh.int u8) d])]) (false=false/\Q [.bool false] [(2,.var [.i (1:iI.D),.i f,.i n,.u b,.sl (Sh.int u8) d])])) (false=false/\false=false/\Q [.bool false] [(2,.var [.i (1:iI.D),.i f,.i n,.u b,.sl (Sh.int u8) d])])):=by kernel_rfl
theorem q40 (f n b m:Int) (d:List Int) (Q:QT) (R:RT):sA D2 Tryz.f75 Q R [.code (qad Tryz.f75)] (entry [opS,iI] ((2,f,n,b,d),m,())) =
  (bc (decide ((1:Int)<=n)) (bc (bif true then decide (n<=65536) else false) ((ctO (2:Int) (182:Nat)).pre (((2:iI.D),f,n,b,d),())/\(ctR (2:Nat)).pre (((2:iI.D),f,n,b,d),m,())/\Q [.bool (bif true then rB (2:Nat) ((2:iI.D),f,n,b,d) m else false)] [(2,.var [.i (2:iI.D),.i f,.i n,.u b,.sl (Sh.int u8) d])]) (false=false/\Q [.bool false] [(2,.var [.i (2:iI.D),.i f,.i n,.u b,.sl (Sh.int u8) d])])) (false=false/\false=false/\Q [.bool false] [(2,.var [.i (2:iI.D),.i f,.i n,.u b,.sl (Sh.int u8) d])])):=by kernel_rfl
theorem q4z (f n b m:Int) (d:List Int) (Q:QT) (R:RT):sA D3 Tryz.f75 Q R [.code (qad Tryz.f75)] (entry [opS,iI] ((3,f,n,b,d),m,())) =
  (bc (decide ((1:Int)<=n)) (bc (bif true then decide (n<=65536) else false) ((ctO (3:Int) (183:Nat)).pre (((3:iI.D),f,n,b,d),())/\(ctR (3:Nat)).pre (((3:iI.D),f,n,b,d),m,())/\Q [.bool (bif true then rB (3:Nat) ((3:iI.D),f,n,b,d) m else false)] [(2,.var [.i (3:iI.D),.i f,.i n,.u b,.sl (Sh.int u8) d])]) (false=false/\Q [.bool false] [(2,.var [.i (3:iI.D),.i f,.i n,.u b,.sl (Sh.int u8) d])])) (false=false/\false=false/\Q [.bool false] [(2,.var [.i (3:iI.D),.i f,.i n,.u b,.sl (Sh.int u8) d])])):=by kernel_rfl
theorem q4y (f n b m:Int) (d:List Int) (Q:QT) (R:RT):sA D4 Tryz.f75 Q R [.code (qad Tryz.f75)] (entry [opS,iI] ((4,f,n,b,d),m,())) =
  (bc (decide ((1:Int)<=n)) (bc (bif true then decide (n<=65536) else false) ((ctO (4:Int) (184:Nat)).pre (((4:iI.D),f,n,b,d),())/\(ctR (4:Nat)).pre (((4:iI.D),f,n,b,d),m,())/\Q [.bool (bif true then rB (4:Nat) ((4:iI.D),f,n,b,d) m else false)] [(2,.var [.i (4:iI.D),.i f,.i n,.u b,.sl (Sh.int u8) d])]) (false=false/\Q [.bool false] [(2,.var [.i (4:iI.D),.i f,.i n,.u b,.sl (Sh.int u8) d])])) (false=false/\false=false/\Q [.bool false] [(2,.var [.i (4:iI.D),.i f,.i n,.u b,.sl (Sh.int u8) d])])):=by kernel_rfl
theorem q42 (k f n b m:Int) (d:List Int) (Q:QT) (R:RT):sA D0 Tryz.f75 Q R [.code (qad Tryz.f75)] (entry [opS,iI] ((k,f,n,b,d),m,())) =
  (bc (decide ((1:Int)<=n)) (bc (bif true then decide (n<=65536) else false) (ctO0.pre ((k,f,n,b,d),())/\ctR0.pre ((),m,())/\Q [.bool (bif true then false else false)] [(2,.var [.i k,.i f,.i n,.u b,.sl (Sh.int u8) d])]) (false=false/\Q [.bool false] [(2,.var [.i k,.i f,.i n,.u b,.sl (Sh.int u8) d])])) (false=false/\false=false/\Q [.bool false] [(2,.var [.i k,.i f,.i n,.u b,.sl (Sh.int u8) d])])):=by kernel_rfl
def kR (x:OpT) (m:Int):Bool:=if x.1=1 then rB 1 x m else if x.1=2 then rB 2 x m else if x.1=3 then rB 3 x m else if x.1=4 then rB 4 x m else false
def isRB (x:OpT) (m:Int):Bool:=decide (1<=x.2.2.1)&&(decide (x.2.2.1<=65536)&&kR x m)
abbrev qx1 (p:Int->Prop):Ctr:=⟨[opS,iI],λ x=>p x.1.1,λ x=>[.bool (isRB x.1 x.2.1)],λ _=>[]⟩
theorem qxg:Held Tryz.prog G0 75 (qx1 (λ k=>k=1)):=by
 refine Held.run dx1 (fn:=Tryz.f75) rfl rfl ⟨by decide,by decide⟩ ?_;rintro ⟨⟨k,f,n,b,d⟩,m,⟨⟩⟩ hp;replace hp:k=1:=hp;subst hp;refine (q41 f n b m d _ _).mpr (qaf (λ h=>qaf (λ h2=>⟨rfl,trivial,?_⟩) (λ h2=>⟨rfl,?_⟩)) (λ h=>⟨rfl,rfl,?_⟩))
 ·have h2:decide (n<=65536)=true:=h2;exact QC.flat (by simp only[isRB,h,h2];rfl) rfl rfl
 ·have h2:decide (n<=65536)=false:=h2;exact QC.flat (by simp only[isRB,h,h2];rfl) rfl rfl
 ·exact QC.flat (by simp only[isRB,h];rfl) rfl rfl
theorem qxf:Held Tryz.prog G0 75 (qx1 (λ k=>k=2)):=by
 refine Held.run dx2 (fn:=Tryz.f75) rfl rfl ⟨by decide,by decide⟩ ?_;rintro ⟨⟨k,f,n,b,d⟩,m,⟨⟩⟩ hp;replace hp:k=2:=hp;subst hp;refine (q40 f n b m d _ _).mpr (qaf (λ h=>qaf (λ h2=>⟨rfl,trivial,?_⟩) (λ h2=>⟨rfl,?_⟩)) (λ h=>⟨rfl,rfl,?_⟩))
 ·have h2:decide (n<=65536)=true:=h2;exact QC.flat (by simp only[isRB,h,h2];rfl) rfl rfl
 ·have h2:decide (n<=65536)=false:=h2;exact QC.flat (by simp only[isRB,h,h2];rfl) rfl rfl
 ·exact QC.flat (by simp only[isRB,h];rfl) rfl rfl
theorem qxe:Held Tryz.prog G0 75 (qx1 (λ k=>k=3)):=by
 refine Held.run dx3 (fn:=Tryz.f75) rfl rfl ⟨by decide,by decide⟩ ?_;rintro ⟨⟨k,f,n,b,d⟩,m,⟨⟩⟩ hp;replace hp:k=3:=hp;subst hp;refine (q4z f n b m d _ _).mpr (qaf (λ h=>qaf (λ h2=>⟨rfl,trivial,?_⟩) (λ h2=>⟨rfl,?_⟩)) (λ h=>⟨rfl,rfl,?_⟩))
 ·have h2:decide (n<=65536)=true:=h2;exact QC.flat (by simp only[isRB,h,h2];rfl) rfl rfl
 ·have h2:decide (n<=65536)=false:=h2;exact QC.flat (by simp only[isRB,h,h2];rfl) rfl rfl
 ·exact QC.flat (by simp only[isRB,h];rfl) rfl rfl
theorem qxd:Held Tryz.prog G0 75 (qx1 (λ k=>k=4)):=by
 refine Held.run dx4 (fn:=Tryz.f75) rfl rfl ⟨by decide,by decide⟩ ?_;rintro ⟨⟨k,f,n,b,d⟩,m,⟨⟩⟩ hp;replace hp:k=4:=hp;subst hp;refine (q4y f n b m d _ _).mpr (qaf (λ h=>qaf (λ h2=>⟨rfl,trivial,?_⟩) (λ h2=>⟨rfl,?_⟩)) (λ h=>⟨rfl,rfl,?_⟩))
 ·have h2:decide (n<=65536)=true:=h2;exact QC.flat (by simp only[isRB,h,h2];rfl) rfl rfl
 ·have h2:decide (n<=65536)=false:=h2;exact QC.flat (by simp only[isRB,h,h2];rfl) rfl rfl
 ·exact QC.flat (by simp only[isRB,h];rfl) rfl rfl
theorem qxh:Held Tryz.prog G0 75 (qx1 (λ k=>k≠1/\k≠2/\k≠3/\k≠4)):=by
 refine Held.run dx0 (fn:=Tryz.f75) rfl rfl ⟨by decide,by decide⟩ ?_;rintro ⟨⟨k,f,n,b,d⟩,m,⟨⟩⟩ hp;replace hp:k≠1/\k≠2/\k≠3/\k≠4:=hp;have hk:kR (k,f,n,b,d) m=false:=by simp[kR,hp]
 refine (q42 k f n b m d _ _).mpr (qaf (λ h=>qaf (λ h2=>⟨hp,trivial,?_⟩) (λ h2=>⟨rfl,?_⟩)) (λ h=>⟨rfl,rfl,?_⟩))
 ·have h2:decide (n<=65536)=true:=h2;exact QC.flat (by simp only[isRB,h,h2,hk];rfl) rfl rfl
 ·have h2:decide (n<=65536)=false:=h2;exact QC.flat (by simp only[isRB,h,h2];rfl) rfl rfl
 ·exact QC.flat (by simp only[isRB,h];rfl) rfl rfl
def ctIsR:Ctr:=⟨[opS,iI],λ _=>True,λ x=>[.bool (isRB x.1 x.2.1)],λ _=>[]⟩
theorem q02:Held Tryz.prog G0 75 ctIsR:=λ x _=>by
 by_cases h1:x.1.1=1
 ·exact qxg x h1
 ·by_cases h2:x.1.1=2
  ·exact qxf x h2
  ·by_cases h3:x.1.1=3
   ·exact qxe x h3
   ·by_cases h4:x.1.1=4
    ·exact qxd x h4
    ·exact qxh x ⟨h1,h2,h3,h4⟩
def DC:CV:=(75,.inl ctIsR)::C1
theorem dxC:CxOK Tryz.prog tt G0 DC:=cx1.k q02 (fn:=Tryz.f75)
theorem qy2 (li:Bool) (m o:Int) (l:List OpT) (Q:QT) (R:RT):sA DC Tryz.f25 Q R [.code (qad Tryz.f25)] (entry [paS] ((li,m,o,l),())) =
  (ctSize.pre (m,())/\bc (!(decide ((0:iI.D)<=m)&&decide (m<=(65536:iI.D)))) (true=true/\true=true/\Q [.i (-1:Int),.i 60] [(1,.var (pL li m o l))]) (ctSize.pre (o,())/\bc (bif false then true else !(decide ((0:iI.D)<=o)&&decide (o<=(65536:iI.D)))) (true=true/\Q [.i (-1:Int),.i 60] [(1,.var (pL li m o l))]) (bc (bif false then true else decide ((4096:Int)<l.length)) (Q [.i (-1:Int),.i 60] [(1,.var (pL li m o l))]) (R (hd Tryz.f25 0) { env:=[(0,.agg (pL li m o l)),(1,.ptr 1 0),(2,.i 0),(3,.i 0),(4,.i o),(7,.ptr 1 1),(8,.i m),(9,.bool (decide ((0:iI.D)<=m)&&decide (m<=(65536:iI.D)))),(10,.bool !(decide ((0:iI.D)<=m)&&decide (m<=(65536:iI.D)))),(11,.bool false),(12,.ptr 1 2),(13,.i o),(14,.bool (decide ((0:iI.D)<=o)&&decide (o<=(65536:iI.D)))),(15,.bool !(decide ((0:iI.D)<=o)&&decide (o<=(65536:iI.D)))),(16,.bool (bif false then true else !(decide ((0:iI.D)<=o)&&decide (o<=(65536:iI.D))))),(17,.bool false),(18,.ptr 1 3),(19,.sl opS l),(20,.i l.length),(21,.bool (decide ((4096:Int)<l.length))),(22,.bool (bif false then true else decide ((4096:Int)<l.length))),(23,.ptr 1 2),(24,.i o),(25,.ptr 1 3),(26,.sl opS l),(27,.i l.length),(28,.i 0)],blk:=[(1,.var (pL li m o l))] })))):=by kernel_rfl
def qhj (li:Bool) (m o:Int) (l:List OpT) (i:Nat):List (Nat × LB):=[(1,.var (pL li m o l)),(6,.var (oI (gtO l (i:Int).toNat)))]
theorem qn6 (li:Bool) (m o left:Int) (l:List OpT) (i:Nat) (Q:QT) (R:RT):sA DC Tryz.f25 Q R (hd Tryz.f25 0) ⟨[(1,.ptr 1 0),(4,.i left),(26,.sl opS l),(27,.i l.length),(28,.i (i:Nat))],[(1,.var (pL li m o l))]⟩ =
  (bc (decide ((i:Int)<l.length)) ((0:Int)<=i/\(i:Int)<l.length/\ctIsR.pre ((gtO l (i:Int).toNat),m,())/\bc (!isRB (gtO l (i:Int).toNat) m) (true=true/\Q [.i i,.i 60] (qhj li m o l i)) (bc (bif false then true else decide (left<(gtO l (i:Int).toNat).2.2.1)) (Q [.i i,.i 60] (qhj li m o l i)) (R (hd Tryz.f25 0) { env:=[(1,.ptr 1 0),(4,.i (i64.wrap (left-(gtO l (i:Int).toNat).2.2.1))),(5,.i i),(6,.ptr 6 0),(26,.sl opS l),(27,.i l.length),(28,.i (i64.wrap ((i:Int)+1))),(29,.bool (decide ((i:Int)<l.length))),(30,.i i),(31,.elv opS (gtO l (i:Int).toNat)),(32,.agg (oI (gtO l (i:Int).toNat))),(33,.agg (oI (gtO l (i:Int).toNat))),(34,.ptr 1 1),(35,.i m),(36,.bool (isRB (gtO l (i:Int).toNat) m)),(37,.bool !isRB (gtO l (i:Int).toNat) m),(38,.bool false),(39,.ptr 6 2),(40,.i (gtO l (i:Int).toNat).2.2.1),(41,.i left),(42,.bool (decide (left<(gtO l (i:Int).toNat).2.2.1))),(43,.bool (bif false then true else decide (left<(gtO l (i:Int).toNat).2.2.1))),(45,.i left),(46,.ptr 6 2),(47,.i (gtO l (i:Int).toNat).2.2.1),(48,.i (i64.wrap (left-(gtO l (i:Int).toNat).2.2.1))),(49,.i (i64.wrap ((i:Int)+1)))],blk:=[(1,.var (pL li m o l)),(6,.var (oI (gtO l (i:Int).toNat)))] }))) (bc (decide ((0:Int)<left)) (Q [.i l.length,.i 60] [(1,.var (pL li m o l))]) (Q [.i l.length,.i 0] [(1,.var (pL li m o l))]))):=by kernel_rfl
theorem q8f (old:List Int) (l:List SyT) (Q:QT) (R:RT):sA [] Tryz.f19 Q R [.code (qad Tryz.f19)] (entry [.sl uB,.sl syS] (old,l,())) =
  ((0:Int)<=l.length/\(l.length:Int)<=(l.length:Int)/\(l.length:Int)<2 ^ 24/\(↑(1:Nat):Int)*(l.length:Int)<=2 ^ 48/\R (hd Tryz.f19 0) { env:=[(0,.sl uB old),(1,.sl syS l),(4,.nils),(5,.i 0),(6,.win true uB 11 0 (l.length:Int).toNat),(9,.sl syS l),(10,.i l.length),(11,.win true uB 11 0 (l.length:Int).toNat),(12,.sl syS l),(13,.i l.length),(14,.i 0)],blk:=[(11,.row 5 uB (List.replicate (l.length:Int).toNat uB.dflt))] }):=by kernel_rfl
def qkr (b:List Int) (l:List SyT) (i:Nat):List (Nat × LB):=[(8,.var (yI (gtY l (i:Int).toNat))),(11,.row 5 uB (b.set ((0:Nat)+(i:Int).toNat) (gtY l (i:Int).toNat).2.2))]
theorem quq (old b:List Int) (l:List SyT) (i:Nat) (Q:QT) (R:RT):sA [] Tryz.f19 Q R (hd Tryz.f19 0) ⟨[(0,.sl uB old),(6,.win true uB 11 0 b.length),(12,.sl syS l),(13,.i l.length),(14,.i (i:Nat))],[(11,.row 5 uB b)]⟩ =
  (bc (decide ((i:Int)<l.length)) ((0:Int)<=i/\(i:Int)<l.length/\(0:Int)<=i/\(i:Int)<b.length/\(0:Nat)+(i:Int).toNat<b.length/\bc (!(gtY l (i:Int).toNat).1) (R (hd Tryz.f19 0) { env:=[(0,.sl uB old),(6,.win true uB 11 0 b.length),(7,.i i),(8,.ptr 8 0),(12,.sl syS l),(13,.i l.length),(14,.i (i64.wrap ((i:Int)+1))),(15,.bool (decide ((i:Int)<l.length))),(16,.i i),(17,.elv syS (gtY l (i:Int).toNat)),(18,.agg (yI (gtY l (i:Int).toNat))),(19,.win true uB 11 0 b.length),(20,.i i),(21,.ptr 8 2),(22,.u (gtY l (i:Int).toNat).2.2),(23,.elp uB (11:Nat) ((0:Nat)+(i:Int).toNat) (0:Nat)),(24,.ptr 8 0),(25,.bool (gtY l (i:Int).toNat).1),(26,.bool !(gtY l (i:Int).toNat).1),(48,.i (i64.wrap ((i:Int)+1)))],blk:=[(8,.var (yI (gtY l (i:Int).toNat))),(11,.row 5 uB (b.set ((0:Nat)+(i:Int).toNat) (gtY l (i:Int).toNat).2.2))] }) (bc (decide ((gtY l (i:Int).toNat).2.1<0)) (true=true/\Q [.nils,.i 61] (qkr b l i)) (bc (bif false then true else decide ((old.length:Int)<=(gtY l (i:Int).toNat).2.1)) (Q [.nils,.i 61] (qkr b l i)) ((0:Int)<=i/\(i:Int)<b.length/\(0:Nat)+(i:Int).toNat<(b.set ((0:Nat)+(i:Int).toNat) (gtY l (i:Int).toNat).2.2).length/\(0:Int)<=(gtY l (i:Int).toNat).2.1/\(gtY l (i:Int).toNat).2.1<(old.length:Int)/\(0:Int)<=i/\(i:Int)<b.length/\(0:Nat)+(i:Int).toNat<(b.set ((0:Nat)+(i:Int).toNat) (gtY l (i:Int).toNat).2.2).length/\R (hd Tryz.f19 0) { env:=[(0,.sl uB old),(6,.win true uB 11 0 b.length),(7,.i i),(8,.ptr 8 0),(12,.sl syS l),(13,.i l.length),(14,.i (i64.wrap ((i:Int)+1))),(15,.bool (decide ((i:Int)<l.length))),(16,.i i),(17,.elv syS (gtY l (i:Int).toNat)),(18,.agg (yI (gtY l (i:Int).toNat))),(19,.win true uB 11 0 b.length),(20,.i i),(21,.ptr 8 2),(22,.u (gtY l (i:Int).toNat).2.2),(23,.elp uB (11:Nat) ((0:Nat)+(i:Int).toNat) (0:Nat)),(24,.ptr 8 0),(25,.bool (gtY l (i:Int).toNat).1),(26,.bool !(gtY l (i:Int).toNat).1),(27,.ptr 8 1),(28,.i (gtY l (i:Int).toNat).2.1),(29,.bool (decide ((gtY l (i:Int).toNat).2.1<0))),(30,.bool false),(31,.ptr 8 1),(32,.i (gtY l (i:Int).toNat).2.1),(33,.sl uB old),(34,.i old.length),(35,.bool (decide ((old.length:Int)<=(gtY l (i:Int).toNat).2.1))),(36,.bool (bif false then true else decide ((old.length:Int)<=(gtY l (i:Int).toNat).2.1))),(37,.win true uB 11 0 b.length),(38,.i i),(39,.elp uB (11:Nat) ((0:Nat)+(i:Int).toNat) (0:Nat)),(40,.u (gtB (b.set ((0:Nat)+(i:Int).toNat) (gtY l (i:Int).toNat).2.2) ((0:Nat)+(i:Int).toNat))),(41,.sl uB old),(42,.ptr 8 1),(43,.i (gtY l (i:Int).toNat).2.1),(44,.elv uB (gtB old (Int.toNat (gtY l (i:Int).toNat).2.1))),(45,.u (gtB old (Int.toNat (gtY l (i:Int).toNat).2.1))),(46,.u (u8.wrap (gtB (b.set ((0:Nat)+(i:Int).toNat) (gtY l (i:Int).toNat).2.2) ((0:Nat)+(i:Int).toNat)+gtB old (Int.toNat (gtY l (i:Int).toNat).2.1)))),(47,.elp uB (11:Nat) ((0:Nat)+(i:Int).toNat) (0:Nat)),(48,.i (i64.wrap ((i:Int)+1)))],blk:=[(8,.var (yI (gtY l (i:Int).toNat))),(11,.row 5 uB ((b.set ((0:Nat)+(i:Int).toNat) (gtY l (i:Int).toNat).2.2).set ((0:Nat)+(i:Int).toNat) (u8.wrap (gtB (b.set ((0:Nat)+(i:Int).toNat) (gtY l (i:Int).toNat).2.2) ((0:Nat)+(i:Int).toNat)+gtB old (Int.toNat (gtY l (i:Int).toNat).2.1)))))] })))) (Q [.win true uB 11 0 b.length,.i 0] [(11,.row 5 uB b)])):=by kernel_rfl
theorem q48 (l:List SyT) (m:Int) (Q:QT) (R:RT):sA [] Tryz.f70 Q R [.code (qad Tryz.f70)] (entry [.sl syS,iI] (l,m,())) =
  (R (hd Tryz.f70 0) { env:=[(0,.sl syS l),(1,.i m),(4,.bool false),(8,.sl syS l),(9,.i l.length),(10,.i 0)],blk:=[] }):=by kernel_rfl
def qcx (l:List SyT) (i:Nat):List (Nat × LB):=[(6,.var (yI (gtY l (i:Int).toNat)))]
theorem qq7 (l:List SyT) (m:Int) (i:Nat) (Q:QT) (R:RT):sA [] Tryz.f70 Q R (hd Tryz.f70 0) ⟨[(1,.i m),(8,.sl syS l),(9,.i l.length),(10,.i (i:Nat))],[]⟩ =
  (bc (decide ((i:Int)<l.length)) ((0:Int)<=i/\(i:Int)<l.length/\bc (decide ((0:Int)<=(gtY l (i:Int).toNat).2.1)) (bc (gtY l (i:Int).toNat).1 (bc (bif true then !bif true then decide ((gtY l (i:Int).toNat).2.1<m) else false else false) (true=true/\Q [.bool false] (qcx l i)) (bc (!(gtY l (i:Int).toNat).1) (bc (bif false then true else bif true then decide ((gtY l (i:Int).toNat).2.1≠0) else false) (Q [.bool false] (qcx l i)) (R (hd Tryz.f70 0) { env:=[(1,.i m),(6,.ptr 6 0),(7,.bool (decide ((gtY l (i:Int).toNat).2.1<m))),(8,.sl syS l),(9,.i l.length),(10,.i (i64.wrap ((i:Int)+1))),(11,.bool (decide ((i:Int)<l.length))),(12,.elv syS (gtY l (i:Int).toNat)),(13,.agg (yI (gtY l (i:Int).toNat))),(14,.ptr 6 1),(15,.i (gtY l (i:Int).toNat).2.1),(16,.bool (decide ((0:Int)<=(gtY l (i:Int).toNat).2.1))),(17,.bool true),(18,.ptr 6 1),(19,.i (gtY l (i:Int).toNat).2.1),(20,.i m),(21,.bool (decide ((gtY l (i:Int).toNat).2.1<m))),(22,.bool (decide ((gtY l (i:Int).toNat).2.1<m))),(23,.ptr 6 0),(24,.bool (gtY l (i:Int).toNat).1),(25,.bool true),(26,.bool (decide ((gtY l (i:Int).toNat).2.1<m))),(27,.bool !bif true then decide ((gtY l (i:Int).toNat).2.1<m) else false),(28,.bool (bif true then !bif true then decide ((gtY l (i:Int).toNat).2.1<m) else false else false)),(29,.bool false),(30,.ptr 6 0),(31,.bool (gtY l (i:Int).toNat).1),(32,.bool !(gtY l (i:Int).toNat).1),(33,.bool true),(34,.ptr 6 1),(35,.i (gtY l (i:Int).toNat).2.1),(36,.bool (decide ((gtY l (i:Int).toNat).2.1≠0))),(37,.bool (decide ((gtY l (i:Int).toNat).2.1≠0))),(38,.bool (bif false then true else bif true then decide ((gtY l (i:Int).toNat).2.1≠0) else false)),(39,.i (i64.wrap ((i:Int)+1)))],blk:=[(6,.var (yI (gtY l (i:Int).toNat)))] })) (false=false/\R (hd Tryz.f70 0) { env:=[(1,.i m),(6,.ptr 6 0),(7,.bool (decide ((gtY l (i:Int).toNat).2.1<m))),(8,.sl syS l),(9,.i l.length),(10,.i (i64.wrap ((i:Int)+1))),(11,.bool (decide ((i:Int)<l.length))),(12,.elv syS (gtY l (i:Int).toNat)),(13,.agg (yI (gtY l (i:Int).toNat))),(14,.ptr 6 1),(15,.i (gtY l (i:Int).toNat).2.1),(16,.bool (decide ((0:Int)<=(gtY l (i:Int).toNat).2.1))),(17,.bool true),(18,.ptr 6 1),(19,.i (gtY l (i:Int).toNat).2.1),(20,.i m),(21,.bool (decide ((gtY l (i:Int).toNat).2.1<m))),(22,.bool (decide ((gtY l (i:Int).toNat).2.1<m))),(23,.ptr 6 0),(24,.bool (gtY l (i:Int).toNat).1),(25,.bool true),(26,.bool (decide ((gtY l (i:Int).toNat).2.1<m))),(27,.bool !bif true then decide ((gtY l (i:Int).toNat).2.1<m) else false),(28,.bool (bif true then !bif true then decide ((gtY l (i:Int).toNat).2.1<m) else false else false)),(29,.bool false),(30,.ptr 6 0),(31,.bool (gtY l (i:Int).toNat).1),(32,.bool !(gtY l (i:Int).toNat).1),(33,.bool false),(34,SV.tup []),(35,SV.tup []),(36,SV.tup []),(37,.bool false),(38,.bool (bif false then true else false)),(39,.i (i64.wrap ((i:Int)+1)))],blk:=[(6,.var (yI (gtY l (i:Int).toNat)))] }))) (false=false/\bc (!(gtY l (i:Int).toNat).1) (bc (bif false then true else bif true then decide ((gtY l (i:Int).toNat).2.1≠0) else false) (Q [.bool false] (qcx l i)) (R (hd Tryz.f70 0) { env:=[(1,.i m),(6,.ptr 6 0),(7,.bool (decide ((gtY l (i:Int).toNat).2.1<m))),(8,.sl syS l),(9,.i l.length),(10,.i (i64.wrap ((i:Int)+1))),(11,.bool (decide ((i:Int)<l.length))),(12,.elv syS (gtY l (i:Int).toNat)),(13,.agg (yI (gtY l (i:Int).toNat))),(14,.ptr 6 1),(15,.i (gtY l (i:Int).toNat).2.1),(16,.bool (decide ((0:Int)<=(gtY l (i:Int).toNat).2.1))),(17,.bool true),(18,.ptr 6 1),(19,.i (gtY l (i:Int).toNat).2.1),(20,.i m),(21,.bool (decide ((gtY l (i:Int).toNat).2.1<m))),(22,.bool (decide ((gtY l (i:Int).toNat).2.1<m))),(23,.ptr 6 0),(24,.bool (gtY l (i:Int).toNat).1),(25,.bool false),(26,SV.tup []),(27,SV.tup []),(28,.bool false),(29,.bool false),(30,.ptr 6 0),(31,.bool (gtY l (i:Int).toNat).1),(32,.bool !(gtY l (i:Int).toNat).1),(33,.bool true),(34,.ptr 6 1),(35,.i (gtY l (i:Int).toNat).2.1),(36,.bool (decide ((gtY l (i:Int).toNat).2.1≠0))),(37,.bool (decide ((gtY l (i:Int).toNat).2.1≠0))),(38,.bool (bif false then true else bif true then decide ((gtY l (i:Int).toNat).2.1≠0) else false)),(39,.i (i64.wrap ((i:Int)+1)))],blk:=[(6,.var (yI (gtY l (i:Int).toNat)))] })) (false=false/\R (hd Tryz.f70 0) { env:=[(1,.i m),(6,.ptr 6 0),(7,.bool (decide ((gtY l (i:Int).toNat).2.1<m))),(8,.sl syS l),(9,.i l.length),(10,.i (i64.wrap ((i:Int)+1))),(11,.bool (decide ((i:Int)<l.length))),(12,.elv syS (gtY l (i:Int).toNat)),(13,.agg (yI (gtY l (i:Int).toNat))),(14,.ptr 6 1),(15,.i (gtY l (i:Int).toNat).2.1),(16,.bool (decide ((0:Int)<=(gtY l (i:Int).toNat).2.1))),(17,.bool true),(18,.ptr 6 1),(19,.i (gtY l (i:Int).toNat).2.1),(20,.i m),(21,.bool (decide ((gtY l (i:Int).toNat).2.1<m))),(22,.bool (decide ((gtY l (i:Int).toNat).2.1<m))),(23,.ptr 6 0),(24,.bool (gtY l (i:Int).toNat).1),(25,.bool false),(26,SV.tup []),(27,SV.tup []),(28,.bool false),(29,.bool false),(30,.ptr 6 0),(31,.bool (gtY l (i:Int).toNat).1),(32,.bool !(gtY l (i:Int).toNat).1),(33,.bool false),(34,SV.tup []),(35,SV.tup []),(36,SV.tup []),(37,.bool false),(38,.bool (bif false then true else false)),(39,.i (i64.wrap ((i:Int)+1)))],blk:=[(6,.var (yI (gtY l (i:Int).toNat)))] }))) (false=false/\bc (gtY l (i:Int).toNat).1 (true=true/\Q [.bool false] (qcx l i)) (false=false/\bc (!(gtY l (i:Int).toNat).1) (bc (bif false then true else bif true then decide ((gtY l (i:Int).toNat).2.1≠0) else false) (Q [.bool false] (qcx l i)) (R (hd Tryz.f70 0) { env:=[(1,.i m),(6,.ptr 6 0),(7,.bool false),(8,.sl syS l),(9,.i l.length),(10,.i (i64.wrap ((i:Int)+1))),(11,.bool (decide ((i:Int)<l.length))),(12,.elv syS (gtY l (i:Int).toNat)),(13,.agg (yI (gtY l (i:Int).toNat))),(14,.ptr 6 1),(15,.i (gtY l (i:Int).toNat).2.1),(16,.bool (decide ((0:Int)<=(gtY l (i:Int).toNat).2.1))),(17,.bool false),(18,SV.tup []),(19,SV.tup []),(20,SV.tup []),(21,SV.tup []),(22,.bool false),(23,.ptr 6 0),(24,.bool (gtY l (i:Int).toNat).1),(25,.bool false),(26,SV.tup []),(27,SV.tup []),(28,.bool false),(29,.bool false),(30,.ptr 6 0),(31,.bool (gtY l (i:Int).toNat).1),(32,.bool !(gtY l (i:Int).toNat).1),(33,.bool true),(34,.ptr 6 1),(35,.i (gtY l (i:Int).toNat).2.1),(36,.bool (decide ((gtY l (i:Int).toNat).2.1≠0))),(37,.bool (decide ((gtY l (i:Int).toNat).2.1≠0))),(38,.bool (bif false then true else bif true then decide ((gtY l (i:Int).toNat).2.1≠0) else false)),(39,.i (i64.wrap ((i:Int)+1)))],blk:=[(6,.var (yI (gtY l (i:Int).toNat)))] })) (false=false/\R (hd Tryz.f70 0) { env:=[(1,.i m),(6,.ptr 6 0),(7,.bool false),(8,.sl syS l),(9,.i l.length),(10,.i (i64.wrap ((i:Int)+1))),(11,.bool (decide ((i:Int)<l.length))),(12,.elv syS (gtY l (i:Int).toNat)),(13,.agg (yI (gtY l (i:Int).toNat))),(14,.ptr 6 1),(15,.i (gtY l (i:Int).toNat).2.1),(16,.bool (decide ((0:Int)<=(gtY l (i:Int).toNat).2.1))),(17,.bool false),(18,SV.tup []),(19,SV.tup []),(20,SV.tup []),(21,SV.tup []),(22,.bool false),(23,.ptr 6 0),(24,.bool (gtY l (i:Int).toNat).1),(25,.bool false),(26,SV.tup []),(27,SV.tup []),(28,.bool false),(29,.bool false),(30,.ptr 6 0),(31,.bool (gtY l (i:Int).toNat).1),(32,.bool !(gtY l (i:Int).toNat).1),(33,.bool false),(34,SV.tup []),(35,SV.tup []),(36,SV.tup []),(37,.bool false),(38,.bool (bif false then true else false)),(39,.i (i64.wrap ((i:Int)+1)))],blk:=[(6,.var (yI (gtY l (i:Int).toNat)))] })))) (Q [.bool true] [])):=by kernel_rfl
def qgs (s t:SyT):List (Nat × LB):=[(2,.var [.bool s.1,.i s.2.1,.u s.2.2]),(3,.var [.bool t.1,.i t.2.1,.u t.2.2])]
theorem q44 (s t:SyT) (Q:QT) (R:RT):sA C1 Tryz.f127 Q R [.code (qad Tryz.f127)] (entry [syS,syS] (s,t,())) =
  (ctKnd.pre (s,())/\ctKnd.pre (t,())/\bc (decide (kndB s=kndB t)) (bc (!s.1) (true=true/\Q [.bool true] (qgs s t)) (Q [.bool (decide (t.2.1=i64.wrap (s.2.1+1)))] (qgs s t))) (false=false/\Q [.bool false] (qgs s t))):=by kernel_rfl
theorem qyr (k a:Int) (b:List Int) (l:List SyT) (i:Nat) (Q:QT) (R:RT):sA C1 Tryz.f128 Q R (hd Tryz.f128 0) ⟨[(2,.ptr 2 0),(3,.ptr 3 0),(25,.sl syS l),(26,.i l.length),(27,.i (i:Nat))],[(2,.var [.i 0,.i 0,.i 0,.u 0,.nils]),(3,.var [.i k,.i a,.i l.length,.u 0,.win true uB 23 0 b.length]),(23,.row 5 uB b)]⟩ =
  (bc (decide ((i:Int)<l.length)) ((0:Int)<=i/\(i:Int)<l.length/\(0:Int)<=i/\(i:Int)<b.length/\(0:Nat)+(i:Int).toNat<b.length/\R (hd Tryz.f128 0) { env:=[(2,.ptr 2 0),(3,.ptr 3 0),(4,.i i),(5,.ptr 5 0),(25,.sl syS l),(26,.i l.length),(27,.i (i64.wrap ((i:Int)+1))),(28,.bool (decide ((i:Int)<l.length))),(29,.i i),(30,.elv syS (gtY l (i:Int).toNat)),(31,.agg (yI (gtY l (i:Int).toNat))),(32,.ptr 3 4),(33,.win true uB 23 0 b.length),(34,.i i),(35,.ptr 5 2),(36,.u (gtY l (i:Int).toNat).2.2),(37,.elp uB (23:Nat) ((0:Nat)+(i:Int).toNat) (0:Nat)),(38,.i (i64.wrap ((i:Int)+1)))],blk:=[(2,.var [.i 0,.i 0,.i 0,.u 0,.nils]),(3,.var [.i k,.i a,.i l.length,.u 0,.win true uB 23 0 b.length]),(5,.var (yI (gtY l (i:Int).toNat))),(23,.row 5 uB (b.set ((0:Nat)+(i:Int).toNat) (gtY l (i:Int).toNat).2.2))] }) (Q [.agg [.i k,.i a,.i l.length,.u 0,.win true uB 23 0 b.length]] [(2,.var [.i k,.i a,.i l.length,.u 0,.win true uB 23 0 b.length]),(3,.var [.i k,.i a,.i l.length,.u 0,.win true uB 23 0 b.length]),(23,.row 5 uB b)])):=by kernel_rfl
theorem q4r (l:List SyT) (Q:QT) (R:RT):sA C1 Tryz.f128 Q R [.code (qad Tryz.f128)] (entry [.sl syS] (l,())) =
  ((0:Int)<=0/\(0:Int)<l.length/\ctKnd.pre ((gtY l (0)),())/\(0:Int)<=0/\(0:Int)<l.length/\bc (decide (kndB (gtY l (0))=(1:Int))) (Q [.agg [.i (kndB (gtY l (0))),.i (gtY l (0)).2.1,.i l.length,.u 0,.nils]] [(2,.var [.i (kndB (gtY l (0))),.i (gtY l (0)).2.1,.i l.length,.u 0,.nils]),(3,.var [.i (kndB (gtY l (0))),.i (gtY l (0)).2.1,.i l.length,.u 0,.nils])]) ((0:Int)<=l.length/\(l.length:Int)<=(l.length:Int)/\(l.length:Int)<2 ^ 24/\(↑(1:Nat):Int)*(l.length:Int)<=2 ^ 48/\R (hd Tryz.f128 0) { env:=[(0,.sl syS l),(2,.ptr 2 0),(3,.ptr 3 0),(6,.sl syS l),(7,.elv syS (gtY l (0))),(8,.agg (yI (gtY l (0)))),(9,.i (kndB (gtY l (0)))),(10,.sl syS l),(11,.elv syS (gtY l (0))),(12,.elv iI (gtY l (0)).2.1),(13,.i (gtY l (0)).2.1),(14,.sl syS l),(15,.i l.length),(16,.agg [.i (kndB (gtY l (0))),.i (gtY l (0)).2.1,.i l.length,.u 0,.nils]),(17,.ptr 3 0),(18,.i (kndB (gtY l (0)))),(19,.bool (decide (kndB (gtY l (0))=(1:Int)))),(21,.sl syS l),(22,.i l.length),(23,.win true uB 23 0 (l.length:Int).toNat),(24,.ptr 3 4),(25,.sl syS l),(26,.i l.length),(27,.i 0)],blk:=[(2,.var [.i 0,.i 0,.i 0,.u 0,.nils]),(3,.var [.i (kndB (gtY l (0))),.i (gtY l (0)).2.1,.i l.length,.u 0,.win true uB 23 0 (l.length:Int).toNat]),(23,.row 5 uB (List.replicate (l.length:Int).toNat uB.dflt))] })):=by kernel_rfl
attribute [local irreducible] Go.Px.sy Go.Px.syE
theorem gtE {e:Sh} {l:List e.D} {i:Nat} (h:i<l.length):gt e l i=l[i]:=by
 show (l[i]?).getD _=l[i]
 rw[List.getElem?_eq_getElem h];rfl
theorem qgh {l:List OpT} {i:Nat} (h:i<l.length):gtO l i=l[i]:=gtE (e:=opS) h
theorem qay {l:List SyT} {i:Nat} (h:i<l.length):gtY l i=l[i]:=gtE (e:=syS) h
theorem qt1 {α:Type} {l:List α} {i:Nat} (h:i<l.length):l.drop i=l[i]::l.drop (i+1):=List.drop_eq_getElem_cons h
abbrev GD (f:Nat) (fn:Func) (Q:List SV->List (Nat × LB)->Prop) (it:List Item) (S:PS):Prop:=Px.Good Tryz.prog tt G0 f fn.ntmps fn.results.toList Q it S
def szB (n:Int):Bool:=decide (0<=n)&&decide (n<=65536)
def chkF (m N:Int):List OpT->Int->Int->Int × Int
 | [],left,_=>if 0<left then (N,60) else (N,0)
 | x::l,left,i=>if isRB x m=false then (i,60) else if left<x.2.2.1 then (i,60) else chkF m N l (left-x.2.2.1) (i+1)
def chkV (p:PaT):Int × Int:=if szB p.2.1=true/\szB p.2.2.1=true/\p.2.2.2.length<=4096 then chkF p.2.1 p.2.2.2.length p.2.2.2 p.2.2.1 0 else (-1,60)
def ctChk:Ctr:=⟨[paS],λ _=>True,λ x=>[.i (chkV x.1).1,.i (chkV x.1).2],λ _=>[]⟩
theorem qdt {x:OpT} {m:Int} (h:isRB x m=true):1<=x.2.2.1/\x.2.2.1<=65536:=by
 unfold isRB at h;simp only[Bool.and_eq_true,decide_eq_true_eq] at h;exact ⟨h.1,h.2.1⟩
theorem q1r (li:Bool) (m o:Int) (l:List OpT) (hl:l.length<=4096):∀ (k i:Nat) (left:Int),l.length-i=k->i<=l.length->0<=left/\left<=65536 ->
  GD 25 Tryz.f25 (λ rs _=>rs=[.i (chkF m l.length (l.drop i) left i).1,.i (chkF m l.length (l.drop i) left i).2]) (hd Tryz.f25 0) ⟨[(1,.ptr 1 0),(4,.i left),(26,.sl opS l),(27,.i l.length),(28,.i (i:Nat))],[(1,.var (pL li m o l))]⟩:=by
 intro k
 induction k with
 | zero=>
  intro i left hk hi hb;have hi:i=l.length:=by omega
  subst hi;refine qaj dxC _ _ _ ((qn6 li m o left l _ _ _).mpr ?_);rw[decide_eq_false (by omega),bc_f,List.drop_length];refine qaf (λ h=>?_) (λ h=>?_)
  ·rw[chkF,if_pos (of_decide_eq_true h)]
  ·rw[chkF,if_neg (of_decide_eq_false h)]
 | succ k ih=>
  intro i left hk hi hb;have hil:i<l.length:=by omega
  refine qaj dxC _ _ _ ((qn6 li m o left l i _ _).mpr ?_);rw[decide_eq_true (show (i:Int)<(l.length:Int) by omega),bc_t,Int.toNat_natCast,qgh hil,qt1 hil];refine ⟨by omega,by omega,trivial,qaf (λ h=>⟨rfl,?_⟩) (λ h=>qaf (λ h2=>?_) (λ h2=>?_))⟩
  ·rw[chkF,if_pos (by simpa using h)]
  ·have h:isRB l[i] m=true:=by simpa using h
   rw[chkF,if_neg (by rw[h];decide),if_pos (of_decide_eq_true h2)]
  ·have h:isRB l[i] m=true:=by simpa using h
   have hn:=qdt h;have h2:¬ left<l[i].2.2.1:=of_decide_eq_false h2;rw[chkF,if_neg (by rw[h];decide),if_neg h2,IntWalk.i64_in (left-l[i].2.2.1) (by omega),IntWalk.i64_in ((i:Int)+1) (by omega)];exact (ih (i+1) (left-l[i].2.2.1) (by omega) (by omega) (by omega)).only ⟨rfl,rfl,rfl,rfl,rfl,trivial⟩ ⟨rfl,trivial⟩
theorem q1s:Held Tryz.prog G0 25 ctChk:=by
 refine Held.run dxC (fn:=Tryz.f25) rfl rfl ⟨by decide,by decide⟩ ?_;rintro ⟨⟨li,m,o,l⟩,⟨⟩⟩ _;refine (qy2 li m o l _ _).mpr ⟨trivial,qaf (λ h=>⟨rfl,rfl,?_⟩) (λ h=>⟨trivial,qaf (λ h2=>⟨rfl,?_⟩) (λ h2=>qaf (λ h3=>?_) (λ h3=>?_))⟩)⟩
 ·have hv:chkV (li,m,o,l)=(-1,60):=if_neg λ q=>by
   have h:(!szB m)=true:=h;rw[q.1] at h;cases h
  exact QC.flat (by simp only[ctChk,hv]) rfl rfl
 ·have hv:chkV (li,m,o,l)=(-1,60):=if_neg λ q=>by
   have h2:(!szB o)=true:=h2;rw[q.2.1] at h2;cases h2
  exact QC.flat (by simp only[ctChk,hv]) rfl rfl
 ·have hv:chkV (li,m,o,l)=(-1,60):=if_neg λ q=>by
   have h3:(4096:Int)<(l.length:Int):=of_decide_eq_true h3;have:=q.2.2;simp only at this;omega
  exact QC.flat (by simp only[ctChk,hv]) rfl rfl
 ·have h:szB m=true:=by
   have h:(!szB m)=false:=h;simpa using h
  have h2:szB o=true:=by
   have h2:(!szB o)=false:=h2;simpa using h2
  have h3:l.length<=4096:=by
   have h3:¬ (4096:Int)<(l.length:Int):=of_decide_eq_false h3;omega
  have hv:chkV (li,m,o,l)=chkF m l.length l o 0:=if_pos ⟨h,h2,h3⟩;have ho:0<=o/\o<=65536:=by
   unfold szB at h2;simpa only[Bool.and_eq_true,decide_eq_true_eq] using h2
  have e:=q1r li m o l h3 _ 0 o rfl (by omega) ho;refine (e.post λ rs blk hq=>QC.flat ?_ rfl (by rw[hq];rfl)).only ⟨rfl,rfl,rfl,rfl,rfl,trivial⟩ ⟨rfl,trivial⟩;rw[hq];simp only[ctChk,hv];rfl
def goB (s t:SyT):Bool:=decide (kndB s=kndB t)&&(!s.1 || decide (t.2.1=IntKind.i64.wrap (s.2.1+1)))
def ctGo:Ctr:=⟨[syS,syS],λ _=>True,λ x=>[.bool (goB x.1 x.2.1)],λ _=>[]⟩
theorem q7e:Held Tryz.prog G0 127 ctGo:=by
 refine Held.run cx1 (fn:=Tryz.f127) rfl rfl ⟨by decide,by decide⟩ ?_;rintro ⟨s,t,⟨⟩⟩ _;refine (q44 s t _ _).mpr ⟨trivial,trivial,qaf (λ h=>qaf (λ h2=>⟨rfl,?_⟩) (λ h2=>?_)) (λ h=>⟨rfl,?_⟩)⟩
 ·exact QC.flat (by simp only[ctGo,goB,h,h2];rfl) rfl rfl
 ·exact QC.flat (by simp only[ctGo,goB,h,h2];rfl) rfl rfl
 ·exact QC.flat (by simp only[ctGo,goB,h];rfl) rfl rfl
def sOK (m:Int) (s:SyT):Bool:=if s.1=true then decide (0<=s.2.1)&&decide (s.2.1<m) else decide (s.2.1=0)
def ctAre:Ctr:=⟨[.sl syS,iI],λ x=>List.length x.1<1099511627776,λ x=>[.bool (List.all x.1 (sOK x.2.1))],λ _=>[]⟩
theorem q1z (l:List SyT) (m:Int) (hl:l.length<1099511627776):∀ (k i:Nat),l.length-i=k->i<=l.length ->
  GD 70 Tryz.f70 (λ rs _=>rs=[.bool ((l.drop i).all (sOK m))]) (hd Tryz.f70 0) ⟨[(1,.i m),(8,.sl syS l),(9,.i l.length),(10,.i (i:Nat))],[]⟩:=by
 intro k
 induction k with
 | zero=>
  intro i hk hi;have hi:i=l.length:=by omega
  subst hi;refine qaj cx0 _ _ _ ((qq7 l m _ _ _).mpr ?_);rw[decide_eq_false (by omega),bc_f,List.drop_length];rfl
 | succ k ih=>
  intro i hk hi;have hil:i<l.length:=by omega
  refine qaj cx0 _ _ _ ((qq7 l m i _ _).mpr ?_);rw[decide_eq_true (show (i:Int)<(l.length:Int) by omega),bc_t,Int.toNat_natCast,qay hil,qt1 hil];generalize hs:l[i]=s;obtain ⟨o,a,b⟩:=s;have go:sOK m (o,a,b)=true->GD 70 Tryz.f70 (λ rs _=>rs=[.bool (((o,a,b)::l.drop (i+1)).all (sOK m))]) (hd Tryz.f70 0) ⟨[(1,.i m),(8,.sl syS l),(9,.i l.length),(10,.i ((i+1:Nat):Int))],[]⟩:=λ h=>by
   have:=ih (i+1) (by omega) (by omega);rw[List.all_cons,h,Bool.true_and];exact this
  rw[IntWalk.i64_in ((i:Int)+1) (by omega)];refine ⟨by omega,by omega,?_⟩;have fin:sOK m (o,a,b)=false->[SV.bool false]=[SV.bool (((o,a,b)::l.drop (i+1)).all (sOK m))]:=λ h=>by
   rw[List.all_cons,h,Bool.false_and]
  rcases o with _ | _ <;> cases e0:decide (0<=a) <;> cases e1:decide (a<m) <;> cases e2:decide (a=0) <;>
   simp only[e0,e1,e2,decide_not,bc_t,bc_f,cond_true,cond_false,Bool.not_true,Bool.not_false,true_and,ne_eq] <;>
   first
   | (exact (go (by simp only[sOK,e0,e1,e2];rfl)).only ⟨rfl,rfl,rfl,rfl,trivial⟩ trivial)
   | (exact fin (by simp only[sOK,e0,e1,e2];rfl))
theorem q12:Held Tryz.prog G0 70 ctAre:=by
 refine Held.run cx0 (fn:=Tryz.f70) rfl rfl ⟨by decide,by decide⟩ ?_;rintro ⟨l,m,⟨⟩⟩ hp;replace hp:l.length<1099511627776:=hp;refine (q48 l m _ _).mpr ?_;refine ((q1z l m hp _ 0 rfl (by omega)).post λ rs blk hq=>QC.flat ?_ rfl (by rw[hq];rfl)).only ⟨rfl,rfl,rfl,rfl,trivial⟩ trivial;rw[hq];rfl
def mdO (l:List SyT):OpT:=(kndB (gtY l 0),(gtY l 0).2.1,l.length,0,if kndB (gtY l 0)=1 then [] else l.map λ s=>s.2.2)
def mdV (x:OpT):List SV:=[.agg (oJ x.1 x.2.1 x.2.2.1 x.2.2.2.1 x.2.2.2.2)]
def qte (l:List SyT):Prop:=0<l.length/\l.length<16777216
def ctMd:Ctr:=⟨[.sl syS],λ x=>qte x.1,λ x=>mdV (mdO x.1),λ _=>[]⟩
def DO:CV:=(128,.inl ctMd)::(127,.inl ctGo)::C1
set_option maxRecDepth 100000
theorem qys (k a:Int) (d:List Int) (l:List SyT) (i:Nat) (Q:QT) (R:RT):sA C1 Tryz.f128 Q R (hd Tryz.f128 0) ⟨[(2,.ptr 2 0),(3,.ptr 3 0),(25,.sl syS l),(26,.i l.length),(27,.i (i:Nat))],[(2,.var [.i 0,.i 0,.i 0,.u 0,.nils]),(3,.var (oJ k a l.length 0 d))]⟩ =
  (bc (decide ((i:Int)<l.length)) ((0:Int)<=i/\(i:Int)<l.length/\(0:Int)<=i/\(i:Int)<d.length/\False) (Q [.agg (oJ k a (l.length:Int) 0 d)] [(2,.var (oJ k a (l.length:Int) 0 d)),(3,.var (oJ k a (l.length:Int) 0 d))])):=by kernel_rfl
theorem q2s (l:List SyT) (Q:QT) (R:RT):sA DO Tryz.f71 Q R [.code (qad Tryz.f71)] (entry [.sl syS] (l,())) =
  (R (hd Tryz.f71 0) { env:=[(0,.sl syS l),(2,.nils),(3,.nils),(4,.i 0),(5,.i 1)],blk:=[] }):=by kernel_rfl
theorem qus (l:List SyT) (a i:Nat) (Q:QT) (R:RT):sA DO Tryz.f71 Q R (hd Tryz.f71 0) ⟨[(0,.sl syS l),(3,.nils),(4,.i (a:Nat)),(5,.i (i:Nat))],[]⟩ =
  (bc (decide ((i:Int)<=l.length)) (bc (decide ((i:Int)=(l.length:Int))) (true=true/\(0:Int)<=a/\(a:Int)<=i/\(i:Int)<=l.length/\ctMd.pre (Px.part l (some (a:Int)) (some (i:Int)),())/\(0:Nat)+1<=([(mdO (Px.part l (some (a:Int)) (some (i:Int))))]:List opS.D).length/\(([(mdO (Px.part l (some (a:Int)) (some (i:Int))))]:List opS.D)).length<2 ^ 30/\(56:Nat)<=2 ^ 10/\R (hd Tryz.f71 0) { env:=[(0,.sl syS l),(3,.win true opS 36 0 (1:Nat)),(4,.i i),(5,.i (i64.wrap ((i:Int)+1))),(6,.i i),(7,.sl syS l),(8,.i l.length),(9,.bool (decide ((i:Int)<=l.length))),(10,.i i),(11,.i (i64.wrap ((i:Int)+1))),(12,.i i),(13,.sl syS l),(14,.i l.length),(15,.bool (decide ((i:Int)=(l.length:Int)))),(16,.bool true),(17,SV.tup []),(18,SV.tup []),(19,SV.tup []),(20,SV.tup []),(21,SV.tup []),(22,SV.tup []),(23,SV.tup []),(24,SV.tup []),(25,SV.tup []),(26,SV.tup []),(27,SV.tup []),(28,.bool true),(29,.nils),(30,.sl syS l),(31,.i a),(32,.i i),(33,.sl syS (Px.part l (some (a:Int)) (some (i:Int)))),(34,.agg [.i (mdO (Px.part l (some (a:Int)) (some (i:Int)))).1,.i (mdO (Px.part l (some (a:Int)) (some (i:Int)))).2.1,.i (mdO (Px.part l (some (a:Int)) (some (i:Int)))).2.2.1,.u (mdO (Px.part l (some (a:Int)) (some (i:Int)))).2.2.2.1,.sl uB (mdO (Px.part l (some (a:Int)) (some (i:Int)))).2.2.2.2]),(35,.win true opS 35 0 (1:Nat)),(36,.win true opS 36 0 (1:Nat)),(37,.i i)],blk:=[(35,.row 91 opS ([(mdO (Px.part l (some (a:Int)) (some (i:Int))))]:List opS.D)),(36,.row 91 opS (([(mdO (Px.part l (some (a:Int)) (some (i:Int))))]:List opS.D)))] }) ((0:Int)<=i64.wrap ((i:Int)-1)/\i64.wrap ((i:Int)-1)<(l.length:Int)/\(0:Int)<=i/\(i:Int)<l.length/\ctGo.pre ((gtY l (i64.wrap ((i:Int)-1)).toNat),(gtY l (i:Int).toNat),())/\bc (bif false then true else !goB (gtY l (i64.wrap ((i:Int)-1)).toNat) (gtY l (i:Int).toNat)) ((0:Int)<=a/\(a:Int)<=i/\(i:Int)<=l.length/\ctMd.pre (Px.part l (some (a:Int)) (some (i:Int)),())/\(0:Nat)+1<=([(mdO (Px.part l (some (a:Int)) (some (i:Int))))]:List opS.D).length/\(([(mdO (Px.part l (some (a:Int)) (some (i:Int))))]:List opS.D)).length<2 ^ 30/\(56:Nat)<=2 ^ 10/\R (hd Tryz.f71 0) { env:=[(0,.sl syS l),(3,.win true opS 36 0 (1:Nat)),(4,.i i),(5,.i (i64.wrap ((i:Int)+1))),(6,.i i),(7,.sl syS l),(8,.i l.length),(9,.bool (decide ((i:Int)<=l.length))),(10,.i i),(11,.i (i64.wrap ((i:Int)+1))),(12,.i i),(13,.sl syS l),(14,.i l.length),(15,.bool (decide ((i:Int)=(l.length:Int)))),(16,.bool false),(17,.sl syS l),(18,.i i),(19,.i (i64.wrap ((i:Int)-1))),(20,.elv syS (gtY l (i64.wrap ((i:Int)-1)).toNat)),(21,.agg (yI (gtY l (i64.wrap ((i:Int)-1)).toNat))),(22,.sl syS l),(23,.i i),(24,.elv syS (gtY l (i:Int).toNat)),(25,.agg (yI (gtY l (i:Int).toNat))),(26,.bool (goB (gtY l (i64.wrap ((i:Int)-1)).toNat) (gtY l (i:Int).toNat))),(27,.bool !goB (gtY l (i64.wrap ((i:Int)-1)).toNat) (gtY l (i:Int).toNat)),(28,.bool (bif false then true else !goB (gtY l (i64.wrap ((i:Int)-1)).toNat) (gtY l (i:Int).toNat))),(29,.nils),(30,.sl syS l),(31,.i a),(32,.i i),(33,.sl syS (Px.part l (some (a:Int)) (some (i:Int)))),(34,.agg [.i (mdO (Px.part l (some (a:Int)) (some (i:Int)))).1,.i (mdO (Px.part l (some (a:Int)) (some (i:Int)))).2.1,.i (mdO (Px.part l (some (a:Int)) (some (i:Int)))).2.2.1,.u (mdO (Px.part l (some (a:Int)) (some (i:Int)))).2.2.2.1,.sl uB (mdO (Px.part l (some (a:Int)) (some (i:Int)))).2.2.2.2]),(35,.win true opS 35 0 (1:Nat)),(36,.win true opS 36 0 (1:Nat)),(37,.i i)],blk:=[(35,.row 91 opS ([(mdO (Px.part l (some (a:Int)) (some (i:Int))))]:List opS.D)),(36,.row 91 opS (([(mdO (Px.part l (some (a:Int)) (some (i:Int))))]:List opS.D)))] }) (R (hd Tryz.f71 0) { env:=[(0,.sl syS l),(3,.nils),(4,.i a),(5,.i (i64.wrap ((i:Int)+1))),(6,.i i),(7,.sl syS l),(8,.i l.length),(9,.bool (decide ((i:Int)<=l.length))),(10,.i i),(11,.i (i64.wrap ((i:Int)+1))),(12,.i i),(13,.sl syS l),(14,.i l.length),(15,.bool (decide ((i:Int)=(l.length:Int)))),(16,.bool false),(17,.sl syS l),(18,.i i),(19,.i (i64.wrap ((i:Int)-1))),(20,.elv syS (gtY l (i64.wrap ((i:Int)-1)).toNat)),(21,.agg (yI (gtY l (i64.wrap ((i:Int)-1)).toNat))),(22,.sl syS l),(23,.i i),(24,.elv syS (gtY l (i:Int).toNat)),(25,.agg (yI (gtY l (i:Int).toNat))),(26,.bool (goB (gtY l (i64.wrap ((i:Int)-1)).toNat) (gtY l (i:Int).toNat))),(27,.bool !goB (gtY l (i64.wrap ((i:Int)-1)).toNat) (gtY l (i:Int).toNat)),(28,.bool (bif false then true else !goB (gtY l (i64.wrap ((i:Int)-1)).toNat) (gtY l (i:Int).toNat)))],blk:=[] }))) (Q [.nils] [])):=by kernel_rfl
theorem q4j (l:List SyT) (o:List OpT) (a i:Nat) (Q:QT) (R:RT):sA DO Tryz.f71 Q R (hd Tryz.f71 0) ⟨[(0,.sl syS l),(3,.win true opS 3 0 o.length),(4,.i (a:Nat)),(5,.i (i:Nat))],[(3,.row 91 opS o)]⟩ =
  (bc (decide ((i:Int)<=l.length)) (bc (decide ((i:Int)=(l.length:Int))) (true=true/\(0:Int)<=a/\(a:Int)<=i/\(i:Int)<=l.length/\ctMd.pre (Px.part l (some (a:Int)) (some (i:Int)),())/\(0:Nat)+1<=([(mdO (Px.part l (some (a:Int)) (some (i:Int))))]:List opS.D).length/\o.length=o.length/\(0:Nat)=(0:Nat)/\o.length+(([(mdO (Px.part l (some (a:Int)) (some (i:Int))))]:List opS.D)).length<2 ^ 30/\(56:Nat)<=2 ^ 10/\R (hd Tryz.f71 0) { env:=[(0,.sl syS l),(3,.win true opS 36 0 (o.length+(([(mdO (Px.part l (some (a:Int)) (some (i:Int))))]:List opS.D)).length)),(4,.i i),(5,.i (i64.wrap ((i:Int)+1))),(6,.i i),(7,.sl syS l),(8,.i l.length),(9,.bool (decide ((i:Int)<=l.length))),(10,.i i),(11,.i (i64.wrap ((i:Int)+1))),(12,.i i),(13,.sl syS l),(14,.i l.length),(15,.bool (decide ((i:Int)=(l.length:Int)))),(16,.bool true),(17,SV.tup []),(18,SV.tup []),(19,SV.tup []),(20,SV.tup []),(21,SV.tup []),(22,SV.tup []),(23,SV.tup []),(24,SV.tup []),(25,SV.tup []),(26,SV.tup []),(27,SV.tup []),(28,.bool true),(29,.dead),(30,.sl syS l),(31,.i a),(32,.i i),(33,.sl syS (Px.part l (some (a:Int)) (some (i:Int)))),(34,.agg [.i (mdO (Px.part l (some (a:Int)) (some (i:Int)))).1,.i (mdO (Px.part l (some (a:Int)) (some (i:Int)))).2.1,.i (mdO (Px.part l (some (a:Int)) (some (i:Int)))).2.2.1,.u (mdO (Px.part l (some (a:Int)) (some (i:Int)))).2.2.2.1,.sl uB (mdO (Px.part l (some (a:Int)) (some (i:Int)))).2.2.2.2]),(35,.win true opS 35 0 (1:Nat)),(36,.win true opS 36 0 (o.length+(([(mdO (Px.part l (some (a:Int)) (some (i:Int))))]:List opS.D)).length)),(37,.i i)],blk:=[(35,.row 91 opS ([(mdO (Px.part l (some (a:Int)) (some (i:Int))))]:List opS.D)),(36,.row 91 opS (o++([(mdO (Px.part l (some (a:Int)) (some (i:Int))))]:List opS.D)))] }) ((0:Int)<=i64.wrap ((i:Int)-1)/\i64.wrap ((i:Int)-1)<(l.length:Int)/\(0:Int)<=i/\(i:Int)<l.length/\ctGo.pre ((gtY l (i64.wrap ((i:Int)-1)).toNat),(gtY l (i:Int).toNat),())/\bc (bif false then true else !goB (gtY l (i64.wrap ((i:Int)-1)).toNat) (gtY l (i:Int).toNat)) ((0:Int)<=a/\(a:Int)<=i/\(i:Int)<=l.length/\ctMd.pre (Px.part l (some (a:Int)) (some (i:Int)),())/\(0:Nat)+1<=([(mdO (Px.part l (some (a:Int)) (some (i:Int))))]:List opS.D).length/\o.length=o.length/\(0:Nat)=(0:Nat)/\o.length+(([(mdO (Px.part l (some (a:Int)) (some (i:Int))))]:List opS.D)).length<2 ^ 30/\(56:Nat)<=2 ^ 10/\R (hd Tryz.f71 0) { env:=[(0,.sl syS l),(3,.win true opS 36 0 (o.length+(([(mdO (Px.part l (some (a:Int)) (some (i:Int))))]:List opS.D)).length)),(4,.i i),(5,.i (i64.wrap ((i:Int)+1))),(6,.i i),(7,.sl syS l),(8,.i l.length),(9,.bool (decide ((i:Int)<=l.length))),(10,.i i),(11,.i (i64.wrap ((i:Int)+1))),(12,.i i),(13,.sl syS l),(14,.i l.length),(15,.bool (decide ((i:Int)=(l.length:Int)))),(16,.bool false),(17,.sl syS l),(18,.i i),(19,.i (i64.wrap ((i:Int)-1))),(20,.elv syS (gtY l (i64.wrap ((i:Int)-1)).toNat)),(21,.agg (yI (gtY l (i64.wrap ((i:Int)-1)).toNat))),(22,.sl syS l),(23,.i i),(24,.elv syS (gtY l (i:Int).toNat)),(25,.agg (yI (gtY l (i:Int).toNat))),(26,.bool (goB (gtY l (i64.wrap ((i:Int)-1)).toNat) (gtY l (i:Int).toNat))),(27,.bool !goB (gtY l (i64.wrap ((i:Int)-1)).toNat) (gtY l (i:Int).toNat)),(28,.bool (bif false then true else !goB (gtY l (i64.wrap ((i:Int)-1)).toNat) (gtY l (i:Int).toNat))),(29,.dead),(30,.sl syS l),(31,.i a),(32,.i i),(33,.sl syS (Px.part l (some (a:Int)) (some (i:Int)))),(34,.agg [.i (mdO (Px.part l (some (a:Int)) (some (i:Int)))).1,.i (mdO (Px.part l (some (a:Int)) (some (i:Int)))).2.1,.i (mdO (Px.part l (some (a:Int)) (some (i:Int)))).2.2.1,.u (mdO (Px.part l (some (a:Int)) (some (i:Int)))).2.2.2.1,.sl uB (mdO (Px.part l (some (a:Int)) (some (i:Int)))).2.2.2.2]),(35,.win true opS 35 0 (1:Nat)),(36,.win true opS 36 0 (o.length+(([(mdO (Px.part l (some (a:Int)) (some (i:Int))))]:List opS.D)).length)),(37,.i i)],blk:=[(35,.row 91 opS ([(mdO (Px.part l (some (a:Int)) (some (i:Int))))]:List opS.D)),(36,.row 91 opS (o++([(mdO (Px.part l (some (a:Int)) (some (i:Int))))]:List opS.D)))] }) (R (hd Tryz.f71 0) { env:=[(0,.sl syS l),(3,.win true opS 3 0 o.length),(4,.i a),(5,.i (i64.wrap ((i:Int)+1))),(6,.i i),(7,.sl syS l),(8,.i l.length),(9,.bool (decide ((i:Int)<=l.length))),(10,.i i),(11,.i (i64.wrap ((i:Int)+1))),(12,.i i),(13,.sl syS l),(14,.i l.length),(15,.bool (decide ((i:Int)=(l.length:Int)))),(16,.bool false),(17,.sl syS l),(18,.i i),(19,.i (i64.wrap ((i:Int)-1))),(20,.elv syS (gtY l (i64.wrap ((i:Int)-1)).toNat)),(21,.agg (yI (gtY l (i64.wrap ((i:Int)-1)).toNat))),(22,.sl syS l),(23,.i i),(24,.elv syS (gtY l (i:Int).toNat)),(25,.agg (yI (gtY l (i:Int).toNat))),(26,.bool (goB (gtY l (i64.wrap ((i:Int)-1)).toNat) (gtY l (i:Int).toNat))),(27,.bool !goB (gtY l (i64.wrap ((i:Int)-1)).toNat) (gtY l (i:Int).toNat)),(28,.bool (bif false then true else !goB (gtY l (i64.wrap ((i:Int)-1)).toNat) (gtY l (i:Int).toNat)))],blk:=[(3,.row 91 opS o)] }))) (Q [.win true opS 3 0 o.length] [(3,.row 91 opS o)])):=by kernel_rfl
theorem q4i (l:List SyT) (o:List OpT) (a i:Nat) (Q:QT) (R:RT):sA DO Tryz.f71 Q R (hd Tryz.f71 0) ⟨[(0,.sl syS l),(3,.sl opS o),(4,.i (a:Nat)),(5,.i (i:Nat))],[]⟩ =
  (bc (decide ((i:Int)<=l.length)) (bc (decide ((i:Int)=(l.length:Int))) (true=true/\(0:Int)<=a/\(a:Int)<=i/\(i:Int)<=l.length/\ctMd.pre (Px.part l (some (a:Int)) (some (i:Int)),())/\False) ((0:Int)<=i64.wrap ((i:Int)-1)/\i64.wrap ((i:Int)-1)<(l.length:Int)/\(0:Int)<=i/\(i:Int)<l.length/\ctGo.pre ((gtY l (i64.wrap ((i:Int)-1)).toNat),(gtY l (i:Int).toNat),())/\bc (bif false then true else !goB (gtY l (i64.wrap ((i:Int)-1)).toNat) (gtY l (i:Int).toNat)) ((0:Int)<=a/\(a:Int)<=i/\(i:Int)<=l.length/\ctMd.pre (Px.part l (some (a:Int)) (some (i:Int)),())/\False) (R (hd Tryz.f71 0) { env:=[(0,.sl syS l),(3,.sl opS o),(4,.i a),(5,.i (i64.wrap ((i:Int)+1))),(6,.i i),(7,.sl syS l),(8,.i l.length),(9,.bool (decide ((i:Int)<=l.length))),(10,.i i),(11,.i (i64.wrap ((i:Int)+1))),(12,.i i),(13,.sl syS l),(14,.i l.length),(15,.bool (decide ((i:Int)=(l.length:Int)))),(16,.bool false),(17,.sl syS l),(18,.i i),(19,.i (i64.wrap ((i:Int)-1))),(20,.elv syS (gtY l (i64.wrap ((i:Int)-1)).toNat)),(21,.agg (yI (gtY l (i64.wrap ((i:Int)-1)).toNat))),(22,.sl syS l),(23,.i i),(24,.elv syS (gtY l (i:Int).toNat)),(25,.agg (yI (gtY l (i:Int).toNat))),(26,.bool (goB (gtY l (i64.wrap ((i:Int)-1)).toNat) (gtY l (i:Int).toNat))),(27,.bool !goB (gtY l (i64.wrap ((i:Int)-1)).toNat) (gtY l (i:Int).toNat)),(28,.bool (bif false then true else !goB (gtY l (i64.wrap ((i:Int)-1)).toNat) (gtY l (i:Int).toNat)))],blk:=[] }))) (Q [.sl opS o] [])):=by kernel_rfl
theorem winA {e:Sh} (l:List e.D):winL e 0 l.length l=l:=by
 show (List.drop 0 l).take l.length=l
 rw[List.drop_zero,List.take_of_length_le (Nat.le_refl _)]
theorem QC.mt {ct:Ctr} {x:DL ct.args} {rs:List SV} {blk:List (Nat × LB)} (h:MtL (λ _=>none) (ct.out x) rs) (hr:ct.rows x=[]):QC ct x rs blk:=⟨λ _=>none,h,by rw[hr];trivial,λ _ _ _ e=>by simp at e,by rw[hr];rfl⟩
theorem qw1 (k a:Int) (l:List SyT) (hl:l.length<16777216):∀ (n i:Nat) (b:List Int),l.length-i=n->i<=l.length->b.length=l.length->(∀ j,j<i->b[j]?=(l.map λ s=>s.2.2)[j]?) ->
  GD 128 Tryz.f128 (λ rs _=>rs=[.agg (oJ k a l.length 0 (l.map λ s=>s.2.2))]) (hd Tryz.f128 0) ⟨[(2,.ptr 2 0),(3,.ptr 3 0),(25,.sl syS l),(26,.i l.length),(27,.i (i:Nat))],[(2,.var [.i 0,.i 0,.i 0,.u 0,.nils]),(3,.var [.i k,.i a,.i l.length,.u 0,.win true uB 23 0 b.length]),(23,.row 5 uB b)]⟩:=by
 intro n
 induction n with
 | zero=>
  intro i b hk hi hb hj;have hi:i=l.length:=by omega
  subst hi;have hbl:b=l.map λ s=>s.2.2:=by
   refine List.ext_getElem? λ j=>?_
   by_cases h:j<l.length
   ·exact hj j h
   ·rw[List.getElem?_eq_none (by omega),List.getElem?_eq_none (by rw[List.length_map];omega)]
  refine Good.frz (i:=23) (e:=uB) (et:=5) (xs:=b) rfl (λ c hc=>?_) ?_
  ·have hc:c∈[0+b.length<=b.length]:=hc;rw[List.mem_singleton] at hc;subst hc;omega
  ·have e:GD 128 Tryz.f128 (λ rs _=>rs=[.agg (oJ k a l.length 0 (l.map λ s=>s.2.2))]) (hd Tryz.f128 0) ⟨[(2,.ptr 2 0),(3,.ptr 3 0),(25,.sl syS l),(26,.i l.length),(27,.i (l.length:Nat))],[(2,.var [.i 0,.i 0,.i 0,.u 0,.nils]),(3,.var (oJ k a l.length 0 (winL uB 0 b.length b)))]⟩:=by
    refine qaj cx1 _ _ _ ((qys k a (winL uB 0 b.length b) l l.length _ _).mpr ?_);rw[decide_eq_false (by omega),bc_f,winA,hbl]
   exact e.only ⟨rfl,rfl,rfl,rfl,rfl,trivial⟩ ⟨rfl,rfl,trivial⟩
 | succ n ih=>
  intro i b hk hi hb hj;have hil:i<l.length:=by omega
  refine qaj cx1 _ _ _ ((qyr k a b l i _ _).mpr ?_);rw[decide_eq_true (show (i:Int)<(l.length:Int) by omega),bc_t,Int.toNat_natCast,qay hil,IntWalk.i64_in ((i:Int)+1) (by omega),Nat.zero_add];refine ⟨by omega,by omega,by omega,by omega,by omega,?_⟩;refine (ih (i+1) (b.set i l[i].2.2) (by omega) (by omega) (by rw[List.length_set];exact hb) (λ j h=>?_)).only ⟨rfl,rfl,rfl,rfl,rfl,trivial⟩ ⟨rfl,?_,rfl,trivial⟩
  ·rw[List.getElem?_set];by_cases hji:i=j
   ·subst hji;rw[if_pos rfl,if_pos (by omega),List.getElem?_map,List.getElem?_eq_getElem hil];rfl
   ·rw[if_neg hji];exact hj j (by omega)
  ·rw[List.length_set];rfl
theorem qw2:Held Tryz.prog G0 128 ctMd:=by
 refine Held.run cx1 (fn:=Tryz.f128) rfl rfl ⟨by decide,by decide⟩ ?_;rintro ⟨l,⟨⟩⟩ hp;obtain ⟨h0,h1⟩:qte l:=hp;refine (q4r l _ _).mpr ⟨Int.le_refl 0,by omega,trivial,Int.le_refl 0,by omega,qaf (λ h=>?_) (λ h=>?_)⟩
 ·have h:=of_decide_eq_true h;refine QC.mt ?_ rfl
  show MtL _ (mdV (mdO l)) _
  unfold mdO;rw[if_pos h];exact ⟨_,_,rfl,⟨_,rfl,_,_,rfl,rfl,_,_,rfl,rfl,_,_,rfl,rfl,_,_,rfl,rfl,_,_,rfl,.inr ⟨rfl,rfl⟩,rfl⟩,rfl⟩
 ·have h:=of_decide_eq_false h;refine ⟨by omega,by omega,?_,?_,?_⟩
  ·show (l.length:Int)<16777216
   omega
  ·show (1:Int)*(l.length:Int)<=281474976710656
   omega
  ·refine ((qw1 (kndB (gtY l 0)) (gtY l 0).2.1 l h1 _ 0 (List.replicate (l.length:Int).toNat 0) rfl (by omega) (by rw[List.length_replicate,Int.toNat_natCast]) (λ j h=>by omega)).post λ rs blk hq=>QC.flat ?_ rfl (by rw[hq];rfl)).only ⟨rfl,rfl,rfl,rfl,rfl,trivial⟩ ⟨rfl,?_,rfl,trivial⟩
   ·rw[hq]
    show mdV (mdO l)=_
    unfold mdO;rw[if_neg h];rfl
   ·rw[List.length_replicate];rfl
theorem dxO:CxOK Tryz.prog tt G0 DO:=(cx1.k q7e (fn:=Tryz.f127)).k qw2 (fn:=Tryz.f128)
abbrev ptL (l:List SyT) (a i:Nat):List SyT:=Px.part l (some (a:Int)) (some (i:Int))
theorem qv7 {l:List SyT} {a i:Nat} (h:a<=i) (hi:i<=l.length):(ptL l a i).length=i-a:=by
 simp[ptL,Px.part];omega
def opsF (l:List SyT):Nat->Nat->Nat->List OpT
 | 0,_,_=>[]
 | k+1,a,i=>if i=l.length\/goB (gtY l (i-1)) (gtY l i)=false then mdO (ptL l a i)::opsF l k i (i+1) else opsF l k a (i+1)
def opsL (l:List SyT):List OpT:=opsF l l.length 0 1
def ctOps:Ctr:=⟨[.sl syS],λ x=>qte x.1,λ x=>[.sl opS (opsL x.1)],λ _=>[]⟩
theorem cut1 {l:List SyT} {k a i:Nat} (h:i=l.length\/goB (gtY l (i-1)) (gtY l i)=false):opsF l (k+1) a i=mdO (ptL l a i)::opsF l k i (i+1):=by rw[opsF,if_pos h]
theorem cut0 {l:List SyT} {k a i:Nat} (h:¬ (i=l.length\/goB (gtY l (i-1)) (gtY l i)=false)):opsF l (k+1) a i=opsF l k a (i+1):=by rw[opsF,if_neg h]
abbrev OQ (x:List OpT):List SV->List (Nat × LB)->Prop:=λ rs _=>rs=[.sl opS x]
theorem qwe (l:List SyT) (hl:l.length<16777216):∀ (k a i:Nat) (o:List OpT),l.length+1-i=k->1<=i->i<=l.length+1->a<i->o.length<=i ->
  GD 71 Tryz.f71 (OQ (o++opsF l k a i)) (hd Tryz.f71 0) ⟨[(0,.sl syS l),(3,.win true opS 3 0 o.length),(4,.i (a:Nat)),(5,.i (i:Nat))],[(3,.row 91 opS o)]⟩:=by
 intro k
 induction k with
 | zero=>
  intro a i o hk h1 hi ha ho;have hi:i=l.length+1:=by omega
  subst hi;refine Good.frz (i:=3) (e:=opS) (et:=91) (xs:=o) rfl (λ c hc=>?_) ?_
  ·have hc:c∈[0+o.length<=o.length]:=hc;rw[List.mem_singleton] at hc;subst hc;omega
  ·have e:GD 71 Tryz.f71 (OQ (o++opsF l 0 a (l.length+1))) (hd Tryz.f71 0) ⟨[(0,.sl syS l),(3,.sl opS (winL opS 0 o.length o)),(4,.i (a:Nat)),(5,.i ((l.length+1:Nat):Int))],[]⟩:=by
    refine qaj dxO _ _ _ ((q4i l (winL opS 0 o.length o) a (l.length+1) _ _).mpr ?_);rw[decide_eq_false (by omega),bc_f,winA,opsF,List.append_nil]
   exact e.only ⟨rfl,rfl,rfl,rfl,trivial⟩ trivial
 | succ k ih=>
  intro a i o hk h1 hi ha ho;have hil:i<=l.length:=by omega
  have hpt:qte (ptL l a i):=by
   have:=qv7 (l:=l) (a:=a) (i:=i) (by omega) hil;exact ⟨by omega,by omega⟩
  have wi:IntKind.i64.wrap ((i:Int)+1)=((i+1:Nat):Int):=by rw[IntWalk.i64_in _ (by omega)];omega
  have wj:IntKind.i64.wrap ((i:Int)-1)=((i-1:Nat):Int):=by rw[IntWalk.i64_in _ (by omega)];omega
  have step:(i=l.length\/goB (gtY l (i-1)) (gtY l i)=false)->GD 71 Tryz.f71 (OQ (o++opsF l (k+1) a i)) (hd Tryz.f71 0) ⟨[(0,.sl syS l),(3,.win true opS 3 0 (o++[mdO (ptL l a i)]).length),(4,.i (i:Nat)),(5,.i ((i+1:Nat):Int))],[(3,.row 91 opS (o++[mdO (ptL l a i)]))]⟩:=λ h=>by
   rw[cut1 h];have:=ih i (i+1) (o++[mdO (ptL l a i)]) (by omega) (by omega) (by omega) (by omega) (by rw[List.length_append,List.length_singleton];omega);rw[List.append_assoc] at this;exact this
  refine qaj dxO _ _ _ ((q4j l o a i _ _).mpr ?_);rw[decide_eq_true (show (i:Int)<=(l.length:Int) by omega),bc_t,wi,wj,Int.toNat_natCast,Int.toNat_natCast];refine qaf (λ h=>?_) (λ h=>?_)
  ·have h:=of_decide_eq_true h;refine ⟨rfl,by omega,by omega,by omega,hpt,Nat.le_refl 1,rfl,rfl,?_,by decide,?_⟩
   ·show o.length+1<2 ^ 30
    omega
   ·exact (step (.inl (by omega))).onlyR [(3,36)] rfl ⟨rfl,by rw[List.length_append];rfl,rfl,rfl,trivial⟩ ⟨rfl,trivial⟩
  ·have h:=of_decide_eq_false h;refine ⟨by omega,by omega,by omega,by omega,trivial,qaf (λ h2=>?_) (λ h2=>?_)⟩
   ·have h2:goB (gtY l (i-1)) (gtY l i)=false:=by
     have h2:(!goB (gtY l (i-1)) (gtY l i))=true:=h2;simpa using h2
    refine ⟨by omega,by omega,by omega,hpt,Nat.le_refl 1,rfl,rfl,?_,by decide,?_⟩
    ·show o.length+1<2 ^ 30
     omega
    ·exact (step (.inr h2)).onlyR [(3,36)] rfl ⟨rfl,by rw[List.length_append];rfl,rfl,rfl,trivial⟩ ⟨rfl,trivial⟩
   ·have h2:goB (gtY l (i-1)) (gtY l i)=true:=by
     have h2:(!goB (gtY l (i-1)) (gtY l i))=false:=h2;simpa using h2
    rw[cut0 (λ q=>by rcases q with q | q;exact h (by omega);rw[h2] at q;cases q)];exact (ih a (i+1) o (by omega) (by omega) (by omega) (by omega) (by omega)).only ⟨rfl,rfl,rfl,rfl,trivial⟩ ⟨rfl,trivial⟩
theorem qwf (l:List SyT) (hl:l.length<16777216):∀ (k a i:Nat),l.length+1-i=k->1<=i->i<=l.length->a<i ->
  GD 71 Tryz.f71 (OQ (opsF l k a i)) (hd Tryz.f71 0) ⟨[(0,.sl syS l),(3,.nils),(4,.i (a:Nat)),(5,.i (i:Nat))],[]⟩:=by
 intro k
 induction k with
 | zero=>intro a i hk h1 hi ha;omega
 | succ k ih=>
  intro a i hk h1 hil ha;have hpt:qte (ptL l a i):=by
   have:=qv7 (l:=l) (a:=a) (i:=i) (by omega) hil;exact ⟨by omega,by omega⟩
  have wi:IntKind.i64.wrap ((i:Int)+1)=((i+1:Nat):Int):=by rw[IntWalk.i64_in _ (by omega)];omega
  have wj:IntKind.i64.wrap ((i:Int)-1)=((i-1:Nat):Int):=by rw[IntWalk.i64_in _ (by omega)];omega
  have step:(i=l.length\/goB (gtY l (i-1)) (gtY l i)=false)->GD 71 Tryz.f71 (OQ (opsF l (k+1) a i)) (hd Tryz.f71 0) ⟨[(0,.sl syS l),(3,.win true opS 3 0 1),(4,.i (i:Nat)),(5,.i ((i+1:Nat):Int))],[(3,.row 91 opS [mdO (ptL l a i)])]⟩:=λ h=>by
   rw[cut1 h];exact qwe l hl k i (i+1) [mdO (ptL l a i)] (by omega) (by omega) (by omega) (by omega) (by simp)
  refine qaj dxO _ _ _ ((qus l a i _ _).mpr ?_);rw[decide_eq_true (show (i:Int)<=(l.length:Int) by omega),bc_t,wi,wj,Int.toNat_natCast,Int.toNat_natCast];refine qaf (λ h=>?_) (λ h=>?_)
  ·have h:=of_decide_eq_true h;refine ⟨rfl,by omega,by omega,by omega,hpt,Nat.le_refl 1,(show 1<2 ^ 30 by decide),by decide,?_⟩;exact (step (.inl (by omega))).onlyR [(3,36)] rfl ⟨rfl,rfl,rfl,rfl,trivial⟩ ⟨rfl,trivial⟩
  ·have h:=of_decide_eq_false h;refine ⟨by omega,by omega,by omega,by omega,trivial,qaf (λ h2=>?_) (λ h2=>?_)⟩
   ·have h2:goB (gtY l (i-1)) (gtY l i)=false:=by
     have h2:(!goB (gtY l (i-1)) (gtY l i))=true:=h2;simpa using h2
    refine ⟨by omega,by omega,by omega,hpt,Nat.le_refl 1,(show 1<2 ^ 30 by decide),by decide,?_⟩;exact (step (.inr h2)).onlyR [(3,36)] rfl ⟨rfl,rfl,rfl,rfl,trivial⟩ ⟨rfl,trivial⟩
   ·have h2:goB (gtY l (i-1)) (gtY l i)=true:=by
     have h2:(!goB (gtY l (i-1)) (gtY l i))=false:=h2;simpa using h2
    rw[cut0 (λ q=>by rcases q with q | q;exact h (by omega);rw[h2] at q;cases q)];exact (ih a (i+1) (by omega) (by omega) (by omega) (by omega)).only ⟨rfl,rfl,rfl,rfl,trivial⟩ trivial
theorem qz6:Held Tryz.prog G0 71 ctOps:=by
 refine Held.run dxO (fn:=Tryz.f71) rfl rfl ⟨by decide,by decide⟩ ?_;rintro ⟨l,⟨⟩⟩ hp;obtain ⟨h0,h1⟩:qte l:=hp;refine (q2s l _ _).mpr ?_;exact ((qwf l h1 l.length 0 1 (by omega) (by omega) (by omega) (by omega)).post λ rs blk hq=>QC.flat (by rw[hq];rfl) rfl (by rw[hq];rfl)).only ⟨rfl,rfl,rfl,rfl,trivial⟩ trivial
end Go.Proofs.YtgopblmdkjkbbaaGreatDoor
