/-
  A part of the proof: what pieces of the program give; conditions: those of each theorem.
-/
import Derived.Test.YtdlnmlepljepjaaHD
import Derived.Test.YtdlnmlepljepjaaProg
set_option linter.unusedVariables false
set_option linter.unusedSimpArgs false
namespace Go.Proofs.Ytdlnmlepljepjaa
open Go.Px Go.Ax
abbrev _root_.Go.Px.SV.i (n:Int):SV:=.int .i64 n
abbrev _root_.Go.Px.SV.u (n:Int):SV:=.int .u8 n
theorem _root_.Go.Px.CxOK.k {P : Program} {tt : TT} {G : GV} {C : CV} (hx : CxOK P tt G C) {f : FuncId} {fn : Func} {ct : Ctr} (hh : Held P G f ct) (hf : P.funcs[f]? = some fn := by rfl) (hn : (fn.name == "runtime.NumGoroutine") = false := by rfl) (hb : fn.body.isSome = true := by rfl) : CxOK P tt G ((f, .inl ct) :: C) := hx.cons hh hf hn hb
abbrev QT:Type:=List SV->List (Nat × LB)->Prop
abbrev RT:Type:=List Item->PS->Prop
def tyL:List (Nat × (Nat × Nat × Bool × TK × Sh × Option IntKind)):=[
 (1,(1,8,false,.other,.unit,none)),
 (2,(1,8,false,(.int .i64),(.int .i64),none)),
 (3,(1,8,false,(.int .i64),(.int .i64),none)),
 (4,(1,1,false,.bool,.bool,none)),
 (5,(1,1,false,(.int .u8),(.int .u8),none)),
 (6,(1,1,false,(.int .u8),(.int .u8),none)),
 (7,(4,24,true,(.struct [(0,2),(1,3),(2,4),(3,6)]),(.pair (.int .i64) (.pair (.int .i64) (.pair .bool (.int .u8)))),(some .i8))),
 (8,(4,24,true,(.struct [(0,2),(1,3),(2,4),(3,6)]),(.pair (.int .i64) (.pair (.int .i64) (.pair .bool (.int .u8)))),(some .i8))),
 (9,(1,16,false,.str,.str,none)),
 (10,(1,16,false,.str,.str,none)),
 (11,(1,16,false,.str,.str,none)),
 (12,(1,8,false,(.int .u64),(.int .u64),none)),
 (13,(2,24,true,(.struct [(0,9),(1,12)]),(.pair .str (.int .u64)),none)),
 (14,(2,24,true,(.struct [(0,9),(1,12)]),(.pair .str (.int .u64)),none)),
 (21,(1,4,false,(.int .i32),(.int .i32),none)),
 (22,(1,24,false,(.slice 5),(.sl (.int .u8)),none)),
 (23,(3,3,true,(.array 3 5),(.arr 3 (.int .u8)),(some .u8))),
 (24,(1,8,false,.other,.unit,none)),
 (25,(1,8,false,.other,.unit,none)),
 (26,(1,8,false,(.int .i64),(.int .i64),none)),
 (28,(1,8,false,.other,.unit,none)),
 (30,(1,8,false,.other,.unit,none)),
 (31,(1,24,false,(.slice 22),(.sl (.sl (.int .u8))),none)),
 (32,(1,8,false,.other,.unit,none)),
 (33,(1,8,false,.other,.unit,none)),
 (34,(1,8,false,.other,.unit,none)),
 (35,(1,8,false,.other,.unit,none)),
 (36,(1,24,false,(.slice 37),(.sl (.arr 2 (.int .u8))),none)),
 (37,(2,2,true,(.array 2 5),(.arr 2 (.int .u8)),(some .u8))),
 (38,(1,8,false,.other,.unit,none)),
 (39,(1,8,false,.other,.unit,none)),
 (40,(1,8,false,.other,.unit,none)),
 (41,(1,2,false,(.int .u16),(.int .u16),none)),
 (42,(1,8,false,.other,.unit,none)),
 (43,(1,8,false,.other,.unit,none)),
 (44,(1,24,false,(.slice 149),(.sl (.arr 4 (.int .u8))),none)),
 (45,(2,32,true,(.struct [(0,5),(1,44)]),(.pair (.int .u8) (.sl (.arr 4 (.int .u8)))),none)),
 (46,(2,32,true,(.struct [(0,5),(1,44)]),(.pair (.int .u8) (.sl (.arr 4 (.int .u8)))),none)),
 (47,(3,6,true,(.array 3 41),(.arr 3 (.int .u16)),(some .u16))),
 (48,(1,24,false,(.slice 113),(.sl (.pair (.int .i64) (.pair (.int .i64) (.pair (.int .i64) (.pair (.int .u8) (.sl (.int .u8))))))),none)),
 (49,(4,48,true,(.struct [(0,4),(1,3),(2,3),(3,48)]),(.pair .bool (.pair (.int .i64) (.pair (.int .i64) (.sl (.pair (.int .i64) (.pair (.int .i64) (.pair (.int .i64) (.pair (.int .u8) (.sl (.int .u8)))))))))),none)),
 (50,(4,48,true,(.struct [(0,4),(1,3),(2,3),(3,48)]),(.pair .bool (.pair (.int .i64) (.pair (.int .i64) (.sl (.pair (.int .i64) (.pair (.int .i64) (.pair (.int .i64) (.pair (.int .u8) (.sl (.int .u8)))))))))),none)),
 (51,(1,8,false,.other,.unit,none)),
 (52,(1,8,false,.other,.unit,none)),
 (53,(1,8,false,.other,.unit,none)),
 (54,(1,8,false,.other,.unit,none)),
 (56,(1,8,false,.other,.unit,none)),
 (57,(1,8,false,.other,.unit,none)),
 (58,(1,8,false,.other,.unit,none)),
 (59,(4,64,true,(.array 2 46),(.arr 2 (.pair (.int .u8) (.sl (.arr 4 (.int .u8))))),none)),
 (60,(2,2,true,(.array 2 4),(.arr 2 .bool),none)),
 (61,(1,8,false,.other,.unit,none)),
 (62,(1,8,false,.other,.unit,none)),
 (63,(1,8,false,.other,.unit,none)),
 (65,(1,8,false,.other,.unit,none)),
 (67,(3,40,true,(.struct [(0,3),(1,3),(2,22)]),(.pair (.int .i64) (.pair (.int .i64) (.sl (.int .u8)))),none)),
 (68,(3,40,true,(.struct [(0,3),(1,3),(2,22)]),(.pair (.int .i64) (.pair (.int .i64) (.sl (.int .u8)))),none)),
 (69,(1,8,false,.other,.unit,none)),
 (71,(1,8,false,.other,.unit,none)),
 (72,(1,8,false,.other,.unit,none)),
 (76,(1,8,false,.other,.unit,none)),
 (78,(1,8,false,.other,.unit,none)),
 (79,(1,8,false,.other,.unit,none)),
 (81,(1,8,false,.other,.unit,none)),
 (82,(1,8,false,.other,.unit,none)),
 (84,(1,8,false,.other,.unit,none)),
 (86,(1,8,false,.other,.unit,none)),
 (87,(1,8,false,(.int .u64),(.int .u64),none)),
 (88,(256,2048,true,(.array 256 3),(.arr 256 (.int .i64)),(some .i64))),
 (89,(257,2056,true,(.struct [(0,88),(256,3)]),(.pair (.arr 256 (.int .i64)) (.int .i64)),none)),
 (90,(257,2056,true,(.struct [(0,88),(256,3)]),(.pair (.arr 256 (.int .i64)) (.int .i64)),none)),
 (91,(1,8,false,.other,.unit,none)),
 (92,(1,8,false,.other,.unit,none)),
 (93,(1,8,false,.other,.unit,none)),
 (94,(1,8,false,.other,.unit,none)),
 (95,(1,8,false,.other,.unit,none)),
 (97,(1,24,true,(.struct [(0,22)]),(.sl (.int .u8)),none)),
 (98,(1,24,true,(.struct [(0,22)]),(.sl (.int .u8)),none)),
 (99,(1,8,false,.other,.unit,none)),
 (100,(1,8,false,.other,.unit,none)),
 (101,(1,8,false,.other,.unit,none)),
 (102,(1,8,false,.other,.unit,none)),
 (104,(1,8,false,.other,.unit,none)),
 (105,(1,8,false,.other,.unit,none)),
 (106,(4,32,true,(.array 4 3),(.arr 4 (.int .i64)),(some .i64))),
 (107,(1,8,false,.other,.unit,none)),
 (108,(1,8,false,.other,.unit,none)),
 (110,(1,8,false,.other,.unit,none)),
 (111,(1,8,false,.other,.unit,none)),
 (112,(5,56,true,(.struct [(0,3),(1,3),(2,3),(3,5),(4,22)]),(.pair (.int .i64) (.pair (.int .i64) (.pair (.int .i64) (.pair (.int .u8) (.sl (.int .u8)))))),none)),
 (113,(5,56,true,(.struct [(0,3),(1,3),(2,3),(3,5),(4,22)]),(.pair (.int .i64) (.pair (.int .i64) (.pair (.int .i64) (.pair (.int .u8) (.sl (.int .u8)))))),none)),
 (124,(1,4,false,(.int .u32),(.int .u32),none)),
 (125,(3,32,true,(.struct [(0,22),(1,124),(2,124)]),(.pair (.sl (.int .u8)) (.pair (.int .u32) (.int .u32))),none)),
 (126,(3,32,true,(.struct [(0,22),(1,124),(2,124)]),(.pair (.sl (.int .u8)) (.pair (.int .u32) (.int .u32))),none)),
 (127,(256,1024,true,(.array 256 124),(.arr 256 (.int .u32)),(some .u32))),
 (128,(257,1028,true,(.struct [(0,127),(256,124)]),(.pair (.arr 256 (.int .u32)) (.int .u32)),none)),
 (129,(257,1028,true,(.struct [(0,127),(256,124)]),(.pair (.arr 256 (.int .u32)) (.int .u32)),none)),
 (130,(1,8,false,.other,.unit,none)),
 (131,(3,32,true,(.struct [(0,22),(1,124),(2,124)]),(.pair (.sl (.int .u8)) (.pair (.int .u32) (.int .u32))),none)),
 (132,(3,32,true,(.struct [(0,22),(1,124),(2,124)]),(.pair (.sl (.int .u8)) (.pair (.int .u32) (.int .u32))),none)),
 (134,(1,8,false,.other,.unit,none)),
 (135,(1,8,false,.other,.unit,none)),
 (136,(1,8,false,.other,.unit,none)),
 (137,(1,8,false,.other,.unit,none)),
 (138,(1,24,false,(.slice 3),(.sl (.int .i64)),none)),
 (140,(1,24,true,(.struct [(0,22)]),(.sl (.int .u8)),none)),
 (141,(1,24,true,(.struct [(0,22)]),(.sl (.int .u8)),none)),
 (142,(1,8,false,.other,.unit,none)),
 (143,(1,8,false,.other,.unit,none)),
 (144,(1,8,false,.other,.unit,none)),
 (145,(1,8,false,.other,.unit,none)),
 (146,(1,8,false,.other,.unit,none)),
 (147,(1,24,false,(.slice 124),(.sl (.int .u32)),none)),
 (148,(1,8,false,.other,.unit,none)),
 (149,(4,4,true,(.array 4 5),(.arr 4 (.int .u8)),(some .u8))),
 (152,(1,8,false,.other,.unit,none)),
 (153,(1,8,false,.other,.unit,none)),
 (154,(5,56,true,(.struct [(0,3),(1,3),(2,3),(3,5),(4,22)]),(.pair (.int .i64) (.pair (.int .i64) (.pair (.int .i64) (.pair (.int .u8) (.sl (.int .u8)))))),none)),
 (155,(5,56,true,(.struct [(0,3),(1,3),(2,3),(3,5),(4,22)]),(.pair (.int .i64) (.pair (.int .i64) (.pair (.int .i64) (.pair (.int .u8) (.sl (.int .u8)))))),none)),
 (156,(5,56,true,(.struct [(0,3),(1,3),(2,3),(3,5),(4,22)]),(.pair (.int .i64) (.pair (.int .i64) (.pair (.int .i64) (.pair (.int .u8) (.sl (.int .u8)))))),none)),
 (157,(5,56,true,(.struct [(0,3),(1,3),(2,3),(3,5),(4,22)]),(.pair (.int .i64) (.pair (.int .i64) (.pair (.int .i64) (.pair (.int .u8) (.sl (.int .u8)))))),none)),
 (158,(0,0,true,(.struct []),.unit,none)),
 (159,(0,0,true,(.struct []),.unit,none)),
 (160,(1,8,false,.other,.unit,none)),
 (166,(1,8,false,.other,.unit,none)),
 (167,(1,1,false,(.int .u8),(.int .u8),none)),
 (168,(1,1,false,(.int .u8),(.int .u8),none)),
 (169,(1,8,false,.other,.unit,none)),
 (171,(1,4,false,(.int .i32),(.int .i32),none)),
 (172,(1,4,false,(.int .i32),(.int .i32),none)),
 (175,(1,8,false,.other,.unit,none)),
 (177,(1,24,false,(.slice 179),(.sl (.pair .bool (.pair (.int .i64) (.int .u8)))),none)),
 (178,(3,24,true,(.struct [(0,4),(1,3),(2,5)]),(.pair .bool (.pair (.int .i64) (.int .u8))),(some .i8))),
 (179,(3,24,true,(.struct [(0,4),(1,3),(2,5)]),(.pair .bool (.pair (.int .i64) (.int .u8))),(some .i8)))]
def tyP:TT:=[
 (77,mkP 1 8 false (.ptr 126) [.nilp]),
 (80,mkP 1 8 false (.ptr 129) [.nilp]),
 (83,mkP 1 8 false (.ptr 132) [.nilp]),
 (120,mkP 1 8 false (.ptr 123) [.nilp]),
 (117,mkP 1 8 true (.struct [(0,80)]) [.nilp]),
 (118,mkP 1 8 true (.struct [(0,80)]) [.nilp]),
 (119,mkP 1 8 true (.struct [(0,80)]) [.nilp]),
 (121,mkP 256 2048 true (.array 256 80) [.pta 256 (List.replicate 256 (.pointer none)) 256 [.nilp]]),
 (122,mkP 257 2056 true (.struct [(0,121),(256,5)]) [.pta 256 (List.replicate 256 (.pointer none)) 256 [.nilp],.u 0]),
 (123,mkP 257 2056 true (.struct [(0,121),(256,5)]) [.pta 256 (List.replicate 256 (.pointer none)) 256 [.nilp],.u 0]),
 (66,mkP 1 8 false (.ptr 68) [.nilp]),
 (70,mkP 1 8 false (.ptr 90) [.nilp]),
 (64,mkP 1 8 false (.ptr 116) [.nilp]),
 (114,mkP 256 2048 true (.array 256 70) [.pta 256 (List.replicate 256 (.pointer none)) 256 [.nilp]]),
 (115,mkP 258 2064 true (.struct [(0,3),(1,114),(257,5)]) [.i 0,.pta 256 (List.replicate 256 (.pointer none)) 256 [.nilp],.u 0]),
 (116,mkP 258 2064 true (.struct [(0,3),(1,114),(257,5)]) [.i 0,.pta 256 (List.replicate 256 (.pointer none)) 256 [.nilp],.u 0])]
abbrev tt:TT:=ttOf tyL++tyP
set_option maxRecDepth 100000 in
theorem tyOK:ttB Try.prog tyL=true:=by decide +kernel
set_option maxRecDepth 100000 in
theorem tpOK:tpsB Try.prog tyP=true:=by decide +kernel
theorem ty:TTOK Try.prog tt:=TTOK.app (qzo tyOK) (qty tpOK)
theorem mixed:Try.prog.follows .mixedOrders=true:=by decide +kernel
def mtb:List (Nat × (String × Nat)):=[
 (118, ("inlay/coder.table", 107)),
 (118, ("inlay/coder.pass", 106)),
 (119, ("inlay/coder.table", 109)),
 (119, ("inlay/coder.pass", 108)),
 (120, ("inlay/coder.table", 112)),
 (120, ("inlay/coder.pass", 111))]
set_option maxRecDepth 100000 in
theorem q47:(mtb.all λ p=>decide (qsq Try.prog p.1 p.2.1=some p.2.2))=true:=by decide +kernel
def G0:GV:=⟨[],.nil,mtb⟩
theorem cx0:CxOK Try.prog tt G0 []:=CxOK.nil ty mixed λ t nm f h=>by
 have:=List.all_eq_true.1 q47 _ h;simpa using this
open Go.IntKind(i64 u32 u8)
set_option maxRecDepth 100000
abbrev u4:Sh:=.int .u32
abbrev uB:Sh:=.int .u8
abbrev iI:Sh:=.int .i64
abbrev KT:List AK:=[.dat (.arr 256 u4),.dat u4]
abbrev KW:List AK:=[.row 5 uB,.dat u4,.dat u4]
abbrev KR:List AK:=[.dat (.sl uB),.dat u4,.dat u4]
set_option maxRecDepth 100000
abbrev sA (C:CV) (f:Func) (Q:QT) (R:RT) (l:List Item) (S:PS):Prop:=sy tt G0 C f.ntmps f.results.toList Q R 1000 l S
theorem vc_nT  (Q:QT) (R:RT):sA [] Try.f65 Q (λ it S=>R it (qar [1,5] [4] S)) [.code (qah Try.f65)] (qav [] ()) =
  (R (hd Try.f65 0) { env:=[(1,.ptr 4 0),(5,.i 0)],blk:=[(4,.var [.arr (256:Nat) u4 (Sh.arr (256:Nat) u4).dflt,.int .u32 256])] }):=by kernel_rfl
theorem qzl (c:List Int) (i:Nat) (Q:QT) (R:RT):sA [] Try.f65 Q (λ it S=>R it (qar [1,5] [4] S)) (hd Try.f65 0) ⟨[(1,.ptr 4 0),(5,.i (i:Nat))],[(4,.var [.arr 256 u4 c,.int .u32 256])]⟩ =
  (bc (decide ((i:Int)<256)) ((0:Int)<=(i:Int)/\(i:Int)<(↑(256:Nat):Int)/\(i:Int).toNat<256/\R (hd Try.f65 0) { env:=[(1,.ptr 4 0),(5,.i (i64.wrap ((i:Int)+1)))],blk:=[(4,.var [.arr (256:Nat) u4 (c.set (i:Int).toNat (1:Int)),.int .u32 256])] }) (Q [.ptr 4 0] [(4,.var [.arr (256:Nat) u4 c,.int .u32 256])])):=by kernel_rfl
theorem q39 (c:List Int) (t b:Int) (Q:QT) (R:RT):sA [] Try.f66 Q (λ it S=>R it (qar [5,12,13,14] [BIG] S)) [.code (qah Try.f66)] (qav [.ptr KT,.dat uB] ((c,t,()),b,())) =
  ((0:Int)<=b/\b<=(↑(256:Nat):Int)/\R (hd Try.f66 0) { env:=[(5,.int .u32 0),(12,.win false u4 1099511627776 0 b.toNat),(13,.i (b.toNat:Int)),(14,.i 0)],blk:=[(1099511627776,.var [.arr (256:Nat) u4 c,.int .u32 t])] }):=by kernel_rfl
theorem qtw (c:List Int) (t s:Int) (n i:Nat) (Q:QT) (R:RT):sA [] Try.f66 Q (λ it S=>R it (qar [5,12,13,14] [BIG] S)) (hd Try.f66 0) ⟨[(5,.int .u32 s),(12,.win false u4 BIG 0 n),(13,.i (n:Nat)),(14,.i (i:Nat))],[(BIG,.var [.arr 256 u4 c,.int .u32 t])]⟩ =
  (bc (decide ((i:Int)<(n:Int))) ((0:Int)<=(i:Int)/\(i:Int)<(n:Int)/\(0:Nat)+(i:Int).toNat<256/\R (hd Try.f66 0) { env:=[(5,.int .u32 (u32.wrap (s+gt u4 c ((0:Nat)+(i:Int).toNat)))),(12,.win false u4 1099511627776 0 n),(13,.i (n:Int)),(14,.i (i64.wrap ((i:Int)+1)))],blk:=[(1099511627776,.var [.arr (256:Nat) u4 c,.int .u32 t])] }) (Q [.int .u32 s] [(1099511627776,.var [.arr (256:Nat) u4 c,.int .u32 t])])):=by kernel_rfl
theorem vc_at (c:List Int) (t n:Int) (Q:QT) (R:RT):sA [] Try.f70 Q (λ it S=>R it (qar [0,1,4,5] [BIG] S)) [.code (qah Try.f70)] (qav [.ptr KT,.dat u4] ((c,t,()),n,())) =
  (R (hd Try.f70 0) { env:=[(0,.ptr 1099511627776 0),(1,.int .u32 n),(4,.u 0),(5,.int .u32 0)],blk:=[(1099511627776,.var [.arr (256:Nat) u4 c,.int .u32 t])] }):=by kernel_rfl
theorem q4a (c:List Int) (t n b s:Int) (Q:QT) (R:RT):sA [] Try.f70 Q (λ it S=>R it (qar [0,1,4,5] [BIG] S)) (hd Try.f70 0) ⟨[(0,.ptr BIG 0),(1,.int .u32 n),(4,.u b),(5,.int .u32 s)],[(BIG,.var [.arr 256 u4 c,.int .u32 t])]⟩ =
  ((0:Int)<=b/\b<(↑(256:Nat):Int)/\b.toNat<256/\bc (decide (u32.wrap (s+gt u4 c b.toNat)<=n)) ((0:Int)<=b/\b<(↑(256:Nat):Int)/\b.toNat<256/\R (hd Try.f70 0) { env:=[(0,.ptr 1099511627776 0),(1,.int .u32 n),(4,.u (u8.wrap (b+1))),(5,.int .u32 (u32.wrap (s+gt u4 c b.toNat)))],blk:=[(1099511627776,.var [.arr (256:Nat) u4 c,.int .u32 t])] }) (Q [.u b,.int .u32 s] [(1099511627776,.var [.arr (256:Nat) u4 c,.int .u32 t])])):=by kernel_rfl
theorem q32 (c:List Int) (t:Int) (Q:QT) (R:RT):sA [] Try.f105 Q (λ it S=>R it (qar [0,10,11] [BIG] S)) [.code (qah Try.f105)] (qav [.ptr KT] ((c,t,()),())) =
  (R (hd Try.f105 0) { env:=[(0,.ptr 1099511627776 0),(10,.arr (256:Nat) u4 c),(11,.i 0)],blk:=[(1099511627776,.var [.arr (256:Nat) u4 c,.int .u32 0])] }):=by kernel_rfl
theorem qts (c d:List Int) (t:Int) (i:Nat) (Q:QT) (R:RT):sA [] Try.f105 Q (λ it S=>R it (qar [0,10,11] [BIG] S)) (hd Try.f105 0) ⟨[(0,.ptr BIG 0),(10,.arr 256 u4 c),(11,.i (i:Nat))],[(BIG,.var [.arr 256 u4 d,.int .u32 t])]⟩ =
  (bc (decide ((i:Int)<256)) ((0:Int)<=(i:Int)/\(i:Int)<(↑(256:Nat):Int)/\(2:Int)≠0/\(0:Int)<=(i:Int)/\(i:Int)<(↑(256:Nat):Int)/\(i:Int).toNat<256/\(0:Int)<=(i:Int)/\(i:Int)<(↑(256:Nat):Int)/\(i:Int).toNat<256/\R (hd Try.f105 0) { env:=[(0,.ptr 1099511627776 0),(10,.arr (256:Nat) u4 c),(11,.i (i64.wrap ((i:Int)+1)))],blk:=[(1099511627776,.var [.arr (256:Nat) u4 (d.set (i:Int).toNat (u32.wrap ((u32.wrap (gt u4 c (i:Int).toNat+1)).tdiv (2:Int)))),.int .u32 (u32.wrap (t+gt u4 (d.set (i:Int).toNat (u32.wrap ((u32.wrap (gt u4 c (i:Int).toNat+1)).tdiv (2:Int)))) (i:Int).toNat))])] }) (Q [] [(1099511627776,.var [.arr (256:Nat) u4 d,.int .u32 t])])):=by kernel_rfl
theorem q3r (l:List Int) (v w:Int) (Q:QT) (R:RT):sA [] Try.f69 Q R [.code (qah Try.f69)] (qav [.ptr KR] ((l,v,w,()),())) =
  ((0:Int)<=8/\bc (decide ((0:Int)<(l.length:Int))) ((0:Int)<=0/\(0:Int)<(l.length:Int)/\(0:Int)<=1/\(1:Int)<=(l.length:Int)/\Q [] [(1099511627776,.var [.sl uB (List.drop (Int.toNat (1:Int)) l),.int .u32 (bitI BinOp.or u32 (u32.wrap (v*(2:Int) ^ min (Int.toNat (8:Int)) u32.bits)) (u32.wrap (gt uB l (Int.toNat (0:Int))))),.int .u32 w])]) (Q [] [(1099511627776,.var [.sl uB l,.int .u32 (u32.wrap (v*(2:Int) ^ min (Int.toNat (8:Int)) u32.bits)),.int .u32 w])])):=by kernel_rfl
theorem vc_ez (l:List Int) (Q:QT) (R:RT):sA [] Try.f40 Q R [.code (qah Try.f40)] (entry [.sl uB] (l,())) =
  (bc (decide ((0:Int)<(l.length:Int))) ((0:Int)<=i64.wrap ((l.length:Int)-1)/\i64.wrap ((l.length:Int)-1)<(l.length:Int)/\Q [.bool (bif true then decide (gt uB l (i64.wrap ((l.length:Int)-1)).toNat=(0:Int)) else false)] []) (false=false/\Q [.bool false] [])):=by kernel_rfl
attribute [local irreducible] Go.Px.sy Go.Px.syE
abbrev GD (f:Nat) (fn:Func) (Q:List SV->List (Nat × LB)->Prop) (it:List Item) (S:PS):Prop:=Px.Good Try.prog tt G0 f fn.ntmps fn.results.toList Q it S
abbrev gtU (c:List Int) (i:Nat):Int:=gt u4 c i
abbrev gtB (c:List Int) (i:Nat):Int:=gt uB c i
def c1L:List Int:=List.replicate 256 (1:Int)
abbrev tbV (c:List Int) (t:Int):LB:=.var [.arr 256 u4 c,.int .u32 t]
def ctNT:CtrI:=⟨[],λ _=>True,λ _=>[.ptr 0 0],λ _=>[(0,tbV c1L 256)]⟩
def befF (c:List Int):Nat->Int
 | 0=>0
 | n+1=>u32.wrap (befF c n+gtU c n)
abbrev TBk:AK:=.ptr KT
def ctBef:CtrI:=⟨[TBk,.dat uB],λ x=>0<=x.2.1/\(show Int from x.2.1)<256,λ x=>[.int .u32 (befF x.1.1 x.2.1.toNat)],λ x=>bkKL 0 [TBk,.dat uB] x⟩
def atF (c:List Int) (n:Int):Nat->Int->Int->Int × Int
 | 0,b,s=>(b,s)
 | f+1,b,s=>match decide (u32.wrap (s+gtU c b.toNat)<=n) with
  | true=>atF c n f (b+1) (u32.wrap (s+gtU c b.toNat))
  | false=>(b,s)
def atOK (c:List Int) (n:Int):Nat->Int->Int->Prop
 | 0,_,_=>False
 | f+1,b,s=>match decide (u32.wrap (s+gtU c b.toNat)<=n) with
  | true=>atOK c n f (b+1) (u32.wrap (s+gtU c b.toNat))
  | false=>True
def ctAt:CtrI:=⟨[TBk,.dat u4],λ x=>atOK x.1.1 x.2.1 256 0 0,λ x=>[.u (atF x.1.1 x.2.1 256 0 0).1,.int .u32 (atF x.1.1 x.2.1 256 0 0).2],λ x=>bkKL 0 [TBk,.dat u4] x⟩
def halC (c:List Int):List Int:=c.map λ n=>u32.wrap ((u32.wrap (n+1)).tdiv 2)
def sumF (c:List Int):Nat->Int
 | 0=>0
 | n+1=>u32.wrap (sumF c n+gtU c n)
def ctHal:CtrI:=⟨[TBk],λ x=>x.1.1.length=256,λ _=>[],λ x=>[(BIG,tbV (halC x.1.1) (sumF (halC x.1.1) 256))]⟩
def groV (c:List Int) (t b:Int):List Int × Int:=match decide (65536<u32.wrap (t+32)) with
 | true=>(halC (c.set b.toNat (u32.wrap (gtU c b.toNat+32))),sumF (halC (c.set b.toNat (u32.wrap (gtU c b.toNat+32)))) 256)
 | false=>(c.set b.toNat (u32.wrap (gtU c b.toNat+32)),u32.wrap (t+32))
def qsh (c:List Int) (b:Int):Prop:=c.length=256/\0<=b/\b<256
def ctGro:CtrI:=⟨[TBk,.dat uB],λ x=>qsh x.1.1 x.2.1,λ _=>[],λ x=>[(BIG,tbV (groV x.1.1 x.1.2.1 x.2.1).1 (groV x.1.1 x.1.2.1 x.2.1).2)]⟩
theorem q2b:∀ (k i:Nat),256-i=k->i<=256->GD 65 Try.f65 (QI ctNT ()) (hd Try.f65 0) ⟨[(1,.ptr 4 0),(5,.i (i:Nat))],[(4,.var [.arr 256 u4 (List.replicate i (1:Int)++List.replicate (256-i) (0:Int)),.int .u32 256])]⟩:=by
 intro k
 induction k with
 | zero=>
  intro i hk hi;have hi:i=256:=by omega
  subst hi;refine qag cx0 (qzl _ 256 _ _) ?_;rw[decide_eq_false (by decide),bc_f];refine ⟨[(0,4)],?_,?_,by decide,λ p hp=>?_⟩
  ·refine ⟨_,_,rfl,?_,rfl⟩;exact ⟨4,rfl,by decide⟩
  ·exact ⟨.inl ⟨4,_,by decide,rfl,_,rfl,qbt _ _ rfl⟩,trivial⟩
  ·simp only[List.mem_cons,List.not_mem_nil,or_false] at hp;subst hp;decide
 | succ k ih=>
  intro i hk hi;refine qag cx0 (qzl _ i _ _) ?_;rw[decide_eq_true (show (i:Int)<256 by omega),bc_t,IntWalk.i64_in ((i:Int)+1) (by omega)];refine ⟨by omega,by omega,by omega,?_⟩;have nx:=ih (i+1) (by omega) (by omega);have e:(List.replicate i (1:Int)++List.replicate (256-i) (0:Int)).set (i:Int).toNat 1=List.replicate (i+1) (1:Int)++List.replicate (256-(i+1)) (0:Int):=by
   rw[Int.toNat_natCast,show 256-i=(256-(i+1))+1 by omega,List.replicate_succ];rw[List.set_append_right _ _ (by simp)];simp[List.replicate_succ']
  rw[e];exact nx.only ⟨rfl,rfl,trivial⟩ ⟨rfl,trivial⟩
theorem q2c:HeldI Try.prog G0 65 ctNT:=HeldI.of cx0 (fn:=Try.f65) rfl rfl ⟨by decide,by decide⟩ λ _ _=>by
 refine qag cx0 (vc_nT _ _) ?_;exact (q2b 256 0 rfl (by omega)).only ⟨rfl,rfl,trivial⟩ ⟨rfl,trivial⟩
theorem qy1 {c:List Int} {t b:Int} (hb:0<=b/\b<256):∀ (k i:Nat),b.toNat-i=k->i<=b.toNat->GD 66 Try.f66 (QI ctBef ((c,t,()),b,())) (hd Try.f66 0) ⟨[(5,.int .u32 (befF c i)),(12,.win false u4 BIG 0 b.toNat),(13,.i (b.toNat:Nat)),(14,.i (i:Nat))],[(BIG,.var [.arr 256 u4 c,.int .u32 t])]⟩:=by
 intro k
 induction k with
 | zero=>
  intro i hk hi;have hi:i=b.toNat:=by omega
  subst hi;refine qag cx0 (qtw c t _ b.toNat b.toNat _ _) ?_;rw[decide_eq_false (by omega),bc_f];refine QI.self rfl rfl rfl λ p hp=>?_
  have hp:p∈[(BIG,LB.var [SV.arr 256 u4 c,SV.int .u32 t])]:=hp;rw[List.mem_singleton] at hp;subst hp;rfl
 | succ k ih=>
  intro i hk hi;refine qag cx0 (qtw c t _ b.toNat i _ _) ?_;rw[decide_eq_true (show (i:Int)<(b.toNat:Int) by omega),bc_t,IntWalk.i64_in ((i:Int)+1) (by omega)];refine ⟨by omega,by omega,by omega,?_⟩;rw[Int.toNat_natCast,Nat.zero_add];exact (ih (i+1) (by omega) (by omega)).only ⟨rfl,rfl,rfl,rfl,trivial⟩ ⟨rfl,trivial⟩
theorem qy2:HeldI Try.prog G0 66 ctBef:=HeldI.of cx0 (fn:=Try.f66) rfl rfl ⟨by decide,by decide⟩ λ ⟨⟨c,t,_⟩,b,_⟩ hp=>by
 have hp:(0:Int)<=b/\(show Int from b)<256:=hp;refine qag cx0 (q39 c t b _ _) ⟨hp.1,Int.le_of_lt hp.2,?_⟩;exact (qy1 hp _ 0 rfl (Nat.zero_le _)).only ⟨rfl,rfl,rfl,rfl,trivial⟩ ⟨rfl,trivial⟩
theorem q3d {c:List Int} {t n:Int} {v:Int × Int}:∀ (f:Nat) (b s:Int),0<=b->b+f=256->atOK c n f b s->v=atF c n f b s->GD 70 Try.f70 (λ rs blk=>rs=[.u v.1,.int .u32 v.2]/\blk=[(BIG,.var [.arr 256 u4 c,.int .u32 t])]) (hd Try.f70 0) ⟨[(0,.ptr BIG 0),(1,.int .u32 n),(4,.u b),(5,.int .u32 s)],[(BIG,.var [.arr 256 u4 c,.int .u32 t])]⟩:=by
 intro f
 induction f with
 | zero=>intro b s _ _ h;exact h.elim
 | succ f ih=>
  intro b s h0 h1 ho hv;refine qag cx0 (q4a c t n b s _ _) ⟨by omega,by omega,by omega,qaj (λ h=>?_) (λ h=>?_)⟩
  ·rw[atOK,show decide (u32.wrap (s+gtU c b.toNat)<=n)=true from h] at ho;rw[atF,show decide (u32.wrap (s+gtU c b.toNat)<=n)=true from h] at hv;have hf:f≠0:=λ e=>by subst e;exact ho.elim
   refine ⟨by omega,by omega,by omega,?_⟩;have ew:u8.wrap (b+1)=b+1:=IntWalk.u8_in _ (by omega);rw[ew];exact (ih (b+1) _ (by omega) (by omega) ho hv).only ⟨rfl,rfl,rfl,rfl,trivial⟩ ⟨rfl,trivial⟩
  ·rw[atF,show decide (u32.wrap (s+gtU c b.toNat)<=n)=false from h] at hv;subst hv;exact ⟨rfl,rfl⟩
theorem q3e:HeldI Try.prog G0 70 ctAt:=HeldI.of cx0 (fn:=Try.f70) rfl rfl ⟨by decide,by decide⟩ λ ⟨⟨c,t,_⟩,n,_⟩ hp=>by
 refine qag cx0 (vc_at c t n _ _) ?_;refine ((q3d (c:=c) (t:=t) (n:=n) 256 0 0 (Int.le_refl 0) rfl hp rfl).post λ rs blk hq=>?_).only ⟨rfl,rfl,rfl,rfl,trivial⟩ ⟨rfl,trivial⟩;obtain ⟨rfl,rfl⟩:=hq;refine QI.self rfl rfl rfl λ p hp=>?_
 have hp:p∈[(BIG,LB.var [SV.arr 256 u4 c,SV.int .u32 t])]:=hp;rw[List.mem_singleton] at hp;subst hp;rfl
theorem map_set {f:Int->Int} {c:List Int} {i:Nat} (h:i<c.length):((c.take i).map f++c.drop i).set i (f (gtU c i))=(c.take (i+1)).map f++c.drop (i+1):=by
 have e:gtU c i=c[i]:=by show (c[i]?).getD _=_;rw[List.getElem?_eq_getElem h];rfl
 rw[e,List.set_append_right _ _ (by rw[List.length_map,List.length_take];omega),List.length_map,List.length_take,Nat.min_eq_left (by omega),Nat.sub_self,List.drop_eq_getElem_cons h,List.set_cons_zero,List.take_succ_eq_append_getElem h,List.map_append,List.append_assoc];rfl
theorem qyi {c:List Int} {t0:Int} (hc:c.length=256):∀ (k i:Nat),256-i=k->i<=256->GD 105 Try.f105 (QI ctHal ((c,t0,()),())) (hd Try.f105 0) ⟨[(0,.ptr BIG 0),(10,.arr 256 u4 c),(11,.i (i:Nat))],[(BIG,.var [.arr 256 u4 ((c.take i).map (λ n=>u32.wrap ((u32.wrap (n+1)).tdiv 2))++c.drop i),.int .u32 (sumF (halC c) i)])]⟩:=by
 intro k
 induction k with
 | zero=>
  intro i hk hi;have hi:i=256:=by omega
  subst hi;refine qag cx0 (qts c _ _ 256 _ _) ?_;rw[decide_eq_false (by decide),bc_f,List.take_of_length_le (by omega),List.drop_eq_nil_of_le (by omega),List.append_nil];refine QI.self rfl rfl rfl λ p hp=>?_
  have hp:p∈[(BIG,tbV (halC c) (sumF (halC c) 256))]:=hp;rw[List.mem_singleton] at hp;subst hp;rfl
 | succ k ih=>
  intro i hk hi;have hil:i<c.length:=by omega
  refine qag cx0 (qts c _ _ i _ _) ?_;rw[decide_eq_true (show (i:Int)<256 by omega),bc_t,IntWalk.i64_in ((i:Int)+1) (by omega)];simp only[Int.toNat_natCast];have e1:=map_set (f:=λ n=>u32.wrap ((u32.wrap (n+1)).tdiv 2)) hil;rw[e1];have e2:gt u4 ((c.take (i+1)).map (λ n=>u32.wrap ((u32.wrap (n+1)).tdiv 2))++c.drop (i+1)) i=gtU (halC c) i:=by
   show (((c.take (i+1)).map _++c.drop (i+1))[i]?).getD _=((c.map _)[i]?).getD _
   rw[List.getElem?_append_left (by rw[List.length_map,List.length_take];omega),List.getElem?_map,List.getElem?_map,List.getElem?_take,if_pos (by omega)]
  rw[e2];refine ⟨by omega,by omega,by decide,by omega,by omega,by omega,by omega,by omega,by omega,?_⟩;exact (ih (i+1) (by omega) (by omega)).only ⟨rfl,rfl,rfl,trivial⟩ ⟨rfl,trivial⟩
theorem qyj:HeldI Try.prog G0 105 ctHal:=HeldI.of cx0 (fn:=Try.f105) rfl rfl ⟨by decide,by decide⟩ λ ⟨⟨c,t,_⟩,_⟩ hp=>by
 refine qag cx0 (q32 c t _ _) ?_;exact (qyi hp _ 0 rfl (Nat.zero_le _)).only ⟨rfl,rfl,rfl,trivial⟩ ⟨rfl,trivial⟩
def C2:CV:=[(105,.inr ctHal)]
def rshV (l:List Int) (v:Int):List Int × Int:=match decide ((0:Int)<(l.length:Int)) with
 | true=>(l.drop 1,bitI .or .u32 (u32.wrap (v*2 ^ 8)) (u32.wrap (gtB l 0)))
 | false=>(l,u32.wrap (v*2 ^ 8))
abbrev rdL (l:List Int) (v w:Int):LB:=.var [.sl uB l,.int .u32 v,.int .u32 w]
def ctRsh:CtrI:=⟨[.ptr KR],λ _=>True,λ _=>[],λ x=>[(BIG,rdL (rshV x.1.1 x.1.2.1).1 (rshV x.1.1 x.1.2.1).2 x.1.2.2.1)]⟩
def ezV (l:List Int):Bool:=decide (0<l.length)&&decide (gtB l (l.length-1)=0)
def ctEz:Ctr:=⟨[.sl uB],λ x=>List.length x.1<1099511627776,λ x=>[.bool (ezV x.1)],λ _=>[]⟩
def CR1:CV:=[(69,.inr ctRsh)]
def CR2:CV:=[(69,.inr ctRsh),(70,.inr ctAt)]
set_option maxRecDepth 100000
theorem q33 (c:List Int) (t b:Int) (Q:QT) (R:RT):sA C2 Try.f110 Q R [.code (qah Try.f110)] (qav [TBk,.dat uB] ((c,t,()),b,())) =
  ((0:Int)<=b/\b<(↑(256:Nat):Int)/\b.toNat<256/\(0:Int)<=b/\b<(↑(256:Nat):Int)/\b.toNat<256/\bc (decide ((65536:Int)<u32.wrap (t+32))) (ctHal.pre ((c.set b.toNat (u32.wrap (gt u4 c b.toNat+32)),u32.wrap (t+32),()),())/\Q [] [(1099511627776,.var [.arr (256:Nat) u4 (halC (c.set b.toNat (u32.wrap (gt u4 c b.toNat+32)))),.int .u32 (sumF (halC (c.set b.toNat (u32.wrap (gt u4 c b.toNat+32)))) (256:Nat))])]) (Q [] [(1099511627776,.var [.arr (256:Nat) u4 (c.set b.toNat (u32.wrap (gt u4 c b.toNat+32))),.int .u32 (u32.wrap (t+32))])])):=by kernel_rfl
theorem vc_nR (l:List Int) (Q:QT) (R:RT):sA CR1 Try.f41 Q (λ it S=>R it (qar [3,7] [6] S)) [.code (qah Try.f41)] (qav [.dat (.sl uB)] (l,())) =
  (R (hd Try.f41 0) { env:=[(3,.ptr 6 0),(7,.i 0)],blk:=[(6,.var [.sl uB l,.int .u32 0,.int .u32 4294967295])] }):=by kernel_rfl
theorem qzm (l:List Int) (v w:Int) (i:Nat) (Q:QT) (R:RT):sA CR1 Try.f41 Q (λ it S=>R it (qar [3,7] [6] S)) (hd Try.f41 0) ⟨[(3,.ptr 6 0),(7,.i (i:Nat))],[(6,rdL l v w)]⟩ =
  (bc (decide ((i:Int)<4)) (ctRsh.pre ((l,v,w,()),())/\R (hd Try.f41 0) { env:=[(3,.ptr 6 0),(7,.i (i64.wrap ((i:Int)+1)))],blk:=[(6,.var [.sl uB (rshV l v).1,.int .u32 (rshV l v).2,.int .u32 w])] }) (Q [.ptr 6 0] [(6,.var [.sl uB l,.int .u32 v,.int .u32 w])])):=by kernel_rfl
theorem q3u (l:List Int) (v w:Int) (Q:QT) (R:RT):sA [] Try.f43 Q R [.code (qah Try.f43)] (qav [.ptr KR] ((l,v,w,()),())) =
  (bc (decide (v=(0:Int))) (Q [.bool (bif true then decide ((l.length:Int)=(0:Int)) else false)] [(1099511627776,.var [.sl uB l,.int .u32 v,.int .u32 w])]) (false=false/\Q [.bool false] [(1099511627776,.var [.sl uB l,.int .u32 v,.int .u32 w])])):=by kernel_rfl
theorem q3z (l c:List Int) (v w t:Int) (Q:QT) (R:RT):sA CR2 Try.f42 Q (λ it S=>R it (qar [0,8] [BIG,BIG+1] S)) [.code (qah Try.f42)] (qav [.ptr KR,TBk] ((l,v,w,()),(c,t,()),())) =
  (t≠0/\u32.wrap (w.tdiv t)≠0/\bc (decide (t<=u32.wrap (v.tdiv (u32.wrap (w.tdiv t))))) (Q [.u 0,.bool false] [(1099511627776,.var [.sl uB l,.int .u32 v,.int .u32 w]),(1099511627777,.var [.arr (256:Nat) u4 c,.int .u32 t])]) (ctAt.pre ((c,t,()),u32.wrap (v.tdiv (u32.wrap (w.tdiv t))),())/\(0:Int)<=(atF c (u32.wrap (v.tdiv (u32.wrap (w.tdiv t)))) (256:Nat) (0:Int) (0:Int)).1/\(atF c (u32.wrap (v.tdiv (u32.wrap (w.tdiv t)))) (256:Nat) (0:Int) (0:Int)).1<(↑(256:Nat):Int)/\(atF c (u32.wrap (v.tdiv (u32.wrap (w.tdiv t)))) (256:Nat) (0:Int) (0:Int)).1.toNat<256/\R (hd Try.f42 0) { env:=[(0,.ptr 1099511627776 0),(8,.u (atF c (u32.wrap (v.tdiv (u32.wrap (w.tdiv t)))) (256:Nat) (0:Int) (0:Int)).1)],blk:=[(1099511627776,.var [.sl uB l,.int .u32 (u32.wrap (v-u32.wrap (u32.wrap (w.tdiv t)*(atF c (u32.wrap (v.tdiv (u32.wrap (w.tdiv t)))) (256:Nat) (0:Int) (0:Int)).2))),.int .u32 (u32.wrap (u32.wrap (w.tdiv t)*gt u4 c (atF c (u32.wrap (v.tdiv (u32.wrap (w.tdiv t)))) (256:Nat) (0:Int) (0:Int)).1.toNat))]),(1099511627777,.var [.arr (256:Nat) u4 c,.int .u32 t])] })):=by kernel_rfl
theorem qtq (l c:List Int) (v w t b:Int) (Q:QT) (R:RT):sA CR2 Try.f42 Q (λ it S=>R it (qar [0,8] [BIG,BIG+1] S)) (hd Try.f42 0) ⟨[(0,.ptr BIG 0),(8,.u b)],[(BIG,rdL l v w),(BIG+1,tbV c t)]⟩ =
  (bc (decide (w<16777216)) (ctRsh.pre ((l,v,w,()),())/\(0:Int)<=8/\R (hd Try.f42 0) { env:=[(0,.ptr 1099511627776 0),(8,.u b)],blk:=[(1099511627776,.var [.sl uB (rshV l v).1,.int .u32 (rshV l v).2,.int .u32 (u32.wrap (w*(2:Int) ^ min (Int.toNat (8:Int)) u32.bits))]),(1099511627777,.var [.arr (256:Nat) u4 c,.int .u32 t])] }) (Q [.u b,.bool true] [(1099511627776,.var [.sl uB l,.int .u32 v,.int .u32 w]),(1099511627777,.var [.arr (256:Nat) u4 c,.int .u32 t])])):=by kernel_rfl
theorem vc_nW  (Q:QT) (R:RT):sA [] Try.f37 Q R [.code (qah Try.f37)] (qav [] ()) =
  (Q [.ptr 2 0] [(2,.var [.nils,.int .u32 0,.int .u32 4294967295])]):=by kernel_rfl
theorem q35 (c:List Int) (t:Int) (Q:QT) (R:RT):sA [] Try.f107 Q R [.code (qah Try.f107)] (qav [.agg [TBk]] (((c,t,()),()),())) =
  (Q [.ptr 1099511627776 0] [(1,.var [.ptr 1099511627776 0]),(1099511627776,.var [.arr (256:Nat) u4 c,.int .u32 t])]):=by kernel_rfl
theorem q36 (c:List Int) (t b:Int) (Q:QT) (R:RT):sA [] Try.f106 Q R [.code (qah Try.f106)] (qav [.agg [TBk],.dat uB] (((c,t,()),()),b,())) =
  (Q [] [(2,.var [.ptr 1099511627776 0]),(1099511627776,.var [.arr (256:Nat) u4 c,.int .u32 t])]):=by kernel_rfl
theorem q3m (c:List Int) (t:Int) (Q:QT) (R:RT):sA [] Try.f109 Q R [.code (qah Try.f109)] (qav [.agg [TBk]] (((c,t,()),()),())) =
  (Q [.ptr 1099511627776 0] [(1,.var [.ptr 1099511627776 0]),(1099511627776,.var [.arr (256:Nat) u4 c,.int .u32 t])]):=by kernel_rfl
abbrev KC0:AK:=.ptr [.pta 256 .np,.dat uB]
abbrev KC1:AK:=.ptr [.pta 256 TBk,.dat uB]
def qu3 (j:Nat) (b:Int):Prop:=b=(j:Int)/\j<256
def ctChT0:CtrI:=⟨[KC0],λ x=>qu3 x.1.1.1.2 x.1.2.1,λ _=>[.ptr 0 0],λ x=>[(0,tbV c1L 256),(BIG,.var [.pta 256 x.1.1.1.1 x.1.1.1.2 [.ptr 0 0],.u x.1.2.1])]⟩
def ctChT1:CtrI:=⟨[KC1],λ x=>qu3 x.1.1.1.2 x.1.2.1,λ _=>[.ptr (BIG+1) 0],λ x=>bkKL 0 [KC1] x⟩
def C3T:CV:=[(65,.inr ctNT)]
def C3P:CV:=[(112,.inr ctChT1),(110,.inr ctGro)]
def ctFlT:CtrI:=⟨[.agg [TBk]],λ _=>True,λ _=>[.ptr BIG 0],λ x=>bkKL 0 [.agg [TBk]] x⟩
def ctFlP:CtrI:=⟨[.agg [TBk],.dat uB],λ _=>True,λ _=>[],λ x=>bkKL 0 [.agg [TBk],.dat uB] x⟩
def ctSiP:CtrI:=⟨[.agg [TBk],.dat uB],λ x=>qsh x.1.1.1 x.2.1,λ _=>[],λ x=>[(BIG,tbV (groV x.1.1.1 x.1.1.2.1 x.2.1).1 (groV x.1.1.1 x.1.1.2.1 x.2.1).2)]⟩
def ctChP:CtrI:=⟨[KC1,.dat uB],λ x=>qu3 x.1.1.1.2 x.1.2.1/\qsh x.1.1.2.1 x.2.1,λ _=>[],λ x=>[(BIG,.var [.pta 256 x.1.1.1.1 x.1.1.1.2 [.ptr (BIG+1) 0],.u x.2.1]),(BIG+1,tbV (groV x.1.1.2.1 x.1.1.2.2.1 x.2.1).1 (groV x.1.1.2.1 x.1.1.2.2.1 x.2.1).2)]⟩
set_option maxRecDepth 100000
theorem q3n (c:List Int) (t b:Int) (Q:QT) (R:RT):sA [(110,.inr ctGro)] Try.f108 Q R [.code (qah Try.f108)] (qav [.agg [TBk],.dat uB] (((c,t,()),()),b,())) =
  (ctGro.pre ((c,t,()),b,())/\Q [] [(2,.var [.ptr 1099511627776 0]),(1099511627776,.var [.arr (256:Nat) u4 (groV c t b).1,.int .u32 (groV c t b).2])]):=by kernel_rfl
theorem q06 (l:List Value) (j:Nat) (c:List Int) (t b:Int) (Q:QT) (R:RT):sA C3T Try.f112 Q R [.code (qah Try.f112)] (qav [KC1] ((((l,j),(c,t,())),b,()),())) =
  ((0:Int)<=b/\b<(↑(256:Nat):Int)/\b.toNat<256/\b.toNat=j/\(0:Int)<=b/\b<(↑(256:Nat):Int)/\b.toNat<256/\b.toNat=j/\Q [.ptr 1099511627777 0] [(1099511627776,.var [SV.pta (256:Nat) l j [.ptr 1099511627777 0],.int .u8 b]),(1099511627777,.var [.arr (256:Nat) u4 c,.int .u32 t])]):=by kernel_rfl
theorem q37 (l:List Value) (j:Nat) (c:List Int) (t b x:Int) (Q:QT) (R:RT):sA C3P Try.f111 Q R [.code (qah Try.f111)] (qav [KC1,.dat uB] ((((l,j),(c,t,())),b,()),x,())) =
  ((256:Nat)=(256:Nat)/\(256:Nat)=(256:Nat)/\ctChT1.pre ((((l,j),c,t,()),b,()),())/\ctGro.pre ((c,t,()),x,())/\Q [] [(1099511627776,.var [SV.pta (256:Nat) l j [.ptr 1099511627777 0],.int .u8 x]),(1099511627777,.var [.arr (256:Nat) u4 (groV c t x).1,.int .u32 (groV c t x).2])]):=by kernel_rfl
theorem qqn (m:Int) (Q:QT) (R:RT):sA C3T Try.f36 Q R [.code (qah Try.f36)] (qav [.dat iI] (m,())) =
  (bc (decide (m=(0:Int))) (ctNT.pre ()/\Q [.ifc (118:Nat) true [.ptr 1028672 0],.bool true] [(1028672,.var [.arr (256:Nat) u4 c1L,.int .u32 256])]) (bc (decide (m=(1:Int))) (ctNT.pre ()/\Q [.ifc (119:Nat) true [.ptr 1049152 0],.bool true] [(1049152,.var [.arr (256:Nat) u4 c1L,.int .u32 256])]) (bc (decide (m=(2:Int))) (Q [.ifc (120:Nat) false [.ptr 18 0],.bool true] [(18,.var [SV.pta (256:Nat) (List.replicate (256:Nat) (Value.pointer none)) (256:Nat) [SV.nilp],.u 0])]) (Q [.dead,.bool false] [])))):=by kernel_rfl
theorem lk1 {P:Nat × LB->Prop} {a:Nat} {x:LB} (h:P (a,x)):∀ p∈[(a,x)],P p:=λ p hp=>by
 rw[List.mem_singleton] at hp;rw[hp];exact h
theorem lk2 {P:Nat × LB->Prop} {a b:Nat} {x y:LB} (h:P (a,x)) (h2:P (b,y)):∀ p∈[(a,x),(b,y)],P p:=λ p hp=>by
 simp only[List.mem_cons,List.not_mem_nil,or_false] at hp;rcases hp with hp | hp
 ·rw[hp];exact h
 ·rw[hp];exact h2
theorem qq1:HeldI Try.prog G0 69 ctRsh:=HeldI.of cx0 (fn:=Try.f69) rfl rfl ⟨by decide,by decide⟩ λ ⟨⟨l,v,w,_⟩,_⟩ _=>by
 refine qbf cx0 (q3r l v w _ _) ⟨by decide,qaj (λ h=>?_) (λ h=>?_)⟩
 ·have hl:0<l.length:=by have:=of_decide_eq_true h;omega
  have e:rshV l v=(l.drop 1,bitI .or .u32 (u32.wrap (v*2 ^ 8)) (u32.wrap (gtB l 0))):=by unfold rshV;rw[h]
  refine ⟨by omega,by omega,by omega,by omega,QI.self rfl rfl rfl (lk1 ?_)⟩
  show _=some (rdL (rshV l v).1 (rshV l v).2 w)
  rw[e];rfl
 ·have e:rshV l v=(l,u32.wrap (v*2 ^ 8)):=by unfold rshV;rw[h]
  refine QI.self rfl rfl rfl (lk1 ?_)
  show _=some (rdL (rshV l v).1 (rshV l v).2 w)
  rw[e];rfl
theorem qii:Held Try.prog G0 40 ctEz:=Held.of cx0 (fn:=Try.f40) rfl rfl ⟨by decide,by decide⟩ λ ⟨l,_⟩ hp=>by
 have hp:l.length<1099511627776:=hp;refine qbf cx0 (vc_ez l _ _) (qaj (λ h=>?_) (λ h=>⟨rfl,?_⟩))
 ·have h:(0:Int)<(l.length:Int):=of_decide_eq_true h;have ew:i64.wrap ((l.length:Int)-1)=((l.length-1:Nat):Int):=by rw[IntWalk.i64_in ((l.length:Int)-1) (by omega)];omega
  rw[ew];refine ⟨by omega,by omega,QC.flat ?_ rfl rfl⟩
  show [SV.bool (ezV l)]=_
  unfold ezV;rw[decide_eq_true (show 0<l.length by omega),Bool.true_and];rfl
 ·have h:¬ (0:Int)<(l.length:Int):=of_decide_eq_false h;refine QC.flat ?_ rfl rfl
  show [SV.bool (ezV l)]=_
  unfold ezV;rw[decide_eq_false (show ¬ 0<l.length by omega)];rfl
theorem cxK2:CxOK Try.prog tt G0 C2:=cx0.consI qyj (fn:=Try.f105) rfl rfl rfl
theorem qri:HeldI Try.prog G0 110 ctGro:=HeldI.of cxK2 (fn:=Try.f110) rfl rfl ⟨by decide,by decide⟩ λ ⟨⟨c,t,_⟩,b,_⟩ hp=>by
 obtain ⟨hc,h0,h1⟩:c.length=256/\(0:Int)<=b/\(show Int from b)<256:=hp;have hb:(show Int from b).toNat<256:=by omega
 refine qbf cxK2 (q33 c t b _ _) ⟨h0,h1,hb,h0,h1,hb,qaj (λ h=>⟨?_,?_⟩) (λ h=>?_)⟩
 ·show (c.set _ _).length=256
  rw[List.length_set];exact hc
 ·have e:groV c t b=(halC (c.set b.toNat (u32.wrap (gtU c b.toNat+32))),sumF (halC (c.set b.toNat (u32.wrap (gtU c b.toNat+32)))) 256):=by unfold groV;rw[h]
  refine QI.self rfl rfl rfl (lk1 ?_)
  show _=some (tbV (groV c t b).1 (groV c t b).2)
  rw[e];rfl
 ·have e:groV c t b=(c.set b.toNat (u32.wrap (gtU c b.toNat+32)),u32.wrap (t+32)):=by unfold groV;rw[h]
  refine QI.self rfl rfl rfl (lk1 ?_)
  show _=some (tbV (groV c t b).1 (groV c t b).2)
  rw[e];rfl
def ctRdn:CtrI:=⟨[.ptr KR],λ _=>True,λ x=>[.bool (decide (x.1.2.1=0)&&decide (((x.1.1:List Int).length:Int)=0))],λ x=>bkKL 0 [.ptr KR] x⟩
theorem qhe:HeldI Try.prog G0 43 ctRdn:=HeldI.of cx0 (fn:=Try.f43) rfl rfl ⟨by decide,by decide⟩ λ ⟨⟨l,v,w,_⟩,_⟩ _=>by
 refine qbf cx0 (q3u l v w _ _) (qaj (λ h=>?_) (λ h=>⟨rfl,?_⟩))
 ·refine QI.self ?_ rfl rfl (lk1 rfl)
  show [SV.bool (decide (v=0)&&decide ((l.length:Int)=0))]=_
  rw[h,Bool.true_and];rfl
 ·refine QI.self ?_ rfl rfl (lk1 rfl)
  show [SV.bool (decide (v=0)&&decide ((l.length:Int)=0))]=_
  rw[h,Bool.false_and]
def rdF:Nat->List Int × Int->List Int × Int
 | 0,x=>x
 | k+1,x=>rdF k (rshV x.1 x.2)
def ctNR:CtrI:=⟨[.dat (.sl uB)],λ _=>True,λ _=>[.ptr 0 0],λ x=>[(0,rdL (rdF 4 (x.1,0)).1 (rdF 4 (x.1,0)).2 4294967295)]⟩
theorem cxR1:CxOK Try.prog tt G0 CR1:=cx0.consI qq1 (fn:=Try.f69) rfl rfl rfl
theorem q2d {l0:List Int}:∀ (k i:Nat) (l:List Int) (v:Int),4-i=k->i<=4->rdF k (l,v)=rdF 4 (l0,0)->GD 41 Try.f41 (QI ctNR (l0,())) (hd Try.f41 0) ⟨[(3,.ptr 6 0),(7,.i (i:Nat))],[(6,rdL l v 4294967295)]⟩:=by
 intro k
 induction k with
 | zero=>
  intro i l v hk hi hv;have hi:i=4:=by omega
  subst hi;refine qag cxR1 (qzm l v 4294967295 4 _ _) ?_;rw[decide_eq_false (by decide),bc_f];have hv:(l,v)=rdF 4 (l0,0):=hv;refine ⟨[(0,6)],?_,?_,by decide,λ p hp=>?_⟩
  ·refine ⟨_,_,rfl,?_,rfl⟩;exact ⟨6,rfl,by decide⟩
  ·refine ⟨.inl ⟨6,_,by decide,rfl,_,?_,qbt _ _ rfl⟩,trivial⟩
   show _=LB.var [.sl uB (rdF 4 (l0,0)).1,.int .u32 (rdF 4 (l0,0)).2,.int .u32 4294967295]
   rw[<- hv]
  ·simp only[List.mem_cons,List.not_mem_nil,or_false] at hp;subst hp;decide
 | succ k ih=>
  intro i l v hk hi hv;refine qag cxR1 (qzm l v 4294967295 i _ _) ?_;rw[decide_eq_true (show (i:Int)<4 by omega),bc_t,IntWalk.i64_in ((i:Int)+1) (by omega)];exact ⟨trivial,(ih (i+1) _ _ (by omega) (by omega) hv).only ⟨rfl,rfl,trivial⟩ ⟨rfl,trivial⟩⟩
theorem qkj:HeldI Try.prog G0 41 ctNR:=HeldI.of cxR1 (fn:=Try.f41) rfl rfl ⟨by decide,by decide⟩ λ ⟨l,_⟩ _=>by
 refine qag cxR1 (vc_nR l _ _) ?_;exact (q2d 4 0 l 0 rfl (Nat.zero_le _) rfl).only ⟨rfl,rfl,trivial⟩ ⟨rfl,trivial⟩
def nrmV:Nat->List Int->Int->Int->List Int × Int × Int
 | 0,l,v,w=>(l,v,w)
 | f+1,l,v,w=>match decide (w<16777216) with
  | true=>nrmV f (rshV l v).1 (rshV l v).2 (u32.wrap (w*2 ^ 8))
  | false=>(l,v,w)
def qob:Nat->Int->Prop
 | 0,w=>¬ w<16777216
 | f+1,w=>w<16777216->qob f (u32.wrap (w*2 ^ 8))
def uniV (w t:Int):Int:=u32.wrap (w.tdiv t)
def numV (v w t:Int):Int:=u32.wrap (v.tdiv (uniV w t))
def atV (c:List Int) (v w t:Int):Int × Int:=atF c (numV v w t) 256 0 0
def subV (c:List Int) (v w t:Int):Int:=u32.wrap (v-u32.wrap (uniV w t*(atV c v w t).2))
def widV (c:List Int) (v w t:Int):Int:=u32.wrap (uniV w t*gtU c (atV c v w t).1.toNat)
def nxtV (l c:List Int) (v w t:Int):(Int × Bool) × List Int × Int × Int:=match decide (t<=numV v w t) with
 | true=>((0,false),l,v,w)
 | false=>(((atV c v w t).1,true),nrmV 4 l (subV c v w t) (widV c v w t))
def qu2 (c:List Int) (v w t:Int):Prop:=t≠0/\uniV w t≠0/\(¬ t<=numV v w t->atOK c (numV v w t) 256 0 0/\(0<=(atV c v w t).1/\(atV c v w t).1<256)/\qob 4 (widV c v w t))
def ctNxt:CtrI:=⟨[.ptr KR,TBk],λ x=>qu2 x.2.1.1 x.1.2.1 x.1.2.2.1 x.2.1.2.1,λ x=>[.u (nxtV x.1.1 x.2.1.1 x.1.2.1 x.1.2.2.1 x.2.1.2.1).1.1,.bool (nxtV x.1.1 x.2.1.1 x.1.2.1 x.1.2.2.1 x.2.1.2.1).1.2],λ x=>[(BIG,rdL (nxtV x.1.1 x.2.1.1 x.1.2.1 x.1.2.2.1 x.2.1.2.1).2.1 (nxtV x.1.1 x.2.1.1 x.1.2.1 x.1.2.2.1 x.2.1.2.1).2.2.1 (nxtV x.1.1 x.2.1.1 x.1.2.1 x.1.2.2.1 x.2.1.2.1).2.2.2),(BIG+1,tbV x.2.1.1 x.2.1.2.1)]⟩
theorem cxR2:CxOK Try.prog tt G0 CR2:=(cx0.consI q3e (fn:=Try.f70) rfl rfl rfl).consI qq1 (fn:=Try.f69) rfl rfl rfl
theorem qx5 {c:List Int} {t b:Int} {V:List Int × Int × Int}:∀ (f:Nat) (l:List Int) (v w:Int),qob f w->nrmV f l v w=V ->
  GD 42 Try.f42 (λ rs blk=>rs=[.u b,.bool true]/\blk=[(BIG,rdL V.1 V.2.1 V.2.2),(BIG+1,tbV c t)]) (hd Try.f42 0) ⟨[(0,.ptr BIG 0),(8,.u b)],[(BIG,rdL l v w),(BIG+1,tbV c t)]⟩:=by
 intro f
 induction f with
 | zero=>
  intro l v w ho hv;have ho:¬ w<16777216:=ho;refine qag cxR2 (qtq l c v w t b _ _) ?_;rw[decide_eq_false ho,bc_f];rw[nrmV] at hv;subst hv;exact ⟨rfl,rfl⟩
 | succ f ih=>
  intro l v w ho hv;refine qag cxR2 (qtq l c v w t b _ _) (qaj (λ h=>⟨trivial,by decide,?_⟩) (λ h=>?_))
  ·have h2:w<16777216:=of_decide_eq_true h;rw[nrmV,h] at hv;exact (ih _ _ _ (ho h2) hv).only ⟨rfl,rfl,trivial⟩ ⟨rfl,rfl,trivial⟩
  ·rw[nrmV,h] at hv;subst hv;exact ⟨rfl,rfl⟩
theorem qho:HeldI Try.prog G0 42 ctNxt:=HeldI.of cxR2 (fn:=Try.f42) rfl rfl ⟨by decide,by decide⟩ λ ⟨⟨l,v,w,_⟩,⟨c,t,_⟩,_⟩ hp=>by
 obtain ⟨h1,h2,h3⟩:qu2 c v w t:=hp;refine qag cxR2 (q3z l c v w t _ _) ⟨h1,h2,qaj (λ h=>?_) (λ h=>?_)⟩
 ·have e:nxtV l c v w t=((0,false),l,v,w):=by unfold nxtV;rw[show decide (t<=numV v w t)=true from h]
  refine QI.self ?_ rfl rfl (lk2 ?_ rfl)
  ·show [SV.u (nxtV l c v w t).1.1,.bool (nxtV l c v w t).1.2]=_
   rw[e]
  ·show _=some (rdL (nxtV l c v w t).2.1 (nxtV l c v w t).2.2.1 (nxtV l c v w t).2.2.2)
   rw[e];rfl
 ·have h:decide (t<=numV v w t)=false:=h;obtain ⟨g1,⟨g2,g3⟩,g4⟩:=h3 (of_decide_eq_false h);have e:nxtV l c v w t=(((atV c v w t).1,true),nrmV 4 l (subV c v w t) (widV c v w t)):=by unfold nxtV;rw[h]
  have g3':(atV c v w t).1.toNat<256:=by omega
  refine ⟨g1,g2,g3,g3',?_⟩;refine ((qx5 (c:=c) (t:=t) (b:=(atV c v w t).1) 4 l (subV c v w t) (widV c v w t) g4 rfl).post λ rs blk hq=>?_).only ⟨rfl,rfl,trivial⟩ ⟨rfl,rfl,trivial⟩;obtain ⟨rfl,rfl⟩:=hq;refine QI.self ?_ rfl rfl (lk2 ?_ rfl)
  ·show [SV.u (nxtV l c v w t).1.1,.bool (nxtV l c v w t).1.2]=_
   rw[e]
  ·show _=some (rdL (nxtV l c v w t).2.1 (nxtV l c v w t).2.2.1 (nxtV l c v w t).2.2.2)
   rw[e];rfl
theorem qna:HeldI Try.prog G0 107 ctFlT:=HeldI.of cx0 (fn:=Try.f107) rfl rfl ⟨by decide,by decide⟩ λ ⟨⟨⟨c,t,_⟩,_⟩,_⟩ _=>by
 exact qbf cx0 (q35 c t _ _) (QI.self rfl rfl rfl (lk1 rfl))
theorem qnb:HeldI Try.prog G0 106 ctFlP:=HeldI.of cx0 (fn:=Try.f106) rfl rfl ⟨by decide,by decide⟩ λ ⟨⟨⟨c,t,_⟩,_⟩,b,_⟩ _=>by
 exact qbf cx0 (q36 c t b _ _) (QI.self rfl rfl rfl (lk1 rfl))
theorem qmi:HeldI Try.prog G0 109 ctFlT:=HeldI.of cx0 (fn:=Try.f109) rfl rfl ⟨by decide,by decide⟩ λ ⟨⟨⟨c,t,_⟩,_⟩,_⟩ _=>by
 exact qbf cx0 (q3m c t _ _) (QI.self rfl rfl rfl (lk1 rfl))
theorem cxSp:CxOK Try.prog tt G0 [(110,.inr ctGro)]:=cx0.consI qri (fn:=Try.f110) rfl rfl rfl
theorem qmj:HeldI Try.prog G0 108 ctSiP:=HeldI.of cxSp (fn:=Try.f108) rfl rfl ⟨by decide,by decide⟩ λ ⟨⟨⟨c,t,_⟩,_⟩,b,_⟩ hp=>by
 exact qbf cxSp (q3n c t b _ _) ⟨hp,QI.self rfl rfl rfl (lk1 rfl)⟩
theorem cx3T:CxOK Try.prog tt G0 C3T:=cx0.consI q2c (fn:=Try.f65) rfl rfl rfl
theorem qhz:HeldI Try.prog G0 112 ctChT1:=HeldI.of cx3T (fn:=Try.f112) rfl rfl ⟨by decide,by decide⟩ λ ⟨⟨⟨⟨l,j⟩,⟨c,t,_⟩⟩,b,_⟩,_⟩ hp=>by
 obtain ⟨rfl,hj⟩:b=(j:Int)/\j<256:=hp;refine qbf cx3T (q06 l j c t (j:Int) _ _) ⟨by omega,by omega,by omega,by omega,by omega,by omega,by omega,by omega,QI.self rfl rfl rfl (lk2 rfl rfl)⟩
theorem cx3P:CxOK Try.prog tt G0 C3P:=(cx0.consI qri (fn:=Try.f110) rfl rfl rfl).consI qhz (fn:=Try.f112) rfl rfl rfl
theorem qf7:HeldI Try.prog G0 111 ctChP:=HeldI.of cx3P (fn:=Try.f111) rfl rfl ⟨by decide,by decide⟩ λ ⟨⟨⟨⟨l,j⟩,⟨c,t,_⟩⟩,b,_⟩,x,_⟩ hp=>by
 exact qbf cx3P (q37 l j c t b x _ _) ⟨rfl,rfl,hp.1,hp.2,QI.self rfl rfl rfl (lk2 rfl rfl)⟩
def ctCO0:CtrI:=⟨[.dat iI],λ x=>x.1=(0:Int),λ _=>[.ifc 118 true [.ptr 0 0],.bool true],λ _=>[(0,tbV c1L 256)]⟩
def ctCO1:CtrI:=⟨[.dat iI],λ x=>x.1=(1:Int),λ _=>[.ifc 119 true [.ptr 0 0],.bool true],λ _=>[(0,tbV c1L 256)]⟩
theorem qus {ct:CtrI} {x:DI ct.args} {T A:Nat} {g:Bool} {vs:List SV} {blk:List (Nat × LB)} (h:ct.out x=[.ifc T g [.ptr 0 0],.bool true]) (hb:ct.blk x=[(0,.var vs)]) (hA:A<BIG) (hl:lk blk A=some (.var vs)) (hv:MtL (piOf [(0,A)]) vs vs):QI ct x [.ifc T g [.ptr A 0],.bool true] blk:=by
 have h0:piOf [(0,A)] 0=some A:=rfl;refine ⟨[(0,A)],?_,?_,by simp,λ p hp=>?_⟩
 ·rw[h];exact ⟨_,_,rfl,⟨_,rfl,⟨_,_,rfl,⟨A,rfl,h0⟩,rfl⟩⟩,_,_,rfl,rfl,rfl⟩
 ·rw[hb];exact ⟨.inl ⟨A,_,h0,hl,_,rfl,hv⟩,trivial⟩
 ·rw[List.mem_singleton] at hp;subst hp;exact hA
theorem qnh:HeldI Try.prog G0 36 ctCO0:=HeldI.of cx3T (fn:=Try.f36) rfl rfl ⟨by decide,by decide⟩ λ ⟨m,_⟩ hp=>by
 have hp:m=(0:Int):=hp;subst hp;refine qbf cx3T (qqn 0 _ _) ?_;rw[decide_eq_true rfl,bc_t];exact ⟨trivial,qus rfl rfl (by decide) rfl (qbt _ _ rfl)⟩
theorem qng:HeldI Try.prog G0 36 ctCO1:=HeldI.of cx3T (fn:=Try.f36) rfl rfl ⟨by decide,by decide⟩ λ ⟨m,_⟩ hp=>by
 have hp:m=(1:Int):=hp;subst hp;refine qbf cx3T (qqn 1 _ _) ?_;rw[decide_eq_false (by decide),bc_f,decide_eq_true rfl,bc_t];exact ⟨trivial,qus rfl rfl (by decide) rfl (qbt _ _ rfl)⟩
def ctCOn:CtrI:=⟨[.dat iI],λ x=>¬ (0<=x.1/\(show Int from x.1)<=2),λ _=>[.dead,.bool false],λ _=>[]⟩
def CD0:CV:=[(36,.inr ctCO0),(40,.inl ctEz),(41,.inr ctNR),(107,.inr ctFlT),(106,.inr ctFlP),(42,.inr ctNxt),(43,.inr ctRdn)]
def CD1:CV:=[(36,.inr ctCO1),(40,.inl ctEz),(41,.inr ctNR),(109,.inr ctFlT),(108,.inr ctSiP),(42,.inr ctNxt),(43,.inr ctRdn)]
set_option maxRecDepth 100000
theorem q05 (m:Int) (b:List Int) (n:Int) (Q:QT) (R:RT):sA CD0 Try.f19 Q (λ it S=>R it (qar [8,10,11,39,40] [37,88,90,1049152,1069632,1143360] S)) [.code (qah Try.f19)] (entry [iI,.sl uB,iI] (m,b,n,())) =
  (ctCO0.pre (m,())/\bc (bif false then true else decide (n<0)) (true=true/\true=true/\Q [.nils,.i 130] [(1069632,.var [.arr (256:Nat) u4 c1L,.int .u32 256])]) (bc (bif false then true else decide ((65536:Int)<n)) (true=true/\Q [.nils,.i 130] [(1069632,.var [.arr (256:Nat) u4 c1L,.int .u32 256])]) (ctEz.pre (b,())/\bc (bif false then true else ezV b) (Q [.nils,.i 130] [(1069632,.var [.arr (256:Nat) u4 c1L,.int .u32 256])]) (ctNR.pre (b,())/\(0:Int)<=n/\n<=n/\n<2 ^ 24/\(↑(1:Nat):Int)*n<=2 ^ 48/\R (hd Try.f19 0) { env:=[(8,.ifc (118:Nat) true [.ptr 1069632 0]),(10,.ptr 1143360 0),(11,.win true uB 37 0 n.toNat),(39,.i (n.toNat:Int)),(40,.i 0)],blk:=[(37,.row 5 uB (List.replicate n.toNat uB.dflt)),(1069632,.var [.arr (256:Nat) u4 c1L,.int .u32 256]),(1143360,.var [.sl uB (rdF (4:Nat) (b,(0:Int))).1,.int .u32 (rdF (4:Nat) (b,(0:Int))).2,.int .u32 4294967295])] })))):=by kernel_rfl
def qiy (o l c:List Int) (v w t:Int):List (Nat × LB):=[(37,.row 5 uB o),(88,.var [.arr (256:Nat) u4 c,.int .u32 t]),(90,.var [.sl uB l,.int .u32 v,.int .u32 w])]
theorem qqm (n:Nat) (o l c:List Int) (v w t:Int) (i:Nat) (Q:QT) (R:RT):sA CD0 Try.f19 Q (λ it S=>R it (qar [8,10,11,39,40] [37,88,90] S)) (hd Try.f19 0) ⟨[(8,.ifc 118 true [.ptr 88 0]),(10,.ptr 90 0),(11,.win true uB 37 0 o.length),(39,.i (n:Nat)),(40,.i (i:Nat))],[(37,.row 5 uB o),(88,tbV c t),(90,rdL l v w)]⟩ =
  (bc (decide ((i:Int)<(n:Int))) (ctFlT.pre (((c,t,()),()),())/\ctNxt.pre ((l,v,w,()),(c,t,()),())/\bc (!(nxtV l c v w t).1.2) (Q [.nils,.i 130] [(37,.row 5 uB o),(88,.var [.arr (256:Nat) u4 c,.int .u32 t]),(90,.var [.sl uB (nxtV l c v w t).2.1,.int .u32 (nxtV l c v w t).2.2.1,.int .u32 (nxtV l c v w t).2.2.2])]) (ctFlP.pre (((c,t,()),()),(nxtV l c v w t).1.1,())/\(0:Int)<=(i:Int)/\(i:Int)<(o.length:Int)/\(0:Nat)+(i:Int).toNat<o.length/\R (hd Try.f19 0) { env:=[(8,.ifc (118:Nat) true [.ptr 88 0]),(10,.ptr 90 0),(11,.win true uB 37 0 o.length),(39,.i (n:Int)),(40,.i (IntKind.i64.wrap ((i:Int)+1)))],blk:=[(37,.row 5 uB (o.set ((0:Nat)+(i:Int).toNat) (nxtV l c v w t).1.1)),(88,.var [.arr (256:Nat) u4 c,.int .u32 t]),(90,.var [.sl uB (nxtV l c v w t).2.1,.int .u32 (nxtV l c v w t).2.2.1,.int .u32 (nxtV l c v w t).2.2.2])] })) (ctRdn.pre ((l,v,w,()),())/\bc (!(decide (v=(0:(AK.dat u4).D))&&decide ((l.length:Int)=(0:Int)))) (Q [.nils,.i 130] (qiy o l c v w t)) (Q [.win true uB 37 0 o.length,.i 0] (qiy o l c v w t)))):=by kernel_rfl
theorem q04 (m:Int) (b:List Int) (n:Int) (Q:QT) (R:RT):sA CD1 Try.f19 Q (λ it S=>R it (qar [8,10,11,39,40] [37,88,90,1049152,1069632,1143360] S)) [.code (qah Try.f19)] (entry [iI,.sl uB,iI] (m,b,n,())) =
  (ctCO1.pre (m,())/\bc (bif false then true else decide (n<0)) (true=true/\true=true/\Q [.nils,.i 130] [(1069632,.var [.arr (256:Nat) u4 c1L,.int .u32 256])]) (bc (bif false then true else decide ((65536:Int)<n)) (true=true/\Q [.nils,.i 130] [(1069632,.var [.arr (256:Nat) u4 c1L,.int .u32 256])]) (ctEz.pre (b,())/\bc (bif false then true else ezV b) (Q [.nils,.i 130] [(1069632,.var [.arr (256:Nat) u4 c1L,.int .u32 256])]) (ctNR.pre (b,())/\(0:Int)<=n/\n<=n/\n<2 ^ 24/\(↑(1:Nat):Int)*n<=2 ^ 48/\R (hd Try.f19 0) { env:=[(8,.ifc (119:Nat) true [.ptr 1069632 0]),(10,.ptr 1143360 0),(11,.win true uB 37 0 n.toNat),(39,.i (n.toNat:Int)),(40,.i 0)],blk:=[(37,.row 5 uB (List.replicate n.toNat uB.dflt)),(1069632,.var [.arr (256:Nat) u4 c1L,.int .u32 256]),(1143360,.var [.sl uB (rdF (4:Nat) (b,(0:Int))).1,.int .u32 (rdF (4:Nat) (b,(0:Int))).2,.int .u32 4294967295])] })))):=by kernel_rfl
def qix (o l c:List Int) (v w t:Int):List (Nat × LB):=[(37,.row 5 uB o),(88,.var [.arr (256:Nat) u4 c,.int .u32 t]),(90,.var [.sl uB l,.int .u32 v,.int .u32 w])]
theorem qql (n:Nat) (o l c:List Int) (v w t:Int) (i:Nat) (Q:QT) (R:RT):sA CD1 Try.f19 Q (λ it S=>R it (qar [8,10,11,39,40] [37,88,90] S)) (hd Try.f19 0) ⟨[(8,.ifc 119 true [.ptr 88 0]),(10,.ptr 90 0),(11,.win true uB 37 0 o.length),(39,.i (n:Nat)),(40,.i (i:Nat))],[(37,.row 5 uB o),(88,tbV c t),(90,rdL l v w)]⟩ =
  (bc (decide ((i:Int)<(n:Int))) (ctFlT.pre (((c,t,()),()),())/\ctNxt.pre ((l,v,w,()),(c,t,()),())/\bc (!(nxtV l c v w t).1.2) (Q [.nils,.i 130] [(37,.row 5 uB o),(88,.var [.arr (256:Nat) u4 c,.int .u32 t]),(90,.var [.sl uB (nxtV l c v w t).2.1,.int .u32 (nxtV l c v w t).2.2.1,.int .u32 (nxtV l c v w t).2.2.2])]) (ctSiP.pre (((c,t,()),()),(nxtV l c v w t).1.1,())/\(0:Int)<=(i:Int)/\(i:Int)<(o.length:Int)/\(0:Nat)+(i:Int).toNat<o.length/\R (hd Try.f19 0) { env:=[(8,.ifc (119:Nat) true [.ptr 88 0]),(10,.ptr 90 0),(11,.win true uB 37 0 o.length),(39,.i (n:Int)),(40,.i (IntKind.i64.wrap ((i:Int)+1)))],blk:=[(37,.row 5 uB (o.set ((0:Nat)+(i:Int).toNat) (nxtV l c v w t).1.1)),(88,.var [.arr (256:Nat) u4 (groV c t (nxtV l c v w t).1.1).1,.int .u32 (groV c t (nxtV l c v w t).1.1).2]),(90,.var [.sl uB (nxtV l c v w t).2.1,.int .u32 (nxtV l c v w t).2.2.1,.int .u32 (nxtV l c v w t).2.2.2])] })) (ctRdn.pre ((l,v,w,()),())/\bc (!(decide (v=(0:(AK.dat u4).D))&&decide ((l.length:Int)=(0:Int)))) (Q [.nils,.i 130] (qix o l c v w t)) (Q [.win true uB 37 0 o.length,.i 0] (qix o l c v w t)))):=by kernel_rfl
def sm:List Int->Int
 | []=>0
 | x::l=>x+sm l
theorem qqw:∀ a b:List Int,sm (a++b)=sm a+sm b
 | [],b=>by show sm b=0+sm b;omega
 | x::a,b=>by show x+sm (a++b)=x+sm a+sm b;rw[qqw a b];omega
theorem qlw {c:List Int} {i:Nat} (h:i<c.length):gtU c i=c[i]:=by show (c[i]?).getD _=_;rw[List.getElem?_eq_getElem h];rfl
theorem qb9 {c:List Int} {i:Nat} (h:i<c.length):sm (c.take (i+1))=sm (c.take i)+gtU c i:=by
 rw[List.take_succ_eq_append_getElem h,qqw,qlw h]
 show _+(c[i]+0)=_;omega
theorem qpb:∀ {l:List Int},(∀ x∈l,1<=x)->(l.length:Int)<=sm l
 | [],_=>Int.le_refl _
 | x::l,h=>by
  have h1:=h x (List.mem_cons_self ..);have h2:=qpb λ y hy=>h y (List.mem_cons_of_mem _ hy)
  show ((l.length+1:Nat):Int)<=x+sm l
  omega
theorem qqv (c:List Int) (i:Nat):sm c=sm (c.take i)+sm (c.drop i):=by rw[<- qqw,List.take_append_drop]
def qa7 (c:List Int) (t:Int):Prop:=c.length=256/\(∀ x∈c,1<=x)/\sm c=t/\t<=65536
theorem qb5 {c:List Int} {t:Int} (h:qa7 c t) (i:Nat):0<=sm (c.take i)/\sm (c.take i)<=t:=by
 have h1:=qpb (l:=c.take i) λ x hx=>h.2.1 x (List.mem_of_mem_take hx)
 have h2:=qpb (l:=c.drop i) λ x hx=>h.2.1 x (List.mem_of_mem_drop hx)
 have h3:=qqv c i;have h4:=h.2.2.1;omega
theorem qe0 {c:List Int} {t:Int} (h:qa7 c t):256<=t/\t<=65536:=by
 have h1:=qpb h.2.1;rw[h.1,h.2.2.1] at h1;exact ⟨h1,h.2.2.2⟩
theorem qew {c:List Int} {t:Int} (h:qa7 c t) {i:Nat} (hi:i<256):1<=gtU c i/\gtU c i<=t:=by
 have hl:i<c.length:=by rw[h.1];exact hi
 have h1:=qb9 hl;have h2:=(qb5 h (i+1)).2;have h3:=(qb5 h i).1;have h4:1<=gtU c i:=by rw[qlw hl];exact h.2.1 _ (List.getElem_mem hl)
 omega
theorem at_ok {c:List Int} {t n:Int} (h:qa7 c t) (hn:n<t):∀ (f b:Nat),b+f=256->sm (c.take b)<=n ->
  atOK c n f (b:Nat) (sm (c.take b))/\∃ k:Nat,k<256/\atF c n f (b:Nat) (sm (c.take b))=((k:Int),sm (c.take k))/\sm (c.take k)<=n/\n<sm (c.take (k+1)):=by
 intro f
 induction f with
 | zero=>
  intro b hb hs;rw[List.take_of_length_le (by rw[h.1];omega),h.2.2.1] at hs;omega
 | succ f ih=>
  intro b hb hs;have hl:b<c.length:=by rw[h.1];omega
  have h1:=qb9 hl;have h2:=qb5 h (b+1);have ht:=(qe0 h).2;have ew:u32.wrap (sm (c.take b)+gtU c b)=sm (c.take (b+1)):=by rw[IntWalk.u32_in _ (by omega)];omega
  rw[atOK,atF,Int.toNat_natCast,ew];by_cases hq:sm (c.take (b+1))<=n
  ·rw[decide_eq_true hq];have:=ih (b+1) (by omega) hq;exact this
  ·rw[decide_eq_false hq];exact ⟨trivial,b,by omega,rfl,hs,by omega⟩
theorem qwu {c:List Int} {t n:Int} (h:qa7 c t) (h0:0<=n) (hn:n<t):atOK c n 256 0 0/\∃ k:Nat,k<256/\atF c n 256 0 0=((k:Int),sm (c.take k))/\sm (c.take k)<=n/\n<sm (c.take (k+1)):=at_ok h hn 256 0 rfl h0
theorem qzt:∀ {c:List Int} {i:Nat} (h:i<c.length) (x:Int),sm (c.set i x)=sm c-c[i]+x
 | y::c,0,_,x=>by show x+sm c=y+sm c-y+x;omega
 | y::c,i+1,h,x=>by
  have hi:i<c.length:=Nat.lt_of_succ_lt_succ h;have:=qzt hi x
  show y+sm (c.set i x)=y+sm c-c[i]+x
  omega
theorem qpc:∀ {c:List Int},(∀ x∈c,1<=x/\x<=65568)->(∀ x∈halC c,1<=x)/\2*sm (halC c)<=sm c+c.length/\(c.length:Int)<=sm (halC c)
 | [],_=>⟨(λ x hx=>by cases hx),by decide,by decide⟩
 | y::c,h=>by
  obtain ⟨h1,h2,h3⟩:=qpc λ x hx=>h x (List.mem_cons_of_mem _ hx)
  have hy:=h y (List.mem_cons_self ..);have e:u32.wrap ((u32.wrap (y+1)).tdiv 2)=(y+1) / 2:=by rw[IntWalk.u32_in (y+1) (by omega),IntWalk.u32_quo _ _ (by omega)]
  have eh:halC (y::c)=(y+1) / 2::halC c:=by show u32.wrap ((u32.wrap (y+1)).tdiv 2)::_=_;rw[e];rfl
  rw[eh];refine ⟨λ x hx=>?_,?_,?_⟩
  ·rcases List.mem_cons.1 hx with hx | hx
   ·rw[hx];omega
   ·exact h1 x hx
  ·show 2*((y+1) / 2+sm (halC c))<=y+sm c+((c.length+1:Nat):Int)
   omega
  ·show ((c.length+1:Nat):Int)<=(y+1) / 2+sm (halC c)
   omega
theorem qt1 {c:List Int} (h:∀ x∈c,1<=x) (hs:sm c<=1000000):∀ n,n<=c.length->sumF c n=sm (c.take n)
 | 0,_=>rfl
 | n+1,hn=>by
  have hl:n<c.length:=hn;have h1:=qpb (l:=c.take (n+1)) λ x hx=>h x (List.mem_of_mem_take hx)
  have h2:=qpb (l:=c.drop (n+1)) λ x hx=>h x (List.mem_of_mem_drop hx)
  have h3:=qqv c (n+1);rw[sumF,qt1 h hs n (by omega),qb9 hl];rw[qb9 hl] at h1 h3;exact IntWalk.u32_in _ (by omega)
theorem qgm:qa7 c1L 256:=by
 refine ⟨by decide,λ x hx=>?_,by decide +kernel,by decide⟩;rw[List.eq_of_mem_replicate hx];decide
theorem qj3 {c:List Int} {t:Int} (h:qa7 c t) {b:Nat} (hb:b<256):qa7 (groV c t b).1 (groV c t b).2:=by
 have hl:b<c.length:=by rw[h.1];exact hb
 have hg:=qew h hb;have ht:=qe0 h;have e1:u32.wrap (gtU c b+32)=gtU c b+32:=IntWalk.u32_in _ (by omega);have e2:u32.wrap (t+32)=t+32:=IntWalk.u32_in _ (by omega);have hc:(c.set b (gtU c b+32)).length=256:=by rw[List.length_set];exact h.1
 have hs:sm (c.set b (gtU c b+32))=t+32:=by rw[qzt hl,qlw hl,h.2.2.1];omega
 have hm:∀ x∈c.set b (gtU c b+32),1<=x/\x<=65568:=λ x hx=>by
  rcases List.mem_or_eq_of_mem_set hx with q | q
  ·obtain ⟨j,hj,rfl⟩:=List.mem_iff_getElem.1 q;have:=qew h (i:=j) (by rw[<- h.1];exact hj);rw[qlw hj] at this;omega
  ·rw[q];omega
 unfold groV;rw[Int.toNat_natCast,e1,e2];by_cases hq:65536<t+32
 ·rw[decide_eq_true hq];obtain ⟨k1,k2,k3⟩:=qpc hm;rw[hc,hs] at k2;have hL:(halC (c.set b (gtU c b+32))).length=256:=by show (List.map _ _).length=256;rw[List.length_map];exact hc
  have e:=qt1 k1 (by omega) 256 (by rw[hL];exact Nat.le_refl _);rw[List.take_of_length_le (by rw[hL];exact Nat.le_refl _)] at e;exact ⟨hL,k1,e.symm,by show sumF _ 256<=65536;rw[e];omega⟩
 ·rw[decide_eq_false hq];exact ⟨hc,λ x hx=>(hm x hx).1,hs,by show t+32<=65536;omega⟩
def WOK (w:Int):Prop:=16777216<=w/\w<=4294967295
theorem qlq:∀ (f:Nat) (w:Int),16777216<=w*256 ^ f->w<=4294967295->qob f w/\∀ l v,WOK (nrmV f l v w).2.2
 | 0,w,h,h2=>⟨by show ¬ w<16777216;simp at h;omega,λ l v=>⟨by simp at h;exact h,h2⟩⟩
 | f+1,w,h,h2=>by
  by_cases hq:w<16777216
  ·have hw:0<=w:=by
    rcases Int.lt_or_le w 0 with q | q
    ·have:w*256 ^ (f+1)<=0:=Int.mul_nonpos_of_nonpos_of_nonneg (Int.le_of_lt q) (Int.pow_nonneg (by decide));omega
    ·exact q
   have e:u32.wrap (w*2 ^ 8)=w*256:=IntWalk.u32_in _ (by omega);have ih:=qlq f (w*256) (by rw[Int.mul_assoc,Int.mul_comm 256,<- Int.pow_succ];exact h) (by omega);refine ⟨λ _=>by rw[e];exact ih.1,λ l v=>?_⟩;rw[nrmV,decide_eq_true hq,e];exact ih.2 _ _
  ·refine ⟨λ q=>absurd q hq,λ l v=>?_⟩;rw[nrmV,decide_eq_false hq];exact ⟨by show 16777216<=w;omega,h2⟩
theorem qg2 {w t:Int} (hw:WOK w) (h0:256<=t) (h1:t<=65536):uniV w t=w / t/\256<=w / t/\w / t*t<=w:=by
 have e:uniV w t=w / t:=IntWalk.u32_quo _ _ (by have:=hw.1;have:=hw.2;omega);refine ⟨e,?_,?_⟩
 ·rw[Int.le_ediv_iff_mul_le (by omega)];have:=hw.1;omega
 ·exact Int.ediv_mul_le _ (by omega)
theorem qvc {c:List Int} {v w t:Int} (h:qa7 c t) (hw:WOK w):qu2 c v w t/\∀ l,((nxtV l c v w t).1.2=true->∃ k:Nat,k<256/\(nxtV l c v w t).1.1=(k:Int))/\WOK (nxtV l c v w t).2.2.2:=by
 have ht:=qe0 h;obtain ⟨u1,u2,u3⟩:=qg2 hw ht.1 ht.2;have hn:0<=numV v w t:=by unfold numV;rw[IntKind.wrap_u32];omega
 have key:¬ t<=numV v w t->∃ k:Nat,k<256/\atOK c (numV v w t) 256 0 0/\(atV c v w t).1=(k:Int)/\qob 4 (widV c v w t)/\∀ l v',WOK (nrmV 4 l v' (widV c v w t)).2.2:=λ hq=>by
  obtain ⟨k1,k,k2,k3,_⟩:=qwu h hn (by omega);have ka:atV c v w t=((k:Int),sm (c.take k)):=k3;have hg:=qew h k2;have b1:uniV w t*gtU c k<=w:=by
   rw[u1];exact Int.le_trans (Int.mul_le_mul_of_nonneg_left hg.2 (by omega)) u3
  have b2:256<=uniV w t*gtU c k:=by
   rw[u1];have:=Int.mul_le_mul u2 hg.1 (by decide) (by omega);omega
  have e:widV c v w t=uniV w t*gtU c k:=by
   unfold widV;rw[ka]
   show u32.wrap (uniV w t*gtU c k)=uniV w t*gtU c k
   exact IntWalk.u32_in _ (by have:=hw.2;omega)
  have nk:=qlq    4 (widV c v w t) (by rw[e];have:(256:Int) ^ 4=4294967296:=by decide
                                       omega) (by rw[e];have:=hw.2;omega)
  exact ⟨k,k2,k1,by rw[ka],nk⟩
 refine ⟨⟨by omega,by rw[u1];omega,λ hq=>?_⟩,λ l=>?_⟩
 ·obtain ⟨k,k2,k1,ka,nk,_⟩:=key hq;exact ⟨k1,by rw[ka];omega,nk⟩
 ·unfold nxtV;by_cases hq:t<=numV v w t
  ·rw[decide_eq_true hq];exact ⟨(λ q=>by cases q),hw⟩
  ·rw[decide_eq_false hq];obtain ⟨k,k2,k1,ka,_,nk⟩:=key hq;exact ⟨λ _=>⟨k,k2,ka⟩,nk _ _⟩
theorem quv {ct:Ctr} {x:DL ct.args} {rs:List SV} {blk:List (Nat × LB)} {e:Sh} {et:TypeId} {a k:Nat} {z:Int} {xs:List e.D} (h:ct.out x=[.win true e 0 0 xs.length,.i z]) (hr:ct.rows x=[.row et e xs]) (hs:rs=[.win true e a 0 k,.i z]) (hk:k=xs.length) (hb:lk blk a=some (.row et e xs)):QC ct x rs blk:=by
 subst hs;subst hk;refine ⟨λ i=>if i=0 then some a else none,?_,?_,λ i j b h1 h2=>?_,by rw[hr];rfl⟩
 ·rw[h];exact ⟨_,_,rfl,.inl ⟨true,a,rfl,rfl,λ h=>h⟩,_,_,rfl,rfl,rfl⟩
 ·rw[hr];exact ⟨.inl ⟨a,rfl,hb⟩,trivial⟩
 ·simp only at h1 h2;split at h1
  ·split at h2
   ·omega
   ·cases h2
  ·cases h1
theorem quw {ct:Ctr} {x:DL ct.args} {rs:List SV} {blk:List (Nat × LB)} {e:Sh} {et:TypeId} {z:Int} (h:ct.out x=[.win true e 0 0 0,.i z]) (hr:ct.rows x=[.row et e []]) (hs:rs=[.nils,.i z]) (he:0<e.size):QC ct x rs blk:=by
 subst hs;refine ⟨λ _=>none,?_,?_,λ i j b h1 h2=>?_,by rw[hr];rfl⟩
 ·rw[h];exact ⟨_,_,rfl,.inr ⟨rfl,rfl,rfl,rfl⟩,_,_,rfl,rfl,rfl⟩
 ·rw[hr];exact ⟨.inr ⟨rfl,_,_,rfl,he⟩,trivial⟩
 ·simp at h1
def dcG (g:Bool) (c:List Int) (t x:Int):List Int × Int:=match g with
 | true=>groV c t x
 | false=>(c,t)
def dcF (g:Bool):Nat->List Int->List Int->Int->Int->List Int->Int->Option (List Int)
 | 0,o,l,v,_,_,_=>match decide (v=0)&&decide ((l.length:Int)=0) with
  | true=>some o
  | false=>none
 | k+1,o,l,v,w,c,t=>match (nxtV l c v w t).1.2 with
  | true=>dcF g k (o++[(nxtV l c v w t).1.1]) (nxtV l c v w t).2.1 (nxtV l c v w t).2.2.1 (nxtV l c v w t).2.2.2 (dcG g c t (nxtV l c v w t).1.1).1 (dcG g c t (nxtV l c v w t).1.1).2
  | false=>none
def decV (g:Bool) (b:List Int) (n:Int):List Int × Int:=match decide (n<0) with
 | true=>([],130)
 | false=>match decide (65536<n) with
  | true=>([],130)
  | false=>match ezV b with
   | true=>([],130)
   | false=>match dcF g n.toNat [] (rdF 4 (b,0)).1 (rdF 4 (b,0)).2 4294967295 c1L 256 with
    | some o=>(o,0)
    | none=>([],130)
def qs2 (g:Bool) (m:Int):Ctr:=⟨[iI,.sl uB,iI],λ x=>(show Int from x.1)=m/\List.length x.2.1<1099511627776,λ x=>[.win true uB 0 0 (decV g x.2.1 x.2.2.1).1.length,.i (decV g x.2.1 x.2.2.1).2],λ x=>[.row 5 uB (decV g x.2.1 x.2.2.1).1]⟩
theorem qdz {g:Bool} {m' m:Int} {b:List Int} {n:Int} {blk:List (Nat × LB)} (h:decV g b n=([],130)):QC (qs2 g m') (m,b,n,()) [SV.nils,.i 130] blk:=by
 refine quw (e:=uB) (et:=5) (z:=130) ?_ ?_ rfl (by decide)
 ·show [SV.win true uB 0 0 (decV g b n).1.length,.i (decV g b n).2]=_;rw[h];rfl
 ·show [LB.row 5 uB (decV g b n).1]=_;rw[h]
theorem qwd {g:Bool} {m' m:Int} {b o:List Int} {n:Int} {a:Nat} {blk:List (Nat × LB)} (h:decV g b n=(o,0)) (hb:lk blk a=some (.row 5 uB o)):QC (qs2 g m') (m,b,n,()) [SV.win true uB a 0 o.length,.i 0] blk:=by
 refine quv (e:=uB) (et:=5) (a:=a) (z:=0) (xs:=o) ?_ ?_ rfl rfl hb
 ·show [SV.win true uB 0 0 (decV g b n).1.length,.i (decV g b n).2]=_;rw[h]
 ·show [LB.row 5 uB (decV g b n).1]=_;rw[h]
def resD (r:Option (List Int)):List Int × Int:=match r with
 | some o=>(o,0)
 | none=>([],130)
abbrev dSt (T:Nat) (n:Nat) (o l c:List Int) (v w t:Int) (i:Nat):PS:=⟨[(8,.ifc T true [.ptr 88 0]),(10,.ptr 90 0),(11,.win true uB 37 0 o.length),(39,.i (n:Nat)),(40,.i (i:Nat))],[(37,.row 5 uB o),(88,tbV c t),(90,rdL l v w)]⟩
theorem qpd {α:Type} {d:List α} {k:Nat} {z x:α}:(d++List.replicate (k+1) z).set d.length x=(d++[x])++List.replicate k z:=by
 rw[List.set_append_right _ _ (Nat.le_refl _),Nat.sub_self,List.replicate_succ,List.set_cons_zero,List.append_assoc];rfl
theorem cxD0:CxOK Try.prog tt G0 CD0:=((((((cx0.consI qhe (fn:=Try.f43) rfl rfl rfl).consI qho (fn:=Try.f42) rfl rfl rfl).consI qnb (fn:=Try.f106) rfl rfl rfl).consI qna (fn:=Try.f107) rfl rfl rfl).consI qkj (fn:=Try.f41) rfl rfl rfl).k qii (fn:=Try.f40)).consI qnh (fn:=Try.f36) rfl rfl rfl
theorem cxD1:CxOK Try.prog tt G0 CD1:=((((((cx0.consI qhe (fn:=Try.f43) rfl rfl rfl).consI qho (fn:=Try.f42) rfl rfl rfl).consI qmj (fn:=Try.f108) rfl rfl rfl).consI qmi (fn:=Try.f109) rfl rfl rfl).consI qkj (fn:=Try.f41) rfl rfl rfl).k qii (fn:=Try.f40)).consI qng (fn:=Try.f36) rfl rfl rfl
theorem qwi {m:Int} {b:List Int} {z:Int} {n:Nat} (hn:n<=65536):∀ (k i:Nat) (d l c:List Int) (v w t:Int),n-i=k->i<=n->d.length=i->qa7 c t->WOK w->decV false b z=resD (dcF false k d l v w c t) ->
  GD 19 Try.f19 (QC (qs2 false 0) (m,b,z,())) (hd Try.f19 0) (dSt 118 n (d++List.replicate k 0) l c v w t i):=by
 intro k
 induction k with
 | zero=>
  intro i d l c v w t hk hi hd ht hw hv;refine qag cxD0 (qqm n _ l c v w t i _ _) ?_;rw[decide_eq_false (show ¬ (i:Int)<(n:Int) by omega),bc_f];rw[dcF] at hv;refine ⟨trivial,qaj (λ h=>?_) (λ h=>?_)⟩
  ·have h:(decide (v=0)&&decide ((l.length:Int)=0))=false:=by simpa only[Bool.not_eq_true'] using h
   rw[h] at hv;exact qdz hv
  ·have h:(decide (v=0)&&decide ((l.length:Int)=0))=true:=by simpa only[Bool.not_eq_false'] using h
   rw[h] at hv;rw[List.replicate_zero,List.append_nil];exact qwd hv rfl
 | succ k ih=>
  intro i d l c v w t hk hi hd ht hw hv;refine qag cxD0 (qqm n _ l c v w t i _ _) ?_;rw[decide_eq_true (show (i:Int)<(n:Int) by omega),bc_t,IntWalk.i64_in ((i:Int)+1) (by omega)];obtain ⟨p1,p2⟩:=qvc (v:=v) ht hw;obtain ⟨p2,p3⟩:=p2 l;have hl:(d++List.replicate (k+1) (0:Int)).length=n:=by rw[List.length_append,List.length_replicate];omega
  refine ⟨trivial,p1,qaj (λ h=>?_) (λ h=>⟨trivial,by omega,by rw[hl];omega,by rw[hl];omega,?_⟩)⟩
  ·have h:(nxtV l c v w t).1.2=false:=by simpa using h
   rw[dcF,h] at hv;exact qdz hv
  ·have h:(nxtV l c v w t).1.2=true:=by simpa using h
   rw[dcF,h] at hv;have e:(d++List.replicate (k+1) (0:Int)).set (0+(i:Int).toNat) (nxtV l c v w t).1.1=(d++[(nxtV l c v w t).1.1])++List.replicate k 0:=by
    rw[Nat.zero_add,Int.toNat_natCast,<- hd];exact qpd
   have nx:=ih (i+1) _ _ c _ _ t (by omega) (by omega) (by rw[List.length_append,hd];rfl) ht p3 hv;have e2:(d++List.replicate (k+1) (0:Int)).length=((d++[(nxtV l c v w t).1.1])++List.replicate k (0:Int)).length:=by
    rw[List.append_assoc,List.length_append,List.length_append,List.length_replicate,List.length_append,List.length_replicate]
    show _=_+(1+k);omega
   rw[e,e2];exact nx.only ⟨rfl,rfl,rfl,rfl,rfl,trivial⟩ ⟨rfl,rfl,rfl,trivial⟩
theorem qyx (m:Int) (b:List Int) (n:Int) (hm:m=0) (hb:b.length<1099511627776):GD 19 Try.f19 (QC (qs2 false 0) (m,b,n,())) [.code (qah Try.f19)] (entry [iI,.sl uB,iI] (m,b,n,())):=by
 refine qag cxD0 (q05 m b n _ _) ⟨hm,qaj (λ h=>⟨rfl,rfl,?_⟩) (λ h=>qaj (λ h2=>⟨rfl,?_⟩) (λ h2=>⟨hb,qaj (λ h3=>?_) (λ h3=>?_)⟩))⟩
 ·have h:decide (n<0)=true:=h;exact qdz (by unfold decV;rw[h])
 all_goals have h:decide (n<0)=false:=h
 ·have h2:decide (65536<n)=true:=h2;exact qdz (by unfold decV;rw[h,h2])
 all_goals have h2:decide (65536<n)=false:=h2
 ·have h3:ezV b=true:=h3;exact qdz (by unfold decV;rw[h,h2,h3])
 ·have h3:ezV b=false:=h3;have q1:¬ n<0:=of_decide_eq_false h;have q2:¬ 65536<n:=of_decide_eq_false h2;refine ⟨trivial,by omega,Int.le_refl _,by omega,by omega,?_⟩;have hv:decV false b n=resD (dcF false n.toNat [] (rdF 4 (b,0)).1 (rdF 4 (b,0)).2 4294967295 c1L 256):=by
   unfold decV resD;rw[h,h2,h3]
  have g:=qwi (m:=m) (n:=n.toNat) (by omega) n.toNat 0 [] _ c1L _ _ 256 (Nat.sub_zero _) (Nat.zero_le _) rfl qgm ⟨by decide,by decide⟩ hv;rw[List.nil_append] at g;exact g.onlyR [(88,1069632),(90,1143360)] rfl ⟨rfl,rfl,by rw[List.length_replicate];rfl,rfl,rfl,trivial⟩ ⟨rfl,rfl,rfl,trivial⟩
theorem qwh {m:Int} {b:List Int} {z:Int} {n:Nat} (hn:n<=65536):∀ (k i:Nat) (d l c:List Int) (v w t:Int),n-i=k->i<=n->d.length=i->qa7 c t->WOK w->decV true b z=resD (dcF true k d l v w c t) ->
  GD 19 Try.f19 (QC (qs2 true 1) (m,b,z,())) (hd Try.f19 0) (dSt 119 n (d++List.replicate k 0) l c v w t i):=by
 intro k
 induction k with
 | zero=>
  intro i d l c v w t hk hi hd ht hw hv;refine qag cxD1 (qql n _ l c v w t i _ _) ?_;rw[decide_eq_false (show ¬ (i:Int)<(n:Int) by omega),bc_f];rw[dcF] at hv;refine ⟨trivial,qaj (λ h=>?_) (λ h=>?_)⟩
  ·have h:(decide (v=0)&&decide ((l.length:Int)=0))=false:=by simpa only[Bool.not_eq_true'] using h
   rw[h] at hv;exact qdz hv
  ·have h:(decide (v=0)&&decide ((l.length:Int)=0))=true:=by simpa only[Bool.not_eq_false'] using h
   rw[h] at hv;rw[List.replicate_zero,List.append_nil];exact qwd hv rfl
 | succ k ih=>
  intro i d l c v w t hk hi hd ht hw hv;refine qag cxD1 (qql n _ l c v w t i _ _) ?_;rw[decide_eq_true (show (i:Int)<(n:Int) by omega),bc_t,IntWalk.i64_in ((i:Int)+1) (by omega)];obtain ⟨p1,p2⟩:=qvc (v:=v) ht hw;obtain ⟨p2,p3⟩:=p2 l;have hl:(d++List.replicate (k+1) (0:Int)).length=n:=by rw[List.length_append,List.length_replicate];omega
  refine ⟨trivial,p1,qaj (λ h=>?_) (λ h=>⟨?_,by omega,by rw[hl];omega,by rw[hl];omega,?_⟩)⟩
  ·have h:(nxtV l c v w t).1.2=false:=by simpa using h
   rw[dcF,h] at hv;exact qdz hv
  ·have h:(nxtV l c v w t).1.2=true:=by simpa using h
   obtain ⟨x,hx,ex⟩:=p2 h;refine ⟨ht.1,?_,?_⟩
   ·show 0<=(nxtV l c v w t).1.1
    omega
   ·show (nxtV l c v w t).1.1<256
    omega
  ·have h:(nxtV l c v w t).1.2=true:=by simpa using h
   obtain ⟨x,hx,ex⟩:=p2 h;have tg:qa7 (groV c t (nxtV l c v w t).1.1).1 (groV c t (nxtV l c v w t).1.1).2:=by rw[ex];exact qj3 ht hx
   rw[dcF,h] at hv;have e:(d++List.replicate (k+1) (0:Int)).set (0+(i:Int).toNat) (nxtV l c v w t).1.1=(d++[(nxtV l c v w t).1.1])++List.replicate k 0:=by
    rw[Nat.zero_add,Int.toNat_natCast,<- hd];exact qpd
   have nx:=ih (i+1) _ _ _ _ _ _ (by omega) (by omega) (by rw[List.length_append,hd];rfl) tg p3 hv;have e2:(d++List.replicate (k+1) (0:Int)).length=((d++[(nxtV l c v w t).1.1])++List.replicate k (0:Int)).length:=by
    rw[List.append_assoc,List.length_append,List.length_append,List.length_replicate,List.length_append,List.length_replicate]
    show _=_+(1+k);omega
   rw[e,e2];exact nx.only ⟨rfl,rfl,rfl,rfl,rfl,trivial⟩ ⟨rfl,rfl,rfl,trivial⟩
theorem qyw (m:Int) (b:List Int) (n:Int) (hm:m=1) (hb:b.length<1099511627776):GD 19 Try.f19 (QC (qs2 true 1) (m,b,n,())) [.code (qah Try.f19)] (entry [iI,.sl uB,iI] (m,b,n,())):=by
 refine qag cxD1 (q04 m b n _ _) ⟨hm,qaj (λ h=>⟨rfl,rfl,?_⟩) (λ h=>qaj (λ h2=>⟨rfl,?_⟩) (λ h2=>⟨hb,qaj (λ h3=>?_) (λ h3=>?_)⟩))⟩
 ·have h:decide (n<0)=true:=h;exact qdz (by unfold decV;rw[h])
 all_goals have h:decide (n<0)=false:=h
 ·have h2:decide (65536<n)=true:=h2;exact qdz (by unfold decV;rw[h,h2])
 all_goals have h2:decide (65536<n)=false:=h2
 ·have h3:ezV b=true:=h3;exact qdz (by unfold decV;rw[h,h2,h3])
 ·have h3:ezV b=false:=h3;have q1:¬ n<0:=of_decide_eq_false h;have q2:¬ 65536<n:=of_decide_eq_false h2;refine ⟨trivial,by omega,Int.le_refl _,by omega,by omega,?_⟩;have hv:decV true b n=resD (dcF true n.toNat [] (rdF 4 (b,0)).1 (rdF 4 (b,0)).2 4294967295 c1L 256):=by
   unfold decV resD;rw[h,h2,h3]
  have g:=qwh (m:=m) (n:=n.toNat) (by omega) n.toNat 0 [] _ c1L _ _ 256 (Nat.sub_zero _) (Nat.zero_le _) rfl qgm ⟨by decide,by decide⟩ hv;rw[List.nil_append] at g;exact g.onlyR [(88,1069632),(90,1143360)] rfl ⟨rfl,rfl,by rw[List.length_replicate];rfl,rfl,rfl,trivial⟩ ⟨rfl,rfl,rfl,trivial⟩
abbrev ttO:TT:=match lk tt 129 with
 | some i=>(129,i)::tt
 | none=>tt
set_option maxRecDepth 100000
theorem q0p (l:List Int) (lo w:Int) (Q:QT) (R:RT):sy ttO G0 [] Try.f68.ntmps Try.f68.results.toList Q R 1000 [.code (qah Try.f68)] (qav [.ptr KW] ((l,lo,w,()),())) =
  ((0:Int)<=24/\(0:Nat)+1<=((List.replicate (1:Nat) uB.dflt).set (0:Nat) (u8.wrap (lo.fdiv ((2:Int) ^ min (Int.toNat (24:Int)) u32.bits)))).length/\l.length=l.length/\(0:Nat)=(0:Nat)/\l.length+(winL ((λ self=>self.6) (mkT (1:Nat) (1:Nat) false (TK.int u8) uB none)) (0:Nat) (1:Nat) ((List.replicate (1:Nat) uB.dflt).set (0:Nat) (u8.wrap (lo.fdiv ((2:Int) ^ min (Int.toNat (24:Int)) u32.bits))))).length<2 ^ 30/\(1:Nat)<=2 ^ 10/\(0:Int)<=8/\Q [] [(13,.row 5 uB ((List.replicate (1:Nat) uB.dflt).set (0:Nat) (u8.wrap (lo.fdiv ((2:Int) ^ min (Int.toNat (24:Int)) u32.bits))))),(14,.row 5 uB (l++winL uB 0 1 ((List.replicate (1:Nat) uB.dflt).set (0:Nat) (u8.wrap (lo.fdiv ((2:Int) ^ min (Int.toNat (24:Int)) u32.bits)))))),(1099511627776,.var [.win true uB 14 0 (l.length+(winL ((λ self=>self.6) (mkT (1:Nat) (1:Nat) false (TK.int u8) uB none)) (0:Nat) (1:Nat) ((List.replicate (1:Nat) uB.dflt).set (0:Nat) (u8.wrap (lo.fdiv ((2:Int) ^ min (Int.toNat (24:Int)) u32.bits))))).length),.int .u32 (u32.wrap (lo*(2:Int) ^ min (Int.toNat (8:Int)) u32.bits)),.int .u32 w])]):=by kernel_rfl
theorem qw9 (l:List Value) (j:Nat) (b:Int) (Q:QT) (R:RT):sy ttO G0 C3T Try.f112.ntmps Try.f112.results.toList Q R 1000 [.code (qah Try.f112)] (qav [KC0] ((((l,j),()),b,()),())) =
  ((0:Int)<=b/\b<(↑(256:Nat):Int)/\b.toNat<256/\b.toNat=j/\ctNT.pre ()/\(0:Int)<=b/\b<(↑(256:Nat):Int)/\b.toNat<256/\b.toNat=j/\(0:Int)<=b/\b<(↑(256:Nat):Int)/\b.toNat<256/\b.toNat=j/\Q [.ptr 1073728 0] [(1073728,.var [.arr (256:Nat) u4 c1L,.int .u32 256]),(1099511627776,.var [SV.pta (256:Nat) l j [.ptr 1073728 0],.int .u8 b])]):=by kernel_rfl
theorem q48 {tt:TT} {a:Nat} {ti:TI} (h:lk tt a=some ti) (t:Nat):lk ((a,ti)::tt) t=lk tt t:=by
 simp only[lk];split
 next e=>subst e;exact h.symm
 ·rfl
theorem qev:∀ t,lk ttO t=lk tt t:=by
 intro t;unfold ttO;split
 next ti h=>exact q48 h t
 ·rfl
theorem cxO0:CxOK Try.prog ttO G0 []:=cx0.tab qev
def wshL (l:List Int) (lo:Int):List Int:=l++[IntKind.u8.wrap (lo.fdiv (2 ^ 24))]
abbrev wrV (a n:Nat) (lo w:Int):LB:=.var [.win true uB a 0 n,.int .u32 lo,.int .u32 w]
def ctWsh:CtrI:=⟨[.ptr KW],λ x=>List.length x.1.1<1000000000,λ _=>[],λ x=>[(BIG,wrV 0 (wshL x.1.1 x.1.2.1).length (IntKind.u32.wrap (x.1.2.1*2 ^ 8)) x.1.2.2.1),(0,.row 5 uB (wshL x.1.1 x.1.2.1))]⟩
theorem q3h {ct:CtrI} {x:DI ct.args} {a:Nat} (ha:a<BIG) {g:List Int} {n:Nat} {lo w:Int} (hn:n=g.length) {blk:List (Nat × LB)} (ho:ct.out x=[]) (hb:ct.blk x=[(BIG,wrV 0 g.length lo w),(0,.row 5 uB g)]) (h1:lk blk BIG=some (wrV a n lo w)) (h2:lk blk a=some (.row 5 uB g)):QI ct x [] blk:=by
 subst hn;have p0:piOf [(0,a)] 0=some a:=rfl;have pB:piOf [(0,a)] BIG=some BIG:=by
  show (match decide (BIG<=BIG) with | true=>some BIG | false=>lk [(0,a)] BIG)=some BIG
  rw[decide_eq_true (Nat.le_refl _)]
 refine ⟨[(0,a)],by rw[ho];exact rfl,?_,by simp,λ p hp=>?_⟩
 ·rw[hb];refine ⟨.inl ⟨BIG,_,pB,h1,?_⟩,.inl ⟨a,_,p0,h2,rfl⟩,trivial⟩;exact ⟨_,rfl,_,_,rfl,.inl ⟨true,a,rfl,p0,λ _=>rfl⟩,_,_,rfl,rfl,_,_,rfl,rfl,rfl⟩
 ·simp only[List.mem_cons,List.not_mem_nil,or_false] at hp;subst hp;exact ha
theorem qqe:HeldI Try.prog G0 68 ctWsh:=HeldI.of cxO0 (fn:=Try.f68) rfl rfl ⟨by decide,by decide⟩ λ ⟨⟨l,lo,w,_⟩,_⟩ hp=>by
 have hp:l.length<1000000000:=hp;refine qbf cxO0 (q0p l lo w _ _) ⟨by decide,Nat.le_refl 1,rfl,rfl,?_,by decide,by decide,?_⟩
 ·show l.length+1<1073741824
  omega
 ·exact q3h (a:=14) (g:=wshL l lo) (by decide) (by show l.length+1=(l++[_]).length;rw[List.length_append];rfl) rfl rfl rfl rfl
theorem q5i:CxOK Try.prog ttO G0 C3T:=cx3T.tab qev
theorem qk0:HeldI Try.prog G0 112 ctChT0:=HeldI.of q5i (fn:=Try.f112) rfl rfl ⟨by decide,by decide⟩ λ ⟨⟨⟨⟨l,j⟩,_⟩,b,_⟩,_⟩ hp=>by
 obtain ⟨rfl,hj⟩:b=(j:Int)/\j<256:=hp;refine qbf q5i (qw9 l j (j:Int) _ _) ⟨by omega,by omega,by omega,by omega,trivial,by omega,by omega,by omega,by omega,by omega,by omega,by omega,by omega,?_⟩;have p0:∀ a,piOf [(0,a)] 0=some a:=λ _=>rfl
 have pB:∀ a,piOf [(0,a)] BIG=some BIG:=λ a=>by
  show (match decide (BIG<=BIG) with | true=>some BIG | false=>lk [(0,a)] BIG)=some BIG
  rw[decide_eq_true (Nat.le_refl _)]
 refine ⟨[(0,1073728)],⟨_,_,rfl,⟨_,rfl,p0 _⟩,rfl⟩,⟨.inl ⟨_,_,p0 _,rfl,_,rfl,qbt _ _ rfl⟩,.inl ⟨BIG,_,pB _,rfl,_,rfl,?_⟩,trivial⟩,by simp,λ p hp=>?_⟩
 ·exact ⟨_,_,rfl,⟨_,rfl,_,_,rfl,⟨_,rfl,p0 _⟩,rfl⟩,_,_,rfl,rfl,rfl⟩
 ·rw[List.mem_singleton] at hp;subst hp;decide
def carF (l:List Int):Nat->List Int
 | 0=>l
 | n+1=>match decide (u8.wrap (gtB l n+1)≠0) with
  | true=>l.set n (u8.wrap (gtB l n+1))
  | false=>carF (l.set n (u8.wrap (gtB l n+1))) n
def ctWca:CtrI:=⟨[.ptr KW],λ x=>List.length x.1.1<1000000000,λ _=>[],λ x=>[(BIG,wrV (BIG+1) (List.length x.1.1) x.1.2.1 x.1.2.2.1),(BIG+1,.row 5 uB (carF x.1.1 (List.length x.1.1)))]⟩
def CPu:CV:=[(66,.inr ctBef),(67,.inr ctWca),(68,.inr ctWsh)]
def CCo:CV:=[(68,.inr ctWsh),(40,.inl ctEz)]
set_option maxRecDepth 100000
theorem q3k (l:List Int) (lo w:Int) (Q:QT) (R:RT):sA [] Try.f67 Q (λ it S=>R it (qar [0,2] [BIG,BIG+1] S)) [.code (qah Try.f67)] (qav [.ptr KW] ((l,lo,w,()),())) =
  (R (hd Try.f67 0) { env:=[(0,.ptr 1099511627776 0),(2,.i (i64.wrap ((l.length:Int)-1)))],blk:=[(1099511627776,.var [.win true uB 1099511627777 0 l.length,.int .u32 lo,.int .u32 w]),(1099511627777,.row 5 uB l)] }):=by kernel_rfl
theorem qtd (l:List Int) (lo w i:Int) (Q:QT) (R:RT):sA [] Try.f67 Q (λ it S=>R it (qar [0,2] [BIG,BIG+1] S)) (hd Try.f67 0) ⟨[(0,.ptr BIG 0),(2,.i i)],[(BIG,wrV (BIG+1) l.length lo w),(BIG+1,.row 5 uB l)]⟩ =
  (bc (decide ((0:Int)<=i)) ((0:Int)<=i/\i<(l.length:Int)/\(0:Nat)+i.toNat<l.length/\(0:Int)<=i/\i<(l.length:Int)/\(0:Nat)+i.toNat<l.length/\(0:Int)<=i/\i<(l.length:Int)/\(0:Nat)+i.toNat<(l.set ((0:Nat)+i.toNat) (u8.wrap (gt uB l ((0:Nat)+i.toNat)+1))).length/\bc (decide (gt uB (l.set ((0:Nat)+i.toNat) (u8.wrap (gt uB l ((0:Nat)+i.toNat)+1))) ((0:Nat)+i.toNat)≠0)) (Q [] [(1099511627776,.var [.win true uB 1099511627777 0 l.length,.int .u32 lo,.int .u32 w]),(1099511627777,.row 5 uB (l.set ((0:Nat)+i.toNat) (u8.wrap (gt uB l ((0:Nat)+i.toNat)+1))))]) (R (hd Try.f67 0) { env:=[(0,.ptr 1099511627776 0),(2,.i (i64.wrap (i-1)))],blk:=[(1099511627776,.var [.win true uB 1099511627777 0 l.length,.int .u32 lo,.int .u32 w]),(1099511627777,.row 5 uB (l.set ((0:Nat)+i.toNat) (u8.wrap (gt uB l ((0:Nat)+i.toNat)+1))))] })) (Q [] [(1099511627776,.var [.win true uB 1099511627777 0 l.length,.int .u32 lo,.int .u32 w]),(1099511627777,.row 5 uB l)])):=by kernel_rfl
theorem q3y (l c:List Int) (lo w t b:Int) (Q:QT) (R:RT):sA CPu Try.f38 Q (λ it S=>R it (qar [0] [14,66,1225280,BIG,BIG+1,BIG+2] S)) [.code (qah Try.f38)] (qav [.ptr KW,.dat uB,TBk] ((l,lo,w,()),b,(c,t,()),())) =
  (t≠0/\ctBef.pre ((c,t,()),b,())/\bc (decide (u32.wrap (lo+u32.wrap (u32.wrap (w.tdiv t)*befF c b.toNat))<u32.wrap (u32.wrap (w.tdiv t)*befF c b.toNat))) (l.length=l.length/\ctWca.pre ((l,u32.wrap (lo+u32.wrap (u32.wrap (w.tdiv t)*befF c b.toNat)),w,()),())/\(0:Int)<=b/\b<(↑(256:Nat):Int)/\b.toNat<256/\R (hd Try.f38 0) { env:=[(0,.ptr 1099511627776 0)],blk:=[(1099511627776,.var [.win true uB 1099511627777 0 l.length,.int .u32 (u32.wrap (lo+u32.wrap (u32.wrap (w.tdiv t)*befF c b.toNat))),.int .u32 (u32.wrap (u32.wrap (w.tdiv t)*gt u4 c b.toNat))]),(1099511627777,.row 5 uB (carF l l.length)),(1099511627778,.var [.arr (256:Nat) u4 c,.int .u32 t])] }) ((0:Int)<=b/\b<(↑(256:Nat):Int)/\b.toNat<256/\R (hd Try.f38 0) { env:=[(0,.ptr 1099511627776 0)],blk:=[(1099511627776,.var [.win true uB 1099511627777 0 l.length,.int .u32 (u32.wrap (lo+u32.wrap (u32.wrap (w.tdiv t)*befF c b.toNat))),.int .u32 (u32.wrap (u32.wrap (w.tdiv t)*gt u4 c b.toNat))]),(1099511627777,.row 5 uB l),(1099511627778,.var [.arr (256:Nat) u4 c,.int .u32 t])] })):=by kernel_rfl
theorem qtp (l c:List Int) (lo w t:Int) (Q:QT) (R:RT):sA CPu Try.f38 Q (λ it S=>R it (qar [0] [14,66,1225280,BIG,BIG+1,BIG+2] S)) (hd Try.f38 0) ⟨[(0,.ptr BIG 0)],[(BIG,wrV (BIG+1) l.length lo w),(BIG+1,.row 5 uB l),(BIG+2,tbV c t)]⟩ =
  (bc (decide (w<16777216)) (l.length=l.length/\ctWsh.pre ((l,lo,w,()),())/\(0:Int)<=8/\R (hd Try.f38 0) { env:=[(0,.ptr 1099511627776 0)],blk:=[(1225280,.row 5 uB (wshL l lo)),(1099511627776,.var [.win true uB 1225280 0 (wshL l lo).length,.int .u32 (u32.wrap (lo*(2:Int) ^ 8)),.int .u32 (u32.wrap (w*(2:Int) ^ min (Int.toNat (8:Int)) u32.bits))]),(1099511627778,.var [.arr (256:Nat) u4 c,.int .u32 t])] }) (Q [] [(1099511627776,.var [.win true uB 1099511627777 0 l.length,.int .u32 lo,.int .u32 w]),(1099511627777,.row 5 uB l),(1099511627778,.var [.arr (256:Nat) u4 c,.int .u32 t])])):=by kernel_rfl
theorem qto (l c:List Int) (lo w t:Int) (Q:QT) (R:RT):sA CPu Try.f38 Q (λ it S=>R it (qar [0] [14,66,1225280,BIG,BIG+1,BIG+2] S)) (hd Try.f38 0) ⟨[(0,.ptr BIG 0)],[(66,.row 5 uB l),(BIG,wrV 66 l.length lo w),(BIG+2,tbV c t)]⟩ =
  (bc (decide (w<16777216)) (l.length=l.length/\ctWsh.pre ((l,lo,w,()),())/\(0:Int)<=8/\R (hd Try.f38 0) { env:=[(0,.ptr 1099511627776 0)],blk:=[(1225280,.row 5 uB (wshL l lo)),(1099511627776,.var [.win true uB 1225280 0 (wshL l lo).length,.int .u32 (u32.wrap (lo*(2:Int) ^ 8)),.int .u32 (u32.wrap (w*(2:Int) ^ min (Int.toNat (8:Int)) u32.bits))]),(1099511627778,.var [.arr (256:Nat) u4 c,.int .u32 t])] }) (Q [] [(66,.row 5 uB l),(1099511627776,.var [.win true uB 66 0 l.length,.int .u32 lo,.int .u32 w]),(1099511627778,.var [.arr (256:Nat) u4 c,.int .u32 t])])):=by kernel_rfl
theorem q3j (l:List Int) (lo w:Int) (Q:QT) (R:RT):sA CCo Try.f39 Q (λ it S=>R it (qar [0,2,4] [66,1028672,BIG,BIG+1] S)) [.code (qah Try.f39)] (qav [.ptr KW] ((l,lo,w,()),())) =
  (R (hd Try.f39 0) { env:=[(0,.ptr 1099511627776 0),(2,.nils),(4,.i 0)],blk:=[(1099511627776,.var [.win true uB 1099511627777 0 l.length,.int .u32 lo,.int .u32 w]),(1099511627777,.row 5 uB l)] }):=by kernel_rfl
theorem q0q (l:List Int) (lo w:Int) (i:Nat) (Q:QT) (R:RT):sA CCo Try.f39 Q (λ it S=>R it (qar [0,2,4] [66,1028672,BIG,BIG+1] S)) (hd Try.f39 0) ⟨[(0,.ptr BIG 0),(2,.nils),(4,.i (i:Nat))],[(BIG,wrV (BIG+1) l.length lo w),(BIG+1,.row 5 uB l)]⟩ =
  (bc (decide ((i:Int)<4)) (l.length=l.length/\ctWsh.pre ((l,lo,w,()),())/\R (hd Try.f39 0) { env:=[(0,.ptr 1099511627776 0),(2,.nils),(4,.i (i64.wrap ((i:Int)+1)))],blk:=[(1028672,.row 5 uB (wshL l lo)),(1099511627776,.var [.win true uB 1028672 0 (wshL l lo).length,.int .u32 (u32.wrap (lo*(2:Int) ^ 8)),.int .u32 w])] }) (R (hd Try.f39 1) { env:=[(0,.ptr 1099511627776 0),(2,.nils),(4,.i (i:Int))],blk:=[(1099511627776,.var [.win true uB 1099511627777 0 l.length,.int .u32 lo,.int .u32 w]),(1099511627777,.row 5 uB l)] })):=by kernel_rfl
theorem qi1 {l:List Int} {i:Nat} (h:i<l.length):gtB l i=l[i]:=by show (l[i]?).getD _=_;rw[List.getElem?_eq_getElem h];rfl
theorem qh0:∀ (n:Nat) (l:List Int),(carF l n).length=l.length
 | 0,_=>rfl
 | n+1,l=>by
  rw[carF];split
  ·rw[List.length_set]
  ·rw[qh0 n,List.length_set]
theorem qw5 {l0:List Int} {lo w:Int}:∀ (n:Nat) (l:List Int),n<=l.length->l.length=l0.length->l.length<1000000000->carF l n=carF l0 l0.length ->
  GD 67 Try.f67 (QI ctWca ((l0,lo,w,()),())) (hd Try.f67 0) ⟨[(0,.ptr BIG 0),(2,.i ((n:Int)-1))],[(BIG,wrV (BIG+1) l.length lo w),(BIG+1,.row 5 uB l)]⟩:=by
 have fin:∀ (l:List Int),l.length=l0.length->l=carF l0 l0.length->QI ctWca ((l0,lo,w,()),()) [] [(BIG,wrV (BIG+1) l.length lo w),(BIG+1,.row 5 uB l)]:=λ l hl hv=>by
  refine QI.self rfl rfl rfl (lk2 ?_ ?_)
  ·show some (wrV (BIG+1) l.length lo w)=some (wrV (BIG+1) l0.length lo w)
   rw[hl]
  ·show some (LB.row 5 uB l)=some (.row 5 uB (carF l0 l0.length))
   rw[hv]
 intro n
 induction n with
 | zero=>
  intro l hn hl hL hv;refine qag cx0 (qtd l lo w _ _ _) ?_;rw[decide_eq_false (by omega),bc_f];exact fin l hl hv
 | succ n ih=>
  intro l hn hl hL hv;refine qag cx0 (qtd l lo w _ _ _) ?_;have e0:((n+1:Nat):Int)-1=(n:Int):=by omega
  rw[e0,decide_eq_true (by omega),bc_t,IntWalk.i64_in ((n:Int)-1) (by omega)];simp only[Int.toNat_natCast,Nat.zero_add];have hnl:n<l.length:=hn;have e1:gt uB (l.set n (IntKind.u8.wrap (gt uB l n+1))) n=IntKind.u8.wrap (gtB l n+1):=by
   show gtB (l.set n (IntKind.u8.wrap (gtB l n+1))) n=_
   rw[qi1 (by rw[List.length_set];exact hnl),List.getElem_set_self]
  rw[e1];rw[carF] at hv;refine ⟨by omega,by omega,hnl,by omega,by omega,hnl,by omega,by omega,by rw[List.length_set];exact hnl,qaj (λ h=>?_) (λ h=>?_)⟩
  ·rw[h] at hv;have:=fin (l.set n (IntKind.u8.wrap (gtB l n+1))) (by rw[List.length_set];exact hl) hv;rw[List.length_set] at this;exact this
  ·rw[h] at hv;have:=ih (l.set n (IntKind.u8.wrap (gtB l n+1))) (by rw[List.length_set];omega) (by rw[List.length_set];exact hl) (by rw[List.length_set];exact hL) hv;rw[List.length_set] at this;exact this.only ⟨rfl,rfl,trivial⟩ ⟨rfl,rfl,trivial⟩
theorem qw6:HeldI Try.prog G0 67 ctWca:=HeldI.of cx0 (fn:=Try.f67) rfl rfl ⟨by decide,by decide⟩ λ ⟨⟨l,lo,w,_⟩,_⟩ hp=>by
 have hp:l.length<1000000000:=hp;refine qag cx0 (q3k l lo w _ _) ?_;have g:=qw5 (l0:=l) (lo:=lo) (w:=w) l.length l (Nat.le_refl _) rfl hp rfl;rw[IntWalk.i64_in ((l.length:Int)-1) (by omega)];exact g.only ⟨rfl,rfl,trivial⟩ ⟨rfl,rfl,trivial⟩
def qoc (c:List Int) (w t b:Int):Int:=u32.wrap (uniV w t*befF c b.toNat)
def lowV (c:List Int) (lo w t b:Int):Int:=u32.wrap (lo+qoc c w t b)
def qa6 (l c:List Int) (lo w t b:Int):List Int:=match decide (lowV c lo w t b<qoc c w t b) with
 | true=>carF l l.length
 | false=>l
def wid2 (c:List Int) (w t b:Int):Int:=u32.wrap (uniV w t*gtU c b.toNat)
def putF:Nat->List Int->Int->Int->List Int × Int × Int
 | 0,l,lo,w=>(l,lo,w)
 | f+1,l,lo,w=>match decide (w<16777216) with
  | true=>putF f (wshL l lo) (u32.wrap (lo*2 ^ 8)) (u32.wrap (w*2 ^ 8))
  | false=>(l,lo,w)
def putV (l c:List Int) (lo w t b:Int):List Int × Int × Int:=putF 4 (qa6 l c lo w t b) (lowV c lo w t b) (wid2 c w t b)
abbrev KPu:List AK:=[.ptr KW,.dat uB,TBk]
def qis (l:List Int) (t b:Int):Prop:=t≠0/\(0<=b/\b<256)/\l.length<100000000
def ctPut0:CtrI:=⟨KPu,λ x=>qis x.1.1 x.2.2.1.2.1 x.2.1/\¬ wid2 x.2.2.1.1 x.1.2.2.1 x.2.2.1.2.1 x.2.1<16777216,λ _=>[],λ x=>[(BIG,wrV (BIG+1) (qa6 x.1.1 x.2.2.1.1 x.1.2.1 x.1.2.2.1 x.2.2.1.2.1 x.2.1).length (lowV x.2.2.1.1 x.1.2.1 x.1.2.2.1 x.2.2.1.2.1 x.2.1) (wid2 x.2.2.1.1 x.1.2.2.1 x.2.2.1.2.1 x.2.1)),(BIG+1,.row 5 uB (qa6 x.1.1 x.2.2.1.1 x.1.2.1 x.1.2.2.1 x.2.2.1.2.1 x.2.1)),(BIG+2,tbV x.2.2.1.1 x.2.2.1.2.1)]⟩
def ctPut1:CtrI:=⟨KPu,λ x=>qis x.1.1 x.2.2.1.2.1 x.2.1/\wid2 x.2.2.1.1 x.1.2.2.1 x.2.2.1.2.1 x.2.1<16777216/\qob 4 (wid2 x.2.2.1.1 x.1.2.2.1 x.2.2.1.2.1 x.2.1),λ _=>[],λ x=>[(BIG,wrV 0 (putV x.1.1 x.2.2.1.1 x.1.2.1 x.1.2.2.1 x.2.2.1.2.1 x.2.1).1.length (putV x.1.1 x.2.2.1.1 x.1.2.1 x.1.2.2.1 x.2.2.1.2.1 x.2.1).2.1 (putV x.1.1 x.2.2.1.1 x.1.2.1 x.1.2.2.1 x.2.2.1.2.1 x.2.1).2.2),(0,.row 5 uB (putV x.1.1 x.2.2.1.1 x.1.2.1 x.1.2.2.1 x.2.2.1.2.1 x.2.1).1),(BIG+2,tbV x.2.2.1.1 x.2.2.1.2.1)]⟩
theorem cxPu:CxOK Try.prog tt G0 CPu:=((cx0.consI qqe (fn:=Try.f68) rfl rfl rfl).consI qw6 (fn:=Try.f67) rfl rfl rfl).consI qy2 (fn:=Try.f66) rfl rfl rfl
theorem lk3 {P:Nat × LB->Prop} {a b c:Nat} {x y z:LB} (h:P (a,x)) (h2:P (b,y)) (h3:P (c,z)):∀ p∈[(a,x),(b,y),(c,z)],P p:=λ p hp=>by
 simp only[List.mem_cons,List.not_mem_nil,or_false] at hp;rcases hp with hp | hp | hp
 ·rw[hp];exact h
 ·rw[hp];exact h2
 ·rw[hp];exact h3
theorem qe9 (l c:List Int) (lo w t b:Int):(qa6 l c lo w t b).length=l.length:=by
 unfold qa6;split
 ·exact qh0 _ _
 ·rfl
theorem qn5 {Q:List SV->List (Nat × LB)->Prop} {l c:List Int} {lo w t b:Int} (hp:qis l t b)
  (g:GD 38 Try.f38 Q (hd Try.f38 0) ⟨[(0,.ptr BIG 0)],[(BIG,wrV (BIG+1) (qa6 l c lo w t b).length (lowV c lo w t b) (wid2 c w t b)),(BIG+1,.row 5 uB (qa6 l c lo w t b)),(BIG+2,tbV c t)]⟩) :
  GD 38 Try.f38 Q [.code (qah Try.f38)] (qav KPu ((l,lo,w,()),b,(c,t,()),())):=by
 obtain ⟨h1,⟨h2,h3⟩,h4⟩:=hp;have hb:b.toNat<256:=by omega
 refine qag cxPu (q3y l c lo w t b _ _) ⟨h1,⟨h2,h3⟩,qaj (λ h=>⟨rfl,(show l.length<1000000000 by omega),h2,h3,hb,?_⟩) (λ h=>⟨h2,h3,hb,?_⟩)⟩
 ·have e:qa6 l c lo w t b=carF l l.length:=by unfold qa6;rw[show decide (lowV c lo w t b<qoc c w t b)=true from h]
  rw[e,qh0] at g;exact g.only ⟨rfl,trivial⟩ ⟨rfl,rfl,rfl,trivial⟩
 ·have e:qa6 l c lo w t b=l:=by unfold qa6;rw[show decide (lowV c lo w t b<qoc c w t b)=false from h]
  rw[e] at g;exact g.only ⟨rfl,trivial⟩ ⟨rfl,rfl,rfl,trivial⟩
theorem qfa:HeldI Try.prog G0 38 ctPut0:=HeldI.of cxPu (fn:=Try.f38) rfl rfl ⟨by decide,by decide⟩ λ ⟨⟨l,lo,w,_⟩,b,⟨c,t,_⟩,_⟩ hp=>by
 obtain ⟨hp,hw⟩:qis l t b/\¬ wid2 c w t b<16777216:=hp;refine qn5 hp ?_;refine qag cxPu (qtp _ c _ _ t _ _) ?_;rw[decide_eq_false hw,bc_f];exact QI.self rfl rfl rfl (lk3 rfl rfl rfl)
theorem quy {l c:List Int} {lo w t b:Int} {V:List Int × Int × Int} (hv:putV l c lo w t b=V) {a n:Nat} (ha:a<BIG) (hn:n=V.1.length) {blk:List (Nat × LB)} (h1:lk blk BIG=some (wrV a n V.2.1 V.2.2)) (h2:lk blk a=some (.row 5 uB V.1)) (h3:lk blk (BIG+2)=some (tbV c t)):QI ctPut1 ((l,lo,w,()),b,(c,t,()),()) [] blk:=by
 subst hn;subst hv;have p0:piOf [(0,a)] 0=some a:=rfl;have pB:∀ i,BIG<=i->piOf [(0,a)] i=some i:=λ i hi=>by
  unfold piOf;rw[decide_eq_true hi]
 refine ⟨[(0,a)],rfl,⟨.inl ⟨BIG,_,pB _ (Nat.le_refl _),h1,?_⟩,.inl ⟨a,_,p0,h2,rfl⟩,.inl ⟨BIG+2,_,pB _ (by omega),h3,_,rfl,qbt _ _ rfl⟩,trivial⟩,by simp,λ p hp=>?_⟩
 ·exact ⟨_,rfl,_,_,rfl,.inl ⟨true,a,rfl,p0,λ _=>rfl⟩,_,_,rfl,rfl,_,_,rfl,rfl,rfl⟩
 ·rw[List.mem_singleton] at hp;subst hp;exact ha
theorem quz {l0 c:List Int} {lo0 w0 t b:Int}:∀ (f:Nat) (l:List Int) (lo w:Int),qob f w->l.length+f<200000000->putV l0 c lo0 w0 t b=putF f l lo w ->
  GD 38 Try.f38 (QI ctPut1 ((l0,lo0,w0,()),b,(c,t,()),())) (hd Try.f38 0) ⟨[(0,.ptr BIG 0)],[(66,.row 5 uB l),(BIG,wrV 66 l.length lo w),(BIG+2,tbV c t)]⟩:=by
 intro f
 induction f with
 | zero=>
  intro l lo w ho hl hv;have ho:¬ w<16777216:=ho;refine qag cxPu (qto l c lo w t _ _) ?_;rw[decide_eq_false ho,bc_f];exact quy (V:=(l,lo,w)) hv (a:=66) (by decide) rfl rfl rfl rfl
 | succ f ih=>
  intro l lo w ho hl hv;refine qag cxPu (qto l c lo w t _ _) (qaj (λ h=>⟨rfl,(show l.length<1000000000 by omega),by decide,?_⟩) (λ h=>?_))
  ·have h2:w<16777216:=of_decide_eq_true h;rw[putF,h] at hv;have hL:(wshL l lo).length=l.length+1:=by show (l++[_]).length=_;rw[List.length_append];rfl
   have nx:=ih _ _ _ (ho h2) (by rw[hL];omega) hv;exact nx.onlyR [(66,1225280)] rfl ⟨rfl,trivial⟩ ⟨rfl,rfl,rfl,trivial⟩
  ·rw[putF,h] at hv;exact quy (V:=(l,lo,w)) hv (a:=66) (by decide) rfl rfl rfl rfl
theorem qhg:HeldI Try.prog G0 38 ctPut1:=HeldI.of cxPu (fn:=Try.f38) rfl rfl ⟨by decide,by decide⟩ λ ⟨⟨l,lo,w,_⟩,b,⟨c,t,_⟩,_⟩ hp=>by
 obtain ⟨hp,hw,hn⟩:qis l t b/\wid2 c w t b<16777216/\qob 4 (wid2 c w t b):=hp;have h4:=hp.2.2;have hL:=qe9 l c lo w t b;refine qn5 hp ?_;have hv:putV l c lo w t b=putF 3 (wshL (qa6 l c lo w t b) (lowV c lo w t b)) (u32.wrap (lowV c lo w t b*2 ^ 8)) (u32.wrap (wid2 c w t b*2 ^ 8)):=by
  unfold putV;rw[putF,decide_eq_true hw]
 generalize qa6 l c lo w t b=l' at *;generalize lowV c lo w t b=lo' at *;generalize wid2 c w t b=w' at *;refine qag cxPu (qtp l' c lo' w' t _ _) ?_;rw[decide_eq_true hw,bc_t];have hS:(wshL l' lo').length=l'.length+1:=by show (l'++[_]).length=_;rw[List.length_append];rfl
 refine ⟨rfl,(show l'.length<1000000000 by omega),by decide,?_⟩;exact (quz 3 _ _ _ (hn hw) (by rw[hS];omega) hv).onlyR [(66,1225280)] rfl ⟨rfl,trivial⟩ ⟨rfl,rfl,rfl,trivial⟩
theorem qtb (l:List Int) (lo w:Int) (i:Nat) (Q:QT) (R:RT):sA CCo Try.f39 Q (λ it S=>R it (qar [0,2,3,4] [14,66,1028672,BIG,BIG+1] S)) (hd Try.f39 0) ⟨[(0,.ptr BIG 0),(2,.nils),(4,.i (i:Nat))],[(66,.row 5 uB l),(BIG,wrV 66 l.length lo w)]⟩ =
  (bc (decide ((i:Int)<4)) (l.length=l.length/\ctWsh.pre ((l,lo,w,()),())/\R (hd Try.f39 0) { env:=[(0,.ptr 1099511627776 0),(2,.nils),(4,.i (i64.wrap ((i:Int)+1)))],blk:=[(1028672,.row 5 uB (wshL l lo)),(1099511627776,.var [.win true uB 1028672 0 (wshL l lo).length,.int .u32 (u32.wrap (lo*(2:Int) ^ 8)),.int .u32 w])] }) (R (hd Try.f39 1) { env:=[(0,.ptr 1099511627776 0),(2,.nils),(3,.win true uB 66 0 l.length),(4,.i (i:Int))],blk:=[(66,.row 5 uB l),(1099511627776,.var [.win true uB 66 0 l.length,.int .u32 lo,.int .u32 w])] })):=by kernel_rfl
theorem q0r (l:List Int) (lo w:Int) (n:Nat) (Q:QT) (R:RT):sA CCo Try.f39 Q (λ it S=>R it (qar [0,2,3,4] [14,66,1028672,BIG,BIG+1] S)) (hd Try.f39 1) ⟨[(2,.nils),(3,.win true uB 66 0 n)],[(66,.row 5 uB l),(BIG,wrV 66 l.length lo w)]⟩ =
  ((0:Nat)+n<=l.length/\ctEz.pre (winL uB 0 n l,())/\bc (ezV (winL uB 0 n l)) ((0:Int)<=i64.wrap ((n:Int)-1)/\i64.wrap ((n:Int)-1)<=(n:Int)/\(0:Nat)+n<=l.length/\R (hd Try.f39 1) { env:=[(2,.nils),(3,.win false uB 66 0 ((i64.wrap ((n:Int)-1)).toNat-0))],blk:=[(66,.row 5 uB l),(1099511627776,.var [.win true uB 66 0 l.length,.int .u32 lo,.int .u32 w])] }) (Q [.win true uB 66 0 n] [(66,.row 5 uB l),(1099511627776,.var [.win true uB 66 0 l.length,.int .u32 lo,.int .u32 w])])):=by kernel_rfl
theorem qtc (l:List Int) (lo w:Int) (n:Nat) (Q:QT) (R:RT):sA CCo Try.f39 Q (λ it S=>R it (qar [0,2,3,4] [14,66,1028672,BIG,BIG+1] S)) (hd Try.f39 1) ⟨[(2,.nils),(3,.win false uB 66 0 n)],[(66,.row 5 uB l),(BIG,wrV 66 l.length lo w)]⟩ =
  ((0:Nat)+n<=l.length/\ctEz.pre (winL uB 0 n l,())/\bc (ezV (winL uB 0 n l)) ((0:Int)<=i64.wrap ((n:Int)-1)/\i64.wrap ((n:Int)-1)<=(n:Int)/\(0:Nat)+n<=l.length/\R (hd Try.f39 1) { env:=[(2,.nils),(3,.win false uB 66 0 ((i64.wrap ((n:Int)-1)).toNat-0))],blk:=[(66,.row 5 uB l),(1099511627776,.var [.win true uB 66 0 l.length,.int .u32 lo,.int .u32 w])] }) (Q [.win false uB 66 0 n] [(66,.row 5 uB l),(1099511627776,.var [.win true uB 66 0 l.length,.int .u32 lo,.int .u32 w])])):=by kernel_rfl
theorem cxCo:CxOK Try.prog tt G0 CCo:=(cx0.k qii (fn:=Try.f40)).consI qqe (fn:=Try.f68) rfl rfl rfl
def outF:Nat->List Int × Int->List Int × Int
 | 0,x=>x
 | k+1,x=>outF k (wshL x.1 x.2,IntKind.u32.wrap (x.2*2 ^ 8))
def qao (L:List Int):Nat->Nat
 | 0=>0
 | n+1=>match ezV (winL uB 0 (n+1) L) with
  | true=>qao L n
  | false=>n+1
def ctWco:CtrI:=⟨[.ptr KW],λ x=>List.length x.1.1<100000000,λ x=>[.win false uB 0 0 (qao (outF 4 (x.1.1,x.1.2.1)).1 (outF 4 (x.1.1,x.1.2.1)).1.length)],λ x=>[(BIG,wrV 0 (outF 4 (x.1.1,x.1.2.1)).1.length (outF 4 (x.1.1,x.1.2.1)).2 x.1.2.2.1),(0,.row 5 uB (outF 4 (x.1.1,x.1.2.1)).1)]⟩
abbrev GDco (l0:List Int) (lo0 w:Int) (it:List Item) (S:PS):Prop:=GD 39 Try.f39 (QI ctWco ((l0,lo0,w,()),())) it S
theorem qmc {l0 L:List Int} {lo0 lo w:Int} {r:Bool} {n:Nat} (hV:outF 4 (l0,lo0)=(L,lo)) (hn:n=qao L L.length) {blk:List (Nat × LB)} (h1:lk blk BIG=some (wrV 66 L.length lo w)) (h2:lk blk 66=some (.row 5 uB L)):QI ctWco ((l0,lo0,w,()),()) [.win r uB 66 0 n] blk:=by
 have p0:piOf [(0,66)] 0=some 66:=rfl;have pB:piOf [(0,66)] BIG=some BIG:=by
  show (match decide (BIG<=BIG) with | true=>some BIG | false=>lk [(0,66)] BIG)=some BIG
  rw[decide_eq_true (Nat.le_refl _)]
 have ho:ctWco.out ((l0,lo0,w,()),())=[.win false uB 0 0 (qao L L.length)]:=by
  show [SV.win false uB 0 0 (qao (outF 4 (l0,lo0)).1 (outF 4 (l0,lo0)).1.length)]=_
  rw[hV]
 have hb:ctWco.blk ((l0,lo0,w,()),())=[(BIG,wrV 0 L.length lo w),(0,.row 5 uB L)]:=by
  show [(BIG,wrV 0 (outF 4 (l0,lo0)).1.length (outF 4 (l0,lo0)).2 w),(0,LB.row 5 uB (outF 4 (l0,lo0)).1)]=_
  rw[hV]
 refine ⟨[(0,66)],?_,?_,by simp,λ p hp=>?_⟩
 ·rw[ho,<- hn];exact ⟨_,_,rfl,.inl ⟨r,66,rfl,p0,λ h=>by cases h⟩,rfl⟩
 ·rw[hb];refine ⟨.inl ⟨BIG,_,pB,h1,?_⟩,.inl ⟨66,_,p0,h2,rfl⟩,trivial⟩;exact ⟨_,rfl,_,_,rfl,.inl ⟨true,66,rfl,p0,λ _=>rfl⟩,_,_,rfl,rfl,_,_,rfl,rfl,rfl⟩
 ·rw[List.mem_singleton] at hp;subst hp;decide
theorem ez_0 (L:List Int):ezV (winL uB 0 0 L)=false:=by
 have:winL uB 0 0 L=[]:=List.length_eq_zero_iff.1 (by simp[winL]);rw[this];rfl
theorem qta {l0 L:List Int} {lo0 lo w:Int} (hL:L.length<1000000000) (hV:outF 4 (l0,lo0)=(L,lo)):∀ (n:Nat),n<=L.length->qao L n=qao L L.length ->
  GDco l0 lo0 w (hd Try.f39 1) ⟨[(2,.nils),(3,.win false uB 66 0 n)],[(66,.row 5 uB L),(BIG,wrV 66 L.length lo w)]⟩:=by
 intro n
 induction n with
 | zero=>
  intro hn hs;refine qag cxCo (qtc L lo w 0 _ _) ?_;rw[ez_0,bc_f];refine ⟨by omega,(show List.length _<1099511627776 by simp[winL]),?_⟩;exact qmc hV hs rfl rfl
 | succ n ih=>
  intro hn hs;refine qag cxCo (qtc L lo w (n+1) _ _) ?_;have hw:(winL uB 0 (n+1) L).length<1099511627776:=by simp[winL];omega
  have e0:IntKind.i64.wrap (((n+1:Nat):Int)-1)=(n:Int):=by rw[IntWalk.i64_in _ (by omega)];omega
  rw[e0];refine ⟨by omega,hw,qaj (λ h=>⟨by omega,by omega,by omega,?_⟩) (λ h=>?_)⟩
  ·rw[qao,h] at hs;exact (ih (by omega) hs).only ⟨rfl,rfl,trivial⟩ ⟨rfl,rfl,trivial⟩
  ·rw[qao,h] at hs;exact qmc hV hs rfl rfl
theorem qr8 {l0 L:List Int} {lo0 lo w:Int} (hL:L.length<1000000000) (hV:outF 4 (l0,lo0)=(L,lo)) :
  GDco l0 lo0 w (hd Try.f39 1) ⟨[(2,.nils),(3,.win true uB 66 0 L.length)],[(66,.row 5 uB L),(BIG,wrV 66 L.length lo w)]⟩:=by
 refine qag cxCo (q0r L lo w L.length _ _) ?_;have hw:(winL uB 0 L.length L).length<1099511627776:=by simp[winL];omega
 cases hn:L.length with
 | zero=>
  rw[ez_0,bc_f];refine ⟨by omega,(by rw[hn] at hw;exact hw),?_⟩;exact qmc hV (by rw[hn];rfl) (by rw[hn];rfl) rfl
 | succ n=>
  have e0:IntKind.i64.wrap (((n+1:Nat):Int)-1)=(n:Int):=by rw[IntWalk.i64_in _ (by omega)];omega
  rw[e0];refine ⟨by omega,(by rw[hn] at hw;exact hw),qaj (λ h=>⟨by omega,by omega,by omega,?_⟩) (λ h=>?_)⟩
  ·have g:=qta (l0:=l0) (lo0:=lo0) (lo:=lo) (w:=w) hL hV n (by omega) (by rw[hn,qao,h]);rw[hn] at g;exact g.only ⟨rfl,rfl,trivial⟩ ⟨rfl,rfl,trivial⟩
  ·exact qmc hV (by rw[hn,qao,h]) (by rw[hn];rfl) rfl
theorem qs9 {l0:List Int} {lo0 w:Int}:∀ (k i:Nat) (l:List Int) (lo:Int),4-i=k->i<=4->l.length+k<100000010->outF k (l,lo)=outF 4 (l0,lo0) ->
  GDco l0 lo0 w (hd Try.f39 0) ⟨[(0,.ptr BIG 0),(2,.nils),(4,.i (i:Nat))],[(66,.row 5 uB l),(BIG,wrV 66 l.length lo w)]⟩:=by
 intro k
 induction k with
 | zero=>
  intro i l lo hk hi hl hv;refine qag cxCo (qtb l lo w i _ _) ?_;rw[decide_eq_false (by omega),bc_f];exact (qr8 (l0:=l0) (lo0:=lo0) (L:=l) (lo:=lo) (w:=w) (by omega) hv.symm).only ⟨rfl,rfl,trivial⟩ ⟨rfl,rfl,trivial⟩
 | succ k ih=>
  intro i l lo hk hi hl hv;refine qag cxCo (qtb l lo w i _ _) ?_;rw[decide_eq_true (show (i:Int)<4 by omega),bc_t,IntWalk.i64_in ((i:Int)+1) (by omega)];have hS:(wshL l lo).length=l.length+1:=by show (l++[_]).length=_;rw[List.length_append];rfl
  refine ⟨rfl,(show l.length<1000000000 by omega),?_⟩;exact (ih (i+1) _ _ (by omega) (by omega) (by rw[hS];omega) hv).onlyR [(66,1028672)] rfl ⟨rfl,rfl,rfl,trivial⟩ ⟨rfl,rfl,trivial⟩
theorem qc1:HeldI Try.prog G0 39 ctWco:=HeldI.of cxCo (fn:=Try.f39) rfl rfl ⟨by decide,by decide⟩ λ ⟨⟨l,lo,w,_⟩,_⟩ hp=>by
 have hp:l.length<100000000:=hp;refine qag cxCo (q3j l lo w _ _) ?_;have hS:(wshL l lo).length=l.length+1:=by show (l++[_]).length=_;rw[List.length_append];rfl
 have g:GDco l lo w (hd Try.f39 0) ⟨[(0,.ptr BIG 0),(2,.nils),(4,.i ((0:Nat):Int))],[(BIG,wrV (BIG+1) l.length lo w),(BIG+1,.row 5 uB l)]⟩:=by
  refine qag cxCo (q0q l lo w 0 _ _) ?_;rw[decide_eq_true (by decide),bc_t];refine ⟨rfl,(show l.length<1000000000 by omega),?_⟩;exact (qs9 (l0:=l) (lo0:=lo) (w:=w) 3 1 (wshL l lo) (IntKind.u32.wrap (lo*2 ^ 8)) rfl (by omega) (by rw[hS];omega) rfl).onlyR [(66,1028672)] rfl ⟨rfl,rfl,rfl,trivial⟩ ⟨rfl,rfl,trivial⟩
 exact g.only ⟨rfl,rfl,rfl,trivial⟩ ⟨rfl,rfl,trivial⟩
def ctNW:CtrI:=⟨[],λ _=>True,λ _=>[.ptr 0 0],λ _=>[(0,wrV 1 0 0 4294967295),(1,.row 5 uB [])]⟩
theorem qek:HeldI Try.prog G0 37 ctNW:=HeldI.of cx0 (fn:=Try.f37) rfl rfl ⟨by decide,by decide⟩ λ _ _=>by
 refine qbf cx0 (vc_nW _ _) ?_;refine ⟨[(0,2)],⟨_,_,rfl,⟨2,rfl,rfl⟩,rfl⟩,⟨.inl ⟨2,_,rfl,rfl,_,rfl,_,_,rfl,.inr ⟨rfl,rfl,rfl,rfl⟩,_,_,rfl,rfl,_,_,rfl,rfl,rfl⟩,.inr ⟨rfl,_,_,rfl,by decide⟩,trivial⟩,by simp,λ p hp=>?_⟩;rw[List.mem_singleton] at hp;subst hp;decide
end Go.Proofs.Ytdlnmlepljepjaa
