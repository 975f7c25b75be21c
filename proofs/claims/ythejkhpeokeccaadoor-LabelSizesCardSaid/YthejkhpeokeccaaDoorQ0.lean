/-
  A part of the proof: what pieces of the program give; conditions: those of each theorem.
-/
import Derived.Test.YthejkhpeokeccaaDoorHD
import Derived.Test.YthejkhpeokeccaaDoorProg
set_option linter.unusedVariables false
set_option linter.unusedSimpArgs false
namespace Go.Proofs.YthejkhpeokeccaaDoor
open Go.Px Go.Ax
abbrev QT:Type:=List SV->List (Nat × LB)->Prop
abbrev RT:Type:=List Item->PS->Prop
def tyL:List (Nat × (Nat × Nat × Bool × TK × Sh × Option IntKind)):=[
 (1,(1,8,false,.other,.unit,none)),
 (2,(1,8,false,(.int .i64),(.int .i64),none)),
 (3,(1,8,false,(.int .i64),(.int .i64),none)),
 (4,(1,1,false,.bool,.bool,none)),
 (5,(1,1,false,(.int .u8),(.int .u8),none)),
 (6,(1,1,false,(.int .u8),(.int .u8),none)),
 (7,(4,24,true,(.struct [(0,2),(1,3),(2,4),(3,6)]),(.pair (.int .i64) (.pair (.int .i64) (.pair .bool (.int .u8)))),(some .i8))),
 (8,(4,24,true,(.struct [(0,2),(1,3),(2,4),(3,6)]),(.pair (.int .i64) (.pair (.int .i64) (.pair .bool (.int .u8)))),(some .i8))),
 (9,(1,16,false,.str,.str,none)),
 (10,(1,16,false,.str,.str,none)),
 (11,(1,16,false,.str,.str,none)),
 (12,(1,8,false,(.int .u64),(.int .u64),none)),
 (13,(2,24,true,(.struct [(0,9),(1,12)]),(.pair .str (.int .u64)),none)),
 (14,(2,24,true,(.struct [(0,9),(1,12)]),(.pair .str (.int .u64)),none)),
 (21,(1,4,false,(.int .i32),(.int .i32),none)),
 (22,(1,24,false,(.slice 59),(.sl (.arr 4 (.int .u8))),none)),
 (23,(1,1,false,(.int .i8),(.int .i8),none)),
 (24,(2,2,true,(.array 2 23),(.arr 2 (.int .i8)),(some .i8))),
 (25,(1,8,false,.other,.unit,none)),
 (26,(1,24,false,(.slice 5),(.sl (.int .u8)),none)),
 (27,(1,8,false,.other,.unit,none)),
 (28,(1,24,false,(.slice 50),(.sl (.int .u32)),none)),
 (29,(1,24,false,(.slice 4),(.sl .bool),none)),
 (30,(1,24,false,(.slice 3),(.sl (.int .i64)),none)),
 (31,(3,72,true,(.struct [(0,28),(1,29),(2,30)]),(.pair (.sl (.int .u32)) (.pair (.sl .bool) (.sl (.int .i64)))),none)),
 (32,(3,72,true,(.struct [(0,28),(1,29),(2,30)]),(.pair (.sl (.int .u32)) (.pair (.sl .bool) (.sl (.int .i64)))),none)),
 (33,(1,8,false,(.int .i64),(.int .i64),none)),
 (35,(1,8,false,.other,.unit,none)),
 (37,(1,8,false,.other,.unit,none)),
 (38,(1,8,false,.other,.unit,none)),
 (39,(2,16,true,(.struct [(0,3),(1,3)]),(.pair (.int .i64) (.int .i64)),(some .i64))),
 (40,(2,16,true,(.struct [(0,3),(1,3)]),(.pair (.int .i64) (.int .i64)),(some .i64))),
 (41,(1,8,false,.other,.unit,none)),
 (42,(1,8,false,.other,.unit,none)),
 (43,(1,8,false,.other,.unit,none)),
 (44,(1,8,false,.other,.unit,none)),
 (45,(1,8,false,.other,.unit,none)),
 (46,(1,8,false,.other,.unit,none)),
 (47,(1,8,false,.other,.unit,none)),
 (48,(1,2,false,(.int .u16),(.int .u16),none)),
 (49,(4,8,true,(.array 4 48),(.arr 4 (.int .u16)),(some .u16))),
 (50,(1,4,false,(.int .u32),(.int .u32),none)),
 (51,(6,144,true,(.array 2 32),(.arr 2 (.pair (.sl (.int .u32)) (.pair (.sl .bool) (.sl (.int .i64))))),none)),
 (52,(1,8,false,.other,.unit,none)),
 (53,(3,3,true,(.array 3 5),(.arr 3 (.int .u8)),(some .u8))),
 (54,(2,48,true,(.array 2 26),(.arr 2 (.sl (.int .u8))),none)),
 (55,(1,8,false,.other,.unit,none)),
 (56,(1,8,false,.other,.unit,none)),
 (57,(1,8,false,.other,.unit,none)),
 (58,(4,4,true,(.array 4 5),(.arr 4 (.int .u8)),(some .u8))),
 (59,(4,4,true,(.array 4 5),(.arr 4 (.int .u8)),(some .u8))),
 (60,(5,40,true,(.struct [(0,3),(1,3),(2,3),(3,3),(4,3)]),(.pair (.int .i64) (.pair (.int .i64) (.pair (.int .i64) (.pair (.int .i64) (.int .i64))))),(some .i64))),
 (61,(5,40,true,(.struct [(0,3),(1,3),(2,3),(3,3),(4,3)]),(.pair (.int .i64) (.pair (.int .i64) (.pair (.int .i64) (.pair (.int .i64) (.int .i64))))),(some .i64))),
 (63,(1,8,false,.other,.unit,none)),
 (65,(1,8,false,.other,.unit,none)),
 (66,(1,8,false,.other,.unit,none)),
 (67,(1,8,false,.other,.unit,none)),
 (68,(1,8,false,.other,.unit,none)),
 (69,(1,8,false,.other,.unit,none)),
 (70,(1,8,false,.other,.unit,none)),
 (71,(1,8,false,.other,.unit,none)),
 (72,(1,8,false,.other,.unit,none)),
 (73,(1,8,false,.other,.unit,none)),
 (74,(1,8,false,.other,.unit,none)),
 (75,(1,8,false,.other,.unit,none)),
 (76,(1,8,false,.other,.unit,none)),
 (77,(1,8,false,.other,.unit,none)),
 (79,(1,8,false,.other,.unit,none)),
 (80,(1,8,false,.other,.unit,none)),
 (81,(1,8,false,.other,.unit,none)),
 (82,(1,8,false,.other,.unit,none)),
 (83,(1,8,false,(.int .u64),(.int .u64),none)),
 (85,(1,8,false,.other,.unit,none)),
 (86,(1,8,false,.other,.unit,none)),
 (87,(1,8,false,.other,.unit,none)),
 (88,(1,8,false,.other,.unit,none)),
 (89,(1,8,false,.other,.unit,none)),
 (90,(1,8,false,.other,.unit,none)),
 (91,(1,8,false,.other,.unit,none)),
 (92,(1,8,false,.other,.unit,none)),
 (93,(1,8,false,.other,.unit,none)),
 (94,(1,8,false,.other,.unit,none)),
 (95,(1,8,false,.other,.unit,none)),
 (96,(1,8,false,.other,.unit,none)),
 (97,(1,8,false,.other,.unit,none)),
 (98,(1,8,false,.other,.unit,none)),
 (99,(1,8,false,.other,.unit,none)),
 (100,(1,8,false,.other,.unit,none)),
 (101,(1,8,false,.other,.unit,none)),
 (102,(1,8,false,.other,.unit,none)),
 (103,(1,8,false,.other,.unit,none)),
 (104,(1,8,false,.other,.unit,none)),
 (105,(1,8,false,.other,.unit,none)),
 (106,(1,8,false,.other,.unit,none)),
 (107,(1,8,false,.other,.unit,none)),
 (108,(1,8,false,.other,.unit,none)),
 (109,(1,8,false,.other,.unit,none)),
 (110,(1,4,false,(.int .u32),(.int .u32),none)),
 (111,(1,8,false,.other,.unit,none)),
 (112,(5,40,true,(.struct [(0,9),(1,3),(2,3),(3,4),(4,4)]),(.pair .str (.pair (.int .i64) (.pair (.int .i64) (.pair .bool .bool)))),none)),
 (113,(5,40,true,(.struct [(0,9),(1,3),(2,3),(3,4),(4,4)]),(.pair .str (.pair (.int .i64) (.pair (.int .i64) (.pair .bool .bool)))),none)),
 (114,(45,360,true,(.array 9 113),(.arr 9 (.pair .str (.pair (.int .i64) (.pair (.int .i64) (.pair .bool .bool))))),none)),
 (115,(3,24,true,(.array 3 3),(.arr 3 (.int .i64)),(some .i64))),
 (116,(1,8,false,.other,.unit,none)),
 (117,(1,8,false,.other,.unit,none)),
 (118,(1,8,false,(.int .i64),(.int .i64),none)),
 (120,(1,8,false,.other,.unit,none)),
 (121,(1,8,false,.other,.unit,none)),
 (122,(1,8,false,.other,.unit,none)),
 (123,(1,8,false,.other,.unit,none)),
 (125,(1,8,false,.other,.unit,none)),
 (126,(1,8,false,.other,.unit,none)),
 (127,(1,8,false,.other,.unit,none)),
 (128,(1,8,false,(.int .u64),(.int .u64),none)),
 (129,(1,8,false,(.int .u64),(.int .u64),none)),
 (130,(1,8,false,.other,.unit,none)),
 (131,(1,8,false,.other,.unit,none)),
 (132,(1,8,false,.other,.unit,none)),
 (134,(1,8,false,.other,.unit,none)),
 (137,(1,8,false,.other,.unit,none)),
 (138,(1,8,false,.other,.unit,none)),
 (144,(1,1,false,(.int .u8),(.int .u8),none)),
 (145,(1,1,false,(.int .u8),(.int .u8),none)),
 (146,(1,8,false,.other,.unit,none)),
 (148,(1,4,false,(.int .i32),(.int .i32),none)),
 (149,(1,4,false,(.int .i32),(.int .i32),none))]
abbrev tt:TT:=ttOf tyL
set_option maxRecDepth 100000 in
theorem tyOK:ttB Tryd.prog tyL=true:=by decide +kernel
theorem ty:TTOK Tryd.prog tt:=q2z tyOK
theorem mixed:Tryd.prog.follows .mixedOrders=true:=by decide +kernel
open Go.IntKind(i64 u32 u8)
def kn (s:List UInt8) (r b:Int) (g t:Bool):List UInt8 × Int × Int × Bool × Bool:=(s,r,b,g,t)
abbrev kindSh:Sh:=.pair .str (.pair (.int .i64) (.pair (.int .i64) (.pair .bool .bool)))
def kindsL:List kindSh.D:=[kn [100,97,116,97] 0 32 false false,kn [97,100,100] 3 0 false false,kn [115,101,116] 1 16 false false,kn [108,111,97,100] 3 0 false false,kn [115,116,111,114,101] 3 0 false false,
 kn [106,117,109,112] 0 24 true true,kn [99,97,108,108] 0 24 true true,kn [98,114,97,110,99,104] 1 16 true true,kn [112,111,111,108] 1 16 false true]
def qiv:List Value:=kindsL.flatMap fun k=>[bstr k.1,.int .i64 k.2.1,.int .i64 k.2.2.1,.bool k.2.2.2.1,.bool k.2.2.2.2]
def rawG:T ABlk:=.node .nil .nil (some (.cells qiv 114 2))
def G0:GV:=⟨[(0,⟨.arr 9 kindSh,kindsL⟩)],rawG,[]⟩
set_option maxRecDepth 100000
theorem q74 (w i:Int) (Q:QT) (R:RT):sy tt G0 [] Tryd.f87.ntmps Tryd.f87.results.toList Q R 1000 [.code (qaf Tryd.f87)] (entry [.int .u32,.int .i64] (w,i,())) =
  (0<=i64.wrap ((32:Int)-i) /\
 0<=i64.wrap ((32:Int)-i) /\
 Q [.int .i64 (i64.wrap ((u32.wrap (w*2 ^ min (i64.wrap ((32:Int)-i)).toNat u32.bits)).fdiv ((2:Int) ^ min (i64.wrap ((32:Int)-i)).toNat u32.bits)))] []):=by kernel_rfl
theorem q4f (w i:Int) (Q:QT) (R:RT):sy tt G0 [] Tryd.f88.ntmps Tryd.f88.results.toList Q R 1000 [.code (qaf Tryd.f88)] (entry [.int .u32,.int .i64] (w,i,())) =
  (0<=i64.wrap ((32:Int)-i) /\
 0<=i64.wrap ((32:Int)-i) /\
 Q [.int .i64 (i64.wrap ((IntKind.i32.wrap (u32.wrap (w*2 ^ min (i64.wrap ((32:Int)-i)).toNat u32.bits))).fdiv ((2:Int) ^ min (i64.wrap ((32:Int)-i)).toNat IntKind.i32.bits)))] []):=by kernel_rfl
theorem qzn (w i:Int) (Q:QT) (R:RT):sy tt G0 [] Tryd.f73.ntmps Tryd.f73.results.toList Q R 1000 [.code (qaf Tryd.f73)] (entry [.int .u32,.int .i64] (w,i,())) =
  (0<=i64.wrap ((24:Int)-i64.wrap ((8:Int)*i)) /\
 Q [.int .i64 (i64.wrap (u8.wrap (w.fdiv ((2:Int) ^ min (i64.wrap ((24:Int)-i64.wrap ((8:Int)*i))).toNat u32.bits))))] []):=by kernel_rfl
theorem cx0:CxOK Tryd.prog tt G0 []:=CxOK.nil ty mixed
theorem qnh {w p m:Int} (h0:0<=w) (h1:w<m) (hp:0<p):0<=w / p/\w / p<m:=
 ⟨Int.ediv_nonneg h0 (by omega),Int.lt_of_le_of_lt (Int.ediv_le_self _ h0) h1⟩
def octV (w i:Int):Int:=w / 2 ^ (24-8*i).toNat % 256
def q83 (w i:Int):Prop:=(0<=w/\w<4294967296)/\0<=i/\i<4
def ctOctet:Ctr:=⟨[.int .u32,.int .i64],fun x=>q83 x.1 x.2.1,fun x=>[.int .i64 (octV x.1 x.2.1)],fun _=>[]⟩
theorem qu5:Held Tryd.prog G0 73 ctOctet:=by
 refine Held.run cx0 (fn:=Tryd.f73) rfl rfl ⟨by decide,by decide⟩ ?_;rintro ⟨w,i,⟨⟩⟩ ⟨hw,hi⟩;simp only at hw hi;refine (qzn w i _ _).mpr ?_;rw[IntWalk.i64_in (8*i) (by omega),IntWalk.i64_in (24-8*i) (by omega)];have hm:min (24-8*i).toNat IntKind.u32.bits=(24-8*i).toNat:=Nat.min_eq_left (by simp only[IntKind.bits];omega);have hp:(0:Int)<2 ^ (24-8*i).toNat:=Int.pow_pos (by decide);rw[hm,Int.fdiv_eq_ediv_of_nonneg _ (by omega),IntKind.wrap_u8,IntWalk.i64_in (w / 2 ^ (24-8*i).toNat % 256) (by omega)];exact ⟨by omega,QC.flat rfl rfl rfl⟩
def lowV (w b:Int):Int:=w*2 ^ (32-b).toNat % 4294967296 / 2 ^ (32-b).toNat
def qx4 (w b:Int):Int:=IntKind.i32.wrap (w*2 ^ (32-b).toNat % 4294967296) / 2 ^ (32-b).toNat
def qtd (w b:Int):Prop:=(0<=w/\w<4294967296)/\0<=b/\b<=32
def ctLow:Ctr:=⟨[.int .u32,.int .i64],fun x=>qtd x.1 x.2.1,fun x=>[.int .i64 (lowV x.1 x.2.1)],fun _=>[]⟩
def ctLowS:Ctr:=⟨[.int .u32,.int .i64],fun x=>qtd x.1 x.2.1,fun x=>[.int .i64 (qx4 x.1 x.2.1)],fun _=>[]⟩
theorem q00:Held Tryd.prog G0 87 ctLow:=by
 refine Held.run cx0 (fn:=Tryd.f87) rfl rfl ⟨by decide,by decide⟩ ?_;rintro ⟨w,b,⟨⟩⟩ ⟨hw,hb⟩;simp only at hw hb;refine (q74 w b _ _).mpr ?_;rw[IntWalk.i64_in (32-b) (by omega)];have hm:min (32-b).toNat IntKind.u32.bits=(32-b).toNat:=Nat.min_eq_left (by simp only[IntKind.bits];omega);have hp:(0:Int)<2 ^ (32-b).toNat:=Int.pow_pos (by decide);have hd:=qnh (w:=w*2 ^ (32-b).toNat % 4294967296) (m:=4294967296) (by omega) (by omega) hp;rw[hm,IntKind.wrap_u32,Int.fdiv_eq_ediv_of_nonneg _ (by omega),IntWalk.i64_in _ ⟨by omega,by omega⟩];exact ⟨by omega,by omega,QC.flat rfl rfl rfl⟩
theorem qm3 (x p:Int) (hp:0<p) : -2147483648<=IntKind.i32.wrap x / p/\IntKind.i32.wrap x / p<=2147483647:=by
 rw[IntKind.wrap_i32];generalize hy:(x+2147483648) % 4294967296-2147483648=y;have h1 : -2147483648<=y/\y<=2147483647:=by omega
 constructor
 ·refine (Int.le_ediv_iff_mul_le hp).2 ?_;have:(2147483648:Int)*1<=2147483648*p:=Int.mul_le_mul_of_nonneg_left (by omega) (by omega);omega
 ·by_cases h0:0<=y
  ·exact Int.le_trans (Int.ediv_le_self _ h0) h1.2
  ·have:=Int.ediv_neg_of_neg_of_pos (a:=y) (by omega) hp;omega
theorem qx3:Held Tryd.prog G0 88 ctLowS:=by
 refine Held.run cx0 (fn:=Tryd.f88) rfl rfl ⟨by decide,by decide⟩ ?_;rintro ⟨w,b,⟨⟩⟩ ⟨hw,hb⟩;simp only at hw hb;refine (q4f w b _ _).mpr ?_;rw[IntWalk.i64_in (32-b) (by omega)];have hm:min (32-b).toNat IntKind.u32.bits=(32-b).toNat:=Nat.min_eq_left (by simp only[IntKind.bits];omega);have hm2:min (32-b).toNat IntKind.i32.bits=(32-b).toNat:=Nat.min_eq_left (by simp only[IntKind.bits];omega);have hp:(0:Int)<2 ^ (32-b).toNat:=Int.pow_pos (by decide);have hd:=qm3 (w*2 ^ (32-b).toNat % 4294967296) _ hp;rw[hm,hm2,IntKind.wrap_u32,Int.fdiv_eq_ediv_of_nonneg _ (by omega),IntWalk.i64_in _ ⟨by omega,by omega⟩];exact ⟨by omega,by omega,QC.flat rfl rfl rfl⟩
def C1:CV:=[(88,.inl ctLowS),(87,.inl ctLow),(73,.inl ctOctet)]
theorem cx1:CxOK Tryd.prog tt G0 C1:=((cx0.cons qu5 (fn:=Tryd.f73) rfl rfl rfl).cons q00 (fn:=Tryd.f87) rfl rfl rfl).cons qx3 (fn:=Tryd.f88) rfl rfl rfl
set_option maxRecDepth 100000
theorem vc_op (w:Int) (Q:QT) (R:RT):sy tt G0 C1 Tryd.f72.ntmps Tryd.f72.results.toList Q R 1000 [.code (qaf Tryd.f72)] (entry [.int .u32] (w,())) =
  (ctOctet.pre (w,(0:Int),()) /\
 bc (decide (9<=octV w (0:Int))) (Q [.int .i64 0] []) (0<=octV w (0:Int) /\
 octV w (0:Int)<(↑(9:Nat):Int) /\
 R (hd Tryd.f72 0) { env:=[(0,.int .u32 w),(2,.int .i64 0),(3,.int .i64 (octV w (0:Int))),(5,.int .u32 w),(6,.int .i64 (octV w (0:Int))),(7,.int .i64 (octV w (0:Int))),(8,.bool (decide (9<=octV w (0:Int)))),(9,.int .i64 (octV w (0:Int))),(10,.elv (Sh.str.pair ((Sh.int i64).pair ((Sh.int i64).pair (Sh.bool.pair Sh.bool)))) (gt (Sh.str.pair ((Sh.int i64).pair ((Sh.int i64).pair (Sh.bool.pair Sh.bool)))) kindsL (octV w (0:Int)).toNat)),(11,.elv (Sh.int i64) (gt (Sh.str.pair ((Sh.int i64).pair ((Sh.int i64).pair (Sh.bool.pair Sh.bool)))) kindsL (octV w (0:Int)).toNat).2.1),(12,.int .i64 (gt (Sh.str.pair ((Sh.int i64).pair ((Sh.int i64).pair (Sh.bool.pair Sh.bool)))) kindsL (octV w (0:Int)).toNat).2.1),(13,.int .i64 0)],blk:=[] })):=by kernel_rfl
theorem q2v (w o n i:Int) (Q:QT) (R:RT):sy tt G0 C1 Tryd.f72.ntmps Tryd.f72.results.toList Q R 1000 (hd Tryd.f72 0) ⟨[(0,.int .u32 w),(3,.int .i64 o),(12,.int .i64 n),(13,.int .i64 i)],[]⟩ =
  (bc (decide (i<n)) (ctOctet.pre (w,i64.wrap ((1:Int)+i),()) /\
 bc (decide (15<octV w (i64.wrap ((1:Int)+i)))) (Q [.int .i64 0] []) (R (hd Tryd.f72 0) { env:=[(0,.int .u32 w),(3,.int .i64 o),(4,.int .i64 i),(12,.int .i64 n),(13,.int .i64 (i64.wrap (i+1))),(14,.bool (decide (i<n))),(15,.int .i64 i),(16,.int .u32 w),(17,.int .i64 i),(18,.int .i64 (i64.wrap ((1:Int)+i))),(19,.int .i64 (octV w (i64.wrap ((1:Int)+i)))),(20,.bool (decide (15<octV w (i64.wrap ((1:Int)+i))))),(21,.int .i64 (i64.wrap (i+1)))],blk:=[] })) (Q [.int .i64 o] [])):=by kernel_rfl
def regs (o:Int):Int:=if o=1\/o=3\/o=4 then 3 else if o=2\/o=7\/o=8 then 1 else 0
def badR (w n i:Int):Bool:=decide (i<=0/\0<n/\15<octV w 1) || decide (i<=1/\1<n/\15<octV w 2) || decide (i<=2/\2<n/\15<octV w 3)
def opV (w:Int):Int:=if 9<=octV w 0 then 0 else if badR w (regs (octV w 0)) 0 then 0 else octV w 0
theorem q3c (w i:Int):0<=octV w i/\octV w i<256:=by unfold octV;omega
theorem nine:∀ o:Int,0<=o->o<9->o=0\/o=1\/o=2\/o=3\/o=4\/o=5\/o=6\/o=7\/o=8:=by omega
theorem qs6 (o:Int) (h0:0<=o) (h9:o<9):((gt kindSh kindsL o.toNat).2.1:Int)=regs o:=by
 rcases nine o h0 h9 with rfl | rfl | rfl | rfl | rfl | rfl | rfl | rfl | rfl <;> rfl
theorem qq6 (o:Int):0<=regs o/\regs o<=3:=by
 unfold regs
 repeat' split
 all_goals omega
def ctOp:Ctr:=⟨[.int .u32],fun x=>(fun w:Int=>0<=w/\w<4294967296) x.1,fun x=>[.int .i64 (opV x.1)],fun _=>[]⟩
theorem q54 (w o:Int) (hw:0<=w/\w<4294967296) {n:Int} (hn:0<=n/\n<=3):∀ (m:Nat) (i:Int),0<=i->(n-i).toNat=m ->
  Px.Good Tryd.prog tt G0 72 Tryd.f72.ntmps Tryd.f72.results.toList (fun rs _=>rs=[.int .i64 (if badR w n i then 0 else o)]) (hd Tryd.f72 0) ⟨[(0,.int .u32 w),(3,.int .i64 o),(12,.int .i64 n),(13,.int .i64 i)],[]⟩:=by
 intro m
 induction m with
 | zero=>
  intro i hi hm;refine qdz cx1 _ _ _ ((q2v w o n i _ _).mpr ?_);rw[show decide (i<n)=false from decide_eq_false (by omega)]
  show _=_
  rw[show badR w n i=false by simp only[badR,Bool.or_eq_false_iff,decide_eq_false_iff_not];omega];rfl
 | succ m ih=>
  intro i hi hm;refine qdz cx1 _ _ _ ((q2v w o n i _ _).mpr ?_);rw[show decide (i<n)=true from decide_eq_true (by omega),bc_t,IntWalk.i64_in (1+i) (by omega),IntWalk.i64_in (i+1) (by omega)];refine ⟨⟨hw,(by omega:0<=1+i/\1+i<4)⟩,qap (fun h=>?_) (fun h=>?_)⟩
  ·have h':=of_decide_eq_true h
   rw[show badR w n i=true by
    simp only[badR,Bool.or_eq_true,decide_eq_true_eq];rcases (by omega:i=0\/i=1\/i=2) with rfl | rfl | rfl
    ·have h2:15<octV w 1:=h';omega
    ·have h2:15<octV w 2:=h';omega
    ·have h2:15<octV w 3:=h'
     omega]
   rfl
  ·have h':=of_decide_eq_false h;have hb:badR w n i=badR w n (i+1):=by
    refine Bool.eq_iff_iff.mpr ?_;simp only[badR,Bool.or_eq_true,decide_eq_true_eq];rcases (by omega:i=0\/i=1\/i=2) with rfl | rfl | rfl
    ·have h2:¬ 15<octV w 1:=h';omega
    ·have h2:¬ 15<octV w 2:=h';omega
    ·have h2:¬ 15<octV w 3:=h';omega
   rw[hb];exact (ih (i+1) (by omega) (by omega)).only ⟨rfl,rfl,rfl,rfl,trivial⟩ trivial
theorem q55:Held Tryd.prog G0 72 ctOp:=by
 refine Held.run cx1 (fn:=Tryd.f72) rfl rfl ⟨by decide,by decide⟩ ?_;rintro ⟨w,⟨⟩⟩ hw;replace hw:0<=w/\w<4294967296:=hw;refine (vc_op w _ _).mpr ?_;refine ⟨⟨hw,(by decide:(0:Int)<=0/\(0:Int)<4)⟩,qap (fun h=>?_) (fun h=>?_)⟩
 ·have h':=of_decide_eq_true h;exact QC.flat (by simp only[ctOp,opV,if_pos h']) rfl rfl
 ·have h':=of_decide_eq_false h;have hb:=q3c w 0;refine ⟨hb.1,by show _<(9:Int);omega,?_⟩;have e:=q54 w (octV w 0) hw (qq6 (octV w 0)) _ 0 (by omega) rfl;refine (e.post fun rs blk hq=>QC.flat (by simp only[ctOp,opV,if_neg h'];exact hq.symm) rfl (by rw[hq];rfl)).only ⟨rfl,rfl,?_,rfl,trivial⟩ trivial;exact congrArg (fun z=>some (SV.int .i64 z)) (qs6 _ hb.1 (by omega))
def C2:CV:=(72,.inl ctOp)::C1
theorem cx2:CxOK Tryd.prog tt G0 C2:=cx1.cons q55 (fn:=Tryd.f72) rfl rfl rfl
theorem qv4 (k:kindSh.D) (w:Int) (Q:QT) (R:RT):sy tt G0 C2 Tryd.f74.ntmps Tryd.f74.results.toList Q R 1000 [.code (qaf Tryd.f74)] (entry [kindSh,.int .u32] (k,w,())) =
  (bc k.2.2.2.1 (ctLowS.pre (w,k.2.2.1,()) /\
 Q [.int .i64 (qx4 w k.2.2.1)] [(2,.var [.str k.1,.int .i64 k.2.1,.int .i64 k.2.2.1,.bool k.2.2.2.1,.bool k.2.2.2.2])]) (ctLow.pre (w,k.2.2.1,()) /\
 Q [.int .i64 (lowV w k.2.2.1)] [(2,.var [.str k.1,.int .i64 k.2.1,.int .i64 k.2.2.1,.bool k.2.2.2.1,.bool k.2.2.2.2])])):=by kernel_rfl
def numV (s:Bool) (w b:Int):Int:=if s then qx4 w b else lowV w b
def ctNum:Ctr:=⟨[kindSh,.int .u32],fun x=>qtd x.2.1 x.1.2.2.1,fun x=>[.int .i64 (numV x.1.2.2.2.1 x.2.1 x.1.2.2.1)],fun _=>[]⟩
theorem q0q:Held Tryd.prog G0 74 ctNum:=by
 refine Held.run cx2 (fn:=Tryd.f74) rfl rfl ⟨by decide,by decide⟩ ?_;rintro ⟨⟨ks,kr,kb,kg,kt⟩,w,⟨⟩⟩ hp;replace hp:qtd w kb:=hp;refine (qv4 _ w _ _).mpr (qap (fun h=>?_) (fun h=>?_))
 ·exact ⟨hp,QC.flat (by simp only[ctNum,numV];rw[show kg=true from h];rfl) rfl rfl⟩
 ·exact ⟨hp,QC.flat (by simp only[ctNum,numV];rw[show kg=false from h];rfl) rfl rfl⟩
def C3:CV:=(74,.inl ctNum)::C2
theorem cx3:CxOK Tryd.prog tt G0 C3:=cx2.cons q0q (fn:=Tryd.f74) rfl rfl rfl
theorem q8e (w a:Int) (Q:QT) (R:RT):sy tt G0 C3 Tryd.f66.ntmps Tryd.f66.results.toList Q R 1000 [.code (qaf Tryd.f66)] (entry [.int .u32,.int .i64] (w,a,())) =
  (ctOp.pre (w,()) /\
 0<=opV w /\
 opV w<(↑(9:Nat):Int) /\
 R (hd Tryd.f66 0) { env:=[(0,.int .u32 w),(1,.int .i64 a),(4,.ptr 4 0),(5,.int .u32 w),(6,.int .i64 (opV w)),(7,.ptr 7 0),(8,.ptr 8 0),(11,.int .u32 w),(12,.int .u32 w),(13,.int .i64 (opV w)),(14,.int .i64 (opV w)),(15,.elv (Sh.str.pair ((Sh.int i64).pair ((Sh.int i64).pair (Sh.bool.pair Sh.bool)))) (gt (Sh.str.pair ((Sh.int i64).pair ((Sh.int i64).pair (Sh.bool.pair Sh.bool)))) kindsL (opV w).toNat)),(16,.agg [.str (gt (Sh.str.pair ((Sh.int i64).pair ((Sh.int i64).pair (Sh.bool.pair Sh.bool)))) kindsL (opV w).toNat).1,.int .i64 (gt (Sh.str.pair ((Sh.int i64).pair ((Sh.int i64).pair (Sh.bool.pair Sh.bool)))) kindsL (opV w).toNat).2.1,.int .i64 (gt (Sh.str.pair ((Sh.int i64).pair ((Sh.int i64).pair (Sh.bool.pair Sh.bool)))) kindsL (opV w).toNat).2.2.1,.bool (gt (Sh.str.pair ((Sh.int i64).pair ((Sh.int i64).pair (Sh.bool.pair Sh.bool)))) kindsL (opV w).toNat).2.2.2.1,.bool (gt (Sh.str.pair ((Sh.int i64).pair ((Sh.int i64).pair (Sh.bool.pair Sh.bool)))) kindsL (opV w).toNat).2.2.2.2]),(17,.ptr 7 1),(18,.int .i64 (gt (Sh.str.pair ((Sh.int i64).pair ((Sh.int i64).pair (Sh.bool.pair Sh.bool)))) kindsL (opV w).toNat).2.1),(19,.int .i64 0)],blk:=[(4,.var [.int .i64 0,.int .i64 0,.int .i64 0,.int .i64 0,.int .i64 0]),(7,.var [.str (gt (Sh.str.pair ((Sh.int i64).pair ((Sh.int i64).pair (Sh.bool.pair Sh.bool)))) kindsL (opV w).toNat).1,.int .i64 (gt (Sh.str.pair ((Sh.int i64).pair ((Sh.int i64).pair (Sh.bool.pair Sh.bool)))) kindsL (opV w).toNat).2.1,.int .i64 (gt (Sh.str.pair ((Sh.int i64).pair ((Sh.int i64).pair (Sh.bool.pair Sh.bool)))) kindsL (opV w).toNat).2.2.1,.bool (gt (Sh.str.pair ((Sh.int i64).pair ((Sh.int i64).pair (Sh.bool.pair Sh.bool)))) kindsL (opV w).toNat).2.2.2.1,.bool (gt (Sh.str.pair ((Sh.int i64).pair ((Sh.int i64).pair (Sh.bool.pair Sh.bool)))) kindsL (opV w).toNat).2.2.2.2]),(8,.var [.arr 3 (Sh.int i64) (Sh.arr 3 (Sh.int i64)).dflt])] }):=by kernel_rfl
theorem qwb (w a o n i kr kb:Int) (ks:List UInt8) (kg kt:Bool) (r:List Int) (Q:QT) (R:RT):sy tt G0 C3 Tryd.f66.ntmps Tryd.f66.results.toList Q R 1000 (hd Tryd.f66 0) ⟨[(0,.int .u32 w),(1,.int .i64 a),(4,.ptr 4 0),(5,.int .u32 w),(6,.int .i64 o),(7,.ptr 7 0),(8,.ptr 8 0),(18,.int .i64 n),(19,.int .i64 i)],[(4,.var [.int .i64 0,.int .i64 0,.int .i64 0,.int .i64 0,.int .i64 0]),(7,.var [.str ks,.int .i64 kr,.int .i64 kb,.bool kg,.bool kt]),(8,.var [.arr 3 (.int .i64) r])]⟩ =
  (bc (decide (i<n)) (ctOctet.pre (w,i64.wrap ((1:Int)+i),()) /\
 0<=i /\
 i<(↑(3:Nat):Int) /\
 i.toNat<3 /\
 R (hd Tryd.f66 0) { env:=[(0,.int .u32 w),(1,.int .i64 a),(4,.ptr 4 0),(5,.int .u32 w),(6,.int .i64 o),(7,.ptr 7 0),(8,.ptr 8 0),(9,.int .i64 i),(18,.int .i64 n),(19,.int .i64 (i64.wrap (i+1))),(20,.bool (decide (i<n))),(21,.int .i64 i),(22,.int .i64 i),(23,.int .u32 w),(24,.int .i64 i),(25,.int .i64 (i64.wrap ((1:Int)+i))),(26,.int .i64 (octV w (i64.wrap ((1:Int)+i)))),(27,.aep (Sh.int i64) 8 0 i.toNat 0),(28,.int .i64 (i64.wrap (i+1)))],blk:=[(4,.var [.int .i64 0,.int .i64 0,.int .i64 0,.int .i64 0,.int .i64 0]),(7,.var [.str ks,.int .i64 kr,.int .i64 kb,.bool kg,.bool kt]),(8,.var [.arr 3 (Sh.int i64) (r.set i.toNat (octV w (i64.wrap ((1:Int)+i))))])] }) (ctNum.pre ((ks,kr,kb,kg,kt),w,()) /\
 bc kt ((0:Int)<=0 /\
 (0:Int)<(↑(3:Nat):Int) /\
 Int.toNat (0:Int)<3 /\
 (0:Int)<=1 /\
 (1:Int)<(↑(3:Nat):Int) /\
 Int.toNat (1:Int)<3 /\
 (0:Int)<=2 /\
 (2:Int)<(↑(3:Nat):Int) /\
 Int.toNat (2:Int)<3 /\
 Q [.agg [.int .i64 o,.int .i64 (gt (Sh.int i64) r (Int.toNat (0:Int))),.int .i64 (gt (Sh.int i64) r (Int.toNat (1:Int))),.int .i64 (gt (Sh.int i64) r (Int.toNat (2:Int))),.int .i64 (i64.wrap (a+i64.wrap ((4:Int)*numV kg w kb)))]] [(4,.var [.int .i64 o,.int .i64 (gt (Sh.int i64) r (Int.toNat (0:Int))),.int .i64 (gt (Sh.int i64) r (Int.toNat (1:Int))),.int .i64 (gt (Sh.int i64) r (Int.toNat (2:Int))),.int .i64 (i64.wrap (a+i64.wrap ((4:Int)*numV kg w kb)))]),(7,.var [.str ks,.int .i64 kr,.int .i64 kb,.bool kg,.bool kt]),(8,.var [.arr 3 (Sh.int i64) r])]) ((0:Int)<=0 /\
 (0:Int)<(↑(3:Nat):Int) /\
 Int.toNat (0:Int)<3 /\
 (0:Int)<=1 /\
 (1:Int)<(↑(3:Nat):Int) /\
 Int.toNat (1:Int)<3 /\
 (0:Int)<=2 /\
 (2:Int)<(↑(3:Nat):Int) /\
 Int.toNat (2:Int)<3 /\
 Q [.agg [.int .i64 o,.int .i64 (gt (Sh.int i64) r (Int.toNat (0:Int))),.int .i64 (gt (Sh.int i64) r (Int.toNat (1:Int))),.int .i64 (gt (Sh.int i64) r (Int.toNat (2:Int))),.int .i64 (numV kg w kb)]] [(4,.var [.int .i64 o,.int .i64 (gt (Sh.int i64) r (Int.toNat (0:Int))),.int .i64 (gt (Sh.int i64) r (Int.toNat (1:Int))),.int .i64 (gt (Sh.int i64) r (Int.toNat (2:Int))),.int .i64 (numV kg w kb)]),(7,.var [.str ks,.int .i64 kr,.int .i64 kb,.bool kg,.bool kt]),(8,.var [.arr 3 (Sh.int i64) r])]))):=by kernel_rfl
def kd (o:Int):kindSh.D:=gt kindSh kindsL o.toNat
def rg (w n j:Int):Int:=if j<n then octV w (1+j) else 0
def rL (w n:Int):List Int:=[rg w n 0,rg w n 1,rg w n 2]
def numN (w a kb:Int) (kg kt:Bool):Int:=if kt then a+4*numV kg w kb else numV kg w kb
def decL (w a o n kb:Int) (kg kt:Bool):List SV:=[.agg [.int .i64 o,.int .i64 (rg w n 0),.int .i64 (rg w n 1),.int .i64 (rg w n 2),.int .i64 (numN w a kb kg kt)]]
theorem qu9 (w b:Int):0<=lowV w b/\lowV w b<4294967296:=
 qnh (by omega) (by omega) (Int.pow_pos (by decide))
theorem qrr (w b:Int) : -2147483648<=qx4 w b/\qx4 w b<=2147483647:=
 qm3 _ _ (Int.pow_pos (by decide))
theorem qu6 (g:Bool) (w b:Int) : -2147483648<=numV g w b/\numV g w b<4294967296:=by
 have h1:=qu9 w b;have h2:=qrr w b;unfold numV;split <;> omega
theorem q8y (w i:Int) (h0:0<=i) (h3:i<3):(rL w i).set i.toNat (octV w (1+i))=rL w (i+1):=by
 rcases (by omega:i=0\/i=1\/i=2) with rfl | rfl | rfl <;> rfl
theorem q1y (w a o kr kb:Int) (ks:List UInt8) (kg kt:Bool) (hw:0<=w/\w<4294967296) (ha:0<=a/\a<=65540) {n:Int} (hn:0<=n/\n<=3) (hb:0<=kb/\kb<=32):∀ (m:Nat) (i:Int),0<=i->i<=n->(n-i).toNat=m ->
  Px.Good Tryd.prog tt G0 66 Tryd.f66.ntmps Tryd.f66.results.toList (fun rs _=>rs=decL w a o n kb kg kt) (hd Tryd.f66 0) ⟨[(0,.int .u32 w),(1,.int .i64 a),(4,.ptr 4 0),(5,.int .u32 w),(6,.int .i64 o),(7,.ptr 7 0),(8,.ptr 8 0),(18,.int .i64 n),(19,.int .i64 i)],[(4,.var [.int .i64 0,.int .i64 0,.int .i64 0,.int .i64 0,.int .i64 0]),(7,.var [.str ks,.int .i64 kr,.int .i64 kb,.bool kg,.bool kt]),(8,.var [.arr 3 (.int .i64) (rL w i)])]⟩:=by
 intro m
 induction m with
 | zero=>
  intro i hi hin hm;obtain rfl:i=n:=by omega
  have hr:=qu6 kg w kb;refine qdz cx3 _ _ _ ((qwb w a o i i kr kb ks kg kt (rL w i) _ _).mpr ?_);rw[show decide (i<i)=false from decide_eq_false (by omega),bc_f,IntWalk.i64_in (4*numV kg w kb) (by omega),IntWalk.i64_in (a+4*numV kg w kb) (by omega)];refine ⟨⟨hw,hb⟩,qap (fun h=>?_) (fun h=>?_)⟩
  ·exact ⟨by decide,by decide,by decide,by decide,by decide,by decide,by decide,by decide,by decide,by rw[decL,numN,if_pos h];rfl⟩
  ·exact ⟨by decide,by decide,by decide,by decide,by decide,by decide,by decide,by decide,by decide,by rw[decL,numN,if_neg (by rw[h];decide)];rfl⟩
 | succ m ih=>
  intro i hi hin hm;refine qdz cx3 _ _ _ ((qwb w a o n i kr kb ks kg kt (rL w i) _ _).mpr ?_);rw[show decide (i<n)=true from decide_eq_true (by omega),bc_t,IntWalk.i64_in (1+i) (by omega),IntWalk.i64_in (i+1) (by omega),q8y w i hi (by omega)];exact ⟨⟨hw,(by omega:0<=1+i/\1+i<4)⟩,hi,by show _<(3:Int);omega,by omega,(ih (i+1) (by omega) (by omega) (by omega)).only ⟨rfl,rfl,rfl,rfl,rfl,rfl,rfl,rfl,rfl,trivial⟩ ⟨rfl,rfl,rfl,trivial⟩⟩
def decV (w a:Int):List SV:=decL w a (opV w) (regs (opV w)) (kd (opV w)).2.2.1 (kd (opV w)).2.2.2.1 (kd (opV w)).2.2.2.2
def qpa (w a:Int):Prop:=(0<=w/\w<4294967296)/\0<=a/\a<=65540
def ctDec:Ctr:=⟨[.int .u32,.int .i64],fun x=>qpa x.1 x.2.1,fun x=>decV x.1 x.2.1,fun _=>[]⟩
theorem qxm (w:Int):0<=opV w/\opV w<9:=by
 have h:=q3c w 0;unfold opV
 repeat' split
 all_goals omega
theorem qyh (o:Int) (h0:0<=o) (h9:o<9):(fun b:Int=>0<=b/\b<=32) (kd o).2.2.1:=by
 rcases nine o h0 h9 with rfl | rfl | rfl | rfl | rfl | rfl | rfl | rfl | rfl <;> exact ⟨by decide,by decide⟩
theorem q1z:Held Tryd.prog G0 66 ctDec:=by
 refine Held.run cx3 (fn:=Tryd.f66) rfl rfl ⟨by decide,by decide⟩ ?_;rintro ⟨w,a,⟨⟩⟩ hp;replace hp:qpa w a:=hp;have ho:=qxm w;refine (q8e w a _ _).mpr ⟨hp.1,ho.1,by show _<(9:Int);omega,?_⟩;have hk:(kd (opV w)).2.1=regs (opV w):=qs6 _ ho.1 ho.2;have e:=q1y w a (opV w) (kd (opV w)).2.1 (kd (opV w)).2.2.1 (kd (opV w)).1 (kd (opV w)).2.2.2.1 (kd (opV w)).2.2.2.2 hp.1 hp.2 (qq6 (opV w)) (qyh _ ho.1 ho.2) _ 0 (by omega) (qq6 (opV w)).1 rfl;refine (e.post fun rs blk hq=>QC.flat hq.symm rfl (by rw[hq];rfl)).only ⟨rfl,rfl,rfl,rfl,rfl,rfl,rfl,?_,rfl,trivial⟩ ⟨rfl,rfl,?_,trivial⟩
 ·exact congrArg (fun z=>some (SV.int .i64 z)) hk
 ·rfl
def C4:CV:=(66,.inl ctDec)::C3
theorem cx4:CxOK Tryd.prog tt G0 C4:=cx3.cons q1z (fn:=Tryd.f66) rfl rfl rfl
def qm2 (o a b c n:Int):List (Nat × LB):=[(2,.var [.int .i64 o,.int .i64 a,.int .i64 b,.int .i64 c,.int .i64 n]),(5,.var [.str (gt (Sh.str.pair ((Sh.int i64).pair ((Sh.int i64).pair (Sh.bool.pair Sh.bool)))) kindsL o.toNat).1,.int .i64 (gt (Sh.str.pair ((Sh.int i64).pair ((Sh.int i64).pair (Sh.bool.pair Sh.bool)))) kindsL o.toNat).2.1,.int .i64 (gt (Sh.str.pair ((Sh.int i64).pair ((Sh.int i64).pair (Sh.bool.pair Sh.bool)))) kindsL o.toNat).2.2.1,.bool (gt (Sh.str.pair ((Sh.int i64).pair ((Sh.int i64).pair (Sh.bool.pair Sh.bool)))) kindsL o.toNat).2.2.2.1,.bool (gt (Sh.str.pair ((Sh.int i64).pair ((Sh.int i64).pair (Sh.bool.pair Sh.bool)))) kindsL o.toNat).2.2.2.2])]
theorem q8h (o a b c n t:Int) (Q:QT) (R:RT):sy tt G0 C4 Tryd.f75.ntmps Tryd.f75.results.toList Q R 1000 [.code (qaf Tryd.f75)] (entry [.pair (.int .i64) (.pair (.int .i64) (.pair (.int .i64) (.pair (.int .i64) (.int .i64)))),.int .i64] ((o,a,b,c,n),t,())) =
  (0<=o /\
 o<(↑(9:Nat):Int) /\
 bc (gt (Sh.str.pair ((Sh.int i64).pair ((Sh.int i64).pair (Sh.bool.pair Sh.bool)))) kindsL o.toNat).2.2.2.2 ((4:Int)≠0 /\
 ctLow.pre (u32.wrap (i64.wrap ((i64.wrap (n-t)).tdiv (4:Int))),(gt (Sh.str.pair ((Sh.int i64).pair ((Sh.int i64).pair (Sh.bool.pair Sh.bool)))) kindsL o.toNat).2.2.1,()) /\
 (0:Int)<=24 /\
 (0:Int)<=16 /\
 (0:Int)<=8 /\
 Q [.int .u32 (bitI BinOp.or u32 (bitI BinOp.or u32 (bitI BinOp.or u32 (bitI BinOp.or u32 (u32.wrap (lowV (u32.wrap (i64.wrap ((i64.wrap (n-t)).tdiv (4:Int)))) (gt (Sh.str.pair ((Sh.int i64).pair ((Sh.int i64).pair (Sh.bool.pair Sh.bool)))) kindsL o.toNat).2.2.1)) (u32.wrap (u32.wrap o*2 ^ min (Int.toNat (24:Int)) u32.bits))) (u32.wrap (u32.wrap (u8.wrap a)*2 ^ min (Int.toNat (16:Int)) u32.bits))) (u32.wrap (u32.wrap (u8.wrap b)*2 ^ min (Int.toNat (8:Int)) u32.bits))) (u32.wrap (u8.wrap c)))] (qm2 o a b c n)) (ctLow.pre (u32.wrap n,(gt (Sh.str.pair ((Sh.int i64).pair ((Sh.int i64).pair (Sh.bool.pair Sh.bool)))) kindsL o.toNat).2.2.1,()) /\
 (0:Int)<=24 /\
 (0:Int)<=16 /\
 (0:Int)<=8 /\
 Q [.int .u32 (bitI BinOp.or u32 (bitI BinOp.or u32 (bitI BinOp.or u32 (bitI BinOp.or u32 (u32.wrap (lowV (u32.wrap n) (gt (Sh.str.pair ((Sh.int i64).pair ((Sh.int i64).pair (Sh.bool.pair Sh.bool)))) kindsL o.toNat).2.2.1)) (u32.wrap (u32.wrap o*2 ^ min (Int.toNat (24:Int)) u32.bits))) (u32.wrap (u32.wrap (u8.wrap a)*2 ^ min (Int.toNat (16:Int)) u32.bits))) (u32.wrap (u32.wrap (u8.wrap b)*2 ^ min (Int.toNat (8:Int)) u32.bits))) (u32.wrap (u8.wrap c)))] (qm2 o a b c n))):=by kernel_rfl
theorem qt8 (op:BinOp) (a b:Int):0<=bitI op .u32 a b/\bitI op .u32 a b<4294967296:=by
 unfold bitI;split <;> simp only[IntKind.wrap_u32] <;> omega
def numW (o n t:Int):Int:=if (kd o).2.2.2.2 then (n-t).tdiv 4 else n
def asmV (o a b c n t:Int):Int:=
 bitI .or .u32 (bitI .or .u32 (bitI .or .u32 (bitI .or .u32 (u32.wrap (lowV (u32.wrap (numW o n t)) (kd o).2.2.1)) (u32.wrap (u32.wrap o*2 ^ min (Int.toNat 24) u32.bits)))
  (u32.wrap (u32.wrap (u8.wrap a)*2 ^ min (Int.toNat 16) u32.bits))) (u32.wrap (u32.wrap (u8.wrap b)*2 ^ min (Int.toNat 8) u32.bits))) (u32.wrap (u8.wrap c))
def qxi (o n t:Int):Prop:=(0<=o/\o<9)/\(-4611686018427387904<=n/\n<=4611686018427387904)/\0<=t/\t<=65540
abbrev ctAsm:Ctr:=⟨[.pair (.int .i64) (.pair (.int .i64) (.pair (.int .i64) (.pair (.int .i64) (.int .i64)))),.int .i64],fun x=>qxi x.1.1 x.1.2.2.2.2 x.2.1,fun x=>[.int .u32 (asmV x.1.1 x.1.2.1 x.1.2.2.1 x.1.2.2.2.1 x.1.2.2.2.2 x.2.1)],fun _=>[]⟩
theorem q7o (o a b c n t:Int) (h:qxi o n t) (R:List Item->PS->Prop):sy tt G0 C4 Tryd.f75.ntmps Tryd.f75.results.toList (QC ctAsm ((o,a,b,c,n),t,())) R 1000 [.code (qaf Tryd.f75)] (entry [.pair (.int .i64) (.pair (.int .i64) (.pair (.int .i64) (.pair (.int .i64) (.int .i64)))),.int .i64] ((o,a,b,c,n),t,())):=by
 obtain ⟨ho,hn,ht⟩:=h;have hb:=qyh o ho.1 ho.2;have hq : -4611686018427453445<=(n-t).tdiv 4/\(n-t).tdiv 4<=4611686018427453445:=by
  rcases Int.le_total 0 (n-t) with h | h
  ·rw[Int.tdiv_eq_ediv_of_nonneg h];omega
  ·rw[show n-t = -(t-n) by omega,Int.neg_tdiv,Int.tdiv_eq_ediv_of_nonneg (by omega)];omega
 have hw:∀ z:Int,0<=u32.wrap z/\u32.wrap z<4294967296:=fun z=>by rw[IntKind.wrap_u32];omega
 refine (q8h o a b c n t _ _).mpr ⟨ho.1,ho.2,?_⟩;rw[IntWalk.i64_in (n-t) (by omega),IntWalk.i64_in ((n-t).tdiv 4) (by omega)];refine qap (fun hk=>?_) (fun hk=>?_)
 ·refine ⟨by decide,⟨hw _,hb⟩,by decide,by decide,by decide,QC.flat ?_ rfl rfl⟩;have e:numW o n t=(n-t).tdiv 4:=if_pos hk;simp only[asmV,e];rfl
 ·refine ⟨⟨hw _,hb⟩,by decide,by decide,by decide,QC.flat ?_ rfl rfl⟩;have hk':(kd o).2.2.2.2=false:=hk;have e:numW o n t=n:=if_neg (by rw[hk'];decide);simp only[asmV,e];rfl
theorem q19:Held Tryd.prog G0 75 ctAsm:=
 Held.run cx4 (fn:=Tryd.f75) rfl rfl ⟨by decide,by decide⟩ fun x hp=>q7o x.1.1 x.1.2.1 x.1.2.2.1 x.1.2.2.2.1 x.1.2.2.2.2 x.2.1 hp _
def C7:CV:=(75,.inl ctAsm)::C4
set_option maxRecDepth 100000
theorem q8d (o a b c n t:Int) (Q:QT) (R:RT):sy tt G0 C7 Tryd.f69.ntmps Tryd.f69.results.toList Q R 1000 [.code (qaf Tryd.f69)] (entry [.pair (.int .i64) (.pair (.int .i64) (.pair (.int .i64) (.pair (.int .i64) (.int .i64)))),.int .i64] ((o,a,b,c,n),t,())) =
  (bc (decide (o<0)) (true=true /\
 Q [.int .u32 0,.int .i64 20] [(2,.var [.int .i64 o,.int .i64 a,.int .i64 b,.int .i64 c,.int .i64 n])]) (bc (bif false then true else decide (9<=o)) (Q [.int .u32 0,.int .i64 20] [(2,.var [.int .i64 o,.int .i64 a,.int .i64 b,.int .i64 c,.int .i64 n])]) (ctAsm.pre ((o,a,b,c,n),t,()) /\
 ctDec.pre (asmV o a b c n t,t,()) /\
 bc (!decide ([opV (asmV o a b c n t),rg (asmV o a b c n t) (regs (opV (asmV o a b c n t))) (0:Int),rg (asmV o a b c n t) (regs (opV (asmV o a b c n t))) (1:Int),rg (asmV o a b c n t) (regs (opV (asmV o a b c n t))) (2:Int),numN (asmV o a b c n t) t (kd (opV (asmV o a b c n t))).2.2.1 (kd (opV (asmV o a b c n t))).2.2.2.1 (kd (opV (asmV o a b c n t))).2.2.2.2]=[o,a,b,c,n])) (Q [.int .u32 0,.int .i64 20] [(2,.var [.int .i64 o,.int .i64 a,.int .i64 b,.int .i64 c,.int .i64 n])]) (Q [.int .u32 (asmV o a b c n t),.int .i64 0] [(2,.var [.int .i64 o,.int .i64 a,.int .i64 b,.int .i64 c,.int .i64 n])])))):=by kernel_rfl
def decN (w t:Int):List Int:=[opV w,rg w (regs (opV w)) 0,rg w (regs (opV w)) 1,rg w (regs (opV w)) 2,numN w t (kd (opV w)).2.2.1 (kd (opV w)).2.2.2.1 (kd (opV w)).2.2.2.2]
def encB (o a b c n t:Int):Bool:=decide (0<=o)&&(decide (o<9)&&decide (decN (asmV o a b c n t) t=[o,a,b,c,n]))
def encW (o a b c n t:Int):Int:=if encB o a b c n t then asmV o a b c n t else 0
def encE (o a b c n t:Int):Int:=if encB o a b c n t then 0 else 20
abbrev encV (o a b c n t:Int):List SV:=[.int .u32 (encW o a b c n t),.int .i64 (encE o a b c n t)]
theorem q97 {o a b c n t:Int} (h:encB o a b c n t=true):encV o a b c n t=[.int .u32 (asmV o a b c n t),.int .i64 0]:=by simp[encV,encW,encE,h]
theorem qy1 {o a b c n t:Int} (h:encB o a b c n t=false):encV o a b c n t=[.int .u32 0,.int .i64 20]:=by simp[encV,encW,encE,h]
def qxg (n t:Int):Prop:=(-4611686018427387904<=n/\n<=4611686018427387904)/\0<=t/\t<=65540
abbrev ctEnc:Ctr:=⟨[.pair (.int .i64) (.pair (.int .i64) (.pair (.int .i64) (.pair (.int .i64) (.int .i64)))),.int .i64],fun x=>qxg x.1.2.2.2.2 x.2.1,fun x=>encV x.1.1 x.1.2.1 x.1.2.2.1 x.1.2.2.2.1 x.1.2.2.2.2 x.2.1,fun _=>[]⟩
theorem q69 (o a b c n t:Int) (h:qxg n t) (R:List Item->PS->Prop):sy tt G0 C7 Tryd.f69.ntmps Tryd.f69.results.toList (QC ctEnc ((o,a,b,c,n),t,())) R 1000 [.code (qaf Tryd.f69)] (entry [.pair (.int .i64) (.pair (.int .i64) (.pair (.int .i64) (.pair (.int .i64) (.int .i64)))),.int .i64] ((o,a,b,c,n),t,())):=by
 refine (q8d o a b c n t _ _).mpr (qap (fun h1=>?_) (fun h1=>?_))
 ·refine ⟨rfl,QC.flat ?_ rfl rfl⟩;have:¬ 0<=o:=by have:=of_decide_eq_true h1;omega
  exact qy1 (by simp[encB,this])
 ·rw[cond_false];refine qap (fun h2=>QC.flat ?_ rfl rfl) (fun h2=>?_)
  ·have:¬ o<9:=by have:=of_decide_eq_true h2;omega
   exact qy1 (by simp[encB,this])
  ·have k1:=of_decide_eq_false h1;have k2:=of_decide_eq_false h2;have hw:=qt8 .or (bitI .or .u32 (bitI .or .u32 (bitI .or .u32 (u32.wrap (lowV (u32.wrap (numW o n t)) (kd o).2.2.1)) (u32.wrap (u32.wrap o*2 ^ min (Int.toNat 24) u32.bits))) (u32.wrap (u32.wrap (u8.wrap a)*2 ^ min (Int.toNat 16) u32.bits))) (u32.wrap (u32.wrap (u8.wrap b)*2 ^ min (Int.toNat 8) u32.bits))) (u32.wrap (u8.wrap c));have b1:decide (0<=o)=true:=decide_eq_true (by omega);have b2:decide (o<9)=true:=decide_eq_true (by omega);have hA:qxi o n t:=⟨⟨by omega,by omega⟩,h.1,h.2⟩;refine ⟨hA,⟨hw,h.2⟩,qap (fun h3=>QC.flat ?_ rfl rfl) (fun h3=>QC.flat ?_ rfl rfl)⟩
   ·refine qy1 ?_;have:decide (decN (asmV o a b c n t) t=[o,a,b,c,n])=false:=by
     have h4:(!decide (decN (asmV o a b c n t) t=[o,a,b,c,n]))=true:=h3;simpa using h4
    rw[encB,this,b1,b2];rfl
   ·refine q97 ?_;have:decide (decN (asmV o a b c n t) t=[o,a,b,c,n])=true:=by
     have h4:(!decide (decN (asmV o a b c n t) t=[o,a,b,c,n]))=false:=h3;simpa using h4
    rw[encB,this,b1,b2];rfl
theorem cx7:CxOK Tryd.prog tt G0 C7:=cx4.cons q19 (fn:=Tryd.f75) rfl rfl rfl
theorem q1v:Held Tryd.prog G0 69 ctEnc:=
 Held.run cx7 (fn:=Tryd.f69) rfl rfl ⟨by decide,by decide⟩ fun x hp=>q69 x.1.1 x.1.2.1 x.1.2.2.1 x.1.2.2.2.1 x.1.2.2.2.2 x.2.1 hp _
abbrev uB:Sh:=.int .u8
abbrev u4:Sh:=.int .u32
abbrev iI:Sh:=.int .i64
abbrev i5s:Sh:=.pair iI (.pair iI (.pair iI (.pair iI iI)))
abbrev liS:Sh:=.pair (.sl u4) (.pair (.sl .bool) (.sl iI))
abbrev LiT:Type:=List Int × List Bool × List Int
abbrev gtB (l:List Int) (i:Nat):Int:=gt uB l i
abbrev gtW (l:List Int) (i:Nat):Int:=gt u4 l i
abbrev gtI (l:List Int) (i:Nat):Int:=gt iI l i
abbrev gtM (l:List Bool) (i:Nat):Bool:=gt Sh.bool l i
def qam (b:List Int):Int:=bitI BinOp.or i64 (i64.wrap (i64.wrap (gtB b 0)*(2:Int) ^ min 8 i64.bits)) (i64.wrap (gtB b 1))
def pre2 (b:List Int):Prop:=2<=b.length
def ctNumb:Ctr:=⟨[.sl uB],fun x=>pre2 x.1,fun x=>[.int .i64 (qam x.1)],fun _=>[]⟩
def q5m (n:Int):Prop:=0<=n/\n<1099511627776
def ctMb:Ctr:=⟨[iI],fun x=>q5m x.1,fun x=>[.int .i64 (((show Int from x.1)+7) / 8)],fun _=>[]⟩
set_option maxRecDepth 100000
theorem qzk (b:List Int) (Q:QT) (R:RT):sy tt G0 [] Tryd.f25.ntmps Tryd.f25.results.toList Q (fun it S=>R it (qar [0,4] [12] S)) 1000 [.code (qaf Tryd.f25)] (entry [.sl uB] (b,())) =
  ((4:Int)≠0 /\
 bc (decide ((b.length:Int).tmod (4:Int)≠0)) (Q [.nils,.int .i64 61] []) ((4:Int)≠0 /\
 (0:Int)<=0 /\
 0<=i64.wrap ((b.length:Int).tdiv (4:Int)) /\
 i64.wrap ((b.length:Int).tdiv (4:Int))<2 ^ 24 /\
 (↑(4:Nat):Int)*i64.wrap ((b.length:Int).tdiv (4:Int))<=2 ^ 48 /\
 R (hd Tryd.f25 0) { env:=[(0,.sl uB b),(4,.win true u4 12 0 0)],blk:=[(12,.row 50 u4 (List.replicate (0) u4.dflt))] })):=by kernel_rfl
theorem qor (b o:List Int) (Q:QT) (R:RT):sy tt G0 [] Tryd.f25.ntmps Tryd.f25.results.toList Q (fun it S=>R it (qar [0,4] [42] S)) 1000 (hd Tryd.f25 0) ⟨[(0,.sl uB b),(4,.win true u4 4 0 o.length)],[(4,.row 50 u4 o)]⟩ =
  (bc (decide ((0:Int)<(b.length:Int))) ((0:Int)<=0 /\
 (0:Int)<(b.length:Int) /\
 (0:Int)<=24 /\
 (0:Int)<=1 /\
 (1:Int)<(b.length:Int) /\
 (0:Int)<=16 /\
 (0:Int)<=2 /\
 (2:Int)<(b.length:Int) /\
 (0:Int)<=8 /\
 (0:Int)<=3 /\
 (3:Int)<(b.length:Int) /\
 0+1<=([(bitI BinOp.or u32 (bitI BinOp.or u32 (bitI BinOp.or u32 (u32.wrap (u32.wrap (gtB b (0))*2 ^ min (24) u32.bits)) (u32.wrap (u32.wrap (gtB b (1))*2 ^ min (16) u32.bits))) (u32.wrap (u32.wrap (gtB b (2))*2 ^ min (8) u32.bits))) (u32.wrap (gtB b (3))))]:List u4.D).length /\
 o.length=o.length /\
 0=0 /\
 o.length+(([(bitI BinOp.or u32 (bitI BinOp.or u32 (bitI BinOp.or u32 (u32.wrap (u32.wrap (gtB b (0))*2 ^ min (24) u32.bits)) (u32.wrap (u32.wrap (gtB b (1))*2 ^ min (16) u32.bits))) (u32.wrap (u32.wrap (gtB b (2))*2 ^ min (8) u32.bits))) (u32.wrap (gtB b (3))))]:List u4.D)).length<2 ^ 30 /\
 4<=2 ^ 10 /\
 (0:Int)<=4 /\
 (4:Int)<=(b.length:Int) /\
 R (hd Tryd.f25 0) { env:=[(0,.sl uB (List.drop (4) b)),(4,.win true u4 42 0 (o.length+(([(bitI BinOp.or u32 (bitI BinOp.or u32 (bitI BinOp.or u32 (u32.wrap (u32.wrap (gtB b (0))*2 ^ min (24) u32.bits)) (u32.wrap (u32.wrap (gtB b (1))*2 ^ min (16) u32.bits))) (u32.wrap (u32.wrap (gtB b (2))*2 ^ min (8) u32.bits))) (u32.wrap (gtB b (3))))]:List u4.D)).length))],blk:=[(42,.row 50 u4 (o++([(bitI BinOp.or u32 (bitI BinOp.or u32 (bitI BinOp.or u32 (u32.wrap (u32.wrap (gtB b (0))*2 ^ min (24) u32.bits)) (u32.wrap (u32.wrap (gtB b (1))*2 ^ min (16) u32.bits))) (u32.wrap (u32.wrap (gtB b (2))*2 ^ min (8) u32.bits))) (u32.wrap (gtB b (3))))]:List u4.D)))] }) (Q [.win true u4 4 0 o.length,.int .i64 0] [(4,.row 50 u4 o)])):=by kernel_rfl
theorem qzt (l:List Int) (Q:QT) (R:RT):sy tt G0 [] Tryd.f40.ntmps Tryd.f40.results.toList Q (fun it S=>R it (qar [3,10,11,12] [9] S)) 1000 [.code (qaf Tryd.f40)] (entry [.sl u4] (l,())) =
  ((0:Int)<=0 /\
 0<=i64.wrap ((4:Int)*(l.length:Int)) /\
 i64.wrap ((4:Int)*(l.length:Int))<2 ^ 24 /\
 (↑(1:Nat):Int)*i64.wrap ((4:Int)*(l.length:Int))<=2 ^ 48 /\
 R (hd Tryd.f40 0) { env:=[(3,.win true uB 9 0 0),(10,.sl u4 l),(11,.int .i64 (l.length:Int)),(12,.int .i64 0)],blk:=[(9,.row 5 uB (List.replicate (0) uB.dflt))] }):=by kernel_rfl
theorem qov (l o:List Int) (i:Nat) (Q:QT) (R:RT):sy tt G0 [] Tryd.f40.ntmps Tryd.f40.results.toList Q (fun it S=>R it (qar [3,10,11,12] [29] S)) 1000 (hd Tryd.f40 0) ⟨[(3,.win true uB 3 0 o.length),(10,.sl u4 l),(11,.int .i64 l.length),(12,.int .i64 (i:Nat))],[(3,.row 5 uB o)]⟩ =
  (bc (decide ((i:Int)<(l.length:Int))) ((0:Int)<=(i:Int) /\
 (i:Int)<(l.length:Int) /\
 (0:Int)<=24 /\
 (0:Int)<=16 /\
 (0:Int)<=8 /\
 0+4<=(((((List.replicate 4 uB.dflt).set 0 (u8.wrap (Int.fdiv (gtW l (i:Int).toNat) ((2:Int) ^ min (24) u32.bits)))).set 1 (u8.wrap (Int.fdiv (gtW l (i:Int).toNat) ((2:Int) ^ min (16) u32.bits)))).set 2 (u8.wrap (Int.fdiv (gtW l (i:Int).toNat) ((2:Int) ^ min (8) u32.bits)))).set 3 (u8.wrap (gtW l (i:Int).toNat))).length /\
 o.length=o.length /\
 0=0 /\
 o.length+(winL uB 0 4 (((((List.replicate 4 uB.dflt).set 0 (u8.wrap (Int.fdiv (gtW l (i:Int).toNat) ((2:Int) ^ min (24) u32.bits)))).set 1 (u8.wrap (Int.fdiv (gtW l (i:Int).toNat) ((2:Int) ^ min (16) u32.bits)))).set 2 (u8.wrap (Int.fdiv (gtW l (i:Int).toNat) ((2:Int) ^ min (8) u32.bits)))).set 3 (u8.wrap (gtW l (i:Int).toNat)))).length<2 ^ 30 /\
 1<=2 ^ 10 /\
 R (hd Tryd.f40 0) { env:=[(3,.win true uB 29 0 (o.length+(winL uB 0 4 (((((List.replicate 4 uB.dflt).set 0 (u8.wrap (Int.fdiv (gtW l (i:Int).toNat) ((2:Int) ^ min (24) u32.bits)))).set 1 (u8.wrap (Int.fdiv (gtW l (i:Int).toNat) ((2:Int) ^ min (16) u32.bits)))).set 2 (u8.wrap (Int.fdiv (gtW l (i:Int).toNat) ((2:Int) ^ min (8) u32.bits)))).set 3 (u8.wrap (gtW l (i:Int).toNat)))).length)),(10,.sl u4 l),(11,.int .i64 (l.length:Int)),(12,.int .i64 (i64.wrap ((i:Int)+1)))],blk:=[(29,.row 5 uB (o++winL uB 0 4 (((((List.replicate 4 uB.dflt).set 0 (u8.wrap (Int.fdiv (gtW l (i:Int).toNat) ((2:Int) ^ min (24) u32.bits)))).set 1 (u8.wrap (Int.fdiv (gtW l (i:Int).toNat) ((2:Int) ^ min (16) u32.bits)))).set 2 (u8.wrap (Int.fdiv (gtW l (i:Int).toNat) ((2:Int) ^ min (8) u32.bits)))).set 3 (u8.wrap (gtW l (i:Int).toNat)))))] }) (Q [.win true uB 3 0 o.length] [(3,.row 5 uB o)])):=by kernel_rfl
theorem qzr (o:Int) (Q:QT) (R:RT):sy tt G0 [] Tryd.f51.ntmps Tryd.f51.results.toList Q R 1000 [.code (qaf Tryd.f51)] (entry [iI] (o,())) =
  (bc (decide (o=5)) (bc (decide (o=5)) (Q [.int .u32 16777215] []) (bc (decide (o=7)) (bc (decide (o=7)) (Q [.int .u32 65535] []) (Q [.int .u32 0] [])) (bc (decide (o=8)) (Q [.int .u32 65535] []) (Q [.int .u32 0] [])))) (bc (decide (o=6)) (Q [.int .u32 16777215] []) (bc (decide (o=7)) (bc (decide (o=7)) (Q [.int .u32 65535] []) (Q [.int .u32 0] [])) (bc (decide (o=8)) (Q [.int .u32 65535] []) (Q [.int .u32 0] []))))):=by kernel_rfl
theorem qv6 (n:Int) (Q:QT) (R:RT):sy tt G0 [] Tryd.f59.ntmps Tryd.f59.results.toList Q R 1000 [.code (qaf Tryd.f59)] (entry [iI] (n,())) =
  ((8:Int)≠0 /\
 Q [.int .i64 (i64.wrap ((i64.wrap (i64.wrap (n+8)-1)).tdiv (8:Int)))] []):=by kernel_rfl
theorem q4c (b:List Int) (Q:QT) (R:RT):sy tt G0 [] Tryd.f58.ntmps Tryd.f58.results.toList Q R 1000 [.code (qaf Tryd.f58)] (entry [.sl uB] (b,())) =
  ((0:Int)<=0 /\
 (0:Int)<(b.length:Int) /\
 (0:Int)<=8 /\
 (0:Int)<=1 /\
 (1:Int)<(b.length:Int) /\
 Q [.int .i64 (bitI BinOp.or i64 (i64.wrap (i64.wrap (gtB b (0))*2 ^ min (8) i64.bits)) (i64.wrap (gtB b (1))))] []):=by kernel_rfl
theorem q4n (b:List Int) (n:Int) (Q:QT) (R:RT):sy tt G0 [] Tryd.f44.ntmps Tryd.f44.results.toList Q R 1000 [.code (qaf Tryd.f44)] (qao [.row 5 uB,.dat iI] (b,n,())) =
  ((0:Int)<=8 /\
 0+2<=(((List.replicate 2 uB.dflt).set 0 (u8.wrap (n.fdiv ((2:Int) ^ min (8) i64.bits)))).set 1 (u8.wrap n)).length /\
 b.length=b.length /\
 0=0 /\
 b.length+(winL uB 0 2 (((List.replicate 2 uB.dflt).set 0 (u8.wrap (n.fdiv ((2:Int) ^ min (8) i64.bits)))).set 1 (u8.wrap n))).length<2 ^ 30 /\
 1<=2 ^ 10 /\
 Q [.win true uB 12 0 (b.length+(winL uB 0 2 (((List.replicate 2 uB.dflt).set 0 (u8.wrap (n.fdiv ((2:Int) ^ min (8) i64.bits)))).set 1 (u8.wrap n))).length)] [(11,.row 5 uB (((List.replicate 2 uB.dflt).set 0 (u8.wrap (n.fdiv ((2:Int) ^ min (8) i64.bits)))).set 1 (u8.wrap n))),(12,.row 5 uB (b++winL uB 0 2 (((List.replicate 2 uB.dflt).set 0 (u8.wrap (n.fdiv ((2:Int) ^ min (8) i64.bits)))).set 1 (u8.wrap n))))]):=by kernel_rfl
theorem q7t (b:List Int) (n:Int) (Q:QT) (R:RT):sy tt G0 [] Tryd.f60.ntmps Tryd.f60.results.toList Q (fun it S=>R it (qar [0,5,10,11] [8] S)) 1000 [.code (qaf Tryd.f60)] (entry [.sl uB,iI] (b,n,())) =
  (0<=n /\
 n<=n /\
 n<2 ^ 24 /\
 (↑(1:Nat):Int)*n<=2 ^ 48 /\
 R (hd Tryd.f60 0) { env:=[(0,.sl uB b),(5,.win true Sh.bool 8 0 n.toNat),(10,.int .i64 (n.toNat:Int)),(11,.int .i64 0)],blk:=[(8,.row 4 Sh.bool (List.replicate n.toNat Sh.bool.dflt))] }):=by kernel_rfl
theorem qvy (b:List Int) (o:List Bool) (i:Nat) (Q:QT) (R:RT):sy tt G0 [] Tryd.f60.ntmps Tryd.f60.results.toList Q (fun it S=>R it (qar [0,5,10,11] [5] S)) 1000 (hd Tryd.f60 0) ⟨[(0,.sl uB b),(5,.win true .bool 5 0 o.length),(10,.int .i64 o.length),(11,.int .i64 (i:Nat))],[(5,.row 4 .bool o)]⟩ =
  (bc (decide ((i:Int)<(o.length:Int))) ((8:Int)≠0 /\
 0<=i64.wrap ((i:Int).tdiv (8:Int)) /\
 i64.wrap ((i:Int).tdiv (8:Int))<(b.length:Int) /\
 (8:Int)≠0 /\
 (0:Int)<=(i:Int).tmod (8:Int) /\
 (0:Int)<=(i:Int) /\
 (i:Int)<(o.length:Int) /\
 0+(i:Int).toNat<o.length /\
 R (hd Tryd.f60 0) { env:=[(0,.sl uB b),(5,.win true Sh.bool 5 0 o.length),(10,.int .i64 (o.length:Int)),(11,.int .i64 (i64.wrap ((i:Int)+1)))],blk:=[(5,.row 4 Sh.bool (o.set (0+(i:Int).toNat) (decide (bitI BinOp.and u8 (Int.fdiv (gtB b (i64.wrap ((i:Int).tdiv (8:Int))).toNat) ((2:Int) ^ min ((i:Int).tmod (8:Int)).toNat u8.bits)) (1:Int)=1))))] }) (Q [.win true Sh.bool 5 0 o.length] [(5,.row 4 Sh.bool o)])):=by kernel_rfl
theorem q37 (l:List Int) (a b:Int) (Q:QT) (R:RT):sy tt G0 [] Tryd.f34.ntmps Tryd.f34.results.toList Q R 1000 [.code (qaf Tryd.f34)] (entry [.sl u4,iI,iI] (l,a,b,())) =
  (0<=i64.wrap ((l.length:Int)+b) /\
 i64.wrap ((l.length:Int)+b)<=i64.wrap ((l.length:Int)+b) /\
 i64.wrap ((l.length:Int)+b)<2 ^ 24 /\
 (↑(4:Nat):Int)*i64.wrap ((l.length:Int)+b)<=2 ^ 48 /\
 0<=a /\
 a<=(l.length:Int) /\
 0+(i64.wrap ((l.length:Int)+b)).toNat<=(List.replicate (i64.wrap ((l.length:Int)+b)).toNat u4.dflt).length /\
 0<=i64.wrap (a+b) /\
 i64.wrap (a+b)<=(↑(i64.wrap ((l.length:Int)+b)).toNat:Int) /\
 0+(i64.wrap ((l.length:Int)+b)).toNat<=(setRow (List.replicate (i64.wrap ((l.length:Int)+b)).toNat u4.dflt) 0 (List.take (i64.wrap ((l.length:Int)+b)).toNat (List.take a.toNat l))).length /\
 0<=a /\
 a<=(l.length:Int) /\
 0+(i64.wrap (a+b)).toNat+((i64.wrap ((l.length:Int)+b)).toNat-(i64.wrap (a+b)).toNat)<=(setRow (List.replicate (i64.wrap ((l.length:Int)+b)).toNat u4.dflt) 0 (List.take (i64.wrap ((l.length:Int)+b)).toNat (List.take a.toNat l))).length /\
 Q [.win true u4 12 0 (i64.wrap ((l.length:Int)+b)).toNat] [(12,.row 50 u4 (setRow (setRow (List.replicate (i64.wrap ((l.length:Int)+b)).toNat u4.dflt) 0 (List.take (i64.wrap ((l.length:Int)+b)).toNat (List.take a.toNat l))) (0+(i64.wrap (a+b)).toNat) (List.take ((i64.wrap ((l.length:Int)+b)).toNat-(i64.wrap (a+b)).toNat) (List.drop a.toNat l))))]):=by kernel_rfl
theorem q38 (l:List Bool) (a b:Int) (Q:QT) (R:RT):sy tt G0 [] Tryd.f35.ntmps Tryd.f35.results.toList Q R 1000 [.code (qaf Tryd.f35)] (entry [.sl .bool,iI,iI] (l,a,b,())) =
  (0<=i64.wrap ((l.length:Int)+b) /\
 i64.wrap ((l.length:Int)+b)<=i64.wrap ((l.length:Int)+b) /\
 i64.wrap ((l.length:Int)+b)<2 ^ 24 /\
 (↑(1:Nat):Int)*i64.wrap ((l.length:Int)+b)<=2 ^ 48 /\
 0<=a /\
 a<=(l.length:Int) /\
 0+(i64.wrap ((l.length:Int)+b)).toNat<=(List.replicate (i64.wrap ((l.length:Int)+b)).toNat Sh.bool.dflt).length /\
 0<=i64.wrap (a+b) /\
 i64.wrap (a+b)<=(↑(i64.wrap ((l.length:Int)+b)).toNat:Int) /\
 0+(i64.wrap ((l.length:Int)+b)).toNat<=(setRow (List.replicate (i64.wrap ((l.length:Int)+b)).toNat Sh.bool.dflt) 0 (List.take (i64.wrap ((l.length:Int)+b)).toNat (List.take a.toNat l))).length /\
 0<=a /\
 a<=(l.length:Int) /\
 0+(i64.wrap (a+b)).toNat+((i64.wrap ((l.length:Int)+b)).toNat-(i64.wrap (a+b)).toNat)<=(setRow (List.replicate (i64.wrap ((l.length:Int)+b)).toNat Sh.bool.dflt) 0 (List.take (i64.wrap ((l.length:Int)+b)).toNat (List.take a.toNat l))).length /\
 Q [.win true Sh.bool 12 0 (i64.wrap ((l.length:Int)+b)).toNat] [(12,.row 4 Sh.bool (setRow (setRow (List.replicate (i64.wrap ((l.length:Int)+b)).toNat Sh.bool.dflt) 0 (List.take (i64.wrap ((l.length:Int)+b)).toNat (List.take a.toNat l))) (0+(i64.wrap (a+b)).toNat) (List.take ((i64.wrap ((l.length:Int)+b)).toNat-(i64.wrap (a+b)).toNat) (List.drop a.toNat l))))]):=by kernel_rfl
theorem q72 (l:List Int) (f b:Int) (Q:QT) (R:RT):sy tt G0 [] Tryd.f36.ntmps Tryd.f36.results.toList Q (fun it S=>R it (qar [1,2,7,10,11,12] [7] S)) 1000 [.code (qaf Tryd.f36)] (entry [.sl iI,iI,iI] (l,f,b,())) =
  (R (hd Tryd.f36 0) { env:=[(1,.int .i64 f),(2,.int .i64 b),(7,.nils),(10,.sl iI l),(11,.int .i64 (l.length:Int)),(12,.int .i64 0)],blk:=[] }):=by kernel_rfl
theorem q4d (l:List Int) (f b:Int) (i:Nat) (Q:QT) (R:RT):sy tt G0 [] Tryd.f36.ntmps Tryd.f36.results.toList Q (fun it S=>R it (qar [1,2,7,10,11,12] [25] S)) 1000 (hd Tryd.f36 0) ⟨[(1,.int .i64 f),(2,.int .i64 b),(7,.nils),(10,.sl iI l),(11,.int .i64 l.length),(12,.int .i64 (i:Nat))],[]⟩ =
  (bc (decide ((i:Int)<(l.length:Int))) ((0:Int)<=(i:Int) /\
 (i:Int)<(l.length:Int) /\
 bc (decide (f<=gtI l (i:Int).toNat)) (0+1<=([(i64.wrap (gtI l (i:Int).toNat+b))]:List iI.D).length /\
 (([(i64.wrap (gtI l (i:Int).toNat+b))]:List iI.D)).length<2 ^ 30 /\
 8<=2 ^ 10 /\
 R (hd Tryd.f36 0) { env:=[(1,.int .i64 f),(2,.int .i64 b),(7,.win true iI 25 0 1),(10,.sl iI l),(11,.int .i64 (l.length:Int)),(12,.int .i64 (i64.wrap ((i:Int)+1)))],blk:=[(25,.row 3 iI (([(i64.wrap (gtI l (i:Int).toNat+b))]:List iI.D)))] }) (0+1<=([(gtI l (i:Int).toNat)]:List iI.D).length /\
 (([(gtI l (i:Int).toNat)]:List iI.D)).length<2 ^ 30 /\
 8<=2 ^ 10 /\
 R (hd Tryd.f36 0) { env:=[(1,.int .i64 f),(2,.int .i64 b),(7,.win true iI 25 0 1),(10,.sl iI l),(11,.int .i64 (l.length:Int)),(12,.int .i64 (i64.wrap ((i:Int)+1)))],blk:=[(25,.row 3 iI (([(gtI l (i:Int).toNat)]:List iI.D)))] })) (Q [.nils] [])):=by kernel_rfl
theorem qv5 (l o:List Int) (f b:Int) (i:Nat) (Q:QT) (R:RT):sy tt G0 [] Tryd.f36.ntmps Tryd.f36.results.toList Q (fun it S=>R it (qar [1,2,7,10,11,12] [25] S)) 1000 (hd Tryd.f36 0) ⟨[(1,.int .i64 f),(2,.int .i64 b),(7,.win true iI 7 0 o.length),(10,.sl iI l),(11,.int .i64 l.length),(12,.int .i64 (i:Nat))],[(7,.row 3 iI o)]⟩ =
  (bc (decide ((i:Int)<(l.length:Int))) ((0:Int)<=(i:Int) /\
 (i:Int)<(l.length:Int) /\
 bc (decide (f<=gtI l (i:Int).toNat)) (0+1<=([(i64.wrap (gtI l (i:Int).toNat+b))]:List iI.D).length /\
 o.length=o.length /\
 0=0 /\
 o.length+(([(i64.wrap (gtI l (i:Int).toNat+b))]:List iI.D)).length<2 ^ 30 /\
 8<=2 ^ 10 /\
 R (hd Tryd.f36 0) { env:=[(1,.int .i64 f),(2,.int .i64 b),(7,.win true iI 25 0 (o.length+(([(i64.wrap (gtI l (i:Int).toNat+b))]:List iI.D)).length)),(10,.sl iI l),(11,.int .i64 (l.length:Int)),(12,.int .i64 (i64.wrap ((i:Int)+1)))],blk:=[(25,.row 3 iI (o++([(i64.wrap (gtI l (i:Int).toNat+b))]:List iI.D)))] }) (0+1<=([(gtI l (i:Int).toNat)]:List iI.D).length /\
 o.length=o.length /\
 0=0 /\
 o.length+(([(gtI l (i:Int).toNat)]:List iI.D)).length<2 ^ 30 /\
 8<=2 ^ 10 /\
 R (hd Tryd.f36 0) { env:=[(1,.int .i64 f),(2,.int .i64 b),(7,.win true iI 25 0 (o.length+(([(gtI l (i:Int).toNat)]:List iI.D)).length)),(10,.sl iI l),(11,.int .i64 (l.length:Int)),(12,.int .i64 (i64.wrap ((i:Int)+1)))],blk:=[(25,.row 3 iI (o++([(gtI l (i:Int).toNat)]:List iI.D)))] })) (Q [.win true iI 7 0 o.length] [(7,.row 3 iI o)])):=by kernel_rfl
theorem q36 (b:List Int) (Q:QT) (R:RT):sy tt G0 [(58,.inl ctNumb)] Tryd.f61.ntmps Tryd.f61.results.toList Q (fun it S=>R it (qar [0,3,4] [3] S)) 1000 [.code (qaf Tryd.f61)] (entry [.sl uB] (b,())) =
  (R (hd Tryd.f61 0) { env:=[(0,.sl uB b),(3,.nils),(4,.int .i64 0)],blk:=[] }):=by kernel_rfl
theorem q7y (b:List Int) (a:Int) (Q:QT) (R:RT):sy tt G0 [(58,.inl ctNumb)] Tryd.f61.ntmps Tryd.f61.results.toList Q (fun it S=>R it (qar [0,3,4] [18] S)) 1000 (hd Tryd.f61 0) ⟨[(0,.sl uB b),(3,.nils),(4,.int .i64 a)],[]⟩ =
  (bc (decide ((0:Int)<(b.length:Int))) (ctNumb.pre (b,()) /\
 0+1<=([(i64.wrap (a+i64.wrap ((4:Int)*qam b)))]:List iI.D).length /\
 (([(i64.wrap (a+i64.wrap ((4:Int)*qam b)))]:List iI.D)).length<2 ^ 30 /\
 8<=2 ^ 10 /\
 (0:Int)<=2 /\
 (2:Int)<=(b.length:Int) /\
 R (hd Tryd.f61 0) { env:=[(0,.sl uB (List.drop (2) b)),(3,.win true iI 18 0 1),(4,.int .i64 (i64.wrap (a+i64.wrap ((4:Int)*qam b))))],blk:=[(18,.row 3 iI (([(i64.wrap (a+i64.wrap ((4:Int)*qam b)))]:List iI.D)))] }) (Q [.nils] [])):=by kernel_rfl
theorem q7x (b o:List Int) (a:Int) (Q:QT) (R:RT):sy tt G0 [(58,.inl ctNumb)] Tryd.f61.ntmps Tryd.f61.results.toList Q (fun it S=>R it (qar [0,3,4] [18] S)) 1000 (hd Tryd.f61 0) ⟨[(0,.sl uB b),(3,.win true iI 3 0 o.length),(4,.int .i64 a)],[(3,.row 3 iI o)]⟩ =
  (bc (decide ((0:Int)<(b.length:Int))) (ctNumb.pre (b,()) /\
 0+1<=([(i64.wrap (a+i64.wrap ((4:Int)*qam b)))]:List iI.D).length /\
 o.length=o.length /\
 0=0 /\
 o.length+(([(i64.wrap (a+i64.wrap ((4:Int)*qam b)))]:List iI.D)).length<2 ^ 30 /\
 8<=2 ^ 10 /\
 (0:Int)<=2 /\
 (2:Int)<=(b.length:Int) /\
 R (hd Tryd.f61 0) { env:=[(0,.sl uB (List.drop (2) b)),(3,.win true iI 18 0 (o.length+(([(i64.wrap (a+i64.wrap ((4:Int)*qam b)))]:List iI.D)).length)),(4,.int .i64 (i64.wrap (a+i64.wrap ((4:Int)*qam b))))],blk:=[(18,.row 3 iI (o++([(i64.wrap (a+i64.wrap ((4:Int)*qam b)))]:List iI.D)))] }) (Q [.win true iI 3 0 o.length] [(3,.row 3 iI o)])):=by kernel_rfl
theorem q7w (b o:List Int) (a:Int) (Q:QT) (R:RT):sy tt G0 [(58,.inl ctNumb)] Tryd.f61.ntmps Tryd.f61.results.toList Q (fun it S=>R it (qar [0,3,4] [18] S)) 1000 (hd Tryd.f61 0) ⟨[(0,.sl uB b),(3,.sl iI o),(4,.int .i64 a)],[]⟩ =
  (bc (decide ((0:Int)<(b.length:Int))) (ctNumb.pre (b,()) /\
 False) (Q [.sl iI o] [])):=by kernel_rfl
theorem q4a (l:List Bool) (Q:QT) (R:RT):sy tt G0 [(59,.inl ctMb)] Tryd.f45.ntmps Tryd.f45.results.toList Q (fun it S=>R it (qar [3,10,11,12] [9] S)) 1000 [.code (qaf Tryd.f45)] (entry [.sl .bool] (l,())) =
  (ctMb.pre ((l.length:Int),()) /\
 (0:Int)<=((have this:=(l.length:Int);this)+7) / (8:Int) /\
 ((have this:=(l.length:Int);this)+7) / (8:Int)<=((have this:=(l.length:Int);this)+7) / (8:Int) /\
 ((have this:=(l.length:Int);this)+7) / (8:Int)<2 ^ 24 /\
 (↑(1:Nat):Int)*(((have this:=(l.length:Int);this)+7) / (8:Int))<=2 ^ 48 /\
 R (hd Tryd.f45 0) { env:=[(3,.win true uB 9 0 (((have this:=(l.length:Int);this)+7) / (8:Int)).toNat),(10,.sl Sh.bool l),(11,.int .i64 (l.length:Int)),(12,.int .i64 0)],blk:=[(9,.row 5 uB (List.replicate (((have this:=(l.length:Int);this)+7) / (8:Int)).toNat uB.dflt))] }):=by kernel_rfl
theorem qsm (l:List Bool) (o:List Int) (i:Nat) (Q:QT) (R:RT):sy tt G0 [(59,.inl ctMb)] Tryd.f45.ntmps Tryd.f45.results.toList Q (fun it S=>R it (qar [3,10,11,12] [3] S)) 1000 (hd Tryd.f45 0) ⟨[(3,.win true uB 3 0 o.length),(10,.sl .bool l),(11,.int .i64 l.length),(12,.int .i64 (i:Nat))],[(3,.row 5 uB o)]⟩ =
  (bc (decide ((i:Int)<(l.length:Int))) ((0:Int)<=(i:Int) /\
 (i:Int)<(l.length:Int) /\
 bc (gtM l (i:Int).toNat) ((8:Int)≠0 /\
 0<=i64.wrap ((i:Int).tdiv (8:Int)) /\
 i64.wrap ((i:Int).tdiv (8:Int))<(o.length:Int) /\
 0+(i64.wrap ((i:Int).tdiv (8:Int))).toNat<o.length /\
 (8:Int)≠0 /\
 (0:Int)<=(i:Int).tmod (8:Int) /\
 0<=i64.wrap ((i:Int).tdiv (8:Int)) /\
 i64.wrap ((i:Int).tdiv (8:Int))<(o.length:Int) /\
 0+(i64.wrap ((i:Int).tdiv (8:Int))).toNat<o.length /\
 R (hd Tryd.f45 0) { env:=[(3,.win true uB 3 0 o.length),(10,.sl Sh.bool l),(11,.int .i64 (l.length:Int)),(12,.int .i64 (i64.wrap ((i:Int)+1)))],blk:=[(3,.row 5 uB (o.set (0+(i64.wrap ((i:Int).tdiv (8:Int))).toNat) (bitI BinOp.or u8 (gtB o (0+(i64.wrap ((i:Int).tdiv (8:Int))).toNat)) (u8.wrap ((1:Int)*2 ^ min ((i:Int).tmod (8:Int)).toNat u8.bits)))))] }) (R (hd Tryd.f45 0) { env:=[(3,.win true uB 3 0 o.length),(10,.sl Sh.bool l),(11,.int .i64 (l.length:Int)),(12,.int .i64 (i64.wrap ((i:Int)+1)))],blk:=[(3,.row 5 uB o)] })) (Q [.win true uB 3 0 o.length] [(3,.row 5 uB o)])):=by kernel_rfl
attribute [local irreducible] Go.Px.sy Go.Px.syE
abbrev GD (f:Nat) (fn:Func) (Q:List SV->List (Nat × LB)->Prop) (it:List Item) (S:PS):Prop:=Px.Good Tryd.prog tt G0 f fn.ntmps fn.results.toList Q it S
theorem winA {e:Sh} (l:List e.D):winL e 0 l.length l=l:=by
 show (List.drop 0 l).take l.length=l
 rw[List.drop_zero,List.take_of_length_le (Nat.le_refl _)]
theorem gtE {e:Sh} {l:List e.D} {i:Nat} (h:i<l.length):gt e l i=l[i]:=by
 unfold gt;rw[List.getElem?_eq_getElem h];rfl
theorem qpy {l:List Int} {i:Nat} (h:i<l.length):gtB l i=l[i]:=gtE (e:=uB) h
theorem qha {l:List Int} {i:Nat} (h:i<l.length):gtW l i=l[i]:=gtE (e:=u4) h
theorem qc9 {l:List Int} {i:Nat} (h:i<l.length):gtI l i=l[i]:=gtE (e:=iI) h
theorem qpx {l:List Bool} {i:Nat} (h:i<l.length):gtM l i=l[i]:=gtE (e:=Sh.bool) h
theorem QC.mt {ct:Ctr} {x:DL ct.args} {rs:List SV} {blk:List (Nat × LB)} (h:MtL (fun _=>none) (ct.out x) rs) (hr:ct.rows x=[]):QC ct x rs blk:=⟨fun _=>none,h,by rw[hr];trivial,fun _ _ _ e=>by simp at e,by rw[hr];rfl⟩
theorem qid {ct:Ctr} {x:DL ct.args} {rs:List SV} {blk:List (Nat × LB)} {e:Sh} {et:TypeId} {a k:Nat} {xs:List e.D} (h:ct.out x=[.win true e 0 0 xs.length]) (hr:ct.rows x=[.row et e xs]) (hs:rs=[.win true e a 0 k]) (hk:k=xs.length) (hb:lk blk a=some (.row et e xs)):QC ct x rs blk:=by
 subst hs;subst hk;refine ⟨fun i=>if i=0 then some a else none,?_,?_,fun i j b h1 h2=>?_,by rw[hr];rfl⟩
 ·rw[h];exact ⟨_,_,rfl,.inl ⟨true,a,rfl,rfl,fun h=>h⟩,rfl⟩
 ·rw[hr];exact ⟨.inl ⟨a,rfl,hb⟩,trivial⟩
 ·simp only at h1 h2;split at h1
  ·split at h2
   ·omega
   ·cases h2
  ·cases h1
theorem qny {ct:Ctr} {x:DL ct.args} {rs:List SV} {blk:List (Nat × LB)} {e:Sh} {et:TypeId} {a k:Nat} {z:Int} {xs:List e.D} (h:ct.out x=[.win true e 0 0 xs.length,.int .i64 z]) (hr:ct.rows x=[.row et e xs]) (hs:rs=[.win true e a 0 k,.int .i64 z]) (hk:k=xs.length) (hb:lk blk a=some (.row et e xs)):QC ct x rs blk:=by
 subst hs;subst hk;refine ⟨fun i=>if i=0 then some a else none,?_,?_,fun i j b h1 h2=>?_,by rw[hr];rfl⟩
 ·rw[h];exact ⟨_,_,rfl,.inl ⟨true,a,rfl,rfl,fun h=>h⟩,_,_,rfl,rfl,rfl⟩
 ·rw[hr];exact ⟨.inl ⟨a,rfl,hb⟩,trivial⟩
 ·simp only at h1 h2;split at h1
  ·split at h2
   ·omega
   ·cases h2
  ·cases h1
theorem q49 {ct:Ctr} {x:DL ct.args} {rs:List SV} {blk:List (Nat × LB)} {e:Sh} {et:TypeId} {z:Int} (h:ct.out x=[.win true e 0 0 0,.int .i64 z]) (hr:ct.rows x=[.row et e []]) (hs:rs=[.nils,.int .i64 z]) (he:0<e.size):QC ct x rs blk:=by
 subst hs;refine ⟨fun _=>none,?_,?_,fun i j b h1 h2=>?_,by rw[hr];rfl⟩
 ·rw[h];exact ⟨_,_,rfl,.inr ⟨rfl,rfl,rfl,rfl⟩,_,_,rfl,rfl,rfl⟩
 ·rw[hr];exact ⟨.inr ⟨rfl,_,_,rfl,he⟩,trivial⟩
 ·simp at h1
theorem frzG {f:Nat} {fn:Func} {Q:List SV->List (Nat × LB)->Prop} {it:List Item} {S:PS} {i:Nat} {e:Sh} {et:TypeId} {xs:List e.D} (hl:lk S.blk i=some (.row et e xs)) (hc:cdP i xs.length S=[0+xs.length<=xs.length]) (h:GD f fn Q it (S.frzR i e xs)):GD f fn Q it S:=
 Good.frz hl (fun c hm=>by rw[hc,List.mem_singleton] at hm;subst hm;omega) h
theorem bor32 {a b:Int} (ha:0<=a/\a<4294967296) (hb:0<=b/\b<4294967296):bitI .or .u32 a b=((a.toNat ||| b.toNat:Nat):Int):=by
 have e:∀ x:Int,0<=x/\x<4294967296->(BitVec.ofInt u32.bits x).toNat=x.toNat:=fun x hx=>by
  show (BitVec.ofInt 32 x).toNat=_
  rw[BitVec.toNat_ofInt]
  congr 1
  exact Int.emod_eq_of_lt hx.1 (by simpa using hx.2)
 unfold bitI;simp only[BitVec.toNat_or,e a ha,e b hb];have h1:a.toNat<2 ^ 32:=by omega
 have h2:b.toNat<2 ^ 32:=by omega
 have h3:=Nat.or_lt_two_pow h1 h2;rw[IntKind.wrap_u32];omega
theorem qr9 {a b:Int} {k:Nat} (q:Nat) (ha:a=((2 ^ k*q:Nat):Int)) (h4:a<4294967296) (hb:0<=b/\b<((2 ^ k:Nat):Int)) (hb4:b<4294967296):bitI .or .u32 a b=a+b:=by
 rw[bor32 ⟨by omega,h4⟩ ⟨hb.1,hb4⟩];subst ha;obtain ⟨n,rfl⟩:=Int.eq_ofNat_of_zero_le hb.1;rw[Int.toNat_natCast,Int.toNat_natCast,<- Nat.two_pow_add_eq_or_of_lt (by omega)];omega
def wd (a b c d:Int):Int:=a*16777216+b*65536+c*256+d
def u8R (n:Int):Prop:=0<=n/\n<256
theorem wd_or {a b c d:Int} (ha:u8R a) (hb:u8R b) (hc:u8R c) (hd:u8R d):bitI .or .u32 (bitI .or .u32 (bitI .or .u32 (u32.wrap (u32.wrap a*(2:Int) ^ min 24 u32.bits)) (u32.wrap (u32.wrap b*(2:Int) ^ min 16 u32.bits))) (u32.wrap (u32.wrap c*(2:Int) ^ min 8 u32.bits))) (u32.wrap d)=wd a b c d:=by
 obtain ⟨a0,a1⟩:=ha;obtain ⟨b0,b1⟩:=hb;obtain ⟨c0,c1⟩:=hc;obtain ⟨d0,d1⟩:=hd;have p24:(2:Int) ^ min 24 u32.bits=16777216:=by decide
 have p16:(2:Int) ^ min 16 u32.bits=65536:=by decide
 have p8:(2:Int) ^ min 8 u32.bits=256:=by decide
 rw[p24,p16,p8];simp only[IntKind.wrap_u32];rw[show a % 4294967296*16777216 % 4294967296=a*16777216 by omega,show b % 4294967296*65536 % 4294967296=b*65536 by omega,show c % 4294967296*256 % 4294967296=c*256 by omega,show d % 4294967296=d by omega];obtain ⟨A,rfl⟩:=Int.eq_ofNat_of_zero_le a0;obtain ⟨B,rfl⟩:=Int.eq_ofNat_of_zero_le b0;obtain ⟨C,rfl⟩:=Int.eq_ofNat_of_zero_le c0;have e1:bitI .or .u32 ((A:Int)*16777216) ((B:Int)*65536)=(A:Int)*16777216+(B:Int)*65536:=qr9 (k:=24) A (by omega) (by omega) (by omega) (by omega);have e2:bitI .or .u32 ((A:Int)*16777216+(B:Int)*65536) ((C:Int)*256)=(A:Int)*16777216+(B:Int)*65536+(C:Int)*256:=qr9 (k:=16) (256*A+B) (by omega) (by omega) (by omega) (by omega);have e3:bitI .or .u32 ((A:Int)*16777216+(B:Int)*65536+(C:Int)*256) d=(A:Int)*16777216+(B:Int)*65536+(C:Int)*256+d:=qr9 (k:=8) (65536*A+256*B+C) (by omega) (by omega) (by omega) (by omega);rw[e1,e2,e3];rfl
def qch:Nat->List Int->List Int
 | 0,_=>[]
 | k+1,b=>wd (gtB b 0) (gtB b 1) (gtB b 2) (gtB b 3)::qch k (b.drop 4)
def qah (b:List Int):List Int × Int:=if (b.length:Int) % 4=0 then (qch (b.length / 4) b,0) else ([],61)
theorem qmr:∀ k b,(qch k b).length=k
 | 0,_=>rfl
 | k+1,b=>by rw[qch,List.length_cons,qmr k]
def u8L (b:List Int):Prop:=∀ j,u8R (gtB b j)
theorem u8L.drop {b:List Int} (h:u8L b) (n:Nat):u8L (b.drop n):=fun j=>by
 have e:gtB (b.drop n) j=gtB b (n+j):=by
  show gt uB _ _=gt uB _ _
  unfold gt;rw[List.getElem?_drop]
 rw[e];exact h _
def q5f (b:List Int):Prop:=u8L b/\b.length<33554432
def ctWo:Ctr:=⟨[.sl uB],fun x=>q5f x.1,fun x=>[.win true u4 0 0 (qah x.1).1.length,.int .i64 (qah x.1).2],fun x=>[.row 50 u4 (qah x.1).1]⟩
theorem qum (b0:List Int):∀ (k:Nat) (b o:List Int),b.length=4*k->u8L b->o.length+k<1000000000->qah b0=(o++qch k b,0) ->
  GD 25 Tryd.f25 (QC ctWo (b0,())) (hd Tryd.f25 0) ⟨[(0,.sl uB b),(4,.win true u4 4 0 o.length)],[(4,.row 50 u4 o)]⟩:=by
 intro k
 induction k with
 | zero=>
  intro b o hb hu ho hv;refine qae cx0 (qor b o _ _) ?_;rw[decide_eq_false (by omega),bc_f];rw[qch,List.append_nil] at hv;refine qny (e:=u4) (et:=50) (a:=4) (z:=0) (xs:=o) ?_ ?_ rfl rfl rfl
  ·show [_,_]=_;rw[hv]
  ·show [_]=_;rw[hv]
 | succ k ih=>
  intro b o hb hu ho hv;refine qae cx0 (qor b o _ _) ?_;rw[decide_eq_true (show (0:Int)<(b.length:Int) by omega),bc_t,wd_or (hu 0) (hu 1) (hu 2) (hu 3)];have nx:=ih (b.drop 4) (o++[wd (gtB b 0) (gtB b 1) (gtB b 2) (gtB b 3)]) (by rw[List.length_drop];omega) (hu.drop 4) (by rw[List.length_append,List.length_singleton];omega) (by rw[hv,qch,List.append_assoc];rfl);refine ⟨by omega,by omega,by omega,by omega,by omega,by omega,by omega,by omega,by omega,by omega,by omega,Nat.le_refl 1,rfl,rfl,(show o.length+1<2 ^ 30 by omega),by decide,by omega,by omega,?_⟩;exact nx.onlyR [(4,42)] rfl ⟨rfl,by rw[List.length_append];rfl,trivial⟩ ⟨rfl,trivial⟩
theorem qmp:Held Tryd.prog G0 25 ctWo:=by
 refine Held.of cx0 (fn:=Tryd.f25) rfl rfl ⟨by decide,by decide⟩ ?_;rintro ⟨b,⟨⟩⟩ hp;obtain ⟨hu,hl⟩:q5f b:=hp;refine qae cx0 (qzk b _ _) ?_;have hm:((b.length:Int)).tmod 4=(b.length:Int) % 4:=Int.tmod_eq_emod_of_nonneg (by omega);have hd:((b.length:Int)).tdiv 4=((b.length / 4:Nat):Int):=by rw[Int.tdiv_eq_ediv_of_nonneg (by omega)];omega
 have w:i64.wrap ((b.length / 4:Nat):Int)=((b.length / 4:Nat):Int):=IntWalk.i64_in _ (by omega);rw[hm,hd,w];refine ⟨by decide,qap (fun h=>?_) (fun h=>?_)⟩
 ·have h:(b.length:Int) % 4≠0:=of_decide_eq_true h;have hv:qah b=([],61):=if_neg h
  repeat refine ⟨trivial,?_⟩
  refine q49 (e:=u4) (et:=50) (z:=61) ?_ ?_ rfl (by decide)
  ·show [_,_]=_;rw[hv];rfl
  ·show [_]=_;rw[hv]
 ·have h:¬ (b.length:Int) % 4≠0:=of_decide_eq_false h;have h:(b.length:Int) % 4=0:=by simpa using h
  have hv:qah b=([]++qch (b.length / 4) b,0):=if_pos h;refine ⟨by decide,by decide,by omega,by omega,by omega,?_⟩;exact (qum b (b.length / 4) b [] (by omega) hu (show ([]:List Int).length+b.length / 4<1000000000 by simp;omega) hv).onlyR [(4,12)] rfl ⟨rfl,rfl,trivial⟩ ⟨rfl,trivial⟩
theorem QI.row {ct:CtrI} {x:DI ct.args} {rs:List SV} {blk:List (Nat × LB)} {e:Sh} {et:TypeId} {a k:Nat} {xs:List e.D} (h:ct.out x=[.win true e 0 0 xs.length]) (hr:ct.blk x=[(0,.row et e xs)]) (hs:rs=[.win true e a 0 k]) (hk:k=xs.length) (hb:lk blk a=some (.row et e xs)) (ha:a<BIG):QI ct x rs blk:=by
 subst hs;subst hk;refine ⟨[(0,a)],?_,?_,by simp,fun p hp=>by simp at hp;subst hp;exact ha⟩
 ·rw[h];exact ⟨_,_,rfl,.inl ⟨true,a,rfl,rfl,fun h=>h⟩,rfl⟩
 ·rw[hr];exact ⟨.inl ⟨a,_,rfl,hb,rfl⟩,trivial⟩
def by4 (w:Int):List Int:=[u8.wrap (Int.fdiv w (2 ^ min 24 u32.bits)),u8.wrap (Int.fdiv w (2 ^ min 16 u32.bits)),u8.wrap (Int.fdiv w (2 ^ min 8 u32.bits)),u8.wrap w]
def qa1 (l:List Int):List Int:=l.flatMap by4
theorem qjs (l:List Int):(qa1 l).length=4*l.length:=by
 induction l with
 | nil=>rfl
 | cons w l ih=>rw[qa1,List.flatMap_cons,List.length_append,List.length_cons];show 4+(qa1 l).length=_;omega
theorem qr7 {l:List Int} {i:Nat} (h:i<l.length):qa1 (l.take (i+1))=qa1 (l.take i)++by4 l[i]:=by
 rw[List.take_succ_eq_append_getElem h,qa1,List.flatMap_append];simp[qa1]
def preBy (l:List Int):Prop:=l.length<4194304
def ctBy:Ctr:=⟨[.sl u4],fun x=>preBy x.1,fun x=>[.win true uB 0 0 (qa1 x.1).length],fun x=>[.row 5 uB (qa1 x.1)]⟩
theorem qvp (l:List Int) (hl:l.length<4194304):∀ (k i:Nat),l.length-i=k->i<=l.length ->
  GD 40 Tryd.f40 (QC ctBy (l,())) (hd Tryd.f40 0) ⟨[(3,.win true uB 3 0 (qa1 (l.take i)).length),(10,.sl u4 l),(11,.int .i64 l.length),(12,.int .i64 (i:Nat))],[(3,.row 5 uB (qa1 (l.take i)))]⟩:=by
 intro k
 induction k with
 | zero=>
  intro i hk hi;have hi:i=l.length:=by omega
  subst hi;refine qae cx0 (qov l (qa1 (l.take l.length)) l.length _ _) ?_;rw[decide_eq_false (by omega),bc_f,List.take_length];exact qid (e:=uB) (et:=5) (a:=3) (xs:=qa1 l) rfl rfl rfl rfl rfl
 | succ k ih=>
  intro i hk hi;have hil:i<l.length:=by omega
  have nx:=ih (i+1) (by omega) (by omega);have hbl:=qjs (l.take i);rw[List.length_take] at hbl;rw[qr7 hil] at nx;refine qae cx0 (qov l (qa1 (l.take i)) i _ _) ?_;rw[decide_eq_true (show (i:Int)<(l.length:Int) by omega),bc_t,Int.toNat_natCast,qha hil,IntWalk.i64_in ((i:Int)+1) (by omega)];refine ⟨by omega,by omega,by decide,by decide,by decide,Nat.le_refl 4,rfl,rfl,(show (qa1 (l.take i)).length+4<2 ^ 30 by omega),by decide,?_⟩;exact nx.onlyR [(3,29)] rfl ⟨by rw[List.length_append];rfl,rfl,rfl,rfl,trivial⟩ ⟨rfl,trivial⟩
theorem qnj:Held Tryd.prog G0 40 ctBy:=by
 refine Held.of cx0 (fn:=Tryd.f40) rfl rfl ⟨by decide,by decide⟩ ?_;rintro ⟨l,⟨⟩⟩ hp;replace hp:l.length<4194304:=hp;refine qae cx0 (qzt l _ _) ?_;have w:i64.wrap (4*(l.length:Int))=4*l.length:=IntWalk.i64_in _ (by omega);rw[w];refine ⟨by decide,by omega,by omega,by omega,?_⟩;exact (qvp l hp _ 0 rfl (by omega)).onlyR [(3,9)] rfl ⟨rfl,rfl,rfl,rfl,trivial⟩ ⟨rfl,trivial⟩
def dbV (o:Int):Int:=if o=5\/o=6 then 16777215 else if o=7\/o=8 then 65535 else 0
def ctDb:Ctr:=⟨[iI],fun _=>True,fun x=>[.int .u32 (dbV x.1)],fun _=>[]⟩
theorem q98 (o:Int) (R:List Item->PS->Prop):sy tt G0 [] Tryd.f51.ntmps Tryd.f51.results.toList (QC ctDb (o,())) R 1000 [.code (qaf Tryd.f51)] (entry [iI] (o,())):=by
 have fin:∀ v,dbV o=v->QC ctDb (o,()) [SV.int .u32 v] []:=fun v h=>QC.flat (by show [SV.int .u32 (dbV o)]=_;rw[h]) rfl rfl
 refine (qzr o _ _).mpr ?_;by_cases h5:o=5
 ·rw[decide_eq_true h5,bc_t,bc_t];exact fin _ (if_pos (.inl h5))
 rw[decide_eq_false h5];by_cases h6:o=6
 ·simp only[decide_eq_true h6,bc_t,bc_f];exact fin _ (if_pos (.inr h6))
 simp only[decide_eq_false h6,bc_f];by_cases h7:o=7
 ·simp only[decide_eq_true h7,bc_t];exact fin _ (by unfold dbV;rw[if_neg (by omega),if_pos (.inl h7)])
 simp only[decide_eq_false h7,bc_f];by_cases h8:o=8
 ·simp only[decide_eq_true h8,bc_t];exact fin _ (by unfold dbV;rw[if_neg (by omega),if_pos (.inr h8)])
 simp only[decide_eq_false h8,bc_f];exact fin _ (by unfold dbV;rw[if_neg (by omega),if_neg (by omega)])
theorem qr5:Held Tryd.prog G0 51 ctDb:=Held.run cx0 (fn:=Tryd.f51) rfl rfl ⟨by decide,by decide⟩ fun ⟨o,_⟩ _=>q98 o _
theorem q9o (n:Int) (h0:0<=n) (h1:n<1099511627776) (R:List Item->PS->Prop):sy tt G0 [] Tryd.f59.ntmps Tryd.f59.results.toList (QC ctMb (n,())) R 1000 [.code (qaf Tryd.f59)] (entry [iI] (n,())):=by
 refine (qv6 n _ _).mpr ⟨by decide,?_⟩;rw[IntWalk.i64_in (n+8) (by omega),IntWalk.i64_in (n+8-1) (by omega),Int.tdiv_eq_ediv_of_nonneg (by omega),IntWalk.i64_in _ (by omega)];refine QC.flat ?_ rfl rfl
 show [SV.int .i64 ((n+7) / 8)]=_
 rw[show n+8-1=n+7 by omega]
theorem qxz:Held Tryd.prog G0 59 ctMb:=Held.run cx0 (fn:=Tryd.f59) rfl rfl ⟨by decide,by decide⟩ fun ⟨n,_⟩ hp=>q9o n hp.1 hp.2 _
theorem qpi:Held Tryd.prog G0 58 ctNumb:=Held.run cx0 (fn:=Tryd.f58) rfl rfl ⟨by decide,by decide⟩ fun ⟨b,_⟩ hp=>by
 have hp:2<=b.length:=hp;exact (q4c b _ _).mpr ⟨by decide,by omega,by decide,by decide,by omega,QC.flat rfl rfl rfl⟩
def two (n:Int):List Int:=[u8.wrap (n.fdiv (2 ^ min 8 i64.bits)),u8.wrap n]
def preAn (b:List Int):Prop:=b.length<1000000000
def ctAn:CtrI:=⟨[.row 5 uB,.dat iI],fun x=>preAn x.1,fun x=>[.win true uB 0 0 (List.length (x.1++two x.2.1))],fun x=>[(0,.row 5 uB (x.1++two x.2.1))]⟩
theorem zak (b:List Int) (n:Int) (h:b.length<1000000000) (R:List Item->PS->Prop):sy tt G0 [] Tryd.f44.ntmps Tryd.f44.results.toList (QI ctAn (b,n,())) R 1000 [.code (qaf Tryd.f44)] (qao [.row 5 uB,.dat iI] (b,n,())):=by
 refine (q4n b n _ _).mpr ⟨by decide,Nat.le_refl 2,rfl,rfl,(show b.length+2<2 ^ 30 by omega),by decide,?_⟩;exact QI.row (e:=uB) (et:=5) (a:=12) (xs:=b++two n) rfl rfl rfl (by rw[List.length_append];rfl) rfl (by decide)
theorem q7q:HeldI Tryd.prog G0 44 ctAn:=HeldI.run cx0 (fn:=Tryd.f44) rfl rfl ⟨by decide,by decide⟩ fun ⟨b,n,_⟩ hp=>zak b n hp _
def mkB (b:List Int) (i:Nat):Bool:=decide (bitI .and .u8 (Int.fdiv (gtB b (i / 8)) (2 ^ min (i % 8) u8.bits)) 1=1)
def unpF (b:List Int) (n:Nat):List Bool:=(List.range n).map (mkB b)
theorem qzy (b:List Int) (n:Nat):(unpF b n).length=n:=by simp[unpF]
def q5g (b:List Int) (n:Int):Prop:=(0<=n/\n<16777216)/\n<=8*b.length
def ctUn:Ctr:=⟨[.sl uB,iI],fun x=>q5g x.1 x.2.1,fun x=>[.win true .bool 0 0 (unpF x.1 x.2.1.toNat).length],fun x=>[.row 4 .bool (unpF x.1 x.2.1.toNat)]⟩
theorem qzw (b:List Int) (n:Nat) (hn:n<16777216) (hb:n<=8*b.length):∀ (k i:Nat) (o:List Bool),n-i=k->i<=n->o.length=n->(∀ j,j<i->o[j]?=(unpF b n)[j]?) ->
  GD 60 Tryd.f60 (QC ctUn (b,(n:Int),())) (hd Tryd.f60 0) ⟨[(0,.sl uB b),(5,.win true .bool 5 0 o.length),(10,.int .i64 o.length),(11,.int .i64 (i:Nat))],[(5,.row 4 .bool o)]⟩:=by
 intro k
 induction k with
 | zero=>
  intro i o hk hi ho hj;have hi:i=n:=by omega
  subst hi;refine qae cx0 (qvy b o _ _ _) ?_;rw[decide_eq_false (by omega),bc_f];have he:o=unpF b i:=by
   refine List.ext_getElem? fun j=>?_
   by_cases h:j<i
   ·exact hj j h
   ·rw[List.getElem?_eq_none (by omega),List.getElem?_eq_none (by rw[qzy];omega)]
  exact qid (e:=.bool) (et:=4) (a:=5) (xs:=o) (by rw[he];rfl) (by rw[he];rfl) rfl rfl rfl
 | succ k ih=>
  intro i o hk hi ho hj;refine qae cx0 (qvy b o i _ _) ?_;have hd8:((i:Int)).tdiv 8=((i / 8:Nat):Int):=by rw[Int.tdiv_eq_ediv_of_nonneg (by omega)];omega
  have hm8:((i:Int)).tmod 8=((i % 8:Nat):Int):=by rw[Int.tmod_eq_emod_of_nonneg (by omega)];omega
  rw[decide_eq_true (show (i:Int)<(o.length:Int) by omega),bc_t,hd8,hm8,IntWalk.i64_in ((i / 8:Nat):Int) (by omega),IntWalk.i64_in ((i:Int)+1) (by omega),Int.toNat_natCast,Int.toNat_natCast,Int.toNat_natCast,Nat.zero_add];refine ⟨by decide,by omega,by omega,by decide,by omega,by omega,by omega,by omega,?_⟩;refine (ih (i+1) (o.set i (mkB b i)) (by omega) (by omega) (by rw[List.length_set];exact ho) (fun j h=>?_)).only ⟨rfl,by rw[List.length_set];rfl,by rw[List.length_set];rfl,rfl,trivial⟩ ⟨rfl,trivial⟩;rw[List.getElem?_set];by_cases hji:i=j
  ·subst hji;rw[if_pos rfl,if_pos (by omega)];simp[unpF,List.getElem?_range (show i<n by omega)]
  ·rw[if_neg hji];exact hj j (by omega)
theorem qzx:Held Tryd.prog G0 60 ctUn:=by
 refine Held.of cx0 (fn:=Tryd.f60) rfl rfl ⟨by decide,by decide⟩ ?_;rintro ⟨b,n,⟨⟩⟩ hp;obtain ⟨⟨h0,h1⟩,h2⟩:q5g b n:=hp;obtain ⟨N,rfl⟩:=Int.eq_ofNat_of_zero_le h0;refine qae cx0 (q7t b (N:Int) _ _) ?_;refine ⟨h0,Int.le_refl _,(show (N:Int)<16777216 from h1),(show (1:Int)*(N:Int)<=281474976710656 by omega),?_⟩;have e:=qzw b N (by omega) (by omega) _ 0 (List.replicate N false) rfl (by omega) (by simp) (fun j h=>by omega);refine e.onlyR [(5,8)] rfl ⟨rfl,by rw[List.length_replicate];rfl,by rw[List.length_replicate];rfl,rfl,trivial⟩ ⟨rfl,trivial⟩
theorem vc_r2 (x y:List Int) (Q:QT) (R:RT):sy tt G0 [] Tryd.f18.ntmps Tryd.f18.results.toList Q (fun it S=>R it (qar [0,1,5] [] S)) 1000 [.code (qaf Tryd.f18)] (entry [.sl uB,.sl uB] (x,y,())) =
  (bc (decide ((x.length:Int)≠(y.length:Int))) (Q [.bool false] []) (R (hd Tryd.f18 0) { env:=[(0,.sl uB x),(1,.sl uB y),(5,.int .i64 0)],blk:=[] })):=by kernel_rfl
theorem q2s (x y:List Int) (i:Nat) (Q:QT) (R:RT):sy tt G0 [] Tryd.f18.ntmps Tryd.f18.results.toList Q (fun it S=>R it (qar [0,1,5] [] S)) 1000 (hd Tryd.f18 0) ⟨[(0,.sl uB x),(1,.sl uB y),(5,.int .i64 (i:Nat))],[]⟩ =
  (bc (decide ((i:Int)<(x.length:Int))) ((0:Int)<=(i:Int) /\
 (i:Int)<(x.length:Int) /\
 (0:Int)<=(i:Int) /\
 (i:Int)<(y.length:Int) /\
 bc (decide (gtB x (i:Int).toNat≠gtB y (i:Int).toNat)) (Q [.bool false] []) (R (hd Tryd.f18 0) { env:=[(0,.sl uB x),(1,.sl uB y),(5,.int .i64 (i64.wrap ((i:Int)+1)))],blk:=[] })) (Q [.bool true] [])):=by kernel_rfl
theorem vc_r3 (w1 w2:List Int) (m1 m2:List Bool) (l1 l2:List Int) (Q:QT) (R:RT):sy tt G0 [] Tryd.f17.ntmps Tryd.f17.results.toList Q (fun it S=>R it (qar [2,3,5,6,7] [2,3] S)) 1000 [.code (qaf Tryd.f17)] (entry [liS,liS] ((w1,m1,l1),(w2,m2,l2),())) =
  (bc (decide ((w1.length:Int)≠(w2.length:Int))) (true=true /\
 true=true /\
 Q [.bool false] [(2,.var [.sl u4 w1,.sl Sh.bool m1,.sl iI l1]),(3,.var [.sl u4 w2,.sl Sh.bool m2,.sl iI l2])]) (bc (bif false then true else decide ((m1.length:Int)≠(m2.length:Int))) (true=true /\
 Q [.bool false] [(2,.var [.sl u4 w1,.sl Sh.bool m1,.sl iI l1]),(3,.var [.sl u4 w2,.sl Sh.bool m2,.sl iI l2])]) (bc (bif false then true else decide ((l1.length:Int)≠(l2.length:Int))) (Q [.bool false] [(2,.var [.sl u4 w1,.sl Sh.bool m1,.sl iI l1]),(3,.var [.sl u4 w2,.sl Sh.bool m2,.sl iI l2])]) (R (hd Tryd.f17 0) { env:=[(2,.ptr 2 0),(3,.ptr 3 0),(5,.int .i64 0)],blk:=[(2,.var [.sl u4 w1,.sl Sh.bool m1,.sl iI l1]),(3,.var [.sl u4 w2,.sl Sh.bool m2,.sl iI l2])] })))):=by kernel_rfl
theorem q2r (w1 w2:List Int) (m1 m2:List Bool) (l1 l2:List Int) (i:Nat) (Q:QT) (R:RT):sy tt G0 [] Tryd.f17.ntmps Tryd.f17.results.toList Q (fun it S=>R it (qar [2,3,5,6,7] [2,3] S)) 1000 (hd Tryd.f17 0) ⟨[(2,.ptr 2 0),(3,.ptr 3 0),(5,.int .i64 (i:Nat))],[(2,.var [.sl u4 w1,.sl .bool m1,.sl iI l1]),(3,.var [.sl u4 w2,.sl .bool m2,.sl iI l2])]⟩ =
  (bc (decide ((i:Int)<(w1.length:Int))) ((0:Int)<=(i:Int) /\
 (i:Int)<(w1.length:Int) /\
 (0:Int)<=(i:Int) /\
 (i:Int)<(w2.length:Int) /\
 bc (decide (gtW w1 (i:Int).toNat≠gtW w2 (i:Int).toNat)) (Q [.bool false] [(2,.var [.sl u4 w1,.sl Sh.bool m1,.sl iI l1]),(3,.var [.sl u4 w2,.sl Sh.bool m2,.sl iI l2])]) (R (hd Tryd.f17 0) { env:=[(2,.ptr 2 0),(3,.ptr 3 0),(5,.int .i64 (i64.wrap ((i:Int)+1)))],blk:=[(2,.var [.sl u4 w1,.sl Sh.bool m1,.sl iI l1]),(3,.var [.sl u4 w2,.sl Sh.bool m2,.sl iI l2])] })) (R (hd Tryd.f17 1) { env:=[(2,.ptr 2 0),(3,.ptr 3 0),(5,.int .i64 (i:Int)),(6,.int .i64 0)],blk:=[(2,.var [.sl u4 w1,.sl Sh.bool m1,.sl iI l1]),(3,.var [.sl u4 w2,.sl Sh.bool m2,.sl iI l2])] })):=by kernel_rfl
theorem q2q (w1 w2:List Int) (m1 m2:List Bool) (l1 l2:List Int) (i:Nat) (Q:QT) (R:RT):sy tt G0 [] Tryd.f17.ntmps Tryd.f17.results.toList Q (fun it S=>R it (qar [2,3,5,6,7] [2,3] S)) 1000 (hd Tryd.f17 1) ⟨[(2,.ptr 2 0),(3,.ptr 3 0),(6,.int .i64 (i:Nat))],[(2,.var [.sl u4 w1,.sl .bool m1,.sl iI l1]),(3,.var [.sl u4 w2,.sl .bool m2,.sl iI l2])]⟩ =
  (bc (decide ((i:Int)<(m1.length:Int))) ((0:Int)<=(i:Int) /\
 (i:Int)<(m1.length:Int) /\
 (0:Int)<=(i:Int) /\
 (i:Int)<(m2.length:Int) /\
 bc (!gtM m1 (i:Int).toNat == gtM m2 (i:Int).toNat) (Q [.bool false] [(2,.var [.sl u4 w1,.sl Sh.bool m1,.sl iI l1]),(3,.var [.sl u4 w2,.sl Sh.bool m2,.sl iI l2])]) (R (hd Tryd.f17 1) { env:=[(2,.ptr 2 0),(3,.ptr 3 0),(6,.int .i64 (i64.wrap ((i:Int)+1)))],blk:=[(2,.var [.sl u4 w1,.sl Sh.bool m1,.sl iI l1]),(3,.var [.sl u4 w2,.sl Sh.bool m2,.sl iI l2])] })) (R (hd Tryd.f17 2) { env:=[(2,.ptr 2 0),(3,.ptr 3 0),(6,.int .i64 (i:Int)),(7,.int .i64 0)],blk:=[(2,.var [.sl u4 w1,.sl Sh.bool m1,.sl iI l1]),(3,.var [.sl u4 w2,.sl Sh.bool m2,.sl iI l2])] })):=by kernel_rfl
theorem q2p (w1 w2:List Int) (m1 m2:List Bool) (l1 l2:List Int) (i:Nat) (Q:QT) (R:RT):sy tt G0 [] Tryd.f17.ntmps Tryd.f17.results.toList Q (fun it S=>R it (qar [2,3,5,6,7] [2,3] S)) 1000 (hd Tryd.f17 2) ⟨[(2,.ptr 2 0),(3,.ptr 3 0),(7,.int .i64 (i:Nat))],[(2,.var [.sl u4 w1,.sl .bool m1,.sl iI l1]),(3,.var [.sl u4 w2,.sl .bool m2,.sl iI l2])]⟩ =
  (bc (decide ((i:Int)<(l1.length:Int))) ((0:Int)<=(i:Int) /\
 (i:Int)<(l1.length:Int) /\
 (0:Int)<=(i:Int) /\
 (i:Int)<(l2.length:Int) /\
 bc (decide (gtI l1 (i:Int).toNat≠gtI l2 (i:Int).toNat)) (Q [.bool false] [(2,.var [.sl u4 w1,.sl Sh.bool m1,.sl iI l1]),(3,.var [.sl u4 w2,.sl Sh.bool m2,.sl iI l2])]) (R (hd Tryd.f17 2) { env:=[(2,.ptr 2 0),(3,.ptr 3 0),(7,.int .i64 (i64.wrap ((i:Int)+1)))],blk:=[(2,.var [.sl u4 w1,.sl Sh.bool m1,.sl iI l1]),(3,.var [.sl u4 w2,.sl Sh.bool m2,.sl iI l2])] })) (Q [.bool true] [(2,.var [.sl u4 w1,.sl Sh.bool m1,.sl iI l1]),(3,.var [.sl u4 w2,.sl Sh.bool m2,.sl iI l2])])):=by kernel_rfl
theorem q8a (x y:List Int) (Q:QT) (R:RT):sy tt G0 [] Tryd.f55.ntmps Tryd.f55.results.toList Q (fun it S=>R it (qar [0,1,12,13] [] S)) 1000 [.code (qaf Tryd.f55)] (entry [.sl u4,.sl u4] (x,y,())) =
  (bc (decide ((x.length:Int)≠(y.length:Int))) (Q [.bool false] []) (R (hd Tryd.f55 0) { env:=[(0,.sl u4 x),(1,.sl u4 y),(12,.int .i64 (x.length:Int)),(13,.int .i64 0)],blk:=[] })):=by kernel_rfl
theorem q8c (x y:List Bool) (Q:QT) (R:RT):sy tt G0 [] Tryd.f56.ntmps Tryd.f56.results.toList Q (fun it S=>R it (qar [0,1,12,13] [] S)) 1000 [.code (qaf Tryd.f56)] (entry [.sl .bool,.sl .bool] (x,y,())) =
  (bc (decide ((x.length:Int)≠(y.length:Int))) (Q [.bool false] []) (R (hd Tryd.f56 0) { env:=[(0,.sl Sh.bool x),(1,.sl Sh.bool y),(12,.int .i64 (x.length:Int)),(13,.int .i64 0)],blk:=[] })):=by kernel_rfl
theorem q8b (x y:List Int) (Q:QT) (R:RT):sy tt G0 [] Tryd.f57.ntmps Tryd.f57.results.toList Q (fun it S=>R it (qar [0,1,12,13] [] S)) 1000 [.code (qaf Tryd.f57)] (entry [.sl iI,.sl iI] (x,y,())) =
  (bc (decide ((x.length:Int)≠(y.length:Int))) (Q [.bool false] []) (R (hd Tryd.f57 0) { env:=[(0,.sl iI x),(1,.sl iI y),(12,.int .i64 (x.length:Int)),(13,.int .i64 0)],blk:=[] })):=by kernel_rfl
theorem q8g (x y:List Int) (Q:QT) (R:RT):sy tt G0 [] Tryd.f42.ntmps Tryd.f42.results.toList Q R 1000 [.code (qaf Tryd.f42)] (entry [.sl uB,.sl uB] (x,y,())) =
  (Q [.bool (decide (List.map toB x=List.map toB y))] []):=by kernel_rfl
theorem qzs (x:List Int) (Q:QT) (R:RT):sy tt G0 [] Tryd.f48.ntmps Tryd.f48.results.toList Q R 1000 [.code (qaf Tryd.f48)] (entry [.sl u4] (x,())) =
  (∀ (r:Bool),(r=true->x=[])->bc r (Q [.nils] []) (0=(List.replicate 0 u4.dflt).length /\
 0=0 /\
 0+x.length<2 ^ 30 /\
 4<=2 ^ 10 /\
 Q [.win true u4 7 0 (0+x.length)] [(7,.row 50 u4 (List.replicate 0 u4.dflt++x))])):=by kernel_rfl
theorem qv8 (x y:List Int) (i:Nat) (Q:QT) (R:RT):sy tt G0 [] Tryd.f55.ntmps Tryd.f55.results.toList Q (fun it S=>R it (qar [0,1,12,13] [] S)) 1000 (hd Tryd.f55 0) ⟨[(0,.sl u4 x),(1,.sl u4 y),(12,.int .i64 x.length),(13,.int .i64 (i:Nat))],[]⟩ =
  (bc (decide ((i:Int)<(x.length:Int))) ((0:Int)<=(i:Int) /\
 (i:Int)<(x.length:Int) /\
 (0:Int)<=(i:Int) /\
 (i:Int)<(y.length:Int) /\
 bc (decide (gtW x (i:Int).toNat≠gtW y (i:Int).toNat)) (Q [.bool false] []) (R (hd Tryd.f55 0) { env:=[(0,.sl u4 x),(1,.sl u4 y),(12,.int .i64 (x.length:Int)),(13,.int .i64 (i64.wrap ((i:Int)+1)))],blk:=[] })) (Q [.bool true] [])):=by kernel_rfl
theorem qwa (x y:List Bool) (i:Nat) (Q:QT) (R:RT):sy tt G0 [] Tryd.f56.ntmps Tryd.f56.results.toList Q (fun it S=>R it (qar [0,1,12,13] [] S)) 1000 (hd Tryd.f56 0) ⟨[(0,.sl .bool x),(1,.sl .bool y),(12,.int .i64 x.length),(13,.int .i64 (i:Nat))],[]⟩ =
  (bc (decide ((i:Int)<(x.length:Int))) ((0:Int)<=(i:Int) /\
 (i:Int)<(x.length:Int) /\
 (0:Int)<=(i:Int) /\
 (i:Int)<(y.length:Int) /\
 bc (!gtM x (i:Int).toNat == gtM y (i:Int).toNat) (Q [.bool false] []) (R (hd Tryd.f56 0) { env:=[(0,.sl Sh.bool x),(1,.sl Sh.bool y),(12,.int .i64 (x.length:Int)),(13,.int .i64 (i64.wrap ((i:Int)+1)))],blk:=[] })) (Q [.bool true] [])):=by kernel_rfl
theorem qv9 (x y:List Int) (i:Nat) (Q:QT) (R:RT):sy tt G0 [] Tryd.f57.ntmps Tryd.f57.results.toList Q (fun it S=>R it (qar [0,1,12,13] [] S)) 1000 (hd Tryd.f57 0) ⟨[(0,.sl iI x),(1,.sl iI y),(12,.int .i64 x.length),(13,.int .i64 (i:Nat))],[]⟩ =
  (bc (decide ((i:Int)<(x.length:Int))) ((0:Int)<=(i:Int) /\
 (i:Int)<(x.length:Int) /\
 (0:Int)<=(i:Int) /\
 (i:Int)<(y.length:Int) /\
 bc (decide (gtI x (i:Int).toNat≠gtI y (i:Int).toNat)) (Q [.bool false] []) (R (hd Tryd.f57 0) { env:=[(0,.sl iI x),(1,.sl iI y),(12,.int .i64 (x.length:Int)),(13,.int .i64 (i64.wrap ((i:Int)+1)))],blk:=[] })) (Q [.bool true] [])):=by kernel_rfl
theorem q46 (x y:List Int) (hl:x.length<1099511627776) (he:x.length=y.length):∀ (k i:Nat),x.length-i=k->i<=x.length->x.take i=y.take i ->
  GD 18 Tryd.f18 (fun rs _=>rs=[.bool (decide (x=y))]) (hd Tryd.f18 0) ⟨[(0,.sl uB x),(1,.sl uB y),(5,.int .i64 (i:Nat))],[]⟩:=by
 intro k
 induction k with
 | zero=>
  intro i hk hi ht;refine qae cx0 (q2s x y i _ _) ?_;rw[decide_eq_false (show ¬ (i:Int)<(x.length:Int) by omega),bc_f];rw[List.take_of_length_le (by omega),List.take_of_length_le (by omega)] at ht
  show [SV.bool true]=_
  rw[decide_eq_true ht]
 | succ k ih=>
  intro i hk hi ht;have hx:i<x.length:=by omega
  have hy:i<y.length:=by omega
  refine qae cx0 (q2s x y i _ _) ?_;rw[decide_eq_true (show (i:Int)<(x.length:Int) by omega),bc_t,Int.toNat_natCast,qpy hx,qpy hy,IntWalk.i64_in ((i:Int)+1) (by omega)];refine ⟨by omega,by omega,by omega,by omega,qap (fun h=>?_) (fun h=>?_)⟩
  ·have h:x[i]≠y[i]:=by simpa using h
   show [SV.bool false]=_
   rw[decide_eq_false (fun q=>h (by simp only[q]))]
  ·have h:x[i]=y[i]:=by simpa using h
   exact (ih (i+1) (by omega) (by omega) (by rw[List.take_succ_eq_append_getElem hx,List.take_succ_eq_append_getElem hy,ht,h])).only ⟨rfl,rfl,rfl,trivial⟩ trivial
def ct_r2:Ctr:=⟨[.sl uB,.sl uB],fun x=>List.length x.1<1099511627776,fun x=>[.bool (decide ((show List Int from x.1)=x.2.1))],fun _=>[]⟩
theorem q47:Held Tryd.prog G0 18 ct_r2:=by
 refine Held.of cx0 (fn:=Tryd.f18) rfl rfl ⟨by decide,by decide⟩ ?_;rintro ⟨x,y,⟨⟩⟩ hp;replace hp:x.length<1099511627776:=hp;refine qae cx0 (vc_r2 x y _ _) (qap (fun h=>?_) (fun h=>?_))
 ·have h:(x.length:Int)≠y.length:=of_decide_eq_true h;refine QC.flat ?_ rfl rfl
  show [SV.bool (decide (x=y))]=_
  rw[decide_eq_false (fun q=>h (by rw[q]))]
 ·have h:¬ (x.length:Int)≠y.length:=of_decide_eq_false h;have h:x.length=y.length:=by omega
  exact ((q46 x y hp h _ 0 rfl (by omega) rfl).post fun rs blk hq=>QC.flat (by rw[hq];rfl) rfl (by rw[hq];rfl)).only ⟨rfl,rfl,rfl,trivial⟩ trivial
theorem q1n (x y:List Int) (hl:x.length<1099511627776) (he:x.length=y.length):∀ (k i:Nat),x.length-i=k->i<=x.length->x.take i=y.take i ->
  GD 55 Tryd.f55 (fun rs _=>rs=[.bool (decide (x=y))]) (hd Tryd.f55 0) ⟨[(0,.sl u4 x),(1,.sl u4 y),(12,.int .i64 x.length),(13,.int .i64 (i:Nat))],[]⟩:=by
 intro k
 induction k with
 | zero=>
  intro i hk hi ht;refine qae cx0 (qv8 x y i _ _) ?_;rw[decide_eq_false (show ¬ (i:Int)<(x.length:Int) by omega),bc_f];rw[List.take_of_length_le (by omega),List.take_of_length_le (by omega)] at ht
  show [SV.bool true]=_
  rw[decide_eq_true ht]
 | succ k ih=>
  intro i hk hi ht;have hx:i<x.length:=by omega
  have hy:i<y.length:=by omega
  refine qae cx0 (qv8 x y i _ _) ?_;rw[decide_eq_true (show (i:Int)<(x.length:Int) by omega),bc_t,Int.toNat_natCast,qha hx,qha hy,IntWalk.i64_in ((i:Int)+1) (by omega)];refine ⟨by omega,by omega,by omega,by omega,qap (fun h=>?_) (fun h=>?_)⟩
  ·have h:x[i]≠y[i]:=by simpa using h
   show [SV.bool false]=_
   rw[decide_eq_false (fun q=>h (by simp only[q]))]
  ·have h:x[i]=y[i]:=by simpa using h
   exact (ih (i+1) (by omega) (by omega) (by rw[List.take_succ_eq_append_getElem hx,List.take_succ_eq_append_getElem hy,ht,h])).only ⟨rfl,rfl,rfl,rfl,trivial⟩ trivial
def ct_eqW:Ctr:=⟨[.sl u4,.sl u4],fun x=>List.length x.1<1099511627776,fun x=>[.bool (decide ((show List Int from x.1)=x.2.1))],fun _=>[]⟩
theorem q1o:Held Tryd.prog G0 55 ct_eqW:=by
 refine Held.of cx0 (fn:=Tryd.f55) rfl rfl ⟨by decide,by decide⟩ ?_;rintro ⟨x,y,⟨⟩⟩ hp;replace hp:x.length<1099511627776:=hp;refine qae cx0 (q8a x y _ _) (qap (fun h=>?_) (fun h=>?_))
 ·have h:(x.length:Int)≠y.length:=of_decide_eq_true h;refine QC.flat ?_ rfl rfl
  show [SV.bool (decide (x=y))]=_
  rw[decide_eq_false (fun q=>h (by rw[q]))]
 ·have h:¬ (x.length:Int)≠y.length:=of_decide_eq_false h;have h:x.length=y.length:=by omega
  exact ((q1n x y hp h _ 0 rfl (by omega) rfl).post fun rs blk hq=>QC.flat (by rw[hq];rfl) rfl (by rw[hq];rfl)).only ⟨rfl,rfl,rfl,rfl,trivial⟩ trivial
theorem q1r (x y:List Bool) (hl:x.length<1099511627776) (he:x.length=y.length):∀ (k i:Nat),x.length-i=k->i<=x.length->x.take i=y.take i ->
  GD 56 Tryd.f56 (fun rs _=>rs=[.bool (decide (x=y))]) (hd Tryd.f56 0) ⟨[(0,.sl .bool x),(1,.sl .bool y),(12,.int .i64 x.length),(13,.int .i64 (i:Nat))],[]⟩:=by
 intro k
 induction k with
 | zero=>
  intro i hk hi ht;refine qae cx0 (qwa x y i _ _) ?_;rw[decide_eq_false (show ¬ (i:Int)<(x.length:Int) by omega),bc_f];rw[List.take_of_length_le (by omega),List.take_of_length_le (by omega)] at ht
  show [SV.bool true]=_
  rw[decide_eq_true ht]
 | succ k ih=>
  intro i hk hi ht;have hx:i<x.length:=by omega
  have hy:i<y.length:=by omega
  refine qae cx0 (qwa x y i _ _) ?_;rw[decide_eq_true (show (i:Int)<(x.length:Int) by omega),bc_t,Int.toNat_natCast,qpx hx,qpx hy,IntWalk.i64_in ((i:Int)+1) (by omega)];refine ⟨by omega,by omega,by omega,by omega,qap (fun h=>?_) (fun h=>?_)⟩
  ·have h:x[i]≠y[i]:=by simpa using h
   show [SV.bool false]=_
   rw[decide_eq_false (fun q=>h (by simp only[q]))]
  ·have h:x[i]=y[i]:=by simpa using h
   exact (ih (i+1) (by omega) (by omega) (by rw[List.take_succ_eq_append_getElem hx,List.take_succ_eq_append_getElem hy,ht,h])).only ⟨rfl,rfl,rfl,rfl,trivial⟩ trivial
def ct_eqB:Ctr:=⟨[.sl .bool,.sl .bool],fun x=>List.length x.1<1099511627776,fun x=>[.bool (decide ((show List Bool from x.1)=x.2.1))],fun _=>[]⟩
theorem q1s:Held Tryd.prog G0 56 ct_eqB:=by
 refine Held.of cx0 (fn:=Tryd.f56) rfl rfl ⟨by decide,by decide⟩ ?_;rintro ⟨x,y,⟨⟩⟩ hp;replace hp:x.length<1099511627776:=hp;refine qae cx0 (q8c x y _ _) (qap (fun h=>?_) (fun h=>?_))
 ·have h:(x.length:Int)≠y.length:=of_decide_eq_true h;refine QC.flat ?_ rfl rfl
  show [SV.bool (decide (x=y))]=_
  rw[decide_eq_false (fun q=>h (by rw[q]))]
 ·have h:¬ (x.length:Int)≠y.length:=of_decide_eq_false h;have h:x.length=y.length:=by omega
  exact ((q1r x y hp h _ 0 rfl (by omega) rfl).post fun rs blk hq=>QC.flat (by rw[hq];rfl) rfl (by rw[hq];rfl)).only ⟨rfl,rfl,rfl,rfl,trivial⟩ trivial
theorem q1p (x y:List Int) (hl:x.length<1099511627776) (he:x.length=y.length):∀ (k i:Nat),x.length-i=k->i<=x.length->x.take i=y.take i ->
  GD 57 Tryd.f57 (fun rs _=>rs=[.bool (decide (x=y))]) (hd Tryd.f57 0) ⟨[(0,.sl iI x),(1,.sl iI y),(12,.int .i64 x.length),(13,.int .i64 (i:Nat))],[]⟩:=by
 intro k
 induction k with
 | zero=>
  intro i hk hi ht;refine qae cx0 (qv9 x y i _ _) ?_;rw[decide_eq_false (show ¬ (i:Int)<(x.length:Int) by omega),bc_f];rw[List.take_of_length_le (by omega),List.take_of_length_le (by omega)] at ht
  show [SV.bool true]=_
  rw[decide_eq_true ht]
 | succ k ih=>
  intro i hk hi ht;have hx:i<x.length:=by omega
  have hy:i<y.length:=by omega
  refine qae cx0 (qv9 x y i _ _) ?_;rw[decide_eq_true (show (i:Int)<(x.length:Int) by omega),bc_t,Int.toNat_natCast,qc9 hx,qc9 hy,IntWalk.i64_in ((i:Int)+1) (by omega)];refine ⟨by omega,by omega,by omega,by omega,qap (fun h=>?_) (fun h=>?_)⟩
  ·have h:x[i]≠y[i]:=by simpa using h
   show [SV.bool false]=_
   rw[decide_eq_false (fun q=>h (by simp only[q]))]
  ·have h:x[i]=y[i]:=by simpa using h
   exact (ih (i+1) (by omega) (by omega) (by rw[List.take_succ_eq_append_getElem hx,List.take_succ_eq_append_getElem hy,ht,h])).only ⟨rfl,rfl,rfl,rfl,trivial⟩ trivial
def ct_eqI:Ctr:=⟨[.sl iI,.sl iI],fun x=>List.length x.1<1099511627776,fun x=>[.bool (decide ((show List Int from x.1)=x.2.1))],fun _=>[]⟩
theorem q1q:Held Tryd.prog G0 57 ct_eqI:=by
 refine Held.of cx0 (fn:=Tryd.f57) rfl rfl ⟨by decide,by decide⟩ ?_;rintro ⟨x,y,⟨⟩⟩ hp;replace hp:x.length<1099511627776:=hp;refine qae cx0 (q8b x y _ _) (qap (fun h=>?_) (fun h=>?_))
 ·have h:(x.length:Int)≠y.length:=of_decide_eq_true h;refine QC.flat ?_ rfl rfl
  show [SV.bool (decide (x=y))]=_
  rw[decide_eq_false (fun q=>h (by rw[q]))]
 ·have h:¬ (x.length:Int)≠y.length:=of_decide_eq_false h;have h:x.length=y.length:=by omega
  exact ((q1p x y hp h _ 0 rfl (by omega) rfl).post fun rs blk hq=>QC.flat (by rw[hq];rfl) rfl (by rw[hq];rfl)).only ⟨rfl,rfl,rfl,rfl,trivial⟩ trivial
def ct_beq:Ctr:=⟨[.sl uB,.sl uB],fun _=>True,fun x=>[.bool (decide (List.map toB x.1=List.map toB x.2.1))],fun _=>[]⟩
theorem q18:Held Tryd.prog G0 42 ct_beq:=Held.run cx0 (fn:=Tryd.f42) rfl rfl ⟨by decide,by decide⟩ fun ⟨x,y,_⟩ _=>(q8g x y _ _).mpr (QC.flat rfl rfl rfl)
def qxh (x:List Int):Prop:=x.length<1000000000
def ct_clone:Ctr:=⟨[.sl u4],fun x=>qxh x.1,fun x=>[.win true u4 0 0 (List.length x.1)],fun x=>[.row 50 u4 x.1]⟩
theorem q24 {ct:Ctr} {x:DL ct.args} {rs:List SV} {blk:List (Nat × LB)} {e:Sh} {et:TypeId} (h:ct.out x=[.win true e 0 0 0]) (hr:ct.rows x=[.row et e []]) (hs:rs=[.nils]) (he:0<e.size):QC ct x rs blk:=by
 subst hs;refine ⟨fun _=>none,?_,?_,fun i j b h1 h2=>?_,by rw[hr];rfl⟩
 ·rw[h];exact ⟨_,_,rfl,.inr ⟨rfl,rfl,rfl,rfl⟩,rfl⟩
 ·rw[hr];exact ⟨.inr ⟨rfl,_,_,rfl,he⟩,trivial⟩
 ·simp at h1
theorem qni:Held Tryd.prog G0 48 ct_clone:=Held.run cx0 (fn:=Tryd.f48) rfl rfl ⟨by decide,by decide⟩ fun ⟨x,_⟩ hp=>by
 have hp:x.length<1000000000:=hp;refine (qzs x _ _).mpr fun r hr=>?_
 cases r with
 | true=>
  have hx:x=[]:=hr rfl;subst hx;exact q24 (e:=u4) (et:=50) rfl rfl rfl (by decide)
 | false=>exact ⟨rfl,rfl,(show 0+x.length<2 ^ 30 by omega),by decide,qid (e:=u4) (et:=50) (a:=7) (xs:=x) rfl rfl rfl (Nat.zero_add _) rfl⟩
section
variable (w1 w2:List Int) (m1 m2:List Bool) (l1 l2:List Int)
abbrev LiQ (w1 w2:List Int) (m1 m2:List Bool) (l1 l2:List Int):List SV->List (Nat × LB)->Prop:=fun rs _=>rs=[.bool (decide ((w1,m1,l1)=(w2,m2,l2)))]
abbrev r3S (w1 w2:List Int) (m1 m2:List Bool) (l1 l2:List Int) (s i:Nat):PS:=⟨[(2,.ptr 2 0),(3,.ptr 3 0),(s,.int .i64 (i:Nat))],[(2,.var [.sl u4 w1,.sl .bool m1,.sl iI l1]),(3,.var [.sl u4 w2,.sl .bool m2,.sl iI l2])]⟩
theorem q0d (e1:w1=w2) (e2:m1=m2) (hlm:m1.length=m2.length) (hll:l1.length=l2.length) (bm:m1.length<1099511627776) (bl:l1.length<1099511627776) (hl:l1.length<1099511627776) (he:l1.length=l2.length):∀ (k i:Nat),l1.length-i=k->i<=l1.length->l1.take i=l2.take i ->
  GD 17 Tryd.f17 (LiQ w1 w2 m1 m2 l1 l2) (hd Tryd.f17 2) (r3S w1 w2 m1 m2 l1 l2 7 i):=by
 have _:=And.intro hlm (And.intro hll (And.intro bm bl));intro k
 induction k with
 | zero=>
  intro i hk hi ht;refine qae cx0 (q2p w1 w2 m1 m2 l1 l2 i _ _) ?_;rw[decide_eq_false (show ¬ (i:Int)<(l1.length:Int) by omega),bc_f];rw[List.take_of_length_le (by omega),List.take_of_length_le (by omega)] at ht
  show [SV.bool true]=_
  rw[decide_eq_true (by rw[e1,e2,ht])]
 | succ k ih=>
  intro i hk hi ht;have hx:i<l1.length:=by omega
  have hy:i<l2.length:=by omega
  refine qae cx0 (q2p w1 w2 m1 m2 l1 l2 i _ _) ?_;rw[decide_eq_true (show (i:Int)<(l1.length:Int) by omega),bc_t,Int.toNat_natCast,qc9 hx,qc9 hy,IntWalk.i64_in ((i:Int)+1) (by omega)];refine ⟨by omega,by omega,by omega,by omega,qap (fun h=>?_) (fun h=>?_)⟩
  ·have h:l1[i]≠l2[i]:=by simpa using h
   show [SV.bool false]=_
   rw[decide_eq_false (fun q=>h (by simp only[Prod.mk.injEq] at q;simp only[q]))]
  ·have h:l1[i]=l2[i]:=by simpa using h
   exact (ih (i+1) (by omega) (by omega) (by rw[List.take_succ_eq_append_getElem hx,List.take_succ_eq_append_getElem hy,ht,h])).only ⟨rfl,rfl,rfl,trivial⟩ ⟨rfl,rfl,trivial⟩
theorem q0e (e1:w1=w2) (hlm:m1.length=m2.length) (hll:l1.length=l2.length) (bm:m1.length<1099511627776) (bl:l1.length<1099511627776) (hl:m1.length<1099511627776) (he:m1.length=m2.length):∀ (k i:Nat),m1.length-i=k->i<=m1.length->m1.take i=m2.take i ->
  GD 17 Tryd.f17 (LiQ w1 w2 m1 m2 l1 l2) (hd Tryd.f17 1) (r3S w1 w2 m1 m2 l1 l2 6 i):=by
 have _:=And.intro hlm (And.intro hll (And.intro bm bl));intro k
 induction k with
 | zero=>
  intro i hk hi ht;refine qae cx0 (q2q w1 w2 m1 m2 l1 l2 i _ _) ?_;rw[decide_eq_false (show ¬ (i:Int)<(m1.length:Int) by omega),bc_f];rw[List.take_of_length_le (by omega),List.take_of_length_le (by omega)] at ht;exact (q0d w1 w2 m1 m2 l1 l2 e1 ht hlm hll bm bl bl hll _ 0 rfl (Nat.zero_le _) rfl).only ⟨rfl,rfl,rfl,trivial⟩ ⟨rfl,rfl,trivial⟩
 | succ k ih=>
  intro i hk hi ht;have hx:i<m1.length:=by omega
  have hy:i<m2.length:=by omega
  refine qae cx0 (q2q w1 w2 m1 m2 l1 l2 i _ _) ?_;rw[decide_eq_true (show (i:Int)<(m1.length:Int) by omega),bc_t,Int.toNat_natCast,qpx hx,qpx hy,IntWalk.i64_in ((i:Int)+1) (by omega)];refine ⟨by omega,by omega,by omega,by omega,qap (fun h=>?_) (fun h=>?_)⟩
  ·have h:m1[i]≠m2[i]:=by simpa using h
   show [SV.bool false]=_
   rw[decide_eq_false (fun q=>h (by simp only[Prod.mk.injEq] at q;simp only[q]))]
  ·have h:m1[i]=m2[i]:=by simpa using h
   exact (ih (i+1) (by omega) (by omega) (by rw[List.take_succ_eq_append_getElem hx,List.take_succ_eq_append_getElem hy,ht,h])).only ⟨rfl,rfl,rfl,trivial⟩ ⟨rfl,rfl,trivial⟩
theorem q0f (hlm:m1.length=m2.length) (hll:l1.length=l2.length) (bm:m1.length<1099511627776) (bl:l1.length<1099511627776) (hl:w1.length<1099511627776) (he:w1.length=w2.length):∀ (k i:Nat),w1.length-i=k->i<=w1.length->w1.take i=w2.take i ->
  GD 17 Tryd.f17 (LiQ w1 w2 m1 m2 l1 l2) (hd Tryd.f17 0) (r3S w1 w2 m1 m2 l1 l2 5 i):=by
 have _:=And.intro hlm (And.intro hll (And.intro bm bl));intro k
 induction k with
 | zero=>
  intro i hk hi ht;refine qae cx0 (q2r w1 w2 m1 m2 l1 l2 i _ _) ?_;rw[decide_eq_false (show ¬ (i:Int)<(w1.length:Int) by omega),bc_f];rw[List.take_of_length_le (by omega),List.take_of_length_le (by omega)] at ht;exact (q0e w1 w2 m1 m2 l1 l2 ht hlm hll bm bl bm hlm _ 0 rfl (Nat.zero_le _) rfl).only ⟨rfl,rfl,rfl,trivial⟩ ⟨rfl,rfl,trivial⟩
 | succ k ih=>
  intro i hk hi ht;have hx:i<w1.length:=by omega
  have hy:i<w2.length:=by omega
  refine qae cx0 (q2r w1 w2 m1 m2 l1 l2 i _ _) ?_;rw[decide_eq_true (show (i:Int)<(w1.length:Int) by omega),bc_t,Int.toNat_natCast,qha hx,qha hy,IntWalk.i64_in ((i:Int)+1) (by omega)];refine ⟨by omega,by omega,by omega,by omega,qap (fun h=>?_) (fun h=>?_)⟩
  ·have h:w1[i]≠w2[i]:=by simpa using h
   show [SV.bool false]=_
   rw[decide_eq_false (fun q=>h (by simp only[Prod.mk.injEq] at q;simp only[q]))]
  ·have h:w1[i]=w2[i]:=by simpa using h
   exact (ih (i+1) (by omega) (by omega) (by rw[List.take_succ_eq_append_getElem hx,List.take_succ_eq_append_getElem hy,ht,h])).only ⟨rfl,rfl,rfl,trivial⟩ ⟨rfl,rfl,trivial⟩
end
def q5n (x:LiT):Prop:=x.1.length<1099511627776/\x.2.1.length<1099511627776/\x.2.2.length<1099511627776
def ct_r3:Ctr:=⟨[liS,liS],fun x=>q5n x.1,fun x=>[.bool (decide ((show LiT from x.1)=x.2.1))],fun _=>[]⟩
theorem q45:Held Tryd.prog G0 17 ct_r3:=by
 refine Held.of cx0 (fn:=Tryd.f17) rfl rfl ⟨by decide,by decide⟩ ?_;rintro ⟨⟨w1,m1,l1⟩,⟨w2,m2,l2⟩,⟨⟩⟩ hp;obtain ⟨p1,p2,p3⟩:q5n (w1,m1,l1):=hp;have no:∀ blk,(w1,m1,l1)≠(w2,m2,l2)->QC ct_r3 ((w1,m1,l1),(w2,m2,l2),()) [SV.bool false] blk:=fun blk h=>QC.flat (by show [SV.bool (decide ((w1,m1,l1)=(w2,m2,l2)))]=_;rw[decide_eq_false h]) rfl rfl
 refine qae cx0 (vc_r3 w1 w2 m1 m2 l1 l2 _ _) (qap (fun h=>⟨rfl,rfl,no _ fun q=>?_⟩) (fun h=>qap (fun h2=>⟨rfl,no _ fun q=>?_⟩) (fun h2=>qap (fun h3=>no _ fun q=>?_) (fun h3=>?_))))
 ·simp only[Prod.mk.injEq] at q;rw[q.1] at h;exact absurd rfl (of_decide_eq_true h)
 ·simp only[Prod.mk.injEq] at q;have h2:(m1.length:Int)≠m2.length:=of_decide_eq_true h2;rw[q.2.1] at h2;exact h2 rfl
 ·simp only[Prod.mk.injEq] at q;have h3:(l1.length:Int)≠l2.length:=of_decide_eq_true h3;rw[q.2.2] at h3;exact h3 rfl
 ·have h:¬ (w1.length:Int)≠w2.length:=of_decide_eq_false h;have h2:¬ (m1.length:Int)≠m2.length:=of_decide_eq_false h2;have h3:¬ (l1.length:Int)≠l2.length:=of_decide_eq_false h3;exact ((q0f w1 w2 m1 m2 l1 l2 (by omega) (by omega) p2 p3 p1 (by omega) _ 0 rfl (Nat.zero_le _) rfl).post fun rs blk hq=>QC.flat (by rw[hq];rfl) rfl (by rw[hq];rfl)).only ⟨rfl,rfl,rfl,trivial⟩ ⟨rfl,rfl,trivial⟩
def CQe:CV:=[(55,.inl ct_eqW),(56,.inl ct_eqB),(57,.inl ct_eqI)]
theorem cxQe:CxOK Tryd.prog tt G0 CQe:=((cx0.cons q1q (fn:=Tryd.f57) rfl rfl rfl).cons q1s (fn:=Tryd.f56) rfl rfl rfl).cons q1o (fn:=Tryd.f55) rfl rfl rfl
set_option maxRecDepth 100000
theorem q35 (w1 w2:List Int) (m1 m2:List Bool) (l1 l2:List Int) (Q:QT) (R:RT):sy tt G0 CQe Tryd.f39.ntmps Tryd.f39.results.toList Q R 1000 [.code (qaf Tryd.f39)] (entry [liS,liS] ((w1,m1,l1),(w2,m2,l2),())) =
  (ct_eqW.pre (w1,w2,()) /\
 bc (decide ((have this:=w1;this)=w2)) (ct_eqB.pre (m1,m2,()) /\
 bc (decide ((have this:=m1;this)=m2)) (ct_eqI.pre (l1,l2,()) /\
 Q [.bool (decide ((have this:=l1;this)=l2))] [(2,.var [.sl u4 w1,.sl Sh.bool m1,.sl iI l1]),(3,.var [.sl u4 w2,.sl Sh.bool m2,.sl iI l2])]) (false=false /\
 Q [.bool false] [(2,.var [.sl u4 w1,.sl Sh.bool m1,.sl iI l1]),(3,.var [.sl u4 w2,.sl Sh.bool m2,.sl iI l2])])) (false=false /\
 false=false /\
 Q [.bool false] [(2,.var [.sl u4 w1,.sl Sh.bool m1,.sl iI l1]),(3,.var [.sl u4 w2,.sl Sh.bool m2,.sl iI l2])])):=by kernel_rfl
end Go.Proofs.YthejkhpeokeccaaDoor
