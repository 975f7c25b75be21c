/-
  A part of the proof: what pieces of the program give; conditions: those of each theorem.
-/
import Derived.Test.YtplkpodikhfcdaaDoorQ2
import Derived.Test.YtplkpodikhfcdaaDoorQ1
import Derived.Test.YtplkpodikhfcdaaDoorHD
set_option linter.unusedVariables false
set_option linter.unusedSimpArgs false
namespace Go.Proofs.YtplkpodikhfcdaaDoor
open Go.Px Go.Ax
set_option maxRecDepth 100000
def CRd:CV:=[(60,.inl ctSg),(71,.inl ctWrd)]
theorem cxRd:CxOK Tryd.prog tt G0 CRd:=(cx0.cons qyh (fn:=Tryd.f71) rfl rfl rfl).cons q3r (fn:=Tryd.f60) rfl rfl rfl
set_option maxRecDepth 100000
theorem quy (w a:Int) (Q:QT) (R:RT):sy tt G0 CRd Tryd.f34.ntmps Tryd.f34.results.toList Q (fun it S=>R it (qba [1,4,5,6,7,8,9,10,33] [4,10] S)) 12 [.code (qai Tryd.f34)] (entry [.int .u32,.int .i64] (w,a,())) =
  ((0:Int)<=24 /\
 (0:Int)<=16 /\
 (0:Int)<=8 /\
 R (midI 12 [] [Item.code (qai Tryd.f34)]) { env:=[(1,.int .i64 a),(4,.ptr 4 0),(5,.int .i64 (IntKind.i64.wrap (w.fdiv ((2:Int) ^ min (24) IntKind.u32.bits)))),(6,.int .i64 (IntKind.i64.wrap (bitI BinOp.and IntKind.u32 (w.fdiv ((2:Int) ^ min (16) IntKind.u32.bits)) (255:Int)))),(7,.int .i64 (IntKind.i64.wrap (bitI BinOp.and IntKind.u32 (w.fdiv ((2:Int) ^ min (8) IntKind.u32.bits)) (255:Int)))),(8,.int .i64 (IntKind.i64.wrap (bitI BinOp.and IntKind.u32 w (255:Int)))),(9,.int .i64 (IntKind.i64.wrap (IntKind.i64.wrap ((256:Int)*IntKind.i64.wrap (bitI BinOp.and IntKind.u32 (w.fdiv ((2:Int) ^ min (8) IntKind.u32.bits)) (255:Int)))+IntKind.i64.wrap (bitI BinOp.and IntKind.u32 w (255:Int))))),(10,.ptr 10 0),(33,.int .i64 (IntKind.i64.wrap (w.fdiv ((2:Int) ^ min (24) IntKind.u32.bits))))],blk:=[(4,.var [.int .i64 0,.int .i64 0,.int .i64 0,.int .i64 0,.int .i64 0]),(10,.var [.int .i64 0,.int .i64 0,.int .i64 0,.int .i64 0,.int .i64 (IntKind.i64.wrap w)])] }):=by kernel_rfl
def qap (o a b1 lo n:Int):List (Nat × LB):=[(4,.var [.int .i64 o,.int .i64 b1,.int .i64 0,.int .i64 0,.int .i64 (IntKind.i64.wrap (a+IntKind.i64.wrap ((4:Int)*sgV lo (16:Int))))]),(10,.var [.int .i64 0,.int .i64 0,.int .i64 0,.int .i64 0,.int .i64 n]),(11,.var [.int .i64 o,.int .i64 b1,.int .i64 0,.int .i64 0,.int .i64 (IntKind.i64.wrap (a+IntKind.i64.wrap ((4:Int)*sgV lo (16:Int))))])]
def qag (o a b1 lo n:Int):List (Nat × LB):=[(4,.var [.int .i64 o,.int .i64 b1,.int .i64 0,.int .i64 0,.int .i64 (IntKind.i64.wrap (a+IntKind.i64.wrap ((4:Int)*lo)))]),(10,.var [.int .i64 0,.int .i64 0,.int .i64 0,.int .i64 0,.int .i64 n]),(11,.var [.int .i64 o,.int .i64 b1,.int .i64 0,.int .i64 0,.int .i64 (IntKind.i64.wrap (a+IntKind.i64.wrap ((4:Int)*lo)))])]
def qao (o b1 lo n:Int):List (Nat × LB):=[(4,.var [.int .i64 o,.int .i64 b1,.int .i64 0,.int .i64 0,.int .i64 lo]),(10,.var [.int .i64 0,.int .i64 0,.int .i64 0,.int .i64 0,.int .i64 n]),(11,.var [.int .i64 o,.int .i64 b1,.int .i64 0,.int .i64 0,.int .i64 lo])]
def qb0 (o a b1 lo n:Int):List (Nat × LB):=[(4,.var [.int .i64 o,.int .i64 0,.int .i64 0,.int .i64 0,.int .i64 (IntKind.i64.wrap (a+IntKind.i64.wrap ((4:Int)*sgV (IntKind.i64.wrap (IntKind.i64.wrap ((65536:Int)*b1)+lo)) (24:Int))))]),(10,.var [.int .i64 0,.int .i64 0,.int .i64 0,.int .i64 0,.int .i64 n])]
def qae (n:Int):List (Nat × LB):=[(4,.var [.int .i64 0,.int .i64 0,.int .i64 0,.int .i64 0,.int .i64 n]),(10,.var [.int .i64 0,.int .i64 0,.int .i64 0,.int .i64 0,.int .i64 n])]
def qe7 (o b1 b2 b3 n:Int):List (Nat × LB):=[(4,.var [.int .i64 o,.int .i64 b1,.int .i64 b2,.int .i64 b3,.int .i64 0]),(10,.var [.int .i64 0,.int .i64 0,.int .i64 0,.int .i64 0,.int .i64 n])]
theorem qkp (o a b1 b2 b3 lo k n:Int) (Q:QT) (R:RT):sy tt G0 CRd Tryd.f34.ntmps Tryd.f34.results.toList Q R 1000 (midI 12 [] [.code (qai Tryd.f34)]) ⟨[(1,.int .i64 a),(4,.ptr 4 0),(5,.int .i64 o),(6,.int .i64 b1),(7,.int .i64 b2),(8,.int .i64 b3),(9,.int .i64 lo),(10,.ptr 10 0),(33,.int .i64 k)],[(4,.var [.int .i64 0,.int .i64 0,.int .i64 0,.int .i64 0,.int .i64 0]),(10,.var [.int .i64 0,.int .i64 0,.int .i64 0,.int .i64 0,.int .i64 n])]⟩ =
  (bc (decide (k=(1:Int))) (bc (decide (k=(1:Int))) (bc (decide ((15:Int)<b1)) (true=true /\
 true=true /\
 Q [.agg [.int .i64 0,.int .i64 0,.int .i64 0,.int .i64 0,.int .i64 n]] (qae n)) (bc (bif false then true else decide ((15:Int)<b2)) (true=true /\
 Q [.agg [.int .i64 0,.int .i64 0,.int .i64 0,.int .i64 0,.int .i64 n]] (qae n)) (bc (bif false then true else decide ((15:Int)<b3)) (Q [.agg [.int .i64 0,.int .i64 0,.int .i64 0,.int .i64 0,.int .i64 n]] (qae n)) (Q [.agg [.int .i64 o,.int .i64 b1,.int .i64 b2,.int .i64 b3,.int .i64 0]] (qe7 o b1 b2 b3 n))))) (bc (decide (k=(5:Int))) (bc (decide (k=(5:Int))) (ctSg.pre (IntKind.i64.wrap (IntKind.i64.wrap ((65536:Int)*b1)+lo),(24:Int),()) /\
 Q [.agg [.int .i64 o,.int .i64 0,.int .i64 0,.int .i64 0,.int .i64 (IntKind.i64.wrap (a+IntKind.i64.wrap ((4:Int)*sgV (IntKind.i64.wrap (IntKind.i64.wrap ((65536:Int)*b1)+lo)) (24:Int))))]] (qb0 o a b1 lo n)) (bc (decide (k=(2:Int))) (bc (decide (k=(2:Int))) (bc (decide ((15:Int)<b1)) (Q [.agg [.int .i64 0,.int .i64 0,.int .i64 0,.int .i64 0,.int .i64 n]] (qae n)) (bc (decide (o=(7:Int))) (ctSg.pre (lo,(16:Int),()) /\
 bc (decide (o=(8:Int))) (Q [.agg [.int .i64 o,.int .i64 b1,.int .i64 0,.int .i64 0,.int .i64 (IntKind.i64.wrap (a+IntKind.i64.wrap ((4:Int)*lo)))]] (qag o a b1 lo n)) (Q [.agg [.int .i64 o,.int .i64 b1,.int .i64 0,.int .i64 0,.int .i64 (IntKind.i64.wrap (a+IntKind.i64.wrap ((4:Int)*sgV lo (16:Int))))]] (qap o a b1 lo n))) (bc (decide (o=(8:Int))) (Q [.agg [.int .i64 o,.int .i64 b1,.int .i64 0,.int .i64 0,.int .i64 (IntKind.i64.wrap (a+IntKind.i64.wrap ((4:Int)*lo)))]] (qag o a b1 lo n)) (Q [.agg [.int .i64 o,.int .i64 b1,.int .i64 0,.int .i64 0,.int .i64 lo]] (qao o b1 lo n))))) (Q [.agg [.int .i64 0,.int .i64 0,.int .i64 0,.int .i64 0,.int .i64 n]] (qae n))) (bc (decide (k=(7:Int))) (bc (decide (k=(7:Int))) (bc (decide ((15:Int)<b1)) (Q [.agg [.int .i64 0,.int .i64 0,.int .i64 0,.int .i64 0,.int .i64 n]] (qae n)) (bc (decide (o=(7:Int))) (ctSg.pre (lo,(16:Int),()) /\
 bc (decide (o=(8:Int))) (Q [.agg [.int .i64 o,.int .i64 b1,.int .i64 0,.int .i64 0,.int .i64 (IntKind.i64.wrap (a+IntKind.i64.wrap ((4:Int)*lo)))]] (qag o a b1 lo n)) (Q [.agg [.int .i64 o,.int .i64 b1,.int .i64 0,.int .i64 0,.int .i64 (IntKind.i64.wrap (a+IntKind.i64.wrap ((4:Int)*sgV lo (16:Int))))]] (qap o a b1 lo n))) (bc (decide (o=(8:Int))) (Q [.agg [.int .i64 o,.int .i64 b1,.int .i64 0,.int .i64 0,.int .i64 (IntKind.i64.wrap (a+IntKind.i64.wrap ((4:Int)*lo)))]] (qag o a b1 lo n)) (Q [.agg [.int .i64 o,.int .i64 b1,.int .i64 0,.int .i64 0,.int .i64 lo]] (qao o b1 lo n))))) (Q [.agg [.int .i64 0,.int .i64 0,.int .i64 0,.int .i64 0,.int .i64 n]] (qae n))) (bc (decide (k=(8:Int))) (bc (decide ((15:Int)<b1)) (Q [.agg [.int .i64 0,.int .i64 0,.int .i64 0,.int .i64 0,.int .i64 n]] (qae n)) (bc (decide (o=(7:Int))) (ctSg.pre (lo,(16:Int),()) /\
 bc (decide (o=(8:Int))) (Q [.agg [.int .i64 o,.int .i64 b1,.int .i64 0,.int .i64 0,.int .i64 (IntKind.i64.wrap (a+IntKind.i64.wrap ((4:Int)*lo)))]] (qag o a b1 lo n)) (Q [.agg [.int .i64 o,.int .i64 b1,.int .i64 0,.int .i64 0,.int .i64 (IntKind.i64.wrap (a+IntKind.i64.wrap ((4:Int)*sgV lo (16:Int))))]] (qap o a b1 lo n))) (bc (decide (o=(8:Int))) (Q [.agg [.int .i64 o,.int .i64 b1,.int .i64 0,.int .i64 0,.int .i64 (IntKind.i64.wrap (a+IntKind.i64.wrap ((4:Int)*lo)))]] (qag o a b1 lo n)) (Q [.agg [.int .i64 o,.int .i64 b1,.int .i64 0,.int .i64 0,.int .i64 lo]] (qao o b1 lo n))))) (Q [.agg [.int .i64 0,.int .i64 0,.int .i64 0,.int .i64 0,.int .i64 n]] (qae n)))))) (bc (decide (k=(6:Int))) (ctSg.pre (IntKind.i64.wrap (IntKind.i64.wrap ((65536:Int)*b1)+lo),(24:Int),()) /\
 Q [.agg [.int .i64 o,.int .i64 0,.int .i64 0,.int .i64 0,.int .i64 (IntKind.i64.wrap (a+IntKind.i64.wrap ((4:Int)*sgV (IntKind.i64.wrap (IntKind.i64.wrap ((65536:Int)*b1)+lo)) (24:Int))))]] (qb0 o a b1 lo n)) (bc (decide (k=(2:Int))) (bc (decide (k=(2:Int))) (bc (decide ((15:Int)<b1)) (Q [.agg [.int .i64 0,.int .i64 0,.int .i64 0,.int .i64 0,.int .i64 n]] (qae n)) (bc (decide (o=(7:Int))) (ctSg.pre (lo,(16:Int),()) /\
 bc (decide (o=(8:Int))) (Q [.agg [.int .i64 o,.int .i64 b1,.int .i64 0,.int .i64 0,.int .i64 (IntKind.i64.wrap (a+IntKind.i64.wrap ((4:Int)*lo)))]] (qag o a b1 lo n)) (Q [.agg [.int .i64 o,.int .i64 b1,.int .i64 0,.int .i64 0,.int .i64 (IntKind.i64.wrap (a+IntKind.i64.wrap ((4:Int)*sgV lo (16:Int))))]] (qap o a b1 lo n))) (bc (decide (o=(8:Int))) (Q [.agg [.int .i64 o,.int .i64 b1,.int .i64 0,.int .i64 0,.int .i64 (IntKind.i64.wrap (a+IntKind.i64.wrap ((4:Int)*lo)))]] (qag o a b1 lo n)) (Q [.agg [.int .i64 o,.int .i64 b1,.int .i64 0,.int .i64 0,.int .i64 lo]] (qao o b1 lo n))))) (Q [.agg [.int .i64 0,.int .i64 0,.int .i64 0,.int .i64 0,.int .i64 n]] (qae n))) (bc (decide (k=(7:Int))) (bc (decide (k=(7:Int))) (bc (decide ((15:Int)<b1)) (Q [.agg [.int .i64 0,.int .i64 0,.int .i64 0,.int .i64 0,.int .i64 n]] (qae n)) (bc (decide (o=(7:Int))) (ctSg.pre (lo,(16:Int),()) /\
 bc (decide (o=(8:Int))) (Q [.agg [.int .i64 o,.int .i64 b1,.int .i64 0,.int .i64 0,.int .i64 (IntKind.i64.wrap (a+IntKind.i64.wrap ((4:Int)*lo)))]] (qag o a b1 lo n)) (Q [.agg [.int .i64 o,.int .i64 b1,.int .i64 0,.int .i64 0,.int .i64 (IntKind.i64.wrap (a+IntKind.i64.wrap ((4:Int)*sgV lo (16:Int))))]] (qap o a b1 lo n))) (bc (decide (o=(8:Int))) (Q [.agg [.int .i64 o,.int .i64 b1,.int .i64 0,.int .i64 0,.int .i64 (IntKind.i64.wrap (a+IntKind.i64.wrap ((4:Int)*lo)))]] (qag o a b1 lo n)) (Q [.agg [.int .i64 o,.int .i64 b1,.int .i64 0,.int .i64 0,.int .i64 lo]] (qao o b1 lo n))))) (Q [.agg [.int .i64 0,.int .i64 0,.int .i64 0,.int .i64 0,.int .i64 n]] (qae n))) (bc (decide (k=(8:Int))) (bc (decide ((15:Int)<b1)) (Q [.agg [.int .i64 0,.int .i64 0,.int .i64 0,.int .i64 0,.int .i64 n]] (qae n)) (bc (decide (o=(7:Int))) (ctSg.pre (lo,(16:Int),()) /\
 bc (decide (o=(8:Int))) (Q [.agg [.int .i64 o,.int .i64 b1,.int .i64 0,.int .i64 0,.int .i64 (IntKind.i64.wrap (a+IntKind.i64.wrap ((4:Int)*lo)))]] (qag o a b1 lo n)) (Q [.agg [.int .i64 o,.int .i64 b1,.int .i64 0,.int .i64 0,.int .i64 (IntKind.i64.wrap (a+IntKind.i64.wrap ((4:Int)*sgV lo (16:Int))))]] (qap o a b1 lo n))) (bc (decide (o=(8:Int))) (Q [.agg [.int .i64 o,.int .i64 b1,.int .i64 0,.int .i64 0,.int .i64 (IntKind.i64.wrap (a+IntKind.i64.wrap ((4:Int)*lo)))]] (qag o a b1 lo n)) (Q [.agg [.int .i64 o,.int .i64 b1,.int .i64 0,.int .i64 0,.int .i64 lo]] (qao o b1 lo n))))) (Q [.agg [.int .i64 0,.int .i64 0,.int .i64 0,.int .i64 0,.int .i64 n]] (qae n)))))))) (bc (decide (k=(3:Int))) (bc (decide (k=(3:Int))) (bc (decide ((15:Int)<b1)) (true=true /\
 true=true /\
 Q [.agg [.int .i64 0,.int .i64 0,.int .i64 0,.int .i64 0,.int .i64 n]] (qae n)) (bc (bif false then true else decide ((15:Int)<b2)) (true=true /\
 Q [.agg [.int .i64 0,.int .i64 0,.int .i64 0,.int .i64 0,.int .i64 n]] (qae n)) (bc (bif false then true else decide ((15:Int)<b3)) (Q [.agg [.int .i64 0,.int .i64 0,.int .i64 0,.int .i64 0,.int .i64 n]] (qae n)) (Q [.agg [.int .i64 o,.int .i64 b1,.int .i64 b2,.int .i64 b3,.int .i64 0]] (qe7 o b1 b2 b3 n))))) (bc (decide (k=(5:Int))) (bc (decide (k=(5:Int))) (ctSg.pre (IntKind.i64.wrap (IntKind.i64.wrap ((65536:Int)*b1)+lo),(24:Int),()) /\
 Q [.agg [.int .i64 o,.int .i64 0,.int .i64 0,.int .i64 0,.int .i64 (IntKind.i64.wrap (a+IntKind.i64.wrap ((4:Int)*sgV (IntKind.i64.wrap (IntKind.i64.wrap ((65536:Int)*b1)+lo)) (24:Int))))]] (qb0 o a b1 lo n)) (bc (decide (k=(2:Int))) (bc (decide (k=(2:Int))) (bc (decide ((15:Int)<b1)) (Q [.agg [.int .i64 0,.int .i64 0,.int .i64 0,.int .i64 0,.int .i64 n]] (qae n)) (bc (decide (o=(7:Int))) (ctSg.pre (lo,(16:Int),()) /\
 bc (decide (o=(8:Int))) (Q [.agg [.int .i64 o,.int .i64 b1,.int .i64 0,.int .i64 0,.int .i64 (IntKind.i64.wrap (a+IntKind.i64.wrap ((4:Int)*lo)))]] (qag o a b1 lo n)) (Q [.agg [.int .i64 o,.int .i64 b1,.int .i64 0,.int .i64 0,.int .i64 (IntKind.i64.wrap (a+IntKind.i64.wrap ((4:Int)*sgV lo (16:Int))))]] (qap o a b1 lo n))) (bc (decide (o=(8:Int))) (Q [.agg [.int .i64 o,.int .i64 b1,.int .i64 0,.int .i64 0,.int .i64 (IntKind.i64.wrap (a+IntKind.i64.wrap ((4:Int)*lo)))]] (qag o a b1 lo n)) (Q [.agg [.int .i64 o,.int .i64 b1,.int .i64 0,.int .i64 0,.int .i64 lo]] (qao o b1 lo n))))) (Q [.agg [.int .i64 0,.int .i64 0,.int .i64 0,.int .i64 0,.int .i64 n]] (qae n))) (bc (decide (k=(7:Int))) (bc (decide (k=(7:Int))) (bc (decide ((15:Int)<b1)) (Q [.agg [.int .i64 0,.int .i64 0,.int .i64 0,.int .i64 0,.int .i64 n]] (qae n)) (bc (decide (o=(7:Int))) (ctSg.pre (lo,(16:Int),()) /\
 bc (decide (o=(8:Int))) (Q [.agg [.int .i64 o,.int .i64 b1,.int .i64 0,.int .i64 0,.int .i64 (IntKind.i64.wrap (a+IntKind.i64.wrap ((4:Int)*lo)))]] (qag o a b1 lo n)) (Q [.agg [.int .i64 o,.int .i64 b1,.int .i64 0,.int .i64 0,.int .i64 (IntKind.i64.wrap (a+IntKind.i64.wrap ((4:Int)*sgV lo (16:Int))))]] (qap o a b1 lo n))) (bc (decide (o=(8:Int))) (Q [.agg [.int .i64 o,.int .i64 b1,.int .i64 0,.int .i64 0,.int .i64 (IntKind.i64.wrap (a+IntKind.i64.wrap ((4:Int)*lo)))]] (qag o a b1 lo n)) (Q [.agg [.int .i64 o,.int .i64 b1,.int .i64 0,.int .i64 0,.int .i64 lo]] (qao o b1 lo n))))) (Q [.agg [.int .i64 0,.int .i64 0,.int .i64 0,.int .i64 0,.int .i64 n]] (qae n))) (bc (decide (k=(8:Int))) (bc (decide ((15:Int)<b1)) (Q [.agg [.int .i64 0,.int .i64 0,.int .i64 0,.int .i64 0,.int .i64 n]] (qae n)) (bc (decide (o=(7:Int))) (ctSg.pre (lo,(16:Int),()) /\
 bc (decide (o=(8:Int))) (Q [.agg [.int .i64 o,.int .i64 b1,.int .i64 0,.int .i64 0,.int .i64 (IntKind.i64.wrap (a+IntKind.i64.wrap ((4:Int)*lo)))]] (qag o a b1 lo n)) (Q [.agg [.int .i64 o,.int .i64 b1,.int .i64 0,.int .i64 0,.int .i64 (IntKind.i64.wrap (a+IntKind.i64.wrap ((4:Int)*sgV lo (16:Int))))]] (qap o a b1 lo n))) (bc (decide (o=(8:Int))) (Q [.agg [.int .i64 o,.int .i64 b1,.int .i64 0,.int .i64 0,.int .i64 (IntKind.i64.wrap (a+IntKind.i64.wrap ((4:Int)*lo)))]] (qag o a b1 lo n)) (Q [.agg [.int .i64 o,.int .i64 b1,.int .i64 0,.int .i64 0,.int .i64 lo]] (qao o b1 lo n))))) (Q [.agg [.int .i64 0,.int .i64 0,.int .i64 0,.int .i64 0,.int .i64 n]] (qae n)))))) (bc (decide (k=(6:Int))) (ctSg.pre (IntKind.i64.wrap (IntKind.i64.wrap ((65536:Int)*b1)+lo),(24:Int),()) /\
 Q [.agg [.int .i64 o,.int .i64 0,.int .i64 0,.int .i64 0,.int .i64 (IntKind.i64.wrap (a+IntKind.i64.wrap ((4:Int)*sgV (IntKind.i64.wrap (IntKind.i64.wrap ((65536:Int)*b1)+lo)) (24:Int))))]] (qb0 o a b1 lo n)) (bc (decide (k=(2:Int))) (bc (decide (k=(2:Int))) (bc (decide ((15:Int)<b1)) (Q [.agg [.int .i64 0,.int .i64 0,.int .i64 0,.int .i64 0,.int .i64 n]] (qae n)) (bc (decide (o=(7:Int))) (ctSg.pre (lo,(16:Int),()) /\
 bc (decide (o=(8:Int))) (Q [.agg [.int .i64 o,.int .i64 b1,.int .i64 0,.int .i64 0,.int .i64 (IntKind.i64.wrap (a+IntKind.i64.wrap ((4:Int)*lo)))]] (qag o a b1 lo n)) (Q [.agg [.int .i64 o,.int .i64 b1,.int .i64 0,.int .i64 0,.int .i64 (IntKind.i64.wrap (a+IntKind.i64.wrap ((4:Int)*sgV lo (16:Int))))]] (qap o a b1 lo n))) (bc (decide (o=(8:Int))) (Q [.agg [.int .i64 o,.int .i64 b1,.int .i64 0,.int .i64 0,.int .i64 (IntKind.i64.wrap (a+IntKind.i64.wrap ((4:Int)*lo)))]] (qag o a b1 lo n)) (Q [.agg [.int .i64 o,.int .i64 b1,.int .i64 0,.int .i64 0,.int .i64 lo]] (qao o b1 lo n))))) (Q [.agg [.int .i64 0,.int .i64 0,.int .i64 0,.int .i64 0,.int .i64 n]] (qae n))) (bc (decide (k=(7:Int))) (bc (decide (k=(7:Int))) (bc (decide ((15:Int)<b1)) (Q [.agg [.int .i64 0,.int .i64 0,.int .i64 0,.int .i64 0,.int .i64 n]] (qae n)) (bc (decide (o=(7:Int))) (ctSg.pre (lo,(16:Int),()) /\
 bc (decide (o=(8:Int))) (Q [.agg [.int .i64 o,.int .i64 b1,.int .i64 0,.int .i64 0,.int .i64 (IntKind.i64.wrap (a+IntKind.i64.wrap ((4:Int)*lo)))]] (qag o a b1 lo n)) (Q [.agg [.int .i64 o,.int .i64 b1,.int .i64 0,.int .i64 0,.int .i64 (IntKind.i64.wrap (a+IntKind.i64.wrap ((4:Int)*sgV lo (16:Int))))]] (qap o a b1 lo n))) (bc (decide (o=(8:Int))) (Q [.agg [.int .i64 o,.int .i64 b1,.int .i64 0,.int .i64 0,.int .i64 (IntKind.i64.wrap (a+IntKind.i64.wrap ((4:Int)*lo)))]] (qag o a b1 lo n)) (Q [.agg [.int .i64 o,.int .i64 b1,.int .i64 0,.int .i64 0,.int .i64 lo]] (qao o b1 lo n))))) (Q [.agg [.int .i64 0,.int .i64 0,.int .i64 0,.int .i64 0,.int .i64 n]] (qae n))) (bc (decide (k=(8:Int))) (bc (decide ((15:Int)<b1)) (Q [.agg [.int .i64 0,.int .i64 0,.int .i64 0,.int .i64 0,.int .i64 n]] (qae n)) (bc (decide (o=(7:Int))) (ctSg.pre (lo,(16:Int),()) /\
 bc (decide (o=(8:Int))) (Q [.agg [.int .i64 o,.int .i64 b1,.int .i64 0,.int .i64 0,.int .i64 (IntKind.i64.wrap (a+IntKind.i64.wrap ((4:Int)*lo)))]] (qag o a b1 lo n)) (Q [.agg [.int .i64 o,.int .i64 b1,.int .i64 0,.int .i64 0,.int .i64 (IntKind.i64.wrap (a+IntKind.i64.wrap ((4:Int)*sgV lo (16:Int))))]] (qap o a b1 lo n))) (bc (decide (o=(8:Int))) (Q [.agg [.int .i64 o,.int .i64 b1,.int .i64 0,.int .i64 0,.int .i64 (IntKind.i64.wrap (a+IntKind.i64.wrap ((4:Int)*lo)))]] (qag o a b1 lo n)) (Q [.agg [.int .i64 o,.int .i64 b1,.int .i64 0,.int .i64 0,.int .i64 lo]] (qao o b1 lo n))))) (Q [.agg [.int .i64 0,.int .i64 0,.int .i64 0,.int .i64 0,.int .i64 n]] (qae n)))))))) (bc (decide (k=(4:Int))) (bc (decide ((15:Int)<b1)) (true=true /\
 true=true /\
 Q [.agg [.int .i64 0,.int .i64 0,.int .i64 0,.int .i64 0,.int .i64 n]] (qae n)) (bc (bif false then true else decide ((15:Int)<b2)) (true=true /\
 Q [.agg [.int .i64 0,.int .i64 0,.int .i64 0,.int .i64 0,.int .i64 n]] (qae n)) (bc (bif false then true else decide ((15:Int)<b3)) (Q [.agg [.int .i64 0,.int .i64 0,.int .i64 0,.int .i64 0,.int .i64 n]] (qae n)) (Q [.agg [.int .i64 o,.int .i64 b1,.int .i64 b2,.int .i64 b3,.int .i64 0]] (qe7 o b1 b2 b3 n))))) (bc (decide (k=(5:Int))) (bc (decide (k=(5:Int))) (ctSg.pre (IntKind.i64.wrap (IntKind.i64.wrap ((65536:Int)*b1)+lo),(24:Int),()) /\
 Q [.agg [.int .i64 o,.int .i64 0,.int .i64 0,.int .i64 0,.int .i64 (IntKind.i64.wrap (a+IntKind.i64.wrap ((4:Int)*sgV (IntKind.i64.wrap (IntKind.i64.wrap ((65536:Int)*b1)+lo)) (24:Int))))]] (qb0 o a b1 lo n)) (bc (decide (k=(2:Int))) (bc (decide (k=(2:Int))) (bc (decide ((15:Int)<b1)) (Q [.agg [.int .i64 0,.int .i64 0,.int .i64 0,.int .i64 0,.int .i64 n]] (qae n)) (bc (decide (o=(7:Int))) (ctSg.pre (lo,(16:Int),()) /\
 bc (decide (o=(8:Int))) (Q [.agg [.int .i64 o,.int .i64 b1,.int .i64 0,.int .i64 0,.int .i64 (IntKind.i64.wrap (a+IntKind.i64.wrap ((4:Int)*lo)))]] (qag o a b1 lo n)) (Q [.agg [.int .i64 o,.int .i64 b1,.int .i64 0,.int .i64 0,.int .i64 (IntKind.i64.wrap (a+IntKind.i64.wrap ((4:Int)*sgV lo (16:Int))))]] (qap o a b1 lo n))) (bc (decide (o=(8:Int))) (Q [.agg [.int .i64 o,.int .i64 b1,.int .i64 0,.int .i64 0,.int .i64 (IntKind.i64.wrap (a+IntKind.i64.wrap ((4:Int)*lo)))]] (qag o a b1 lo n)) (Q [.agg [.int .i64 o,.int .i64 b1,.int .i64 0,.int .i64 0,.int .i64 lo]] (qao o b1 lo n))))) (Q [.agg [.int .i64 0,.int .i64 0,.int .i64 0,.int .i64 0,.int .i64 n]] (qae n))) (bc (decide (k=(7:Int))) (bc (decide (k=(7:Int))) (bc (decide ((15:Int)<b1)) (Q [.agg [.int .i64 0,.int .i64 0,.int .i64 0,.int .i64 0,.int .i64 n]] (qae n)) (bc (decide (o=(7:Int))) (ctSg.pre (lo,(16:Int),()) /\
 bc (decide (o=(8:Int))) (Q [.agg [.int .i64 o,.int .i64 b1,.int .i64 0,.int .i64 0,.int .i64 (IntKind.i64.wrap (a+IntKind.i64.wrap ((4:Int)*lo)))]] (qag o a b1 lo n)) (Q [.agg [.int .i64 o,.int .i64 b1,.int .i64 0,.int .i64 0,.int .i64 (IntKind.i64.wrap (a+IntKind.i64.wrap ((4:Int)*sgV lo (16:Int))))]] (qap o a b1 lo n))) (bc (decide (o=(8:Int))) (Q [.agg [.int .i64 o,.int .i64 b1,.int .i64 0,.int .i64 0,.int .i64 (IntKind.i64.wrap (a+IntKind.i64.wrap ((4:Int)*lo)))]] (qag o a b1 lo n)) (Q [.agg [.int .i64 o,.int .i64 b1,.int .i64 0,.int .i64 0,.int .i64 lo]] (qao o b1 lo n))))) (Q [.agg [.int .i64 0,.int .i64 0,.int .i64 0,.int .i64 0,.int .i64 n]] (qae n))) (bc (decide (k=(8:Int))) (bc (decide ((15:Int)<b1)) (Q [.agg [.int .i64 0,.int .i64 0,.int .i64 0,.int .i64 0,.int .i64 n]] (qae n)) (bc (decide (o=(7:Int))) (ctSg.pre (lo,(16:Int),()) /\
 bc (decide (o=(8:Int))) (Q [.agg [.int .i64 o,.int .i64 b1,.int .i64 0,.int .i64 0,.int .i64 (IntKind.i64.wrap (a+IntKind.i64.wrap ((4:Int)*lo)))]] (qag o a b1 lo n)) (Q [.agg [.int .i64 o,.int .i64 b1,.int .i64 0,.int .i64 0,.int .i64 (IntKind.i64.wrap (a+IntKind.i64.wrap ((4:Int)*sgV lo (16:Int))))]] (qap o a b1 lo n))) (bc (decide (o=(8:Int))) (Q [.agg [.int .i64 o,.int .i64 b1,.int .i64 0,.int .i64 0,.int .i64 (IntKind.i64.wrap (a+IntKind.i64.wrap ((4:Int)*lo)))]] (qag o a b1 lo n)) (Q [.agg [.int .i64 o,.int .i64 b1,.int .i64 0,.int .i64 0,.int .i64 lo]] (qao o b1 lo n))))) (Q [.agg [.int .i64 0,.int .i64 0,.int .i64 0,.int .i64 0,.int .i64 n]] (qae n)))))) (bc (decide (k=(6:Int))) (ctSg.pre (IntKind.i64.wrap (IntKind.i64.wrap ((65536:Int)*b1)+lo),(24:Int),()) /\
 Q [.agg [.int .i64 o,.int .i64 0,.int .i64 0,.int .i64 0,.int .i64 (IntKind.i64.wrap (a+IntKind.i64.wrap ((4:Int)*sgV (IntKind.i64.wrap (IntKind.i64.wrap ((65536:Int)*b1)+lo)) (24:Int))))]] (qb0 o a b1 lo n)) (bc (decide (k=(2:Int))) (bc (decide (k=(2:Int))) (bc (decide ((15:Int)<b1)) (Q [.agg [.int .i64 0,.int .i64 0,.int .i64 0,.int .i64 0,.int .i64 n]] (qae n)) (bc (decide (o=(7:Int))) (ctSg.pre (lo,(16:Int),()) /\
 bc (decide (o=(8:Int))) (Q [.agg [.int .i64 o,.int .i64 b1,.int .i64 0,.int .i64 0,.int .i64 (IntKind.i64.wrap (a+IntKind.i64.wrap ((4:Int)*lo)))]] (qag o a b1 lo n)) (Q [.agg [.int .i64 o,.int .i64 b1,.int .i64 0,.int .i64 0,.int .i64 (IntKind.i64.wrap (a+IntKind.i64.wrap ((4:Int)*sgV lo (16:Int))))]] (qap o a b1 lo n))) (bc (decide (o=(8:Int))) (Q [.agg [.int .i64 o,.int .i64 b1,.int .i64 0,.int .i64 0,.int .i64 (IntKind.i64.wrap (a+IntKind.i64.wrap ((4:Int)*lo)))]] (qag o a b1 lo n)) (Q [.agg [.int .i64 o,.int .i64 b1,.int .i64 0,.int .i64 0,.int .i64 lo]] (qao o b1 lo n))))) (Q [.agg [.int .i64 0,.int .i64 0,.int .i64 0,.int .i64 0,.int .i64 n]] (qae n))) (bc (decide (k=(7:Int))) (bc (decide (k=(7:Int))) (bc (decide ((15:Int)<b1)) (Q [.agg [.int .i64 0,.int .i64 0,.int .i64 0,.int .i64 0,.int .i64 n]] (qae n)) (bc (decide (o=(7:Int))) (ctSg.pre (lo,(16:Int),()) /\
 bc (decide (o=(8:Int))) (Q [.agg [.int .i64 o,.int .i64 b1,.int .i64 0,.int .i64 0,.int .i64 (IntKind.i64.wrap (a+IntKind.i64.wrap ((4:Int)*lo)))]] (qag o a b1 lo n)) (Q [.agg [.int .i64 o,.int .i64 b1,.int .i64 0,.int .i64 0,.int .i64 (IntKind.i64.wrap (a+IntKind.i64.wrap ((4:Int)*sgV lo (16:Int))))]] (qap o a b1 lo n))) (bc (decide (o=(8:Int))) (Q [.agg [.int .i64 o,.int .i64 b1,.int .i64 0,.int .i64 0,.int .i64 (IntKind.i64.wrap (a+IntKind.i64.wrap ((4:Int)*lo)))]] (qag o a b1 lo n)) (Q [.agg [.int .i64 o,.int .i64 b1,.int .i64 0,.int .i64 0,.int .i64 lo]] (qao o b1 lo n))))) (Q [.agg [.int .i64 0,.int .i64 0,.int .i64 0,.int .i64 0,.int .i64 n]] (qae n))) (bc (decide (k=(8:Int))) (bc (decide ((15:Int)<b1)) (Q [.agg [.int .i64 0,.int .i64 0,.int .i64 0,.int .i64 0,.int .i64 n]] (qae n)) (bc (decide (o=(7:Int))) (ctSg.pre (lo,(16:Int),()) /\
 bc (decide (o=(8:Int))) (Q [.agg [.int .i64 o,.int .i64 b1,.int .i64 0,.int .i64 0,.int .i64 (IntKind.i64.wrap (a+IntKind.i64.wrap ((4:Int)*lo)))]] (qag o a b1 lo n)) (Q [.agg [.int .i64 o,.int .i64 b1,.int .i64 0,.int .i64 0,.int .i64 (IntKind.i64.wrap (a+IntKind.i64.wrap ((4:Int)*sgV lo (16:Int))))]] (qap o a b1 lo n))) (bc (decide (o=(8:Int))) (Q [.agg [.int .i64 o,.int .i64 b1,.int .i64 0,.int .i64 0,.int .i64 (IntKind.i64.wrap (a+IntKind.i64.wrap ((4:Int)*lo)))]] (qag o a b1 lo n)) (Q [.agg [.int .i64 o,.int .i64 b1,.int .i64 0,.int .i64 0,.int .i64 lo]] (qao o b1 lo n))))) (Q [.agg [.int .i64 0,.int .i64 0,.int .i64 0,.int .i64 0,.int .i64 n]] (qae n)))))))))):=by kernel_rfl
end Go.Proofs.YtplkpodikhfcdaaDoor
namespace Go.Proofs.YtplkpodikhfcdaaDoor
open Go.Px Go.Ax
set_option maxRecDepth 100000
attribute [local irreducible] Go.Px.sy Go.Px.syE
abbrev i5V (r:InT):SV:=.agg [.int .i64 r.1,.int .i64 r.2.1,.int .i64 r.2.2.1,.int .i64 r.2.2.2.1,.int .i64 r.2.2.2.2]
theorem i5_ex (a b c d e:Int):∃ r:InT,[SV.agg [.int .i64 a,.int .i64 b,.int .i64 c,.int .i64 d,.int .i64 e]]=[i5V r]:=⟨(a,b,c,d,e),rfl⟩
abbrev rdS (o a b1 b2 b3 lo k n:Int):PS:=⟨[(1,.int .i64 a),(4,.ptr 4 0),(5,.int .i64 o),(6,.int .i64 b1),(7,.int .i64 b2),(8,.int .i64 b3),(9,.int .i64 lo),(10,.ptr 10 0),(33,.int .i64 k)],[(4,.var [.int .i64 0,.int .i64 0,.int .i64 0,.int .i64 0,.int .i64 0]),(10,.var [.int .i64 0,.int .i64 0,.int .i64 0,.int .i64 0,.int .i64 n])]⟩
theorem q6v (o a b1 b2 b3 lo k n:Int):∃ r:InT,GD 34 Tryd.f34 (fun rs _=>rs=[i5V r]) (midI 12 [] [.code (qai Tryd.f34)]) (rdS o a b1 b2 b3 lo k n):=by
 have e:=fun r:InT=>qkp o a b1 b2 b3 lo k n (fun rs _=>rs=[i5V r]) R00
 have h:∃ r:InT,sy tt G0 CRd Tryd.f34.ntmps Tryd.f34.results.toList (fun rs _=>rs=[i5V r]) R00 1000 (midI 12 [] [.code (qai Tryd.f34)]) (rdS o a b1 b2 b3 lo k n):=by
  simp only[e]
  repeat' first
   | exact i5_ex _ _ _ _ _
   | refine qdr (by decide) ?_
   | refine qdr (Or.inl rfl) ?_
   | refine qdr (Or.inr rfl) ?_
   | refine qxn (fun _=>?_) (fun _=>?_)
 obtain ⟨r,h⟩:=h;exact ⟨r,ql7 cxRd (qkp o a b1 b2 b3 lo k n _ _) ((qkp o a b1 b2 b3 lo k n _ R00).mp h)⟩
theorem q6u (w a:Int):∃ r:InT,GD 34 Tryd.f34 (fun rs _=>rs=[i5V r]) [.code (qai Tryd.f34)] (entry [.int .u32,.int .i64] (w,a,())):=by
 obtain ⟨r,h⟩:=q6v (IntKind.i64.wrap (w.fdiv ((2:Int) ^ min 24 IntKind.u32.bits))) a (IntKind.i64.wrap (bitI .and .u32 (w.fdiv ((2:Int) ^ min 16 IntKind.u32.bits)) 255)) (IntKind.i64.wrap (bitI .and .u32 (w.fdiv ((2:Int) ^ min 8 IntKind.u32.bits)) 255)) (IntKind.i64.wrap (bitI .and .u32 w 255))
  (IntKind.i64.wrap (IntKind.i64.wrap (256*IntKind.i64.wrap (bitI .and .u32 (w.fdiv ((2:Int) ^ min 8 IntKind.u32.bits)) 255))+IntKind.i64.wrap (bitI .and .u32 w 255))) (IntKind.i64.wrap (w.fdiv ((2:Int) ^ min 24 IntKind.u32.bits))) (IntKind.i64.wrap w)
 refine ⟨r,q3m cxRd (quy w a _ _) ⟨by decide,by decide,by decide,?_⟩⟩;exact h.only ⟨rfl,rfl,rfl,rfl,rfl,rfl,rfl,rfl,rfl,trivial⟩ ⟨rfl,rfl,trivial⟩
noncomputable def rdV (w a:Int):InT:=Classical.choose (q6u w a)
noncomputable def ctRd:Ctr:=⟨[.int .u32,.int .i64],fun _=>True,fun x=>[i5V (rdV x.1 x.2.1)],fun _=>[]⟩
theorem q3v:Held Tryd.prog G0 34 ctRd:=Held.of cxRd (fn:=Tryd.f34) rfl rfl ⟨by decide,by decide⟩ fun ⟨w,a,_⟩ _=>(Classical.choose_spec (q6u w a)).post fun rs blk h=>by
 subst h;exact QC.flat rfl rfl rfl
end Go.Proofs.YtplkpodikhfcdaaDoor
namespace Go.Proofs.YtplkpodikhfcdaaDoor
open Go.Px Go.Ax
set_option maxRecDepth 100000
set_option maxRecDepth 100000
theorem qnf (o a b c n t:Int) (Q:QT) (R:RT):sy tt G0 CRd Tryd.f54.ntmps Tryd.f54.results.toList Q R 1000 [.code (qai Tryd.f54)] (entry [i5s,iI] ((o,a,b,c,n),t,())) =
  ((4:Int)≠0 /\
 bc (decide (o=(1:Int))) (bc (decide (o=(1:Int))) ((0:Int)<=16 /\
 (0:Int)<=8 /\
 ctWrd.pre (o,bitI BinOp.or IntKind.i64 (bitI BinOp.or IntKind.i64 (IntKind.i64.wrap (a*(2:Int) ^ min (16) IntKind.i64.bits)) (IntKind.i64.wrap (b*(2:Int) ^ min (8) IntKind.i64.bits))) c,()) /\
 Q [.int .u32 (wrdV o (bitI BinOp.or IntKind.i64 (bitI BinOp.or IntKind.i64 (IntKind.i64.wrap (a*(2:Int) ^ min (16) IntKind.i64.bits)) (IntKind.i64.wrap (b*(2:Int) ^ min (8) IntKind.i64.bits))) c))] [(2,.var [.int .i64 o,.int .i64 a,.int .i64 b,.int .i64 c,.int .i64 n])]) (bc (decide (o=(2:Int))) ((0:Int)<=16 /\
 ctWrd.pre (o,bitI BinOp.or IntKind.i64 (IntKind.i64.wrap (a*(2:Int) ^ min (16) IntKind.i64.bits)) (bitI BinOp.and IntKind.i64 n (65535:Int)),()) /\
 Q [.int .u32 (wrdV o (bitI BinOp.or IntKind.i64 (IntKind.i64.wrap (a*(2:Int) ^ min (16) IntKind.i64.bits)) (bitI BinOp.and IntKind.i64 n (65535:Int))))] [(2,.var [.int .i64 o,.int .i64 a,.int .i64 b,.int .i64 c,.int .i64 n])]) (bc (decide (o=(5:Int))) (bc (decide (o=(5:Int))) (ctWrd.pre (o,IntKind.i64.wrap ((IntKind.i64.wrap (n-t)).tdiv (4:Int)),()) /\
 Q [.int .u32 (wrdV o (IntKind.i64.wrap ((IntKind.i64.wrap (n-t)).tdiv (4:Int))))] [(2,.var [.int .i64 o,.int .i64 a,.int .i64 b,.int .i64 c,.int .i64 n])]) (bc (decide (o=(7:Int))) (bc (decide (o=(7:Int))) ((0:Int)<=16 /\
 ctWrd.pre (o,bitI BinOp.or IntKind.i64 (IntKind.i64.wrap (a*(2:Int) ^ min (16) IntKind.i64.bits)) (bitI BinOp.and IntKind.i64 (IntKind.i64.wrap ((IntKind.i64.wrap (n-t)).tdiv (4:Int))) (65535:Int)),()) /\
 Q [.int .u32 (wrdV o (bitI BinOp.or IntKind.i64 (IntKind.i64.wrap (a*(2:Int) ^ min (16) IntKind.i64.bits)) (bitI BinOp.and IntKind.i64 (IntKind.i64.wrap ((IntKind.i64.wrap (n-t)).tdiv (4:Int))) (65535:Int))))] [(2,.var [.int .i64 o,.int .i64 a,.int .i64 b,.int .i64 c,.int .i64 n])]) (Q [.int .u32 (IntKind.u32.wrap n)] [(2,.var [.int .i64 o,.int .i64 a,.int .i64 b,.int .i64 c,.int .i64 n])])) (bc (decide (o=(8:Int))) ((0:Int)<=16 /\
 ctWrd.pre (o,bitI BinOp.or IntKind.i64 (IntKind.i64.wrap (a*(2:Int) ^ min (16) IntKind.i64.bits)) (bitI BinOp.and IntKind.i64 (IntKind.i64.wrap ((IntKind.i64.wrap (n-t)).tdiv (4:Int))) (65535:Int)),()) /\
 Q [.int .u32 (wrdV o (bitI BinOp.or IntKind.i64 (IntKind.i64.wrap (a*(2:Int) ^ min (16) IntKind.i64.bits)) (bitI BinOp.and IntKind.i64 (IntKind.i64.wrap ((IntKind.i64.wrap (n-t)).tdiv (4:Int))) (65535:Int))))] [(2,.var [.int .i64 o,.int .i64 a,.int .i64 b,.int .i64 c,.int .i64 n])]) (Q [.int .u32 (IntKind.u32.wrap n)] [(2,.var [.int .i64 o,.int .i64 a,.int .i64 b,.int .i64 c,.int .i64 n])])))) (bc (decide (o=(6:Int))) (ctWrd.pre (o,IntKind.i64.wrap ((IntKind.i64.wrap (n-t)).tdiv (4:Int)),()) /\
 Q [.int .u32 (wrdV o (IntKind.i64.wrap ((IntKind.i64.wrap (n-t)).tdiv (4:Int))))] [(2,.var [.int .i64 o,.int .i64 a,.int .i64 b,.int .i64 c,.int .i64 n])]) (bc (decide (o=(7:Int))) (bc (decide (o=(7:Int))) ((0:Int)<=16 /\
 ctWrd.pre (o,bitI BinOp.or IntKind.i64 (IntKind.i64.wrap (a*(2:Int) ^ min (16) IntKind.i64.bits)) (bitI BinOp.and IntKind.i64 (IntKind.i64.wrap ((IntKind.i64.wrap (n-t)).tdiv (4:Int))) (65535:Int)),()) /\
 Q [.int .u32 (wrdV o (bitI BinOp.or IntKind.i64 (IntKind.i64.wrap (a*(2:Int) ^ min (16) IntKind.i64.bits)) (bitI BinOp.and IntKind.i64 (IntKind.i64.wrap ((IntKind.i64.wrap (n-t)).tdiv (4:Int))) (65535:Int))))] [(2,.var [.int .i64 o,.int .i64 a,.int .i64 b,.int .i64 c,.int .i64 n])]) (Q [.int .u32 (IntKind.u32.wrap n)] [(2,.var [.int .i64 o,.int .i64 a,.int .i64 b,.int .i64 c,.int .i64 n])])) (bc (decide (o=(8:Int))) ((0:Int)<=16 /\
 ctWrd.pre (o,bitI BinOp.or IntKind.i64 (IntKind.i64.wrap (a*(2:Int) ^ min (16) IntKind.i64.bits)) (bitI BinOp.and IntKind.i64 (IntKind.i64.wrap ((IntKind.i64.wrap (n-t)).tdiv (4:Int))) (65535:Int)),()) /\
 Q [.int .u32 (wrdV o (bitI BinOp.or IntKind.i64 (IntKind.i64.wrap (a*(2:Int) ^ min (16) IntKind.i64.bits)) (bitI BinOp.and IntKind.i64 (IntKind.i64.wrap ((IntKind.i64.wrap (n-t)).tdiv (4:Int))) (65535:Int))))] [(2,.var [.int .i64 o,.int .i64 a,.int .i64 b,.int .i64 c,.int .i64 n])]) (Q [.int .u32 (IntKind.u32.wrap n)] [(2,.var [.int .i64 o,.int .i64 a,.int .i64 b,.int .i64 c,.int .i64 n])]))))))) (bc (decide (o=(3:Int))) (bc (decide (o=(3:Int))) ((0:Int)<=16 /\
 (0:Int)<=8 /\
 ctWrd.pre (o,bitI BinOp.or IntKind.i64 (bitI BinOp.or IntKind.i64 (IntKind.i64.wrap (a*(2:Int) ^ min (16) IntKind.i64.bits)) (IntKind.i64.wrap (b*(2:Int) ^ min (8) IntKind.i64.bits))) c,()) /\
 Q [.int .u32 (wrdV o (bitI BinOp.or IntKind.i64 (bitI BinOp.or IntKind.i64 (IntKind.i64.wrap (a*(2:Int) ^ min (16) IntKind.i64.bits)) (IntKind.i64.wrap (b*(2:Int) ^ min (8) IntKind.i64.bits))) c))] [(2,.var [.int .i64 o,.int .i64 a,.int .i64 b,.int .i64 c,.int .i64 n])]) (bc (decide (o=(2:Int))) ((0:Int)<=16 /\
 ctWrd.pre (o,bitI BinOp.or IntKind.i64 (IntKind.i64.wrap (a*(2:Int) ^ min (16) IntKind.i64.bits)) (bitI BinOp.and IntKind.i64 n (65535:Int)),()) /\
 Q [.int .u32 (wrdV o (bitI BinOp.or IntKind.i64 (IntKind.i64.wrap (a*(2:Int) ^ min (16) IntKind.i64.bits)) (bitI BinOp.and IntKind.i64 n (65535:Int))))] [(2,.var [.int .i64 o,.int .i64 a,.int .i64 b,.int .i64 c,.int .i64 n])]) (bc (decide (o=(5:Int))) (bc (decide (o=(5:Int))) (ctWrd.pre (o,IntKind.i64.wrap ((IntKind.i64.wrap (n-t)).tdiv (4:Int)),()) /\
 Q [.int .u32 (wrdV o (IntKind.i64.wrap ((IntKind.i64.wrap (n-t)).tdiv (4:Int))))] [(2,.var [.int .i64 o,.int .i64 a,.int .i64 b,.int .i64 c,.int .i64 n])]) (bc (decide (o=(7:Int))) (bc (decide (o=(7:Int))) ((0:Int)<=16 /\
 ctWrd.pre (o,bitI BinOp.or IntKind.i64 (IntKind.i64.wrap (a*(2:Int) ^ min (16) IntKind.i64.bits)) (bitI BinOp.and IntKind.i64 (IntKind.i64.wrap ((IntKind.i64.wrap (n-t)).tdiv (4:Int))) (65535:Int)),()) /\
 Q [.int .u32 (wrdV o (bitI BinOp.or IntKind.i64 (IntKind.i64.wrap (a*(2:Int) ^ min (16) IntKind.i64.bits)) (bitI BinOp.and IntKind.i64 (IntKind.i64.wrap ((IntKind.i64.wrap (n-t)).tdiv (4:Int))) (65535:Int))))] [(2,.var [.int .i64 o,.int .i64 a,.int .i64 b,.int .i64 c,.int .i64 n])]) (Q [.int .u32 (IntKind.u32.wrap n)] [(2,.var [.int .i64 o,.int .i64 a,.int .i64 b,.int .i64 c,.int .i64 n])])) (bc (decide (o=(8:Int))) ((0:Int)<=16 /\
 ctWrd.pre (o,bitI BinOp.or IntKind.i64 (IntKind.i64.wrap (a*(2:Int) ^ min (16) IntKind.i64.bits)) (bitI BinOp.and IntKind.i64 (IntKind.i64.wrap ((IntKind.i64.wrap (n-t)).tdiv (4:Int))) (65535:Int)),()) /\
 Q [.int .u32 (wrdV o (bitI BinOp.or IntKind.i64 (IntKind.i64.wrap (a*(2:Int) ^ min (16) IntKind.i64.bits)) (bitI BinOp.and IntKind.i64 (IntKind.i64.wrap ((IntKind.i64.wrap (n-t)).tdiv (4:Int))) (65535:Int))))] [(2,.var [.int .i64 o,.int .i64 a,.int .i64 b,.int .i64 c,.int .i64 n])]) (Q [.int .u32 (IntKind.u32.wrap n)] [(2,.var [.int .i64 o,.int .i64 a,.int .i64 b,.int .i64 c,.int .i64 n])])))) (bc (decide (o=(6:Int))) (ctWrd.pre (o,IntKind.i64.wrap ((IntKind.i64.wrap (n-t)).tdiv (4:Int)),()) /\
 Q [.int .u32 (wrdV o (IntKind.i64.wrap ((IntKind.i64.wrap (n-t)).tdiv (4:Int))))] [(2,.var [.int .i64 o,.int .i64 a,.int .i64 b,.int .i64 c,.int .i64 n])]) (bc (decide (o=(7:Int))) (bc (decide (o=(7:Int))) ((0:Int)<=16 /\
 ctWrd.pre (o,bitI BinOp.or IntKind.i64 (IntKind.i64.wrap (a*(2:Int) ^ min (16) IntKind.i64.bits)) (bitI BinOp.and IntKind.i64 (IntKind.i64.wrap ((IntKind.i64.wrap (n-t)).tdiv (4:Int))) (65535:Int)),()) /\
 Q [.int .u32 (wrdV o (bitI BinOp.or IntKind.i64 (IntKind.i64.wrap (a*(2:Int) ^ min (16) IntKind.i64.bits)) (bitI BinOp.and IntKind.i64 (IntKind.i64.wrap ((IntKind.i64.wrap (n-t)).tdiv (4:Int))) (65535:Int))))] [(2,.var [.int .i64 o,.int .i64 a,.int .i64 b,.int .i64 c,.int .i64 n])]) (Q [.int .u32 (IntKind.u32.wrap n)] [(2,.var [.int .i64 o,.int .i64 a,.int .i64 b,.int .i64 c,.int .i64 n])])) (bc (decide (o=(8:Int))) ((0:Int)<=16 /\
 ctWrd.pre (o,bitI BinOp.or IntKind.i64 (IntKind.i64.wrap (a*(2:Int) ^ min (16) IntKind.i64.bits)) (bitI BinOp.and IntKind.i64 (IntKind.i64.wrap ((IntKind.i64.wrap (n-t)).tdiv (4:Int))) (65535:Int)),()) /\
 Q [.int .u32 (wrdV o (bitI BinOp.or IntKind.i64 (IntKind.i64.wrap (a*(2:Int) ^ min (16) IntKind.i64.bits)) (bitI BinOp.and IntKind.i64 (IntKind.i64.wrap ((IntKind.i64.wrap (n-t)).tdiv (4:Int))) (65535:Int))))] [(2,.var [.int .i64 o,.int .i64 a,.int .i64 b,.int .i64 c,.int .i64 n])]) (Q [.int .u32 (IntKind.u32.wrap n)] [(2,.var [.int .i64 o,.int .i64 a,.int .i64 b,.int .i64 c,.int .i64 n])]))))))) (bc (decide (o=(4:Int))) ((0:Int)<=16 /\
 (0:Int)<=8 /\
 ctWrd.pre (o,bitI BinOp.or IntKind.i64 (bitI BinOp.or IntKind.i64 (IntKind.i64.wrap (a*(2:Int) ^ min (16) IntKind.i64.bits)) (IntKind.i64.wrap (b*(2:Int) ^ min (8) IntKind.i64.bits))) c,()) /\
 Q [.int .u32 (wrdV o (bitI BinOp.or IntKind.i64 (bitI BinOp.or IntKind.i64 (IntKind.i64.wrap (a*(2:Int) ^ min (16) IntKind.i64.bits)) (IntKind.i64.wrap (b*(2:Int) ^ min (8) IntKind.i64.bits))) c))] [(2,.var [.int .i64 o,.int .i64 a,.int .i64 b,.int .i64 c,.int .i64 n])]) (bc (decide (o=(2:Int))) ((0:Int)<=16 /\
 ctWrd.pre (o,bitI BinOp.or IntKind.i64 (IntKind.i64.wrap (a*(2:Int) ^ min (16) IntKind.i64.bits)) (bitI BinOp.and IntKind.i64 n (65535:Int)),()) /\
 Q [.int .u32 (wrdV o (bitI BinOp.or IntKind.i64 (IntKind.i64.wrap (a*(2:Int) ^ min (16) IntKind.i64.bits)) (bitI BinOp.and IntKind.i64 n (65535:Int))))] [(2,.var [.int .i64 o,.int .i64 a,.int .i64 b,.int .i64 c,.int .i64 n])]) (bc (decide (o=(5:Int))) (bc (decide (o=(5:Int))) (ctWrd.pre (o,IntKind.i64.wrap ((IntKind.i64.wrap (n-t)).tdiv (4:Int)),()) /\
 Q [.int .u32 (wrdV o (IntKind.i64.wrap ((IntKind.i64.wrap (n-t)).tdiv (4:Int))))] [(2,.var [.int .i64 o,.int .i64 a,.int .i64 b,.int .i64 c,.int .i64 n])]) (bc (decide (o=(7:Int))) (bc (decide (o=(7:Int))) ((0:Int)<=16 /\
 ctWrd.pre (o,bitI BinOp.or IntKind.i64 (IntKind.i64.wrap (a*(2:Int) ^ min (16) IntKind.i64.bits)) (bitI BinOp.and IntKind.i64 (IntKind.i64.wrap ((IntKind.i64.wrap (n-t)).tdiv (4:Int))) (65535:Int)),()) /\
 Q [.int .u32 (wrdV o (bitI BinOp.or IntKind.i64 (IntKind.i64.wrap (a*(2:Int) ^ min (16) IntKind.i64.bits)) (bitI BinOp.and IntKind.i64 (IntKind.i64.wrap ((IntKind.i64.wrap (n-t)).tdiv (4:Int))) (65535:Int))))] [(2,.var [.int .i64 o,.int .i64 a,.int .i64 b,.int .i64 c,.int .i64 n])]) (Q [.int .u32 (IntKind.u32.wrap n)] [(2,.var [.int .i64 o,.int .i64 a,.int .i64 b,.int .i64 c,.int .i64 n])])) (bc (decide (o=(8:Int))) ((0:Int)<=16 /\
 ctWrd.pre (o,bitI BinOp.or IntKind.i64 (IntKind.i64.wrap (a*(2:Int) ^ min (16) IntKind.i64.bits)) (bitI BinOp.and IntKind.i64 (IntKind.i64.wrap ((IntKind.i64.wrap (n-t)).tdiv (4:Int))) (65535:Int)),()) /\
 Q [.int .u32 (wrdV o (bitI BinOp.or IntKind.i64 (IntKind.i64.wrap (a*(2:Int) ^ min (16) IntKind.i64.bits)) (bitI BinOp.and IntKind.i64 (IntKind.i64.wrap ((IntKind.i64.wrap (n-t)).tdiv (4:Int))) (65535:Int))))] [(2,.var [.int .i64 o,.int .i64 a,.int .i64 b,.int .i64 c,.int .i64 n])]) (Q [.int .u32 (IntKind.u32.wrap n)] [(2,.var [.int .i64 o,.int .i64 a,.int .i64 b,.int .i64 c,.int .i64 n])])))) (bc (decide (o=(6:Int))) (ctWrd.pre (o,IntKind.i64.wrap ((IntKind.i64.wrap (n-t)).tdiv (4:Int)),()) /\
 Q [.int .u32 (wrdV o (IntKind.i64.wrap ((IntKind.i64.wrap (n-t)).tdiv (4:Int))))] [(2,.var [.int .i64 o,.int .i64 a,.int .i64 b,.int .i64 c,.int .i64 n])]) (bc (decide (o=(7:Int))) (bc (decide (o=(7:Int))) ((0:Int)<=16 /\
 ctWrd.pre (o,bitI BinOp.or IntKind.i64 (IntKind.i64.wrap (a*(2:Int) ^ min (16) IntKind.i64.bits)) (bitI BinOp.and IntKind.i64 (IntKind.i64.wrap ((IntKind.i64.wrap (n-t)).tdiv (4:Int))) (65535:Int)),()) /\
 Q [.int .u32 (wrdV o (bitI BinOp.or IntKind.i64 (IntKind.i64.wrap (a*(2:Int) ^ min (16) IntKind.i64.bits)) (bitI BinOp.and IntKind.i64 (IntKind.i64.wrap ((IntKind.i64.wrap (n-t)).tdiv (4:Int))) (65535:Int))))] [(2,.var [.int .i64 o,.int .i64 a,.int .i64 b,.int .i64 c,.int .i64 n])]) (Q [.int .u32 (IntKind.u32.wrap n)] [(2,.var [.int .i64 o,.int .i64 a,.int .i64 b,.int .i64 c,.int .i64 n])])) (bc (decide (o=(8:Int))) ((0:Int)<=16 /\
 ctWrd.pre (o,bitI BinOp.or IntKind.i64 (IntKind.i64.wrap (a*(2:Int) ^ min (16) IntKind.i64.bits)) (bitI BinOp.and IntKind.i64 (IntKind.i64.wrap ((IntKind.i64.wrap (n-t)).tdiv (4:Int))) (65535:Int)),()) /\
 Q [.int .u32 (wrdV o (bitI BinOp.or IntKind.i64 (IntKind.i64.wrap (a*(2:Int) ^ min (16) IntKind.i64.bits)) (bitI BinOp.and IntKind.i64 (IntKind.i64.wrap ((IntKind.i64.wrap (n-t)).tdiv (4:Int))) (65535:Int))))] [(2,.var [.int .i64 o,.int .i64 a,.int .i64 b,.int .i64 c,.int .i64 n])]) (Q [.int .u32 (IntKind.u32.wrap n)] [(2,.var [.int .i64 o,.int .i64 a,.int .i64 b,.int .i64 c,.int .i64 n])]))))))))):=by kernel_rfl
end Go.Proofs.YtplkpodikhfcdaaDoor
namespace Go.Proofs.YtplkpodikhfcdaaDoor
open Go.Px Go.Ax
set_option maxRecDepth 100000
attribute [local irreducible] Go.Px.sy Go.Px.syE
theorem u4_ex (v:Int):∃ r:Int,[SV.int .u32 v]=[SV.int .u32 r]:=⟨v,rfl⟩
theorem q7f (o a b c n t:Int):∃ r:Int,GD 54 Tryd.f54 (fun rs _=>rs=[SV.int .u32 r]) [.code (qai Tryd.f54)] (entry [i5s,iI] ((o,a,b,c,n),t,())):=by
 have e:=fun r:Int=>qnf o a b c n t (fun rs _=>rs=[SV.int .u32 r]) R00
 have h:∃ r:Int,sy tt G0 CRd Tryd.f54.ntmps Tryd.f54.results.toList (fun rs _=>rs=[SV.int .u32 r]) R00 1000 [.code (qai Tryd.f54)] (entry [i5s,iI] ((o,a,b,c,n),t,())):=by
  simp only[e]
  repeat' first
   | exact u4_ex _
   | refine qdr (by decide) ?_
   | refine qdr trivial ?_
   | refine qxn (fun _=>?_) (fun _=>?_)
 obtain ⟨r,h⟩:=h;exact ⟨r,ql7 cxRd (qnf o a b c n t _ _) ((qnf o a b c n t _ R00).mp h)⟩
noncomputable def guV (x:InT) (t:Int):Int:=Classical.choose (q7f x.1 x.2.1 x.2.2.1 x.2.2.2.1 x.2.2.2.2 t)
noncomputable def ctGu:Ctr:=⟨[i5s,iI],fun _=>True,fun x=>[.int .u32 (guV x.1 x.2.1)],fun _=>[]⟩
theorem q49:Held Tryd.prog G0 54 ctGu:=Held.of cxRd (fn:=Tryd.f54) rfl rfl ⟨by decide,by decide⟩ fun ⟨⟨o,a,b,c,n⟩,t,_⟩ _=>(Classical.choose_spec (q7f o a b c n t)).post fun rs blk h=>by
 subst h;exact QC.flat rfl rfl rfl
end Go.Proofs.YtplkpodikhfcdaaDoor
namespace Go.Proofs.YtplkpodikhfcdaaDoor
open Go.Px Go.Ax
set_option maxRecDepth 100000
noncomputable def CRe:CV:=[(54,.inl ctGu),(34,.inl ctRd)]
theorem cxRe:CxOK Tryd.prog tt G0 CRe:=(cx0.cons q3v (fn:=Tryd.f34) rfl rfl rfl).cons q49 (fn:=Tryd.f54) rfl rfl rfl
set_option maxRecDepth 100000
theorem qng (o a b c n t:Int) (Q:QT) (R:RT):sy tt G0 CRe Tryd.f30.ntmps Tryd.f30.results.toList Q R 1000 [.code (qai Tryd.f30)] (entry [i5s,iI] ((o,a,b,c,n),t,())) =
  (ctGu.pre ((o,a,b,c,n),t,()) /\
 ctRd.pre (guV (o,a,b,c,n) t,t,()) /\
 bc (!decide ([(rdV (guV (o,a,b,c,n) t) t).1,(rdV (guV (o,a,b,c,n) t) t).2.1,(rdV (guV (o,a,b,c,n) t) t).2.2.1,(rdV (guV (o,a,b,c,n) t) t).2.2.2.1,(rdV (guV (o,a,b,c,n) t) t).2.2.2.2]=[o,a,b,c,n])) (Q [.int .u32 0,.int .i64 20] [(2,.var [.int .i64 o,.int .i64 a,.int .i64 b,.int .i64 c,.int .i64 n])]) (Q [.int .u32 (guV (o,a,b,c,n) t),.int .i64 0] [(2,.var [.int .i64 o,.int .i64 a,.int .i64 b,.int .i64 c,.int .i64 n])])):=by kernel_rfl
end Go.Proofs.YtplkpodikhfcdaaDoor
namespace Go.Proofs.YtplkpodikhfcdaaDoor
open Go.Px Go.Ax
set_option maxRecDepth 100000
attribute [local irreducible] Go.Px.sy Go.Px.syE
theorem q7n (o a b c n t:Int):∃ r:Int × Int,GD 30 Tryd.f30 (fun rs _=>rs=[SV.int .u32 r.1,.int .i64 r.2]) [.code (qai Tryd.f30)] (entry [i5s,iI] ((o,a,b,c,n),t,())):=by
 have e:=fun r:Int × Int=>qng o a b c n t (fun rs _=>rs=[SV.int .u32 r.1,.int .i64 r.2]) R00
 have h:∃ r:Int × Int,sy tt G0 CRe Tryd.f30.ntmps Tryd.f30.results.toList (fun rs _=>rs=[SV.int .u32 r.1,.int .i64 r.2]) R00 1000 [.code (qai Tryd.f30)] (entry [i5s,iI] ((o,a,b,c,n),t,())):=by
  simp only[e];exact qdr trivial (qdr trivial (qxn (fun _=>⟨(0,20),rfl⟩) (fun _=>⟨(_,0),rfl⟩)))
 obtain ⟨r,h⟩:=h;exact ⟨r,ql7 cxRe (qng o a b c n t _ _) ((qng o a b c n t _ R00).mp h)⟩
noncomputable def enR (x:InT) (t:Int):Int × Int:=Classical.choose (q7n x.1 x.2.1 x.2.2.1 x.2.2.2.1 x.2.2.2.2 t)
noncomputable def ctEn:Ctr:=⟨[i5s,iI],fun _=>True,fun x=>[.int .u32 (enR x.1 x.2.1).1,.int .i64 (enR x.1 x.2.1).2],fun _=>[]⟩
theorem q5f:Held Tryd.prog G0 30 ctEn:=Held.of cxRe (fn:=Tryd.f30) rfl rfl ⟨by decide,by decide⟩ fun ⟨⟨o,a,b,c,n⟩,t,_⟩ _=>(Classical.choose_spec (q7n o a b c n t)).post fun rs blk h=>by
 subst h;exact QC.flat rfl rfl rfl
end Go.Proofs.YtplkpodikhfcdaaDoor
namespace Go.Proofs.YtplkpodikhfcdaaDoor
open Go.Px Go.Ax
set_option maxRecDepth 100000
abbrev a4S:Sh:=.arr 4 uB
noncomputable def CCd:CV:=[(29,.inl ctMad),(30,.inl ctEn),(23,.inl ctByt)]
theorem cxCd:CxOK Tryd.prog tt G0 CCd:=((cx0.cons q09 (fn:=Tryd.f23) rfl rfl rfl).cons q5f (fn:=Tryd.f30) rfl rfl rfl).cons qz3 (fn:=Tryd.f29) rfl rfl rfl
set_option maxRecDepth 100000
theorem q6g (l:List (List Int)) (n:Int) (Q:QT) (R:RT):sy tt G0 CCd Tryd.f12.ntmps Tryd.f12.results.toList Q (fun it S=>R it (qba [0,5,6,7] [13,81] S)) 1000 [.code (qai Tryd.f12)] (entry [.sl a4S,iI] (l,n,())) =
  (R (hd Tryd.f12 0) { env:=[(0,.sl (Sh.arr (4:Nat) uB) l),(5,.win true u4 13 0 (0:Nat)),(6,.int .i64 (min (l.length:Int) n)),(7,.int .i64 0)],blk:=[(13,.row 53 u4 (List.replicate (0:Nat) u4.dflt))] }):=by kernel_rfl
theorem qvb (l:List (List Int)) (o:List Int) (n:Int) (i:Nat) (Q:QT) (R:RT):sy tt G0 CCd Tryd.f12.ntmps Tryd.f12.results.toList Q (fun it S=>R it (qba [0,5,6,7] [13,81] S)) 1000 (hd Tryd.f12 0) ⟨[(0,.sl a4S l),(5,.win true u4 13 0 o.length),(6,.int .i64 n),(7,.int .i64 (i:Nat))],[(13,.row 53 u4 o)]⟩ =
  (bc (decide ((i:Int)<n)) ((0:Int)<=(i:Int) /\
 (i:Int)<(l.length:Int) /\
 ctMad.pre (gt (Sh.arr (4:Nat) uB) l (i:Int).toNat,()) /\
 (0:Int)<=(i:Int) /\
 (i:Int)<(l.length:Int) /\
 (0:Int)<=0 /\
 (0:Int)<(↑(4:Nat):Int) /\
 (16:Int)≠0 /\
 bc (decide ((5:Int)<=(IntKind.i64.wrap (gtB (gt (Sh.arr (4:Nat) uB) l (i:Int).toNat) (0))).tmod (16:Int))) (bc (decide ((IntKind.i64.wrap (gtB (gt (Sh.arr (4:Nat) uB) l (i:Int).toNat) (0))).tmod (16:Int)<=8)) ((0:Int)<=(i:Int) /\
 (i:Int)<(l.length:Int) /\
 (0:Int)<=2 /\
 (2:Int)<(↑(4:Nat):Int) /\
 IntKind.i64.wrap (n+2)≠0 /\
 bc (decide ((IntKind.i64.wrap (gtB (gt (Sh.arr (4:Nat) uB) l (i:Int).toNat) (0))).tmod (16:Int)=(7:Int))) (true=true /\
 (0:Int)<=(i:Int) /\
 (i:Int)<(l.length:Int) /\
 (0:Int)<=1 /\
 (1:Int)<(↑(4:Nat):Int) /\
 (16:Int)≠0 /\
 ctEn.pre (((IntKind.i64.wrap (gtB (gt (Sh.arr (4:Nat) uB) l (i:Int).toNat) (0))).tmod (16:Int),(IntKind.i64.wrap (gtB (gt (Sh.arr (4:Nat) uB) l (i:Int).toNat) (1))).tmod (16:Int),(0:Int),(0:Int),IntKind.i64.wrap ((4:Int)*IntKind.i64.wrap ((IntKind.i64.wrap (gtB (gt (Sh.arr (4:Nat) uB) l (i:Int).toNat) (2))).tmod (IntKind.i64.wrap (n+2))-1))),IntKind.i64.wrap ((4:Int)*(i:Int)),()) /\
 bc (decide ((enR ((IntKind.i64.wrap (gtB (gt (Sh.arr (4:Nat) uB) l (i:Int).toNat) (0))).tmod (16:Int),(IntKind.i64.wrap (gtB (gt (Sh.arr (4:Nat) uB) l (i:Int).toNat) (1))).tmod (16:Int),(0:Int),(0:Int),IntKind.i64.wrap ((4:Int)*IntKind.i64.wrap ((IntKind.i64.wrap (gtB (gt (Sh.arr (4:Nat) uB) l (i:Int).toNat) (2))).tmod (IntKind.i64.wrap (n+2))-1))) (IntKind.i64.wrap ((4:Int)*(i:Int)))).2=(0:Int))) ((0:Nat)+1<=((List.replicate (1:Nat) u4.dflt).set (0:Nat) (enR ((IntKind.i64.wrap (gtB (gt (Sh.arr (4:Nat) uB) l (i:Int).toNat) (0))).tmod (16:Int),(IntKind.i64.wrap (gtB (gt (Sh.arr (4:Nat) uB) l (i:Int).toNat) (1))).tmod (16:Int),(0:Int),(0:Int),IntKind.i64.wrap ((4:Int)*IntKind.i64.wrap ((IntKind.i64.wrap (gtB (gt (Sh.arr (4:Nat) uB) l (i:Int).toNat) (2))).tmod (IntKind.i64.wrap (n+2))-1))) (IntKind.i64.wrap ((4:Int)*(i:Int)))).1).length /\
 o.length=o.length /\
 (0:Nat)=(0:Nat) /\
 o.length+(winL u4 0 1 ((List.replicate (1:Nat) u4.dflt).set (0:Nat) (enR ((IntKind.i64.wrap (gtB (gt (Sh.arr (4:Nat) uB) l (i:Int).toNat) (0))).tmod (16:Int),(IntKind.i64.wrap (gtB (gt (Sh.arr (4:Nat) uB) l (i:Int).toNat) (1))).tmod (16:Int),(0:Int),(0:Int),IntKind.i64.wrap ((4:Int)*IntKind.i64.wrap ((IntKind.i64.wrap (gtB (gt (Sh.arr (4:Nat) uB) l (i:Int).toNat) (2))).tmod (IntKind.i64.wrap (n+2))-1))) (IntKind.i64.wrap ((4:Int)*(i:Int)))).1)).length<2 ^ 30 /\
 (4:Nat)<=2 ^ 10 /\
 R (hd Tryd.f12 0) { env:=[(0,.sl (Sh.arr (4:Nat) uB) l),(5,.win true u4 81 0 (o.length+(winL u4 0 1 ((List.replicate (1:Nat) u4.dflt).set (0:Nat) (enR ((IntKind.i64.wrap (gtB (gt (Sh.arr (4:Nat) uB) l (i:Int).toNat) (0))).tmod (16:Int),(IntKind.i64.wrap (gtB (gt (Sh.arr (4:Nat) uB) l (i:Int).toNat) (1))).tmod (16:Int),(0:Int),(0:Int),IntKind.i64.wrap ((4:Int)*IntKind.i64.wrap ((IntKind.i64.wrap (gtB (gt (Sh.arr (4:Nat) uB) l (i:Int).toNat) (2))).tmod (IntKind.i64.wrap (n+2))-1))) (IntKind.i64.wrap ((4:Int)*(i:Int)))).1)).length)),(6,.int .i64 n),(7,.int .i64 (IntKind.i64.wrap ((i:Int)+1)))],blk:=[(81,.row 53 u4 (o++winL u4 0 1 ((List.replicate (1:Nat) u4.dflt).set (0:Nat) (enR ((IntKind.i64.wrap (gtB (gt (Sh.arr (4:Nat) uB) l (i:Int).toNat) (0))).tmod (16:Int),(IntKind.i64.wrap (gtB (gt (Sh.arr (4:Nat) uB) l (i:Int).toNat) (1))).tmod (16:Int),(0:Int),(0:Int),IntKind.i64.wrap ((4:Int)*IntKind.i64.wrap ((IntKind.i64.wrap (gtB (gt (Sh.arr (4:Nat) uB) l (i:Int).toNat) (2))).tmod (IntKind.i64.wrap (n+2))-1))) (IntKind.i64.wrap ((4:Int)*(i:Int)))).1)))] }) ((0:Nat)+1<=([(madV (gt (Sh.arr (4:Nat) uB) l (i:Int).toNat))]:List u4.D).length /\
 o.length=o.length /\
 (0:Nat)=(0:Nat) /\
 o.length+(([(madV (gt (Sh.arr (4:Nat) uB) l (i:Int).toNat))]:List u4.D)).length<2 ^ 30 /\
 (4:Nat)<=2 ^ 10 /\
 R (hd Tryd.f12 0) { env:=[(0,.sl (Sh.arr (4:Nat) uB) l),(5,.win true u4 81 0 (o.length+(([(madV (gt (Sh.arr (4:Nat) uB) l (i:Int).toNat))]:List u4.D)).length)),(6,.int .i64 n),(7,.int .i64 (IntKind.i64.wrap ((i:Int)+1)))],blk:=[(81,.row 53 u4 (o++([(madV (gt (Sh.arr (4:Nat) uB) l (i:Int).toNat))]:List u4.D)))] })) (bc (bif false then true else decide ((IntKind.i64.wrap (gtB (gt (Sh.arr (4:Nat) uB) l (i:Int).toNat) (0))).tmod (16:Int)=(8:Int))) ((0:Int)<=(i:Int) /\
 (i:Int)<(l.length:Int) /\
 (0:Int)<=1 /\
 (1:Int)<(↑(4:Nat):Int) /\
 (16:Int)≠0 /\
 ctEn.pre (((IntKind.i64.wrap (gtB (gt (Sh.arr (4:Nat) uB) l (i:Int).toNat) (0))).tmod (16:Int),(IntKind.i64.wrap (gtB (gt (Sh.arr (4:Nat) uB) l (i:Int).toNat) (1))).tmod (16:Int),(0:Int),(0:Int),IntKind.i64.wrap ((4:Int)*IntKind.i64.wrap ((IntKind.i64.wrap (gtB (gt (Sh.arr (4:Nat) uB) l (i:Int).toNat) (2))).tmod (IntKind.i64.wrap (n+2))-1))),IntKind.i64.wrap ((4:Int)*(i:Int)),()) /\
 bc (decide ((enR ((IntKind.i64.wrap (gtB (gt (Sh.arr (4:Nat) uB) l (i:Int).toNat) (0))).tmod (16:Int),(IntKind.i64.wrap (gtB (gt (Sh.arr (4:Nat) uB) l (i:Int).toNat) (1))).tmod (16:Int),(0:Int),(0:Int),IntKind.i64.wrap ((4:Int)*IntKind.i64.wrap ((IntKind.i64.wrap (gtB (gt (Sh.arr (4:Nat) uB) l (i:Int).toNat) (2))).tmod (IntKind.i64.wrap (n+2))-1))) (IntKind.i64.wrap ((4:Int)*(i:Int)))).2=(0:Int))) ((0:Nat)+1<=((List.replicate (1:Nat) u4.dflt).set (0:Nat) (enR ((IntKind.i64.wrap (gtB (gt (Sh.arr (4:Nat) uB) l (i:Int).toNat) (0))).tmod (16:Int),(IntKind.i64.wrap (gtB (gt (Sh.arr (4:Nat) uB) l (i:Int).toNat) (1))).tmod (16:Int),(0:Int),(0:Int),IntKind.i64.wrap ((4:Int)*IntKind.i64.wrap ((IntKind.i64.wrap (gtB (gt (Sh.arr (4:Nat) uB) l (i:Int).toNat) (2))).tmod (IntKind.i64.wrap (n+2))-1))) (IntKind.i64.wrap ((4:Int)*(i:Int)))).1).length /\
 o.length=o.length /\
 (0:Nat)=(0:Nat) /\
 o.length+(winL u4 0 1 ((List.replicate (1:Nat) u4.dflt).set (0:Nat) (enR ((IntKind.i64.wrap (gtB (gt (Sh.arr (4:Nat) uB) l (i:Int).toNat) (0))).tmod (16:Int),(IntKind.i64.wrap (gtB (gt (Sh.arr (4:Nat) uB) l (i:Int).toNat) (1))).tmod (16:Int),(0:Int),(0:Int),IntKind.i64.wrap ((4:Int)*IntKind.i64.wrap ((IntKind.i64.wrap (gtB (gt (Sh.arr (4:Nat) uB) l (i:Int).toNat) (2))).tmod (IntKind.i64.wrap (n+2))-1))) (IntKind.i64.wrap ((4:Int)*(i:Int)))).1)).length<2 ^ 30 /\
 (4:Nat)<=2 ^ 10 /\
 R (hd Tryd.f12 0) { env:=[(0,.sl (Sh.arr (4:Nat) uB) l),(5,.win true u4 81 0 (o.length+(winL u4 0 1 ((List.replicate (1:Nat) u4.dflt).set (0:Nat) (enR ((IntKind.i64.wrap (gtB (gt (Sh.arr (4:Nat) uB) l (i:Int).toNat) (0))).tmod (16:Int),(IntKind.i64.wrap (gtB (gt (Sh.arr (4:Nat) uB) l (i:Int).toNat) (1))).tmod (16:Int),(0:Int),(0:Int),IntKind.i64.wrap ((4:Int)*IntKind.i64.wrap ((IntKind.i64.wrap (gtB (gt (Sh.arr (4:Nat) uB) l (i:Int).toNat) (2))).tmod (IntKind.i64.wrap (n+2))-1))) (IntKind.i64.wrap ((4:Int)*(i:Int)))).1)).length)),(6,.int .i64 n),(7,.int .i64 (IntKind.i64.wrap ((i:Int)+1)))],blk:=[(81,.row 53 u4 (o++winL u4 0 1 ((List.replicate (1:Nat) u4.dflt).set (0:Nat) (enR ((IntKind.i64.wrap (gtB (gt (Sh.arr (4:Nat) uB) l (i:Int).toNat) (0))).tmod (16:Int),(IntKind.i64.wrap (gtB (gt (Sh.arr (4:Nat) uB) l (i:Int).toNat) (1))).tmod (16:Int),(0:Int),(0:Int),IntKind.i64.wrap ((4:Int)*IntKind.i64.wrap ((IntKind.i64.wrap (gtB (gt (Sh.arr (4:Nat) uB) l (i:Int).toNat) (2))).tmod (IntKind.i64.wrap (n+2))-1))) (IntKind.i64.wrap ((4:Int)*(i:Int)))).1)))] }) ((0:Nat)+1<=([(madV (gt (Sh.arr (4:Nat) uB) l (i:Int).toNat))]:List u4.D).length /\
 o.length=o.length /\
 (0:Nat)=(0:Nat) /\
 o.length+(([(madV (gt (Sh.arr (4:Nat) uB) l (i:Int).toNat))]:List u4.D)).length<2 ^ 30 /\
 (4:Nat)<=2 ^ 10 /\
 R (hd Tryd.f12 0) { env:=[(0,.sl (Sh.arr (4:Nat) uB) l),(5,.win true u4 81 0 (o.length+(([(madV (gt (Sh.arr (4:Nat) uB) l (i:Int).toNat))]:List u4.D)).length)),(6,.int .i64 n),(7,.int .i64 (IntKind.i64.wrap ((i:Int)+1)))],blk:=[(81,.row 53 u4 (o++([(madV (gt (Sh.arr (4:Nat) uB) l (i:Int).toNat))]:List u4.D)))] })) (ctEn.pre (((IntKind.i64.wrap (gtB (gt (Sh.arr (4:Nat) uB) l (i:Int).toNat) (0))).tmod (16:Int),(0:Int),(0:Int),(0:Int),IntKind.i64.wrap ((4:Int)*IntKind.i64.wrap ((IntKind.i64.wrap (gtB (gt (Sh.arr (4:Nat) uB) l (i:Int).toNat) (2))).tmod (IntKind.i64.wrap (n+2))-1))),IntKind.i64.wrap ((4:Int)*(i:Int)),()) /\
 bc (decide ((enR ((IntKind.i64.wrap (gtB (gt (Sh.arr (4:Nat) uB) l (i:Int).toNat) (0))).tmod (16:Int),(0:Int),(0:Int),(0:Int),IntKind.i64.wrap ((4:Int)*IntKind.i64.wrap ((IntKind.i64.wrap (gtB (gt (Sh.arr (4:Nat) uB) l (i:Int).toNat) (2))).tmod (IntKind.i64.wrap (n+2))-1))) (IntKind.i64.wrap ((4:Int)*(i:Int)))).2=(0:Int))) ((0:Nat)+1<=((List.replicate (1:Nat) u4.dflt).set (0:Nat) (enR ((IntKind.i64.wrap (gtB (gt (Sh.arr (4:Nat) uB) l (i:Int).toNat) (0))).tmod (16:Int),(0:Int),(0:Int),(0:Int),IntKind.i64.wrap ((4:Int)*IntKind.i64.wrap ((IntKind.i64.wrap (gtB (gt (Sh.arr (4:Nat) uB) l (i:Int).toNat) (2))).tmod (IntKind.i64.wrap (n+2))-1))) (IntKind.i64.wrap ((4:Int)*(i:Int)))).1).length /\
 o.length=o.length /\
 (0:Nat)=(0:Nat) /\
 o.length+(winL u4 0 1 ((List.replicate (1:Nat) u4.dflt).set (0:Nat) (enR ((IntKind.i64.wrap (gtB (gt (Sh.arr (4:Nat) uB) l (i:Int).toNat) (0))).tmod (16:Int),(0:Int),(0:Int),(0:Int),IntKind.i64.wrap ((4:Int)*IntKind.i64.wrap ((IntKind.i64.wrap (gtB (gt (Sh.arr (4:Nat) uB) l (i:Int).toNat) (2))).tmod (IntKind.i64.wrap (n+2))-1))) (IntKind.i64.wrap ((4:Int)*(i:Int)))).1)).length<2 ^ 30 /\
 (4:Nat)<=2 ^ 10 /\
 R (hd Tryd.f12 0) { env:=[(0,.sl (Sh.arr (4:Nat) uB) l),(5,.win true u4 81 0 (o.length+(winL u4 0 1 ((List.replicate (1:Nat) u4.dflt).set (0:Nat) (enR ((IntKind.i64.wrap (gtB (gt (Sh.arr (4:Nat) uB) l (i:Int).toNat) (0))).tmod (16:Int),(0:Int),(0:Int),(0:Int),IntKind.i64.wrap ((4:Int)*IntKind.i64.wrap ((IntKind.i64.wrap (gtB (gt (Sh.arr (4:Nat) uB) l (i:Int).toNat) (2))).tmod (IntKind.i64.wrap (n+2))-1))) (IntKind.i64.wrap ((4:Int)*(i:Int)))).1)).length)),(6,.int .i64 n),(7,.int .i64 (IntKind.i64.wrap ((i:Int)+1)))],blk:=[(81,.row 53 u4 (o++winL u4 0 1 ((List.replicate (1:Nat) u4.dflt).set (0:Nat) (enR ((IntKind.i64.wrap (gtB (gt (Sh.arr (4:Nat) uB) l (i:Int).toNat) (0))).tmod (16:Int),(0:Int),(0:Int),(0:Int),IntKind.i64.wrap ((4:Int)*IntKind.i64.wrap ((IntKind.i64.wrap (gtB (gt (Sh.arr (4:Nat) uB) l (i:Int).toNat) (2))).tmod (IntKind.i64.wrap (n+2))-1))) (IntKind.i64.wrap ((4:Int)*(i:Int)))).1)))] }) ((0:Nat)+1<=([(madV (gt (Sh.arr (4:Nat) uB) l (i:Int).toNat))]:List u4.D).length /\
 o.length=o.length /\
 (0:Nat)=(0:Nat) /\
 o.length+(([(madV (gt (Sh.arr (4:Nat) uB) l (i:Int).toNat))]:List u4.D)).length<2 ^ 30 /\
 (4:Nat)<=2 ^ 10 /\
 R (hd Tryd.f12 0) { env:=[(0,.sl (Sh.arr (4:Nat) uB) l),(5,.win true u4 81 0 (o.length+(([(madV (gt (Sh.arr (4:Nat) uB) l (i:Int).toNat))]:List u4.D)).length)),(6,.int .i64 n),(7,.int .i64 (IntKind.i64.wrap ((i:Int)+1)))],blk:=[(81,.row 53 u4 (o++([(madV (gt (Sh.arr (4:Nat) uB) l (i:Int).toNat))]:List u4.D)))] })))) ((0:Nat)+1<=([(madV (gt (Sh.arr (4:Nat) uB) l (i:Int).toNat))]:List u4.D).length /\
 o.length=o.length /\
 (0:Nat)=(0:Nat) /\
 o.length+(([(madV (gt (Sh.arr (4:Nat) uB) l (i:Int).toNat))]:List u4.D)).length<2 ^ 30 /\
 (4:Nat)<=2 ^ 10 /\
 R (hd Tryd.f12 0) { env:=[(0,.sl (Sh.arr (4:Nat) uB) l),(5,.win true u4 81 0 (o.length+(([(madV (gt (Sh.arr (4:Nat) uB) l (i:Int).toNat))]:List u4.D)).length)),(6,.int .i64 n),(7,.int .i64 (IntKind.i64.wrap ((i:Int)+1)))],blk:=[(81,.row 53 u4 (o++([(madV (gt (Sh.arr (4:Nat) uB) l (i:Int).toNat))]:List u4.D)))] })) (false=false /\
 (0:Nat)+1<=([(madV (gt (Sh.arr (4:Nat) uB) l (i:Int).toNat))]:List u4.D).length /\
 o.length=o.length /\
 (0:Nat)=(0:Nat) /\
 o.length+(([(madV (gt (Sh.arr (4:Nat) uB) l (i:Int).toNat))]:List u4.D)).length<2 ^ 30 /\
 (4:Nat)<=2 ^ 10 /\
 R (hd Tryd.f12 0) { env:=[(0,.sl (Sh.arr (4:Nat) uB) l),(5,.win true u4 81 0 (o.length+(([(madV (gt (Sh.arr (4:Nat) uB) l (i:Int).toNat))]:List u4.D)).length)),(6,.int .i64 n),(7,.int .i64 (IntKind.i64.wrap ((i:Int)+1)))],blk:=[(81,.row 53 u4 (o++([(madV (gt (Sh.arr (4:Nat) uB) l (i:Int).toNat))]:List u4.D)))] })) ((0:Nat)+o.length<=o.length /\
 ctByt.pre (winL u4 0 o.length o,()) /\
 Q [.win true uB 1339968 0 (bytL (winL u4 0 o.length o)).length] [(13,.row 53 u4 o),(1339968,.row 5 uB (bytL (winL u4 0 o.length o)))])):=by kernel_rfl
end Go.Proofs.YtplkpodikhfcdaaDoor
namespace Go.Proofs.YtplkpodikhfcdaaDoor
open Go.Px Go.Ax
set_option maxRecDepth 100000
theorem qe9 {l:List Int} {i j:Nat} {v:Int} (h:i<l.length):gtI (l.set i v) j=if j=i then v else gtI l j:=by
 show gt iI _ j=_
 unfold gt;by_cases e:j=i
 ·subst e;rw[if_pos rfl,List.getElem?_set_self h];rfl
 ·rw[if_neg e,List.getElem?_set_ne (fun q=>e q.symm)];rfl
theorem qhw {l:List Int} {j:Nat} (h:j+1<l.length) (i:Nat):gtI (swp l j) i=if i=j then gtI l (j+1) else if i=j+1 then gtI l j else gtI l i:=by
 unfold swp;rw[qe9 (by rw[List.length_set];omega)];split
 ·rfl
 ·rw[qe9 h]
def inI' (n:Nat) (l:List Int) (x:Int):Prop:=∃ i,i<n/\gtI l i=x
theorem q6m {l:List Int} {j:Nat} (h:j+1<l.length) (x:Int):inI' l.length (swp l j) x↔inI' l.length l x:=by
 constructor
 ·rintro ⟨i,hi,e⟩;rw[qhw h] at e;split at e
  ·exact ⟨j+1,h,e⟩
  ·split at e
   ·exact ⟨j,by omega,e⟩
   ·exact ⟨i,hi,e⟩
 ·rintro ⟨i,hi,e⟩;by_cases h1:i=j
  ·exact ⟨j+1,h,by rw[qhw h,if_neg (by omega),if_pos rfl,<- h1];exact e⟩
  ·by_cases h2:i=j+1
   ·exact ⟨j,by omega,by rw[qhw h,if_pos rfl,<- h2];exact e⟩
   ·exact ⟨i,hi,by rw[qhw h,if_neg h1,if_neg h2];exact e⟩
def srt (m:Nat) (l:List Int):Prop:=∀ a b,a<b->b<m->gtI l a<=gtI l b
theorem qvl {m:Nat}:∀ (j:Nat) (l:List Int),j<m->m<=l.length->(∀ a b,a<b->b<m->a≠j->b≠j->gtI l a<=gtI l b)->(∀ b,j<b->b<m->gtI l j<=gtI l b) ->
  srt m (qi7 j l)/\(∀ x,inI' l.length (qi7 j l) x↔inI' l.length l x)/\∀ i,m<=i->gtI (qi7 j l) i=gtI l i
 | 0,l,hj,hm,h1,h2=>by
  refine ⟨fun a b hab hb=>?_,fun x=>Iff.rfl,fun i _=>rfl⟩;by_cases ha:a=0
  ·subst ha;exact h2 b hab hb
  ·exact h1 a b hab hb ha (by omega)
 | j+1,l,hj,hm,h1,h2=>by
  rw[qi7];split
  ·rename_i hlt;have hjl:j+1<l.length:=by omega
   obtain ⟨r1,r2,r3⟩:=qvl (m:=m) j (swp l j) (by omega) (by rw[qkv];exact hm)
    (fun a b hab hb ha hb'=>by
     rw[qhw hjl,qhw hjl,if_neg ha,if_neg hb'];by_cases e1:a=j+1
     ·rw[if_pos e1,if_neg (by omega)];exact h1 j b (by omega) hb (by omega) (by omega)
     ·rw[if_neg e1];by_cases e2:b=j+1
      ·rw[if_pos e2];exact h1 a j (by omega) (by omega) e1 (by omega)
      ·rw[if_neg e2];exact h1 a b hab hb e1 e2)
    (fun b hb hbm=>by
     rw[qhw hjl,qhw hjl,if_pos rfl,if_neg (by omega)];by_cases e2:b=j+1
     ·rw[if_pos e2];omega
     ·rw[if_neg e2];exact h2 b (by omega) hbm)
   rw[qkv] at r2;exact ⟨r1,fun x=>(r2 x).trans (q6m hjl x),fun i hi=>by rw[r3 i hi,qhw hjl,if_neg (by omega),if_neg (by omega)]⟩
  ·rename_i hlt;refine ⟨fun a b hab hb=>?_,fun x=>Iff.rfl,fun i _=>rfl⟩;by_cases ha:a=j+1
   ·subst ha;exact h2 b hab hb
   ·by_cases hb':b=j+1
    ·subst hb';by_cases e:a=j
     ·subst e;omega
     ·have:=h1 a j (by omega) (by omega) ha (by omega);omega
    ·exact h1 a b hab hb ha hb'
theorem q2k:∀ (k i:Nat) (l:List Int),i+k<=l.length->1<=i->srt i l->srt (i+k) (insF k i l)/\(∀ x,inI' l.length (insF k i l) x↔inI' l.length l x)
 | 0,i,l,_,_,h=>⟨h,fun x=>Iff.rfl⟩
 | k+1,i,l,hl,hi,h=>by
  rw[insF];obtain ⟨s1,s2,s3⟩:=qvl (m:=i+1) i l (by omega) (by omega) (fun a b hab hb ha hb'=>h a b hab (by omega)) (fun b hb hbm=>by omega);obtain ⟨r1,r2⟩:=q2k k (i+1) (qi7 i l) (by rw[qfn];omega) (by omega) s1;rw[qfn] at r2;exact ⟨by rw[show i+(k+1)=i+1+k by omega];exact r1,fun x=>(r2 x).trans (s2 x)⟩
theorem qvj (l:List Int):srt l.length (qec l)/\∀ x,inI' l.length (qec l) x↔inI' l.length l x:=by
 unfold qec;by_cases h:l.length=0
 ·refine ⟨fun a b _ hb=>by omega,fun x=>?_⟩;rw[h];exact ⟨fun ⟨i,hi,_⟩=>by omega,fun ⟨i,hi,_⟩=>by omega⟩
 ·obtain ⟨r1,r2⟩:=q2k (l.length-1) 1 l (by omega) (Nat.le_refl _) (fun a b hab hb=>by omega);rw[show 1+(l.length-1)=l.length by omega] at r1;exact ⟨r1,r2⟩
def inc (m:Nat) (l:List Int):Prop:=∀ a b,a<b->b<m->gtI l a<gtI l b
theorem q0j {k:Nat} {l:List Int} {v:Int} (h:inc k l) (hk:k<l.length) (hv:0<k->gtI l (k-1)<v):inc (k+1) (l.set k v):=by
 intro a b hab hb;rw[qe9 hk,qe9 hk,if_neg (by omega)];by_cases e:b=k
 ·rw[if_pos e];by_cases e2:a=k-1
  ·rw[e2];exact hv (by omega)
  ·have:=h a (k-1) (by omega) (by omega);have:=hv (by omega);omega
 ·rw[if_neg e];exact h a b hab (by omega)
theorem qxx {L:List Int} (hs:srt L.length L) {lo:Nat}:∀ (f m k:Nat) (l:List Int),l.length=L.length->lo+m+f=L.length->1<=m->1<=k->k+1<=lo+m->inc k l->(∀ x,inI' k l x↔inI' (lo+m) L x)->gtI l (k-1)=gtI L (lo+m-1)->(∀ i,lo+m-1<=i->gtI l i=gtI L i) ->
  (cpJ lo f m k l).1<=L.length/\(cpJ lo f m k l).2.length=L.length/\inc (cpJ lo f m k l).1 (cpJ lo f m k l).2/\∀ x,inI' (cpJ lo f m k l).1 (cpJ lo f m k l).2 x↔inI' L.length L x
 | 0,m,k,l,hl,hf,hm,hk1,hk,hi,hin,_,_=>by
  rw[cpJ];rw[show lo+m=L.length by omega] at hin;exact ⟨by show k<=_;omega,hl,hi,hin⟩
 | f+1,m,k,l,hl,hf,hm,hk1,hk,hi,hin,hlast,hun=>by
  rw[cpJ];have e1:gtI l (lo+m)=gtI L (lo+m):=hun _ (by omega);have e2:gtI l (lo+(m-1))=gtI L (lo+m-1):=by rw[hun _ (by omega),show lo+(m-1)=lo+m-1 by omega]
  rw[e1,e2];split
  ·rename_i hne;have hle:=hs (lo+m-1) (lo+m) (by omega) (by omega);refine qxx hs f (m+1) (k+1) (l.set k (gtI L (lo+m))) (by rw[List.length_set];exact hl) (by omega) (by omega) (by omega) (by omega) (q0j hi (by omega) fun _=>by rw[hlast];omega) (fun x=>?_) (by rw[qe9 (by omega),if_pos (by omega)];congr 1) (fun i hi2=>by rw[qe9 (by omega),if_neg (by omega)];exact hun i (by omega));constructor
   ·rintro ⟨i,hi3,e⟩;rw[qe9 (by omega)] at e;split at e
    ·exact ⟨lo+m,by omega,e⟩
    ·obtain ⟨j,hj,e⟩:=(hin x).1 ⟨i,by omega,e⟩;exact ⟨j,by omega,e⟩
   ·rintro ⟨i,hi3,e⟩;by_cases h3:i=lo+m
    ·exact ⟨k,by omega,by rw[qe9 (by omega),if_pos rfl,<- h3];exact e⟩
    ·obtain ⟨j,hj,e⟩:=(hin x).2 ⟨i,by omega,e⟩;exact ⟨j,by omega,by rw[qe9 (by omega),if_neg (by omega)];exact e⟩
  ·rename_i heq;have heq:gtI L (lo+m)=gtI L (lo+m-1):=Decidable.not_not.1 heq;refine qxx hs f (m+1) k l hl (by omega) (by omega) hk1 (by omega) hi (fun x=>?_) (by rw[hlast,show lo+(m+1)-1=lo+m by omega,heq]) (fun i hi2=>hun i (by omega));rw[hin x];constructor
   ·rintro ⟨i,hi3,e⟩;exact ⟨i,by omega,e⟩
   ·rintro ⟨i,hi3,e⟩;by_cases h3:i=lo+m
    ·exact ⟨lo+m-1,by omega,by rw[<- heq,<- h3];exact e⟩
    ·exact ⟨i,by omega,e⟩
theorem q5c {k i:Nat} {l:List Int} (h:i<k):gtI (winL iI 0 k l) i=gtI l i:=by
 show gt iI _ _=gt iI _ _
 unfold gt winL;rw[List.drop_zero,List.getElem?_take_of_lt h]
theorem qgt {l:List Int} {k i:Nat} {z:List Int} (h:i<k) (hk:k<=l.length):gtI (setRow l k z) i=gtI l i:=by
 show gt iI _ _=gt iI _ _
 unfold gt setRow;rw[List.append_assoc,List.getElem?_append_left (by rw[List.length_take];omega),List.getElem?_take_of_lt h]
theorem q2q {L:List Int} (hs:srt L.length L):∀ (f k:Nat),k+f=L.length->1<=k->inc k L ->
  (cpI f k L).2.1<=L.length/\(cpI f k L).2.2.length=L.length/\inc (cpI f k L).2.1 (cpI f k L).2.2/\∀ x,inI' (cpI f k L).2.1 (cpI f k L).2.2 x↔inI' L.length L x
 | 0,k,hf,hk,hi=>by
  rw[cpI];rw[show k=L.length by omega] at hi;exact ⟨Nat.le_refl _,rfl,hi,fun x=>Iff.rfl⟩
 | f+1,k,hf,hk,hi=>by
  rw[cpI];split
  ·rename_i heq
   obtain ⟨r1,r2,r3,r4⟩:=qxx hs (lo:=k) (L.length-k-1) 1 k L rfl (by omega) (Nat.le_refl _) hk (Nat.le_refl _) hi (fun x=>by
    constructor
    ·rintro ⟨i,hi3,e⟩;exact ⟨i,by omega,e⟩
    ·rintro ⟨i,hi3,e⟩;by_cases h3:i=k
     ·exact ⟨k-1,by omega,by rw[<- heq,<- h3];exact e⟩
     ·exact ⟨i,by omega,e⟩) (by rw[show k+1-1=k by omega];exact heq.symm) (fun i _=>rfl)
   unfold cpZ;refine ⟨r1,?_,fun a b hab hb=>?_,fun x=>?_⟩
   ·show (setRow _ _ _).length=_
    unfold setRow;simp only[List.length_append,List.length_take,List.length_replicate,List.length_drop];omega
   ·show gtI (setRow _ _ _) a<gtI (setRow _ _ _) b
    have hb:b<(cpJ k (L.length-k-1) 1 k L).1:=hb;rw[qgt (by omega) (by omega),qgt hb (by omega)];exact r3 a b hab hb
   ·rw[<- r4 x];constructor
    ·rintro ⟨i,hi3,e⟩;have hi3:i<(cpJ k (L.length-k-1) 1 k L).1:=hi3;have e:gtI (setRow _ _ _) i=x:=e;rw[qgt hi3 (by omega)] at e;exact ⟨i,hi3,e⟩
    ·rintro ⟨i,hi3,e⟩;refine ⟨i,hi3,?_⟩
     show gtI (setRow _ _ _) i=x
     rw[qgt hi3 (by omega)];exact e
  ·rename_i hne;refine q2q hs f (k+1) (by omega) (by omega) fun a b hab hb=>?_
   by_cases e:b=k
   ·subst e;have h1:=hs (b-1) b (by omega) (by omega);by_cases e2:a=b-1
    ·subst e2;omega
    ·have:=hi a (b-1) (by omega) (by omega);omega
   ·exact hi a b hab (by omega)
theorem qxw {L:List Int} (hs:srt L.length L):(cptV L).2.1<=L.length/\(cptV L).2.2.length=L.length/\inc (cptV L).2.1 (cptV L).2.2/\∀ x,inI' (cptV L).2.1 (cptV L).2.2 x↔inI' L.length L x:=by
 unfold cptV;by_cases h:L.length=0
 ·rw[show L.length-1=0 by omega,cpI];exact ⟨Nat.le_refl _,rfl,fun a b _ hb=>by have hb:b<L.length:=hb;omega,fun x=>Iff.rfl⟩
 ·exact q2q hs _ 1 (by omega) (Nat.le_refl _) (fun a b hab hb=>by omega)
theorem qvn {l:List Int} (hi:inc l.length l) {p:Nat} (hp:p<l.length):∀ (k i j:Nat),j-i<=k->i<=p->p<=j->j<=l.length->seaF l (gtI l p) k i j=p
 | 0,i,j,hk,h1,h2,h3=>by rw[seaF];omega
 | k+1,i,j,hk,h1,h2,h3=>by
  rw[seaF];split
  ·rename_i hij;split
   ·rename_i hge;refine qvn hi hp k i ((i+j) / 2) (by omega) h1 ?_ (by omega);by_cases e:(i+j) / 2<p
    ·have:=hi _ _ e hp;omega
    ·omega
   ·rename_i hlt;refine qvn hi hp k ((i+j) / 2+1) j (by omega) ?_ h2 h3;by_cases e:p<(i+j) / 2+1
    ·by_cases e2:p=(i+j) / 2
     ·rw[<- e2] at hlt;omega
     ·have:=hi p ((i+j) / 2) (by omega) (by omega);omega
    ·omega
  ·omega
theorem q7e {l:List Int} (hi:inc l.length l) {p:Nat} (hp:p<l.length):iofV l (gtI l p)=p:=qvn hi hp _ 0 _ (by omega) (Nat.zero_le _) (by omega) (Nat.le_refl _)
theorem qn1 (l:List Int):(qb7 l).length=(tgV l).2.1/\inc (qb7 l).length (qb7 l)/\(qb7 l).length<=(lnk l).length/\∀ x,inI' (qb7 l).length (qb7 l) x↔x∈tgO (lnk l):=by
 obtain ⟨s1,s2⟩:=qvj (tgO (lnk l));have sl:=qfm (tgO (lnk l));obtain ⟨c1,c2,c3,c4⟩:=qxw (L:=qec (tgO (lnk l))) (by rw[sl];exact s1);have hlen:(qb7 l).length=(tgV l).2.1:=by
  unfold qb7 winL;rw[List.drop_zero,List.length_take]
  show min (cptV _).2.1 (cptV _).2.2.length=(cptV _).2.1
  omega
 have hgl:∀ i,i<(tgV l).2.1->gtI (qb7 l) i=gtI (tgV l).2.2 i:=fun i hi=>q5c hi
 refine ⟨hlen,fun a b hab hb=>?_,?_,fun x=>?_⟩
 ·rw[hlen] at hb;rw[hgl a (by omega),hgl b hb];exact c3 a b hab hb
 ·rw[hlen];have:(tgO (lnk l)).length=(lnk l).length:=by unfold tgO;rw[List.length_map]
  show (cptV _).2.1<=_
  omega
 ·rw[hlen];have h1:inI' (tgV l).2.1 (qb7 l) x↔inI' (tgV l).2.1 (tgV l).2.2 x:=by
   constructor
   ·rintro ⟨i,hi,e⟩;exact ⟨i,hi,by rw[<- hgl i hi];exact e⟩
   ·rintro ⟨i,hi,e⟩;exact ⟨i,hi,by rw[hgl i hi];exact e⟩
  rw[h1,show inI' (tgV l).2.1 (tgV l).2.2 x↔_ from c4 x,sl,s2 x];constructor
  ·rintro ⟨i,hi,e⟩;rw[<- e,show gtI (tgO (lnk l)) i=(tgO (lnk l))[i] from qel hi];exact List.getElem_mem hi
  ·intro hx;obtain ⟨i,hi,e⟩:=List.getElem_of_mem hx;exact ⟨i,hi,by rw[show gtI (tgO (lnk l)) i=(tgO (lnk l))[i] from qel hi];exact e⟩
end Go.Proofs.YtplkpodikhfcdaaDoor
namespace Go.Proofs.YtplkpodikhfcdaaDoor
open Go.Px Go.Ax
set_option maxRecDepth 100000
theorem qxe {l:List Int} {i j:Nat} {v:Int} (h:i<l.length):gtW (l.set i v) j=if j=i then v else gtW l j:=by
 show gt u4 _ j=_
 unfold gt;by_cases e:j=i
 ·subst e;rw[if_pos rfl,List.getElem?_set_self h];rfl
 ·rw[if_neg e,List.getElem?_set_ne (fun q=>e q.symm)];rfl
theorem q2l {l:List Bool} {i j:Nat} {v:Bool} (h:i<l.length):gtM (l.set i v) j=if j=i then v else gtM l j:=by
 show gt Sh.bool _ j=_
 unfold gt;by_cases e:j=i
 ·subst e;rw[if_pos rfl,List.getElem?_set_self h];rfl
 ·rw[if_neg e,List.getElem?_set_ne (fun q=>e q.symm)];rfl
theorem q2i (l lab:List Int):∀ (rs:List (Nat × InT)) (w:List Int) (m:List Bool),(lfF l lab rs w m).1.length=w.length/\(lfF l lab rs w m).2.length=m.length
 | [],w,m=>⟨rfl,rfl⟩
 | r::rs,w,m=>by
  rw[lfF];obtain ⟨h1,h2⟩:=q2i l lab rs (w.set r.1 (lfW l lab r.1 r.2)) (m.set r.1 true);rw[List.length_set] at h1 h2;exact ⟨h1,h2⟩
theorem qw3 {l lab:List Int} {i:Nat}:∀ (rs:List (Nat × InT)) (w:List Int) (m:List Bool),(∀ r∈rs,r.1<w.length)->w.length=m.length->(∀ r∈rs,r.1≠i)->gtW (lfF l lab rs w m).1 i=gtW w i/\gtM (lfF l lab rs w m).2 i=gtM m i
 | [],w,m,_,_,_=>⟨rfl,rfl⟩
 | r::rs,w,m,h,he,hn=>by
  rw[lfF];have h0:=h r (List.mem_cons_self ..);obtain ⟨h1,h2⟩:=qw3 rs (w.set r.1 (lfW l lab r.1 r.2)) (m.set r.1 true) (fun x hx=>by rw[List.length_set];exact h x (List.mem_cons_of_mem _ hx)) (by rw[List.length_set,List.length_set];exact he) (fun x hx=>hn x (List.mem_cons_of_mem _ hx));have hi:=hn r (List.mem_cons_self ..);rw[h1,h2,qxe h0,q2l (by omega),if_neg (fun q=>hi q.symm),if_neg (fun q=>hi q.symm)];exact ⟨rfl,rfl⟩
theorem qw2 {l lab:List Int}:∀ (rs:List (Nat × InT)) (w:List Int) (m:List Bool),(∀ r∈rs,r.1<w.length)->w.length=m.length->rs.Pairwise (fun a b=>a.1<b.1)->∀ r∈rs,gtW (lfF l lab rs w m).1 r.1=lfW l lab r.1 r.2/\gtM (lfF l lab rs w m).2 r.1=true
 | [],_,_,_,_,_,r,hr=>by cases hr
 | q::rs,w,m,h,he,hp,r,hr=>by
  rw[lfF];have h0:=h q (List.mem_cons_self ..);rw[List.pairwise_cons] at hp;rcases List.mem_cons.1 hr with e | hr
  ·subst e;obtain ⟨h1,h2⟩:=qw3 (l:=l) (lab:=lab) (i:=r.1) rs (w.set r.1 (lfW l lab r.1 r.2)) (m.set r.1 true) (fun x hx=>by rw[List.length_set];exact h x (List.mem_cons_of_mem _ hx)) (by rw[List.length_set,List.length_set];exact he) (fun x hx=>by have:=hp.1 x hx;omega);rw[h1,h2,qxe h0,q2l (by omega),if_pos rfl,if_pos rfl];exact ⟨rfl,rfl⟩
  ·exact qw2 rs (w.set q.1 (lfW l lab q.1 q.2)) (m.set q.1 true) (fun x hx=>by rw[List.length_set];exact h x (List.mem_cons_of_mem _ hx)) (by rw[List.length_set,List.length_set];exact he) hp.2 r hr
theorem qgq {n:Nat}:∀ (l:List Int) (i:Nat) (r:Nat × InT),r∈lnkF n i l↔∃ j,∃ h:j<l.length,r=(i+j,decT l[j] (4*((i+j:Nat):Int)))/\isLk n l[j] (i+j)=true
 | [],i,r=>⟨fun h=>(by cases h),fun ⟨j,h,_⟩=>(by simp at h)⟩
 | w::l,i,r=>by
  have ih:=qgq (n:=n) l (i+1) r;have tail:(r∈lnkF n (i+1) l)↔∃ j,∃ h:j+1<(w::l).length,r=(i+(j+1),decT (w::l)[j+1] (4*((i+(j+1):Nat):Int)))/\isLk n (w::l)[j+1] (i+(j+1))=true:=by
   rw[ih];constructor
   ·rintro ⟨j,h,e1,e2⟩;exact ⟨j,by simpa using h,by rw[show i+(j+1)=i+1+j by omega];exact e1,by rw[show i+(j+1)=i+1+j by omega];exact e2⟩
   ·rintro ⟨j,h,e1,e2⟩;exact ⟨j,by simpa using h,by rw[show i+1+j=i+(j+1) by omega];exact e1,by rw[show i+1+j=i+(j+1) by omega];exact e2⟩
  rw[lnkF];split
  ·rename_i hl;rw[List.mem_cons,tail];constructor
   ·rintro (e | ⟨j,h,e1,e2⟩)
    ·exact ⟨0,by simp,e,hl⟩
    ·exact ⟨j+1,h,e1,e2⟩
   ·rintro ⟨j,h,e1,e2⟩
    cases j with
    | zero=>exact .inl e1
    | succ j=>exact .inr ⟨j,h,e1,e2⟩
  ·rename_i hl;rw[tail];constructor
   ·rintro ⟨j,h,e1,e2⟩;exact ⟨j+1,h,e1,e2⟩
   ·rintro ⟨j,h,e1,e2⟩
    cases j with
    | zero=>exact absurd e2 hl
    | succ j=>exact ⟨j,h,e1,e2⟩
theorem qll {n:Nat}:∀ (l:List Int) (i:Nat),(lnkF n i l).Pairwise (fun a b=>a.1<b.1)
 | [],i=>by rw[lnkF];exact List.Pairwise.nil
 | w::l,i=>by
  rw[lnkF];split
  ·rw[List.pairwise_cons];refine ⟨fun x hx=>?_,qll l (i+1)⟩;obtain ⟨j,h,e,_⟩:=(qgq l (i+1) x).1 hx;rw[e]
   show i<i+1+j
   omega
  ·exact qll l (i+1)
theorem q4w {l:List Int} {i:Nat} (h:i<l.length):(∃ r∈lnk l,r.1=i)↔isLk l.length l[i] i=true:=by
 constructor
 ·rintro ⟨r,hr,e⟩;obtain ⟨j,hj,e1,e2⟩:=(qgq l 0 r).1 hr;rw[e1] at e;have e:0+j=i:=e;have hji:j=i:=by omega
  subst hji;rw[Nat.zero_add] at e2;exact e2
 ·intro hl;exact ⟨(i,decT l[i] (4*(i:Int))),(qgq l 0 _).2 ⟨i,h,by rw[Nat.zero_add],by rw[Nat.zero_add];exact hl⟩,rfl⟩
theorem qw0 (l:List Int):(lfV l).1.length=l.length/\(lfV l).2.length=l.length/\∀ i (h:i<l.length),gtM (lfV l).2 i=isLk l.length l[i] i /\
  (isLk l.length l[i] i=false->gtW (lfV l).1 i=l[i])/\(isLk l.length l[i] i=true->gtW (lfV l).1 i=lfW l (qb7 l) i (decT l[i] (4*(i:Int)))/\∃ p,p<(qb7 l).length/\gtI (qb7 l) p=(decT l[i] (4*(i:Int))).2.2.2.2/\iofV (qb7 l) (decT l[i] (4*(i:Int))).2.2.2.2=p):=by
 obtain ⟨g1,g2,g3,g4⟩:=qn1 l;obtain ⟨f1,f2⟩:=q2i l (qb7 l) (lnk l) l (List.replicate l.length false);rw[List.length_replicate] at f2;refine ⟨f1,f2,fun i h=>?_⟩
 cases hk:isLk l.length l[i] i with
 | false=>
  have hn:∀ r∈lnk l,r.1≠i:=fun r hr e=>by
   have:=(q4w h).1 ⟨r,hr,e⟩;rw[hk] at this;cases this
  obtain ⟨a1,a2⟩:=qw3 (l:=l) (lab:=qb7 l) (i:=i) (lnk l) l (List.replicate l.length false) (qwv l) (by rw[List.length_replicate]) hn;refine ⟨?_,fun _=>?_,fun q=>by cases q⟩
  ·show gtM (lfF _ _ _ _ _).2 i=false
   rw[a2,qpm (by rw[List.length_replicate];exact h),List.getElem_replicate]
  ·show gtW (lfF _ _ _ _ _).1 i=l[i]
   rw[a1,qfd h]
 | true=>
  have hr:(i,decT l[i] (4*(i:Int)))∈lnk l:=(qgq l 0 _).2 ⟨i,h,by rw[Nat.zero_add],by rw[Nat.zero_add];exact hk⟩;obtain ⟨a1,a2⟩:=qw2 (l:=l) (lab:=qb7 l) (lnk l) l (List.replicate l.length false) (qwv l) (by rw[List.length_replicate]) (qll l 0) _ hr;refine ⟨a2,(fun q=>by cases q),fun _=>⟨a1,?_⟩⟩;have hm:(decT l[i] (4*(i:Int))).2.2.2.2∈tgO (lnk l):=List.mem_map.2 ⟨_,hr,rfl⟩;obtain ⟨p,hp,e⟩:=(g4 _).2 hm;exact ⟨p,hp,e,by rw[<- e];exact q7e g2 hp⟩
end Go.Proofs.YtplkpodikhfcdaaDoor
namespace Go.Proofs.YtplkpodikhfcdaaDoor
open Go.Px Go.Ax
set_option maxRecDepth 100000
end Go.Proofs.YtplkpodikhfcdaaDoor
namespace Go.Proofs.YtplkpodikhfcdaaDoor
open Go.Px Go.Ax
set_option maxRecDepth 100000
attribute [local irreducible] Go.Px.sy Go.Px.syE
theorem q3z {ct:Ctr} {x:DL ct.args} {rs:List SV} {blk:List (Nat × LB)} {e:Sh} {et:TypeId} {a k:Nat} {xs:List e.D} (h:ct.out x=[.win true e 0 0 xs.length]) (hr:ct.rows x=[.row et e xs]) (hs:rs=[.win true e a 0 k]) (hk:k=xs.length) (hb:lk blk a=some (.row et e xs)):QC ct x rs blk:=by
 subst hk;exact qg3 h hr hs rfl hb
def ctB (ws:List Int):Ctr:=⟨[.sl a4S,iI],fun _=>True,fun _=>[.win true uB 0 0 (bytL ws).length],fun _=>[.row 5 uB (bytL ws)]⟩
abbrev WsN (N:Nat):Type:={ ws:List Int // ws.length=N }
abbrev cdS (l:List (List Int)) (o:List Int) (N i:Nat):PS:=⟨[(0,.sl a4S l),(5,.win true u4 13 0 o.length),(6,.int .i64 (N:Nat)),(7,.int .i64 (i:Nat))],[(13,.row 53 u4 o)]⟩
theorem q04 (l:List (List Int)) (n:Int) (N:Nat) (hN:N<=l.length) (hN2:N<=1000):∀ (k i:Nat) (o:List Int),N-i=k->i<=N->o.length=i ->
  ∃ r:WsN N,GD 12 Tryd.f12 (QC (ctB r.1) (l,n,())) (hd Tryd.f12 0) (cdS l o N i):=by
 intro k
 induction k with
 | zero=>
  intro i o hk hi ho;refine ⟨⟨o,by omega⟩,qaq cxCd (qvb l o N i _ _) ?_⟩;rw[decide_eq_false (by omega),bc_f,qes];exact ⟨by omega,(show o.length<1000000 by omega),q3z (e:=uB) (et:=5) (a:=1339968) (xs:=bytL o) rfl rfl rfl rfl rfl⟩
 | succ k ih=>
  intro i o hk hi ho;have hlt:i<l.length:=by omega
  have leaf:∀ w:Int,∃ r:WsN N,GD 12 Tryd.f12 (QC (ctB r.1) (l,n,())) (hd Tryd.f12 0) ⟨[(0,.sl a4S l),(5,.win true u4 81 0 (o.length+1)),(6,.int .i64 (N:Nat)),(7,.int .i64 (IntKind.i64.wrap ((i:Int)+1)))],[(81,.row 53 u4 (o++[w]))]⟩:=fun w=>by
   obtain ⟨r,h⟩:=ih (i+1) (o++[w]) (by omega) (by omega) (by rw[List.length_append,ho];rfl);refine ⟨r,?_⟩;rw[IntWalk.i64_in ((i:Int)+1) (by omega)];exact h.onlyR [(13,81)] rfl ⟨rfl,by rw[List.length_append];rfl,rfl,rfl,trivial⟩ ⟨rfl,trivial⟩
  have hw:IntKind.i64.wrap ((N:Int)+2)≠0:=by rw[IntWalk.i64_in _ (by omega)];omega
  have e:=fun r:WsN N=>qvb l o N i (QC (ctB r.1) (l,n,())) (Px.Good Tryd.prog tt G0 12 Tryd.f12.ntmps Tryd.f12.results.toList (QC (ctB r.1) (l,n,())))
  have h:∃ r:WsN N,sy tt G0 CCd Tryd.f12.ntmps Tryd.f12.results.toList (QC (ctB r.1) (l,n,())) (fun it S=>Px.Good Tryd.prog tt G0 12 Tryd.f12.ntmps Tryd.f12.results.toList (QC (ctB r.1) (l,n,())) it (qba [0,5,6,7] [13,81] S)) 1000 (hd Tryd.f12 0) (cdS l o N i):=by
   simp only[e];rw[decide_eq_true (show (i:Int)<(N:Int) by omega)]
   repeat' first
    | exact leaf _
    | refine qdr trivial ?_
    | refine qdr rfl ?_
    | refine qdr (by decide) ?_
    | refine qdr (by omega) ?_
    | refine qdr hw ?_
    | refine qdr (Nat.le_refl _) ?_
    | refine qdr (show o.length+1<2 ^ 30 by omega) ?_
    | refine qxn (fun _=>?_) (fun _=>?_)
   all_goals (rename_i hq;cases hq)
  obtain ⟨r,h⟩:=h;exact ⟨r,qaq cxCd rfl h⟩
theorem qx0 (l:List (List Int)) (n:Int):∃ ws:List Int,(0<=n/\n<=1000->ws.length=min l.length n.toNat/\GD 12 Tryd.f12 (QC (ctB ws) (l,n,())) [.code (qai Tryd.f12)] (entry [.sl a4S,iI] (l,n,()))):=by
 by_cases hn:0<=n/\n<=1000
 ·obtain ⟨r,h⟩:=q04 l n (min l.length n.toNat) (Nat.min_le_left _ _) (by omega) _ 0 [] rfl (Nat.zero_le _) rfl;refine ⟨r.1,fun _=>⟨r.2,qaq cxCd (q6g l n _ _) ?_⟩⟩;refine h.only ⟨rfl,rfl,?_,rfl,trivial⟩ ⟨rfl,trivial⟩;have e:((min l.length n.toNat:Nat):Int)=min (l.length:Int) n:=by omega
  show some (SV.int IntKind.i64 (min (l.length:Int) n))=some (SV.int IntKind.i64 ((min l.length n.toNat:Nat):Int))
  rw[e]
 ·exact ⟨[],fun q=>absurd q hn⟩
noncomputable def codW (l:List (List Int)) (n:Int):List Int:=Classical.choose (qx0 l n)
theorem q06 {l:List (List Int)} {n:Int} (hn:0<=n/\n<=1000):(codW l n).length=min l.length n.toNat:=(Classical.choose_spec (qx0 l n) hn).1
noncomputable def ctCod:Ctr:=⟨[.sl a4S,iI],fun x=>0<=x.2.1/\(show Int from x.2.1)<=1000,fun x=>[.win true uB 0 0 (bytL (codW x.1 x.2.1)).length],fun x=>[.row 5 uB (bytL (codW x.1 x.2.1))]⟩
theorem q05:Held Tryd.prog G0 12 ctCod:=Held.of cxCd (fn:=Tryd.f12) rfl rfl ⟨by decide,by decide⟩ fun ⟨l,n,_⟩ hp=>(Classical.choose_spec (qx0 l n) hp).2
end Go.Proofs.YtplkpodikhfcdaaDoor
namespace Go.Proofs.YtplkpodikhfcdaaDoor
open Go.Px Go.Ax
set_option maxRecDepth 100000
abbrev shS:Sh:=.pair iI iI
set_option maxRecDepth 100000
theorem q50 (W:List Int) (M:List Bool) (L:List Int) (a y:Int) (Q:QT) (R:RT):sy tt G0 ([]:CV) Tryd.f28.ntmps Tryd.f28.results.toList Q (fun it S=>R it (qba [2,3,4,5,6] [2,3,4,5,17,26] S)) 1000 [.code (qai Tryd.f28)] (entry [liS,shS] ((W,M,L),(a,y),())) =
  ((0:Int)<=a /\
 a<=(W.length:Int) /\
 (List.take a.toNat W).length<2 ^ 30 /\
 (4:Nat)<=2 ^ 10 /\
 (0:Int)<=a /\
 a<=(M.length:Int) /\
 (List.take a.toNat M).length<2 ^ 30 /\
 (1:Nat)<=2 ^ 10 /\
 R (hd Tryd.f28 0) { env:=[(2,.ptr 2 0),(3,.ptr 3 0),(4,.ptr 4 0),(5,.ptr 5 0),(6,.int .i64 0)],blk:=[(2,.var [.sl u4 W,.sl Sh.bool M,.sl iI L]),(3,.var [.int .i64 a,.int .i64 y]),(4,.var [.nils,.nils,.nils]),(5,.var [.win true u4 17 0 (List.take a.toNat W).length,.win true Sh.bool (26:Nat) (0:Nat) (List.take a.toNat M).length,.nils]),(17,.row 53 u4 (List.take a.toNat W)),(26,.row 4 Sh.bool (List.take a.toNat M))] }):=by kernel_rfl
theorem q1y (W o:List Int) (M p:List Bool) (L:List Int) (a y:Int) (i:Nat) (Q:QT) (R:RT):sy tt G0 ([]:CV) Tryd.f28.ntmps Tryd.f28.results.toList Q (fun it S=>R it (qba [2,3,4,5,6,7] [2,3,4,5,37,42,51,60] S)) 1000 (hd Tryd.f28 0) ⟨[(2,.ptr 2 0),(3,.ptr 3 0),(4,.ptr 4 0),(5,.ptr 5 0),(6,.int .i64 (i:Nat))],[(2,.var [.sl u4 W,.sl .bool M,.sl iI L]),(3,.var [.int .i64 a,.int .i64 y]),(4,.var [.nils,.nils,.nils]),(5,.var [.win true u4 17 0 o.length,.win true .bool 26 0 p.length,.nils]),(17,.row 53 u4 o),(26,.row 4 .bool p)]⟩ =
  (bc (decide ((i:Int)<y)) ((0:Nat)+1<=([(0:Int)]:List u4.D).length /\
 o.length=o.length /\
 (0:Nat)=(0:Nat) /\
 o.length+(([(0:Int)]:List u4.D)).length<2 ^ 30 /\
 (4:Nat)<=2 ^ 10 /\
 (0:Nat)+1<=([false]:List Sh.bool.D).length /\
 p.length=p.length /\
 (0:Nat)=(0:Nat) /\
 p.length+(([false]:List Sh.bool.D)).length<2 ^ 30 /\
 (1:Nat)<=2 ^ 10 /\
 R (hd Tryd.f28 0) { env:=[(2,.ptr 2 0),(3,.ptr 3 0),(4,.ptr 4 0),(5,.ptr 5 0),(6,.int .i64 (IntKind.i64.wrap ((i:Int)+1)))],blk:=[(2,.var [.sl u4 W,.sl Sh.bool M,.sl iI L]),(3,.var [.int .i64 a,.int .i64 y]),(4,.var [.nils,.nils,.nils]),(5,.var [.win true u4 37 0 (o.length+(([(0:Int)]:List u4.D)).length),.win true Sh.bool (42:Nat) (0:Nat) (p.length+(([false]:List Sh.bool.D)).length),.nils]),(37,.row 53 u4 (o++([(0:Int)]:List u4.D))),(42,.row 4 Sh.bool (p++([false]:List Sh.bool.D)))] }) ((0:Int)<=a /\
 a<=(W.length:Int) /\
 o.length=o.length /\
 (0:Nat)=(0:Nat) /\
 o.length+(List.drop a.toNat W).length<2 ^ 30 /\
 (4:Nat)<=2 ^ 10 /\
 (0:Int)<=a /\
 a<=(M.length:Int) /\
 p.length=p.length /\
 (0:Nat)=(0:Nat) /\
 p.length+(List.drop a.toNat M).length<2 ^ 30 /\
 (1:Nat)<=2 ^ 10 /\
 R (hd Tryd.f28 1) { env:=[(2,.ptr 2 0),(3,.ptr 3 0),(4,.ptr 4 0),(5,.ptr 5 0),(6,.int .i64 (i:Int)),(7,.int .i64 0)],blk:=[(2,.var [.sl u4 W,.sl Sh.bool M,.sl iI L]),(3,.var [.int .i64 a,.int .i64 y]),(4,.var [.nils,.nils,.nils]),(5,.var [.win true u4 51 0 (o.length+(List.drop a.toNat W).length),.win true Sh.bool (60:Nat) (0:Nat) (p.length+(List.drop a.toNat M).length),.nils]),(51,.row 53 u4 (o++List.drop a.toNat W)),(60,.row 4 Sh.bool (p++List.drop a.toNat M))] })):=by kernel_rfl
theorem q51 (W o:List Int) (M p:List Bool) (L:List Int) (a y:Int) (Q:QT) (R:RT):sy tt G0 ([]:CV) Tryd.f28.ntmps Tryd.f28.results.toList Q (fun it S=>R it (qba [2,3,4,5,7] [2,3,4,5,51,60,88] S)) 1000 (hd Tryd.f28 1) ⟨[(2,.ptr 2 0),(3,.ptr 3 0),(4,.ptr 4 0),(5,.ptr 5 0),(7,.int .i64 0)],[(2,.var [.sl u4 W,.sl .bool M,.sl iI L]),(3,.var [.int .i64 a,.int .i64 y]),(4,.var [.nils,.nils,.nils]),(5,.var [.win true u4 51 0 o.length,.win true .bool 60 0 p.length,.nils]),(51,.row 53 u4 o),(60,.row 4 .bool p)]⟩ =
  (bc (decide ((0:Int)<(L.length:Int))) ((0:Int)<=0 /\
 (0:Int)<(L.length:Int) /\
 bc (decide (IntKind.i64.wrap ((4:Int)*a)<=gtI L (0))) ((0:Nat)+1<=([(IntKind.i64.wrap (gtI L (0)+IntKind.i64.wrap ((4:Int)*y)))]:List iI.D).length /\
 (([(IntKind.i64.wrap (gtI L (0)+IntKind.i64.wrap ((4:Int)*y)))]:List iI.D)).length<2 ^ 30 /\
 (8:Nat)<=2 ^ 10 /\
 R (hd Tryd.f28 1) { env:=[(2,.ptr 2 0),(3,.ptr 3 0),(4,.ptr 4 0),(5,.ptr 5 0),(7,.int .i64 (IntKind.i64.wrap ((0:Int)+1)))],blk:=[(2,.var [.sl u4 W,.sl Sh.bool M,.sl iI L]),(3,.var [.int .i64 a,.int .i64 y]),(4,.var [.nils,.nils,.nils]),(5,.var [.win true u4 51 0 o.length,.win true Sh.bool (60:Nat) (0:Nat) p.length,.win true iI 88 0 (1:Nat)]),(51,.row 53 u4 o),(60,.row 4 Sh.bool p),(88,.row 3 iI (([(IntKind.i64.wrap (gtI L (0)+IntKind.i64.wrap ((4:Int)*y)))]:List iI.D)))] }) ((0:Nat)+1<=([(gtI L (0))]:List iI.D).length /\
 (([(gtI L (0))]:List iI.D)).length<2 ^ 30 /\
 (8:Nat)<=2 ^ 10 /\
 R (hd Tryd.f28 1) { env:=[(2,.ptr 2 0),(3,.ptr 3 0),(4,.ptr 4 0),(5,.ptr 5 0),(7,.int .i64 (IntKind.i64.wrap ((0:Int)+1)))],blk:=[(2,.var [.sl u4 W,.sl Sh.bool M,.sl iI L]),(3,.var [.int .i64 a,.int .i64 y]),(4,.var [.nils,.nils,.nils]),(5,.var [.win true u4 51 0 o.length,.win true Sh.bool (60:Nat) (0:Nat) p.length,.win true iI 88 0 (1:Nat)]),(51,.row 53 u4 o),(60,.row 4 Sh.bool p),(88,.row 3 iI (([(gtI L (0))]:List iI.D)))] })) (Q [.agg [.win true u4 51 0 o.length,.win true Sh.bool (60:Nat) (0:Nat) p.length,.nils]] [(2,.var [.sl u4 W,.sl Sh.bool M,.sl iI L]),(3,.var [.int .i64 a,.int .i64 y]),(4,.var [.win true u4 51 0 o.length,.win true Sh.bool (60:Nat) (0:Nat) p.length,.nils]),(5,.var [.win true u4 51 0 o.length,.win true Sh.bool (60:Nat) (0:Nat) p.length,.nils]),(51,.row 53 u4 o),(60,.row 4 Sh.bool p)])):=by kernel_rfl
theorem q1z (W o:List Int) (M p:List Bool) (L q:List Int) (a y:Int) (i:Nat) (Q:QT) (R:RT):sy tt G0 ([]:CV) Tryd.f28.ntmps Tryd.f28.results.toList Q (fun it S=>R it (qba [2,3,4,5,7] [2,3,4,5,51,60,88] S)) 1000 (hd Tryd.f28 1) ⟨[(2,.ptr 2 0),(3,.ptr 3 0),(4,.ptr 4 0),(5,.ptr 5 0),(7,.int .i64 (i:Nat))],[(2,.var [.sl u4 W,.sl .bool M,.sl iI L]),(3,.var [.int .i64 a,.int .i64 y]),(4,.var [.nils,.nils,.nils]),(5,.var [.win true u4 51 0 o.length,.win true .bool 60 0 p.length,.win true iI 70 0 q.length]),(51,.row 53 u4 o),(60,.row 4 .bool p),(70,.row 3 iI q)]⟩ =
  (bc (decide ((i:Int)<(L.length:Int))) ((0:Int)<=(i:Int) /\
 (i:Int)<(L.length:Int) /\
 bc (decide (IntKind.i64.wrap ((4:Int)*a)<=gtI L (i:Int).toNat)) ((0:Nat)+1<=([(IntKind.i64.wrap (gtI L (i:Int).toNat+IntKind.i64.wrap ((4:Int)*y)))]:List iI.D).length /\
 q.length=q.length /\
 (0:Nat)=(0:Nat) /\
 q.length+(([(IntKind.i64.wrap (gtI L (i:Int).toNat+IntKind.i64.wrap ((4:Int)*y)))]:List iI.D)).length<2 ^ 30 /\
 (8:Nat)<=2 ^ 10 /\
 R (hd Tryd.f28 1) { env:=[(2,.ptr 2 0),(3,.ptr 3 0),(4,.ptr 4 0),(5,.ptr 5 0),(7,.int .i64 (IntKind.i64.wrap ((i:Int)+1)))],blk:=[(2,.var [.sl u4 W,.sl Sh.bool M,.sl iI L]),(3,.var [.int .i64 a,.int .i64 y]),(4,.var [.nils,.nils,.nils]),(5,.var [.win true u4 51 0 o.length,.win true Sh.bool (60:Nat) (0:Nat) p.length,.win true iI 88 0 (q.length+(([(IntKind.i64.wrap (gtI L (i:Int).toNat+IntKind.i64.wrap ((4:Int)*y)))]:List iI.D)).length)]),(51,.row 53 u4 o),(60,.row 4 Sh.bool p),(88,.row 3 iI (q++([(IntKind.i64.wrap (gtI L (i:Int).toNat+IntKind.i64.wrap ((4:Int)*y)))]:List iI.D)))] }) ((0:Nat)+1<=([(gtI L (i:Int).toNat)]:List iI.D).length /\
 q.length=q.length /\
 (0:Nat)=(0:Nat) /\
 q.length+(([(gtI L (i:Int).toNat)]:List iI.D)).length<2 ^ 30 /\
 (8:Nat)<=2 ^ 10 /\
 R (hd Tryd.f28 1) { env:=[(2,.ptr 2 0),(3,.ptr 3 0),(4,.ptr 4 0),(5,.ptr 5 0),(7,.int .i64 (IntKind.i64.wrap ((i:Int)+1)))],blk:=[(2,.var [.sl u4 W,.sl Sh.bool M,.sl iI L]),(3,.var [.int .i64 a,.int .i64 y]),(4,.var [.nils,.nils,.nils]),(5,.var [.win true u4 51 0 o.length,.win true Sh.bool (60:Nat) (0:Nat) p.length,.win true iI 88 0 (q.length+(([(gtI L (i:Int).toNat)]:List iI.D)).length)]),(51,.row 53 u4 o),(60,.row 4 Sh.bool p),(88,.row 3 iI (q++([(gtI L (i:Int).toNat)]:List iI.D)))] })) (Q [.agg [.win true u4 51 0 o.length,.win true Sh.bool (60:Nat) (0:Nat) p.length,.win true iI 70 0 q.length]] [(2,.var [.sl u4 W,.sl Sh.bool M,.sl iI L]),(3,.var [.int .i64 a,.int .i64 y]),(4,.var [.win true u4 51 0 o.length,.win true Sh.bool (60:Nat) (0:Nat) p.length,.win true iI 70 0 q.length]),(5,.var [.win true u4 51 0 o.length,.win true Sh.bool (60:Nat) (0:Nat) p.length,.win true iI 70 0 q.length]),(51,.row 53 u4 o),(60,.row 4 Sh.bool p),(70,.row 3 iI q)])):=by kernel_rfl
end Go.Proofs.YtplkpodikhfcdaaDoor
namespace Go.Proofs.YtplkpodikhfcdaaDoor
open Go.Px Go.Ax
set_option maxRecDepth 100000
theorem q5q {a b c d:Int} (ha:u8R a) (hb:u8R b) (hc:u8R c) (hd:u8R d):0<=wd a b c d/\wd a b c d<4294967296:=by
 unfold u8R at ha hb hc hd;unfold wd;omega
theorem qmg:∀ (k:Nat) (b:List Int),u8L b->∀ w∈qcv k b,0<=w/\w<4294967296
 | 0,_,_,w,hw=>by cases hw
 | k+1,b,h,w,hw=>by
  rw[qcv] at hw;rcases List.mem_cons.1 hw with e | e
  ·rw[e];exact q5q (h 0) (h 1) (h 2) (h 3)
  ·exact qmg k _ (h.drop 4) w e
theorem qnz (n:Nat):∀ (l:List Int) (i:Nat),(lnkF n i l).length<=l.length
 | [],_=>Nat.le_refl _
 | w::l,i=>by
  have:=qnz n l (i+1);rw[lnkF];split
  ·rw[List.length_cons,List.length_cons];omega
  ·rw[List.length_cons];omega
theorem qxz {b:List Int} {n:Nat} (hb:b.length=4*n) (h8:∀ x∈b,0<=x/\x<256) (hn:n<=12) :
  (qah b).2=0/\(qah b).1.length=n/\(∀ w∈(qah b).1,0<=w/\w<4294967296)/\qfs b:=by
 have e:qah b=(qcv (b.length / 4) b,0):=if_pos (by omega);have hl:(qah b).1.length=n:=by rw[e];show (qcv _ _).length=n;rw[qmh];omega
 have hr:∀ w∈(qah b).1,0<=w/\w<4294967296:=by rw[e];exact qmg _ _ (qr4 h8)
 have hk:(lnk (qah b).1).length<=12:=Nat.le_trans (qnz _ _ _) (by omega);exact ⟨by rw[e],hl,hr,qgj h8 (by omega) hr (by omega) hk⟩
theorem qsw {b:List Int} (h:b.length<=65536) (h0:(qah b).2=0):qad b=⟨(lfV (qah b).1).1,(lfV (qah b).1).2,(tgV (qah b).1).2.1,(tgV (qah b).1).2.2,0⟩:=if_neg (by rintro (q | q);omega;exact q h0)
end Go.Proofs.YtplkpodikhfcdaaDoor
namespace Go.Proofs.YtplkpodikhfcdaaDoor
open Go.Px Go.Ax
set_option maxRecDepth 100000
theorem u8w (n:Int):IntKind.u8.wrap n=n % 256:=rfl
theorem by4_r (w:Int):∀ x∈by4 w,0<=x/\x<256:=fun x h=>by
 have r:∀ n:Int,0<=IntKind.u8.wrap n/\IntKind.u8.wrap n<256:=fun n=>by rw[u8w];omega
 unfold by4 at h;simp only[List.mem_cons,List.not_mem_nil,or_false] at h;rcases h with rfl | rfl | rfl | rfl <;> exact r _
theorem qtb:∀ l,∀ x∈qat l,0<=x/\x<256
 | [],x,h=>by cases h
 | w::l,x,h=>by
  have h:x∈by4 w++qat l:=h;rcases List.mem_append.1 h with h | h
  ·exact by4_r w x h
  ·exact qtb l x h
theorem q5r {w:Int} (h:0<=w/\w<4294967296) (r:List Int):wd (gtB (by4 w++r) 0) (gtB (by4 w++r) 1) (gtB (by4 w++r) 2) (gtB (by4 w++r) 3)=w:=by
 show wd (IntKind.u8.wrap (Int.fdiv w 16777216)) (IntKind.u8.wrap (Int.fdiv w 65536)) (IntKind.u8.wrap (Int.fdiv w 256)) (IntKind.u8.wrap w)=w
 rw[u8w,u8w,u8w,u8w,Int.fdiv_eq_ediv_of_nonneg _ (by decide),Int.fdiv_eq_ediv_of_nonneg _ (by decide),Int.fdiv_eq_ediv_of_nonneg _ (by decide)];unfold wd;omega
theorem qjm:∀ (l:List Int),(∀ w∈l,0<=w/\w<4294967296)->qcv l.length (qat l)=l
 | [],_=>rfl
 | w::l,h=>by
  have e:qat (w::l)=by4 w++qat l:=rfl;rw[List.length_cons,qcv,e,q5r (h w (List.mem_cons_self ..))];have d:(by4 w++qat l).drop 4=qat l:=rfl;rw[d,qjm l fun x hx=>h x (List.mem_cons_of_mem _ hx)]
theorem qog {l:List Int} (h:∀ w∈l,0<=w/\w<4294967296):qah (qat l)=(l,0):=by
 have e:=qgv l;have d:(qat l).length / 4=l.length:=by omega
 unfold qah;rw[if_pos (by omega),d,qjm l h]
theorem q7l (o a b c n t:Int):0<=encW o a b c n t/\encW o a b c n t<4294967296:=by
 unfold encW;split
 ·unfold asmV;exact qkm ..
 ·decide
theorem lkV_r (w t:Int) (l:List Int):0<=(lkV w t l).1/\(lkV w t l).1<4294967296:=by
 unfold lkV;split
 ·decide
 ·exact q7l ..
theorem set_r {l:List Int} {i:Nat} {v:Int} (h:∀ w∈l,0<=w/\w<4294967296) (hv:0<=v/\v<4294967296):∀ w∈l.set i v,0<=w/\w<4294967296:=fun w hw=>by
 rcases List.mem_or_eq_of_mem_set hw with h1 | h1
 ·exact h w h1
 ·rw[h1];exact hv
theorem qwu (m:List Bool) (lab:List Int):∀ (f i:Nat) (o:List Int),(∀ w∈o,0<=w/\w<4294967296)->i+f<=o.length ->
  (∀ w∈(loF m lab f i o).1,0<=w/\w<4294967296)/\((loF m lab f i o).2=0->(loF m lab f i o).1.length=o.length/\∀ j,gtM m j=false->gtW (loF m lab f i o).1 j=gtW o j)
 | 0,i,o,h,_=>⟨h,fun _=>⟨rfl,fun _ _=>rfl⟩⟩
 | f+1,i,o,h,hi=>by
  rw[loF];split
  ·rename_i hm;split
   ·rename_i h2;exact ⟨fun w hw=>(by cases hw),fun q=>absurd q h2⟩
   ·obtain ⟨a1,a2⟩:=qwu m lab f (i+1) (o.set i (lkV (gtW o i) (4*i) lab).1) (set_r h (lkV_r ..)) (by rw[List.length_set];omega);refine ⟨a1,fun q=>?_⟩;obtain ⟨b1,b2⟩:=a2 q;refine ⟨by rw[b1,List.length_set],fun j hj=>?_⟩;rw[b2 j hj,qxe (by omega),if_neg];intro e;rw[e,hm] at hj;cases hj
  ·exact qwu m lab f (i+1) o h (by omega)
theorem q69 {w:List Int} {m:List Bool} {lab:List Int} (h:∀ x∈w,0<=x/\x<4294967296) :
  (∀ x∈(loV w m lab).1,0<=x/\x<4294967296)/\((loV w m lab).2=0->(loV w m lab).1.length=w.length/\∀ j,gtM m j=false->gtW (loV w m lab).1 j=gtW w j):=by
 unfold loV;split
 ·exact ⟨fun x hx=>(by cases hx),fun q=>(by cases q)⟩
 ·rename_i h2;exact qwu m lab m.length 0 w h (by omega)
theorem q7d (n i:Nat):isLk n 0 i=false:=by
 unfold isLk;have:dbV (opV 0)=0:=by decide
 rw[this];rfl
theorem qww (n:Nat):∀ (l:List Int) (i:Nat),(lnkF n i l).length<=l.countP (fun w=>decide (w≠0))
 | [],_=>Nat.le_refl _
 | w::l,i=>by
  have:=qww n l (i+1);rw[lnkF,List.countP_cons];split
  ·rename_i h;have hw:w≠0:=fun q=>by rw[q,q7d] at h;cases h
   rw[decide_eq_true hw,List.length_cons]
   show _+1<=_+1
   omega
  ·omega
theorem q07 {l:List Int} {a b:Nat} (h:∀ j,a<=j->j<a+b->gtW l j=0) (hl:a+b<=l.length):l.countP (fun w=>decide (w≠0))+b<=l.length:=by
 have e:l=l.take a++((l.drop a).take b++l.drop (a+b)):=by
  rw[<- List.drop_drop,List.take_append_drop,List.take_append_drop]
 have hz:((l.drop a).take b).countP (fun w=>decide (w≠0))=0:=by
  rw[List.countP_eq_zero];intro x hx;obtain ⟨j,hj,ej⟩:=List.getElem_of_mem hx;rw[List.length_take,List.length_drop] at hj;rw[List.getElem_take,List.getElem_drop] at ej;have:=h (a+j) (by omega) (by omega);rw[qfd (by omega)] at this;rw[<- ej,this];decide
 have c1:(l.take a).countP (fun w=>decide (w≠0))<=(l.take a).length:=List.countP_le_length;have c2:(l.drop (a+b)).countP (fun w=>decide (w≠0))<=(l.drop (a+b)).length:=List.countP_le_length;have et:l.countP (fun w=>decide (w≠0))=(l.take a).countP (fun w=>decide (w≠0))+(((l.drop a).take b).countP (fun w=>decide (w≠0))+(l.drop (a+b)).countP (fun w=>decide (w≠0))):=by
  rw[<- List.countP_append,<- List.countP_append,<- e]
 rw[List.length_take] at c1;rw[List.length_drop] at c2;omega
end Go.Proofs.YtplkpodikhfcdaaDoor
namespace Go.Proofs.YtplkpodikhfcdaaDoor
open Go.Px Go.Ax
set_option maxRecDepth 100000
theorem qsl {α:Type} {l:List α} {a b j:Nat} {z:α} (ha:a<=l.length) (h1:a<=j) (h2:j<a+b):(putF l a b z)[j]?=some z:=by
 unfold putF;rw[List.getElem?_append_left (by simp;omega),List.getElem?_append_right (by simp;omega),List.length_take,List.getElem?_replicate,if_pos (by omega)]
theorem qzk {α:Type} {l:List α} {a b:Nat} {z x:α} (h:x∈putF l a b z):x∈l\/x=z:=by
 unfold putF at h;rcases List.mem_append.1 h with h | h
 ·rcases List.mem_append.1 h with h | h
  ·exact .inl (List.mem_of_mem_take h)
  ·exact .inr (List.eq_of_mem_replicate h)
 ·exact .inl (List.mem_of_mem_drop h)
theorem lfV_r {l:List Int} (h:∀ w∈l,0<=w/\w<4294967296):∀ w∈(lfV l).1,0<=w/\w<4294967296:=fun w hw=>by
 obtain ⟨f1,f2,f3⟩:=qw0 l;obtain ⟨i,hi,e⟩:=List.getElem_of_mem hw;obtain ⟨m1,m2,m3⟩:=f3 i (by omega);have eg:gtW (lfV l).1 i=w:=by rw[qfd hi,e]
 rw[<- eg]
 cases hk:isLk l.length l[i] i with
 | false=>rw[m2 hk];exact h _ (List.getElem_mem _)
 | true=>rw[(m3 hk).1];unfold lfW;exact qkm ..
theorem q7b (l:List Int):∀ x∈qb7 l,0<=x/\x<4*(l.length:Int):=fun x hx=>by
 obtain ⟨g1,g2,g3,g4⟩:=qn1 l;obtain ⟨i,hi,e⟩:=List.getElem_of_mem hx;obtain ⟨r,hr,er⟩:=List.mem_map.1 ((g4 x).1 ⟨i,hi,by rw[qel hi,e]⟩);obtain ⟨j,hj,e1,e2⟩:=(qgq l 0 r).1 hr;simp only[Nat.zero_add] at e1 e2;unfold isLk at e2;rw[Bool.and_eq_true,Bool.and_eq_true,decide_eq_true_iff,decide_eq_true_iff,decide_eq_true_iff] at e2;rw[<- er,e1];exact e2.2
theorem mvF_r {f b x:Int} {n:Int} (hx:0<=x/\x<n) (hb:0<=b/\b<1000000) (hn:n<=1000000):mvF f b x=if f<=x then x+b else x:=by
 unfold mvF;rw[IntWalk.i64_in _ (by omega)]
theorem q64 {b:List Int} {n:Nat} (hb:b.length=4*n) (h8:∀ x∈b,0<=x/\x<256) (hn:n<=12) {a k:Nat} (ha:a<=n) (hk:k<=9) :
  qkg b a k/\(qaj b a k=([],30)\/∃ ws:List Int,qaj b a k=(qat ws,0)/\(∀ w∈ws,0<=w/\w<4294967296)/\ws.length=n+k/\(lnk ws).length<=12 /\
   qn0 ws=(putF (lfV (qah b).1).1 a k 0,putF (lfV (qah b).1).2 a k false,List.map (mvF (4*(a:Int)) (4*(k:Int))) (qb7 (qah b).1)) /\
   ws=(loV (putF (lfV (qah b).1).1 a k 0) (putF (lfV (qah b).1).2 a k false) (List.map (mvF (4*(a:Int)) (4*(k:Int))) (qb7 (qah b).1))).1 /\
   (loV (putF (lfV (qah b).1).1 a k 0) (putF (lfV (qah b).1).2 a k false) (List.map (mvF (4*(a:Int)) (4*(k:Int))) (qb7 (qah b).1))).2=0):=by
 obtain ⟨c1,c2,c3,c4⟩:=qxz hb h8 hn;have el:=qsw (b:=b) (by omega) c1;obtain ⟨f1,f2,f3⟩:=qw0 (qah b).1;have hx:movX b a k=(putF (lfV (qah b).1).1 a k 0,putF (lfV (qah b).1).2 a k false,List.map (mvF (4*(a:Int)) (4*(k:Int))) (qb7 (qah b).1)):=by
  unfold movX;rw[el,Int.toNat_natCast,Int.toNat_natCast,IntWalk.i64_in (4*(a:Int)) (by omega),IntWalk.i64_in (4*(k:Int)) (by omega)];rfl
 have hlr:=q7b (qah b).1;have hw:∀ x∈putF (lfV (qah b).1).1 a k 0,0<=x/\x<4294967296:=fun x hx=>by
  rcases qzk hx with h | h
  ·exact lfV_r c3 x h
  ·rw[h];decide
 have hl:∀ x∈List.map (mvF (4*(a:Int)) (4*(k:Int))) (qb7 (qah b).1),-1073741824<=x/\x<=1073741824:=fun x hx=>by
  obtain ⟨y,hy,e⟩:=List.mem_map.1 hx;have:=hlr y hy;rw[mvF_r (n:=4*((qah b).1.length:Int)) this (by omega) (by omega)] at e;rw[<- e];split <;> omega
 generalize hW:putF (lfV (qah b).1).1 a k 0=W at *;generalize hM:putF (lfV (qah b).1).2 a k false=M at *;generalize hL:List.map (mvF (4*(a:Int)) (4*(k:Int))) (qb7 (qah b).1)=L at *;have lW:W.length=n+k:=by rw[<- hW,qh6 _ _ _ _ (by omega)];omega
 obtain ⟨v1,v2⟩:=q69 (m:=M) (lab:=L) hw;have hlnk:(loV W M L).2=0->(lnk (loV W M L).1).length<=12:=fun q=>by
  obtain ⟨v3,v4⟩:=v2 q
  have:=q07 (l:=(loV W M L).1) (a:=a) (b:=k) (fun j h1 h2=>by
   rw[v4 j (by
    rw[<- hM]
    show gt Sh.bool _ _=_
    unfold gt
    rw[qsl (by omega) h1 h2];rfl),<- hW]
   show gt u4 _ _=_
   unfold gt
   rw[qsl (by omega) h1 h2];rfl) (by omega)
  have h2:=qww (loV W M L).1.length (loV W M L).1 0
  show (lnkF _ _ _).length<=12
  omega
 have plo:qe0 W M L:=⟨⟨q12 hw,q2j hl⟩,fun q=>qnp v1 (by have:=(v2 q).1;omega) (hlnk q)⟩;refine ⟨⟨c4,fun _=>by rw[hx];exact plo⟩,?_⟩;have hok:okM b a k:=by
  refine ⟨by rw[el],by omega,?_,by omega,?_⟩ <;> rw[el] <;> show _<=_ <;> (try (show (_:Int)<=((lfV (qah b).1).1.length:Int))) <;> (try (show (_:Int)<=16384-((lfV (qah b).1).1.length:Int))) <;> omega
 have hv:qaj b a k=qa5 W M L:=by
  unfold qaj;rw[if_pos hok,hx]
 by_cases q:(loV W M L).2≠0\/qn0 (loV W M L).1≠(W,M,L)
 ·exact .inl (by rw[hv];exact if_pos q)
 ·have q0:(loV W M L).2=0:=Decidable.not_not.1 fun h=>q (.inl h)
  have q1:qn0 (loV W M L).1=(W,M,L):=Decidable.not_not.1 fun h=>q (.inr h)
  exact .inr ⟨(loV W M L).1,by rw[hv];exact if_neg q,v1,by rw[(v2 q0).1];exact lW,hlnk q0,q1,rfl,q0⟩
end Go.Proofs.YtplkpodikhfcdaaDoor
namespace Go.Proofs.YtplkpodikhfcdaaDoor
open Go.Px Go.Ax
set_option maxRecDepth 100000
attribute [local irreducible] Go.Px.sy Go.Px.syE
abbrev moW (W:List Int) (a y:Int):List Int:=putF W a.toNat y.toNat 0
abbrev moM (M:List Bool) (a y:Int):List Bool:=putF M a.toNat y.toNat false
abbrev moL (L:List Int) (a y:Int):List Int:=L.map (mvF (IntKind.i64.wrap (4*a)) (IntKind.i64.wrap (4*y)))
def qqx (W:List Int) (M:List Bool) (L:List Int) (a y:Int):Prop:=0<=a/\a<=W.length/\a<=M.length/\0<=y/\y<=1000/\W.length<1000000/\M.length<1000000/\L.length<1000000
def ctMo:Ctr:=⟨[liS,shS],fun x=>qqx x.1.1 x.1.2.1 x.1.2.2 x.2.1.1 x.2.1.2,
 fun x=>[.agg [.win false u4 0 0 (List.length (moW x.1.1 x.2.1.1 x.2.1.2)),.win false .bool 1 0 (List.length (moM x.1.2.1 x.2.1.1 x.2.1.2)),.win false iI 2 0 (List.length (moL x.1.2.2 x.2.1.1 x.2.1.2))]],
 fun x=>[.row 53 u4 (moW x.1.1 x.2.1.1 x.2.1.2),.row 4 .bool (moM x.1.2.1 x.2.1.1 x.2.1.2),.row 3 iI (moL x.1.2.2 x.2.1.1 x.2.1.2)]⟩
theorem qzh {ct:Ctr} {x:DL ct.args} {rs:List SV} {blk:List (Nat × LB)} {a b:Nat} {A B:LB} (hab:a≠b) (hA:isRow A=true) (hB:isRow B=true) (hr:ct.rows x=[A,B,.row 3 iI ([]:List Int)])
  (hs:∀ π:Nat->Option Nat,π 0=some a->π 1=some b->π 2=none->MtL π (ct.out x) rs) (ha:lk blk a=some A) (hb:lk blk b=some B):QC ct x rs blk:=by
 refine ⟨fun i=>if i=0 then some a else if i=1 then some b else none,hs _ rfl rfl rfl,?_,fun i j y h1 h2=>?_,by rw[hr];have h3:isRow (.row 3 iI ([]:List Int))=true:=rfl;simp[hA,hB,h3]⟩
 ·rw[hr];exact ⟨.inl ⟨a,rfl,ha⟩,.inl ⟨b,rfl,hb⟩,.inr ⟨rfl,_,_,rfl,by decide⟩,trivial⟩
 ·have key:∀ i y,(if i=0 then some a else if i=1 then some b else none)=some y->(i=0/\y=a)\/(i=1/\y=b):=by
   intro i y h;by_cases h0:i=0
   ·rw[if_pos h0] at h;exact .inl ⟨h0,(Option.some.inj h).symm⟩
   ·rw[if_neg h0] at h;by_cases h1:i=1
    ·rw[if_pos h1] at h;exact .inr ⟨h1,(Option.some.inj h).symm⟩
    ·rw[if_neg h1] at h;cases h
  rcases key i y h1 with ⟨p,q⟩ | ⟨p,q⟩ <;> rcases key j y h2 with ⟨r,s⟩ | ⟨r,s⟩ <;> first | omega | exact absurd (q.symm.trans s) ‹_› | exact absurd (s.symm.trans q) ‹_›
section
variable (W:List Int) (M:List Bool) (L:List Int) (a y:Int)
abbrev moQ:List SV->List (Nat × LB)->Prop:=QC ctMo ((W,M,L),(a,y),())
abbrev moV (o:List Int) (p:List Bool) (q:SV):List (Nat × LB):=[(2,.var [.sl u4 W,.sl .bool M,.sl iI L]),(3,.var [.int .i64 a,.int .i64 y]),(4,.var [.nils,.nils,.nils]),(5,.var [.win true u4 51 0 o.length,.win true .bool 60 0 p.length,q]),(51,.row 53 u4 o),(60,.row 4 .bool p)]
theorem qzz (hp:qqx W M L a y):∀ (k i:Nat) (q:List Int),L.length-i=k->i<=L.length->q=(L.take i).map (mvF (IntKind.i64.wrap (4*a)) (IntKind.i64.wrap (4*y))) ->
  GD 28 Tryd.f28 (moQ W M L a y) (hd Tryd.f28 1) ⟨[(2,.ptr 2 0),(3,.ptr 3 0),(4,.ptr 4 0),(5,.ptr 5 0),(7,.int .i64 (i:Nat))],moV W M L a y (moW W a y) (moM M a y) (.win true iI 70 0 q.length)++[(70,.row 3 iI q)]⟩:=by
 obtain ⟨p1,p2,p3,p4,p5,p6,p7,p8⟩:=hp;intro k
 induction k with
 | zero=>
  intro i q hk hi hq;have hi:i=L.length:=by omega
  subst hi;rw[List.take_length] at hq;refine qaq (CxOK.nil ty mixed) (q1z W (moW W a y) M (moM M a y) L q a y L.length _ _) ?_;rw[decide_eq_false (by omega),bc_f];subst hq;refine qqq (ct:=ctMo) (x:=((W,M,L),(a,y),())) (a:=51) (b:=60) (c:=70) (by decide) (by decide) (by decide) (A:=.row 53 u4 (moW W a y)) (B:=.row 4 .bool (moM M a y)) (C:=.row 3 iI (moL L a y)) rfl rfl rfl rfl (fun π h0 h1 h2=>?_) rfl rfl rfl;exact qe5 (qo8 (qdm h0 (qdm h1 (qdm h2 qdn)))) qdn
 | succ k ih=>
  intro i q hk hi hq;have hil:i<L.length:=by omega
  have hql:q.length=i:=by rw[hq,List.length_map,List.length_take];omega
  refine qaq (CxOK.nil ty mixed) (q1z W (moW W a y) M (moM M a y) L q a y i _ _) ?_;rw[decide_eq_true (show (i:Int)<(L.length:Int) by omega),bc_t,Int.toNat_natCast,qel hil,IntWalk.i64_in ((i:Int)+1) (by omega)];have nx:=fun v (hv:v=mvF (IntKind.i64.wrap (4*a)) (IntKind.i64.wrap (4*y)) L[i])=>ih (i+1) (q++[v]) (by omega) (by omega) (by rw[List.take_succ_eq_append_getElem hil,List.map_append,hq,hv];rfl)
  refine ⟨by omega,by omega,qau (fun h=>?_) (fun h=>?_)⟩
  ·refine ⟨Nat.le_refl 1,rfl,rfl,(show q.length+1<2 ^ 30 by omega),by decide,(nx (IntKind.i64.wrap (L[i]+IntKind.i64.wrap (4*y))) (if_pos (of_decide_eq_true h)).symm).onlyR [(70,88)] rfl ⟨rfl,rfl,rfl,rfl,rfl,trivial⟩ ⟨rfl,rfl,rfl,?_,rfl,rfl,rfl,trivial⟩⟩;rw[List.length_append];rfl
  ·refine ⟨Nat.le_refl 1,rfl,rfl,(show q.length+1<2 ^ 30 by omega),by decide,(nx L[i] (if_neg (of_decide_eq_false h)).symm).onlyR [(70,88)] rfl ⟨rfl,rfl,rfl,rfl,rfl,trivial⟩ ⟨rfl,rfl,rfl,?_,rfl,rfl,rfl,trivial⟩⟩;rw[List.length_append];rfl
theorem qz0 (hp:qqx W M L a y):GD 28 Tryd.f28 (moQ W M L a y) (hd Tryd.f28 1) ⟨[(2,.ptr 2 0),(3,.ptr 3 0),(4,.ptr 4 0),(5,.ptr 5 0),(7,.int .i64 0)],moV W M L a y (moW W a y) (moM M a y) .nils⟩:=by
 have hp':=hp;obtain ⟨p1,p2,p3,p4,p5,p6,p7,p8⟩:=hp;refine qaq (CxOK.nil ty mixed) (q51 W (moW W a y) M (moM M a y) L a y _ _) ?_;refine qau (fun h=>?_) (fun h=>?_)
 ·have h:(0:Int)<(L.length:Int):=of_decide_eq_true h;have hil:0<L.length:=by omega
  have nx:=fun v (hv:v=mvF (IntKind.i64.wrap (4*a)) (IntKind.i64.wrap (4*y)) L[0])=>qzz W M L a y hp' _ 1 [v] rfl (by omega) (by
   have e1:L.take 1=[L[0]]:=by rw[List.take_succ_eq_append_getElem hil];rfl
   rw[e1,hv];rfl)
  rw[qel hil];refine ⟨by omega,by omega,qau (fun h=>?_) (fun h=>?_)⟩
  ·exact ⟨Nat.le_refl 1,(show 1<2 ^ 30 by decide),by decide,(nx (IntKind.i64.wrap (L[0]+IntKind.i64.wrap (4*y))) (if_pos (of_decide_eq_true h)).symm).onlyR [(70,88)] rfl ⟨rfl,rfl,rfl,rfl,rfl,trivial⟩ ⟨rfl,rfl,rfl,rfl,rfl,rfl,rfl,trivial⟩⟩
  ·exact ⟨Nat.le_refl 1,(show 1<2 ^ 30 by decide),by decide,(nx L[0] (if_neg (of_decide_eq_false h)).symm).onlyR [(70,88)] rfl ⟨rfl,rfl,rfl,rfl,rfl,trivial⟩ ⟨rfl,rfl,rfl,rfl,rfl,rfl,rfl,trivial⟩⟩
 ·have h:¬ (0:Int)<(L.length:Int):=of_decide_eq_false h;have e:L=[]:=List.eq_nil_of_length_eq_zero (by omega);subst e;exact qzh (ct:=ctMo) (x:=((W,M,[]),(a,y),())) (a:=51) (b:=60) (by decide) (A:=.row 53 u4 (moW W a y)) (B:=.row 4 .bool (moM M a y)) rfl rfl rfl (fun π h0 h1 h2=>qe5 (qo8 (qdm h0 (qdm h1 (qkj h2 qdn)))) qdn) rfl rfl
theorem qzy (hp:qqx W M L a y):∀ (k i:Nat),y.toNat-i=k->i<=y.toNat ->
  GD 28 Tryd.f28 (moQ W M L a y) (hd Tryd.f28 0) ⟨[(2,.ptr 2 0),(3,.ptr 3 0),(4,.ptr 4 0),(5,.ptr 5 0),(6,.int .i64 (i:Nat))],[(2,.var [.sl u4 W,.sl .bool M,.sl iI L]),(3,.var [.int .i64 a,.int .i64 y]),(4,.var [.nils,.nils,.nils]),(5,.var [.win true u4 17 0 (W.take a.toNat++List.replicate i 0).length,.win true .bool 26 0 (M.take a.toNat++List.replicate i false).length,.nils]),(17,.row 53 u4 (W.take a.toNat++List.replicate i 0)),(26,.row 4 .bool (M.take a.toNat++List.replicate i false))]⟩:=by
 have hp':=hp;obtain ⟨p1,p2,p3,p4,p5,p6,p7,p8⟩:=hp;intro k
 induction k with
 | zero=>
  intro i hk hi;have hi:i=y.toNat:=by omega
  subst hi;refine qaq (CxOK.nil ty mixed) (q1y W (W.take a.toNat++List.replicate y.toNat 0) M (M.take a.toNat++List.replicate y.toNat false) L a y y.toNat _ _) ?_;rw[decide_eq_false (by omega),bc_f];have l1:(W.take a.toNat++List.replicate y.toNat 0).length+(W.drop a.toNat).length<2 ^ 30:=by simp;omega
  have l2:(M.take a.toNat++List.replicate y.toNat false).length+(M.drop a.toNat).length<2 ^ 30:=by simp;omega
  refine ⟨p1,p2,rfl,rfl,l1,by decide,p1,p3,rfl,rfl,l2,by decide,?_⟩;refine (qz0 W M L a y hp').only ⟨rfl,rfl,rfl,rfl,rfl,trivial⟩ ⟨rfl,rfl,rfl,?_,rfl,rfl,trivial⟩;rw[<- List.length_append,<- List.length_append];rfl
 | succ k ih=>
  intro i hk hi;refine qaq (CxOK.nil ty mixed) (q1y W (W.take a.toNat++List.replicate i 0) M (M.take a.toNat++List.replicate i false) L a y i _ _) ?_;rw[decide_eq_true (show (i:Int)<y by omega),bc_t,IntWalk.i64_in ((i:Int)+1) (by omega)];have l1:(W.take a.toNat++List.replicate i 0).length+1<2 ^ 30:=by simp;omega
  have l2:(M.take a.toNat++List.replicate i false).length+1<2 ^ 30:=by simp;omega
  have nx:=ih (i+1) (by omega) (by omega);rw[List.replicate_succ',List.replicate_succ',<- List.append_assoc,<- List.append_assoc] at nx;refine ⟨Nat.le_refl 1,rfl,rfl,l1,by decide,Nat.le_refl 1,rfl,rfl,l2,by decide,?_⟩;refine nx.onlyR [(17,37),(26,42)] rfl ⟨rfl,rfl,rfl,rfl,rfl,trivial⟩ ⟨rfl,rfl,rfl,?_,rfl,rfl,trivial⟩;rw[List.length_append (bs:=[(0:Int)]),List.length_append (bs:=[false])];rfl
end
theorem q4s:Held Tryd.prog G0 28 ctMo:=by
 refine Held.of (CxOK.nil ty mixed) (fn:=Tryd.f28) rfl rfl ⟨by decide,by decide⟩ ?_;rintro ⟨⟨W,M,L⟩,⟨a,y⟩,⟨⟩⟩ hp;have hp':qqx W M L a y:=hp;obtain ⟨p1,p2,p3,p4,p5,p6,p7,p8⟩:=hp';refine qaq (CxOK.nil ty mixed) (q50 W M L a y _ _) ?_;have l1:(W.take a.toNat).length<2 ^ 30:=by simp;omega
 have l2:(M.take a.toNat).length<2 ^ 30:=by simp;omega
 refine ⟨p1,p2,l1,by decide,p1,p3,l2,by decide,?_⟩;have nx:=qzy W M L a y ⟨p1,p2,p3,p4,p5,p6,p7,p8⟩ _ 0 rfl (Nat.zero_le _);rw[List.replicate_zero,List.replicate_zero,List.append_nil,List.append_nil] at nx;exact nx.only ⟨rfl,rfl,rfl,rfl,rfl,trivial⟩ ⟨rfl,rfl,rfl,rfl,rfl,rfl,trivial⟩
end Go.Proofs.YtplkpodikhfcdaaDoor
