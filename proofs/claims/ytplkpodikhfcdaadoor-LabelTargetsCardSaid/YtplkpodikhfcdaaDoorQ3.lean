/-
  A part of the proof: what pieces of the program give; conditions: those of each theorem.
-/
import Derived.Test.YtplkpodikhfcdaaDoorQ2
import Derived.Test.YtplkpodikhfcdaaDoorQ1
import Derived.Test.YtplkpodikhfcdaaDoorHD
set_option linter.unusedVariables false
set_option linter.unusedSimpArgs false
namespace Go.Proofs.YtplkpodikhfcdaaDoor
open Go.Px Go.Ax
set_option maxRecDepth 100000
def CRd:CV:=[(60,.inl ctSg),(71,.inl ctWrd)]
theorem cxRd:CxOK Tryd.prog tt G0 CRd:=(cx0.cons qx9 (fn:=Tryd.f71) rfl rfl rfl).cons q3l (fn:=Tryd.f60) rfl rfl rfl
set_option maxRecDepth 100000
theorem quu (w a:Int) (Q:QT) (R:RT):sy tt G0 CRd Tryd.f34.ntmps Tryd.f34.results.toList Q (fun it S=>R it (qbd [1,4,5,6,7,8,9,10,33] [4,10] S)) 12 [.code (qah Tryd.f34)] (entry [.int .u32,.int .i64] (w,a,())) =
  ((0:Int)<=24 /\
 (0:Int)<=16 /\
 (0:Int)<=8 /\
 R (midI 12 [] [Item.code (qah Tryd.f34)]) { env:=[(1,.int .i64 a),(4,.ptr 4 0),(5,.int .i64 (IntKind.i64.wrap (w.fdiv ((2:Int) ^ min (24) IntKind.u32.bits)))),(6,.int .i64 (IntKind.i64.wrap (bitI BinOp.and IntKind.u32 (w.fdiv ((2:Int) ^ min (16) IntKind.u32.bits)) (255:Int)))),(7,.int .i64 (IntKind.i64.wrap (bitI BinOp.and IntKind.u32 (w.fdiv ((2:Int) ^ min (8) IntKind.u32.bits)) (255:Int)))),(8,.int .i64 (IntKind.i64.wrap (bitI BinOp.and IntKind.u32 w (255:Int)))),(9,.int .i64 (IntKind.i64.wrap (IntKind.i64.wrap ((256:Int)*IntKind.i64.wrap (bitI BinOp.and IntKind.u32 (w.fdiv ((2:Int) ^ min (8) IntKind.u32.bits)) (255:Int)))+IntKind.i64.wrap (bitI BinOp.and IntKind.u32 w (255:Int))))),(10,.ptr 10 0),(33,.int .i64 (IntKind.i64.wrap (w.fdiv ((2:Int) ^ min (24) IntKind.u32.bits))))],blk:=[(4,.var [.int .i64 0,.int .i64 0,.int .i64 0,.int .i64 0,.int .i64 0]),(10,.var [.int .i64 0,.int .i64 0,.int .i64 0,.int .i64 0,.int .i64 (IntKind.i64.wrap w)])] }):=by kernel_rfl
def qao (o a b1 lo n:Int):List (Nat × LB):=[(4,.var [.int .i64 o,.int .i64 b1,.int .i64 0,.int .i64 0,.int .i64 (IntKind.i64.wrap (a+IntKind.i64.wrap ((4:Int)*sgV lo (16:Int))))]),(10,.var [.int .i64 0,.int .i64 0,.int .i64 0,.int .i64 0,.int .i64 n]),(11,.var [.int .i64 o,.int .i64 b1,.int .i64 0,.int .i64 0,.int .i64 (IntKind.i64.wrap (a+IntKind.i64.wrap ((4:Int)*sgV lo (16:Int))))])]
def qag (o a b1 lo n:Int):List (Nat × LB):=[(4,.var [.int .i64 o,.int .i64 b1,.int .i64 0,.int .i64 0,.int .i64 (IntKind.i64.wrap (a+IntKind.i64.wrap ((4:Int)*lo)))]),(10,.var [.int .i64 0,.int .i64 0,.int .i64 0,.int .i64 0,.int .i64 n]),(11,.var [.int .i64 o,.int .i64 b1,.int .i64 0,.int .i64 0,.int .i64 (IntKind.i64.wrap (a+IntKind.i64.wrap ((4:Int)*lo)))])]
def qan (o b1 lo n:Int):List (Nat × LB):=[(4,.var [.int .i64 o,.int .i64 b1,.int .i64 0,.int .i64 0,.int .i64 lo]),(10,.var [.int .i64 0,.int .i64 0,.int .i64 0,.int .i64 0,.int .i64 n]),(11,.var [.int .i64 o,.int .i64 b1,.int .i64 0,.int .i64 0,.int .i64 lo])]
def qb1 (o a b1 lo n:Int):List (Nat × LB):=[(4,.var [.int .i64 o,.int .i64 0,.int .i64 0,.int .i64 0,.int .i64 (IntKind.i64.wrap (a+IntKind.i64.wrap ((4:Int)*sgV (IntKind.i64.wrap (IntKind.i64.wrap ((65536:Int)*b1)+lo)) (24:Int))))]),(10,.var [.int .i64 0,.int .i64 0,.int .i64 0,.int .i64 0,.int .i64 n])]
def qad (n:Int):List (Nat × LB):=[(4,.var [.int .i64 0,.int .i64 0,.int .i64 0,.int .i64 0,.int .i64 n]),(10,.var [.int .i64 0,.int .i64 0,.int .i64 0,.int .i64 0,.int .i64 n])]
def qe4 (o b1 b2 b3 n:Int):List (Nat × LB):=[(4,.var [.int .i64 o,.int .i64 b1,.int .i64 b2,.int .i64 b3,.int .i64 0]),(10,.var [.int .i64 0,.int .i64 0,.int .i64 0,.int .i64 0,.int .i64 n])]
theorem qkn (o a b1 b2 b3 lo k n:Int) (Q:QT) (R:RT):sy tt G0 CRd Tryd.f34.ntmps Tryd.f34.results.toList Q R 1000 (midI 12 [] [.code (qah Tryd.f34)]) ⟨[(1,.int .i64 a),(4,.ptr 4 0),(5,.int .i64 o),(6,.int .i64 b1),(7,.int .i64 b2),(8,.int .i64 b3),(9,.int .i64 lo),(10,.ptr 10 0),(33,.int .i64 k)],[(4,.var [.int .i64 0,.int .i64 0,.int .i64 0,.int .i64 0,.int .i64 0]),(10,.var [.int .i64 0,.int .i64 0,.int .i64 0,.int .i64 0,.int .i64 n])]⟩ =
  (bc (decide (k=(1:Int))) (bc (decide (k=(1:Int))) (bc (decide ((15:Int)<b1)) (true=true /\
 true=true /\
 Q [.agg [.int .i64 0,.int .i64 0,.int .i64 0,.int .i64 0,.int .i64 n]] (qad n)) (bc (bif false then true else decide ((15:Int)<b2)) (true=true /\
 Q [.agg [.int .i64 0,.int .i64 0,.int .i64 0,.int .i64 0,.int .i64 n]] (qad n)) (bc (bif false then true else decide ((15:Int)<b3)) (Q [.agg [.int .i64 0,.int .i64 0,.int .i64 0,.int .i64 0,.int .i64 n]] (qad n)) (Q [.agg [.int .i64 o,.int .i64 b1,.int .i64 b2,.int .i64 b3,.int .i64 0]] (qe4 o b1 b2 b3 n))))) (bc (decide (k=(5:Int))) (bc (decide (k=(5:Int))) (ctSg.pre (IntKind.i64.wrap (IntKind.i64.wrap ((65536:Int)*b1)+lo),(24:Int),()) /\
 Q [.agg [.int .i64 o,.int .i64 0,.int .i64 0,.int .i64 0,.int .i64 (IntKind.i64.wrap (a+IntKind.i64.wrap ((4:Int)*sgV (IntKind.i64.wrap (IntKind.i64.wrap ((65536:Int)*b1)+lo)) (24:Int))))]] (qb1 o a b1 lo n)) (bc (decide (k=(2:Int))) (bc (decide (k=(2:Int))) (bc (decide ((15:Int)<b1)) (Q [.agg [.int .i64 0,.int .i64 0,.int .i64 0,.int .i64 0,.int .i64 n]] (qad n)) (bc (decide (o=(7:Int))) (ctSg.pre (lo,(16:Int),()) /\
 bc (decide (o=(8:Int))) (Q [.agg [.int .i64 o,.int .i64 b1,.int .i64 0,.int .i64 0,.int .i64 (IntKind.i64.wrap (a+IntKind.i64.wrap ((4:Int)*lo)))]] (qag o a b1 lo n)) (Q [.agg [.int .i64 o,.int .i64 b1,.int .i64 0,.int .i64 0,.int .i64 (IntKind.i64.wrap (a+IntKind.i64.wrap ((4:Int)*sgV lo (16:Int))))]] (qao o a b1 lo n))) (bc (decide (o=(8:Int))) (Q [.agg [.int .i64 o,.int .i64 b1,.int .i64 0,.int .i64 0,.int .i64 (IntKind.i64.wrap (a+IntKind.i64.wrap ((4:Int)*lo)))]] (qag o a b1 lo n)) (Q [.agg [.int .i64 o,.int .i64 b1,.int .i64 0,.int .i64 0,.int .i64 lo]] (qan o b1 lo n))))) (Q [.agg [.int .i64 0,.int .i64 0,.int .i64 0,.int .i64 0,.int .i64 n]] (qad n))) (bc (decide (k=(7:Int))) (bc (decide (k=(7:Int))) (bc (decide ((15:Int)<b1)) (Q [.agg [.int .i64 0,.int .i64 0,.int .i64 0,.int .i64 0,.int .i64 n]] (qad n)) (bc (decide (o=(7:Int))) (ctSg.pre (lo,(16:Int),()) /\
 bc (decide (o=(8:Int))) (Q [.agg [.int .i64 o,.int .i64 b1,.int .i64 0,.int .i64 0,.int .i64 (IntKind.i64.wrap (a+IntKind.i64.wrap ((4:Int)*lo)))]] (qag o a b1 lo n)) (Q [.agg [.int .i64 o,.int .i64 b1,.int .i64 0,.int .i64 0,.int .i64 (IntKind.i64.wrap (a+IntKind.i64.wrap ((4:Int)*sgV lo (16:Int))))]] (qao o a b1 lo n))) (bc (decide (o=(8:Int))) (Q [.agg [.int .i64 o,.int .i64 b1,.int .i64 0,.int .i64 0,.int .i64 (IntKind.i64.wrap (a+IntKind.i64.wrap ((4:Int)*lo)))]] (qag o a b1 lo n)) (Q [.agg [.int .i64 o,.int .i64 b1,.int .i64 0,.int .i64 0,.int .i64 lo]] (qan o b1 lo n))))) (Q [.agg [.int .i64 0,.int .i64 0,.int .i64 0,.int .i64 0,.int .i64 n]] (qad n))) (bc (decide (k=(8:Int))) (bc (decide ((15:Int)<b1)) (Q [.agg [.int .i64 0,.int .i64 0,.int .i64 0,.int .i64 0,.int .i64 n]] (qad n)) (bc (decide (o=(7:Int))) (ctSg.pre (lo,(16:Int),()) /\
 bc (decide (o=(8:Int))) (Q [.agg [.int .i64 o,.int .i64 b1,.int .i64 0,.int .i64 0,.int .i64 (IntKind.i64.wrap (a+IntKind.i64.wrap ((4:Int)*lo)))]] (qag o a b1 lo n)) (Q [.agg [.int .i64 o,.int .i64 b1,.int .i64 0,.int .i64 0,.int .i64 (IntKind.i64.wrap (a+IntKind.i64.wrap ((4:Int)*sgV lo (16:Int))))]] (qao o a b1 lo n))) (bc (decide (o=(8:Int))) (Q [.agg [.int .i64 o,.int .i64 b1,.int .i64 0,.int .i64 0,.int .i64 (IntKind.i64.wrap (a+IntKind.i64.wrap ((4:Int)*lo)))]] (qag o a b1 lo n)) (Q [.agg [.int .i64 o,.int .i64 b1,.int .i64 0,.int .i64 0,.int .i64 lo]] (qan o b1 lo n))))) (Q [.agg [.int .i64 0,.int .i64 0,.int .i64 0,.int .i64 0,.int .i64 n]] (qad n)))))) (bc (decide (k=(6:Int))) (ctSg.pre (IntKind.i64.wrap (IntKind.i64.wrap ((65536:Int)*b1)+lo),(24:Int),()) /\
 Q [.agg [.int .i64 o,.int .i64 0,.int .i64 0,.int .i64 0,.int .i64 (IntKind.i64.wrap (a+IntKind.i64.wrap ((4:Int)*sgV (IntKind.i64.wrap (IntKind.i64.wrap ((65536:Int)*b1)+lo)) (24:Int))))]] (qb1 o a b1 lo n)) (bc (decide (k=(2:Int))) (bc (decide (k=(2:Int))) (bc (decide ((15:Int)<b1)) (Q [.agg [.int .i64 0,.int .i64 0,.int .i64 0,.int .i64 0,.int .i64 n]] (qad n)) (bc (decide (o=(7:Int))) (ctSg.pre (lo,(16:Int),()) /\
 bc (decide (o=(8:Int))) (Q [.agg [.int .i64 o,.int .i64 b1,.int .i64 0,.int .i64 0,.int .i64 (IntKind.i64.wrap (a+IntKind.i64.wrap ((4:Int)*lo)))]] (qag o a b1 lo n)) (Q [.agg [.int .i64 o,.int .i64 b1,.int .i64 0,.int .i64 0,.int .i64 (IntKind.i64.wrap (a+IntKind.i64.wrap ((4:Int)*sgV lo (16:Int))))]] (qao o a b1 lo n))) (bc (decide (o=(8:Int))) (Q [.agg [.int .i64 o,.int .i64 b1,.int .i64 0,.int .i64 0,.int .i64 (IntKind.i64.wrap (a+IntKind.i64.wrap ((4:Int)*lo)))]] (qag o a b1 lo n)) (Q [.agg [.int .i64 o,.int .i64 b1,.int .i64 0,.int .i64 0,.int .i64 lo]] (qan o b1 lo n))))) (Q [.agg [.int .i64 0,.int .i64 0,.int .i64 0,.int .i64 0,.int .i64 n]] (qad n))) (bc (decide (k=(7:Int))) (bc (decide (k=(7:Int))) (bc (decide ((15:Int)<b1)) (Q [.agg [.int .i64 0,.int .i64 0,.int .i64 0,.int .i64 0,.int .i64 n]] (qad n)) (bc (decide (o=(7:Int))) (ctSg.pre (lo,(16:Int),()) /\
 bc (decide (o=(8:Int))) (Q [.agg [.int .i64 o,.int .i64 b1,.int .i64 0,.int .i64 0,.int .i64 (IntKind.i64.wrap (a+IntKind.i64.wrap ((4:Int)*lo)))]] (qag o a b1 lo n)) (Q [.agg [.int .i64 o,.int .i64 b1,.int .i64 0,.int .i64 0,.int .i64 (IntKind.i64.wrap (a+IntKind.i64.wrap ((4:Int)*sgV lo (16:Int))))]] (qao o a b1 lo n))) (bc (decide (o=(8:Int))) (Q [.agg [.int .i64 o,.int .i64 b1,.int .i64 0,.int .i64 0,.int .i64 (IntKind.i64.wrap (a+IntKind.i64.wrap ((4:Int)*lo)))]] (qag o a b1 lo n)) (Q [.agg [.int .i64 o,.int .i64 b1,.int .i64 0,.int .i64 0,.int .i64 lo]] (qan o b1 lo n))))) (Q [.agg [.int .i64 0,.int .i64 0,.int .i64 0,.int .i64 0,.int .i64 n]] (qad n))) (bc (decide (k=(8:Int))) (bc (decide ((15:Int)<b1)) (Q [.agg [.int .i64 0,.int .i64 0,.int .i64 0,.int .i64 0,.int .i64 n]] (qad n)) (bc (decide (o=(7:Int))) (ctSg.pre (lo,(16:Int),()) /\
 bc (decide (o=(8:Int))) (Q [.agg [.int .i64 o,.int .i64 b1,.int .i64 0,.int .i64 0,.int .i64 (IntKind.i64.wrap (a+IntKind.i64.wrap ((4:Int)*lo)))]] (qag o a b1 lo n)) (Q [.agg [.int .i64 o,.int .i64 b1,.int .i64 0,.int .i64 0,.int .i64 (IntKind.i64.wrap (a+IntKind.i64.wrap ((4:Int)*sgV lo (16:Int))))]] (qao o a b1 lo n))) (bc (decide (o=(8:Int))) (Q [.agg [.int .i64 o,.int .i64 b1,.int .i64 0,.int .i64 0,.int .i64 (IntKind.i64.wrap (a+IntKind.i64.wrap ((4:Int)*lo)))]] (qag o a b1 lo n)) (Q [.agg [.int .i64 o,.int .i64 b1,.int .i64 0,.int .i64 0,.int .i64 lo]] (qan o b1 lo n))))) (Q [.agg [.int .i64 0,.int .i64 0,.int .i64 0,.int .i64 0,.int .i64 n]] (qad n)))))))) (bc (decide (k=(3:Int))) (bc (decide (k=(3:Int))) (bc (decide ((15:Int)<b1)) (true=true /\
 true=true /\
 Q [.agg [.int .i64 0,.int .i64 0,.int .i64 0,.int .i64 0,.int .i64 n]] (qad n)) (bc (bif false then true else decide ((15:Int)<b2)) (true=true /\
 Q [.agg [.int .i64 0,.int .i64 0,.int .i64 0,.int .i64 0,.int .i64 n]] (qad n)) (bc (bif false then true else decide ((15:Int)<b3)) (Q [.agg [.int .i64 0,.int .i64 0,.int .i64 0,.int .i64 0,.int .i64 n]] (qad n)) (Q [.agg [.int .i64 o,.int .i64 b1,.int .i64 b2,.int .i64 b3,.int .i64 0]] (qe4 o b1 b2 b3 n))))) (bc (decide (k=(5:Int))) (bc (decide (k=(5:Int))) (ctSg.pre (IntKind.i64.wrap (IntKind.i64.wrap ((65536:Int)*b1)+lo),(24:Int),()) /\
 Q [.agg [.int .i64 o,.int .i64 0,.int .i64 0,.int .i64 0,.int .i64 (IntKind.i64.wrap (a+IntKind.i64.wrap ((4:Int)*sgV (IntKind.i64.wrap (IntKind.i64.wrap ((65536:Int)*b1)+lo)) (24:Int))))]] (qb1 o a b1 lo n)) (bc (decide (k=(2:Int))) (bc (decide (k=(2:Int))) (bc (decide ((15:Int)<b1)) (Q [.agg [.int .i64 0,.int .i64 0,.int .i64 0,.int .i64 0,.int .i64 n]] (qad n)) (bc (decide (o=(7:Int))) (ctSg.pre (lo,(16:Int),()) /\
 bc (decide (o=(8:Int))) (Q [.agg [.int .i64 o,.int .i64 b1,.int .i64 0,.int .i64 0,.int .i64 (IntKind.i64.wrap (a+IntKind.i64.wrap ((4:Int)*lo)))]] (qag o a b1 lo n)) (Q [.agg [.int .i64 o,.int .i64 b1,.int .i64 0,.int .i64 0,.int .i64 (IntKind.i64.wrap (a+IntKind.i64.wrap ((4:Int)*sgV lo (16:Int))))]] (qao o a b1 lo n))) (bc (decide (o=(8:Int))) (Q [.agg [.int .i64 o,.int .i64 b1,.int .i64 0,.int .i64 0,.int .i64 (IntKind.i64.wrap (a+IntKind.i64.wrap ((4:Int)*lo)))]] (qag o a b1 lo n)) (Q [.agg [.int .i64 o,.int .i64 b1,.int .i64 0,.int .i64 0,.int .i64 lo]] (qan o b1 lo n))))) (Q [.agg [.int .i64 0,.int .i64 0,.int .i64 0,.int .i64 0,.int .i64 n]] (qad n))) (bc (decide (k=(7:Int))) (bc (decide (k=(7:Int))) (bc (decide ((15:Int)<b1)) (Q [.agg [.int .i64 0,.int .i64 0,.int .i64 0,.int .i64 0,.int .i64 n]] (qad n)) (bc (decide (o=(7:Int))) (ctSg.pre (lo,(16:Int),()) /\
 bc (decide (o=(8:Int))) (Q [.agg [.int .i64 o,.int .i64 b1,.int .i64 0,.int .i64 0,.int .i64 (IntKind.i64.wrap (a+IntKind.i64.wrap ((4:Int)*lo)))]] (qag o a b1 lo n)) (Q [.agg [.int .i64 o,.int .i64 b1,.int .i64 0,.int .i64 0,.int .i64 (IntKind.i64.wrap (a+IntKind.i64.wrap ((4:Int)*sgV lo (16:Int))))]] (qao o a b1 lo n))) (bc (decide (o=(8:Int))) (Q [.agg [.int .i64 o,.int .i64 b1,.int .i64 0,.int .i64 0,.int .i64 (IntKind.i64.wrap (a+IntKind.i64.wrap ((4:Int)*lo)))]] (qag o a b1 lo n)) (Q [.agg [.int .i64 o,.int .i64 b1,.int .i64 0,.int .i64 0,.int .i64 lo]] (qan o b1 lo n))))) (Q [.agg [.int .i64 0,.int .i64 0,.int .i64 0,.int .i64 0,.int .i64 n]] (qad n))) (bc (decide (k=(8:Int))) (bc (decide ((15:Int)<b1)) (Q [.agg [.int .i64 0,.int .i64 0,.int .i64 0,.int .i64 0,.int .i64 n]] (qad n)) (bc (decide (o=(7:Int))) (ctSg.pre (lo,(16:Int),()) /\
 bc (decide (o=(8:Int))) (Q [.agg [.int .i64 o,.int .i64 b1,.int .i64 0,.int .i64 0,.int .i64 (IntKind.i64.wrap (a+IntKind.i64.wrap ((4:Int)*lo)))]] (qag o a b1 lo n)) (Q [.agg [.int .i64 o,.int .i64 b1,.int .i64 0,.int .i64 0,.int .i64 (IntKind.i64.wrap (a+IntKind.i64.wrap ((4:Int)*sgV lo (16:Int))))]] (qao o a b1 lo n))) (bc (decide (o=(8:Int))) (Q [.agg [.int .i64 o,.int .i64 b1,.int .i64 0,.int .i64 0,.int .i64 (IntKind.i64.wrap (a+IntKind.i64.wrap ((4:Int)*lo)))]] (qag o a b1 lo n)) (Q [.agg [.int .i64 o,.int .i64 b1,.int .i64 0,.int .i64 0,.int .i64 lo]] (qan o b1 lo n))))) (Q [.agg [.int .i64 0,.int .i64 0,.int .i64 0,.int .i64 0,.int .i64 n]] (qad n)))))) (bc (decide (k=(6:Int))) (ctSg.pre (IntKind.i64.wrap (IntKind.i64.wrap ((65536:Int)*b1)+lo),(24:Int),()) /\
 Q [.agg [.int .i64 o,.int .i64 0,.int .i64 0,.int .i64 0,.int .i64 (IntKind.i64.wrap (a+IntKind.i64.wrap ((4:Int)*sgV (IntKind.i64.wrap (IntKind.i64.wrap ((65536:Int)*b1)+lo)) (24:Int))))]] (qb1 o a b1 lo n)) (bc (decide (k=(2:Int))) (bc (decide (k=(2:Int))) (bc (decide ((15:Int)<b1)) (Q [.agg [.int .i64 0,.int .i64 0,.int .i64 0,.int .i64 0,.int .i64 n]] (qad n)) (bc (decide (o=(7:Int))) (ctSg.pre (lo,(16:Int),()) /\
 bc (decide (o=(8:Int))) (Q [.agg [.int .i64 o,.int .i64 b1,.int .i64 0,.int .i64 0,.int .i64 (IntKind.i64.wrap (a+IntKind.i64.wrap ((4:Int)*lo)))]] (qag o a b1 lo n)) (Q [.agg [.int .i64 o,.int .i64 b1,.int .i64 0,.int .i64 0,.int .i64 (IntKind.i64.wrap (a+IntKind.i64.wrap ((4:Int)*sgV lo (16:Int))))]] (qao o a b1 lo n))) (bc (decide (o=(8:Int))) (Q [.agg [.int .i64 o,.int .i64 b1,.int .i64 0,.int .i64 0,.int .i64 (IntKind.i64.wrap (a+IntKind.i64.wrap ((4:Int)*lo)))]] (qag o a b1 lo n)) (Q [.agg [.int .i64 o,.int .i64 b1,.int .i64 0,.int .i64 0,.int .i64 lo]] (qan o b1 lo n))))) (Q [.agg [.int .i64 0,.int .i64 0,.int .i64 0,.int .i64 0,.int .i64 n]] (qad n))) (bc (decide (k=(7:Int))) (bc (decide (k=(7:Int))) (bc (decide ((15:Int)<b1)) (Q [.agg [.int .i64 0,.int .i64 0,.int .i64 0,.int .i64 0,.int .i64 n]] (qad n)) (bc (decide (o=(7:Int))) (ctSg.pre (lo,(16:Int),()) /\
 bc (decide (o=(8:Int))) (Q [.agg [.int .i64 o,.int .i64 b1,.int .i64 0,.int .i64 0,.int .i64 (IntKind.i64.wrap (a+IntKind.i64.wrap ((4:Int)*lo)))]] (qag o a b1 lo n)) (Q [.agg [.int .i64 o,.int .i64 b1,.int .i64 0,.int .i64 0,.int .i64 (IntKind.i64.wrap (a+IntKind.i64.wrap ((4:Int)*sgV lo (16:Int))))]] (qao o a b1 lo n))) (bc (decide (o=(8:Int))) (Q [.agg [.int .i64 o,.int .i64 b1,.int .i64 0,.int .i64 0,.int .i64 (IntKind.i64.wrap (a+IntKind.i64.wrap ((4:Int)*lo)))]] (qag o a b1 lo n)) (Q [.agg [.int .i64 o,.int .i64 b1,.int .i64 0,.int .i64 0,.int .i64 lo]] (qan o b1 lo n))))) (Q [.agg [.int .i64 0,.int .i64 0,.int .i64 0,.int .i64 0,.int .i64 n]] (qad n))) (bc (decide (k=(8:Int))) (bc (decide ((15:Int)<b1)) (Q [.agg [.int .i64 0,.int .i64 0,.int .i64 0,.int .i64 0,.int .i64 n]] (qad n)) (bc (decide (o=(7:Int))) (ctSg.pre (lo,(16:Int),()) /\
 bc (decide (o=(8:Int))) (Q [.agg [.int .i64 o,.int .i64 b1,.int .i64 0,.int .i64 0,.int .i64 (IntKind.i64.wrap (a+IntKind.i64.wrap ((4:Int)*lo)))]] (qag o a b1 lo n)) (Q [.agg [.int .i64 o,.int .i64 b1,.int .i64 0,.int .i64 0,.int .i64 (IntKind.i64.wrap (a+IntKind.i64.wrap ((4:Int)*sgV lo (16:Int))))]] (qao o a b1 lo n))) (bc (decide (o=(8:Int))) (Q [.agg [.int .i64 o,.int .i64 b1,.int .i64 0,.int .i64 0,.int .i64 (IntKind.i64.wrap (a+IntKind.i64.wrap ((4:Int)*lo)))]] (qag o a b1 lo n)) (Q [.agg [.int .i64 o,.int .i64 b1,.int .i64 0,.int .i64 0,.int .i64 lo]] (qan o b1 lo n))))) (Q [.agg [.int .i64 0,.int .i64 0,.int .i64 0,.int .i64 0,.int .i64 n]] (qad n)))))))) (bc (decide (k=(4:Int))) (bc (decide ((15:Int)<b1)) (true=true /\
 true=true /\
 Q [.agg [.int .i64 0,.int .i64 0,.int .i64 0,.int .i64 0,.int .i64 n]] (qad n)) (bc (bif false then true else decide ((15:Int)<b2)) (true=true /\
 Q [.agg [.int .i64 0,.int .i64 0,.int .i64 0,.int .i64 0,.int .i64 n]] (qad n)) (bc (bif false then true else decide ((15:Int)<b3)) (Q [.agg [.int .i64 0,.int .i64 0,.int .i64 0,.int .i64 0,.int .i64 n]] (qad n)) (Q [.agg [.int .i64 o,.int .i64 b1,.int .i64 b2,.int .i64 b3,.int .i64 0]] (qe4 o b1 b2 b3 n))))) (bc (decide (k=(5:Int))) (bc (decide (k=(5:Int))) (ctSg.pre (IntKind.i64.wrap (IntKind.i64.wrap ((65536:Int)*b1)+lo),(24:Int),()) /\
 Q [.agg [.int .i64 o,.int .i64 0,.int .i64 0,.int .i64 0,.int .i64 (IntKind.i64.wrap (a+IntKind.i64.wrap ((4:Int)*sgV (IntKind.i64.wrap (IntKind.i64.wrap ((65536:Int)*b1)+lo)) (24:Int))))]] (qb1 o a b1 lo n)) (bc (decide (k=(2:Int))) (bc (decide (k=(2:Int))) (bc (decide ((15:Int)<b1)) (Q [.agg [.int .i64 0,.int .i64 0,.int .i64 0,.int .i64 0,.int .i64 n]] (qad n)) (bc (decide (o=(7:Int))) (ctSg.pre (lo,(16:Int),()) /\
 bc (decide (o=(8:Int))) (Q [.agg [.int .i64 o,.int .i64 b1,.int .i64 0,.int .i64 0,.int .i64 (IntKind.i64.wrap (a+IntKind.i64.wrap ((4:Int)*lo)))]] (qag o a b1 lo n)) (Q [.agg [.int .i64 o,.int .i64 b1,.int .i64 0,.int .i64 0,.int .i64 (IntKind.i64.wrap (a+IntKind.i64.wrap ((4:Int)*sgV lo (16:Int))))]] (qao o a b1 lo n))) (bc (decide (o=(8:Int))) (Q [.agg [.int .i64 o,.int .i64 b1,.int .i64 0,.int .i64 0,.int .i64 (IntKind.i64.wrap (a+IntKind.i64.wrap ((4:Int)*lo)))]] (qag o a b1 lo n)) (Q [.agg [.int .i64 o,.int .i64 b1,.int .i64 0,.int .i64 0,.int .i64 lo]] (qan o b1 lo n))))) (Q [.agg [.int .i64 0,.int .i64 0,.int .i64 0,.int .i64 0,.int .i64 n]] (qad n))) (bc (decide (k=(7:Int))) (bc (decide (k=(7:Int))) (bc (decide ((15:Int)<b1)) (Q [.agg [.int .i64 0,.int .i64 0,.int .i64 0,.int .i64 0,.int .i64 n]] (qad n)) (bc (decide (o=(7:Int))) (ctSg.pre (lo,(16:Int),()) /\
 bc (decide (o=(8:Int))) (Q [.agg [.int .i64 o,.int .i64 b1,.int .i64 0,.int .i64 0,.int .i64 (IntKind.i64.wrap (a+IntKind.i64.wrap ((4:Int)*lo)))]] (qag o a b1 lo n)) (Q [.agg [.int .i64 o,.int .i64 b1,.int .i64 0,.int .i64 0,.int .i64 (IntKind.i64.wrap (a+IntKind.i64.wrap ((4:Int)*sgV lo (16:Int))))]] (qao o a b1 lo n))) (bc (decide (o=(8:Int))) (Q [.agg [.int .i64 o,.int .i64 b1,.int .i64 0,.int .i64 0,.int .i64 (IntKind.i64.wrap (a+IntKind.i64.wrap ((4:Int)*lo)))]] (qag o a b1 lo n)) (Q [.agg [.int .i64 o,.int .i64 b1,.int .i64 0,.int .i64 0,.int .i64 lo]] (qan o b1 lo n))))) (Q [.agg [.int .i64 0,.int .i64 0,.int .i64 0,.int .i64 0,.int .i64 n]] (qad n))) (bc (decide (k=(8:Int))) (bc (decide ((15:Int)<b1)) (Q [.agg [.int .i64 0,.int .i64 0,.int .i64 0,.int .i64 0,.int .i64 n]] (qad n)) (bc (decide (o=(7:Int))) (ctSg.pre (lo,(16:Int),()) /\
 bc (decide (o=(8:Int))) (Q [.agg [.int .i64 o,.int .i64 b1,.int .i64 0,.int .i64 0,.int .i64 (IntKind.i64.wrap (a+IntKind.i64.wrap ((4:Int)*lo)))]] (qag o a b1 lo n)) (Q [.agg [.int .i64 o,.int .i64 b1,.int .i64 0,.int .i64 0,.int .i64 (IntKind.i64.wrap (a+IntKind.i64.wrap ((4:Int)*sgV lo (16:Int))))]] (qao o a b1 lo n))) (bc (decide (o=(8:Int))) (Q [.agg [.int .i64 o,.int .i64 b1,.int .i64 0,.int .i64 0,.int .i64 (IntKind.i64.wrap (a+IntKind.i64.wrap ((4:Int)*lo)))]] (qag o a b1 lo n)) (Q [.agg [.int .i64 o,.int .i64 b1,.int .i64 0,.int .i64 0,.int .i64 lo]] (qan o b1 lo n))))) (Q [.agg [.int .i64 0,.int .i64 0,.int .i64 0,.int .i64 0,.int .i64 n]] (qad n)))))) (bc (decide (k=(6:Int))) (ctSg.pre (IntKind.i64.wrap (IntKind.i64.wrap ((65536:Int)*b1)+lo),(24:Int),()) /\
 Q [.agg [.int .i64 o,.int .i64 0,.int .i64 0,.int .i64 0,.int .i64 (IntKind.i64.wrap (a+IntKind.i64.wrap ((4:Int)*sgV (IntKind.i64.wrap (IntKind.i64.wrap ((65536:Int)*b1)+lo)) (24:Int))))]] (qb1 o a b1 lo n)) (bc (decide (k=(2:Int))) (bc (decide (k=(2:Int))) (bc (decide ((15:Int)<b1)) (Q [.agg [.int .i64 0,.int .i64 0,.int .i64 0,.int .i64 0,.int .i64 n]] (qad n)) (bc (decide (o=(7:Int))) (ctSg.pre (lo,(16:Int),()) /\
 bc (decide (o=(8:Int))) (Q [.agg [.int .i64 o,.int .i64 b1,.int .i64 0,.int .i64 0,.int .i64 (IntKind.i64.wrap (a+IntKind.i64.wrap ((4:Int)*lo)))]] (qag o a b1 lo n)) (Q [.agg [.int .i64 o,.int .i64 b1,.int .i64 0,.int .i64 0,.int .i64 (IntKind.i64.wrap (a+IntKind.i64.wrap ((4:Int)*sgV lo (16:Int))))]] (qao o a b1 lo n))) (bc (decide (o=(8:Int))) (Q [.agg [.int .i64 o,.int .i64 b1,.int .i64 0,.int .i64 0,.int .i64 (IntKind.i64.wrap (a+IntKind.i64.wrap ((4:Int)*lo)))]] (qag o a b1 lo n)) (Q [.agg [.int .i64 o,.int .i64 b1,.int .i64 0,.int .i64 0,.int .i64 lo]] (qan o b1 lo n))))) (Q [.agg [.int .i64 0,.int .i64 0,.int .i64 0,.int .i64 0,.int .i64 n]] (qad n))) (bc (decide (k=(7:Int))) (bc (decide (k=(7:Int))) (bc (decide ((15:Int)<b1)) (Q [.agg [.int .i64 0,.int .i64 0,.int .i64 0,.int .i64 0,.int .i64 n]] (qad n)) (bc (decide (o=(7:Int))) (ctSg.pre (lo,(16:Int),()) /\
 bc (decide (o=(8:Int))) (Q [.agg [.int .i64 o,.int .i64 b1,.int .i64 0,.int .i64 0,.int .i64 (IntKind.i64.wrap (a+IntKind.i64.wrap ((4:Int)*lo)))]] (qag o a b1 lo n)) (Q [.agg [.int .i64 o,.int .i64 b1,.int .i64 0,.int .i64 0,.int .i64 (IntKind.i64.wrap (a+IntKind.i64.wrap ((4:Int)*sgV lo (16:Int))))]] (qao o a b1 lo n))) (bc (decide (o=(8:Int))) (Q [.agg [.int .i64 o,.int .i64 b1,.int .i64 0,.int .i64 0,.int .i64 (IntKind.i64.wrap (a+IntKind.i64.wrap ((4:Int)*lo)))]] (qag o a b1 lo n)) (Q [.agg [.int .i64 o,.int .i64 b1,.int .i64 0,.int .i64 0,.int .i64 lo]] (qan o b1 lo n))))) (Q [.agg [.int .i64 0,.int .i64 0,.int .i64 0,.int .i64 0,.int .i64 n]] (qad n))) (bc (decide (k=(8:Int))) (bc (decide ((15:Int)<b1)) (Q [.agg [.int .i64 0,.int .i64 0,.int .i64 0,.int .i64 0,.int .i64 n]] (qad n)) (bc (decide (o=(7:Int))) (ctSg.pre (lo,(16:Int),()) /\
 bc (decide (o=(8:Int))) (Q [.agg [.int .i64 o,.int .i64 b1,.int .i64 0,.int .i64 0,.int .i64 (IntKind.i64.wrap (a+IntKind.i64.wrap ((4:Int)*lo)))]] (qag o a b1 lo n)) (Q [.agg [.int .i64 o,.int .i64 b1,.int .i64 0,.int .i64 0,.int .i64 (IntKind.i64.wrap (a+IntKind.i64.wrap ((4:Int)*sgV lo (16:Int))))]] (qao o a b1 lo n))) (bc (decide (o=(8:Int))) (Q [.agg [.int .i64 o,.int .i64 b1,.int .i64 0,.int .i64 0,.int .i64 (IntKind.i64.wrap (a+IntKind.i64.wrap ((4:Int)*lo)))]] (qag o a b1 lo n)) (Q [.agg [.int .i64 o,.int .i64 b1,.int .i64 0,.int .i64 0,.int .i64 lo]] (qan o b1 lo n))))) (Q [.agg [.int .i64 0,.int .i64 0,.int .i64 0,.int .i64 0,.int .i64 n]] (qad n)))))))))):=by kernel_rfl
end Go.Proofs.YtplkpodikhfcdaaDoor
namespace Go.Proofs.YtplkpodikhfcdaaDoor
open Go.Px Go.Ax
set_option maxRecDepth 100000
attribute [local irreducible] Go.Px.sy Go.Px.syE
abbrev i5V (r:InT):SV:=.agg [.int .i64 r.1,.int .i64 r.2.1,.int .i64 r.2.2.1,.int .i64 r.2.2.2.1,.int .i64 r.2.2.2.2]
theorem i5_ex (a b c d e:Int):∃ r:InT,[SV.agg [.int .i64 a,.int .i64 b,.int .i64 c,.int .i64 d,.int .i64 e]]=[i5V r]:=⟨(a,b,c,d,e),rfl⟩
abbrev rdS (o a b1 b2 b3 lo k n:Int):PS:=⟨[(1,.int .i64 a),(4,.ptr 4 0),(5,.int .i64 o),(6,.int .i64 b1),(7,.int .i64 b2),(8,.int .i64 b3),(9,.int .i64 lo),(10,.ptr 10 0),(33,.int .i64 k)],[(4,.var [.int .i64 0,.int .i64 0,.int .i64 0,.int .i64 0,.int .i64 0]),(10,.var [.int .i64 0,.int .i64 0,.int .i64 0,.int .i64 0,.int .i64 n])]⟩
theorem q6s (o a b1 b2 b3 lo k n:Int):∃ r:InT,GD 34 Tryd.f34 (fun rs _=>rs=[i5V r]) (midI 12 [] [.code (qah Tryd.f34)]) (rdS o a b1 b2 b3 lo k n):=by
 have e:=fun r:InT=>qkn o a b1 b2 b3 lo k n (fun rs _=>rs=[i5V r]) R00
 have h:∃ r:InT,sy tt G0 CRd Tryd.f34.ntmps Tryd.f34.results.toList (fun rs _=>rs=[i5V r]) R00 1000 (midI 12 [] [.code (qah Tryd.f34)]) (rdS o a b1 b2 b3 lo k n):=by
  simp only[e]
  repeat' first
   | exact i5_ex _ _ _ _ _
   | refine qdq (by decide) ?_
   | refine qdq (Or.inl rfl) ?_
   | refine qdq (Or.inr rfl) ?_
   | refine qxg (fun _=>?_) (fun _=>?_)
 obtain ⟨r,h⟩:=h;exact ⟨r,ql5 cxRd (qkn o a b1 b2 b3 lo k n _ _) ((qkn o a b1 b2 b3 lo k n _ R00).mp h)⟩
theorem q6r (w a:Int):∃ r:InT,GD 34 Tryd.f34 (fun rs _=>rs=[i5V r]) [.code (qah Tryd.f34)] (entry [.int .u32,.int .i64] (w,a,())):=by
 obtain ⟨r,h⟩:=q6s (IntKind.i64.wrap (w.fdiv ((2:Int) ^ min 24 IntKind.u32.bits))) a (IntKind.i64.wrap (bitI .and .u32 (w.fdiv ((2:Int) ^ min 16 IntKind.u32.bits)) 255)) (IntKind.i64.wrap (bitI .and .u32 (w.fdiv ((2:Int) ^ min 8 IntKind.u32.bits)) 255)) (IntKind.i64.wrap (bitI .and .u32 w 255))
  (IntKind.i64.wrap (IntKind.i64.wrap (256*IntKind.i64.wrap (bitI .and .u32 (w.fdiv ((2:Int) ^ min 8 IntKind.u32.bits)) 255))+IntKind.i64.wrap (bitI .and .u32 w 255))) (IntKind.i64.wrap (w.fdiv ((2:Int) ^ min 24 IntKind.u32.bits))) (IntKind.i64.wrap w)
 refine ⟨r,q3g cxRd (quu w a _ _) ⟨by decide,by decide,by decide,?_⟩⟩;exact h.only ⟨rfl,rfl,rfl,rfl,rfl,rfl,rfl,rfl,rfl,trivial⟩ ⟨rfl,rfl,trivial⟩
noncomputable def rdV (w a:Int):InT:=Classical.choose (q6r w a)
noncomputable def ctRd:Ctr:=⟨[.int .u32,.int .i64],fun _=>True,fun x=>[i5V (rdV x.1 x.2.1)],fun _=>[]⟩
theorem q3p:Held Tryd.prog G0 34 ctRd:=Held.of cxRd (fn:=Tryd.f34) rfl rfl ⟨by decide,by decide⟩ fun ⟨w,a,_⟩ _=>(Classical.choose_spec (q6r w a)).post fun rs blk h=>by
 subst h;exact QC.flat rfl rfl rfl
end Go.Proofs.YtplkpodikhfcdaaDoor
namespace Go.Proofs.YtplkpodikhfcdaaDoor
open Go.Px Go.Ax
set_option maxRecDepth 100000
set_option maxRecDepth 100000
theorem qnc (o a b c n t:Int) (Q:QT) (R:RT):sy tt G0 CRd Tryd.f54.ntmps Tryd.f54.results.toList Q R 1000 [.code (qah Tryd.f54)] (entry [i5s,iI] ((o,a,b,c,n),t,())) =
  ((4:Int)≠0 /\
 bc (decide (o=(1:Int))) (bc (decide (o=(1:Int))) ((0:Int)<=16 /\
 (0:Int)<=8 /\
 ctWrd.pre (o,bitI BinOp.or IntKind.i64 (bitI BinOp.or IntKind.i64 (IntKind.i64.wrap (a*(2:Int) ^ min (16) IntKind.i64.bits)) (IntKind.i64.wrap (b*(2:Int) ^ min (8) IntKind.i64.bits))) c,()) /\
 Q [.int .u32 (wrdV o (bitI BinOp.or IntKind.i64 (bitI BinOp.or IntKind.i64 (IntKind.i64.wrap (a*(2:Int) ^ min (16) IntKind.i64.bits)) (IntKind.i64.wrap (b*(2:Int) ^ min (8) IntKind.i64.bits))) c))] [(2,.var [.int .i64 o,.int .i64 a,.int .i64 b,.int .i64 c,.int .i64 n])]) (bc (decide (o=(2:Int))) ((0:Int)<=16 /\
 ctWrd.pre (o,bitI BinOp.or IntKind.i64 (IntKind.i64.wrap (a*(2:Int) ^ min (16) IntKind.i64.bits)) (bitI BinOp.and IntKind.i64 n (65535:Int)),()) /\
 Q [.int .u32 (wrdV o (bitI BinOp.or IntKind.i64 (IntKind.i64.wrap (a*(2:Int) ^ min (16) IntKind.i64.bits)) (bitI BinOp.and IntKind.i64 n (65535:Int))))] [(2,.var [.int .i64 o,.int .i64 a,.int .i64 b,.int .i64 c,.int .i64 n])]) (bc (decide (o=(5:Int))) (bc (decide (o=(5:Int))) (ctWrd.pre (o,IntKind.i64.wrap ((IntKind.i64.wrap (n-t)).tdiv (4:Int)),()) /\
 Q [.int .u32 (wrdV o (IntKind.i64.wrap ((IntKind.i64.wrap (n-t)).tdiv (4:Int))))] [(2,.var [.int .i64 o,.int .i64 a,.int .i64 b,.int .i64 c,.int .i64 n])]) (bc (decide (o=(7:Int))) (bc (decide (o=(7:Int))) ((0:Int)<=16 /\
 ctWrd.pre (o,bitI BinOp.or IntKind.i64 (IntKind.i64.wrap (a*(2:Int) ^ min (16) IntKind.i64.bits)) (bitI BinOp.and IntKind.i64 (IntKind.i64.wrap ((IntKind.i64.wrap (n-t)).tdiv (4:Int))) (65535:Int)),()) /\
 Q [.int .u32 (wrdV o (bitI BinOp.or IntKind.i64 (IntKind.i64.wrap (a*(2:Int) ^ min (16) IntKind.i64.bits)) (bitI BinOp.and IntKind.i64 (IntKind.i64.wrap ((IntKind.i64.wrap (n-t)).tdiv (4:Int))) (65535:Int))))] [(2,.var [.int .i64 o,.int .i64 a,.int .i64 b,.int .i64 c,.int .i64 n])]) (Q [.int .u32 (IntKind.u32.wrap n)] [(2,.var [.int .i64 o,.int .i64 a,.int .i64 b,.int .i64 c,.int .i64 n])])) (bc (decide (o=(8:Int))) ((0:Int)<=16 /\
 ctWrd.pre (o,bitI BinOp.or IntKind.i64 (IntKind.i64.wrap (a*(2:Int) ^ min (16) IntKind.i64.bits)) (bitI BinOp.and IntKind.i64 (IntKind.i64.wrap ((IntKind.i64.wrap (n-t)).tdiv (4:Int))) (65535:Int)),()) /\
 Q [.int .u32 (wrdV o (bitI BinOp.or IntKind.i64 (IntKind.i64.wrap (a*(2:Int) ^ min (16) IntKind.i64.bits)) (bitI BinOp.and IntKind.i64 (IntKind.i64.wrap ((IntKind.i64.wrap (n-t)).tdiv (4:Int))) (65535:Int))))] [(2,.var [.int .i64 o,.int .i64 a,.int .i64 b,.int .i64 c,.int .i64 n])]) (Q [.int .u32 (IntKind.u32.wrap n)] [(2,.var [.int .i64 o,.int .i64 a,.int .i64 b,.int .i64 c,.int .i64 n])])))) (bc (decide (o=(6:Int))) (ctWrd.pre (o,IntKind.i64.wrap ((IntKind.i64.wrap (n-t)).tdiv (4:Int)),()) /\
 Q [.int .u32 (wrdV o (IntKind.i64.wrap ((IntKind.i64.wrap (n-t)).tdiv (4:Int))))] [(2,.var [.int .i64 o,.int .i64 a,.int .i64 b,.int .i64 c,.int .i64 n])]) (bc (decide (o=(7:Int))) (bc (decide (o=(7:Int))) ((0:Int)<=16 /\
 ctWrd.pre (o,bitI BinOp.or IntKind.i64 (IntKind.i64.wrap (a*(2:Int) ^ min (16) IntKind.i64.bits)) (bitI BinOp.and IntKind.i64 (IntKind.i64.wrap ((IntKind.i64.wrap (n-t)).tdiv (4:Int))) (65535:Int)),()) /\
 Q [.int .u32 (wrdV o (bitI BinOp.or IntKind.i64 (IntKind.i64.wrap (a*(2:Int) ^ min (16) IntKind.i64.bits)) (bitI BinOp.and IntKind.i64 (IntKind.i64.wrap ((IntKind.i64.wrap (n-t)).tdiv (4:Int))) (65535:Int))))] [(2,.var [.int .i64 o,.int .i64 a,.int .i64 b,.int .i64 c,.int .i64 n])]) (Q [.int .u32 (IntKind.u32.wrap n)] [(2,.var [.int .i64 o,.int .i64 a,.int .i64 b,.int .i64 c,.int .i64 n])])) (bc (decide (o=(8:Int))) ((0:Int)<=16 /\
 ctWrd.pre (o,bitI BinOp.or IntKind.i64 (IntKind.i64.wrap (a*(2:Int) ^ min (16) IntKind.i64.bits)) (bitI BinOp.and IntKind.i64 (IntKind.i64.wrap ((IntKind.i64.wrap (n-t)).tdiv (4:Int))) (65535:Int)),()) /\
 Q [.int .u32 (wrdV o (bitI BinOp.or IntKind.i64 (IntKind.i64.wrap (a*(2:Int) ^ min (16) IntKind.i64.bits)) (bitI BinOp.and IntKind.i64 (IntKind.i64.wrap ((IntKind.i64.wrap (n-t)).tdiv (4:Int))) (65535:Int))))] [(2,.var [.int .i64 o,.int .i64 a,.int .i64 b,.int .i64 c,.int .i64 n])]) (Q [.int .u32 (IntKind.u32.wrap n)] [(2,.var [.int .i64 o,.int .i64 a,.int .i64 b,.int .i64 c,.int .i64 n])]))))))) (bc (decide (o=(3:Int))) (bc (decide (o=(3:Int))) ((0:Int)<=16 /\
 (0:Int)<=8 /\
 ctWrd.pre (o,bitI BinOp.or IntKind.i64 (bitI BinOp.or IntKind.i64 (IntKind.i64.wrap (a*(2:Int) ^ min (16) IntKind.i64.bits)) (IntKind.i64.wrap (b*(2:Int) ^ min (8) IntKind.i64.bits))) c,()) /\
 Q [.int .u32 (wrdV o (bitI BinOp.or IntKind.i64 (bitI BinOp.or IntKind.i64 (IntKind.i64.wrap (a*(2:Int) ^ min (16) IntKind.i64.bits)) (IntKind.i64.wrap (b*(2:Int) ^ min (8) IntKind.i64.bits))) c))] [(2,.var [.int .i64 o,.int .i64 a,.int .i64 b,.int .i64 c,.int .i64 n])]) (bc (decide (o=(2:Int))) ((0:Int)<=16 /\
 ctWrd.pre (o,bitI BinOp.or IntKind.i64 (IntKind.i64.wrap (a*(2:Int) ^ min (16) IntKind.i64.bits)) (bitI BinOp.and IntKind.i64 n (65535:Int)),()) /\
 Q [.int .u32 (wrdV o (bitI BinOp.or IntKind.i64 (IntKind.i64.wrap (a*(2:Int) ^ min (16) IntKind.i64.bits)) (bitI BinOp.and IntKind.i64 n (65535:Int))))] [(2,.var [.int .i64 o,.int .i64 a,.int .i64 b,.int .i64 c,.int .i64 n])]) (bc (decide (o=(5:Int))) (bc (decide (o=(5:Int))) (ctWrd.pre (o,IntKind.i64.wrap ((IntKind.i64.wrap (n-t)).tdiv (4:Int)),()) /\
 Q [.int .u32 (wrdV o (IntKind.i64.wrap ((IntKind.i64.wrap (n-t)).tdiv (4:Int))))] [(2,.var [.int .i64 o,.int .i64 a,.int .i64 b,.int .i64 c,.int .i64 n])]) (bc (decide (o=(7:Int))) (bc (decide (o=(7:Int))) ((0:Int)<=16 /\
 ctWrd.pre (o,bitI BinOp.or IntKind.i64 (IntKind.i64.wrap (a*(2:Int) ^ min (16) IntKind.i64.bits)) (bitI BinOp.and IntKind.i64 (IntKind.i64.wrap ((IntKind.i64.wrap (n-t)).tdiv (4:Int))) (65535:Int)),()) /\
 Q [.int .u32 (wrdV o (bitI BinOp.or IntKind.i64 (IntKind.i64.wrap (a*(2:Int) ^ min (16) IntKind.i64.bits)) (bitI BinOp.and IntKind.i64 (IntKind.i64.wrap ((IntKind.i64.wrap (n-t)).tdiv (4:Int))) (65535:Int))))] [(2,.var [.int .i64 o,.int .i64 a,.int .i64 b,.int .i64 c,.int .i64 n])]) (Q [.int .u32 (IntKind.u32.wrap n)] [(2,.var [.int .i64 o,.int .i64 a,.int .i64 b,.int .i64 c,.int .i64 n])])) (bc (decide (o=(8:Int))) ((0:Int)<=16 /\
 ctWrd.pre (o,bitI BinOp.or IntKind.i64 (IntKind.i64.wrap (a*(2:Int) ^ min (16) IntKind.i64.bits)) (bitI BinOp.and IntKind.i64 (IntKind.i64.wrap ((IntKind.i64.wrap (n-t)).tdiv (4:Int))) (65535:Int)),()) /\
 Q [.int .u32 (wrdV o (bitI BinOp.or IntKind.i64 (IntKind.i64.wrap (a*(2:Int) ^ min (16) IntKind.i64.bits)) (bitI BinOp.and IntKind.i64 (IntKind.i64.wrap ((IntKind.i64.wrap (n-t)).tdiv (4:Int))) (65535:Int))))] [(2,.var [.int .i64 o,.int .i64 a,.int .i64 b,.int .i64 c,.int .i64 n])]) (Q [.int .u32 (IntKind.u32.wrap n)] [(2,.var [.int .i64 o,.int .i64 a,.int .i64 b,.int .i64 c,.int .i64 n])])))) (bc (decide (o=(6:Int))) (ctWrd.pre (o,IntKind.i64.wrap ((IntKind.i64.wrap (n-t)).tdiv (4:Int)),()) /\
 Q [.int .u32 (wrdV o (IntKind.i64.wrap ((IntKind.i64.wrap (n-t)).tdiv (4:Int))))] [(2,.var [.int .i64 o,.int .i64 a,.int .i64 b,.int .i64 c,.int .i64 n])]) (bc (decide (o=(7:Int))) (bc (decide (o=(7:Int))) ((0:Int)<=16 /\
 ctWrd.pre (o,bitI BinOp.or IntKind.i64 (IntKind.i64.wrap (a*(2:Int) ^ min (16) IntKind.i64.bits)) (bitI BinOp.and IntKind.i64 (IntKind.i64.wrap ((IntKind.i64.wrap (n-t)).tdiv (4:Int))) (65535:Int)),()) /\
 Q [.int .u32 (wrdV o (bitI BinOp.or IntKind.i64 (IntKind.i64.wrap (a*(2:Int) ^ min (16) IntKind.i64.bits)) (bitI BinOp.and IntKind.i64 (IntKind.i64.wrap ((IntKind.i64.wrap (n-t)).tdiv (4:Int))) (65535:Int))))] [(2,.var [.int .i64 o,.int .i64 a,.int .i64 b,.int .i64 c,.int .i64 n])]) (Q [.int .u32 (IntKind.u32.wrap n)] [(2,.var [.int .i64 o,.int .i64 a,.int .i64 b,.int .i64 c,.int .i64 n])])) (bc (decide (o=(8:Int))) ((0:Int)<=16 /\
 ctWrd.pre (o,bitI BinOp.or IntKind.i64 (IntKind.i64.wrap (a*(2:Int) ^ min (16) IntKind.i64.bits)) (bitI BinOp.and IntKind.i64 (IntKind.i64.wrap ((IntKind.i64.wrap (n-t)).tdiv (4:Int))) (65535:Int)),()) /\
 Q [.int .u32 (wrdV o (bitI BinOp.or IntKind.i64 (IntKind.i64.wrap (a*(2:Int) ^ min (16) IntKind.i64.bits)) (bitI BinOp.and IntKind.i64 (IntKind.i64.wrap ((IntKind.i64.wrap (n-t)).tdiv (4:Int))) (65535:Int))))] [(2,.var [.int .i64 o,.int .i64 a,.int .i64 b,.int .i64 c,.int .i64 n])]) (Q [.int .u32 (IntKind.u32.wrap n)] [(2,.var [.int .i64 o,.int .i64 a,.int .i64 b,.int .i64 c,.int .i64 n])]))))))) (bc (decide (o=(4:Int))) ((0:Int)<=16 /\
 (0:Int)<=8 /\
 ctWrd.pre (o,bitI BinOp.or IntKind.i64 (bitI BinOp.or IntKind.i64 (IntKind.i64.wrap (a*(2:Int) ^ min (16) IntKind.i64.bits)) (IntKind.i64.wrap (b*(2:Int) ^ min (8) IntKind.i64.bits))) c,()) /\
 Q [.int .u32 (wrdV o (bitI BinOp.or IntKind.i64 (bitI BinOp.or IntKind.i64 (IntKind.i64.wrap (a*(2:Int) ^ min (16) IntKind.i64.bits)) (IntKind.i64.wrap (b*(2:Int) ^ min (8) IntKind.i64.bits))) c))] [(2,.var [.int .i64 o,.int .i64 a,.int .i64 b,.int .i64 c,.int .i64 n])]) (bc (decide (o=(2:Int))) ((0:Int)<=16 /\
 ctWrd.pre (o,bitI BinOp.or IntKind.i64 (IntKind.i64.wrap (a*(2:Int) ^ min (16) IntKind.i64.bits)) (bitI BinOp.and IntKind.i64 n (65535:Int)),()) /\
 Q [.int .u32 (wrdV o (bitI BinOp.or IntKind.i64 (IntKind.i64.wrap (a*(2:Int) ^ min (16) IntKind.i64.bits)) (bitI BinOp.and IntKind.i64 n (65535:Int))))] [(2,.var [.int .i64 o,.int .i64 a,.int .i64 b,.int .i64 c,.int .i64 n])]) (bc (decide (o=(5:Int))) (bc (decide (o=(5:Int))) (ctWrd.pre (o,IntKind.i64.wrap ((IntKind.i64.wrap (n-t)).tdiv (4:Int)),()) /\
 Q [.int .u32 (wrdV o (IntKind.i64.wrap ((IntKind.i64.wrap (n-t)).tdiv (4:Int))))] [(2,.var [.int .i64 o,.int .i64 a,.int .i64 b,.int .i64 c,.int .i64 n])]) (bc (decide (o=(7:Int))) (bc (decide (o=(7:Int))) ((0:Int)<=16 /\
 ctWrd.pre (o,bitI BinOp.or IntKind.i64 (IntKind.i64.wrap (a*(2:Int) ^ min (16) IntKind.i64.bits)) (bitI BinOp.and IntKind.i64 (IntKind.i64.wrap ((IntKind.i64.wrap (n-t)).tdiv (4:Int))) (65535:Int)),()) /\
 Q [.int .u32 (wrdV o (bitI BinOp.or IntKind.i64 (IntKind.i64.wrap (a*(2:Int) ^ min (16) IntKind.i64.bits)) (bitI BinOp.and IntKind.i64 (IntKind.i64.wrap ((IntKind.i64.wrap (n-t)).tdiv (4:Int))) (65535:Int))))] [(2,.var [.int .i64 o,.int .i64 a,.int .i64 b,.int .i64 c,.int .i64 n])]) (Q [.int .u32 (IntKind.u32.wrap n)] [(2,.var [.int .i64 o,.int .i64 a,.int .i64 b,.int .i64 c,.int .i64 n])])) (bc (decide (o=(8:Int))) ((0:Int)<=16 /\
 ctWrd.pre (o,bitI BinOp.or IntKind.i64 (IntKind.i64.wrap (a*(2:Int) ^ min (16) IntKind.i64.bits)) (bitI BinOp.and IntKind.i64 (IntKind.i64.wrap ((IntKind.i64.wrap (n-t)).tdiv (4:Int))) (65535:Int)),()) /\
 Q [.int .u32 (wrdV o (bitI BinOp.or IntKind.i64 (IntKind.i64.wrap (a*(2:Int) ^ min (16) IntKind.i64.bits)) (bitI BinOp.and IntKind.i64 (IntKind.i64.wrap ((IntKind.i64.wrap (n-t)).tdiv (4:Int))) (65535:Int))))] [(2,.var [.int .i64 o,.int .i64 a,.int .i64 b,.int .i64 c,.int .i64 n])]) (Q [.int .u32 (IntKind.u32.wrap n)] [(2,.var [.int .i64 o,.int .i64 a,.int .i64 b,.int .i64 c,.int .i64 n])])))) (bc (decide (o=(6:Int))) (ctWrd.pre (o,IntKind.i64.wrap ((IntKind.i64.wrap (n-t)).tdiv (4:Int)),()) /\
 Q [.int .u32 (wrdV o (IntKind.i64.wrap ((IntKind.i64.wrap (n-t)).tdiv (4:Int))))] [(2,.var [.int .i64 o,.int .i64 a,.int .i64 b,.int .i64 c,.int .i64 n])]) (bc (decide (o=(7:Int))) (bc (decide (o=(7:Int))) ((0:Int)<=16 /\
 ctWrd.pre (o,bitI BinOp.or IntKind.i64 (IntKind.i64.wrap (a*(2:Int) ^ min (16) IntKind.i64.bits)) (bitI BinOp.and IntKind.i64 (IntKind.i64.wrap ((IntKind.i64.wrap (n-t)).tdiv (4:Int))) (65535:Int)),()) /\
 Q [.int .u32 (wrdV o (bitI BinOp.or IntKind.i64 (IntKind.i64.wrap (a*(2:Int) ^ min (16) IntKind.i64.bits)) (bitI BinOp.and IntKind.i64 (IntKind.i64.wrap ((IntKind.i64.wrap (n-t)).tdiv (4:Int))) (65535:Int))))] [(2,.var [.int .i64 o,.int .i64 a,.int .i64 b,.int .i64 c,.int .i64 n])]) (Q [.int .u32 (IntKind.u32.wrap n)] [(2,.var [.int .i64 o,.int .i64 a,.int .i64 b,.int .i64 c,.int .i64 n])])) (bc (decide (o=(8:Int))) ((0:Int)<=16 /\
 ctWrd.pre (o,bitI BinOp.or IntKind.i64 (IntKind.i64.wrap (a*(2:Int) ^ min (16) IntKind.i64.bits)) (bitI BinOp.and IntKind.i64 (IntKind.i64.wrap ((IntKind.i64.wrap (n-t)).tdiv (4:Int))) (65535:Int)),()) /\
 Q [.int .u32 (wrdV o (bitI BinOp.or IntKind.i64 (IntKind.i64.wrap (a*(2:Int) ^ min (16) IntKind.i64.bits)) (bitI BinOp.and IntKind.i64 (IntKind.i64.wrap ((IntKind.i64.wrap (n-t)).tdiv (4:Int))) (65535:Int))))] [(2,.var [.int .i64 o,.int .i64 a,.int .i64 b,.int .i64 c,.int .i64 n])]) (Q [.int .u32 (IntKind.u32.wrap n)] [(2,.var [.int .i64 o,.int .i64 a,.int .i64 b,.int .i64 c,.int .i64 n])]))))))))):=by kernel_rfl
end Go.Proofs.YtplkpodikhfcdaaDoor
namespace Go.Proofs.YtplkpodikhfcdaaDoor
open Go.Px Go.Ax
set_option maxRecDepth 100000
attribute [local irreducible] Go.Px.sy Go.Px.syE
theorem u4_ex (v:Int):∃ r:Int,[SV.int .u32 v]=[SV.int .u32 r]:=⟨v,rfl⟩
theorem q69 (o a b c n t:Int):∃ r:Int,GD 54 Tryd.f54 (fun rs _=>rs=[SV.int .u32 r]) [.code (qah Tryd.f54)] (entry [i5s,iI] ((o,a,b,c,n),t,())):=by
 have e:=fun r:Int=>qnc o a b c n t (fun rs _=>rs=[SV.int .u32 r]) R00
 have h:∃ r:Int,sy tt G0 CRd Tryd.f54.ntmps Tryd.f54.results.toList (fun rs _=>rs=[SV.int .u32 r]) R00 1000 [.code (qah Tryd.f54)] (entry [i5s,iI] ((o,a,b,c,n),t,())):=by
  simp only[e]
  repeat' first
   | exact u4_ex _
   | refine qdq (by decide) ?_
   | refine qdq trivial ?_
   | refine qxg (fun _=>?_) (fun _=>?_)
 obtain ⟨r,h⟩:=h;exact ⟨r,ql5 cxRd (qnc o a b c n t _ _) ((qnc o a b c n t _ R00).mp h)⟩
noncomputable def guV (x:InT) (t:Int):Int:=Classical.choose (q69 x.1 x.2.1 x.2.2.1 x.2.2.2.1 x.2.2.2.2 t)
noncomputable def ctGu:Ctr:=⟨[i5s,iI],fun _=>True,fun x=>[.int .u32 (guV x.1 x.2.1)],fun _=>[]⟩
theorem q43:Held Tryd.prog G0 54 ctGu:=Held.of cxRd (fn:=Tryd.f54) rfl rfl ⟨by decide,by decide⟩ fun ⟨⟨o,a,b,c,n⟩,t,_⟩ _=>(Classical.choose_spec (q69 o a b c n t)).post fun rs blk h=>by
 subst h;exact QC.flat rfl rfl rfl
end Go.Proofs.YtplkpodikhfcdaaDoor
namespace Go.Proofs.YtplkpodikhfcdaaDoor
open Go.Px Go.Ax
set_option maxRecDepth 100000
noncomputable def CRe:CV:=[(54,.inl ctGu),(34,.inl ctRd)]
theorem cxRe:CxOK Tryd.prog tt G0 CRe:=(cx0.cons q3p (fn:=Tryd.f34) rfl rfl rfl).cons q43 (fn:=Tryd.f54) rfl rfl rfl
set_option maxRecDepth 100000
theorem qnd (o a b c n t:Int) (Q:QT) (R:RT):sy tt G0 CRe Tryd.f30.ntmps Tryd.f30.results.toList Q R 1000 [.code (qah Tryd.f30)] (entry [i5s,iI] ((o,a,b,c,n),t,())) =
  (ctGu.pre ((o,a,b,c,n),t,()) /\
 ctRd.pre (guV (o,a,b,c,n) t,t,()) /\
 bc (!decide ([(rdV (guV (o,a,b,c,n) t) t).1,(rdV (guV (o,a,b,c,n) t) t).2.1,(rdV (guV (o,a,b,c,n) t) t).2.2.1,(rdV (guV (o,a,b,c,n) t) t).2.2.2.1,(rdV (guV (o,a,b,c,n) t) t).2.2.2.2]=[o,a,b,c,n])) (Q [.int .u32 0,.int .i64 20] [(2,.var [.int .i64 o,.int .i64 a,.int .i64 b,.int .i64 c,.int .i64 n])]) (Q [.int .u32 (guV (o,a,b,c,n) t),.int .i64 0] [(2,.var [.int .i64 o,.int .i64 a,.int .i64 b,.int .i64 c,.int .i64 n])])):=by kernel_rfl
end Go.Proofs.YtplkpodikhfcdaaDoor
namespace Go.Proofs.YtplkpodikhfcdaaDoor
open Go.Px Go.Ax
set_option maxRecDepth 100000
attribute [local irreducible] Go.Px.sy Go.Px.syE
theorem q7g (o a b c n t:Int):∃ r:Int × Int,GD 30 Tryd.f30 (fun rs _=>rs=[SV.int .u32 r.1,.int .i64 r.2]) [.code (qah Tryd.f30)] (entry [i5s,iI] ((o,a,b,c,n),t,())):=by
 have e:=fun r:Int × Int=>qnd o a b c n t (fun rs _=>rs=[SV.int .u32 r.1,.int .i64 r.2]) R00
 have h:∃ r:Int × Int,sy tt G0 CRe Tryd.f30.ntmps Tryd.f30.results.toList (fun rs _=>rs=[SV.int .u32 r.1,.int .i64 r.2]) R00 1000 [.code (qah Tryd.f30)] (entry [i5s,iI] ((o,a,b,c,n),t,())):=by
  simp only[e];exact qdq trivial (qdq trivial (qxg (fun _=>⟨(0,20),rfl⟩) (fun _=>⟨(_,0),rfl⟩)))
 obtain ⟨r,h⟩:=h;exact ⟨r,ql5 cxRe (qnd o a b c n t _ _) ((qnd o a b c n t _ R00).mp h)⟩
noncomputable def enR (x:InT) (t:Int):Int × Int:=Classical.choose (q7g x.1 x.2.1 x.2.2.1 x.2.2.2.1 x.2.2.2.2 t)
noncomputable def ctEn:Ctr:=⟨[i5s,iI],fun _=>True,fun x=>[.int .u32 (enR x.1 x.2.1).1,.int .i64 (enR x.1 x.2.1).2],fun _=>[]⟩
theorem q49:Held Tryd.prog G0 30 ctEn:=Held.of cxRe (fn:=Tryd.f30) rfl rfl ⟨by decide,by decide⟩ fun ⟨⟨o,a,b,c,n⟩,t,_⟩ _=>(Classical.choose_spec (q7g o a b c n t)).post fun rs blk h=>by
 subst h;exact QC.flat rfl rfl rfl
end Go.Proofs.YtplkpodikhfcdaaDoor
namespace Go.Proofs.YtplkpodikhfcdaaDoor
open Go.Px Go.Ax
set_option maxRecDepth 100000
abbrev a4S:Sh:=.arr 4 uB
noncomputable def CCd:CV:=[(29,.inl ctMad),(30,.inl ctEn),(23,.inl ctByt)]
theorem cxCd:CxOK Tryd.prog tt G0 CCd:=((cx0.cons q01 (fn:=Tryd.f23) rfl rfl rfl).cons q49 (fn:=Tryd.f30) rfl rfl rfl).cons qzv (fn:=Tryd.f29) rfl rfl rfl
set_option maxRecDepth 100000
theorem q6b (l:List (List Int)) (n:Int) (Q:QT) (R:RT):sy tt G0 CCd Tryd.f12.ntmps Tryd.f12.results.toList Q (fun it S=>R it (qbd [0,5,6,7] [13,81] S)) 1000 [.code (qah Tryd.f12)] (entry [.sl a4S,iI] (l,n,())) =
  (R (hd Tryd.f12 0) { env:=[(0,.sl (Sh.arr (4:Nat) uB) l),(5,.win true u4 13 0 (0:Nat)),(6,.int .i64 (min (l.length:Int) n)),(7,.int .i64 0)],blk:=[(13,.row 53 u4 (List.replicate (0:Nat) u4.dflt))] }):=by kernel_rfl
theorem qu7 (l:List (List Int)) (o:List Int) (n:Int) (i:Nat) (Q:QT) (R:RT):sy tt G0 CCd Tryd.f12.ntmps Tryd.f12.results.toList Q (fun it S=>R it (qbd [0,5,6,7] [13,81] S)) 1000 (hd Tryd.f12 0) ⟨[(0,.sl a4S l),(5,.win true u4 13 0 o.length),(6,.int .i64 n),(7,.int .i64 (i:Nat))],[(13,.row 53 u4 o)]⟩ =
  (bc (decide ((i:Int)<n)) ((0:Int)<=(i:Int) /\
 (i:Int)<(l.length:Int) /\
 ctMad.pre (gt (Sh.arr (4:Nat) uB) l (i:Int).toNat,()) /\
 (0:Int)<=(i:Int) /\
 (i:Int)<(l.length:Int) /\
 (0:Int)<=0 /\
 (0:Int)<(↑(4:Nat):Int) /\
 (16:Int)≠0 /\
 bc (decide ((5:Int)<=(IntKind.i64.wrap (gtB (gt (Sh.arr (4:Nat) uB) l (i:Int).toNat) (0))).tmod (16:Int))) (bc (decide ((IntKind.i64.wrap (gtB (gt (Sh.arr (4:Nat) uB) l (i:Int).toNat) (0))).tmod (16:Int)<=8)) ((0:Int)<=(i:Int) /\
 (i:Int)<(l.length:Int) /\
 (0:Int)<=2 /\
 (2:Int)<(↑(4:Nat):Int) /\
 IntKind.i64.wrap (n+2)≠0 /\
 bc (decide ((IntKind.i64.wrap (gtB (gt (Sh.arr (4:Nat) uB) l (i:Int).toNat) (0))).tmod (16:Int)=(7:Int))) (true=true /\
 (0:Int)<=(i:Int) /\
 (i:Int)<(l.length:Int) /\
 (0:Int)<=1 /\
 (1:Int)<(↑(4:Nat):Int) /\
 (16:Int)≠0 /\
 ctEn.pre (((IntKind.i64.wrap (gtB (gt (Sh.arr (4:Nat) uB) l (i:Int).toNat) (0))).tmod (16:Int),(IntKind.i64.wrap (gtB (gt (Sh.arr (4:Nat) uB) l (i:Int).toNat) (1))).tmod (16:Int),(0:Int),(0:Int),IntKind.i64.wrap ((4:Int)*IntKind.i64.wrap ((IntKind.i64.wrap (gtB (gt (Sh.arr (4:Nat) uB) l (i:Int).toNat) (2))).tmod (IntKind.i64.wrap (n+2))-1))),IntKind.i64.wrap ((4:Int)*(i:Int)),()) /\
 bc (decide ((enR ((IntKind.i64.wrap (gtB (gt (Sh.arr (4:Nat) uB) l (i:Int).toNat) (0))).tmod (16:Int),(IntKind.i64.wrap (gtB (gt (Sh.arr (4:Nat) uB) l (i:Int).toNat) (1))).tmod (16:Int),(0:Int),(0:Int),IntKind.i64.wrap ((4:Int)*IntKind.i64.wrap ((IntKind.i64.wrap (gtB (gt (Sh.arr (4:Nat) uB) l (i:Int).toNat) (2))).tmod (IntKind.i64.wrap (n+2))-1))) (IntKind.i64.wrap ((4:Int)*(i:Int)))).2=(0:Int))) ((0:Nat)+1<=((List.replicate (1:Nat) u4.dflt).set (0:Nat) (enR ((IntKind.i64.wrap (gtB (gt (Sh.arr (4:Nat) uB) l (i:Int).toNat) (0))).tmod (16:Int),(IntKind.i64.wrap (gtB (gt (Sh.arr (4:Nat) uB) l (i:Int).toNat) (1))).tmod (16:Int),(0:Int),(0:Int),IntKind.i64.wrap ((4:Int)*IntKind.i64.wrap ((IntKind.i64.wrap (gtB (gt (Sh.arr (4:Nat) uB) l (i:Int).toNat) (2))).tmod (IntKind.i64.wrap (n+2))-1))) (IntKind.i64.wrap ((4:Int)*(i:Int)))).1).length /\
 o.length=o.length /\
 (0:Nat)=(0:Nat) /\
 o.length+(winL u4 0 1 ((List.replicate (1:Nat) u4.dflt).set (0:Nat) (enR ((IntKind.i64.wrap (gtB (gt (Sh.arr (4:Nat) uB) l (i:Int).toNat) (0))).tmod (16:Int),(IntKind.i64.wrap (gtB (gt (Sh.arr (4:Nat) uB) l (i:Int).toNat) (1))).tmod (16:Int),(0:Int),(0:Int),IntKind.i64.wrap ((4:Int)*IntKind.i64.wrap ((IntKind.i64.wrap (gtB (gt (Sh.arr (4:Nat) uB) l (i:Int).toNat) (2))).tmod (IntKind.i64.wrap (n+2))-1))) (IntKind.i64.wrap ((4:Int)*(i:Int)))).1)).length<2 ^ 30 /\
 (4:Nat)<=2 ^ 10 /\
 R (hd Tryd.f12 0) { env:=[(0,.sl (Sh.arr (4:Nat) uB) l),(5,.win true u4 81 0 (o.length+(winL u4 0 1 ((List.replicate (1:Nat) u4.dflt).set (0:Nat) (enR ((IntKind.i64.wrap (gtB (gt (Sh.arr (4:Nat) uB) l (i:Int).toNat) (0))).tmod (16:Int),(IntKind.i64.wrap (gtB (gt (Sh.arr (4:Nat) uB) l (i:Int).toNat) (1))).tmod (16:Int),(0:Int),(0:Int),IntKind.i64.wrap ((4:Int)*IntKind.i64.wrap ((IntKind.i64.wrap (gtB (gt (Sh.arr (4:Nat) uB) l (i:Int).toNat) (2))).tmod (IntKind.i64.wrap (n+2))-1))) (IntKind.i64.wrap ((4:Int)*(i:Int)))).1)).length)),(6,.int .i64 n),(7,.int .i64 (IntKind.i64.wrap ((i:Int)+1)))],blk:=[(81,.row 53 u4 (o++winL u4 0 1 ((List.replicate (1:Nat) u4.dflt).set (0:Nat) (enR ((IntKind.i64.wrap (gtB (gt (Sh.arr (4:Nat) uB) l (i:Int).toNat) (0))).tmod (16:Int),(IntKind.i64.wrap (gtB (gt (Sh.arr (4:Nat) uB) l (i:Int).toNat) (1))).tmod (16:Int),(0:Int),(0:Int),IntKind.i64.wrap ((4:Int)*IntKind.i64.wrap ((IntKind.i64.wrap (gtB (gt (Sh.arr (4:Nat) uB) l (i:Int).toNat) (2))).tmod (IntKind.i64.wrap (n+2))-1))) (IntKind.i64.wrap ((4:Int)*(i:Int)))).1)))] }) ((0:Nat)+1<=([(madV (gt (Sh.arr (4:Nat) uB) l (i:Int).toNat))]:List u4.D).length /\
 o.length=o.length /\
 (0:Nat)=(0:Nat) /\
 o.length+(([(madV (gt (Sh.arr (4:Nat) uB) l (i:Int).toNat))]:List u4.D)).length<2 ^ 30 /\
 (4:Nat)<=2 ^ 10 /\
 R (hd Tryd.f12 0) { env:=[(0,.sl (Sh.arr (4:Nat) uB) l),(5,.win true u4 81 0 (o.length+(([(madV (gt (Sh.arr (4:Nat) uB) l (i:Int).toNat))]:List u4.D)).length)),(6,.int .i64 n),(7,.int .i64 (IntKind.i64.wrap ((i:Int)+1)))],blk:=[(81,.row 53 u4 (o++([(madV (gt (Sh.arr (4:Nat) uB) l (i:Int).toNat))]:List u4.D)))] })) (bc (bif false then true else decide ((IntKind.i64.wrap (gtB (gt (Sh.arr (4:Nat) uB) l (i:Int).toNat) (0))).tmod (16:Int)=(8:Int))) ((0:Int)<=(i:Int) /\
 (i:Int)<(l.length:Int) /\
 (0:Int)<=1 /\
 (1:Int)<(↑(4:Nat):Int) /\
 (16:Int)≠0 /\
 ctEn.pre (((IntKind.i64.wrap (gtB (gt (Sh.arr (4:Nat) uB) l (i:Int).toNat) (0))).tmod (16:Int),(IntKind.i64.wrap (gtB (gt (Sh.arr (4:Nat) uB) l (i:Int).toNat) (1))).tmod (16:Int),(0:Int),(0:Int),IntKind.i64.wrap ((4:Int)*IntKind.i64.wrap ((IntKind.i64.wrap (gtB (gt (Sh.arr (4:Nat) uB) l (i:Int).toNat) (2))).tmod (IntKind.i64.wrap (n+2))-1))),IntKind.i64.wrap ((4:Int)*(i:Int)),()) /\
 bc (decide ((enR ((IntKind.i64.wrap (gtB (gt (Sh.arr (4:Nat) uB) l (i:Int).toNat) (0))).tmod (16:Int),(IntKind.i64.wrap (gtB (gt (Sh.arr (4:Nat) uB) l (i:Int).toNat) (1))).tmod (16:Int),(0:Int),(0:Int),IntKind.i64.wrap ((4:Int)*IntKind.i64.wrap ((IntKind.i64.wrap (gtB (gt (Sh.arr (4:Nat) uB) l (i:Int).toNat) (2))).tmod (IntKind.i64.wrap (n+2))-1))) (IntKind.i64.wrap ((4:Int)*(i:Int)))).2=(0:Int))) ((0:Nat)+1<=((List.replicate (1:Nat) u4.dflt).set (0:Nat) (enR ((IntKind.i64.wrap (gtB (gt (Sh.arr (4:Nat) uB) l (i:Int).toNat) (0))).tmod (16:Int),(IntKind.i64.wrap (gtB (gt (Sh.arr (4:Nat) uB) l (i:Int).toNat) (1))).tmod (16:Int),(0:Int),(0:Int),IntKind.i64.wrap ((4:Int)*IntKind.i64.wrap ((IntKind.i64.wrap (gtB (gt (Sh.arr (4:Nat) uB) l (i:Int).toNat) (2))).tmod (IntKind.i64.wrap (n+2))-1))) (IntKind.i64.wrap ((4:Int)*(i:Int)))).1).length /\
 o.length=o.length /\
 (0:Nat)=(0:Nat) /\
 o.length+(winL u4 0 1 ((List.replicate (1:Nat) u4.dflt).set (0:Nat) (enR ((IntKind.i64.wrap (gtB (gt (Sh.arr (4:Nat) uB) l (i:Int).toNat) (0))).tmod (16:Int),(IntKind.i64.wrap (gtB (gt (Sh.arr (4:Nat) uB) l (i:Int).toNat) (1))).tmod (16:Int),(0:Int),(0:Int),IntKind.i64.wrap ((4:Int)*IntKind.i64.wrap ((IntKind.i64.wrap (gtB (gt (Sh.arr (4:Nat) uB) l (i:Int).toNat) (2))).tmod (IntKind.i64.wrap (n+2))-1))) (IntKind.i64.wrap ((4:Int)*(i:Int)))).1)).length<2 ^ 30 /\
 (4:Nat)<=2 ^ 10 /\
 R (hd Tryd.f12 0) { env:=[(0,.sl (Sh.arr (4:Nat) uB) l),(5,.win true u4 81 0 (o.length+(winL u4 0 1 ((List.replicate (1:Nat) u4.dflt).set (0:Nat) (enR ((IntKind.i64.wrap (gtB (gt (Sh.arr (4:Nat) uB) l (i:Int).toNat) (0))).tmod (16:Int),(IntKind.i64.wrap (gtB (gt (Sh.arr (4:Nat) uB) l (i:Int).toNat) (1))).tmod (16:Int),(0:Int),(0:Int),IntKind.i64.wrap ((4:Int)*IntKind.i64.wrap ((IntKind.i64.wrap (gtB (gt (Sh.arr (4:Nat) uB) l (i:Int).toNat) (2))).tmod (IntKind.i64.wrap (n+2))-1))) (IntKind.i64.wrap ((4:Int)*(i:Int)))).1)).length)),(6,.int .i64 n),(7,.int .i64 (IntKind.i64.wrap ((i:Int)+1)))],blk:=[(81,.row 53 u4 (o++winL u4 0 1 ((List.replicate (1:Nat) u4.dflt).set (0:Nat) (enR ((IntKind.i64.wrap (gtB (gt (Sh.arr (4:Nat) uB) l (i:Int).toNat) (0))).tmod (16:Int),(IntKind.i64.wrap (gtB (gt (Sh.arr (4:Nat) uB) l (i:Int).toNat) (1))).tmod (16:Int),(0:Int),(0:Int),IntKind.i64.wrap ((4:Int)*IntKind.i64.wrap ((IntKind.i64.wrap (gtB (gt (Sh.arr (4:Nat) uB) l (i:Int).toNat) (2))).tmod (IntKind.i64.wrap (n+2))-1))) (IntKind.i64.wrap ((4:Int)*(i:Int)))).1)))] }) ((0:Nat)+1<=([(madV (gt (Sh.arr (4:Nat) uB) l (i:Int).toNat))]:List u4.D).length /\
 o.length=o.length /\
 (0:Nat)=(0:Nat) /\
 o.length+(([(madV (gt (Sh.arr (4:Nat) uB) l (i:Int).toNat))]:List u4.D)).length<2 ^ 30 /\
 (4:Nat)<=2 ^ 10 /\
 R (hd Tryd.f12 0) { env:=[(0,.sl (Sh.arr (4:Nat) uB) l),(5,.win true u4 81 0 (o.length+(([(madV (gt (Sh.arr (4:Nat) uB) l (i:Int).toNat))]:List u4.D)).length)),(6,.int .i64 n),(7,.int .i64 (IntKind.i64.wrap ((i:Int)+1)))],blk:=[(81,.row 53 u4 (o++([(madV (gt (Sh.arr (4:Nat) uB) l (i:Int).toNat))]:List u4.D)))] })) (ctEn.pre (((IntKind.i64.wrap (gtB (gt (Sh.arr (4:Nat) uB) l (i:Int).toNat) (0))).tmod (16:Int),(0:Int),(0:Int),(0:Int),IntKind.i64.wrap ((4:Int)*IntKind.i64.wrap ((IntKind.i64.wrap (gtB (gt (Sh.arr (4:Nat) uB) l (i:Int).toNat) (2))).tmod (IntKind.i64.wrap (n+2))-1))),IntKind.i64.wrap ((4:Int)*(i:Int)),()) /\
 bc (decide ((enR ((IntKind.i64.wrap (gtB (gt (Sh.arr (4:Nat) uB) l (i:Int).toNat) (0))).tmod (16:Int),(0:Int),(0:Int),(0:Int),IntKind.i64.wrap ((4:Int)*IntKind.i64.wrap ((IntKind.i64.wrap (gtB (gt (Sh.arr (4:Nat) uB) l (i:Int).toNat) (2))).tmod (IntKind.i64.wrap (n+2))-1))) (IntKind.i64.wrap ((4:Int)*(i:Int)))).2=(0:Int))) ((0:Nat)+1<=((List.replicate (1:Nat) u4.dflt).set (0:Nat) (enR ((IntKind.i64.wrap (gtB (gt (Sh.arr (4:Nat) uB) l (i:Int).toNat) (0))).tmod (16:Int),(0:Int),(0:Int),(0:Int),IntKind.i64.wrap ((4:Int)*IntKind.i64.wrap ((IntKind.i64.wrap (gtB (gt (Sh.arr (4:Nat) uB) l (i:Int).toNat) (2))).tmod (IntKind.i64.wrap (n+2))-1))) (IntKind.i64.wrap ((4:Int)*(i:Int)))).1).length /\
 o.length=o.length /\
 (0:Nat)=(0:Nat) /\
 o.length+(winL u4 0 1 ((List.replicate (1:Nat) u4.dflt).set (0:Nat) (enR ((IntKind.i64.wrap (gtB (gt (Sh.arr (4:Nat) uB) l (i:Int).toNat) (0))).tmod (16:Int),(0:Int),(0:Int),(0:Int),IntKind.i64.wrap ((4:Int)*IntKind.i64.wrap ((IntKind.i64.wrap (gtB (gt (Sh.arr (4:Nat) uB) l (i:Int).toNat) (2))).tmod (IntKind.i64.wrap (n+2))-1))) (IntKind.i64.wrap ((4:Int)*(i:Int)))).1)).length<2 ^ 30 /\
 (4:Nat)<=2 ^ 10 /\
 R (hd Tryd.f12 0) { env:=[(0,.sl (Sh.arr (4:Nat) uB) l),(5,.win true u4 81 0 (o.length+(winL u4 0 1 ((List.replicate (1:Nat) u4.dflt).set (0:Nat) (enR ((IntKind.i64.wrap (gtB (gt (Sh.arr (4:Nat) uB) l (i:Int).toNat) (0))).tmod (16:Int),(0:Int),(0:Int),(0:Int),IntKind.i64.wrap ((4:Int)*IntKind.i64.wrap ((IntKind.i64.wrap (gtB (gt (Sh.arr (4:Nat) uB) l (i:Int).toNat) (2))).tmod (IntKind.i64.wrap (n+2))-1))) (IntKind.i64.wrap ((4:Int)*(i:Int)))).1)).length)),(6,.int .i64 n),(7,.int .i64 (IntKind.i64.wrap ((i:Int)+1)))],blk:=[(81,.row 53 u4 (o++winL u4 0 1 ((List.replicate (1:Nat) u4.dflt).set (0:Nat) (enR ((IntKind.i64.wrap (gtB (gt (Sh.arr (4:Nat) uB) l (i:Int).toNat) (0))).tmod (16:Int),(0:Int),(0:Int),(0:Int),IntKind.i64.wrap ((4:Int)*IntKind.i64.wrap ((IntKind.i64.wrap (gtB (gt (Sh.arr (4:Nat) uB) l (i:Int).toNat) (2))).tmod (IntKind.i64.wrap (n+2))-1))) (IntKind.i64.wrap ((4:Int)*(i:Int)))).1)))] }) ((0:Nat)+1<=([(madV (gt (Sh.arr (4:Nat) uB) l (i:Int).toNat))]:List u4.D).length /\
 o.length=o.length /\
 (0:Nat)=(0:Nat) /\
 o.length+(([(madV (gt (Sh.arr (4:Nat) uB) l (i:Int).toNat))]:List u4.D)).length<2 ^ 30 /\
 (4:Nat)<=2 ^ 10 /\
 R (hd Tryd.f12 0) { env:=[(0,.sl (Sh.arr (4:Nat) uB) l),(5,.win true u4 81 0 (o.length+(([(madV (gt (Sh.arr (4:Nat) uB) l (i:Int).toNat))]:List u4.D)).length)),(6,.int .i64 n),(7,.int .i64 (IntKind.i64.wrap ((i:Int)+1)))],blk:=[(81,.row 53 u4 (o++([(madV (gt (Sh.arr (4:Nat) uB) l (i:Int).toNat))]:List u4.D)))] })))) ((0:Nat)+1<=([(madV (gt (Sh.arr (4:Nat) uB) l (i:Int).toNat))]:List u4.D).length /\
 o.length=o.length /\
 (0:Nat)=(0:Nat) /\
 o.length+(([(madV (gt (Sh.arr (4:Nat) uB) l (i:Int).toNat))]:List u4.D)).length<2 ^ 30 /\
 (4:Nat)<=2 ^ 10 /\
 R (hd Tryd.f12 0) { env:=[(0,.sl (Sh.arr (4:Nat) uB) l),(5,.win true u4 81 0 (o.length+(([(madV (gt (Sh.arr (4:Nat) uB) l (i:Int).toNat))]:List u4.D)).length)),(6,.int .i64 n),(7,.int .i64 (IntKind.i64.wrap ((i:Int)+1)))],blk:=[(81,.row 53 u4 (o++([(madV (gt (Sh.arr (4:Nat) uB) l (i:Int).toNat))]:List u4.D)))] })) (false=false /\
 (0:Nat)+1<=([(madV (gt (Sh.arr (4:Nat) uB) l (i:Int).toNat))]:List u4.D).length /\
 o.length=o.length /\
 (0:Nat)=(0:Nat) /\
 o.length+(([(madV (gt (Sh.arr (4:Nat) uB) l (i:Int).toNat))]:List u4.D)).length<2 ^ 30 /\
 (4:Nat)<=2 ^ 10 /\
 R (hd Tryd.f12 0) { env:=[(0,.sl (Sh.arr (4:Nat) uB) l),(5,.win true u4 81 0 (o.length+(([(madV (gt (Sh.arr (4:Nat) uB) l (i:Int).toNat))]:List u4.D)).length)),(6,.int .i64 n),(7,.int .i64 (IntKind.i64.wrap ((i:Int)+1)))],blk:=[(81,.row 53 u4 (o++([(madV (gt (Sh.arr (4:Nat) uB) l (i:Int).toNat))]:List u4.D)))] })) ((0:Nat)+o.length<=o.length /\
 ctByt.pre (winL u4 0 o.length o,()) /\
 Q [.win true uB 1339968 0 (bytL (winL u4 0 o.length o)).length] [(13,.row 53 u4 o),(1339968,.row 5 uB (bytL (winL u4 0 o.length o)))])):=by kernel_rfl
end Go.Proofs.YtplkpodikhfcdaaDoor
namespace Go.Proofs.YtplkpodikhfcdaaDoor
open Go.Px Go.Ax
set_option maxRecDepth 100000
theorem qe6 {l:List Int} {i j:Nat} {v:Int} (h:i<l.length):gtI (l.set i v) j=if j=i then v else gtI l j:=by
 show gt iI _ j=_
 unfold gt;by_cases e:j=i
 ·subst e;rw[if_pos rfl,List.getElem?_set_self h];rfl
 ·rw[if_neg e,List.getElem?_set_ne (fun q=>e q.symm)];rfl
theorem qhu {l:List Int} {j:Nat} (h:j+1<l.length) (i:Nat):gtI (swp l j) i=if i=j then gtI l (j+1) else if i=j+1 then gtI l j else gtI l i:=by
 unfold swp;rw[qe6 (by rw[List.length_set];omega)];split
 ·rfl
 ·rw[qe6 h]
def inI' (n:Nat) (l:List Int) (x:Int):Prop:=∃ i,i<n/\gtI l i=x
theorem q6j {l:List Int} {j:Nat} (h:j+1<l.length) (x:Int):inI' l.length (swp l j) x↔inI' l.length l x:=by
 constructor
 ·rintro ⟨i,hi,e⟩;rw[qhu h] at e;split at e
  ·exact ⟨j+1,h,e⟩
  ·split at e
   ·exact ⟨j,by omega,e⟩
   ·exact ⟨i,hi,e⟩
 ·rintro ⟨i,hi,e⟩;by_cases h1:i=j
  ·exact ⟨j+1,h,by rw[qhu h,if_neg (by omega),if_pos rfl,<- h1];exact e⟩
  ·by_cases h2:i=j+1
   ·exact ⟨j,by omega,by rw[qhu h,if_pos rfl,<- h2];exact e⟩
   ·exact ⟨i,hi,by rw[qhu h,if_neg h1,if_neg h2];exact e⟩
def srt (m:Nat) (l:List Int):Prop:=∀ a b,a<b->b<m->gtI l a<=gtI l b
theorem qvi {m:Nat}:∀ (j:Nat) (l:List Int),j<m->m<=l.length->(∀ a b,a<b->b<m->a≠j->b≠j->gtI l a<=gtI l b)->(∀ b,j<b->b<m->gtI l j<=gtI l b) ->
  srt m (qi6 j l)/\(∀ x,inI' l.length (qi6 j l) x↔inI' l.length l x)/\∀ i,m<=i->gtI (qi6 j l) i=gtI l i
 | 0,l,hj,hm,h1,h2=>by
  refine ⟨fun a b hab hb=>?_,fun x=>Iff.rfl,fun i _=>rfl⟩;by_cases ha:a=0
  ·subst ha;exact h2 b hab hb
  ·exact h1 a b hab hb ha (by omega)
 | j+1,l,hj,hm,h1,h2=>by
  rw[qi6];split
  ·rename_i hlt;have hjl:j+1<l.length:=by omega
   obtain ⟨r1,r2,r3⟩:=qvi (m:=m) j (swp l j) (by omega) (by rw[qkt];exact hm)
    (fun a b hab hb ha hb'=>by
     rw[qhu hjl,qhu hjl,if_neg ha,if_neg hb'];by_cases e1:a=j+1
     ·rw[if_pos e1,if_neg (by omega)];exact h1 j b (by omega) hb (by omega) (by omega)
     ·rw[if_neg e1];by_cases e2:b=j+1
      ·rw[if_pos e2];exact h1 a j (by omega) (by omega) e1 (by omega)
      ·rw[if_neg e2];exact h1 a b hab hb e1 e2)
    (fun b hb hbm=>by
     rw[qhu hjl,qhu hjl,if_pos rfl,if_neg (by omega)];by_cases e2:b=j+1
     ·rw[if_pos e2];omega
     ·rw[if_neg e2];exact h2 b (by omega) hbm)
   rw[qkt] at r2;exact ⟨r1,fun x=>(r2 x).trans (q6j hjl x),fun i hi=>by rw[r3 i hi,qhu hjl,if_neg (by omega),if_neg (by omega)]⟩
  ·rename_i hlt;refine ⟨fun a b hab hb=>?_,fun x=>Iff.rfl,fun i _=>rfl⟩;by_cases ha:a=j+1
   ·subst ha;exact h2 b hab hb
   ·by_cases hb':b=j+1
    ·subst hb';by_cases e:a=j
     ·subst e;omega
     ·have:=h1 a j (by omega) (by omega) ha (by omega);omega
    ·exact h1 a b hab hb ha hb'
theorem q2c:∀ (k i:Nat) (l:List Int),i+k<=l.length->1<=i->srt i l->srt (i+k) (insF k i l)/\(∀ x,inI' l.length (insF k i l) x↔inI' l.length l x)
 | 0,i,l,_,_,h=>⟨h,fun x=>Iff.rfl⟩
 | k+1,i,l,hl,hi,h=>by
  rw[insF];obtain ⟨s1,s2,s3⟩:=qvi (m:=i+1) i l (by omega) (by omega) (fun a b hab hb ha hb'=>h a b hab (by omega)) (fun b hb hbm=>by omega);obtain ⟨r1,r2⟩:=q2c k (i+1) (qi6 i l) (by rw[qfk];omega) (by omega) s1;rw[qfk] at r2;exact ⟨by rw[show i+(k+1)=i+1+k by omega];exact r1,fun x=>(r2 x).trans (s2 x)⟩
theorem qvg (l:List Int):srt l.length (qeb l)/\∀ x,inI' l.length (qeb l) x↔inI' l.length l x:=by
 unfold qeb;by_cases h:l.length=0
 ·refine ⟨fun a b _ hb=>by omega,fun x=>?_⟩;rw[h];exact ⟨fun ⟨i,hi,_⟩=>by omega,fun ⟨i,hi,_⟩=>by omega⟩
 ·obtain ⟨r1,r2⟩:=q2c (l.length-1) 1 l (by omega) (Nat.le_refl _) (fun a b hab hb=>by omega);rw[show 1+(l.length-1)=l.length by omega] at r1;exact ⟨r1,r2⟩
def inc (m:Nat) (l:List Int):Prop:=∀ a b,a<b->b<m->gtI l a<gtI l b
theorem q0d {k:Nat} {l:List Int} {v:Int} (h:inc k l) (hk:k<l.length) (hv:0<k->gtI l (k-1)<v):inc (k+1) (l.set k v):=by
 intro a b hab hb;rw[qe6 hk,qe6 hk,if_neg (by omega)];by_cases e:b=k
 ·rw[if_pos e];by_cases e2:a=k-1
  ·rw[e2];exact hv (by omega)
  ·have:=h a (k-1) (by omega) (by omega);have:=hv (by omega);omega
 ·rw[if_neg e];exact h a b hab (by omega)
theorem qxq {L:List Int} (hs:srt L.length L) {lo:Nat}:∀ (f m k:Nat) (l:List Int),l.length=L.length->lo+m+f=L.length->1<=m->1<=k->k+1<=lo+m->inc k l->(∀ x,inI' k l x↔inI' (lo+m) L x)->gtI l (k-1)=gtI L (lo+m-1)->(∀ i,lo+m-1<=i->gtI l i=gtI L i) ->
  (cpJ lo f m k l).1<=L.length/\(cpJ lo f m k l).2.length=L.length/\inc (cpJ lo f m k l).1 (cpJ lo f m k l).2/\∀ x,inI' (cpJ lo f m k l).1 (cpJ lo f m k l).2 x↔inI' L.length L x
 | 0,m,k,l,hl,hf,hm,hk1,hk,hi,hin,_,_=>by
  rw[cpJ];rw[show lo+m=L.length by omega] at hin;exact ⟨by show k<=_;omega,hl,hi,hin⟩
 | f+1,m,k,l,hl,hf,hm,hk1,hk,hi,hin,hlast,hun=>by
  rw[cpJ];have e1:gtI l (lo+m)=gtI L (lo+m):=hun _ (by omega);have e2:gtI l (lo+(m-1))=gtI L (lo+m-1):=by rw[hun _ (by omega),show lo+(m-1)=lo+m-1 by omega]
  rw[e1,e2];split
  ·rename_i hne;have hle:=hs (lo+m-1) (lo+m) (by omega) (by omega);refine qxq hs f (m+1) (k+1) (l.set k (gtI L (lo+m))) (by rw[List.length_set];exact hl) (by omega) (by omega) (by omega) (by omega) (q0d hi (by omega) fun _=>by rw[hlast];omega) (fun x=>?_) (by rw[qe6 (by omega),if_pos (by omega)];congr 1) (fun i hi2=>by rw[qe6 (by omega),if_neg (by omega)];exact hun i (by omega));constructor
   ·rintro ⟨i,hi3,e⟩;rw[qe6 (by omega)] at e;split at e
    ·exact ⟨lo+m,by omega,e⟩
    ·obtain ⟨j,hj,e⟩:=(hin x).1 ⟨i,by omega,e⟩;exact ⟨j,by omega,e⟩
   ·rintro ⟨i,hi3,e⟩;by_cases h3:i=lo+m
    ·exact ⟨k,by omega,by rw[qe6 (by omega),if_pos rfl,<- h3];exact e⟩
    ·obtain ⟨j,hj,e⟩:=(hin x).2 ⟨i,by omega,e⟩;exact ⟨j,by omega,by rw[qe6 (by omega),if_neg (by omega)];exact e⟩
  ·rename_i heq;have heq:gtI L (lo+m)=gtI L (lo+m-1):=Decidable.not_not.1 heq;refine qxq hs f (m+1) k l hl (by omega) (by omega) hk1 (by omega) hi (fun x=>?_) (by rw[hlast,show lo+(m+1)-1=lo+m by omega,heq]) (fun i hi2=>hun i (by omega));rw[hin x];constructor
   ·rintro ⟨i,hi3,e⟩;exact ⟨i,by omega,e⟩
   ·rintro ⟨i,hi3,e⟩;by_cases h3:i=lo+m
    ·exact ⟨lo+m-1,by omega,by rw[<- heq,<- h3];exact e⟩
    ·exact ⟨i,by omega,e⟩
theorem q46 {k i:Nat} {l:List Int} (h:i<k):gtI (winL iI 0 k l) i=gtI l i:=by
 show gt iI _ _=gt iI _ _
 unfold gt winL;rw[List.drop_zero,List.getElem?_take_of_lt h]
theorem qgp {l:List Int} {k i:Nat} {z:List Int} (h:i<k) (hk:k<=l.length):gtI (setRow l k z) i=gtI l i:=by
 show gt iI _ _=gt iI _ _
 unfold gt setRow;rw[List.append_assoc,List.getElem?_append_left (by rw[List.length_take];omega),List.getElem?_take_of_lt h]
theorem q2j {L:List Int} (hs:srt L.length L):∀ (f k:Nat),k+f=L.length->1<=k->inc k L ->
  (cpI f k L).2.1<=L.length/\(cpI f k L).2.2.length=L.length/\inc (cpI f k L).2.1 (cpI f k L).2.2/\∀ x,inI' (cpI f k L).2.1 (cpI f k L).2.2 x↔inI' L.length L x
 | 0,k,hf,hk,hi=>by
  rw[cpI];rw[show k=L.length by omega] at hi;exact ⟨Nat.le_refl _,rfl,hi,fun x=>Iff.rfl⟩
 | f+1,k,hf,hk,hi=>by
  rw[cpI];split
  ·rename_i heq
   obtain ⟨r1,r2,r3,r4⟩:=qxq hs (lo:=k) (L.length-k-1) 1 k L rfl (by omega) (Nat.le_refl _) hk (Nat.le_refl _) hi (fun x=>by
    constructor
    ·rintro ⟨i,hi3,e⟩;exact ⟨i,by omega,e⟩
    ·rintro ⟨i,hi3,e⟩;by_cases h3:i=k
     ·exact ⟨k-1,by omega,by rw[<- heq,<- h3];exact e⟩
     ·exact ⟨i,by omega,e⟩) (by rw[show k+1-1=k by omega];exact heq.symm) (fun i _=>rfl)
   unfold cpZ;refine ⟨r1,?_,fun a b hab hb=>?_,fun x=>?_⟩
   ·show (setRow _ _ _).length=_
    unfold setRow;simp only[List.length_append,List.length_take,List.length_replicate,List.length_drop];omega
   ·show gtI (setRow _ _ _) a<gtI (setRow _ _ _) b
    have hb:b<(cpJ k (L.length-k-1) 1 k L).1:=hb;rw[qgp (by omega) (by omega),qgp hb (by omega)];exact r3 a b hab hb
   ·rw[<- r4 x];constructor
    ·rintro ⟨i,hi3,e⟩;have hi3:i<(cpJ k (L.length-k-1) 1 k L).1:=hi3;have e:gtI (setRow _ _ _) i=x:=e;rw[qgp hi3 (by omega)] at e;exact ⟨i,hi3,e⟩
    ·rintro ⟨i,hi3,e⟩;refine ⟨i,hi3,?_⟩
     show gtI (setRow _ _ _) i=x
     rw[qgp hi3 (by omega)];exact e
  ·rename_i hne;refine q2j hs f (k+1) (by omega) (by omega) fun a b hab hb=>?_
   by_cases e:b=k
   ·subst e;have h1:=hs (b-1) b (by omega) (by omega);by_cases e2:a=b-1
    ·subst e2;omega
    ·have:=hi a (b-1) (by omega) (by omega);omega
   ·exact hi a b hab (by omega)
theorem qxp {L:List Int} (hs:srt L.length L):(cptV L).2.1<=L.length/\(cptV L).2.2.length=L.length/\inc (cptV L).2.1 (cptV L).2.2/\∀ x,inI' (cptV L).2.1 (cptV L).2.2 x↔inI' L.length L x:=by
 unfold cptV;by_cases h:L.length=0
 ·rw[show L.length-1=0 by omega,cpI];exact ⟨Nat.le_refl _,rfl,fun a b _ hb=>by have hb:b<L.length:=hb;omega,fun x=>Iff.rfl⟩
 ·exact q2j hs _ 1 (by omega) (Nat.le_refl _) (fun a b hab hb=>by omega)
theorem qvk {l:List Int} (hi:inc l.length l) {p:Nat} (hp:p<l.length):∀ (k i j:Nat),j-i<=k->i<=p->p<=j->j<=l.length->seaF l (gtI l p) k i j=p
 | 0,i,j,hk,h1,h2,h3=>by rw[seaF];omega
 | k+1,i,j,hk,h1,h2,h3=>by
  rw[seaF];split
  ·rename_i hij;split
   ·rename_i hge;refine qvk hi hp k i ((i+j) / 2) (by omega) h1 ?_ (by omega);by_cases e:(i+j) / 2<p
    ·have:=hi _ _ e hp;omega
    ·omega
   ·rename_i hlt;refine qvk hi hp k ((i+j) / 2+1) j (by omega) ?_ h2 h3;by_cases e:p<(i+j) / 2+1
    ·by_cases e2:p=(i+j) / 2
     ·rw[<- e2] at hlt;omega
     ·have:=hi p ((i+j) / 2) (by omega) (by omega);omega
    ·omega
  ·omega
theorem q2b {l:List Int} (hi:inc l.length l) {p:Nat} (hp:p<l.length):iofV l (gtI l p)=p:=qvk hi hp _ 0 _ (by omega) (Nat.zero_le _) (by omega) (Nat.le_refl _)
theorem qnx (l:List Int):(qbt l).length=(tgV l).2.1/\inc (qbt l).length (qbt l)/\(qbt l).length<=(lnk l).length/\∀ x,inI' (qbt l).length (qbt l) x↔x∈tgO (lnk l):=by
 obtain ⟨s1,s2⟩:=qvg (tgO (lnk l));have sl:=qfj (tgO (lnk l));obtain ⟨c1,c2,c3,c4⟩:=qxp (L:=qeb (tgO (lnk l))) (by rw[sl];exact s1);have hlen:(qbt l).length=(tgV l).2.1:=by
  unfold qbt winL;rw[List.drop_zero,List.length_take]
  show min (cptV _).2.1 (cptV _).2.2.length=(cptV _).2.1
  omega
 have hgl:∀ i,i<(tgV l).2.1->gtI (qbt l) i=gtI (tgV l).2.2 i:=fun i hi=>q46 hi
 refine ⟨hlen,fun a b hab hb=>?_,?_,fun x=>?_⟩
 ·rw[hlen] at hb;rw[hgl a (by omega),hgl b hb];exact c3 a b hab hb
 ·rw[hlen];have:(tgO (lnk l)).length=(lnk l).length:=by unfold tgO;rw[List.length_map]
  show (cptV _).2.1<=_
  omega
 ·rw[hlen];have h1:inI' (tgV l).2.1 (qbt l) x↔inI' (tgV l).2.1 (tgV l).2.2 x:=by
   constructor
   ·rintro ⟨i,hi,e⟩;exact ⟨i,hi,by rw[<- hgl i hi];exact e⟩
   ·rintro ⟨i,hi,e⟩;exact ⟨i,hi,by rw[hgl i hi];exact e⟩
  rw[h1,show inI' (tgV l).2.1 (tgV l).2.2 x↔_ from c4 x,sl,s2 x];constructor
  ·rintro ⟨i,hi,e⟩;rw[<- e,show gtI (tgO (lnk l)) i=(tgO (lnk l))[i] from qg1 hi];exact List.getElem_mem hi
  ·intro hx;obtain ⟨i,hi,e⟩:=List.getElem_of_mem hx;exact ⟨i,hi,by rw[show gtI (tgO (lnk l)) i=(tgO (lnk l))[i] from qg1 hi];exact e⟩
end Go.Proofs.YtplkpodikhfcdaaDoor
namespace Go.Proofs.YtplkpodikhfcdaaDoor
open Go.Px Go.Ax
set_option maxRecDepth 100000
theorem q2e {l:List Int} {i j:Nat} {v:Int} (h:i<l.length):gtW (l.set i v) j=if j=i then v else gtW l j:=by
 show gt u4 _ j=_
 unfold gt;by_cases e:j=i
 ·subst e;rw[if_pos rfl,List.getElem?_set_self h];rfl
 ·rw[if_neg e,List.getElem?_set_ne (fun q=>e q.symm)];rfl
theorem qw7 {l:List Bool} {i j:Nat} {v:Bool} (h:i<l.length):gtM (l.set i v) j=if j=i then v else gtM l j:=by
 show gt Sh.bool _ j=_
 unfold gt;by_cases e:j=i
 ·subst e;rw[if_pos rfl,List.getElem?_set_self h];rfl
 ·rw[if_neg e,List.getElem?_set_ne (fun q=>e q.symm)];rfl
theorem q2a (l lab:List Int):∀ (rs:List (Nat × InT)) (w:List Int) (m:List Bool),(lfF l lab rs w m).1.length=w.length/\(lfF l lab rs w m).2.length=m.length
 | [],w,m=>⟨rfl,rfl⟩
 | r::rs,w,m=>by
  rw[lfF];obtain ⟨h1,h2⟩:=q2a l lab rs (w.set r.1 (lfW l lab r.1 r.2)) (m.set r.1 true);rw[List.length_set] at h1 h2;exact ⟨h1,h2⟩
theorem qww {l lab:List Int} {i:Nat}:∀ (rs:List (Nat × InT)) (w:List Int) (m:List Bool),(∀ r∈rs,r.1<w.length)->w.length=m.length->(∀ r∈rs,r.1≠i)->gtW (lfF l lab rs w m).1 i=gtW w i/\gtM (lfF l lab rs w m).2 i=gtM m i
 | [],w,m,_,_,_=>⟨rfl,rfl⟩
 | r::rs,w,m,h,he,hn=>by
  rw[lfF];have h0:=h r (List.mem_cons_self ..);obtain ⟨h1,h2⟩:=qww rs (w.set r.1 (lfW l lab r.1 r.2)) (m.set r.1 true) (fun x hx=>by rw[List.length_set];exact h x (List.mem_cons_of_mem _ hx)) (by rw[List.length_set,List.length_set];exact he) (fun x hx=>hn x (List.mem_cons_of_mem _ hx));have hi:=hn r (List.mem_cons_self ..);rw[h1,h2,q2e h0,qw7 (by omega),if_neg (fun q=>hi q.symm),if_neg (fun q=>hi q.symm)];exact ⟨rfl,rfl⟩
theorem qwv {l lab:List Int}:∀ (rs:List (Nat × InT)) (w:List Int) (m:List Bool),(∀ r∈rs,r.1<w.length)->w.length=m.length->rs.Pairwise (fun a b=>a.1<b.1)->∀ r∈rs,gtW (lfF l lab rs w m).1 r.1=lfW l lab r.1 r.2/\gtM (lfF l lab rs w m).2 r.1=true
 | [],_,_,_,_,_,r,hr=>by cases hr
 | q::rs,w,m,h,he,hp,r,hr=>by
  rw[lfF];have h0:=h q (List.mem_cons_self ..);rw[List.pairwise_cons] at hp;rcases List.mem_cons.1 hr with e | hr
  ·subst e;obtain ⟨h1,h2⟩:=qww (l:=l) (lab:=lab) (i:=r.1) rs (w.set r.1 (lfW l lab r.1 r.2)) (m.set r.1 true) (fun x hx=>by rw[List.length_set];exact h x (List.mem_cons_of_mem _ hx)) (by rw[List.length_set,List.length_set];exact he) (fun x hx=>by have:=hp.1 x hx;omega);rw[h1,h2,q2e h0,qw7 (by omega),if_pos rfl,if_pos rfl];exact ⟨rfl,rfl⟩
  ·exact qwv rs (w.set q.1 (lfW l lab q.1 q.2)) (m.set q.1 true) (fun x hx=>by rw[List.length_set];exact h x (List.mem_cons_of_mem _ hx)) (by rw[List.length_set,List.length_set];exact he) hp.2 r hr
theorem qgm {n:Nat}:∀ (l:List Int) (i:Nat) (r:Nat × InT),r∈lnkF n i l↔∃ j,∃ h:j<l.length,r=(i+j,decT l[j] (4*((i+j:Nat):Int)))/\isLk n l[j] (i+j)=true
 | [],i,r=>⟨fun h=>(by cases h),fun ⟨j,h,_⟩=>(by simp at h)⟩
 | w::l,i,r=>by
  have ih:=qgm (n:=n) l (i+1) r;have tail:(r∈lnkF n (i+1) l)↔∃ j,∃ h:j+1<(w::l).length,r=(i+(j+1),decT (w::l)[j+1] (4*((i+(j+1):Nat):Int)))/\isLk n (w::l)[j+1] (i+(j+1))=true:=by
   rw[ih];constructor
   ·rintro ⟨j,h,e1,e2⟩;exact ⟨j,by simpa using h,by rw[show i+(j+1)=i+1+j by omega];exact e1,by rw[show i+(j+1)=i+1+j by omega];exact e2⟩
   ·rintro ⟨j,h,e1,e2⟩;exact ⟨j,by simpa using h,by rw[show i+1+j=i+(j+1) by omega];exact e1,by rw[show i+1+j=i+(j+1) by omega];exact e2⟩
  rw[lnkF];split
  ·rename_i hl;rw[List.mem_cons,tail];constructor
   ·rintro (e | ⟨j,h,e1,e2⟩)
    ·exact ⟨0,by simp,e,hl⟩
    ·exact ⟨j+1,h,e1,e2⟩
   ·rintro ⟨j,h,e1,e2⟩
    cases j with
    | zero=>exact .inl e1
    | succ j=>exact .inr ⟨j,h,e1,e2⟩
  ·rename_i hl;rw[tail];constructor
   ·rintro ⟨j,h,e1,e2⟩;exact ⟨j+1,h,e1,e2⟩
   ·rintro ⟨j,h,e1,e2⟩
    cases j with
    | zero=>exact absurd e2 hl
    | succ j=>exact ⟨j,h,e1,e2⟩
theorem qlj {n:Nat}:∀ (l:List Int) (i:Nat),(lnkF n i l).Pairwise (fun a b=>a.1<b.1)
 | [],i=>by rw[lnkF];exact List.Pairwise.nil
 | w::l,i=>by
  rw[lnkF];split
  ·rw[List.pairwise_cons];refine ⟨fun x hx=>?_,qlj l (i+1)⟩;obtain ⟨j,h,e,_⟩:=(qgm l (i+1) x).1 hx;rw[e]
   show i<i+1+j
   omega
  ·exact qlj l (i+1)
theorem q4q {l:List Int} {i:Nat} (h:i<l.length):(∃ r∈lnk l,r.1=i)↔isLk l.length l[i] i=true:=by
 constructor
 ·rintro ⟨r,hr,e⟩;obtain ⟨j,hj,e1,e2⟩:=(qgm l 0 r).1 hr;rw[e1] at e;have e:0+j=i:=e;have hji:j=i:=by omega
  subst hji;rw[Nat.zero_add] at e2;exact e2
 ·intro hl;exact ⟨(i,decT l[i] (4*(i:Int))),(qgm l 0 _).2 ⟨i,h,by rw[Nat.zero_add],by rw[Nat.zero_add];exact hl⟩,rfl⟩
theorem q19 (l:List Int):(lfV l).1.length=l.length/\(lfV l).2.length=l.length/\∀ i (h:i<l.length),gtM (lfV l).2 i=isLk l.length l[i] i /\
  (isLk l.length l[i] i=false->gtW (lfV l).1 i=l[i])/\(isLk l.length l[i] i=true->gtW (lfV l).1 i=lfW l (qbt l) i (decT l[i] (4*(i:Int)))/\∃ p,p<(qbt l).length/\gtI (qbt l) p=(decT l[i] (4*(i:Int))).2.2.2.2/\iofV (qbt l) (decT l[i] (4*(i:Int))).2.2.2.2=p):=by
 obtain ⟨g1,g2,g3,g4⟩:=qnx l;obtain ⟨f1,f2⟩:=q2a l (qbt l) (lnk l) l (List.replicate l.length false);rw[List.length_replicate] at f2;refine ⟨f1,f2,fun i h=>?_⟩
 cases hk:isLk l.length l[i] i with
 | false=>
  have hn:∀ r∈lnk l,r.1≠i:=fun r hr e=>by
   have:=(q4q h).1 ⟨r,hr,e⟩;rw[hk] at this;cases this
  obtain ⟨a1,a2⟩:=qww (l:=l) (lab:=qbt l) (i:=i) (lnk l) l (List.replicate l.length false) (qwr l) (by rw[List.length_replicate]) hn;refine ⟨?_,fun _=>?_,fun q=>by cases q⟩
  ·show gtM (lfF _ _ _ _ _).2 i=false
   rw[a2,qpg (by rw[List.length_replicate];exact h),List.getElem_replicate]
  ·show gtW (lfF _ _ _ _ _).1 i=l[i]
   rw[a1,qfa h]
 | true=>
  have hr:(i,decT l[i] (4*(i:Int)))∈lnk l:=(qgm l 0 _).2 ⟨i,h,by rw[Nat.zero_add],by rw[Nat.zero_add];exact hk⟩;obtain ⟨a1,a2⟩:=qwv (l:=l) (lab:=qbt l) (lnk l) l (List.replicate l.length false) (qwr l) (by rw[List.length_replicate]) (qlj l 0) _ hr;refine ⟨a2,(fun q=>by cases q),fun _=>⟨a1,?_⟩⟩;have hm:(decT l[i] (4*(i:Int))).2.2.2.2∈tgO (lnk l):=List.mem_map.2 ⟨_,hr,rfl⟩;obtain ⟨p,hp,e⟩:=(g4 _).2 hm;exact ⟨p,hp,e,by rw[<- e];exact q2b g2 hp⟩
end Go.Proofs.YtplkpodikhfcdaaDoor
namespace Go.Proofs.YtplkpodikhfcdaaDoor
open Go.Px Go.Ax
set_option maxRecDepth 100000
theorem qcc (x:BitVec 32):BitVec.ofInt 32 (x.toNat:Int)=x:=by
 rw[BitVec.ofInt_natCast,BitVec.ofNat_toNat,BitVec.setWidth_eq]
theorem qqc (x:BitVec 32):IntKind.u32.wrap (x.toNat:Int)=x.toNat:=by
 have:=x.isLt;rw[IntWalk.u32_in _ (by omega)]
theorem q7l (x y:BitVec 32):bitI .or .u32 (x.toNat:Int) (y.toNat:Int)=((x ||| y).toNat:Int):=by
 show IntKind.u32.wrap (((BitVec.ofInt 32 (x.toNat:Int)) ||| (BitVec.ofInt 32 (y.toNat:Int))).toNat:Int)=_
 rw[qcc,qcc,qqc]
theorem q5j (x y:BitVec 32):bitI .and .u32 (x.toNat:Int) (y.toNat:Int)=((x &&& y).toNat:Int):=by
 show IntKind.u32.wrap (((BitVec.ofInt 32 (x.toNat:Int)) &&& (BitVec.ofInt 32 (y.toNat:Int))).toNat:Int)=_
 rw[qcc,qcc,qqc]
theorem quh (x y:BitVec 32):bitI .andNot .u32 (x.toNat:Int) (y.toNat:Int)=((x &&& ~~~y).toNat:Int):=by
 show IntKind.u32.wrap (((BitVec.ofInt 32 (x.toNat:Int)) &&& ~~~(BitVec.ofInt 32 (y.toNat:Int))).toNat:Int)=_
 rw[qcc,qcc,qqc]
theorem qq5 (k i:Nat) (hi:i<32):(BitVec.ofNat 32 (2 ^ k-1)).getLsbD i=decide (i<k):=by
 rw[BitVec.getLsbD_ofNat,Nat.testBit_two_pow_sub_one,decide_eq_true hi,Bool.true_and]
theorem q2d {p:Nat} (hp:p<65536) {i:Nat} (hi:16<=i):(BitVec.ofNat 32 p).getLsbD i=false:=by
 rw[BitVec.getLsbD_ofNat];have:p.testBit i=false:=Nat.testBit_lt_two_pow (Nat.lt_of_lt_of_le hp (Nat.pow_le_pow_right (by decide) hi:2 ^ 16<=2 ^ i));rw[this,Bool.and_false]
theorem q64 {k:Nat} (hk:k=16\/k=24) {p:Nat} (hp:p<65536) (x:BitVec 32):((x &&& ~~~(BitVec.ofNat 32 (2 ^ k-1))) ||| BitVec.ofNat 32 p) &&& BitVec.ofNat 32 (2 ^ 16-1)=BitVec.ofNat 32 p:=by
 apply BitVec.eq_of_getLsbD_eq;intro i hi;rw[BitVec.getLsbD_and,BitVec.getLsbD_or,BitVec.getLsbD_and,BitVec.getLsbD_not,qq5 k i hi,qq5 16 i hi];by_cases h:i<16
 ·rw[decide_eq_true h,decide_eq_true (show i<k by omega)];simp
 ·rw[decide_eq_false h,q2d hp (by omega)];simp
theorem q6f {k:Nat} (hk:k=16\/k=24) {p:Nat} (hp:p<65536) (x:BitVec 32):((x &&& ~~~(BitVec.ofNat 32 (2 ^ k-1))) ||| BitVec.ofNat 32 p) >>> 24=x >>> 24:=by
 apply BitVec.eq_of_getLsbD_eq;intro i hi;rw[BitVec.getLsbD_ushiftRight,BitVec.getLsbD_ushiftRight,BitVec.getLsbD_or,BitVec.getLsbD_and,BitVec.getLsbD_not,q2d hp (by omega)];by_cases h:24+i<32
 ·rw[qq5 k _ h,decide_eq_true h,decide_eq_false (show ¬ 24+i<k by omega)];simp
 ·rw[BitVec.getLsbD_of_ge x _ (by omega)];simp
theorem q5i {w:Int} (hw:0<=w/\w<4294967296) {d:Int} (hd:d=16777215\/d=65535) {p:Nat} (hp:p<65536) :
  (bitI .or .u32 (bitI .andNot .u32 w d) (IntKind.u32.wrap (p:Int))) / 16777216=w / 16777216/\bitI .and .u32 (bitI .or .u32 (bitI .andNot .u32 w d) (IntKind.u32.wrap (p:Int))) 65535=p /\
  (0<=bitI .or .u32 (bitI .andNot .u32 w d) (IntKind.u32.wrap (p:Int))/\bitI .or .u32 (bitI .andNot .u32 w d) (IntKind.u32.wrap (p:Int))<4294967296):=by
 obtain ⟨n,rfl⟩:=Int.eq_ofNat_of_zero_le hw.1;have hn:n<2 ^ 32:=by omega
 obtain ⟨k,hk,ed⟩:∃ k,(k=16\/k=24)/\d=((BitVec.ofNat 32 (2 ^ k-1)).toNat:Int):=by
  rcases hd with e | e
  ·exact ⟨24,.inr rfl,by rw[e];rfl⟩
  ·exact ⟨16,.inl rfl,by rw[e];rfl⟩
 have ew:((n:Nat):Int)=((BitVec.ofNat 32 n).toNat:Int):=by rw[BitVec.toNat_ofNat,Nat.mod_eq_of_lt hn]
 have ep:IntKind.u32.wrap (p:Int)=((BitVec.ofNat 32 p).toNat:Int):=by rw[IntWalk.u32_in _ (by omega),BitVec.toNat_ofNat,Nat.mod_eq_of_lt (by omega)]
 have e6:(65535:Int)=((BitVec.ofNat 32 (2 ^ 16-1)).toNat:Int):=rfl;rw[ep,ed,ew,quh,q7l,e6,q5j,q64 hk hp];have ht:=congrArg BitVec.toNat (q6f hk hp (BitVec.ofNat 32 n));rw[BitVec.toNat_ushiftRight,BitVec.toNat_ushiftRight,Nat.shiftRight_eq_div_pow,Nat.shiftRight_eq_div_pow] at ht;have hb:=((BitVec.ofNat 32 n &&& ~~~(BitVec.ofNat 32 (2 ^ k-1))) ||| BitVec.ofNat 32 p).isLt;generalize ((BitVec.ofNat 32 n &&& ~~~(BitVec.ofNat 32 (2 ^ k-1))) ||| BitVec.ofNat 32 p).toNat=a at *;generalize (BitVec.ofNat 32 n).toNat=b at *;refine ⟨by omega,?_,by omega,by omega⟩;rw[BitVec.toNat_ofNat,Nat.mod_eq_of_lt (by omega)]
end Go.Proofs.YtplkpodikhfcdaaDoor
namespace Go.Proofs.YtplkpodikhfcdaaDoor
open Go.Px Go.Ax
set_option maxRecDepth 100000
attribute [local irreducible] Go.Px.sy Go.Px.syE
theorem q3u {ct:Ctr} {x:DL ct.args} {rs:List SV} {blk:List (Nat × LB)} {e:Sh} {et:TypeId} {a k:Nat} {xs:List e.D} (h:ct.out x=[.win true e 0 0 xs.length]) (hr:ct.rows x=[.row et e xs]) (hs:rs=[.win true e a 0 k]) (hk:k=xs.length) (hb:lk blk a=some (.row et e xs)):QC ct x rs blk:=by
 subst hk;exact qgy h hr hs rfl hb
def ctB (ws:List Int):Ctr:=⟨[.sl a4S,iI],fun _=>True,fun _=>[.win true uB 0 0 (bytL ws).length],fun _=>[.row 5 uB (bytL ws)]⟩
abbrev WsN (N:Nat):Type:={ ws:List Int // ws.length=N }
abbrev cdS (l:List (List Int)) (o:List Int) (N i:Nat):PS:=⟨[(0,.sl a4S l),(5,.win true u4 13 0 o.length),(6,.int .i64 (N:Nat)),(7,.int .i64 (i:Nat))],[(13,.row 53 u4 o)]⟩
theorem q0x (l:List (List Int)) (n:Int) (N:Nat) (hN:N<=l.length) (hN2:N<=1000):∀ (k i:Nat) (o:List Int),N-i=k->i<=N->o.length=i ->
  ∃ r:WsN N,GD 12 Tryd.f12 (QC (ctB r.1) (l,n,())) (hd Tryd.f12 0) (cdS l o N i):=by
 intro k
 induction k with
 | zero=>
  intro i o hk hi ho;refine ⟨⟨o,by omega⟩,qap cxCd (qu7 l o N i _ _) ?_⟩;rw[decide_eq_false (by omega),bc_f,qer];exact ⟨by omega,(show o.length<1000000 by omega),q3u (e:=uB) (et:=5) (a:=1339968) (xs:=bytL o) rfl rfl rfl rfl rfl⟩
 | succ k ih=>
  intro i o hk hi ho;have hlt:i<l.length:=by omega
  have leaf:∀ w:Int,∃ r:WsN N,GD 12 Tryd.f12 (QC (ctB r.1) (l,n,())) (hd Tryd.f12 0) ⟨[(0,.sl a4S l),(5,.win true u4 81 0 (o.length+1)),(6,.int .i64 (N:Nat)),(7,.int .i64 (IntKind.i64.wrap ((i:Int)+1)))],[(81,.row 53 u4 (o++[w]))]⟩:=fun w=>by
   obtain ⟨r,h⟩:=ih (i+1) (o++[w]) (by omega) (by omega) (by rw[List.length_append,ho];rfl);refine ⟨r,?_⟩;rw[IntWalk.i64_in ((i:Int)+1) (by omega)];exact h.onlyR [(13,81)] rfl ⟨rfl,by rw[List.length_append];rfl,rfl,rfl,trivial⟩ ⟨rfl,trivial⟩
  have hw:IntKind.i64.wrap ((N:Int)+2)≠0:=by rw[IntWalk.i64_in _ (by omega)];omega
  have e:=fun r:WsN N=>qu7 l o N i (QC (ctB r.1) (l,n,())) (Px.Good Tryd.prog tt G0 12 Tryd.f12.ntmps Tryd.f12.results.toList (QC (ctB r.1) (l,n,())))
  have h:∃ r:WsN N,sy tt G0 CCd Tryd.f12.ntmps Tryd.f12.results.toList (QC (ctB r.1) (l,n,())) (fun it S=>Px.Good Tryd.prog tt G0 12 Tryd.f12.ntmps Tryd.f12.results.toList (QC (ctB r.1) (l,n,())) it (qbd [0,5,6,7] [13,81] S)) 1000 (hd Tryd.f12 0) (cdS l o N i):=by
   simp only[e];rw[decide_eq_true (show (i:Int)<(N:Int) by omega)]
   repeat' first
    | exact leaf _
    | refine qdq trivial ?_
    | refine qdq rfl ?_
    | refine qdq (by decide) ?_
    | refine qdq (by omega) ?_
    | refine qdq hw ?_
    | refine qdq (Nat.le_refl _) ?_
    | refine qdq (show o.length+1<2 ^ 30 by omega) ?_
    | refine qxg (fun _=>?_) (fun _=>?_)
   all_goals (rename_i hq;cases hq)
  obtain ⟨r,h⟩:=h;exact ⟨r,qap cxCd rfl h⟩
theorem qxs (l:List (List Int)) (n:Int):∃ ws:List Int,(0<=n/\n<=1000->ws.length=min l.length n.toNat/\GD 12 Tryd.f12 (QC (ctB ws) (l,n,())) [.code (qah Tryd.f12)] (entry [.sl a4S,iI] (l,n,()))):=by
 by_cases hn:0<=n/\n<=1000
 ·obtain ⟨r,h⟩:=q0x l n (min l.length n.toNat) (Nat.min_le_left _ _) (by omega) _ 0 [] rfl (Nat.zero_le _) rfl;refine ⟨r.1,fun _=>⟨r.2,qap cxCd (q6b l n _ _) ?_⟩⟩;refine h.only ⟨rfl,rfl,?_,rfl,trivial⟩ ⟨rfl,trivial⟩;have e:((min l.length n.toNat:Nat):Int)=min (l.length:Int) n:=by omega
  show some (SV.int IntKind.i64 (min (l.length:Int) n))=some (SV.int IntKind.i64 ((min l.length n.toNat:Nat):Int))
  rw[e]
 ·exact ⟨[],fun q=>absurd q hn⟩
noncomputable def codW (l:List (List Int)) (n:Int):List Int:=Classical.choose (qxs l n)
theorem q0z {l:List (List Int)} {n:Int} (hn:0<=n/\n<=1000):(codW l n).length=min l.length n.toNat:=(Classical.choose_spec (qxs l n) hn).1
noncomputable def ctCod:Ctr:=⟨[.sl a4S,iI],fun x=>0<=x.2.1/\(show Int from x.2.1)<=1000,fun x=>[.win true uB 0 0 (bytL (codW x.1 x.2.1)).length],fun x=>[.row 5 uB (bytL (codW x.1 x.2.1))]⟩
theorem q0y:Held Tryd.prog G0 12 ctCod:=Held.of cxCd (fn:=Tryd.f12) rfl rfl ⟨by decide,by decide⟩ fun ⟨l,n,_⟩ hp=>(Classical.choose_spec (qxs l n) hp).2
end Go.Proofs.YtplkpodikhfcdaaDoor
namespace Go.Proofs.YtplkpodikhfcdaaDoor
open Go.Px Go.Ax
set_option maxRecDepth 100000
noncomputable def CT5:CV:=[(11,.inl ctSanL),(12,.inl ctCod),(13,.inl ctLift),(24,.inl ctWo),(25,.inl ctDec)]
theorem cxT5:CxOK Tryd.prog tt G0 CT5:=((((cx0.cons qs2 (fn:=Tryd.f25) rfl rfl rfl).cons qi4 (fn:=Tryd.f24) rfl rfl rfl).cons qll (fn:=Tryd.f13) rfl rfl rfl).cons q0y (fn:=Tryd.f12) rfl rfl rfl).cons qwl (fn:=Tryd.f11) rfl rfl rfl
set_option maxRecDepth 100000
noncomputable def qei (l:List (List Int)):List (Nat × LB):=[(5,.var [.win false u4 1081920 0 (qae (winL uB 0 (bytL (codW l (12:Int))).length (bytL (codW l (12:Int))))).w.length,.win false Sh.bool (1081921:Nat) (0:Nat) (qae (winL uB 0 (bytL (codW l (12:Int))).length (bytL (codW l (12:Int))))).m.length,.win false iI 1081922 0 (qae (winL uB 0 (bytL (codW l (12:Int))).length (bytL (codW l (12:Int))))).k]),(1069632,.row 5 uB (bytL (codW l (12:Int)))),(1081920,.row 53 u4 (qae (winL uB 0 (bytL (codW l (12:Int))).length (bytL (codW l (12:Int))))).w),(1081921,.row 4 Sh.bool (qae (winL uB 0 (bytL (codW l (12:Int))).length (bytL (codW l (12:Int))))).m),(1081922,.row 3 iI (qae (winL uB 0 (bytL (codW l (12:Int))).length (bytL (codW l (12:Int))))).t),(1102400,.row 53 u4 (qai (winL uB 0 (bytL (codW l (12:Int))).length (bytL (codW l (12:Int))))).1)]
theorem q5r (l:List (List Int)) (Q:QT) (R:RT):sy tt G0 CT5 Tryd.f5.ntmps Tryd.f5.results.toList Q (fun it S=>R it (qbd [3,4,5,7,9,10,14] [5,61,1069632,1081920,1081921,1081922,1102400] S)) 1000 [.code (qah Tryd.f5)] (entry [.sl a4S] (l,())) =
  (ctSanL.pre () /\
 ctCod.pre (l,(12:Int),()) /\
 (0:Nat)+(bytL (codW l (12:Int))).length<=(bytL (codW l (12:Int))).length /\
 ctLift.pre (winL uB 0 (bytL (codW l (12:Int))).length (bytL (codW l (12:Int))),()) /\
 (0:Nat)+(bytL (codW l (12:Int))).length<=(bytL (codW l (12:Int))).length /\
 ctWo.pre (winL uB 0 (bytL (codW l (12:Int))).length (bytL (codW l (12:Int))),()) /\
 bc (decide ((qae (winL uB 0 (bytL (codW l (12:Int))).length (bytL (codW l (12:Int))))).e≠0)) (true=true /\
 true=true /\
 true=true /\
 true=true /\
 Q [.bool false] (qei l)) (bc (bif false then true else decide ((qai (winL uB 0 (bytL (codW l (12:Int))).length (bytL (codW l (12:Int))))).2≠0)) (true=true /\
 true=true /\
 true=true /\
 Q [.bool false] (qei l)) (bc (bif false then true else decide ((↑(qae (winL uB 0 (bytL (codW l (12:Int))).length (bytL (codW l (12:Int))))).w.length:Int)≠(↑(qai (winL uB 0 (bytL (codW l (12:Int))).length (bytL (codW l (12:Int))))).1.length:Int))) (true=true /\
 true=true /\
 Q [.bool false] (qei l)) (bc (bif false then true else decide ((↑(qae (winL uB 0 (bytL (codW l (12:Int))).length (bytL (codW l (12:Int))))).m.length:Int)≠(↑(qai (winL uB 0 (bytL (codW l (12:Int))).length (bytL (codW l (12:Int))))).1.length:Int))) (true=true /\
 Q [.bool false] (qei l)) (bc (bif false then true else decide ((↑(qai (winL uB 0 (bytL (codW l (12:Int))).length (bytL (codW l (12:Int))))).1.length:Int)<(↑(qae (winL uB 0 (bytL (codW l (12:Int))).length (bytL (codW l (12:Int))))).k:Int))) (Q [.bool false] (qei l)) ((0:Int)<=(↑(qae (winL uB 0 (bytL (codW l (12:Int))).length (bytL (codW l (12:Int))))).k:Int) /\
 (↑(qae (winL uB 0 (bytL (codW l (12:Int))).length (bytL (codW l (12:Int))))).k:Int)<=(↑(qae (winL uB 0 (bytL (codW l (12:Int))).length (bytL (codW l (12:Int))))).k:Int) /\
 (↑(qae (winL uB 0 (bytL (codW l (12:Int))).length (bytL (codW l (12:Int))))).k:Int)<2 ^ 24 /\
 (↑(1:Nat):Int)*(↑(qae (winL uB 0 (bytL (codW l (12:Int))).length (bytL (codW l (12:Int))))).k:Int)<=2 ^ 48 /\
 R (hd Tryd.f5 0) { env:=[(3,.bool true),(4,.win true uB 1069632 0 (bytL (codW l (12:Int))).length),(5,.ptr 5 0),(7,.win true u4 1102400 0 (qai (winL uB 0 (bytL (codW l (12:Int))).length (bytL (codW l (12:Int))))).1.length),(9,.win true Sh.bool (61:Nat) (0:Nat) (↑(qae (winL uB 0 (bytL (codW l (12:Int))).length (bytL (codW l (12:Int))))).k:Int).toNat),(10,.int .i64 0)],blk:=[(5,.var [.win false u4 1081920 0 (qae (winL uB 0 (bytL (codW l (12:Int))).length (bytL (codW l (12:Int))))).w.length,.win false Sh.bool (1081921:Nat) (0:Nat) (qae (winL uB 0 (bytL (codW l (12:Int))).length (bytL (codW l (12:Int))))).m.length,.win false iI 1081922 0 (qae (winL uB 0 (bytL (codW l (12:Int))).length (bytL (codW l (12:Int))))).k]),(61,.row 4 Sh.bool (List.replicate (↑(qae (winL uB 0 (bytL (codW l (12:Int))).length (bytL (codW l (12:Int))))).k:Int).toNat Sh.bool.dflt)),(1069632,.row 5 uB (bytL (codW l (12:Int)))),(1081920,.row 53 u4 (qae (winL uB 0 (bytL (codW l (12:Int))).length (bytL (codW l (12:Int))))).w),(1081921,.row 4 Sh.bool (qae (winL uB 0 (bytL (codW l (12:Int))).length (bytL (codW l (12:Int))))).m),(1081922,.row 3 iI (qae (winL uB 0 (bytL (codW l (12:Int))).length (bytL (codW l (12:Int))))).t),(1102400,.row 53 u4 (qai (winL uB 0 (bytL (codW l (12:Int))).length (bytL (codW l (12:Int))))).1)] })))))):=by kernel_rfl
def qa3 (ws W L:List Int) (M nd:List Bool) (i:Nat):List (Nat × LB):=[(5,.var [.sl u4 W,.sl Sh.bool M,.sl iI L]),(11,.var [.int .i64 (opV (gtW ws (i:Int).toNat)),.int .i64 (rg (gtW ws (i:Int).toNat) (regs (opV (gtW ws (i:Int).toNat))) (0:Int)),.int .i64 (rg (gtW ws (i:Int).toNat) (regs (opV (gtW ws (i:Int).toNat))) (1:Int)),.int .i64 (rg (gtW ws (i:Int).toNat) (regs (opV (gtW ws (i:Int).toNat))) (2:Int)),.int .i64 (numN (gtW ws (i:Int).toNat) (IntKind.i64.wrap ((4:Int)*(i:Int))) (kd (opV (gtW ws (i:Int).toNat))).2.2.1 (kd (opV (gtW ws (i:Int).toNat))).2.2.2.1 (kd (opV (gtW ws (i:Int).toNat))).2.2.2.2)]),(61,.row 4 Sh.bool nd)]
theorem q1k (b ws W L:List Int) (M nd:List Bool) (i:Nat) (Q:QT) (R:RT):sy tt G0 CT5 Tryd.f5.ntmps Tryd.f5.results.toList Q (fun it S=>R it (qbd [3,4,5,7,9,10,14] [5,61,1069632,1081920,1081921,1081922,1102400] S)) 1000 (hd Tryd.f5 0) ⟨[(3,.bool true),(4,.sl uB b),(5,.ptr 5 0),(7,.sl u4 ws),(9,.win true .bool 61 0 nd.length),(10,.int .i64 (i:Nat))],[(5,.var [.sl u4 W,.sl .bool M,.sl iI L]),(61,.row 4 .bool nd)]⟩ =
  (bc (decide ((i:Int)<(ws.length:Int))) ((0:Int)<=(i:Int) /\
 (i:Int)<(ws.length:Int) /\
 ctDec.pre (gtW ws (i:Int).toNat,IntKind.i64.wrap ((4:Int)*(i:Int)),()) /\
 bc (decide ((5:Int)<=opV (gtW ws (i:Int).toNat))) (bc (decide (opV (gtW ws (i:Int).toNat)<=8)) (bc (decide ((0:Int)<=numN (gtW ws (i:Int).toNat) (IntKind.i64.wrap ((4:Int)*(i:Int))) (kd (opV (gtW ws (i:Int).toNat))).2.2.1 (kd (opV (gtW ws (i:Int).toNat))).2.2.2.1 (kd (opV (gtW ws (i:Int).toNat))).2.2.2.2)) ((0:Int)<=(i:Int) /\
 (i:Int)<(M.length:Int) /\
 bc (!(decide (numN (gtW ws (i:Int).toNat) (IntKind.i64.wrap ((4:Int)*(i:Int))) (kd (opV (gtW ws (i:Int).toNat))).2.2.1 (kd (opV (gtW ws (i:Int).toNat))).2.2.2.1 (kd (opV (gtW ws (i:Int).toNat))).2.2.2.2<(b.length:Int))) == gtM M (i:Int).toNat) (true=true /\
 Q [.bool false] (qa3 ws W L M nd i)) (bc (!bif true then decide (numN (gtW ws (i:Int).toNat) (IntKind.i64.wrap ((4:Int)*(i:Int))) (kd (opV (gtW ws (i:Int).toNat))).2.2.1 (kd (opV (gtW ws (i:Int).toNat))).2.2.2.1 (kd (opV (gtW ws (i:Int).toNat))).2.2.2.2<(b.length:Int)) else false) ((0:Int)<=(i:Int) /\
 (i:Int)<(W.length:Int) /\
 (0:Int)<=(i:Int) /\
 (i:Int)<(ws.length:Int) /\
 bc (bif false then true else bif true then decide (gtW W (i:Int).toNat≠gtW ws (i:Int).toNat) else false) (Q [.bool false] (qa3 ws W L M nd i)) (bc (!bif true then decide (numN (gtW ws (i:Int).toNat) (IntKind.i64.wrap ((4:Int)*(i:Int))) (kd (opV (gtW ws (i:Int).toNat))).2.2.1 (kd (opV (gtW ws (i:Int).toNat))).2.2.2.1 (kd (opV (gtW ws (i:Int).toNat))).2.2.2.2<(b.length:Int)) else false) (R (hd Tryd.f5 0) { env:=[(3,.bool true),(4,.sl uB b),(5,.ptr 5 0),(7,.sl u4 ws),(9,.win true Sh.bool (61:Nat) (0:Nat) nd.length),(10,.int .i64 (IntKind.i64.wrap ((i:Int)+1)))],blk:=[(5,.var [.sl u4 W,.sl Sh.bool M,.sl iI L]),(61,.row 4 Sh.bool nd)] }) ((0:Int)<=(i:Int) /\
 (i:Int)<(W.length:Int) /\
 bc (decide ((L.length:Int)<=IntKind.i64.wrap (bitI BinOp.and IntKind.u32 (gtW W (i:Int).toNat) (65535:Int)))) (true=true /\
 true=true /\
 Q [.bool false] (qa3 ws W L M nd i)) ((0:Int)<=IntKind.i64.wrap (bitI BinOp.and IntKind.u32 (gtW W (i:Int).toNat) (65535:Int)) /\
 IntKind.i64.wrap (bitI BinOp.and IntKind.u32 (gtW W (i:Int).toNat) (65535:Int))<(L.length:Int) /\
 bc (bif false then true else decide (gtI L (IntKind.i64.wrap (bitI BinOp.and IntKind.u32 (gtW W (i:Int).toNat) (65535:Int))).toNat≠numN (gtW ws (i:Int).toNat) (IntKind.i64.wrap ((4:Int)*(i:Int))) (kd (opV (gtW ws (i:Int).toNat))).2.2.1 (kd (opV (gtW ws (i:Int).toNat))).2.2.2.1 (kd (opV (gtW ws (i:Int).toNat))).2.2.2.2)) (true=true /\
 Q [.bool false] (qa3 ws W L M nd i)) ((0:Int)<=(i:Int) /\
 (i:Int)<(W.length:Int) /\
 (0:Int)<=24 /\
 (0:Int)<=(i:Int) /\
 (i:Int)<(ws.length:Int) /\
 (0:Int)<=24 /\
 bc (bif false then true else decide (Int.fdiv (gtW W (i:Int).toNat) ((2:Int) ^ min (24) IntKind.u32.bits)≠Int.fdiv (gtW ws (i:Int).toNat) ((2:Int) ^ min (24) IntKind.u32.bits))) (Q [.bool false] (qa3 ws W L M nd i)) ((0:Int)<=IntKind.i64.wrap (bitI BinOp.and IntKind.u32 (gtW W (i:Int).toNat) (65535:Int)) /\
 IntKind.i64.wrap (bitI BinOp.and IntKind.u32 (gtW W (i:Int).toNat) (65535:Int))<(nd.length:Int) /\
 (0:Nat)+(IntKind.i64.wrap (bitI BinOp.and IntKind.u32 (gtW W (i:Int).toNat) (65535:Int))).toNat<nd.length /\
 R (hd Tryd.f5 0) { env:=[(3,.bool true),(4,.sl uB b),(5,.ptr 5 0),(7,.sl u4 ws),(9,.win true Sh.bool (61:Nat) (0:Nat) nd.length),(10,.int .i64 (IntKind.i64.wrap ((i:Int)+1)))],blk:=[(5,.var [.sl u4 W,.sl Sh.bool M,.sl iI L]),(61,.row 4 Sh.bool (nd.set ((0:Nat)+(IntKind.i64.wrap (bitI BinOp.and IntKind.u32 (gtW W (i:Int).toNat) (65535:Int))).toNat) true))] })))))) (false=false /\
 bc (!bif true then decide (numN (gtW ws (i:Int).toNat) (IntKind.i64.wrap ((4:Int)*(i:Int))) (kd (opV (gtW ws (i:Int).toNat))).2.2.1 (kd (opV (gtW ws (i:Int).toNat))).2.2.2.1 (kd (opV (gtW ws (i:Int).toNat))).2.2.2.2<(b.length:Int)) else false) (R (hd Tryd.f5 0) { env:=[(3,.bool true),(4,.sl uB b),(5,.ptr 5 0),(7,.sl u4 ws),(9,.win true Sh.bool (61:Nat) (0:Nat) nd.length),(10,.int .i64 (IntKind.i64.wrap ((i:Int)+1)))],blk:=[(5,.var [.sl u4 W,.sl Sh.bool M,.sl iI L]),(61,.row 4 Sh.bool nd)] }) ((0:Int)<=(i:Int) /\
 (i:Int)<(W.length:Int) /\
 bc (decide ((L.length:Int)<=IntKind.i64.wrap (bitI BinOp.and IntKind.u32 (gtW W (i:Int).toNat) (65535:Int)))) (true=true /\
 true=true /\
 Q [.bool false] (qa3 ws W L M nd i)) ((0:Int)<=IntKind.i64.wrap (bitI BinOp.and IntKind.u32 (gtW W (i:Int).toNat) (65535:Int)) /\
 IntKind.i64.wrap (bitI BinOp.and IntKind.u32 (gtW W (i:Int).toNat) (65535:Int))<(L.length:Int) /\
 bc (bif false then true else decide (gtI L (IntKind.i64.wrap (bitI BinOp.and IntKind.u32 (gtW W (i:Int).toNat) (65535:Int))).toNat≠numN (gtW ws (i:Int).toNat) (IntKind.i64.wrap ((4:Int)*(i:Int))) (kd (opV (gtW ws (i:Int).toNat))).2.2.1 (kd (opV (gtW ws (i:Int).toNat))).2.2.2.1 (kd (opV (gtW ws (i:Int).toNat))).2.2.2.2)) (true=true /\
 Q [.bool false] (qa3 ws W L M nd i)) ((0:Int)<=(i:Int) /\
 (i:Int)<(W.length:Int) /\
 (0:Int)<=24 /\
 (0:Int)<=(i:Int) /\
 (i:Int)<(ws.length:Int) /\
 (0:Int)<=24 /\
 bc (bif false then true else decide (Int.fdiv (gtW W (i:Int).toNat) ((2:Int) ^ min (24) IntKind.u32.bits)≠Int.fdiv (gtW ws (i:Int).toNat) ((2:Int) ^ min (24) IntKind.u32.bits))) (Q [.bool false] (qa3 ws W L M nd i)) ((0:Int)<=IntKind.i64.wrap (bitI BinOp.and IntKind.u32 (gtW W (i:Int).toNat) (65535:Int)) /\
 IntKind.i64.wrap (bitI BinOp.and IntKind.u32 (gtW W (i:Int).toNat) (65535:Int))<(nd.length:Int) /\
 (0:Nat)+(IntKind.i64.wrap (bitI BinOp.and IntKind.u32 (gtW W (i:Int).toNat) (65535:Int))).toNat<nd.length /\
 R (hd Tryd.f5 0) { env:=[(3,.bool true),(4,.sl uB b),(5,.ptr 5 0),(7,.sl u4 ws),(9,.win true Sh.bool (61:Nat) (0:Nat) nd.length),(10,.int .i64 (IntKind.i64.wrap ((i:Int)+1)))],blk:=[(5,.var [.sl u4 W,.sl Sh.bool M,.sl iI L]),(61,.row 4 Sh.bool (nd.set ((0:Nat)+(IntKind.i64.wrap (bitI BinOp.and IntKind.u32 (gtW W (i:Int).toNat) (65535:Int))).toNat) true))] }))))))) (false=false /\
 (0:Int)<=(i:Int) /\
 (i:Int)<(M.length:Int) /\
 bc (!false == gtM M (i:Int).toNat) (true=true /\
 Q [.bool false] (qa3 ws W L M nd i)) ((0:Int)<=(i:Int) /\
 (i:Int)<(W.length:Int) /\
 (0:Int)<=(i:Int) /\
 (i:Int)<(ws.length:Int) /\
 bc (bif false then true else bif true then decide (gtW W (i:Int).toNat≠gtW ws (i:Int).toNat) else false) (Q [.bool false] (qa3 ws W L M nd i)) (R (hd Tryd.f5 0) { env:=[(3,.bool true),(4,.sl uB b),(5,.ptr 5 0),(7,.sl u4 ws),(9,.win true Sh.bool (61:Nat) (0:Nat) nd.length),(10,.int .i64 (IntKind.i64.wrap ((i:Int)+1)))],blk:=[(5,.var [.sl u4 W,.sl Sh.bool M,.sl iI L]),(61,.row 4 Sh.bool nd)] })))) (false=false /\
 false=false /\
 (0:Int)<=(i:Int) /\
 (i:Int)<(M.length:Int) /\
 bc (!false == gtM M (i:Int).toNat) (true=true /\
 Q [.bool false] (qa3 ws W L M nd i)) ((0:Int)<=(i:Int) /\
 (i:Int)<(W.length:Int) /\
 (0:Int)<=(i:Int) /\
 (i:Int)<(ws.length:Int) /\
 bc (bif false then true else bif true then decide (gtW W (i:Int).toNat≠gtW ws (i:Int).toNat) else false) (Q [.bool false] (qa3 ws W L M nd i)) (R (hd Tryd.f5 0) { env:=[(3,.bool true),(4,.sl uB b),(5,.ptr 5 0),(7,.sl u4 ws),(9,.win true Sh.bool (61:Nat) (0:Nat) nd.length),(10,.int .i64 (IntKind.i64.wrap ((i:Int)+1)))],blk:=[(5,.var [.sl u4 W,.sl Sh.bool M,.sl iI L]),(61,.row 4 Sh.bool nd)] })))) (false=false /\
 false=false /\
 false=false /\
 (0:Int)<=(i:Int) /\
 (i:Int)<(M.length:Int) /\
 bc (!false == gtM M (i:Int).toNat) (true=true /\
 Q [.bool false] (qa3 ws W L M nd i)) ((0:Int)<=(i:Int) /\
 (i:Int)<(W.length:Int) /\
 (0:Int)<=(i:Int) /\
 (i:Int)<(ws.length:Int) /\
 bc (bif false then true else bif true then decide (gtW W (i:Int).toNat≠gtW ws (i:Int).toNat) else false) (Q [.bool false] (qa3 ws W L M nd i)) (R (hd Tryd.f5 0) { env:=[(3,.bool true),(4,.sl uB b),(5,.ptr 5 0),(7,.sl u4 ws),(9,.win true Sh.bool (61:Nat) (0:Nat) nd.length),(10,.int .i64 (IntKind.i64.wrap ((i:Int)+1)))],blk:=[(5,.var [.sl u4 W,.sl Sh.bool M,.sl iI L]),(61,.row 4 Sh.bool nd)] })))) (R (hd Tryd.f5 1) { env:=[(3,.bool true),(4,.sl uB b),(5,.ptr 5 0),(7,.sl u4 ws),(9,.win true Sh.bool (61:Nat) (0:Nat) nd.length),(10,.int .i64 (i:Int)),(14,.int .i64 0)],blk:=[(5,.var [.sl u4 W,.sl Sh.bool M,.sl iI L]),(61,.row 4 Sh.bool nd)] })):=by kernel_rfl
theorem q1l (W L:List Int) (M nd:List Bool) (i:Nat) (Q:QT) (R:RT):sy tt G0 CT5 Tryd.f5.ntmps Tryd.f5.results.toList Q (fun it S=>R it (qbd [3,4,5,7,9,10,14] [5,61,1069632,1081920,1081921,1081922,1102400] S)) 1000 (hd Tryd.f5 1) ⟨[(3,.bool true),(5,.ptr 5 0),(9,.win true .bool 61 0 nd.length),(14,.int .i64 (i:Nat))],[(5,.var [.sl u4 W,.sl .bool M,.sl iI L]),(61,.row 4 .bool nd)]⟩ =
  (bc (decide ((i:Int)<(L.length:Int))) ((0:Int)<=(i:Int) /\
 (i:Int)<(nd.length:Int) /\
 (0:Nat)+(i:Int).toNat<nd.length /\
 bc (!gtM nd ((0:Nat)+(i:Int).toNat)) (true=true /\
 Q [.bool false] [(5,.var [.sl u4 W,.sl Sh.bool M,.sl iI L]),(61,.row 4 Sh.bool nd)]) (bc (decide ((0:Int)<(i:Int))) ((0:Int)<=(i:Int) /\
 (i:Int)<(L.length:Int) /\
 (0:Int)<=IntKind.i64.wrap ((i:Int)-1) /\
 IntKind.i64.wrap ((i:Int)-1)<(L.length:Int) /\
 bc (bif false then true else bif true then decide (gtI L (i:Int).toNat<=gtI L (IntKind.i64.wrap ((i:Int)-1)).toNat) else false) (Q [.bool false] [(5,.var [.sl u4 W,.sl Sh.bool M,.sl iI L]),(61,.row 4 Sh.bool nd)]) (R (hd Tryd.f5 1) { env:=[(3,.bool true),(5,.ptr 5 0),(9,.win true Sh.bool (61:Nat) (0:Nat) nd.length),(14,.int .i64 (IntKind.i64.wrap ((i:Int)+1)))],blk:=[(5,.var [.sl u4 W,.sl Sh.bool M,.sl iI L]),(61,.row 4 Sh.bool nd)] })) (false=false /\
 R (hd Tryd.f5 1) { env:=[(3,.bool true),(5,.ptr 5 0),(9,.win true Sh.bool (61:Nat) (0:Nat) nd.length),(14,.int .i64 (IntKind.i64.wrap ((i:Int)+1)))],blk:=[(5,.var [.sl u4 W,.sl Sh.bool M,.sl iI L]),(61,.row 4 Sh.bool nd)] }))) (Q [.bool true] [(5,.var [.sl u4 W,.sl Sh.bool M,.sl iI L]),(61,.row 4 Sh.bool nd)])):=by kernel_rfl
end Go.Proofs.YtplkpodikhfcdaaDoor
namespace Go.Proofs.YtplkpodikhfcdaaDoor
open Go.Px Go.Ax
set_option maxRecDepth 100000
theorem q5o {a b c d:Int} (ha:u8R a) (hb:u8R b) (hc:u8R c) (hd:u8R d):0<=wd a b c d/\wd a b c d<4294967296:=by
 unfold u8R at ha hb hc hd;unfold wd;omega
theorem qmd:∀ (k:Nat) (b:List Int),u8L b->∀ w∈qda k b,0<=w/\w<4294967296
 | 0,_,_,w,hw=>by cases hw
 | k+1,b,h,w,hw=>by
  rw[qda] at hw;rcases List.mem_cons.1 hw with e | e
  ·rw[e];exact q5o (h 0) (h 1) (h 2) (h 3)
  ·exact qmd k _ (h.drop 4) w e
theorem qki (n:Nat):∀ (l:List Int) (i:Nat),(lnkF n i l).length<=l.length
 | [],_=>Nat.le_refl _
 | w::l,i=>by
  have:=qki n l (i+1);rw[lnkF];split
  ·rw[List.length_cons,List.length_cons];omega
  ·rw[List.length_cons];omega
theorem q5g {b:List Int} {n:Nat} (hb:b.length=4*n) (h8:∀ x∈b,0<=x/\x<256) (hn:n<=12) :
  (qai b).2=0/\(qai b).1.length=n/\(∀ w∈(qai b).1,0<=w/\w<4294967296)/\qhd b:=by
 have e:qai b=(qda (b.length / 4) b,0):=if_pos (by omega);have hl:(qai b).1.length=n:=by rw[e];show (qda _ _).length=n;rw[qme];omega
 have hr:∀ w∈(qai b).1,0<=w/\w<4294967296:=by rw[e];exact qmd _ _ (qu8 h8)
 have hk:(lnk (qai b).1).length<=12:=Nat.le_trans (qki _ _ _) (by omega);exact ⟨by rw[e],hl,hr,qja h8 (by omega) hr (by omega) hk⟩
theorem qz2 {b:List Int} (h:b.length<=65536) (h0:(qai b).2=0):qae b=⟨(lfV (qai b).1).1,(lfV (qai b).1).2,(tgV (qai b).1).2.1,(tgV (qai b).1).2.2,0⟩:=if_neg (by rintro (q | q);omega;exact q h0)
theorem qrj (o:Int):dbV o≠0↔5<=o/\o<=8:=by
 unfold dbV;split
 ·omega
 ·split <;> omega
theorem q5c {o:Int} (h:dbV o≠0):dbV o=16777215\/dbV o=65535:=by
 unfold dbV at *;split
 ·exact .inl rfl
 ·split
  ·exact .inr rfl
  ·rename_i h1 h2;rw[if_neg h1,if_neg h2] at h;exact absurd rfl h
end Go.Proofs.YtplkpodikhfcdaaDoor
