/-
  A part of the proof: what pieces of the program give; conditions: those of each theorem.
-/
import Derived.Test.YtplkpodikhfcdaaDoorQ2
import Derived.Test.YtplkpodikhfcdaaDoorQ1
import Derived.Test.YtplkpodikhfcdaaDoorHD
import Derived.Test.YtplkpodikhfcdaaDoorGE
set_option linter.unusedVariables false
set_option linter.unusedSimpArgs false
namespace Go.Proofs.YtplkpodikhfcdaaDoor
open Go.Px Go.Ax
open Go.IntKind(i64 u32 u8)
set_option maxRecDepth 100000
def CRd:CV:=[(60,.inl ctSg),(71,.inl ctWrd)]
theorem cxRd:CxOK Tryd.prog tt G0 CRd:=(cx0.cons qy3 (fn:=Tryd.f71) rfl rfl rfl).cons q4g (fn:=Tryd.f60) rfl rfl rfl
set_option maxRecDepth 100000
theorem qvl (w a:Int) (Q:QT) (R:RT):sy tt G0 CRd Tryd.f34.ntmps Tryd.f34.results.toList Q (fun it S=>R it (qbe [1,4,5,6,7,8,9,10,33] [4,10] S)) 12 [.code (qah Tryd.f34)] (entry [.int .u32,.int .i64] (w,a,())) =
  ((0:Int)<=24 /\
 (0:Int)<=16 /\
 (0:Int)<=8 /\
 R (midI 12 [] [Item.code (qah Tryd.f34)]) { env:=[(1,.int .i64 a),(4,.ptr 4 0),(5,.int .i64 (i64.wrap (w.fdiv ((2:Int) ^ min (24) u32.bits)))),(6,.int .i64 (i64.wrap (bitI BinOp.and u32 (w.fdiv ((2:Int) ^ min (16) u32.bits)) (255:Int)))),(7,.int .i64 (i64.wrap (bitI BinOp.and u32 (w.fdiv ((2:Int) ^ min (8) u32.bits)) (255:Int)))),(8,.int .i64 (i64.wrap (bitI BinOp.and u32 w (255:Int)))),(9,.int .i64 (i64.wrap (i64.wrap ((256:Int)*i64.wrap (bitI BinOp.and u32 (w.fdiv ((2:Int) ^ min (8) u32.bits)) (255:Int)))+i64.wrap (bitI BinOp.and u32 w (255:Int))))),(10,.ptr 10 0),(33,.int .i64 (i64.wrap (w.fdiv ((2:Int) ^ min (24) u32.bits))))],blk:=[(4,.var [.int .i64 0,.int .i64 0,.int .i64 0,.int .i64 0,.int .i64 0]),(10,.var [.int .i64 0,.int .i64 0,.int .i64 0,.int .i64 0,.int .i64 (i64.wrap w)])] }):=by kernel_rfl
def qao (o a b1 lo n:Int):List (Nat × LB):=[(4,.var [.int .i64 o,.int .i64 b1,.int .i64 0,.int .i64 0,.int .i64 (i64.wrap (a+i64.wrap ((4:Int)*sgV lo (16:Int))))]),(10,.var [.int .i64 0,.int .i64 0,.int .i64 0,.int .i64 0,.int .i64 n]),(11,.var [.int .i64 o,.int .i64 b1,.int .i64 0,.int .i64 0,.int .i64 (i64.wrap (a+i64.wrap ((4:Int)*sgV lo (16:Int))))])]
def qag (o a b1 lo n:Int):List (Nat × LB):=[(4,.var [.int .i64 o,.int .i64 b1,.int .i64 0,.int .i64 0,.int .i64 (i64.wrap (a+i64.wrap ((4:Int)*lo)))]),(10,.var [.int .i64 0,.int .i64 0,.int .i64 0,.int .i64 0,.int .i64 n]),(11,.var [.int .i64 o,.int .i64 b1,.int .i64 0,.int .i64 0,.int .i64 (i64.wrap (a+i64.wrap ((4:Int)*lo)))])]
def qan (o b1 lo n:Int):List (Nat × LB):=[(4,.var [.int .i64 o,.int .i64 b1,.int .i64 0,.int .i64 0,.int .i64 lo]),(10,.var [.int .i64 0,.int .i64 0,.int .i64 0,.int .i64 0,.int .i64 n]),(11,.var [.int .i64 o,.int .i64 b1,.int .i64 0,.int .i64 0,.int .i64 lo])]
def qb4 (o a b1 lo n:Int):List (Nat × LB):=[(4,.var [.int .i64 o,.int .i64 0,.int .i64 0,.int .i64 0,.int .i64 (i64.wrap (a+i64.wrap ((4:Int)*sgV (i64.wrap (i64.wrap ((65536:Int)*b1)+lo)) (24:Int))))]),(10,.var [.int .i64 0,.int .i64 0,.int .i64 0,.int .i64 0,.int .i64 n])]
def qad (n:Int):List (Nat × LB):=[(4,.var [.int .i64 0,.int .i64 0,.int .i64 0,.int .i64 0,.int .i64 n]),(10,.var [.int .i64 0,.int .i64 0,.int .i64 0,.int .i64 0,.int .i64 n])]
def qe6 (o b1 b2 b3 n:Int):List (Nat × LB):=[(4,.var [.int .i64 o,.int .i64 b1,.int .i64 b2,.int .i64 b3,.int .i64 0]),(10,.var [.int .i64 0,.int .i64 0,.int .i64 0,.int .i64 0,.int .i64 n])]
theorem qk1 (o a b1 b2 b3 lo k n:Int) (Q:QT) (R:RT):sy tt G0 CRd Tryd.f34.ntmps Tryd.f34.results.toList Q R 1000 (midI 12 [] [.code (qah Tryd.f34)]) ⟨[(1,.int .i64 a),(4,.ptr 4 0),(5,.int .i64 o),(6,.int .i64 b1),(7,.int .i64 b2),(8,.int .i64 b3),(9,.int .i64 lo),(10,.ptr 10 0),(33,.int .i64 k)],[(4,.var [.int .i64 0,.int .i64 0,.int .i64 0,.int .i64 0,.int .i64 0]),(10,.var [.int .i64 0,.int .i64 0,.int .i64 0,.int .i64 0,.int .i64 n])]⟩ =
  (bc (decide (k=(1:Int))) (bc (decide (k=(1:Int))) (bc (decide ((15:Int)<b1)) (true=true /\
 true=true /\
 Q [.agg [.int .i64 0,.int .i64 0,.int .i64 0,.int .i64 0,.int .i64 n]] (qad n)) (bc (bif false then true else decide ((15:Int)<b2)) (true=true /\
 Q [.agg [.int .i64 0,.int .i64 0,.int .i64 0,.int .i64 0,.int .i64 n]] (qad n)) (bc (bif false then true else decide ((15:Int)<b3)) (Q [.agg [.int .i64 0,.int .i64 0,.int .i64 0,.int .i64 0,.int .i64 n]] (qad n)) (Q [.agg [.int .i64 o,.int .i64 b1,.int .i64 b2,.int .i64 b3,.int .i64 0]] (qe6 o b1 b2 b3 n))))) (bc (decide (k=(5:Int))) (bc (decide (k=(5:Int))) (ctSg.pre (i64.wrap (i64.wrap ((65536:Int)*b1)+lo),(24:Int),()) /\
 Q [.agg [.int .i64 o,.int .i64 0,.int .i64 0,.int .i64 0,.int .i64 (i64.wrap (a+i64.wrap ((4:Int)*sgV (i64.wrap (i64.wrap ((65536:Int)*b1)+lo)) (24:Int))))]] (qb4 o a b1 lo n)) (bc (decide (k=(2:Int))) (bc (decide (k=(2:Int))) (bc (decide ((15:Int)<b1)) (Q [.agg [.int .i64 0,.int .i64 0,.int .i64 0,.int .i64 0,.int .i64 n]] (qad n)) (bc (decide (o=(7:Int))) (ctSg.pre (lo,(16:Int),()) /\
 bc (decide (o=(8:Int))) (Q [.agg [.int .i64 o,.int .i64 b1,.int .i64 0,.int .i64 0,.int .i64 (i64.wrap (a+i64.wrap ((4:Int)*lo)))]] (qag o a b1 lo n)) (Q [.agg [.int .i64 o,.int .i64 b1,.int .i64 0,.int .i64 0,.int .i64 (i64.wrap (a+i64.wrap ((4:Int)*sgV lo (16:Int))))]] (qao o a b1 lo n))) (bc (decide (o=(8:Int))) (Q [.agg [.int .i64 o,.int .i64 b1,.int .i64 0,.int .i64 0,.int .i64 (i64.wrap (a+i64.wrap ((4:Int)*lo)))]] (qag o a b1 lo n)) (Q [.agg [.int .i64 o,.int .i64 b1,.int .i64 0,.int .i64 0,.int .i64 lo]] (qan o b1 lo n))))) (Q [.agg [.int .i64 0,.int .i64 0,.int .i64 0,.int .i64 0,.int .i64 n]] (qad n))) (bc (decide (k=(7:Int))) (bc (decide (k=(7:Int))) (bc (decide ((15:Int)<b1)) (Q [.agg [.int .i64 0,.int .i64 0,.int .i64 0,.int .i64 0,.int .i64 n]] (qad n)) (bc (decide (o=(7:Int))) (ctSg.pre (lo,(16:Int),()) /\
 bc (decide (o=(8:Int))) (Q [.agg [.int .i64 o,.int .i64 b1,.int .i64 0,.int .i64 0,.int .i64 (i64.wrap (a+i64.wrap ((4:Int)*lo)))]] (qag o a b1 lo n)) (Q [.agg [.int .i64 o,.int .i64 b1,.int .i64 0,.int .i64 0,.int .i64 (i64.wrap (a+i64.wrap ((4:Int)*sgV lo (16:Int))))]] (qao o a b1 lo n))) (bc (decide (o=(8:Int))) (Q [.agg [.int .i64 o,.int .i64 b1,.int .i64 0,.int .i64 0,.int .i64 (i64.wrap (a+i64.wrap ((4:Int)*lo)))]] (qag o a b1 lo n)) (Q [.agg [.int .i64 o,.int .i64 b1,.int .i64 0,.int .i64 0,.int .i64 lo]] (qan o b1 lo n))))) (Q [.agg [.int .i64 0,.int .i64 0,.int .i64 0,.int .i64 0,.int .i64 n]] (qad n))) (bc (decide (k=(8:Int))) (bc (decide ((15:Int)<b1)) (Q [.agg [.int .i64 0,.int .i64 0,.int .i64 0,.int .i64 0,.int .i64 n]] (qad n)) (bc (decide (o=(7:Int))) (ctSg.pre (lo,(16:Int),()) /\
 bc (decide (o=(8:Int))) (Q [.agg [.int .i64 o,.int .i64 b1,.int .i64 0,.int .i64 0,.int .i64 (i64.wrap (a+i64.wrap ((4:Int)*lo)))]] (qag o a b1 lo n)) (Q [.agg [.int .i64 o,.int .i64 b1,.int .i64 0,.int .i64 0,.int .i64 (i64.wrap (a+i64.wrap ((4:Int)*sgV lo (16:Int))))]] (qao o a b1 lo n))) (bc (decide (o=(8:Int))) (Q [.agg [.int .i64 o,.int .i64 b1,.int .i64 0,.int .i64 0,.int .i64 (i64.wrap (a+i64.wrap ((4:Int)*lo)))]] (qag o a b1 lo n)) (Q [.agg [.int .i64 o,.int .i64 b1,.int .i64 0,.int .i64 0,.int .i64 lo]] (qan o b1 lo n))))) (Q [.agg [.int .i64 0,.int .i64 0,.int .i64 0,.int .i64 0,.int .i64 n]] (qad n)))))) (bc (decide (k=(6:Int))) (ctSg.pre (i64.wrap (i64.wrap ((65536:Int)*b1)+lo),(24:Int),()) /\
 Q [.agg [.int .i64 o,.int .i64 0,.int .i64 0,.int .i64 0,.int .i64 (i64.wrap (a+i64.wrap ((4:Int)*sgV (i64.wrap (i64.wrap ((65536:Int)*b1)+lo)) (24:Int))))]] (qb4 o a b1 lo n)) (bc (decide (k=(2:Int))) (bc (decide (k=(2:Int))) (bc (decide ((15:Int)<b1)) (Q [.agg [.int .i64 0,.int .i64 0,.int .i64 0,.int .i64 0,.int .i64 n]] (qad n)) (bc (decide (o=(7:Int))) (ctSg.pre (lo,(16:Int),()) /\
 bc (decide (o=(8:Int))) (Q [.agg [.int .i64 o,.int .i64 b1,.int .i64 0,.int .i64 0,.int .i64 (i64.wrap (a+i64.wrap ((4:Int)*lo)))]] (qag o a b1 lo n)) (Q [.agg [.int .i64 o,.int .i64 b1,.int .i64 0,.int .i64 0,.int .i64 (i64.wrap (a+i64.wrap ((4:Int)*sgV lo (16:Int))))]] (qao o a b1 lo n))) (bc (decide (o=(8:Int))) (Q [.agg [.int .i64 o,.int .i64 b1,.int .i64 0,.int .i64 0,.int .i64 (i64.wrap (a+i64.wrap ((4:Int)*lo)))]] (qag o a b1 lo n)) (Q [.agg [.int .i64 o,.int .i64 b1,.int .i64 0,.int .i64 0,.int .i64 lo]] (qan o b1 lo n))))) (Q [.agg [.int .i64 0,.int .i64 0,.int .i64 0,.int .i64 0,.int .i64 n]] (qad n))) (bc (decide (k=(7:Int))) (bc (decide (k=(7:Int))) (bc (decide ((15:Int)<b1)) (Q [.agg [.int .i64 0,.int .i64 0,.int .i64 0,.int .i64 0,.int .i64 n]] (qad n)) (bc (decide (o=(7:Int))) (ctSg.pre (lo,(16:Int),()) /\
 bc (decide (o=(8:Int))) (Q [.agg [.int .i64 o,.int .i64 b1,.int .i64 0,.int .i64 0,.int .i64 (i64.wrap (a+i64.wrap ((4:Int)*lo)))]] (qag o a b1 lo n)) (Q [.agg [.int .i64 o,.int .i64 b1,.int .i64 0,.int .i64 0,.int .i64 (i64.wrap (a+i64.wrap ((4:Int)*sgV lo (16:Int))))]] (qao o a b1 lo n))) (bc (decide (o=(8:Int))) (Q [.agg [.int .i64 o,.int .i64 b1,.int .i64 0,.int .i64 0,.int .i64 (i64.wrap (a+i64.wrap ((4:Int)*lo)))]] (qag o a b1 lo n)) (Q [.agg [.int .i64 o,.int .i64 b1,.int .i64 0,.int .i64 0,.int .i64 lo]] (qan o b1 lo n))))) (Q [.agg [.int .i64 0,.int .i64 0,.int .i64 0,.int .i64 0,.int .i64 n]] (qad n))) (bc (decide (k=(8:Int))) (bc (decide ((15:Int)<b1)) (Q [.agg [.int .i64 0,.int .i64 0,.int .i64 0,.int .i64 0,.int .i64 n]] (qad n)) (bc (decide (o=(7:Int))) (ctSg.pre (lo,(16:Int),()) /\
 bc (decide (o=(8:Int))) (Q [.agg [.int .i64 o,.int .i64 b1,.int .i64 0,.int .i64 0,.int .i64 (i64.wrap (a+i64.wrap ((4:Int)*lo)))]] (qag o a b1 lo n)) (Q [.agg [.int .i64 o,.int .i64 b1,.int .i64 0,.int .i64 0,.int .i64 (i64.wrap (a+i64.wrap ((4:Int)*sgV lo (16:Int))))]] (qao o a b1 lo n))) (bc (decide (o=(8:Int))) (Q [.agg [.int .i64 o,.int .i64 b1,.int .i64 0,.int .i64 0,.int .i64 (i64.wrap (a+i64.wrap ((4:Int)*lo)))]] (qag o a b1 lo n)) (Q [.agg [.int .i64 o,.int .i64 b1,.int .i64 0,.int .i64 0,.int .i64 lo]] (qan o b1 lo n))))) (Q [.agg [.int .i64 0,.int .i64 0,.int .i64 0,.int .i64 0,.int .i64 n]] (qad n)))))))) (bc (decide (k=(3:Int))) (bc (decide (k=(3:Int))) (bc (decide ((15:Int)<b1)) (true=true /\
 true=true /\
 Q [.agg [.int .i64 0,.int .i64 0,.int .i64 0,.int .i64 0,.int .i64 n]] (qad n)) (bc (bif false then true else decide ((15:Int)<b2)) (true=true /\
 Q [.agg [.int .i64 0,.int .i64 0,.int .i64 0,.int .i64 0,.int .i64 n]] (qad n)) (bc (bif false then true else decide ((15:Int)<b3)) (Q [.agg [.int .i64 0,.int .i64 0,.int .i64 0,.int .i64 0,.int .i64 n]] (qad n)) (Q [.agg [.int .i64 o,.int .i64 b1,.int .i64 b2,.int .i64 b3,.int .i64 0]] (qe6 o b1 b2 b3 n))))) (bc (decide (k=(5:Int))) (bc (decide (k=(5:Int))) (ctSg.pre (i64.wrap (i64.wrap ((65536:Int)*b1)+lo),(24:Int),()) /\
 Q [.agg [.int .i64 o,.int .i64 0,.int .i64 0,.int .i64 0,.int .i64 (i64.wrap (a+i64.wrap ((4:Int)*sgV (i64.wrap (i64.wrap ((65536:Int)*b1)+lo)) (24:Int))))]] (qb4 o a b1 lo n)) (bc (decide (k=(2:Int))) (bc (decide (k=(2:Int))) (bc (decide ((15:Int)<b1)) (Q [.agg [.int .i64 0,.int .i64 0,.int .i64 0,.int .i64 0,.int .i64 n]] (qad n)) (bc (decide (o=(7:Int))) (ctSg.pre (lo,(16:Int),()) /\
 bc (decide (o=(8:Int))) (Q [.agg [.int .i64 o,.int .i64 b1,.int .i64 0,.int .i64 0,.int .i64 (i64.wrap (a+i64.wrap ((4:Int)*lo)))]] (qag o a b1 lo n)) (Q [.agg [.int .i64 o,.int .i64 b1,.int .i64 0,.int .i64 0,.int .i64 (i64.wrap (a+i64.wrap ((4:Int)*sgV lo (16:Int))))]] (qao o a b1 lo n))) (bc (decide (o=(8:Int))) (Q [.agg [.int .i64 o,.int .i64 b1,.int .i64 0,.int .i64 0,.int .i64 (i64.wrap (a+i64.wrap ((4:Int)*lo)))]] (qag o a b1 lo n)) (Q [.agg [.int .i64 o,.int .i64 b1,.int .i64 0,.int .i64 0,.int .i64 lo]] (qan o b1 lo n))))) (Q [.agg [.int .i64 0,.int .i64 0,.int .i64 0,.int .i64 0,.int .i64 n]] (qad n))) (bc (decide (k=(7:Int))) (bc (decide (k=(7:Int))) (bc (decide ((15:Int)<b1)) (Q [.agg [.int .i64 0,.int .i64 0,.int .i64 0,.int .i64 0,.int .i64 n]] (qad n)) (bc (decide (o=(7:Int))) (ctSg.pre (lo,(16:Int),()) /\
 bc (decide (o=(8:Int))) (Q [.agg [.int .i64 o,.int .i64 b1,.int .i64 0,.int .i64 0,.int .i64 (i64.wrap (a+i64.wrap ((4:Int)*lo)))]] (qag o a b1 lo n)) (Q [.agg [.int .i64 o,.int .i64 b1,.int .i64 0,.int .i64 0,.int .i64 (i64.wrap (a+i64.wrap ((4:Int)*sgV lo (16:Int))))]] (qao o a b1 lo n))) (bc (decide (o=(8:Int))) (Q [.agg [.int .i64 o,.int .i64 b1,.int .i64 0,.int .i64 0,.int .i64 (i64.wrap (a+i64.wrap ((4:Int)*lo)))]] (qag o a b1 lo n)) (Q [.agg [.int .i64 o,.int .i64 b1,.int .i64 0,.int .i64 0,.int .i64 lo]] (qan o b1 lo n))))) (Q [.agg [.int .i64 0,.int .i64 0,.int .i64 0,.int .i64 0,.int .i64 n]] (qad n))) (bc (decide (k=(8:Int))) (bc (decide ((15:Int)<b1)) (Q [.agg [.int .i64 0,.int .i64 0,.int .i64 0,.int .i64 0,.int .i64 n]] (qad n)) (bc (decide (o=(7:Int))) (ctSg.pre (lo,(16:Int),()) /\
 bc (decide (o=(8:Int))) (Q [.agg [.int .i64 o,.int .i64 b1,.int .i64 0,.int .i64 0,.int .i64 (i64.wrap (a+i64.wrap ((4:Int)*lo)))]] (qag o a b1 lo n)) (Q [.agg [.int .i64 o,.int .i64 b1,.int .i64 0,.int .i64 0,.int .i64 (i64.wrap (a+i64.wrap ((4:Int)*sgV lo (16:Int))))]] (qao o a b1 lo n))) (bc (decide (o=(8:Int))) (Q [.agg [.int .i64 o,.int .i64 b1,.int .i64 0,.int .i64 0,.int .i64 (i64.wrap (a+i64.wrap ((4:Int)*lo)))]] (qag o a b1 lo n)) (Q [.agg [.int .i64 o,.int .i64 b1,.int .i64 0,.int .i64 0,.int .i64 lo]] (qan o b1 lo n))))) (Q [.agg [.int .i64 0,.int .i64 0,.int .i64 0,.int .i64 0,.int .i64 n]] (qad n)))))) (bc (decide (k=(6:Int))) (ctSg.pre (i64.wrap (i64.wrap ((65536:Int)*b1)+lo),(24:Int),()) /\
 Q [.agg [.int .i64 o,.int .i64 0,.int .i64 0,.int .i64 0,.int .i64 (i64.wrap (a+i64.wrap ((4:Int)*sgV (i64.wrap (i64.wrap ((65536:Int)*b1)+lo)) (24:Int))))]] (qb4 o a b1 lo n)) (bc (decide (k=(2:Int))) (bc (decide (k=(2:Int))) (bc (decide ((15:Int)<b1)) (Q [.agg [.int .i64 0,.int .i64 0,.int .i64 0,.int .i64 0,.int .i64 n]] (qad n)) (bc (decide (o=(7:Int))) (ctSg.pre (lo,(16:Int),()) /\
 bc (decide (o=(8:Int))) (Q [.agg [.int .i64 o,.int .i64 b1,.int .i64 0,.int .i64 0,.int .i64 (i64.wrap (a+i64.wrap ((4:Int)*lo)))]] (qag o a b1 lo n)) (Q [.agg [.int .i64 o,.int .i64 b1,.int .i64 0,.int .i64 0,.int .i64 (i64.wrap (a+i64.wrap ((4:Int)*sgV lo (16:Int))))]] (qao o a b1 lo n))) (bc (decide (o=(8:Int))) (Q [.agg [.int .i64 o,.int .i64 b1,.int .i64 0,.int .i64 0,.int .i64 (i64.wrap (a+i64.wrap ((4:Int)*lo)))]] (qag o a b1 lo n)) (Q [.agg [.int .i64 o,.int .i64 b1,.int .i64 0,.int .i64 0,.int .i64 lo]] (qan o b1 lo n))))) (Q [.agg [.int .i64 0,.int .i64 0,.int .i64 0,.int .i64 0,.int .i64 n]] (qad n))) (bc (decide (k=(7:Int))) (bc (decide (k=(7:Int))) (bc (decide ((15:Int)<b1)) (Q [.agg [.int .i64 0,.int .i64 0,.int .i64 0,.int .i64 0,.int .i64 n]] (qad n)) (bc (decide (o=(7:Int))) (ctSg.pre (lo,(16:Int),()) /\
 bc (decide (o=(8:Int))) (Q [.agg [.int .i64 o,.int .i64 b1,.int .i64 0,.int .i64 0,.int .i64 (i64.wrap (a+i64.wrap ((4:Int)*lo)))]] (qag o a b1 lo n)) (Q [.agg [.int .i64 o,.int .i64 b1,.int .i64 0,.int .i64 0,.int .i64 (i64.wrap (a+i64.wrap ((4:Int)*sgV lo (16:Int))))]] (qao o a b1 lo n))) (bc (decide (o=(8:Int))) (Q [.agg [.int .i64 o,.int .i64 b1,.int .i64 0,.int .i64 0,.int .i64 (i64.wrap (a+i64.wrap ((4:Int)*lo)))]] (qag o a b1 lo n)) (Q [.agg [.int .i64 o,.int .i64 b1,.int .i64 0,.int .i64 0,.int .i64 lo]] (qan o b1 lo n))))) (Q [.agg [.int .i64 0,.int .i64 0,.int .i64 0,.int .i64 0,.int .i64 n]] (qad n))) (bc (decide (k=(8:Int))) (bc (decide ((15:Int)<b1)) (Q [.agg [.int .i64 0,.int .i64 0,.int .i64 0,.int .i64 0,.int .i64 n]] (qad n)) (bc (decide (o=(7:Int))) (ctSg.pre (lo,(16:Int),()) /\
 bc (decide (o=(8:Int))) (Q [.agg [.int .i64 o,.int .i64 b1,.int .i64 0,.int .i64 0,.int .i64 (i64.wrap (a+i64.wrap ((4:Int)*lo)))]] (qag o a b1 lo n)) (Q [.agg [.int .i64 o,.int .i64 b1,.int .i64 0,.int .i64 0,.int .i64 (i64.wrap (a+i64.wrap ((4:Int)*sgV lo (16:Int))))]] (qao o a b1 lo n))) (bc (decide (o=(8:Int))) (Q [.agg [.int .i64 o,.int .i64 b1,.int .i64 0,.int .i64 0,.int .i64 (i64.wrap (a+i64.wrap ((4:Int)*lo)))]] (qag o a b1 lo n)) (Q [.agg [.int .i64 o,.int .i64 b1,.int .i64 0,.int .i64 0,.int .i64 lo]] (qan o b1 lo n))))) (Q [.agg [.int .i64 0,.int .i64 0,.int .i64 0,.int .i64 0,.int .i64 n]] (qad n)))))))) (bc (decide (k=(4:Int))) (bc (decide ((15:Int)<b1)) (true=true /\
 true=true /\
 Q [.agg [.int .i64 0,.int .i64 0,.int .i64 0,.int .i64 0,.int .i64 n]] (qad n)) (bc (bif false then true else decide ((15:Int)<b2)) (true=true /\
 Q [.agg [.int .i64 0,.int .i64 0,.int .i64 0,.int .i64 0,.int .i64 n]] (qad n)) (bc (bif false then true else decide ((15:Int)<b3)) (Q [.agg [.int .i64 0,.int .i64 0,.int .i64 0,.int .i64 0,.int .i64 n]] (qad n)) (Q [.agg [.int .i64 o,.int .i64 b1,.int .i64 b2,.int .i64 b3,.int .i64 0]] (qe6 o b1 b2 b3 n))))) (bc (decide (k=(5:Int))) (bc (decide (k=(5:Int))) (ctSg.pre (i64.wrap (i64.wrap ((65536:Int)*b1)+lo),(24:Int),()) /\
 Q [.agg [.int .i64 o,.int .i64 0,.int .i64 0,.int .i64 0,.int .i64 (i64.wrap (a+i64.wrap ((4:Int)*sgV (i64.wrap (i64.wrap ((65536:Int)*b1)+lo)) (24:Int))))]] (qb4 o a b1 lo n)) (bc (decide (k=(2:Int))) (bc (decide (k=(2:Int))) (bc (decide ((15:Int)<b1)) (Q [.agg [.int .i64 0,.int .i64 0,.int .i64 0,.int .i64 0,.int .i64 n]] (qad n)) (bc (decide (o=(7:Int))) (ctSg.pre (lo,(16:Int),()) /\
 bc (decide (o=(8:Int))) (Q [.agg [.int .i64 o,.int .i64 b1,.int .i64 0,.int .i64 0,.int .i64 (i64.wrap (a+i64.wrap ((4:Int)*lo)))]] (qag o a b1 lo n)) (Q [.agg [.int .i64 o,.int .i64 b1,.int .i64 0,.int .i64 0,.int .i64 (i64.wrap (a+i64.wrap ((4:Int)*sgV lo (16:Int))))]] (qao o a b1 lo n))) (bc (decide (o=(8:Int))) (Q [.agg [.int .i64 o,.int .i64 b1,.int .i64 0,.int .i64 0,.int .i64 (i64.wrap (a+i64.wrap ((4:Int)*lo)))]] (qag o a b1 lo n)) (Q [.agg [.int .i64 o,.int .i64 b1,.int .i64 0,.int .i64 0,.int .i64 lo]] (qan o b1 lo n))))) (Q [.agg [.int .i64 0,.int .i64 0,.int .i64 0,.int .i64 0,.int .i64 n]] (qad n))) (bc (decide (k=(7:Int))) (bc (decide (k=(7:Int))) (bc (decide ((15:Int)<b1)) (Q [.agg [.int .i64 0,.int .i64 0,.int .i64 0,.int .i64 0,.int .i64 n]] (qad n)) (bc (decide (o=(7:Int))) (ctSg.pre (lo,(16:Int),()) /\
 bc (decide (o=(8:Int))) (Q [.agg [.int .i64 o,.int .i64 b1,.int .i64 0,.int .i64 0,.int .i64 (i64.wrap (a+i64.wrap ((4:Int)*lo)))]] (qag o a b1 lo n)) (Q [.agg [.int .i64 o,.int .i64 b1,.int .i64 0,.int .i64 0,.int .i64 (i64.wrap (a+i64.wrap ((4:Int)*sgV lo (16:Int))))]] (qao o a b1 lo n))) (bc (decide (o=(8:Int))) (Q [.agg [.int .i64 o,.int .i64 b1,.int .i64 0,.int .i64 0,.int .i64 (i64.wrap (a+i64.wrap ((4:Int)*lo)))]] (qag o a b1 lo n)) (Q [.agg [.int .i64 o,.int .i64 b1,.int .i64 0,.int .i64 0,.int .i64 lo]] (qan o b1 lo n))))) (Q [.agg [.int .i64 0,.int .i64 0,.int .i64 0,.int .i64 0,.int .i64 n]] (qad n))) (bc (decide (k=(8:Int))) (bc (decide ((15:Int)<b1)) (Q [.agg [.int .i64 0,.int .i64 0,.int .i64 0,.int .i64 0,.int .i64 n]] (qad n)) (bc (decide (o=(7:Int))) (ctSg.pre (lo,(16:Int),()) /\
 bc (decide (o=(8:Int))) (Q [.agg [.int .i64 o,.int .i64 b1,.int .i64 0,.int .i64 0,.int .i64 (i64.wrap (a+i64.wrap ((4:Int)*lo)))]] (qag o a b1 lo n)) (Q [.agg [.int .i64 o,.int .i64 b1,.int .i64 0,.int .i64 0,.int .i64 (i64.wrap (a+i64.wrap ((4:Int)*sgV lo (16:Int))))]] (qao o a b1 lo n))) (bc (decide (o=(8:Int))) (Q [.agg [.int .i64 o,.int .i64 b1,.int .i64 0,.int .i64 0,.int .i64 (i64.wrap (a+i64.wrap ((4:Int)*lo)))]] (qag o a b1 lo n)) (Q [.agg [.int .i64 o,.int .i64 b1,.int .i64 0,.int .i64 0,.int .i64 lo]] (qan o b1 lo n))))) (Q [.agg [.int .i64 0,.int .i64 0,.int .i64 0,.int .i64 0,.int .i64 n]] (qad n)))))) (bc (decide (k=(6:Int))) (ctSg.pre (i64.wrap (i64.wrap ((65536:Int)*b1)+lo),(24:Int),()) /\
 Q [.agg [.int .i64 o,.int .i64 0,.int .i64 0,.int .i64 0,.int .i64 (i64.wrap (a+i64.wrap ((4:Int)*sgV (i64.wrap (i64.wrap ((65536:Int)*b1)+lo)) (24:Int))))]] (qb4 o a b1 lo n)) (bc (decide (k=(2:Int))) (bc (decide (k=(2:Int))) (bc (decide ((15:Int)<b1)) (Q [.agg [.int .i64 0,.int .i64 0,.int .i64 0,.int .i64 0,.int .i64 n]] (qad n)) (bc (decide (o=(7:Int))) (ctSg.pre (lo,(16:Int),()) /\
 bc (decide (o=(8:Int))) (Q [.agg [.int .i64 o,.int .i64 b1,.int .i64 0,.int .i64 0,.int .i64 (i64.wrap (a+i64.wrap ((4:Int)*lo)))]] (qag o a b1 lo n)) (Q [.agg [.int .i64 o,.int .i64 b1,.int .i64 0,.int .i64 0,.int .i64 (i64.wrap (a+i64.wrap ((4:Int)*sgV lo (16:Int))))]] (qao o a b1 lo n))) (bc (decide (o=(8:Int))) (Q [.agg [.int .i64 o,.int .i64 b1,.int .i64 0,.int .i64 0,.int .i64 (i64.wrap (a+i64.wrap ((4:Int)*lo)))]] (qag o a b1 lo n)) (Q [.agg [.int .i64 o,.int .i64 b1,.int .i64 0,.int .i64 0,.int .i64 lo]] (qan o b1 lo n))))) (Q [.agg [.int .i64 0,.int .i64 0,.int .i64 0,.int .i64 0,.int .i64 n]] (qad n))) (bc (decide (k=(7:Int))) (bc (decide (k=(7:Int))) (bc (decide ((15:Int)<b1)) (Q [.agg [.int .i64 0,.int .i64 0,.int .i64 0,.int .i64 0,.int .i64 n]] (qad n)) (bc (decide (o=(7:Int))) (ctSg.pre (lo,(16:Int),()) /\
 bc (decide (o=(8:Int))) (Q [.agg [.int .i64 o,.int .i64 b1,.int .i64 0,.int .i64 0,.int .i64 (i64.wrap (a+i64.wrap ((4:Int)*lo)))]] (qag o a b1 lo n)) (Q [.agg [.int .i64 o,.int .i64 b1,.int .i64 0,.int .i64 0,.int .i64 (i64.wrap (a+i64.wrap ((4:Int)*sgV lo (16:Int))))]] (qao o a b1 lo n))) (bc (decide (o=(8:Int))) (Q [.agg [.int .i64 o,.int .i64 b1,.int .i64 0,.int .i64 0,.int .i64 (i64.wrap (a+i64.wrap ((4:Int)*lo)))]] (qag o a b1 lo n)) (Q [.agg [.int .i64 o,.int .i64 b1,.int .i64 0,.int .i64 0,.int .i64 lo]] (qan o b1 lo n))))) (Q [.agg [.int .i64 0,.int .i64 0,.int .i64 0,.int .i64 0,.int .i64 n]] (qad n))) (bc (decide (k=(8:Int))) (bc (decide ((15:Int)<b1)) (Q [.agg [.int .i64 0,.int .i64 0,.int .i64 0,.int .i64 0,.int .i64 n]] (qad n)) (bc (decide (o=(7:Int))) (ctSg.pre (lo,(16:Int),()) /\
 bc (decide (o=(8:Int))) (Q [.agg [.int .i64 o,.int .i64 b1,.int .i64 0,.int .i64 0,.int .i64 (i64.wrap (a+i64.wrap ((4:Int)*lo)))]] (qag o a b1 lo n)) (Q [.agg [.int .i64 o,.int .i64 b1,.int .i64 0,.int .i64 0,.int .i64 (i64.wrap (a+i64.wrap ((4:Int)*sgV lo (16:Int))))]] (qao o a b1 lo n))) (bc (decide (o=(8:Int))) (Q [.agg [.int .i64 o,.int .i64 b1,.int .i64 0,.int .i64 0,.int .i64 (i64.wrap (a+i64.wrap ((4:Int)*lo)))]] (qag o a b1 lo n)) (Q [.agg [.int .i64 o,.int .i64 b1,.int .i64 0,.int .i64 0,.int .i64 lo]] (qan o b1 lo n))))) (Q [.agg [.int .i64 0,.int .i64 0,.int .i64 0,.int .i64 0,.int .i64 n]] (qad n)))))))))):=by kernel_rfl
end Go.Proofs.YtplkpodikhfcdaaDoor
namespace Go.Proofs.YtplkpodikhfcdaaDoor
open Go.Px Go.Ax
open Go.IntKind(i64 u32 u8)
set_option maxRecDepth 100000
attribute [local irreducible] Go.Px.sy Go.Px.syE
abbrev i5V (r:InT):SV:=.agg [.int .i64 r.1,.int .i64 r.2.1,.int .i64 r.2.2.1,.int .i64 r.2.2.2.1,.int .i64 r.2.2.2.2]
theorem i5_ex (a b c d e:Int):∃ r:InT,[SV.agg [.int .i64 a,.int .i64 b,.int .i64 c,.int .i64 d,.int .i64 e]]=[i5V r]:=⟨(a,b,c,d,e),rfl⟩
abbrev rdS (o a b1 b2 b3 lo k n:Int):PS:=⟨[(1,.int .i64 a),(4,.ptr 4 0),(5,.int .i64 o),(6,.int .i64 b1),(7,.int .i64 b2),(8,.int .i64 b3),(9,.int .i64 lo),(10,.ptr 10 0),(33,.int .i64 k)],[(4,.var [.int .i64 0,.int .i64 0,.int .i64 0,.int .i64 0,.int .i64 0]),(10,.var [.int .i64 0,.int .i64 0,.int .i64 0,.int .i64 0,.int .i64 n])]⟩
theorem q7s (o a b1 b2 b3 lo k n:Int):∃ r:InT,GD 34 Tryd.f34 (fun rs _=>rs=[i5V r]) (midI 12 [] [.code (qah Tryd.f34)]) (rdS o a b1 b2 b3 lo k n):=by
 have e:=fun r:InT=>qk1 o a b1 b2 b3 lo k n (fun rs _=>rs=[i5V r]) R00
 have h:∃ r:InT,sy tt G0 CRd Tryd.f34.ntmps Tryd.f34.results.toList (fun rs _=>rs=[i5V r]) R00 1000 (midI 12 [] [.code (qah Tryd.f34)]) (rdS o a b1 b2 b3 lo k n):=by
  simp only[e]
  repeat' first
   | exact i5_ex _ _ _ _ _
   | refine qdr (by decide) ?_
   | refine qdr (Or.inl rfl) ?_
   | refine qdr (Or.inr rfl) ?_
   | refine qyb (fun _=>?_) (fun _=>?_)
 obtain ⟨r,h⟩:=h;exact ⟨r,qml cxRd (qk1 o a b1 b2 b3 lo k n _ _) ((qk1 o a b1 b2 b3 lo k n _ R00).mp h)⟩
theorem q7r (w a:Int):∃ r:InT,GD 34 Tryd.f34 (fun rs _=>rs=[i5V r]) [.code (qah Tryd.f34)] (entry [.int .u32,.int .i64] (w,a,())):=by
 obtain ⟨r,h⟩:=q7s (i64.wrap (w.fdiv ((2:Int) ^ min 24 u32.bits))) a (i64.wrap (bitI .and .u32 (w.fdiv ((2:Int) ^ min 16 u32.bits)) 255)) (i64.wrap (bitI .and .u32 (w.fdiv ((2:Int) ^ min 8 u32.bits)) 255)) (i64.wrap (bitI .and .u32 w 255))
  (i64.wrap (i64.wrap (256*i64.wrap (bitI .and .u32 (w.fdiv ((2:Int) ^ min 8 u32.bits)) 255))+i64.wrap (bitI .and .u32 w 255))) (i64.wrap (w.fdiv ((2:Int) ^ min 24 u32.bits))) (i64.wrap w)
 refine ⟨r,q4a cxRd (qvl w a _ _) ⟨by decide,by decide,by decide,?_⟩⟩;exact h.only ⟨rfl,rfl,rfl,rfl,rfl,rfl,rfl,rfl,rfl,trivial⟩ ⟨rfl,rfl,trivial⟩
noncomputable def rdV (w a:Int):InT:=Classical.choose (q7r w a)
noncomputable def ctRd:Ctr:=⟨[.int .u32,.int .i64],fun _=>True,fun x=>[i5V (rdV x.1 x.2.1)],fun _=>[]⟩
theorem q4k:Held Tryd.prog G0 34 ctRd:=Held.of cxRd (fn:=Tryd.f34) rfl rfl ⟨by decide,by decide⟩ fun ⟨w,a,_⟩ _=>(Classical.choose_spec (q7r w a)).post fun rs blk h=>by
 subst h;exact QC.flat rfl rfl rfl
end Go.Proofs.YtplkpodikhfcdaaDoor
namespace Go.Proofs.YtplkpodikhfcdaaDoor
open Go.Px Go.Ax
open Go.IntKind(i64 u32 u8)
set_option maxRecDepth 100000
set_option maxRecDepth 100000
theorem qnw (o a b c n t:Int) (Q:QT) (R:RT):sy tt G0 CRd Tryd.f54.ntmps Tryd.f54.results.toList Q R 1000 [.code (qah Tryd.f54)] (entry [i5s,iI] ((o,a,b,c,n),t,())) =
  ((4:Int)≠0 /\
 bc (decide (o=(1:Int))) (bc (decide (o=(1:Int))) ((0:Int)<=16 /\
 (0:Int)<=8 /\
 ctWrd.pre (o,bitI BinOp.or i64 (bitI BinOp.or i64 (i64.wrap (a*(2:Int) ^ min (16) i64.bits)) (i64.wrap (b*(2:Int) ^ min (8) i64.bits))) c,()) /\
 Q [.int .u32 (wrdV o (bitI BinOp.or i64 (bitI BinOp.or i64 (i64.wrap (a*(2:Int) ^ min (16) i64.bits)) (i64.wrap (b*(2:Int) ^ min (8) i64.bits))) c))] [(2,.var [.int .i64 o,.int .i64 a,.int .i64 b,.int .i64 c,.int .i64 n])]) (bc (decide (o=(2:Int))) ((0:Int)<=16 /\
 ctWrd.pre (o,bitI BinOp.or i64 (i64.wrap (a*(2:Int) ^ min (16) i64.bits)) (bitI BinOp.and i64 n (65535:Int)),()) /\
 Q [.int .u32 (wrdV o (bitI BinOp.or i64 (i64.wrap (a*(2:Int) ^ min (16) i64.bits)) (bitI BinOp.and i64 n (65535:Int))))] [(2,.var [.int .i64 o,.int .i64 a,.int .i64 b,.int .i64 c,.int .i64 n])]) (bc (decide (o=(5:Int))) (bc (decide (o=(5:Int))) (ctWrd.pre (o,i64.wrap ((i64.wrap (n-t)).tdiv (4:Int)),()) /\
 Q [.int .u32 (wrdV o (i64.wrap ((i64.wrap (n-t)).tdiv (4:Int))))] [(2,.var [.int .i64 o,.int .i64 a,.int .i64 b,.int .i64 c,.int .i64 n])]) (bc (decide (o=(7:Int))) (bc (decide (o=(7:Int))) ((0:Int)<=16 /\
 ctWrd.pre (o,bitI BinOp.or i64 (i64.wrap (a*(2:Int) ^ min (16) i64.bits)) (bitI BinOp.and i64 (i64.wrap ((i64.wrap (n-t)).tdiv (4:Int))) (65535:Int)),()) /\
 Q [.int .u32 (wrdV o (bitI BinOp.or i64 (i64.wrap (a*(2:Int) ^ min (16) i64.bits)) (bitI BinOp.and i64 (i64.wrap ((i64.wrap (n-t)).tdiv (4:Int))) (65535:Int))))] [(2,.var [.int .i64 o,.int .i64 a,.int .i64 b,.int .i64 c,.int .i64 n])]) (Q [.int .u32 (u32.wrap n)] [(2,.var [.int .i64 o,.int .i64 a,.int .i64 b,.int .i64 c,.int .i64 n])])) (bc (decide (o=(8:Int))) ((0:Int)<=16 /\
 ctWrd.pre (o,bitI BinOp.or i64 (i64.wrap (a*(2:Int) ^ min (16) i64.bits)) (bitI BinOp.and i64 (i64.wrap ((i64.wrap (n-t)).tdiv (4:Int))) (65535:Int)),()) /\
 Q [.int .u32 (wrdV o (bitI BinOp.or i64 (i64.wrap (a*(2:Int) ^ min (16) i64.bits)) (bitI BinOp.and i64 (i64.wrap ((i64.wrap (n-t)).tdiv (4:Int))) (65535:Int))))] [(2,.var [.int .i64 o,.int .i64 a,.int .i64 b,.int .i64 c,.int .i64 n])]) (Q [.int .u32 (u32.wrap n)] [(2,.var [.int .i64 o,.int .i64 a,.int .i64 b,.int .i64 c,.int .i64 n])])))) (bc (decide (o=(6:Int))) (ctWrd.pre (o,i64.wrap ((i64.wrap (n-t)).tdiv (4:Int)),()) /\
 Q [.int .u32 (wrdV o (i64.wrap ((i64.wrap (n-t)).tdiv (4:Int))))] [(2,.var [.int .i64 o,.int .i64 a,.int .i64 b,.int .i64 c,.int .i64 n])]) (bc (decide (o=(7:Int))) (bc (decide (o=(7:Int))) ((0:Int)<=16 /\
 ctWrd.pre (o,bitI BinOp.or i64 (i64.wrap (a*(2:Int) ^ min (16) i64.bits)) (bitI BinOp.and i64 (i64.wrap ((i64.wrap (n-t)).tdiv (4:Int))) (65535:Int)),()) /\
 Q [.int .u32 (wrdV o (bitI BinOp.or i64 (i64.wrap (a*(2:Int) ^ min (16) i64.bits)) (bitI BinOp.and i64 (i64.wrap ((i64.wrap (n-t)).tdiv (4:Int))) (65535:Int))))] [(2,.var [.int .i64 o,.int .i64 a,.int .i64 b,.int .i64 c,.int .i64 n])]) (Q [.int .u32 (u32.wrap n)] [(2,.var [.int .i64 o,.int .i64 a,.int .i64 b,.int .i64 c,.int .i64 n])])) (bc (decide (o=(8:Int))) ((0:Int)<=16 /\
 ctWrd.pre (o,bitI BinOp.or i64 (i64.wrap (a*(2:Int) ^ min (16) i64.bits)) (bitI BinOp.and i64 (i64.wrap ((i64.wrap (n-t)).tdiv (4:Int))) (65535:Int)),()) /\
 Q [.int .u32 (wrdV o (bitI BinOp.or i64 (i64.wrap (a*(2:Int) ^ min (16) i64.bits)) (bitI BinOp.and i64 (i64.wrap ((i64.wrap (n-t)).tdiv (4:Int))) (65535:Int))))] [(2,.var [.int .i64 o,.int .i64 a,.int .i64 b,.int .i64 c,.int .i64 n])]) (Q [.int .u32 (u32.wrap n)] [(2,.var [.int .i64 o,.int .i64 a,.int .i64 b,.int .i64 c,.int .i64 n])]))))))) (bc (decide (o=(3:Int))) (bc (decide (o=(3:Int))) ((0:Int)<=16 /\
 (0:Int)<=8 /\
 ctWrd.pre (o,bitI BinOp.or i64 (bitI BinOp.or i64 (i64.wrap (a*(2:Int) ^ min (16) i64.bits)) (i64.wrap (b*(2:Int) ^ min (8) i64.bits))) c,()) /\
 Q [.int .u32 (wrdV o (bitI BinOp.or i64 (bitI BinOp.or i64 (i64.wrap (a*(2:Int) ^ min (16) i64.bits)) (i64.wrap (b*(2:Int) ^ min (8) i64.bits))) c))] [(2,.var [.int .i64 o,.int .i64 a,.int .i64 b,.int .i64 c,.int .i64 n])]) (bc (decide (o=(2:Int))) ((0:Int)<=16 /\
 ctWrd.pre (o,bitI BinOp.or i64 (i64.wrap (a*(2:Int) ^ min (16) i64.bits)) (bitI BinOp.and i64 n (65535:Int)),()) /\
 Q [.int .u32 (wrdV o (bitI BinOp.or i64 (i64.wrap (a*(2:Int) ^ min (16) i64.bits)) (bitI BinOp.and i64 n (65535:Int))))] [(2,.var [.int .i64 o,.int .i64 a,.int .i64 b,.int .i64 c,.int .i64 n])]) (bc (decide (o=(5:Int))) (bc (decide (o=(5:Int))) (ctWrd.pre (o,i64.wrap ((i64.wrap (n-t)).tdiv (4:Int)),()) /\
 Q [.int .u32 (wrdV o (i64.wrap ((i64.wrap (n-t)).tdiv (4:Int))))] [(2,.var [.int .i64 o,.int .i64 a,.int .i64 b,.int .i64 c,.int .i64 n])]) (bc (decide (o=(7:Int))) (bc (decide (o=(7:Int))) ((0:Int)<=16 /\
 ctWrd.pre (o,bitI BinOp.or i64 (i64.wrap (a*(2:Int) ^ min (16) i64.bits)) (bitI BinOp.and i64 (i64.wrap ((i64.wrap (n-t)).tdiv (4:Int))) (65535:Int)),()) /\
 Q [.int .u32 (wrdV o (bitI BinOp.or i64 (i64.wrap (a*(2:Int) ^ min (16) i64.bits)) (bitI BinOp.and i64 (i64.wrap ((i64.wrap (n-t)).tdiv (4:Int))) (65535:Int))))] [(2,.var [.int .i64 o,.int .i64 a,.int .i64 b,.int .i64 c,.int .i64 n])]) (Q [.int .u32 (u32.wrap n)] [(2,.var [.int .i64 o,.int .i64 a,.int .i64 b,.int .i64 c,.int .i64 n])])) (bc (decide (o=(8:Int))) ((0:Int)<=16 /\
 ctWrd.pre (o,bitI BinOp.or i64 (i64.wrap (a*(2:Int) ^ min (16) i64.bits)) (bitI BinOp.and i64 (i64.wrap ((i64.wrap (n-t)).tdiv (4:Int))) (65535:Int)),()) /\
 Q [.int .u32 (wrdV o (bitI BinOp.or i64 (i64.wrap (a*(2:Int) ^ min (16) i64.bits)) (bitI BinOp.and i64 (i64.wrap ((i64.wrap (n-t)).tdiv (4:Int))) (65535:Int))))] [(2,.var [.int .i64 o,.int .i64 a,.int .i64 b,.int .i64 c,.int .i64 n])]) (Q [.int .u32 (u32.wrap n)] [(2,.var [.int .i64 o,.int .i64 a,.int .i64 b,.int .i64 c,.int .i64 n])])))) (bc (decide (o=(6:Int))) (ctWrd.pre (o,i64.wrap ((i64.wrap (n-t)).tdiv (4:Int)),()) /\
 Q [.int .u32 (wrdV o (i64.wrap ((i64.wrap (n-t)).tdiv (4:Int))))] [(2,.var [.int .i64 o,.int .i64 a,.int .i64 b,.int .i64 c,.int .i64 n])]) (bc (decide (o=(7:Int))) (bc (decide (o=(7:Int))) ((0:Int)<=16 /\
 ctWrd.pre (o,bitI BinOp.or i64 (i64.wrap (a*(2:Int) ^ min (16) i64.bits)) (bitI BinOp.and i64 (i64.wrap ((i64.wrap (n-t)).tdiv (4:Int))) (65535:Int)),()) /\
 Q [.int .u32 (wrdV o (bitI BinOp.or i64 (i64.wrap (a*(2:Int) ^ min (16) i64.bits)) (bitI BinOp.and i64 (i64.wrap ((i64.wrap (n-t)).tdiv (4:Int))) (65535:Int))))] [(2,.var [.int .i64 o,.int .i64 a,.int .i64 b,.int .i64 c,.int .i64 n])]) (Q [.int .u32 (u32.wrap n)] [(2,.var [.int .i64 o,.int .i64 a,.int .i64 b,.int .i64 c,.int .i64 n])])) (bc (decide (o=(8:Int))) ((0:Int)<=16 /\
 ctWrd.pre (o,bitI BinOp.or i64 (i64.wrap (a*(2:Int) ^ min (16) i64.bits)) (bitI BinOp.and i64 (i64.wrap ((i64.wrap (n-t)).tdiv (4:Int))) (65535:Int)),()) /\
 Q [.int .u32 (wrdV o (bitI BinOp.or i64 (i64.wrap (a*(2:Int) ^ min (16) i64.bits)) (bitI BinOp.and i64 (i64.wrap ((i64.wrap (n-t)).tdiv (4:Int))) (65535:Int))))] [(2,.var [.int .i64 o,.int .i64 a,.int .i64 b,.int .i64 c,.int .i64 n])]) (Q [.int .u32 (u32.wrap n)] [(2,.var [.int .i64 o,.int .i64 a,.int .i64 b,.int .i64 c,.int .i64 n])]))))))) (bc (decide (o=(4:Int))) ((0:Int)<=16 /\
 (0:Int)<=8 /\
 ctWrd.pre (o,bitI BinOp.or i64 (bitI BinOp.or i64 (i64.wrap (a*(2:Int) ^ min (16) i64.bits)) (i64.wrap (b*(2:Int) ^ min (8) i64.bits))) c,()) /\
 Q [.int .u32 (wrdV o (bitI BinOp.or i64 (bitI BinOp.or i64 (i64.wrap (a*(2:Int) ^ min (16) i64.bits)) (i64.wrap (b*(2:Int) ^ min (8) i64.bits))) c))] [(2,.var [.int .i64 o,.int .i64 a,.int .i64 b,.int .i64 c,.int .i64 n])]) (bc (decide (o=(2:Int))) ((0:Int)<=16 /\
 ctWrd.pre (o,bitI BinOp.or i64 (i64.wrap (a*(2:Int) ^ min (16) i64.bits)) (bitI BinOp.and i64 n (65535:Int)),()) /\
 Q [.int .u32 (wrdV o (bitI BinOp.or i64 (i64.wrap (a*(2:Int) ^ min (16) i64.bits)) (bitI BinOp.and i64 n (65535:Int))))] [(2,.var [.int .i64 o,.int .i64 a,.int .i64 b,.int .i64 c,.int .i64 n])]) (bc (decide (o=(5:Int))) (bc (decide (o=(5:Int))) (ctWrd.pre (o,i64.wrap ((i64.wrap (n-t)).tdiv (4:Int)),()) /\
 Q [.int .u32 (wrdV o (i64.wrap ((i64.wrap (n-t)).tdiv (4:Int))))] [(2,.var [.int .i64 o,.int .i64 a,.int .i64 b,.int .i64 c,.int .i64 n])]) (bc (decide (o=(7:Int))) (bc (decide (o=(7:Int))) ((0:Int)<=16 /\
 ctWrd.pre (o,bitI BinOp.or i64 (i64.wrap (a*(2:Int) ^ min (16) i64.bits)) (bitI BinOp.and i64 (i64.wrap ((i64.wrap (n-t)).tdiv (4:Int))) (65535:Int)),()) /\
 Q [.int .u32 (wrdV o (bitI BinOp.or i64 (i64.wrap (a*(2:Int) ^ min (16) i64.bits)) (bitI BinOp.and i64 (i64.wrap ((i64.wrap (n-t)).tdiv (4:Int))) (65535:Int))))] [(2,.var [.int .i64 o,.int .i64 a,.int .i64 b,.int .i64 c,.int .i64 n])]) (Q [.int .u32 (u32.wrap n)] [(2,.var [.int .i64 o,.int .i64 a,.int .i64 b,.int .i64 c,.int .i64 n])])) (bc (decide (o=(8:Int))) ((0:Int)<=16 /\
 ctWrd.pre (o,bitI BinOp.or i64 (i64.wrap (a*(2:Int) ^ min (16) i64.bits)) (bitI BinOp.and i64 (i64.wrap ((i64.wrap (n-t)).tdiv (4:Int))) (65535:Int)),()) /\
 Q [.int .u32 (wrdV o (bitI BinOp.or i64 (i64.wrap (a*(2:Int) ^ min (16) i64.bits)) (bitI BinOp.and i64 (i64.wrap ((i64.wrap (n-t)).tdiv (4:Int))) (65535:Int))))] [(2,.var [.int .i64 o,.int .i64 a,.int .i64 b,.int .i64 c,.int .i64 n])]) (Q [.int .u32 (u32.wrap n)] [(2,.var [.int .i64 o,.int .i64 a,.int .i64 b,.int .i64 c,.int .i64 n])])))) (bc (decide (o=(6:Int))) (ctWrd.pre (o,i64.wrap ((i64.wrap (n-t)).tdiv (4:Int)),()) /\
 Q [.int .u32 (wrdV o (i64.wrap ((i64.wrap (n-t)).tdiv (4:Int))))] [(2,.var [.int .i64 o,.int .i64 a,.int .i64 b,.int .i64 c,.int .i64 n])]) (bc (decide (o=(7:Int))) (bc (decide (o=(7:Int))) ((0:Int)<=16 /\
 ctWrd.pre (o,bitI BinOp.or i64 (i64.wrap (a*(2:Int) ^ min (16) i64.bits)) (bitI BinOp.and i64 (i64.wrap ((i64.wrap (n-t)).tdiv (4:Int))) (65535:Int)),()) /\
 Q [.int .u32 (wrdV o (bitI BinOp.or i64 (i64.wrap (a*(2:Int) ^ min (16) i64.bits)) (bitI BinOp.and i64 (i64.wrap ((i64.wrap (n-t)).tdiv (4:Int))) (65535:Int))))] [(2,.var [.int .i64 o,.int .i64 a,.int .i64 b,.int .i64 c,.int .i64 n])]) (Q [.int .u32 (u32.wrap n)] [(2,.var [.int .i64 o,.int .i64 a,.int .i64 b,.int .i64 c,.int .i64 n])])) (bc (decide (o=(8:Int))) ((0:Int)<=16 /\
 ctWrd.pre (o,bitI BinOp.or i64 (i64.wrap (a*(2:Int) ^ min (16) i64.bits)) (bitI BinOp.and i64 (i64.wrap ((i64.wrap (n-t)).tdiv (4:Int))) (65535:Int)),()) /\
 Q [.int .u32 (wrdV o (bitI BinOp.or i64 (i64.wrap (a*(2:Int) ^ min (16) i64.bits)) (bitI BinOp.and i64 (i64.wrap ((i64.wrap (n-t)).tdiv (4:Int))) (65535:Int))))] [(2,.var [.int .i64 o,.int .i64 a,.int .i64 b,.int .i64 c,.int .i64 n])]) (Q [.int .u32 (u32.wrap n)] [(2,.var [.int .i64 o,.int .i64 a,.int .i64 b,.int .i64 c,.int .i64 n])]))))))))):=by kernel_rfl
end Go.Proofs.YtplkpodikhfcdaaDoor
namespace Go.Proofs.YtplkpodikhfcdaaDoor
open Go.Px Go.Ax
set_option maxRecDepth 100000
attribute [local irreducible] Go.Px.sy Go.Px.syE
theorem u4_ex (v:Int):∃ r:Int,[SV.int .u32 v]=[SV.int .u32 r]:=⟨v,rfl⟩
theorem q8e (o a b c n t:Int):∃ r:Int,GD 54 Tryd.f54 (fun rs _=>rs=[SV.int .u32 r]) [.code (qah Tryd.f54)] (entry [i5s,iI] ((o,a,b,c,n),t,())):=by
 have e:=fun r:Int=>qnw o a b c n t (fun rs _=>rs=[SV.int .u32 r]) R00
 have h:∃ r:Int,sy tt G0 CRd Tryd.f54.ntmps Tryd.f54.results.toList (fun rs _=>rs=[SV.int .u32 r]) R00 1000 [.code (qah Tryd.f54)] (entry [i5s,iI] ((o,a,b,c,n),t,())):=by
  simp only[e]
  repeat' first
   | exact u4_ex _
   | refine qdr (by decide) ?_
   | refine qdr trivial ?_
   | refine qyb (fun _=>?_) (fun _=>?_)
 obtain ⟨r,h⟩:=h;exact ⟨r,qml cxRd (qnw o a b c n t _ _) ((qnw o a b c n t _ R00).mp h)⟩
noncomputable def guV (x:InT) (t:Int):Int:=Classical.choose (q8e x.1 x.2.1 x.2.2.1 x.2.2.2.1 x.2.2.2.2 t)
noncomputable def ctGu:Ctr:=⟨[i5s,iI],fun _=>True,fun x=>[.int .u32 (guV x.1 x.2.1)],fun _=>[]⟩
theorem q51:Held Tryd.prog G0 54 ctGu:=Held.of cxRd (fn:=Tryd.f54) rfl rfl ⟨by decide,by decide⟩ fun ⟨⟨o,a,b,c,n⟩,t,_⟩ _=>(Classical.choose_spec (q8e o a b c n t)).post fun rs blk h=>by
 subst h;exact QC.flat rfl rfl rfl
end Go.Proofs.YtplkpodikhfcdaaDoor
namespace Go.Proofs.YtplkpodikhfcdaaDoor
open Go.Px Go.Ax
set_option maxRecDepth 100000
noncomputable def CRe:CV:=[(54,.inl ctGu),(34,.inl ctRd)]
theorem cxRe:CxOK Tryd.prog tt G0 CRe:=(cx0.cons q4k (fn:=Tryd.f34) rfl rfl rfl).cons q51 (fn:=Tryd.f54) rfl rfl rfl
set_option maxRecDepth 100000
theorem qnx (o a b c n t:Int) (Q:QT) (R:RT):sy tt G0 CRe Tryd.f30.ntmps Tryd.f30.results.toList Q R 1000 [.code (qah Tryd.f30)] (entry [i5s,iI] ((o,a,b,c,n),t,())) =
  (ctGu.pre ((o,a,b,c,n),t,()) /\
 ctRd.pre (guV (o,a,b,c,n) t,t,()) /\
 bc (!decide ([(rdV (guV (o,a,b,c,n) t) t).1,(rdV (guV (o,a,b,c,n) t) t).2.1,(rdV (guV (o,a,b,c,n) t) t).2.2.1,(rdV (guV (o,a,b,c,n) t) t).2.2.2.1,(rdV (guV (o,a,b,c,n) t) t).2.2.2.2]=[o,a,b,c,n])) (Q [.int .u32 0,.int .i64 20] [(2,.var [.int .i64 o,.int .i64 a,.int .i64 b,.int .i64 c,.int .i64 n])]) (Q [.int .u32 (guV (o,a,b,c,n) t),.int .i64 0] [(2,.var [.int .i64 o,.int .i64 a,.int .i64 b,.int .i64 c,.int .i64 n])])):=by kernel_rfl
end Go.Proofs.YtplkpodikhfcdaaDoor
namespace Go.Proofs.YtplkpodikhfcdaaDoor
open Go.Px Go.Ax
set_option maxRecDepth 100000
attribute [local irreducible] Go.Px.sy Go.Px.syE
theorem q8m (o a b c n t:Int):∃ r:Int × Int,GD 30 Tryd.f30 (fun rs _=>rs=[SV.int .u32 r.1,.int .i64 r.2]) [.code (qah Tryd.f30)] (entry [i5s,iI] ((o,a,b,c,n),t,())):=by
 have e:=fun r:Int × Int=>qnx o a b c n t (fun rs _=>rs=[SV.int .u32 r.1,.int .i64 r.2]) R00
 have h:∃ r:Int × Int,sy tt G0 CRe Tryd.f30.ntmps Tryd.f30.results.toList (fun rs _=>rs=[SV.int .u32 r.1,.int .i64 r.2]) R00 1000 [.code (qah Tryd.f30)] (entry [i5s,iI] ((o,a,b,c,n),t,())):=by
  simp only[e];exact qdr trivial (qdr trivial (qyb (fun _=>⟨(0,20),rfl⟩) (fun _=>⟨(_,0),rfl⟩)))
 obtain ⟨r,h⟩:=h;exact ⟨r,qml cxRe (qnx o a b c n t _ _) ((qnx o a b c n t _ R00).mp h)⟩
noncomputable def enR (x:InT) (t:Int):Int × Int:=Classical.choose (q8m x.1 x.2.1 x.2.2.1 x.2.2.2.1 x.2.2.2.2 t)
noncomputable def ctEn:Ctr:=⟨[i5s,iI],fun _=>True,fun x=>[.int .u32 (enR x.1 x.2.1).1,.int .i64 (enR x.1 x.2.1).2],fun _=>[]⟩
theorem q6b:Held Tryd.prog G0 30 ctEn:=Held.of cxRe (fn:=Tryd.f30) rfl rfl ⟨by decide,by decide⟩ fun ⟨⟨o,a,b,c,n⟩,t,_⟩ _=>(Classical.choose_spec (q8m o a b c n t)).post fun rs blk h=>by
 subst h;exact QC.flat rfl rfl rfl
end Go.Proofs.YtplkpodikhfcdaaDoor
namespace Go.Proofs.YtplkpodikhfcdaaDoor
open Go.Px Go.Ax
open Go.IntKind(i64 u32 u8)
set_option maxRecDepth 100000
abbrev a4S:Sh:=.arr 4 uB
noncomputable def CCd:CV:=[(29,.inl ctMad),(30,.inl ctEn),(23,.inl ctByt)]
theorem cxCd:CxOK Tryd.prog tt G0 CCd:=((cx0.cons q1s (fn:=Tryd.f23) rfl rfl rfl).cons q6b (fn:=Tryd.f30) rfl rfl rfl).cons q0k (fn:=Tryd.f29) rfl rfl rfl
set_option maxRecDepth 100000
theorem q7d (l:List (List Int)) (n:Int) (Q:QT) (R:RT):sy tt G0 CCd Tryd.f12.ntmps Tryd.f12.results.toList Q (fun it S=>R it (qbe [0,5,6,7] [13,81] S)) 1000 [.code (qah Tryd.f12)] (entry [.sl a4S,iI] (l,n,())) =
  (R (hd Tryd.f12 0) { env:=[(0,.sl (Sh.arr (4:Nat) uB) l),(5,.win true u4 13 0 (0:Nat)),(6,.int .i64 (min (l.length:Int) n)),(7,.int .i64 0)],blk:=[(13,.row 53 u4 (List.replicate (0:Nat) u4.dflt))] }):=by kernel_rfl
theorem qvy (l:List (List Int)) (o:List Int) (n:Int) (i:Nat) (Q:QT) (R:RT):sy tt G0 CCd Tryd.f12.ntmps Tryd.f12.results.toList Q (fun it S=>R it (qbe [0,5,6,7] [13,81] S)) 1000 (hd Tryd.f12 0) ⟨[(0,.sl a4S l),(5,.win true u4 13 0 o.length),(6,.int .i64 n),(7,.int .i64 (i:Nat))],[(13,.row 53 u4 o)]⟩ =
  (bc (decide ((i:Int)<n)) ((0:Int)<=(i:Int) /\
 (i:Int)<(l.length:Int) /\
 ctMad.pre (gt (Sh.arr (4:Nat) uB) l (i:Int).toNat,()) /\
 (0:Int)<=(i:Int) /\
 (i:Int)<(l.length:Int) /\
 (0:Int)<=0 /\
 (0:Int)<(↑(4:Nat):Int) /\
 (16:Int)≠0 /\
 bc (decide ((5:Int)<=(i64.wrap (gtB (gt (Sh.arr (4:Nat) uB) l (i:Int).toNat) (0))).tmod (16:Int))) (bc (decide ((i64.wrap (gtB (gt (Sh.arr (4:Nat) uB) l (i:Int).toNat) (0))).tmod (16:Int)<=8)) ((0:Int)<=(i:Int) /\
 (i:Int)<(l.length:Int) /\
 (0:Int)<=2 /\
 (2:Int)<(↑(4:Nat):Int) /\
 i64.wrap (n+2)≠0 /\
 bc (decide ((i64.wrap (gtB (gt (Sh.arr (4:Nat) uB) l (i:Int).toNat) (0))).tmod (16:Int)=(7:Int))) (true=true /\
 (0:Int)<=(i:Int) /\
 (i:Int)<(l.length:Int) /\
 (0:Int)<=1 /\
 (1:Int)<(↑(4:Nat):Int) /\
 (16:Int)≠0 /\
 ctEn.pre (((i64.wrap (gtB (gt (Sh.arr (4:Nat) uB) l (i:Int).toNat) (0))).tmod (16:Int),(i64.wrap (gtB (gt (Sh.arr (4:Nat) uB) l (i:Int).toNat) (1))).tmod (16:Int),(0:Int),(0:Int),i64.wrap ((4:Int)*i64.wrap ((i64.wrap (gtB (gt (Sh.arr (4:Nat) uB) l (i:Int).toNat) (2))).tmod (i64.wrap (n+2))-1))),i64.wrap ((4:Int)*(i:Int)),()) /\
 bc (decide ((enR ((i64.wrap (gtB (gt (Sh.arr (4:Nat) uB) l (i:Int).toNat) (0))).tmod (16:Int),(i64.wrap (gtB (gt (Sh.arr (4:Nat) uB) l (i:Int).toNat) (1))).tmod (16:Int),(0:Int),(0:Int),i64.wrap ((4:Int)*i64.wrap ((i64.wrap (gtB (gt (Sh.arr (4:Nat) uB) l (i:Int).toNat) (2))).tmod (i64.wrap (n+2))-1))) (i64.wrap ((4:Int)*(i:Int)))).2=(0:Int))) ((0:Nat)+1<=((List.replicate (1:Nat) u4.dflt).set (0:Nat) (enR ((i64.wrap (gtB (gt (Sh.arr (4:Nat) uB) l (i:Int).toNat) (0))).tmod (16:Int),(i64.wrap (gtB (gt (Sh.arr (4:Nat) uB) l (i:Int).toNat) (1))).tmod (16:Int),(0:Int),(0:Int),i64.wrap ((4:Int)*i64.wrap ((i64.wrap (gtB (gt (Sh.arr (4:Nat) uB) l (i:Int).toNat) (2))).tmod (i64.wrap (n+2))-1))) (i64.wrap ((4:Int)*(i:Int)))).1).length /\
 o.length=o.length /\
 (0:Nat)=(0:Nat) /\
 o.length+(winL u4 0 1 ((List.replicate (1:Nat) u4.dflt).set (0:Nat) (enR ((i64.wrap (gtB (gt (Sh.arr (4:Nat) uB) l (i:Int).toNat) (0))).tmod (16:Int),(i64.wrap (gtB (gt (Sh.arr (4:Nat) uB) l (i:Int).toNat) (1))).tmod (16:Int),(0:Int),(0:Int),i64.wrap ((4:Int)*i64.wrap ((i64.wrap (gtB (gt (Sh.arr (4:Nat) uB) l (i:Int).toNat) (2))).tmod (i64.wrap (n+2))-1))) (i64.wrap ((4:Int)*(i:Int)))).1)).length<2 ^ 30 /\
 (4:Nat)<=2 ^ 10 /\
 R (hd Tryd.f12 0) { env:=[(0,.sl (Sh.arr (4:Nat) uB) l),(5,.win true u4 81 0 (o.length+(winL u4 0 1 ((List.replicate (1:Nat) u4.dflt).set (0:Nat) (enR ((i64.wrap (gtB (gt (Sh.arr (4:Nat) uB) l (i:Int).toNat) (0))).tmod (16:Int),(i64.wrap (gtB (gt (Sh.arr (4:Nat) uB) l (i:Int).toNat) (1))).tmod (16:Int),(0:Int),(0:Int),i64.wrap ((4:Int)*i64.wrap ((i64.wrap (gtB (gt (Sh.arr (4:Nat) uB) l (i:Int).toNat) (2))).tmod (i64.wrap (n+2))-1))) (i64.wrap ((4:Int)*(i:Int)))).1)).length)),(6,.int .i64 n),(7,.int .i64 (i64.wrap ((i:Int)+1)))],blk:=[(81,.row 53 u4 (o++winL u4 0 1 ((List.replicate (1:Nat) u4.dflt).set (0:Nat) (enR ((i64.wrap (gtB (gt (Sh.arr (4:Nat) uB) l (i:Int).toNat) (0))).tmod (16:Int),(i64.wrap (gtB (gt (Sh.arr (4:Nat) uB) l (i:Int).toNat) (1))).tmod (16:Int),(0:Int),(0:Int),i64.wrap ((4:Int)*i64.wrap ((i64.wrap (gtB (gt (Sh.arr (4:Nat) uB) l (i:Int).toNat) (2))).tmod (i64.wrap (n+2))-1))) (i64.wrap ((4:Int)*(i:Int)))).1)))] }) ((0:Nat)+1<=([(madV (gt (Sh.arr (4:Nat) uB) l (i:Int).toNat))]:List u4.D).length /\
 o.length=o.length /\
 (0:Nat)=(0:Nat) /\
 o.length+(([(madV (gt (Sh.arr (4:Nat) uB) l (i:Int).toNat))]:List u4.D)).length<2 ^ 30 /\
 (4:Nat)<=2 ^ 10 /\
 R (hd Tryd.f12 0) { env:=[(0,.sl (Sh.arr (4:Nat) uB) l),(5,.win true u4 81 0 (o.length+(([(madV (gt (Sh.arr (4:Nat) uB) l (i:Int).toNat))]:List u4.D)).length)),(6,.int .i64 n),(7,.int .i64 (i64.wrap ((i:Int)+1)))],blk:=[(81,.row 53 u4 (o++([(madV (gt (Sh.arr (4:Nat) uB) l (i:Int).toNat))]:List u4.D)))] })) (bc (bif false then true else decide ((i64.wrap (gtB (gt (Sh.arr (4:Nat) uB) l (i:Int).toNat) (0))).tmod (16:Int)=(8:Int))) ((0:Int)<=(i:Int) /\
 (i:Int)<(l.length:Int) /\
 (0:Int)<=1 /\
 (1:Int)<(↑(4:Nat):Int) /\
 (16:Int)≠0 /\
 ctEn.pre (((i64.wrap (gtB (gt (Sh.arr (4:Nat) uB) l (i:Int).toNat) (0))).tmod (16:Int),(i64.wrap (gtB (gt (Sh.arr (4:Nat) uB) l (i:Int).toNat) (1))).tmod (16:Int),(0:Int),(0:Int),i64.wrap ((4:Int)*i64.wrap ((i64.wrap (gtB (gt (Sh.arr (4:Nat) uB) l (i:Int).toNat) (2))).tmod (i64.wrap (n+2))-1))),i64.wrap ((4:Int)*(i:Int)),()) /\
 bc (decide ((enR ((i64.wrap (gtB (gt (Sh.arr (4:Nat) uB) l (i:Int).toNat) (0))).tmod (16:Int),(i64.wrap (gtB (gt (Sh.arr (4:Nat) uB) l (i:Int).toNat) (1))).tmod (16:Int),(0:Int),(0:Int),i64.wrap ((4:Int)*i64.wrap ((i64.wrap (gtB (gt (Sh.arr (4:Nat) uB) l (i:Int).toNat) (2))).tmod (i64.wrap (n+2))-1))) (i64.wrap ((4:Int)*(i:Int)))).2=(0:Int))) ((0:Nat)+1<=((List.replicate (1:Nat) u4.dflt).set (0:Nat) (enR ((i64.wrap (gtB (gt (Sh.arr (4:Nat) uB) l (i:Int).toNat) (0))).tmod (16:Int),(i64.wrap (gtB (gt (Sh.arr (4:Nat) uB) l (i:Int).toNat) (1))).tmod (16:Int),(0:Int),(0:Int),i64.wrap ((4:Int)*i64.wrap ((i64.wrap (gtB (gt (Sh.arr (4:Nat) uB) l (i:Int).toNat) (2))).tmod (i64.wrap (n+2))-1))) (i64.wrap ((4:Int)*(i:Int)))).1).length /\
 o.length=o.length /\
 (0:Nat)=(0:Nat) /\
 o.length+(winL u4 0 1 ((List.replicate (1:Nat) u4.dflt).set (0:Nat) (enR ((i64.wrap (gtB (gt (Sh.arr (4:Nat) uB) l (i:Int).toNat) (0))).tmod (16:Int),(i64.wrap (gtB (gt (Sh.arr (4:Nat) uB) l (i:Int).toNat) (1))).tmod (16:Int),(0:Int),(0:Int),i64.wrap ((4:Int)*i64.wrap ((i64.wrap (gtB (gt (Sh.arr (4:Nat) uB) l (i:Int).toNat) (2))).tmod (i64.wrap (n+2))-1))) (i64.wrap ((4:Int)*(i:Int)))).1)).length<2 ^ 30 /\
 (4:Nat)<=2 ^ 10 /\
 R (hd Tryd.f12 0) { env:=[(0,.sl (Sh.arr (4:Nat) uB) l),(5,.win true u4 81 0 (o.length+(winL u4 0 1 ((List.replicate (1:Nat) u4.dflt).set (0:Nat) (enR ((i64.wrap (gtB (gt (Sh.arr (4:Nat) uB) l (i:Int).toNat) (0))).tmod (16:Int),(i64.wrap (gtB (gt (Sh.arr (4:Nat) uB) l (i:Int).toNat) (1))).tmod (16:Int),(0:Int),(0:Int),i64.wrap ((4:Int)*i64.wrap ((i64.wrap (gtB (gt (Sh.arr (4:Nat) uB) l (i:Int).toNat) (2))).tmod (i64.wrap (n+2))-1))) (i64.wrap ((4:Int)*(i:Int)))).1)).length)),(6,.int .i64 n),(7,.int .i64 (i64.wrap ((i:Int)+1)))],blk:=[(81,.row 53 u4 (o++winL u4 0 1 ((List.replicate (1:Nat) u4.dflt).set (0:Nat) (enR ((i64.wrap (gtB (gt (Sh.arr (4:Nat) uB) l (i:Int).toNat) (0))).tmod (16:Int),(i64.wrap (gtB (gt (Sh.arr (4:Nat) uB) l (i:Int).toNat) (1))).tmod (16:Int),(0:Int),(0:Int),i64.wrap ((4:Int)*i64.wrap ((i64.wrap (gtB (gt (Sh.arr (4:Nat) uB) l (i:Int).toNat) (2))).tmod (i64.wrap (n+2))-1))) (i64.wrap ((4:Int)*(i:Int)))).1)))] }) ((0:Nat)+1<=([(madV (gt (Sh.arr (4:Nat) uB) l (i:Int).toNat))]:List u4.D).length /\
 o.length=o.length /\
 (0:Nat)=(0:Nat) /\
 o.length+(([(madV (gt (Sh.arr (4:Nat) uB) l (i:Int).toNat))]:List u4.D)).length<2 ^ 30 /\
 (4:Nat)<=2 ^ 10 /\
 R (hd Tryd.f12 0) { env:=[(0,.sl (Sh.arr (4:Nat) uB) l),(5,.win true u4 81 0 (o.length+(([(madV (gt (Sh.arr (4:Nat) uB) l (i:Int).toNat))]:List u4.D)).length)),(6,.int .i64 n),(7,.int .i64 (i64.wrap ((i:Int)+1)))],blk:=[(81,.row 53 u4 (o++([(madV (gt (Sh.arr (4:Nat) uB) l (i:Int).toNat))]:List u4.D)))] })) (ctEn.pre (((i64.wrap (gtB (gt (Sh.arr (4:Nat) uB) l (i:Int).toNat) (0))).tmod (16:Int),(0:Int),(0:Int),(0:Int),i64.wrap ((4:Int)*i64.wrap ((i64.wrap (gtB (gt (Sh.arr (4:Nat) uB) l (i:Int).toNat) (2))).tmod (i64.wrap (n+2))-1))),i64.wrap ((4:Int)*(i:Int)),()) /\
 bc (decide ((enR ((i64.wrap (gtB (gt (Sh.arr (4:Nat) uB) l (i:Int).toNat) (0))).tmod (16:Int),(0:Int),(0:Int),(0:Int),i64.wrap ((4:Int)*i64.wrap ((i64.wrap (gtB (gt (Sh.arr (4:Nat) uB) l (i:Int).toNat) (2))).tmod (i64.wrap (n+2))-1))) (i64.wrap ((4:Int)*(i:Int)))).2=(0:Int))) ((0:Nat)+1<=((List.replicate (1:Nat) u4.dflt).set (0:Nat) (enR ((i64.wrap (gtB (gt (Sh.arr (4:Nat) uB) l (i:Int).toNat) (0))).tmod (16:Int),(0:Int),(0:Int),(0:Int),i64.wrap ((4:Int)*i64.wrap ((i64.wrap (gtB (gt (Sh.arr (4:Nat) uB) l (i:Int).toNat) (2))).tmod (i64.wrap (n+2))-1))) (i64.wrap ((4:Int)*(i:Int)))).1).length /\
 o.length=o.length /\
 (0:Nat)=(0:Nat) /\
 o.length+(winL u4 0 1 ((List.replicate (1:Nat) u4.dflt).set (0:Nat) (enR ((i64.wrap (gtB (gt (Sh.arr (4:Nat) uB) l (i:Int).toNat) (0))).tmod (16:Int),(0:Int),(0:Int),(0:Int),i64.wrap ((4:Int)*i64.wrap ((i64.wrap (gtB (gt (Sh.arr (4:Nat) uB) l (i:Int).toNat) (2))).tmod (i64.wrap (n+2))-1))) (i64.wrap ((4:Int)*(i:Int)))).1)).length<2 ^ 30 /\
 (4:Nat)<=2 ^ 10 /\
 R (hd Tryd.f12 0) { env:=[(0,.sl (Sh.arr (4:Nat) uB) l),(5,.win true u4 81 0 (o.length+(winL u4 0 1 ((List.replicate (1:Nat) u4.dflt).set (0:Nat) (enR ((i64.wrap (gtB (gt (Sh.arr (4:Nat) uB) l (i:Int).toNat) (0))).tmod (16:Int),(0:Int),(0:Int),(0:Int),i64.wrap ((4:Int)*i64.wrap ((i64.wrap (gtB (gt (Sh.arr (4:Nat) uB) l (i:Int).toNat) (2))).tmod (i64.wrap (n+2))-1))) (i64.wrap ((4:Int)*(i:Int)))).1)).length)),(6,.int .i64 n),(7,.int .i64 (i64.wrap ((i:Int)+1)))],blk:=[(81,.row 53 u4 (o++winL u4 0 1 ((List.replicate (1:Nat) u4.dflt).set (0:Nat) (enR ((i64.wrap (gtB (gt (Sh.arr (4:Nat) uB) l (i:Int).toNat) (0))).tmod (16:Int),(0:Int),(0:Int),(0:Int),i64.wrap ((4:Int)*i64.wrap ((i64.wrap (gtB (gt (Sh.arr (4:Nat) uB) l (i:Int).toNat) (2))).tmod (i64.wrap (n+2))-1))) (i64.wrap ((4:Int)*(i:Int)))).1)))] }) ((0:Nat)+1<=([(madV (gt (Sh.arr (4:Nat) uB) l (i:Int).toNat))]:List u4.D).length /\
 o.length=o.length /\
 (0:Nat)=(0:Nat) /\
 o.length+(([(madV (gt (Sh.arr (4:Nat) uB) l (i:Int).toNat))]:List u4.D)).length<2 ^ 30 /\
 (4:Nat)<=2 ^ 10 /\
 R (hd Tryd.f12 0) { env:=[(0,.sl (Sh.arr (4:Nat) uB) l),(5,.win true u4 81 0 (o.length+(([(madV (gt (Sh.arr (4:Nat) uB) l (i:Int).toNat))]:List u4.D)).length)),(6,.int .i64 n),(7,.int .i64 (i64.wrap ((i:Int)+1)))],blk:=[(81,.row 53 u4 (o++([(madV (gt (Sh.arr (4:Nat) uB) l (i:Int).toNat))]:List u4.D)))] })))) ((0:Nat)+1<=([(madV (gt (Sh.arr (4:Nat) uB) l (i:Int).toNat))]:List u4.D).length /\
 o.length=o.length /\
 (0:Nat)=(0:Nat) /\
 o.length+(([(madV (gt (Sh.arr (4:Nat) uB) l (i:Int).toNat))]:List u4.D)).length<2 ^ 30 /\
 (4:Nat)<=2 ^ 10 /\
 R (hd Tryd.f12 0) { env:=[(0,.sl (Sh.arr (4:Nat) uB) l),(5,.win true u4 81 0 (o.length+(([(madV (gt (Sh.arr (4:Nat) uB) l (i:Int).toNat))]:List u4.D)).length)),(6,.int .i64 n),(7,.int .i64 (i64.wrap ((i:Int)+1)))],blk:=[(81,.row 53 u4 (o++([(madV (gt (Sh.arr (4:Nat) uB) l (i:Int).toNat))]:List u4.D)))] })) (false=false /\
 (0:Nat)+1<=([(madV (gt (Sh.arr (4:Nat) uB) l (i:Int).toNat))]:List u4.D).length /\
 o.length=o.length /\
 (0:Nat)=(0:Nat) /\
 o.length+(([(madV (gt (Sh.arr (4:Nat) uB) l (i:Int).toNat))]:List u4.D)).length<2 ^ 30 /\
 (4:Nat)<=2 ^ 10 /\
 R (hd Tryd.f12 0) { env:=[(0,.sl (Sh.arr (4:Nat) uB) l),(5,.win true u4 81 0 (o.length+(([(madV (gt (Sh.arr (4:Nat) uB) l (i:Int).toNat))]:List u4.D)).length)),(6,.int .i64 n),(7,.int .i64 (i64.wrap ((i:Int)+1)))],blk:=[(81,.row 53 u4 (o++([(madV (gt (Sh.arr (4:Nat) uB) l (i:Int).toNat))]:List u4.D)))] })) ((0:Nat)+o.length<=o.length /\
 ctByt.pre (winL u4 0 o.length o,()) /\
 Q [.win true uB 1339968 0 (bytL (winL u4 0 o.length o)).length] [(13,.row 53 u4 o),(1339968,.row 5 uB (bytL (winL u4 0 o.length o)))])):=by kernel_rfl
end Go.Proofs.YtplkpodikhfcdaaDoor
namespace Go.Proofs.YtplkpodikhfcdaaDoor
open Go.Px Go.Ax
set_option maxRecDepth 100000
theorem qe8 {l:List Int} {i j:Nat} {v:Int} (h:i<l.length):gtI (l.set i v) j=if j=i then v else gtI l j:=by
 show gt iI _ j=_
 unfold gt;by_cases e:j=i
 ·subst e;rw[if_pos rfl,List.getElem?_set_self h];rfl
 ·rw[if_neg e,List.getElem?_set_ne (fun q=>e q.symm)];rfl
theorem qht {l:List Int} {j:Nat} (h:j+1<l.length) (i:Nat):gtI (swp l j) i=if i=j then gtI l (j+1) else if i=j+1 then gtI l j else gtI l i:=by
 unfold swp;rw[qe8 (by rw[List.length_set];omega)];split
 ·rfl
 ·rw[qe8 h]
def inI' (n:Nat) (l:List Int) (x:Int):Prop:=∃ i,i<n/\gtI l i=x
theorem q7j {l:List Int} {j:Nat} (h:j+1<l.length) (x:Int):inI' l.length (swp l j) x↔inI' l.length l x:=by
 constructor
 ·rintro ⟨i,hi,e⟩;rw[qht h] at e;split at e
  ·exact ⟨j+1,h,e⟩
  ·split at e
   ·exact ⟨j,by omega,e⟩
   ·exact ⟨i,hi,e⟩
 ·rintro ⟨i,hi,e⟩;by_cases h1:i=j
  ·exact ⟨j+1,h,by rw[qht h,if_neg (by omega),if_pos rfl,<- h1];exact e⟩
  ·by_cases h2:i=j+1
   ·exact ⟨j,by omega,by rw[qht h,if_pos rfl,<- h2];exact e⟩
   ·exact ⟨i,hi,by rw[qht h,if_neg h1,if_neg h2];exact e⟩
def srt (m:Nat) (l:List Int):Prop:=∀ a b,a<b->b<m->gtI l a<=gtI l b
theorem qv8 {m:Nat}:∀ (j:Nat) (l:List Int),j<m->m<=l.length->(∀ a b,a<b->b<m->a≠j->b≠j->gtI l a<=gtI l b)->(∀ b,j<b->b<m->gtI l j<=gtI l b) ->
  srt m (qi9 j l)/\(∀ x,inI' l.length (qi9 j l) x↔inI' l.length l x)/\∀ i,m<=i->gtI (qi9 j l) i=gtI l i
 | 0,l,hj,hm,h1,h2=>by
  refine ⟨fun a b hab hb=>?_,fun x=>Iff.rfl,fun i _=>rfl⟩;by_cases ha:a=0
  ·subst ha;exact h2 b hab hb
  ·exact h1 a b hab hb ha (by omega)
 | j+1,l,hj,hm,h1,h2=>by
  rw[qi9];split
  ·rename_i hlt;have hjl:j+1<l.length:=by omega
   obtain ⟨r1,r2,r3⟩:=qv8 (m:=m) j (swp l j) (by omega) (by rw[qk7];exact hm)
    (fun a b hab hb ha hb'=>by
     rw[qht hjl,qht hjl,if_neg ha,if_neg hb'];by_cases e1:a=j+1
     ·rw[if_pos e1,if_neg (by omega)];exact h1 j b (by omega) hb (by omega) (by omega)
     ·rw[if_neg e1];by_cases e2:b=j+1
      ·rw[if_pos e2];exact h1 a j (by omega) (by omega) e1 (by omega)
      ·rw[if_neg e2];exact h1 a b hab hb e1 e2)
    (fun b hb hbm=>by
     rw[qht hjl,qht hjl,if_pos rfl,if_neg (by omega)];by_cases e2:b=j+1
     ·rw[if_pos e2];omega
     ·rw[if_neg e2];exact h2 b (by omega) hbm)
   rw[qk7] at r2;exact ⟨r1,fun x=>(r2 x).trans (q7j hjl x),fun i hi=>by rw[r3 i hi,qht hjl,if_neg (by omega),if_neg (by omega)]⟩
  ·rename_i hlt;refine ⟨fun a b hab hb=>?_,fun x=>Iff.rfl,fun i _=>rfl⟩;by_cases ha:a=j+1
   ·subst ha;exact h2 b hab hb
   ·by_cases hb':b=j+1
    ·subst hb';by_cases e:a=j
     ·subst e;omega
     ·have:=h1 a j (by omega) (by omega) ha (by omega);omega
    ·exact h1 a b hab hb ha hb'
theorem q26:∀ (k i:Nat) (l:List Int),i+k<=l.length->1<=i->srt i l->srt (i+k) (insF k i l)/\(∀ x,inI' l.length (insF k i l) x↔inI' l.length l x)
 | 0,i,l,_,_,h=>⟨h,fun x=>Iff.rfl⟩
 | k+1,i,l,hl,hi,h=>by
  rw[insF];obtain ⟨s1,s2,s3⟩:=qv8 (m:=i+1) i l (by omega) (by omega) (fun a b hab hb ha hb'=>h a b hab (by omega)) (fun b hb hbm=>by omega);obtain ⟨r1,r2⟩:=q26 k (i+1) (qi9 i l) (by rw[qfk];omega) (by omega) s1;rw[qfk] at r2;exact ⟨by rw[show i+(k+1)=i+1+k by omega];exact r1,fun x=>(r2 x).trans (s2 x)⟩
theorem q4f (l:List Int):srt l.length (qec l)/\∀ x,inI' l.length (qec l) x↔inI' l.length l x:=by
 unfold qec;by_cases h:l.length=0
 ·refine ⟨fun a b _ hb=>by omega,fun x=>?_⟩;rw[h];exact ⟨fun ⟨i,hi,_⟩=>by omega,fun ⟨i,hi,_⟩=>by omega⟩
 ·obtain ⟨r1,r2⟩:=q26 (l.length-1) 1 l (by omega) (Nat.le_refl _) (fun a b hab hb=>by omega);rw[show 1+(l.length-1)=l.length by omega] at r1;exact ⟨r1,r2⟩
def inc (m:Nat) (l:List Int):Prop:=∀ a b,a<b->b<m->gtI l a<gtI l b
theorem q02 {k:Nat} {l:List Int} {v:Int} (h:inc k l) (hk:k<l.length) (hv:0<k->gtI l (k-1)<v):inc (k+1) (l.set k v):=by
 intro a b hab hb;rw[qe8 hk,qe8 hk,if_neg (by omega)];by_cases e:b=k
 ·rw[if_pos e];by_cases e2:a=k-1
  ·rw[e2];exact hv (by omega)
  ·have:=h a (k-1) (by omega) (by omega);have:=hv (by omega);omega
 ·rw[if_neg e];exact h a b hab (by omega)
theorem qyk {L:List Int} (hs:srt L.length L) {lo:Nat}:∀ (f m k:Nat) (l:List Int),l.length=L.length->lo+m+f=L.length->1<=m->1<=k->k+1<=lo+m->inc k l->(∀ x,inI' k l x↔inI' (lo+m) L x)->gtI l (k-1)=gtI L (lo+m-1)->(∀ i,lo+m-1<=i->gtI l i=gtI L i) ->
  (cpJ lo f m k l).1<=L.length/\(cpJ lo f m k l).2.length=L.length/\inc (cpJ lo f m k l).1 (cpJ lo f m k l).2/\∀ x,inI' (cpJ lo f m k l).1 (cpJ lo f m k l).2 x↔inI' L.length L x
 | 0,m,k,l,hl,hf,hm,hk1,hk,hi,hin,_,_=>by
  rw[cpJ];rw[show lo+m=L.length by omega] at hin;exact ⟨by show k<=_;omega,hl,hi,hin⟩
 | f+1,m,k,l,hl,hf,hm,hk1,hk,hi,hin,hlast,hun=>by
  rw[cpJ];have e1:gtI l (lo+m)=gtI L (lo+m):=hun _ (by omega);have e2:gtI l (lo+(m-1))=gtI L (lo+m-1):=by rw[hun _ (by omega),show lo+(m-1)=lo+m-1 by omega]
  rw[e1,e2];split
  ·rename_i hne;have hle:=hs (lo+m-1) (lo+m) (by omega) (by omega);refine qyk hs f (m+1) (k+1) (l.set k (gtI L (lo+m))) (by rw[List.length_set];exact hl) (by omega) (by omega) (by omega) (by omega) (q02 hi (by omega) fun _=>by rw[hlast];omega) (fun x=>?_) (by rw[qe8 (by omega),if_pos (by omega)];congr 1) (fun i hi2=>by rw[qe8 (by omega),if_neg (by omega)];exact hun i (by omega));constructor
   ·rintro ⟨i,hi3,e⟩;rw[qe8 (by omega)] at e;split at e
    ·exact ⟨lo+m,by omega,e⟩
    ·obtain ⟨j,hj,e⟩:=(hin x).1 ⟨i,by omega,e⟩;exact ⟨j,by omega,e⟩
   ·rintro ⟨i,hi3,e⟩;by_cases h3:i=lo+m
    ·exact ⟨k,by omega,by rw[qe8 (by omega),if_pos rfl,<- h3];exact e⟩
    ·obtain ⟨j,hj,e⟩:=(hin x).2 ⟨i,by omega,e⟩;exact ⟨j,by omega,by rw[qe8 (by omega),if_neg (by omega)];exact e⟩
  ·rename_i heq;have heq:gtI L (lo+m)=gtI L (lo+m-1):=Decidable.not_not.1 heq;refine qyk hs f (m+1) k l hl (by omega) (by omega) hk1 (by omega) hi (fun x=>?_) (by rw[hlast,show lo+(m+1)-1=lo+m by omega,heq]) (fun i hi2=>hun i (by omega));rw[hin x];constructor
   ·rintro ⟨i,hi3,e⟩;exact ⟨i,by omega,e⟩
   ·rintro ⟨i,hi3,e⟩;by_cases h3:i=lo+m
    ·exact ⟨lo+m-1,by omega,by rw[<- heq,<- h3];exact e⟩
    ·exact ⟨i,by omega,e⟩
theorem q56 {k i:Nat} {l:List Int} (h:i<k):gtI (winL iI 0 k l) i=gtI l i:=by
 show gt iI _ _=gt iI _ _
 unfold gt winL;rw[List.drop_zero,List.getElem?_take_of_lt h]
theorem qgo {l:List Int} {k i:Nat} {z:List Int} (h:i<k) (hk:k<=l.length):gtI (setRow l k z) i=gtI l i:=by
 show gt iI _ _=gt iI _ _
 unfold gt setRow;rw[List.append_assoc,List.getElem?_append_left (by rw[List.length_take];omega),List.getElem?_take_of_lt h]
theorem q3d {L:List Int} (hs:srt L.length L):∀ (f k:Nat),k+f=L.length->1<=k->inc k L ->
  (cpI f k L).2.1<=L.length/\(cpI f k L).2.2.length=L.length/\inc (cpI f k L).2.1 (cpI f k L).2.2/\∀ x,inI' (cpI f k L).2.1 (cpI f k L).2.2 x↔inI' L.length L x
 | 0,k,hf,hk,hi=>by
  rw[cpI];rw[show k=L.length by omega] at hi;exact ⟨Nat.le_refl _,rfl,hi,fun x=>Iff.rfl⟩
 | f+1,k,hf,hk,hi=>by
  rw[cpI];split
  ·rename_i heq
   obtain ⟨r1,r2,r3,r4⟩:=qyk hs (lo:=k) (L.length-k-1) 1 k L rfl (by omega) (Nat.le_refl _) hk (Nat.le_refl _) hi (fun x=>by
    constructor
    ·rintro ⟨i,hi3,e⟩;exact ⟨i,by omega,e⟩
    ·rintro ⟨i,hi3,e⟩;by_cases h3:i=k
     ·exact ⟨k-1,by omega,by rw[<- heq,<- h3];exact e⟩
     ·exact ⟨i,by omega,e⟩) (by rw[show k+1-1=k by omega];exact heq.symm) (fun i _=>rfl)
   unfold cpZ;refine ⟨r1,?_,fun a b hab hb=>?_,fun x=>?_⟩
   ·show (setRow _ _ _).length=_
    unfold setRow;simp only[List.length_append,List.length_take,List.length_replicate,List.length_drop];omega
   ·show gtI (setRow _ _ _) a<gtI (setRow _ _ _) b
    have hb:b<(cpJ k (L.length-k-1) 1 k L).1:=hb;rw[qgo (by omega) (by omega),qgo hb (by omega)];exact r3 a b hab hb
   ·rw[<- r4 x];constructor
    ·rintro ⟨i,hi3,e⟩;have hi3:i<(cpJ k (L.length-k-1) 1 k L).1:=hi3;have e:gtI (setRow _ _ _) i=x:=e;rw[qgo hi3 (by omega)] at e;exact ⟨i,hi3,e⟩
    ·rintro ⟨i,hi3,e⟩;refine ⟨i,hi3,?_⟩
     show gtI (setRow _ _ _) i=x
     rw[qgo hi3 (by omega)];exact e
  ·rename_i hne;refine q3d hs f (k+1) (by omega) (by omega) fun a b hab hb=>?_
   by_cases e:b=k
   ·subst e;have h1:=hs (b-1) b (by omega) (by omega);by_cases e2:a=b-1
    ·subst e2;omega
    ·have:=hi a (b-1) (by omega) (by omega);omega
   ·exact hi a b hab (by omega)
theorem q8q {L:List Int} (hs:srt L.length L):(cptV L).2.1<=L.length/\(cptV L).2.2.length=L.length/\inc (cptV L).2.1 (cptV L).2.2/\∀ x,inI' (cptV L).2.1 (cptV L).2.2 x↔inI' L.length L x:=by
 unfold cptV;by_cases h:L.length=0
 ·rw[show L.length-1=0 by omega,cpI];exact ⟨Nat.le_refl _,rfl,fun a b _ hb=>by have hb:b<L.length:=hb;omega,fun x=>Iff.rfl⟩
 ·exact q3d hs _ 1 (by omega) (Nat.le_refl _) (fun a b hab hb=>by omega)
theorem qwa {l:List Int} (hi:inc l.length l) {p:Nat} (hp:p<l.length):∀ (k i j:Nat),j-i<=k->i<=p->p<=j->j<=l.length->seaF l (gtI l p) k i j=p
 | 0,i,j,hk,h1,h2,h3=>by rw[seaF];omega
 | k+1,i,j,hk,h1,h2,h3=>by
  rw[seaF];split
  ·rename_i hij;split
   ·rename_i hge;refine qwa hi hp k i ((i+j) / 2) (by omega) h1 ?_ (by omega);by_cases e:(i+j) / 2<p
    ·have:=hi _ _ e hp;omega
    ·omega
   ·rename_i hlt;refine qwa hi hp k ((i+j) / 2+1) j (by omega) ?_ h2 h3;by_cases e:p<(i+j) / 2+1
    ·by_cases e2:p=(i+j) / 2
     ·rw[<- e2] at hlt;omega
     ·have:=hi p ((i+j) / 2) (by omega) (by omega);omega
    ·omega
  ·omega
theorem q8d {l:List Int} (hi:inc l.length l) {p:Nat} (hp:p<l.length):iofV l (gtI l p)=p:=qwa hi hp _ 0 _ (by omega) (Nat.zero_le _) (by omega) (Nat.le_refl _)
theorem qoi (l:List Int):(qbl l).length=(tgV l).2.1/\inc (qbl l).length (qbl l)/\(qbl l).length<=(lnk l).length/\∀ x,inI' (qbl l).length (qbl l) x↔x∈tgO (lnk l):=by
 obtain ⟨s1,s2⟩:=q4f (tgO (lnk l));have sl:=qhy (tgO (lnk l));obtain ⟨c1,c2,c3,c4⟩:=q8q (L:=qec (tgO (lnk l))) (by rw[sl];exact s1);have hlen:(qbl l).length=(tgV l).2.1:=by
  unfold qbl winL;rw[List.drop_zero,List.length_take]
  show min (cptV _).2.1 (cptV _).2.2.length=(cptV _).2.1
  omega
 have hgl:∀ i,i<(tgV l).2.1->gtI (qbl l) i=gtI (tgV l).2.2 i:=fun i hi=>q56 hi
 refine ⟨hlen,fun a b hab hb=>?_,?_,fun x=>?_⟩
 ·rw[hlen] at hb;rw[hgl a (by omega),hgl b hb];exact c3 a b hab hb
 ·rw[hlen];have:(tgO (lnk l)).length=(lnk l).length:=by unfold tgO;rw[List.length_map]
  show (cptV _).2.1<=_
  omega
 ·rw[hlen];have h1:inI' (tgV l).2.1 (qbl l) x↔inI' (tgV l).2.1 (tgV l).2.2 x:=by
   constructor
   ·rintro ⟨i,hi,e⟩;exact ⟨i,hi,by rw[<- hgl i hi];exact e⟩
   ·rintro ⟨i,hi,e⟩;exact ⟨i,hi,by rw[hgl i hi];exact e⟩
  rw[h1,show inI' (tgV l).2.1 (tgV l).2.2 x↔_ from c4 x,sl,s2 x];constructor
  ·rintro ⟨i,hi,e⟩;rw[<- e,show gtI (tgO (lnk l)) i=(tgO (lnk l))[i] from qel hi];exact List.getElem_mem hi
  ·intro hx;obtain ⟨i,hi,e⟩:=List.getElem_of_mem hx;exact ⟨i,hi,by rw[show gtI (tgO (lnk l)) i=(tgO (lnk l))[i] from qel hi];exact e⟩
end Go.Proofs.YtplkpodikhfcdaaDoor
namespace Go.Proofs.YtplkpodikhfcdaaDoor
open Go.Px Go.Ax
set_option maxRecDepth 100000
theorem qj7 {l:List Int} {i j:Nat} {v:Int} (h:i<l.length):gtW (l.set i v) j=if j=i then v else gtW l j:=by
 show gt u4 _ j=_
 unfold gt;by_cases e:j=i
 ·subst e;rw[if_pos rfl,List.getElem?_set_self h];rfl
 ·rw[if_neg e,List.getElem?_set_ne (fun q=>e q.symm)];rfl
theorem q28 {l:List Bool} {i j:Nat} {v:Bool} (h:i<l.length):gtM (l.set i v) j=if j=i then v else gtM l j:=by
 show gt Sh.bool _ j=_
 unfold gt;by_cases e:j=i
 ·subst e;rw[if_pos rfl,List.getElem?_set_self h];rfl
 ·rw[if_neg e,List.getElem?_set_ne (fun q=>e q.symm)];rfl
theorem q23 (l lab:List Int):∀ (rs:List (Nat × InT)) (w:List Int) (m:List Bool),(lfF l lab rs w m).1.length=w.length/\(lfF l lab rs w m).2.length=m.length
 | [],w,m=>⟨rfl,rfl⟩
 | r::rs,w,m=>by
  rw[lfF];obtain ⟨h1,h2⟩:=q23 l lab rs (w.set r.1 (lfW l lab r.1 r.2)) (m.set r.1 true);rw[List.length_set] at h1 h2;exact ⟨h1,h2⟩
theorem qxs {l lab:List Int} {i:Nat}:∀ (rs:List (Nat × InT)) (w:List Int) (m:List Bool),(∀ r∈rs,r.1<w.length)->w.length=m.length->(∀ r∈rs,r.1≠i)->gtW (lfF l lab rs w m).1 i=gtW w i/\gtM (lfF l lab rs w m).2 i=gtM m i
 | [],w,m,_,_,_=>⟨rfl,rfl⟩
 | r::rs,w,m,h,he,hn=>by
  rw[lfF];have h0:=h r (List.mem_cons_self ..);obtain ⟨h1,h2⟩:=qxs rs (w.set r.1 (lfW l lab r.1 r.2)) (m.set r.1 true) (fun x hx=>by rw[List.length_set];exact h x (List.mem_cons_of_mem _ hx)) (by rw[List.length_set,List.length_set];exact he) (fun x hx=>hn x (List.mem_cons_of_mem _ hx));have hi:=hn r (List.mem_cons_self ..);rw[h1,h2,qj7 h0,q28 (by omega),if_neg (fun q=>hi q.symm),if_neg (fun q=>hi q.symm)];exact ⟨rfl,rfl⟩
theorem qxr {l lab:List Int}:∀ (rs:List (Nat × InT)) (w:List Int) (m:List Bool),(∀ r∈rs,r.1<w.length)->w.length=m.length->rs.Pairwise (fun a b=>a.1<b.1)->∀ r∈rs,gtW (lfF l lab rs w m).1 r.1=lfW l lab r.1 r.2/\gtM (lfF l lab rs w m).2 r.1=true
 | [],_,_,_,_,_,r,hr=>by cases hr
 | q::rs,w,m,h,he,hp,r,hr=>by
  rw[lfF];have h0:=h q (List.mem_cons_self ..);rw[List.pairwise_cons] at hp;rcases List.mem_cons.1 hr with e | hr
  ·subst e;obtain ⟨h1,h2⟩:=qxs (l:=l) (lab:=lab) (i:=r.1) rs (w.set r.1 (lfW l lab r.1 r.2)) (m.set r.1 true) (fun x hx=>by rw[List.length_set];exact h x (List.mem_cons_of_mem _ hx)) (by rw[List.length_set,List.length_set];exact he) (fun x hx=>by have:=hp.1 x hx;omega);rw[h1,h2,qj7 h0,q28 (by omega),if_pos rfl,if_pos rfl];exact ⟨rfl,rfl⟩
  ·exact qxr rs (w.set q.1 (lfW l lab q.1 q.2)) (m.set q.1 true) (fun x hx=>by rw[List.length_set];exact h x (List.mem_cons_of_mem _ hx)) (by rw[List.length_set,List.length_set];exact he) hp.2 r hr
theorem qgl {n:Nat}:∀ (l:List Int) (i:Nat) (r:Nat × InT),r∈lnkF n i l↔∃ j,∃ h:j<l.length,r=(i+j,decT l[j] (4*((i+j:Nat):Int)))/\isLk n l[j] (i+j)=true
 | [],i,r=>⟨fun h=>(by cases h),fun ⟨j,h,_⟩=>(by simp at h)⟩
 | w::l,i,r=>by
  have ih:=qgl (n:=n) l (i+1) r;have tail:(r∈lnkF n (i+1) l)↔∃ j,∃ h:j+1<(w::l).length,r=(i+(j+1),decT (w::l)[j+1] (4*((i+(j+1):Nat):Int)))/\isLk n (w::l)[j+1] (i+(j+1))=true:=by
   rw[ih];constructor
   ·rintro ⟨j,h,e1,e2⟩;exact ⟨j,by simpa using h,by rw[show i+(j+1)=i+1+j by omega];exact e1,by rw[show i+(j+1)=i+1+j by omega];exact e2⟩
   ·rintro ⟨j,h,e1,e2⟩;exact ⟨j,by simpa using h,by rw[show i+1+j=i+(j+1) by omega];exact e1,by rw[show i+1+j=i+(j+1) by omega];exact e2⟩
  rw[lnkF];split
  ·rename_i hl;rw[List.mem_cons,tail];constructor
   ·rintro (e | ⟨j,h,e1,e2⟩)
    ·exact ⟨0,by simp,e,hl⟩
    ·exact ⟨j+1,h,e1,e2⟩
   ·rintro ⟨j,h,e1,e2⟩
    cases j with
    | zero=>exact .inl e1
    | succ j=>exact .inr ⟨j,h,e1,e2⟩
  ·rename_i hl;rw[tail];constructor
   ·rintro ⟨j,h,e1,e2⟩;exact ⟨j+1,h,e1,e2⟩
   ·rintro ⟨j,h,e1,e2⟩
    cases j with
    | zero=>exact absurd e2 hl
    | succ j=>exact ⟨j,h,e1,e2⟩
theorem qlz {n:Nat}:∀ (l:List Int) (i:Nat),(lnkF n i l).Pairwise (fun a b=>a.1<b.1)
 | [],i=>by rw[lnkF];exact List.Pairwise.nil
 | w::l,i=>by
  rw[lnkF];split
  ·rw[List.pairwise_cons];refine ⟨fun x hx=>?_,qlz l (i+1)⟩;obtain ⟨j,h,e,_⟩:=(qgl l (i+1) x).1 hx;rw[e]
   show i<i+1+j
   omega
  ·exact qlz l (i+1)
theorem q5n {l:List Int} {i:Nat} (h:i<l.length):(∃ r∈lnk l,r.1=i)↔isLk l.length l[i] i=true:=by
 constructor
 ·rintro ⟨r,hr,e⟩;obtain ⟨j,hj,e1,e2⟩:=(qgl l 0 r).1 hr;rw[e1] at e;have e:0+j=i:=e;have hji:j=i:=by omega
  subst hji;rw[Nat.zero_add] at e2;exact e2
 ·intro hl;exact ⟨(i,decT l[i] (4*(i:Int))),(qgl l 0 _).2 ⟨i,h,by rw[Nat.zero_add],by rw[Nat.zero_add];exact hl⟩,rfl⟩
theorem qna (l:List Int):(lfV l).1.length=l.length/\(lfV l).2.length=l.length/\∀ i (h:i<l.length),gtM (lfV l).2 i=isLk l.length l[i] i /\
  (isLk l.length l[i] i=false->gtW (lfV l).1 i=l[i])/\(isLk l.length l[i] i=true->gtW (lfV l).1 i=lfW l (qbl l) i (decT l[i] (4*(i:Int)))/\∃ p,p<(qbl l).length/\gtI (qbl l) p=(decT l[i] (4*(i:Int))).2.2.2.2/\iofV (qbl l) (decT l[i] (4*(i:Int))).2.2.2.2=p):=by
 obtain ⟨g1,g2,g3,g4⟩:=qoi l;obtain ⟨f1,f2⟩:=q23 l (qbl l) (lnk l) l (List.replicate l.length false);rw[List.length_replicate] at f2;refine ⟨f1,f2,fun i h=>?_⟩
 cases hk:isLk l.length l[i] i with
 | false=>
  have hn:∀ r∈lnk l,r.1≠i:=fun r hr e=>by
   have:=(q5n h).1 ⟨r,hr,e⟩;rw[hk] at this;cases this
  obtain ⟨a1,a2⟩:=qxs (l:=l) (lab:=qbl l) (i:=i) (lnk l) l (List.replicate l.length false) (qxl l) (by rw[List.length_replicate]) hn;refine ⟨?_,fun _=>?_,fun q=>by cases q⟩
  ·show gtM (lfF _ _ _ _ _).2 i=false
   rw[a2,qp8 (by rw[List.length_replicate];exact h),List.getElem_replicate]
  ·show gtW (lfF _ _ _ _ _).1 i=l[i]
   rw[a1,qcl h]
 | true=>
  have hr:(i,decT l[i] (4*(i:Int)))∈lnk l:=(qgl l 0 _).2 ⟨i,h,by rw[Nat.zero_add],by rw[Nat.zero_add];exact hk⟩;obtain ⟨a1,a2⟩:=qxr (l:=l) (lab:=qbl l) (lnk l) l (List.replicate l.length false) (qxl l) (by rw[List.length_replicate]) (qlz l 0) _ hr;refine ⟨a2,(fun q=>by cases q),fun _=>⟨a1,?_⟩⟩;have hm:(decT l[i] (4*(i:Int))).2.2.2.2∈tgO (lnk l):=List.mem_map.2 ⟨_,hr,rfl⟩;obtain ⟨p,hp,e⟩:=(g4 _).2 hm;exact ⟨p,hp,e,by rw[<- e];exact q8d g2 hp⟩
end Go.Proofs.YtplkpodikhfcdaaDoor
namespace Go.Proofs.YtplkpodikhfcdaaDoor
open Go.Px Go.Ax
set_option maxRecDepth 100000
theorem qbb (x:BitVec 32):BitVec.ofInt 32 (x.toNat:Int)=x:=by
 rw[BitVec.ofInt_natCast,BitVec.ofNat_toNat,BitVec.setWidth_eq]
theorem qq4 (x:BitVec 32):IntKind.u32.wrap (x.toNat:Int)=x.toNat:=by
 have:=x.isLt;rw[IntWalk.u32_in _ (by omega)]
theorem q8t (x y:BitVec 32):bitI .or .u32 (x.toNat:Int) (y.toNat:Int)=((x ||| y).toNat:Int):=by
 show IntKind.u32.wrap (((BitVec.ofInt 32 (x.toNat:Int)) ||| (BitVec.ofInt 32 (y.toNat:Int))).toNat:Int)=_
 rw[qbb,qbb,qq4]
theorem q6i (x y:BitVec 32):bitI .and .u32 (x.toNat:Int) (y.toNat:Int)=((x &&& y).toNat:Int):=by
 show IntKind.u32.wrap (((BitVec.ofInt 32 (x.toNat:Int)) &&& (BitVec.ofInt 32 (y.toNat:Int))).toNat:Int)=_
 rw[qbb,qbb,qq4]
theorem qu9 (x y:BitVec 32):bitI .andNot .u32 (x.toNat:Int) (y.toNat:Int)=((x &&& ~~~y).toNat:Int):=by
 show IntKind.u32.wrap (((BitVec.ofInt 32 (x.toNat:Int)) &&& ~~~(BitVec.ofInt 32 (y.toNat:Int))).toNat:Int)=_
 rw[qbb,qbb,qq4]
theorem qxf (k i:Nat) (hi:i<32):(BitVec.ofNat 32 (2 ^ k-1)).getLsbD i=decide (i<k):=by
 rw[BitVec.getLsbD_ofNat,Nat.testBit_two_pow_sub_one,decide_eq_true hi,Bool.true_and]
theorem q27 {p:Nat} (hp:p<65536) {i:Nat} (hi:16<=i):(BitVec.ofNat 32 p).getLsbD i=false:=by
 rw[BitVec.getLsbD_ofNat];have:p.testBit i=false:=Nat.testBit_lt_two_pow (Nat.lt_of_lt_of_le hp (Nat.pow_le_pow_right (by decide) hi:2 ^ 16<=2 ^ i));rw[this,Bool.and_false]
end Go.Proofs.YtplkpodikhfcdaaDoor
namespace Go.Proofs.YtplkpodikhfcdaaDoor
open Go.Px Go.Ax
set_option maxRecDepth 100000
attribute [local irreducible] Go.Px.sy Go.Px.syE
theorem q4o {ct:Ctr} {x:DL ct.args} {rs:List SV} {blk:List (Nat × LB)} {e:Sh} {et:TypeId} {a k:Nat} {xs:List e.D} (h:ct.out x=[.win true e 0 0 xs.length]) (hr:ct.rows x=[.row et e xs]) (hs:rs=[.win true e a 0 k]) (hk:k=xs.length) (hb:lk blk a=some (.row et e xs)):QC ct x rs blk:=by
 subst hk;exact qgy h hr hs rfl hb
def ctB (ws:List Int):Ctr:=⟨[.sl a4S,iI],fun _=>True,fun _=>[.win true uB 0 0 (bytL ws).length],fun _=>[.row 5 uB (bytL ws)]⟩
abbrev WsN (N:Nat):Type:={ ws:List Int // ws.length=N }
abbrev cdS (l:List (List Int)) (o:List Int) (N i:Nat):PS:=⟨[(0,.sl a4S l),(5,.win true u4 13 0 o.length),(6,.int .i64 (N:Nat)),(7,.int .i64 (i:Nat))],[(13,.row 53 u4 o)]⟩
theorem q1n (l:List (List Int)) (n:Int) (N:Nat) (hN:N<=l.length) (hN2:N<=1000):∀ (k i:Nat) (o:List Int),N-i=k->i<=N->o.length=i ->
  ∃ r:WsN N,GD 12 Tryd.f12 (QC (ctB r.1) (l,n,())) (hd Tryd.f12 0) (cdS l o N i):=by
 intro k
 induction k with
 | zero=>
  intro i o hk hi ho;refine ⟨⟨o,by omega⟩,qap cxCd (qvy l o N i _ _) ?_⟩;rw[decide_eq_false (by omega),bc_f,qes];exact ⟨by omega,(show o.length<1000000 by omega),q4o (e:=uB) (et:=5) (a:=1339968) (xs:=bytL o) rfl rfl rfl rfl rfl⟩
 | succ k ih=>
  intro i o hk hi ho;have hlt:i<l.length:=by omega
  have leaf:∀ w:Int,∃ r:WsN N,GD 12 Tryd.f12 (QC (ctB r.1) (l,n,())) (hd Tryd.f12 0) ⟨[(0,.sl a4S l),(5,.win true u4 81 0 (o.length+1)),(6,.int .i64 (N:Nat)),(7,.int .i64 (IntKind.i64.wrap ((i:Int)+1)))],[(81,.row 53 u4 (o++[w]))]⟩:=fun w=>by
   obtain ⟨r,h⟩:=ih (i+1) (o++[w]) (by omega) (by omega) (by rw[List.length_append,ho];rfl);refine ⟨r,?_⟩;rw[IntWalk.i64_in ((i:Int)+1) (by omega)];exact h.onlyR [(13,81)] rfl ⟨rfl,by rw[List.length_append];rfl,rfl,rfl,trivial⟩ ⟨rfl,trivial⟩
  have hw:IntKind.i64.wrap ((N:Int)+2)≠0:=by rw[IntWalk.i64_in _ (by omega)];omega
  have e:=fun r:WsN N=>qvy l o N i (QC (ctB r.1) (l,n,())) (Px.Good Tryd.prog tt G0 12 Tryd.f12.ntmps Tryd.f12.results.toList (QC (ctB r.1) (l,n,())))
  have h:∃ r:WsN N,sy tt G0 CCd Tryd.f12.ntmps Tryd.f12.results.toList (QC (ctB r.1) (l,n,())) (fun it S=>Px.Good Tryd.prog tt G0 12 Tryd.f12.ntmps Tryd.f12.results.toList (QC (ctB r.1) (l,n,())) it (qbe [0,5,6,7] [13,81] S)) 1000 (hd Tryd.f12 0) (cdS l o N i):=by
   simp only[e];rw[decide_eq_true (show (i:Int)<(N:Int) by omega)]
   repeat' first
    | exact leaf _
    | refine qdr trivial ?_
    | refine qdr rfl ?_
    | refine qdr (by decide) ?_
    | refine qdr (by omega) ?_
    | refine qdr hw ?_
    | refine qdr (Nat.le_refl _) ?_
    | refine qdr (show o.length+1<2 ^ 30 by omega) ?_
    | refine qyb (fun _=>?_) (fun _=>?_)
   all_goals (rename_i hq;cases hq)
  obtain ⟨r,h⟩:=h;exact ⟨r,qap cxCd rfl h⟩
theorem qym (l:List (List Int)) (n:Int):∃ ws:List Int,(0<=n/\n<=1000->ws.length=min l.length n.toNat/\GD 12 Tryd.f12 (QC (ctB ws) (l,n,())) [.code (qah Tryd.f12)] (entry [.sl a4S,iI] (l,n,()))):=by
 by_cases hn:0<=n/\n<=1000
 ·obtain ⟨r,h⟩:=q1n l n (min l.length n.toNat) (Nat.min_le_left _ _) (by omega) _ 0 [] rfl (Nat.zero_le _) rfl;refine ⟨r.1,fun _=>⟨r.2,qap cxCd (q7d l n _ _) ?_⟩⟩;refine h.only ⟨rfl,rfl,?_,rfl,trivial⟩ ⟨rfl,trivial⟩;have e:((min l.length n.toNat:Nat):Int)=min (l.length:Int) n:=by omega
  show some (SV.int IntKind.i64 (min (l.length:Int) n))=some (SV.int IntKind.i64 ((min l.length n.toNat:Nat):Int))
  rw[e]
 ·exact ⟨[],fun q=>absurd q hn⟩
noncomputable def codW (l:List (List Int)) (n:Int):List Int:=Classical.choose (qym l n)
theorem q1p {l:List (List Int)} {n:Int} (hn:0<=n/\n<=1000):(codW l n).length=min l.length n.toNat:=(Classical.choose_spec (qym l n) hn).1
noncomputable def ctCod:Ctr:=⟨[.sl a4S,iI],fun x=>0<=x.2.1/\(show Int from x.2.1)<=1000,fun x=>[.win true uB 0 0 (bytL (codW x.1 x.2.1)).length],fun x=>[.row 5 uB (bytL (codW x.1 x.2.1))]⟩
theorem q1o:Held Tryd.prog G0 12 ctCod:=Held.of cxCd (fn:=Tryd.f12) rfl rfl ⟨by decide,by decide⟩ fun ⟨l,n,_⟩ hp=>(Classical.choose_spec (qym l n) hp).2
end Go.Proofs.YtplkpodikhfcdaaDoor
namespace Go.Proofs.YtplkpodikhfcdaaDoor
open Go.Px Go.Ax
set_option maxRecDepth 100000
theorem q6p {a b c d:Int} (ha:u8R a) (hb:u8R b) (hc:u8R c) (hd:u8R d):0<=wd a b c d/\wd a b c d<4294967296:=by
 unfold u8R at ha hb hc hd;unfold wd;omega
theorem qmu:∀ (k:Nat) (b:List Int),u8L b->∀ w∈qbz k b,0<=w/\w<4294967296
 | 0,_,_,w,hw=>by cases hw
 | k+1,b,h,w,hw=>by
  rw[qbz] at hw;rcases List.mem_cons.1 hw with e | e
  ·rw[e];exact q6p (h 0) (h 1) (h 2) (h 3)
  ·exact qmu k _ (h.drop 4) w e
theorem qkv (n:Nat):∀ (l:List Int) (i:Nat),(lnkF n i l).length<=l.length
 | [],_=>Nat.le_refl _
 | w::l,i=>by
  have:=qkv n l (i+1);rw[lnkF];split
  ·rw[List.length_cons,List.length_cons];omega
  ·rw[List.length_cons];omega
theorem qsa {b:List Int} {n:Nat} (hb:b.length=4*n) (h8:∀ x∈b,0<=x/\x<256) (hn:n<=12) :
  (qae b).2=0/\(qae b).1.length=n/\(∀ w∈(qae b).1,0<=w/\w<4294967296)/\qhc b:=by
 have e:qae b=(qbz (b.length / 4) b,0):=if_pos (by omega);have hl:(qae b).1.length=n:=by rw[e];show (qbz _ _).length=n;rw[qmv];omega
 have hr:∀ w∈(qae b).1,0<=w/\w<4294967296:=by rw[e];exact qmu _ _ (qo5 h8)
 have hk:(lnk (qae b).1).length<=12:=Nat.le_trans (qkv _ _ _) (by omega);exact ⟨by rw[e],hl,hr,qjd h8 (by omega) hr (by omega) hk⟩
theorem qti {b:List Int} (h:b.length<=65536) (h0:(qae b).2=0):qai b=⟨(lfV (qae b).1).1,(lfV (qae b).1).2,(tgV (qae b).1).2.1,(tgV (qae b).1).2.2,0⟩:=if_neg (by rintro (q | q);omega;exact q h0)
theorem qot (o:Int):dbV o≠0↔5<=o/\o<=8:=by
 unfold dbV;split
 ·omega
 ·split <;> omega
end Go.Proofs.YtplkpodikhfcdaaDoor
namespace Go.Proofs.YtplkpodikhfcdaaDoor
open Go.Px Go.Ax
open Go.IntKind(i64 u32 u8)
set_option maxRecDepth 100000
theorem u8w (n:Int):u8.wrap n=n % 256:=rfl
theorem by4_r (w:Int):∀ x∈by4 w,0<=x/\x<256:=fun x h=>by
 have r:∀ n:Int,0<=u8.wrap n/\u8.wrap n<256:=fun n=>by rw[u8w];omega
 unfold by4 at h;simp only[List.mem_cons,List.not_mem_nil,or_false] at h;rcases h with rfl | rfl | rfl | rfl <;> exact r _
theorem qty:∀ l,∀ x∈qat l,0<=x/\x<256
 | [],x,h=>by cases h
 | w::l,x,h=>by
  have h:x∈by4 w++qat l:=h;rcases List.mem_append.1 h with h | h
  ·exact by4_r w x h
  ·exact qty l x h
theorem q6q {w:Int} (h:0<=w/\w<4294967296) (r:List Int):wd (gtB (by4 w++r) 0) (gtB (by4 w++r) 1) (gtB (by4 w++r) 2) (gtB (by4 w++r) 3)=w:=by
 show wd (u8.wrap (Int.fdiv w 16777216)) (u8.wrap (Int.fdiv w 65536)) (u8.wrap (Int.fdiv w 256)) (u8.wrap w)=w
 rw[u8w,u8w,u8w,u8w,Int.fdiv_eq_ediv_of_nonneg _ (by decide),Int.fdiv_eq_ediv_of_nonneg _ (by decide),Int.fdiv_eq_ediv_of_nonneg _ (by decide)];unfold wd;omega
theorem qjv:∀ (l:List Int),(∀ w∈l,0<=w/\w<4294967296)->qbz l.length (qat l)=l
 | [],_=>rfl
 | w::l,h=>by
  have e:qat (w::l)=by4 w++qat l:=rfl;rw[List.length_cons,qbz,e,q6q (h w (List.mem_cons_self ..))];have d:(by4 w++qat l).drop 4=qat l:=rfl;rw[d,qjv l fun x hx=>h x (List.mem_cons_of_mem _ hx)]
theorem qoz {l:List Int} (h:∀ w∈l,0<=w/\w<4294967296):qae (qat l)=(l,0):=by
 have e:=qgq l;have d:(qat l).length / 4=l.length:=by omega
 unfold qae;rw[if_pos (by omega),d,qjv l h]
theorem q8k (o a b c n t:Int):0<=encW o a b c n t/\encW o a b c n t<4294967296:=by
 unfold encW;split
 ·unfold asmV;exact qky ..
 ·decide
theorem lkV_r (w t:Int) (l:List Int):0<=(lkV w t l).1/\(lkV w t l).1<4294967296:=by
 unfold lkV;split
 ·decide
 ·exact q8k ..
theorem set_r {l:List Int} {i:Nat} {v:Int} (h:∀ w∈l,0<=w/\w<4294967296) (hv:0<=v/\v<4294967296):∀ w∈l.set i v,0<=w/\w<4294967296:=fun w hw=>by
 rcases List.mem_or_eq_of_mem_set hw with h1 | h1
 ·exact h w h1
 ·rw[h1];exact hv
theorem qxk (m:List Bool) (lab:List Int):∀ (f i:Nat) (o:List Int),(∀ w∈o,0<=w/\w<4294967296)->i+f<=o.length ->
  (∀ w∈(loF m lab f i o).1,0<=w/\w<4294967296)/\((loF m lab f i o).2=0->(loF m lab f i o).1.length=o.length/\∀ j,gtM m j=false->gtW (loF m lab f i o).1 j=gtW o j)
 | 0,i,o,h,_=>⟨h,fun _=>⟨rfl,fun _ _=>rfl⟩⟩
 | f+1,i,o,h,hi=>by
  rw[loF];split
  ·rename_i hm;split
   ·rename_i h2;exact ⟨fun w hw=>(by cases hw),fun q=>absurd q h2⟩
   ·obtain ⟨a1,a2⟩:=qxk m lab f (i+1) (o.set i (lkV (gtW o i) (4*i) lab).1) (set_r h (lkV_r ..)) (by rw[List.length_set];omega);refine ⟨a1,fun q=>?_⟩;obtain ⟨b1,b2⟩:=a2 q;refine ⟨by rw[b1,List.length_set],fun j hj=>?_⟩;rw[b2 j hj,qj7 (by omega),if_neg];intro e;rw[e,hm] at hj;cases hj
  ·exact qxk m lab f (i+1) o h (by omega)
theorem qxj {w:List Int} {m:List Bool} {lab:List Int} (h:∀ x∈w,0<=x/\x<4294967296) :
  (∀ x∈(loV w m lab).1,0<=x/\x<4294967296)/\((loV w m lab).2=0->(loV w m lab).1.length=w.length/\∀ j,gtM m j=false->gtW (loV w m lab).1 j=gtW w j):=by
 unfold loV;split
 ·exact ⟨fun x hx=>(by cases hx),fun q=>(by cases q)⟩
 ·rename_i h2;exact qxk m lab m.length 0 w h (by omega)
theorem q8c (n i:Nat):isLk n 0 i=false:=by
 unfold isLk;have:dbV (opV 0)=0:=by decide
 rw[this];rfl
theorem qxm (n:Nat):∀ (l:List Int) (i:Nat),(lnkF n i l).length<=l.countP (fun w=>decide (w≠0))
 | [],_=>Nat.le_refl _
 | w::l,i=>by
  have:=qxm n l (i+1);rw[lnkF,List.countP_cons];split
  ·rename_i h;have hw:w≠0:=fun q=>by rw[q,q8c] at h;cases h
   rw[decide_eq_true hw,List.length_cons]
   show _+1<=_+1
   omega
  ·omega
theorem q1q {l:List Int} {a b:Nat} (h:∀ j,a<=j->j<a+b->gtW l j=0) (hl:a+b<=l.length):l.countP (fun w=>decide (w≠0))+b<=l.length:=by
 have e:l=l.take a++((l.drop a).take b++l.drop (a+b)):=by
  rw[<- List.drop_drop,List.take_append_drop,List.take_append_drop]
 have hz:((l.drop a).take b).countP (fun w=>decide (w≠0))=0:=by
  rw[List.countP_eq_zero];intro x hx;obtain ⟨j,hj,ej⟩:=List.getElem_of_mem hx;rw[List.length_take,List.length_drop] at hj;rw[List.getElem_take,List.getElem_drop] at ej;have:=h (a+j) (by omega) (by omega);rw[qcl (by omega)] at this;rw[<- ej,this];decide
 have c1:(l.take a).countP (fun w=>decide (w≠0))<=(l.take a).length:=List.countP_le_length;have c2:(l.drop (a+b)).countP (fun w=>decide (w≠0))<=(l.drop (a+b)).length:=List.countP_le_length;have et:l.countP (fun w=>decide (w≠0))=(l.take a).countP (fun w=>decide (w≠0))+(((l.drop a).take b).countP (fun w=>decide (w≠0))+(l.drop (a+b)).countP (fun w=>decide (w≠0))):=by
  rw[<- List.countP_append,<- List.countP_append,<- e]
 rw[List.length_take] at c1;rw[List.length_drop] at c2;omega
end Go.Proofs.YtplkpodikhfcdaaDoor
namespace Go.Proofs.YtplkpodikhfcdaaDoor
open Go.Px Go.Ax
set_option maxRecDepth 100000
theorem qkr {α:Type} {l:List α} {a b j:Nat} {z:α} (ha:a<=l.length) (h1:a<=j) (h2:j<a+b):(putF l a b z)[j]?=some z:=by
 unfold putF;rw[List.getElem?_append_left (by simp;omega),List.getElem?_append_right (by simp;omega),List.length_take,List.getElem?_replicate,if_pos (by omega)]
theorem qn6 {α:Type} {l:List α} {a b:Nat} {z x:α} (h:x∈putF l a b z):x∈l\/x=z:=by
 unfold putF at h;rcases List.mem_append.1 h with h | h
 ·rcases List.mem_append.1 h with h | h
  ·exact .inl (List.mem_of_mem_take h)
  ·exact .inr (List.eq_of_mem_replicate h)
 ·exact .inl (List.mem_of_mem_drop h)
theorem q5t {l:List Int} (h:∀ w∈l,0<=w/\w<4294967296):∀ w∈(lfV l).1,0<=w/\w<4294967296:=fun w hw=>by
 obtain ⟨f1,f2,f3⟩:=qna l;obtain ⟨i,hi,e⟩:=List.getElem_of_mem hw;obtain ⟨m1,m2,m3⟩:=f3 i (by omega);have eg:gtW (lfV l).1 i=w:=by rw[qcl hi,e]
 rw[<- eg]
 cases hk:isLk l.length l[i] i with
 | false=>rw[m2 hk];exact h _ (List.getElem_mem _)
 | true=>rw[(m3 hk).1];unfold lfW;exact qky ..
theorem q24 (l:List Int):∀ x∈qbl l,0<=x/\x<4*(l.length:Int):=fun x hx=>by
 obtain ⟨g1,g2,g3,g4⟩:=qoi l;obtain ⟨i,hi,e⟩:=List.getElem_of_mem hx;obtain ⟨r,hr,er⟩:=List.mem_map.1 ((g4 x).1 ⟨i,hi,by rw[qel hi,e]⟩);obtain ⟨j,hj,e1,e2⟩:=(qgl l 0 r).1 hr;simp only[Nat.zero_add] at e1 e2;unfold isLk at e2;rw[Bool.and_eq_true,Bool.and_eq_true,decide_eq_true_iff,decide_eq_true_iff,decide_eq_true_iff] at e2;rw[<- er,e1];exact e2.2
theorem q5e {f b x:Int} {n:Int} (hx:0<=x/\x<n) (hb:0<=b/\b<1000000) (hn:n<=1000000):mvF f b x=if f<=x then x+b else x:=by
 unfold mvF;rw[IntWalk.i64_in _ (by omega)]
theorem q2z {b:List Int} {n:Nat} (hb:b.length=4*n) (h8:∀ x∈b,0<=x/\x<256) (hn:n<=12) {a k:Nat} (ha:a<=n) (hk:k<=9) :
  qh6 b a k/\(qas b a k=([],30)\/∃ ws:List Int,qas b a k=(qat ws,0)/\(∀ w∈ws,0<=w/\w<4294967296)/\ws.length=n+k/\(lnk ws).length<=12 /\
   qmq ws=(putF (lfV (qae b).1).1 a k 0,putF (lfV (qae b).1).2 a k false,List.map (mvF (4*(a:Int)) (4*(k:Int))) (qbl (qae b).1)) /\
   ws=(loV (putF (lfV (qae b).1).1 a k 0) (putF (lfV (qae b).1).2 a k false) (List.map (mvF (4*(a:Int)) (4*(k:Int))) (qbl (qae b).1))).1 /\
   (loV (putF (lfV (qae b).1).1 a k 0) (putF (lfV (qae b).1).2 a k false) (List.map (mvF (4*(a:Int)) (4*(k:Int))) (qbl (qae b).1))).2=0):=by
 obtain ⟨c1,c2,c3,c4⟩:=qsa hb h8 hn;have el:=qti (b:=b) (by omega) c1;obtain ⟨f1,f2,f3⟩:=qna (qae b).1;have hx:movX b a k=(putF (lfV (qae b).1).1 a k 0,putF (lfV (qae b).1).2 a k false,List.map (mvF (4*(a:Int)) (4*(k:Int))) (qbl (qae b).1)):=by
  unfold movX;rw[el,Int.toNat_natCast,Int.toNat_natCast,IntWalk.i64_in (4*(a:Int)) (by omega),IntWalk.i64_in (4*(k:Int)) (by omega)];rfl
 have hlr:=q24 (qae b).1;have hw:∀ x∈putF (lfV (qae b).1).1 a k 0,0<=x/\x<4294967296:=fun x hx=>by
  rcases qn6 hx with h | h
  ·exact q5t c3 x h
  ·rw[h];decide
 have hl:∀ x∈List.map (mvF (4*(a:Int)) (4*(k:Int))) (qbl (qae b).1),-1073741824<=x/\x<=1073741824:=fun x hx=>by
  obtain ⟨y,hy,e⟩:=List.mem_map.1 hx;have:=hlr y hy;rw[q5e (n:=4*((qae b).1.length:Int)) this (by omega) (by omega)] at e;rw[<- e];split <;> omega
 generalize hW:putF (lfV (qae b).1).1 a k 0=W at *;generalize hM:putF (lfV (qae b).1).2 a k false=M at *;generalize hL:List.map (mvF (4*(a:Int)) (4*(k:Int))) (qbl (qae b).1)=L at *;have lW:W.length=n+k:=by rw[<- hW,qh4 _ _ _ _ (by omega)];omega
 obtain ⟨v1,v2⟩:=qxj (m:=M) (lab:=L) hw;have hlnk:(loV W M L).2=0->(lnk (loV W M L).1).length<=12:=fun q=>by
  obtain ⟨v3,v4⟩:=v2 q
  have:=q1q (l:=(loV W M L).1) (a:=a) (b:=k) (fun j h1 h2=>by
   rw[v4 j (by
    rw[<- hM]
    show gt Sh.bool _ _=_
    unfold gt
    rw[qkr (by omega) h1 h2];rfl),<- hW]
   show gt u4 _ _=_
   unfold gt
   rw[qkr (by omega) h1 h2];rfl) (by omega)
  have h2:=qxm (loV W M L).1.length (loV W M L).1 0
  show (lnkF _ _ _).length<=12
  omega
 have plo:qe0 W M L:=⟨⟨qvz hw,q25 hl⟩,fun q=>qn7 v1 (by have:=(v2 q).1;omega) (hlnk q)⟩;refine ⟨⟨c4,fun _=>by rw[hx];exact plo⟩,?_⟩;have hok:okM b a k:=by
  refine ⟨by rw[el],by omega,?_,by omega,?_⟩ <;> rw[el] <;> show _<=_ <;> (try (show (_:Int)<=((lfV (qae b).1).1.length:Int))) <;> (try (show (_:Int)<=16384-((lfV (qae b).1).1.length:Int))) <;> omega
 have hv:qas b a k=qa2 W M L:=by
  unfold qas;rw[if_pos hok,hx]
 by_cases q:(loV W M L).2≠0\/qmq (loV W M L).1≠(W,M,L)
 ·exact .inl (by rw[hv];exact if_pos q)
 ·have q0:(loV W M L).2=0:=Decidable.not_not.1 fun h=>q (.inl h)
  have q1:qmq (loV W M L).1=(W,M,L):=Decidable.not_not.1 fun h=>q (.inr h)
  exact .inr ⟨(loV W M L).1,by rw[hv];exact if_neg q,v1,by rw[(v2 q0).1];exact lW,hlnk q0,q1,rfl,q0⟩
end Go.Proofs.YtplkpodikhfcdaaDoor
namespace Go.Proofs.YtplkpodikhfcdaaDoor.InM
open Go.Ax
theorem qbp {a:Int}:IntKind.u32.wrap a=a % 4294967296:=by rw[IntKind.wrap_u32]
def sgn (n m:Int):Int:=if m / 2<=n then n-m else n
structure Wd (w b0 b1 b2 b3:Int):Prop where
 e:w=16777216*b0+65536*b1+256*b2+b3
 h0:0<=b0/\b0<=255
 h1:0<=b1/\b1<=255
 h2:0<=b2/\b2<=255
 h3:0<=b3/\b3<=255
theorem wd (w:Int) (h0:0<=w) (h1:w<4294967296):Wd w (w / 16777216 % 256) (w / 65536 % 256) (w / 256 % 256) (w % 256):=⟨by omega,by omega,by omega,by omega,by omega⟩
def opS (b0 b1 b2 b3:Int):Int:=
 if 9<=b0 then 0
 else if b0=1\/b0=3\/b0=4 then (if b1<=15/\b2<=15/\b3<=15 then b0 else 0)
 else if b0=2\/b0=7\/b0=8 then (if b1<=15 then b0 else 0)
 else b0
structure I5 where
 o:Int
 a:Int
 b:Int
 c:Int
 n:Int
def decO (o w b1 b2 b3 at_:Int):I5:=
 if o=0 then ⟨0,0,0,0,w⟩
 else if o=1\/o=3\/o=4 then ⟨o,b1,b2,b3,0⟩
 else if o=2 then ⟨2,b1,0,0,w % 65536⟩
 else if o=5\/o=6 then ⟨o,0,0,0,at_+4*sgn (w % 16777216) 16777216⟩
 else if o=7 then ⟨7,b1,0,0,at_+4*sgn (w % 65536) 65536⟩
 else ⟨8,b1,0,0,at_+4*(w % 65536)⟩
def decI (w at_:Int):I5:=decO (opS (w / 16777216 % 256) (w / 65536 % 256) (w / 256 % 256) (w % 256)) w (w / 65536 % 256) (w / 256 % 256) (w % 256) at_
def asmN (o n at_:Int):Int:=if 5<=o then (IntKind.i64.wrap (n-at_)).tdiv 4 else n
def asmL (o n at_:Int):Int:=
 let m:=asmN o n at_ % 4294967296
 if o=0 then m else if o=5\/o=6 then m % 16777216 else if o=2\/o=7\/o=8 then m % 65536 else 0
def asm (x:I5) (at_:Int):Int:=
 orW .u32 (orW .u32 (orW .u32 (orW .u32 (asmL x.o x.n at_) (x.o*16777216)) (x.a % 256*65536)) (x.b % 256*256)) (x.c % 256)
inductive OkI (at_:Int):I5->Prop
 | data {n} (h0:0<=n) (h1:n<4294967296) (h:opS (n / 16777216 % 256) (n / 65536 % 256) (n / 256 % 256) (n % 256)=0):OkI at_ ⟨0,0,0,0,n⟩
 | regs {o a b c} (ho:o=1\/o=3\/o=4) (ha:0<=a/\a<=15) (hb:0<=b/\b<=15) (hc:0<=c/\c<=15):OkI at_ ⟨o,a,b,c,0⟩
 | set {a n} (ha:0<=a/\a<=15) (hn:0<=n/\n<65536):OkI at_ ⟨2,a,0,0,n⟩
 | jump {o d} (ho:o=5\/o=6) (hd : -8388608<=d/\d<8388608):OkI at_ ⟨o,0,0,0,at_+4*d⟩
 | branch {a d} (ha:0<=a/\a<=15) (hd : -32768<=d/\d<32768):OkI at_ ⟨7,a,0,0,at_+4*d⟩
 | pool {a d} (ha:0<=a/\a<=15) (hd:0<=d/\d<65536):OkI at_ ⟨8,a,0,0,at_+4*d⟩
theorem sgn24 {n:Int} (h0:0<=n) (h1:n<16777216) : -8388608<=sgn n 16777216/\sgn n 16777216<8388608:=by unfold sgn;split <;> omega
theorem sgn16 {n:Int} (h0:0<=n) (h1:n<65536) : -32768<=sgn n 65536/\sgn n 65536<32768:=by unfold sgn;split <;> omega
inductive OpC (b0 b1 b2 b3:Int):Int->Prop
 | data (h:opS b0 b1 b2 b3=0):OpC b0 b1 b2 b3 0
 | regs {o} (ho:o=1\/o=3\/o=4) (e:b0=o) (h1:b1<=15) (h2:b2<=15) (h3:b3<=15):OpC b0 b1 b2 b3 o
 | set (e:b0=2) (h1:b1<=15):OpC b0 b1 b2 b3 2
 | jump {o} (ho:o=5\/o=6) (e:b0=o):OpC b0 b1 b2 b3 o
 | branch (e:b0=7) (h1:b1<=15):OpC b0 b1 b2 b3 7
 | pool (e:b0=8) (h1:b1<=15):OpC b0 b1 b2 b3 8
theorem opC {b0 b1 b2 b3:Int} (h0:0<=b0):OpC b0 b1 b2 b3 (opS b0 b1 b2 b3):=by
 by_cases hz:opS b0 b1 b2 b3=0
 ·rw[hz];exact .data hz
 ·by_cases h9:9<=b0
  ·exact absurd (by unfold opS;rw[if_pos h9]) hz
  ·by_cases h3:b0=1\/b0=3\/b0=4
   ·by_cases hr:b1<=15/\b2<=15/\b3<=15
    ·have:opS b0 b1 b2 b3=b0:=by unfold opS;rw[if_neg h9,if_pos h3,if_pos hr]
     rw[this];exact .regs h3 rfl hr.1 hr.2.1 hr.2.2
    ·exact absurd (by unfold opS;rw[if_neg h9,if_pos h3,if_neg hr]) hz
   ·by_cases h1:b0=2\/b0=7\/b0=8
    ·by_cases hr:b1<=15
     ·have:opS b0 b1 b2 b3=b0:=by unfold opS;rw[if_neg h9,if_neg h3,if_pos h1,if_pos hr]
      rw[this];rcases h1 with h1 | h1 | h1
      ·rw[h1];exact .set rfl hr
      ·rw[h1];exact .branch rfl hr
      ·rw[h1];exact .pool rfl hr
     ·exact absurd (by unfold opS;rw[if_neg h9,if_neg h3,if_pos h1,if_neg hr]) hz
    ·have:opS b0 b1 b2 b3=b0:=by unfold opS;rw[if_neg h9,if_neg h3,if_neg h1]
     rw[this];rw[this] at hz;exact .jump (by omega) rfl
theorem ok_dec {w:Int} (h0:0<=w) (h1:w<4294967296) (at_:Int):OkI at_ (decI w at_):=by
 unfold decI;have hw:=wd w h0 h1;generalize hb0:w / 16777216 % 256=b0 at hw;generalize hb1:w / 65536 % 256=b1 at hw;generalize hb2:w / 256 % 256=b2 at hw;generalize hb3:w % 256=b3 at hw;have hc:=opC (b1:=b1) (b2:=b2) (b3:=b3) hw.h0.1;have hr1:=hw.h1;have hr2:=hw.h2;have hr3:=hw.h3;generalize ho:opS b0 b1 b2 b3=o at hc
 cases hc with
 | data h=>
  refine .data h0 h1 ?_;rw[hb0,hb1,hb2,hb3];exact ho
 | regs ho' e x1 x2 x3=>
  have:decO o w b1 b2 b3 at_=⟨o,b1,b2,b3,0⟩:=by unfold decO;rw[if_neg (by omega),if_pos ho']
  rw[this];exact .regs ho' ⟨hr1.1,x1⟩ ⟨hr2.1,x2⟩ ⟨hr3.1,x3⟩
 | set e x1=>exact .set ⟨hr1.1,x1⟩ ⟨Int.emod_nonneg _ (by decide),Int.emod_lt_of_pos _ (by decide)⟩
 | jump ho' e=>
  have:decO o w b1 b2 b3 at_=⟨o,0,0,0,at_+4*sgn (w % 16777216) 16777216⟩:=by unfold decO;rw[if_neg (by omega),if_neg (by omega),if_neg (by omega),if_pos ho']
  rw[this];exact .jump ho' (sgn24 (Int.emod_nonneg _ (by decide)) (Int.emod_lt_of_pos _ (by decide)))
 | branch e x1=>exact .branch ⟨hr1.1,x1⟩ (sgn16 (Int.emod_nonneg _ (by decide)) (Int.emod_lt_of_pos _ (by decide)))
 | pool e x1=>exact .pool ⟨hr1.1,x1⟩ ⟨Int.emod_nonneg _ (by decide),Int.emod_lt_of_pos _ (by decide)⟩
theorem orA (m:Nat) {a b:Int} (h0:0<=a) (h1:a+b<4294967296) (h2:a % 2 ^ m=0) (h3:0<=b) (h4:b<2 ^ m):orW .u32 a b=a+b:=
 q43 m h0 (by simpa [IntKind.bits] using h1) h2 h3 h4 (IntWalk.u32_in _ (by omega))
theorem orB (m:Nat) {a b:Int} (h0:0<=b) (h1:a+b<4294967296) (h2:b % 2 ^ m=0) (h3:0<=a) (h4:a<2 ^ m):orW .u32 a b=a+b:=by
 rw[qtc,orA m h0 (by omega) h2 h3 h4];omega
theorem or0 {a:Int} (h0:0<=a) (h1:a<4294967296):orW .u32 a 0=a:=by
 have:=orA 0 (a:=a) (b:=0) h0 (by omega) (by simp) (by omega) (by simp);simpa using this
theorem qib (a b:Int):orW .u32 a b=(((BitVec.ofInt 32 a) ||| (BitVec.ofInt 32 b)).toNat:Int):=by
 unfold orW;rw[qbp];have:=((BitVec.ofInt 32 a) ||| (BitVec.ofInt 32 b)).isLt
 show ((((BitVec.ofInt 32 a) ||| (BitVec.ofInt 32 b)).toNat:Nat):Int) % 4294967296=_
 omega
theorem qlm (a b c:Int):orW .u32 (orW .u32 a b) c=orW .u32 a (orW .u32 b c):=by
 rw[qib (orW .u32 a b),qib a (orW .u32 b c),qib a b,qib b c];have h:∀ x:BitVec 32,BitVec.ofInt 32 (x.toNat:Int)=x:=fun x=>by
  rw[BitVec.ofInt_natCast,BitVec.ofNat_toNat,BitVec.setWidth_eq]
 rw[h,h,BitVec.or_assoc]
theorem q8u (x:I5) (at_:Int):asm x at_=orW .u32 (asmL x.o x.n at_) (orW .u32 (x.o*16777216) (orW .u32 (x.a % 256*65536) (orW .u32 (x.b % 256*256) (x.c % 256)))):=by
 unfold asm;rw[qlm,qlm,qlm]
theorem or00:orW .u32 0 0=0:=or0 (by decide) (by decide)
theorem qsf {o d at_:Int} (ho:5<=o) (hd : -16777216<=d/\d<=16777216):asmN o (at_+4*d) at_=d:=by
 unfold asmN;rw[if_pos ho,show at_+4*d-at_=4*d by omega,IntWalk.i64_in _ (by omega),Int.mul_tdiv_cancel_left _ (by decide)]
def form (x:I5) (at_:Int):Int:=
 if x.o=0 then x.n
 else if x.o=1\/x.o=3\/x.o=4 then x.o*16777216+(x.a*65536+(x.b*256+x.c))
 else if x.o=2 then x.n+(2*16777216+x.a*65536)
 else if x.o=5\/x.o=6 then (x.n-at_) / 4 % 16777216+x.o*16777216
 else (x.n-at_) / 4 % 65536+(x.o*16777216+x.a*65536)
theorem asm_form {x:I5} {at_:Int} (h:OkI at_ x):asm x at_=form x at_:=by
 rw[q8u];cases h with
 | @data n h0 h1 h=>
  simp only[asmL,asmN,form];rw[show (0:Int)*16777216=0 from rfl,show (0:Int) % 256*65536=0 from rfl,show (0:Int) % 256*256=0 from rfl,show (0:Int) % 256=0 from rfl,or00,or00,or00];simp only[if_true,show ¬ (5:Int)<=0 by decide,if_false];rw[Int.emod_eq_of_lt h0 h1,or0 h0 h1]
 | @regs o a b c ho ha hb hc=>
  have hl:asmL o 0 at_=0:=by
   unfold asmL asmN;simp only;rw[if_neg (by omega),if_neg (by omega),if_neg (by omega)]
  simp only[hl,form];rw[if_neg (by omega),if_pos ho,show a % 256=a by omega,Int.emod_eq_of_lt (by omega:0<=b) (by omega),Int.emod_eq_of_lt (by omega:0<=c) (by omega)];rw[orA 8 (a:=b*256) (by omega) (by omega) (by omega) (by omega) (by omega)];rw[orA 16 (a:=a*65536) (by omega) (by omega) (by omega) (by omega) (by omega)];rw[orA 24 (a:=o*16777216) (by omega) (by omega) (by omega) (by omega) (by omega)];rw[qtc,or0 (by omega) (by omega)]
 | @set a n ha hn=>
  have hl:asmL 2 n at_=n:=by
   have hN:asmN 2 n at_=n:=if_neg (by decide);unfold asmL;simp only[hN];rw[if_neg (by decide),if_neg (by decide),if_pos (by decide)];omega
  simp only[hl,form];rw[if_neg (by omega),if_neg (by omega),if_pos trivial,show a % 256=a by omega];rw[show (0:Int) % 256*256=0 from rfl,show (0:Int) % 256=0 from rfl,or00,or0 (a:=a*65536) (by omega) (by omega)];rw[orA 24 (a:=2*16777216) (b:=a*65536) (by decide) (by omega) (by decide) (by omega) (by omega)];rw[orB 16 (b:=2*16777216+a*65536) (by omega) (by omega) (by omega) (by omega) (by omega)]
 | @jump o d ho hd=>
  have hl:asmL o (at_+4*d) at_=d % 16777216:=by
   unfold asmL;simp only;rw[qsf (by omega) (by omega),if_neg (by omega),if_pos ho];omega
  simp only[hl,form];rw[if_neg (by omega),if_neg (by omega),if_neg (by omega),if_pos ho,show (at_+4*d-at_) / 4=d by omega];rw[show (0:Int) % 256*65536=0 from rfl,show (0:Int) % 256*256=0 from rfl,show (0:Int) % 256=0 from rfl,or00,or00,or0 (a:=o*16777216) (by omega) (by omega)];rw[orB 24 (b:=o*16777216) (by omega) (by omega) (by omega) (by omega) (by omega)]
 | @branch a d ha hd=>
  have hl:asmL 7 (at_+4*d) at_=d % 65536:=by
   unfold asmL;simp only;rw[qsf (by omega) (by omega),if_neg (by decide),if_neg (by decide),if_pos (by decide)];omega
  simp only[hl,form];rw[if_neg (by omega),if_neg (by omega),if_neg (by omega),if_neg (by omega),show (at_+4*d-at_) / 4=d by omega,show a % 256=a by omega];rw[show (0:Int) % 256*256=0 from rfl,show (0:Int) % 256=0 from rfl,or00,or0 (a:=a*65536) (by omega) (by omega)];rw[orA 24 (a:=7*16777216) (b:=a*65536) (by decide) (by omega) (by decide) (by omega) (by omega)];rw[orB 16 (b:=7*16777216+a*65536) (by omega) (by omega) (by omega) (by omega) (by omega)]
 | @pool a d ha hd=>
  have hl:asmL 8 (at_+4*d) at_=d % 65536:=by
   unfold asmL;simp only;rw[qsf (by omega) (by omega),if_neg (by decide),if_neg (by decide),if_pos (by decide)];omega
  simp only[hl,form];rw[if_neg (by omega),if_neg (by omega),if_neg (by omega),if_neg (by omega),show (at_+4*d-at_) / 4=d by omega,show a % 256=a by omega];rw[show (0:Int) % 256*256=0 from rfl,show (0:Int) % 256=0 from rfl,or00,or0 (a:=a*65536) (by omega) (by omega)];rw[orA 24 (a:=8*16777216) (b:=a*65536) (by decide) (by omega) (by decide) (by omega) (by omega)];rw[orB 16 (b:=8*16777216+a*65536) (by omega) (by omega) (by omega) (by omega) (by omega)]
theorem OkI.o_range {x:I5} {at_:Int} (h:OkI at_ x):0<=x.o/\x.o<=8:=by
 cases h <;> simp only <;> omega
end Go.Proofs.YtplkpodikhfcdaaDoor.InM
