/-
  A part of the proof: what pieces of the program give; conditions: those of each theorem.
-/
import Derived.Test.YthejkhpeokeccaaDoorQ1
import Derived.Test.YthejkhpeokeccaaDoorQ0
import Derived.Test.YthejkhpeokeccaaDoorHD
set_option linter.unusedVariables false
set_option linter.unusedSimpArgs false
namespace Go.Proofs.YthejkhpeokeccaaDoor
open Go.Px Go.Ax
open Go.IntKind(i64 u32 u8)
set_option maxRecDepth 100000
def CMd:CV:=[(93,.inr ctMd)]
theorem cxMd:CxOK Tryd.prog tt G0 CMd:=cx0.consI q6l (fn:=Tryd.f93) rfl rfl rfl
set_option maxRecDepth 100000
theorem vc_pt (l:List Int) (a b p:Int) (Q:QT) (R:RT):sy tt G0 qdf Tryd.f84.ntmps Tryd.f84.results.toList Q (fun it S=>R it (qar [0,1,10,11] [BIG] S)) 1000 [.code (qaf Tryd.f84)] (qao K3i (l,a,b,p,())) =
  (0<=p /\
 p<(l.length:Int) /\
 0+p.toNat<l.length /\
 0<=a /\
 a<(l.length:Int) /\
 0+a.toNat<l.length /\
 0<=a /\
 a<(l.length:Int) /\
 0+a.toNat<l.length /\
 0<=p /\
 p<(l.length:Int) /\
 0+p.toNat<(l.set (0+a.toNat) (gtI l (0+p.toNat))).length /\
 R (hd Tryd.f84 0) { env:=[(0,.win true iI BIG 0 l.length),(1,.int .i64 a),(10,.int .i64 (i64.wrap (a+1))),(11,.int .i64 (i64.wrap (b-1)))],blk:=[(BIG,.row 3 iI ((l.set (0+a.toNat) (gtI l (0+p.toNat))).set (0+p.toNat) (gtI l (0+a.toNat))))] }):=by kernel_rfl
theorem qv2 (l:List Int) (a i j:Int) (Q:QT) (R:RT):sy tt G0 qdf Tryd.f84.ntmps Tryd.f84.results.toList Q (fun it S=>R it (qar [0,1,10,11] [BIG] S)) 1000 (hd Tryd.f84 0) ⟨[(0,.win true iI BIG 0 l.length),(1,.int .i64 a),(10,.int .i64 i),(11,.int .i64 j)],[(BIG,.row 3 iI l)]⟩ =
  (bc (decide (i<=j)) (0<=i /\
 i<(l.length:Int) /\
 0+i.toNat<l.length /\
 0<=a /\
 a<(l.length:Int) /\
 0+a.toNat<l.length /\
 ctLess.pre (gtI l (0+i.toNat),gtI l (0+a.toNat),()) /\
 bc (decide ((have this:=gtI l (0+i.toNat);this)<gtI l (0+a.toNat))) (R (hd Tryd.f84 0) { env:=[(0,.win true iI BIG 0 l.length),(1,.int .i64 a),(10,.int .i64 (i64.wrap (i+1))),(11,.int .i64 j)],blk:=[(BIG,.row 3 iI l)] }) (R (hd Tryd.f84 1) { env:=[(0,.win true iI BIG 0 l.length),(1,.int .i64 a),(10,.int .i64 i),(11,.int .i64 j)],blk:=[(BIG,.row 3 iI l)] })) (false=false /\
 R (hd Tryd.f84 1) { env:=[(0,.win true iI BIG 0 l.length),(1,.int .i64 a),(10,.int .i64 i),(11,.int .i64 j)],blk:=[(BIG,.row 3 iI l)] })):=by kernel_rfl
theorem qsi (l:List Int) (a i j:Int) (Q:QT) (R:RT):sy tt G0 qdf Tryd.f84.ntmps Tryd.f84.results.toList Q (fun it S=>R it (qar [0,1,10,11] [BIG] S)) 1000 (hd Tryd.f84 1) ⟨[(0,.win true iI BIG 0 l.length),(1,.int .i64 a),(10,.int .i64 i),(11,.int .i64 j)],[(BIG,.row 3 iI l)]⟩ =
  (bc (decide (i<=j)) (0<=j /\
 j<(l.length:Int) /\
 0+j.toNat<l.length /\
 0<=a /\
 a<(l.length:Int) /\
 0+a.toNat<l.length /\
 ctLess.pre (gtI l (0+j.toNat),gtI l (0+a.toNat),()) /\
 bc (bif true then !decide ((have this:=gtI l (0+j.toNat);this)<gtI l (0+a.toNat)) else false) (R (hd Tryd.f84 1) { env:=[(0,.win true iI BIG 0 l.length),(1,.int .i64 a),(10,.int .i64 i),(11,.int .i64 (i64.wrap (j-1)))],blk:=[(BIG,.row 3 iI l)] }) (bc (decide (j<i)) (0<=a /\
 a<(l.length:Int) /\
 0+a.toNat<l.length /\
 0<=j /\
 j<(l.length:Int) /\
 0+j.toNat<l.length /\
 0<=j /\
 j<(l.length:Int) /\
 0+j.toNat<l.length /\
 0<=a /\
 a<(l.length:Int) /\
 0+a.toNat<(l.set (0+j.toNat) (gtI l (0+a.toNat))).length /\
 Q [.int .i64 j,.bool true] [(BIG,.row 3 iI ((l.set (0+j.toNat) (gtI l (0+a.toNat))).set (0+a.toNat) (gtI l (0+j.toNat))))]) (0<=j /\
 j<(l.length:Int) /\
 0+j.toNat<l.length /\
 0<=i /\
 i<(l.length:Int) /\
 0+i.toNat<l.length /\
 0<=i /\
 i<(l.length:Int) /\
 0+i.toNat<l.length /\
 0<=j /\
 j<(l.length:Int) /\
 0+j.toNat<(l.set (0+i.toNat) (gtI l (0+j.toNat))).length /\
 R (hd Tryd.f84 2) { env:=[(0,.win true iI BIG 0 l.length),(1,.int .i64 a),(10,.int .i64 (i64.wrap (i+1))),(11,.int .i64 (i64.wrap (j-1)))],blk:=[(BIG,.row 3 iI ((l.set (0+i.toNat) (gtI l (0+j.toNat))).set (0+j.toNat) (gtI l (0+i.toNat))))] }))) (false=false /\
 bc (decide (j<i)) (0<=a /\
 a<(l.length:Int) /\
 0+a.toNat<l.length /\
 0<=j /\
 j<(l.length:Int) /\
 0+j.toNat<l.length /\
 0<=j /\
 j<(l.length:Int) /\
 0+j.toNat<l.length /\
 0<=a /\
 a<(l.length:Int) /\
 0+a.toNat<(l.set (0+j.toNat) (gtI l (0+a.toNat))).length /\
 Q [.int .i64 j,.bool true] [(BIG,.row 3 iI ((l.set (0+j.toNat) (gtI l (0+a.toNat))).set (0+a.toNat) (gtI l (0+j.toNat))))]) (0<=j /\
 j<(l.length:Int) /\
 0+j.toNat<l.length /\
 0<=i /\
 i<(l.length:Int) /\
 0+i.toNat<l.length /\
 0<=i /\
 i<(l.length:Int) /\
 0+i.toNat<l.length /\
 0<=j /\
 j<(l.length:Int) /\
 0+j.toNat<(l.set (0+i.toNat) (gtI l (0+j.toNat))).length /\
 R (hd Tryd.f84 2) { env:=[(0,.win true iI BIG 0 l.length),(1,.int .i64 a),(10,.int .i64 (i64.wrap (i+1))),(11,.int .i64 (i64.wrap (j-1)))],blk:=[(BIG,.row 3 iI ((l.set (0+i.toNat) (gtI l (0+j.toNat))).set (0+j.toNat) (gtI l (0+i.toNat))))] }))):=by kernel_rfl
theorem q2t (l:List Int) (a i j:Int) (Q:QT) (R:RT):sy tt G0 qdf Tryd.f84.ntmps Tryd.f84.results.toList Q (fun it S=>R it (qar [0,1,10,11] [BIG] S)) 1000 (hd Tryd.f84 2) ⟨[(0,.win true iI BIG 0 l.length),(1,.int .i64 a),(10,.int .i64 i),(11,.int .i64 j)],[(BIG,.row 3 iI l)]⟩ =
  (R (hd Tryd.f84 3) { env:=[(0,.win true iI BIG 0 l.length),(1,.int .i64 a),(10,.int .i64 i),(11,.int .i64 j)],blk:=[(BIG,.row 3 iI l)] }):=by kernel_rfl
theorem qv1 (l:List Int) (a i j:Int) (Q:QT) (R:RT):sy tt G0 qdf Tryd.f84.ntmps Tryd.f84.results.toList Q (fun it S=>R it (qar [0,1,10,11] [BIG] S)) 1000 (hd Tryd.f84 3) ⟨[(0,.win true iI BIG 0 l.length),(1,.int .i64 a),(10,.int .i64 i),(11,.int .i64 j)],[(BIG,.row 3 iI l)]⟩ =
  (bc (decide (i<=j)) (0<=i /\
 i<(l.length:Int) /\
 0+i.toNat<l.length /\
 0<=a /\
 a<(l.length:Int) /\
 0+a.toNat<l.length /\
 ctLess.pre (gtI l (0+i.toNat),gtI l (0+a.toNat),()) /\
 bc (decide ((have this:=gtI l (0+i.toNat);this)<gtI l (0+a.toNat))) (R (hd Tryd.f84 3) { env:=[(0,.win true iI BIG 0 l.length),(1,.int .i64 a),(10,.int .i64 (i64.wrap (i+1))),(11,.int .i64 j)],blk:=[(BIG,.row 3 iI l)] }) (R (hd Tryd.f84 4) { env:=[(0,.win true iI BIG 0 l.length),(1,.int .i64 a),(10,.int .i64 i),(11,.int .i64 j)],blk:=[(BIG,.row 3 iI l)] })) (false=false /\
 R (hd Tryd.f84 4) { env:=[(0,.win true iI BIG 0 l.length),(1,.int .i64 a),(10,.int .i64 i),(11,.int .i64 j)],blk:=[(BIG,.row 3 iI l)] })):=by kernel_rfl
theorem qsh (l:List Int) (a i j:Int) (Q:QT) (R:RT):sy tt G0 qdf Tryd.f84.ntmps Tryd.f84.results.toList Q (fun it S=>R it (qar [0,1,10,11] [BIG] S)) 1000 (hd Tryd.f84 4) ⟨[(0,.win true iI BIG 0 l.length),(1,.int .i64 a),(10,.int .i64 i),(11,.int .i64 j)],[(BIG,.row 3 iI l)]⟩ =
  (bc (decide (i<=j)) (0<=j /\
 j<(l.length:Int) /\
 0+j.toNat<l.length /\
 0<=a /\
 a<(l.length:Int) /\
 0+a.toNat<l.length /\
 ctLess.pre (gtI l (0+j.toNat),gtI l (0+a.toNat),()) /\
 bc (bif true then !decide ((have this:=gtI l (0+j.toNat);this)<gtI l (0+a.toNat)) else false) (R (hd Tryd.f84 4) { env:=[(0,.win true iI BIG 0 l.length),(1,.int .i64 a),(10,.int .i64 i),(11,.int .i64 (i64.wrap (j-1)))],blk:=[(BIG,.row 3 iI l)] }) (bc (decide (j<i)) (0<=a /\
 a<(l.length:Int) /\
 0+a.toNat<l.length /\
 0<=j /\
 j<(l.length:Int) /\
 0+j.toNat<l.length /\
 0<=j /\
 j<(l.length:Int) /\
 0+j.toNat<l.length /\
 0<=a /\
 a<(l.length:Int) /\
 0+a.toNat<(l.set (0+j.toNat) (gtI l (0+a.toNat))).length /\
 Q [.int .i64 j,.bool false] [(BIG,.row 3 iI ((l.set (0+j.toNat) (gtI l (0+a.toNat))).set (0+a.toNat) (gtI l (0+j.toNat))))]) (0<=j /\
 j<(l.length:Int) /\
 0+j.toNat<l.length /\
 0<=i /\
 i<(l.length:Int) /\
 0+i.toNat<l.length /\
 0<=i /\
 i<(l.length:Int) /\
 0+i.toNat<l.length /\
 0<=j /\
 j<(l.length:Int) /\
 0+j.toNat<(l.set (0+i.toNat) (gtI l (0+j.toNat))).length /\
 R (hd Tryd.f84 2) { env:=[(0,.win true iI BIG 0 l.length),(1,.int .i64 a),(10,.int .i64 (i64.wrap (i+1))),(11,.int .i64 (i64.wrap (j-1)))],blk:=[(BIG,.row 3 iI ((l.set (0+i.toNat) (gtI l (0+j.toNat))).set (0+j.toNat) (gtI l (0+i.toNat))))] }))) (false=false /\
 bc (decide (j<i)) (0<=a /\
 a<(l.length:Int) /\
 0+a.toNat<l.length /\
 0<=j /\
 j<(l.length:Int) /\
 0+j.toNat<l.length /\
 0<=j /\
 j<(l.length:Int) /\
 0+j.toNat<l.length /\
 0<=a /\
 a<(l.length:Int) /\
 0+a.toNat<(l.set (0+j.toNat) (gtI l (0+a.toNat))).length /\
 Q [.int .i64 j,.bool false] [(BIG,.row 3 iI ((l.set (0+j.toNat) (gtI l (0+a.toNat))).set (0+a.toNat) (gtI l (0+j.toNat))))]) (0<=j /\
 j<(l.length:Int) /\
 0+j.toNat<l.length /\
 0<=i /\
 i<(l.length:Int) /\
 0+i.toNat<l.length /\
 0<=i /\
 i<(l.length:Int) /\
 0+i.toNat<l.length /\
 0<=j /\
 j<(l.length:Int) /\
 0+j.toNat<(l.set (0+i.toNat) (gtI l (0+j.toNat))).length /\
 R (hd Tryd.f84 2) { env:=[(0,.win true iI BIG 0 l.length),(1,.int .i64 a),(10,.int .i64 (i64.wrap (i+1))),(11,.int .i64 (i64.wrap (j-1)))],blk:=[(BIG,.row 3 iI ((l.set (0+i.toNat) (gtI l (0+j.toNat))).set (0+j.toNat) (gtI l (0+i.toNat))))] }))):=by kernel_rfl
theorem vc_pe (l:List Int) (a b p:Int) (Q:QT) (R:RT):sy tt G0 qdf Tryd.f83.ntmps Tryd.f83.results.toList Q (fun it S=>R it (qar [0,1,9,10] [BIG] S)) 1000 [.code (qaf Tryd.f83)] (qao K3i (l,a,b,p,())) =
  (0<=p /\
 p<(l.length:Int) /\
 0+p.toNat<l.length /\
 0<=a /\
 a<(l.length:Int) /\
 0+a.toNat<l.length /\
 0<=a /\
 a<(l.length:Int) /\
 0+a.toNat<l.length /\
 0<=p /\
 p<(l.length:Int) /\
 0+p.toNat<(l.set (0+a.toNat) (gtI l (0+p.toNat))).length /\
 R (hd Tryd.f83 0) { env:=[(0,.win true iI BIG 0 l.length),(1,.int .i64 a),(9,.int .i64 (i64.wrap (a+1))),(10,.int .i64 (i64.wrap (b-1)))],blk:=[(BIG,.row 3 iI ((l.set (0+a.toNat) (gtI l (0+p.toNat))).set (0+p.toNat) (gtI l (0+a.toNat))))] }):=by kernel_rfl
theorem q2u (l:List Int) (a i j:Int) (Q:QT) (R:RT):sy tt G0 qdf Tryd.f83.ntmps Tryd.f83.results.toList Q (fun it S=>R it (qar [0,1,9,10] [BIG] S)) 1000 (hd Tryd.f83 0) ⟨[(0,.win true iI BIG 0 l.length),(1,.int .i64 a),(9,.int .i64 i),(10,.int .i64 j)],[(BIG,.row 3 iI l)]⟩ =
  (R (hd Tryd.f83 1) { env:=[(0,.win true iI BIG 0 l.length),(1,.int .i64 a),(9,.int .i64 i),(10,.int .i64 j)],blk:=[(BIG,.row 3 iI l)] }):=by kernel_rfl
theorem qv3 (l:List Int) (a i j:Int) (Q:QT) (R:RT):sy tt G0 qdf Tryd.f83.ntmps Tryd.f83.results.toList Q (fun it S=>R it (qar [0,1,9,10] [BIG] S)) 1000 (hd Tryd.f83 1) ⟨[(0,.win true iI BIG 0 l.length),(1,.int .i64 a),(9,.int .i64 i),(10,.int .i64 j)],[(BIG,.row 3 iI l)]⟩ =
  (bc (decide (i<=j)) (0<=a /\
 a<(l.length:Int) /\
 0+a.toNat<l.length /\
 0<=i /\
 i<(l.length:Int) /\
 0+i.toNat<l.length /\
 ctLess.pre (gtI l (0+a.toNat),gtI l (0+i.toNat),()) /\
 bc (bif true then !decide ((have this:=gtI l (0+a.toNat);this)<gtI l (0+i.toNat)) else false) (R (hd Tryd.f83 1) { env:=[(0,.win true iI BIG 0 l.length),(1,.int .i64 a),(9,.int .i64 (i64.wrap (i+1))),(10,.int .i64 j)],blk:=[(BIG,.row 3 iI l)] }) (R (hd Tryd.f83 2) { env:=[(0,.win true iI BIG 0 l.length),(1,.int .i64 a),(9,.int .i64 i),(10,.int .i64 j)],blk:=[(BIG,.row 3 iI l)] })) (false=false /\
 R (hd Tryd.f83 2) { env:=[(0,.win true iI BIG 0 l.length),(1,.int .i64 a),(9,.int .i64 i),(10,.int .i64 j)],blk:=[(BIG,.row 3 iI l)] })):=by kernel_rfl
theorem qsl (l:List Int) (a i j:Int) (Q:QT) (R:RT):sy tt G0 qdf Tryd.f83.ntmps Tryd.f83.results.toList Q (fun it S=>R it (qar [0,1,9,10] [BIG] S)) 1000 (hd Tryd.f83 2) ⟨[(0,.win true iI BIG 0 l.length),(1,.int .i64 a),(9,.int .i64 i),(10,.int .i64 j)],[(BIG,.row 3 iI l)]⟩ =
  (bc (decide (i<=j)) (0<=a /\
 a<(l.length:Int) /\
 0+a.toNat<l.length /\
 0<=j /\
 j<(l.length:Int) /\
 0+j.toNat<l.length /\
 ctLess.pre (gtI l (0+a.toNat),gtI l (0+j.toNat),()) /\
 bc (decide ((have this:=gtI l (0+a.toNat);this)<gtI l (0+j.toNat))) (R (hd Tryd.f83 2) { env:=[(0,.win true iI BIG 0 l.length),(1,.int .i64 a),(9,.int .i64 i),(10,.int .i64 (i64.wrap (j-1)))],blk:=[(BIG,.row 3 iI l)] }) (bc (decide (j<i)) (Q [.int .i64 i] [(BIG,.row 3 iI l)]) (0<=j /\
 j<(l.length:Int) /\
 0+j.toNat<l.length /\
 0<=i /\
 i<(l.length:Int) /\
 0+i.toNat<l.length /\
 0<=i /\
 i<(l.length:Int) /\
 0+i.toNat<l.length /\
 0<=j /\
 j<(l.length:Int) /\
 0+j.toNat<(l.set (0+i.toNat) (gtI l (0+j.toNat))).length /\
 R (hd Tryd.f83 0) { env:=[(0,.win true iI BIG 0 l.length),(1,.int .i64 a),(9,.int .i64 (i64.wrap (i+1))),(10,.int .i64 (i64.wrap (j-1)))],blk:=[(BIG,.row 3 iI ((l.set (0+i.toNat) (gtI l (0+j.toNat))).set (0+j.toNat) (gtI l (0+i.toNat))))] }))) (false=false /\
 bc (decide (j<i)) (Q [.int .i64 i] [(BIG,.row 3 iI l)]) (0<=j /\
 j<(l.length:Int) /\
 0+j.toNat<l.length /\
 0<=i /\
 i<(l.length:Int) /\
 0+i.toNat<l.length /\
 0<=i /\
 i<(l.length:Int) /\
 0+i.toNat<l.length /\
 0<=j /\
 j<(l.length:Int) /\
 0+j.toNat<(l.set (0+i.toNat) (gtI l (0+j.toNat))).length /\
 R (hd Tryd.f83 0) { env:=[(0,.win true iI BIG 0 l.length),(1,.int .i64 a),(9,.int .i64 (i64.wrap (i+1))),(10,.int .i64 (i64.wrap (j-1)))],blk:=[(BIG,.row 3 iI ((l.set (0+i.toNat) (gtI l (0+j.toNat))).set (0+j.toNat) (gtI l (0+i.toNat))))] }))):=by kernel_rfl
theorem q70 (l:List Int) (a b i j:Int) (Q:QT) (R:RT):sy tt G0 qdf Tryd.f81.ntmps Tryd.f81.results.toList Q (fun it S=>R it (qar [0,1,2,7,8] [BIG] S)) 1000 (hd Tryd.f81 0) ⟨[(0,.win true iI BIG 0 l.length),(1,.int .i64 a),(2,.int .i64 b),(7,.int .i64 i),(8,.int .i64 j)],[(BIG,.row 3 iI l)]⟩ =
  (bc (decide (j<5)) (R (hd Tryd.f81 1) { env:=[(0,.win true iI BIG 0 l.length),(1,.int .i64 a),(2,.int .i64 b),(7,.int .i64 i),(8,.int .i64 j)],blk:=[(BIG,.row 3 iI l)] }) (Q [.bool false] [(BIG,.row 3 iI l)])):=by kernel_rfl
theorem qsk (l:List Int) (a b i j:Int) (Q:QT) (R:RT):sy tt G0 qdf Tryd.f81.ntmps Tryd.f81.results.toList Q (fun it S=>R it (qar [0,1,2,7,8] [BIG] S)) 1000 (hd Tryd.f81 1) ⟨[(0,.win true iI BIG 0 l.length),(1,.int .i64 a),(2,.int .i64 b),(7,.int .i64 i),(8,.int .i64 j)],[(BIG,.row 3 iI l)]⟩ =
  (bc (decide (i<b)) (0<=i /\
 i<(l.length:Int) /\
 0+i.toNat<l.length /\
 0<=i64.wrap (i-1) /\
 i64.wrap (i-1)<(l.length:Int) /\
 0+(i64.wrap (i-1)).toNat<l.length /\
 ctLess.pre (gtI l (0+i.toNat),gtI l (0+(i64.wrap (i-1)).toNat),()) /\
 bc (bif true then !decide ((have this:=gtI l (0+i.toNat);this)<gtI l (0+(i64.wrap (i-1)).toNat)) else false) (R (hd Tryd.f81 1) { env:=[(0,.win true iI BIG 0 l.length),(1,.int .i64 a),(2,.int .i64 b),(7,.int .i64 (i64.wrap (i+1))),(8,.int .i64 j)],blk:=[(BIG,.row 3 iI l)] }) (bc (decide (i=b)) (Q [.bool true] [(BIG,.row 3 iI l)]) (bc (decide (i64.wrap (b-a)<50)) (Q [.bool false] [(BIG,.row 3 iI l)]) (0<=i64.wrap (i-1) /\
 i64.wrap (i-1)<(l.length:Int) /\
 0+(i64.wrap (i-1)).toNat<l.length /\
 0<=i /\
 i<(l.length:Int) /\
 0+i.toNat<l.length /\
 0<=i /\
 i<(l.length:Int) /\
 0+i.toNat<l.length /\
 0<=i64.wrap (i-1) /\
 i64.wrap (i-1)<(l.length:Int) /\
 0+(i64.wrap (i-1)).toNat<(l.set (0+i.toNat) (gtI l (0+(i64.wrap (i-1)).toNat))).length /\
 bc (decide (2<=i64.wrap (i-a))) (R (hd Tryd.f81 2) { env:=[(0,.win true iI BIG 0 l.length),(1,.int .i64 a),(2,.int .i64 b),(7,.int .i64 i),(8,.int .i64 j)],blk:=[(BIG,.row 3 iI ((l.set (0+i.toNat) (gtI l (0+(i64.wrap (i-1)).toNat))).set (0+(i64.wrap (i-1)).toNat) (gtI l (0+i.toNat))))] }) (bc (decide (2<=i64.wrap (b-i))) (R (hd Tryd.f81 3) { env:=[(0,.win true iI BIG 0 l.length),(1,.int .i64 a),(2,.int .i64 b),(7,.int .i64 i),(8,.int .i64 j)],blk:=[(BIG,.row 3 iI ((l.set (0+i.toNat) (gtI l (0+(i64.wrap (i-1)).toNat))).set (0+(i64.wrap (i-1)).toNat) (gtI l (0+i.toNat))))] }) (R (hd Tryd.f81 0) { env:=[(0,.win true iI BIG 0 l.length),(1,.int .i64 a),(2,.int .i64 b),(7,.int .i64 i),(8,.int .i64 (i64.wrap (j+1)))],blk:=[(BIG,.row 3 iI ((l.set (0+i.toNat) (gtI l (0+(i64.wrap (i-1)).toNat))).set (0+(i64.wrap (i-1)).toNat) (gtI l (0+i.toNat))))] })))))) (false=false /\
 bc (decide (i=b)) (Q [.bool true] [(BIG,.row 3 iI l)]) (bc (decide (i64.wrap (b-a)<50)) (Q [.bool false] [(BIG,.row 3 iI l)]) (0<=i64.wrap (i-1) /\
 i64.wrap (i-1)<(l.length:Int) /\
 0+(i64.wrap (i-1)).toNat<l.length /\
 0<=i /\
 i<(l.length:Int) /\
 0+i.toNat<l.length /\
 0<=i /\
 i<(l.length:Int) /\
 0+i.toNat<l.length /\
 0<=i64.wrap (i-1) /\
 i64.wrap (i-1)<(l.length:Int) /\
 0+(i64.wrap (i-1)).toNat<(l.set (0+i.toNat) (gtI l (0+(i64.wrap (i-1)).toNat))).length /\
 bc (decide (2<=i64.wrap (i-a))) (R (hd Tryd.f81 2) { env:=[(0,.win true iI BIG 0 l.length),(1,.int .i64 a),(2,.int .i64 b),(7,.int .i64 i),(8,.int .i64 j)],blk:=[(BIG,.row 3 iI ((l.set (0+i.toNat) (gtI l (0+(i64.wrap (i-1)).toNat))).set (0+(i64.wrap (i-1)).toNat) (gtI l (0+i.toNat))))] }) (bc (decide (2<=i64.wrap (b-i))) (R (hd Tryd.f81 3) { env:=[(0,.win true iI BIG 0 l.length),(1,.int .i64 a),(2,.int .i64 b),(7,.int .i64 i),(8,.int .i64 j)],blk:=[(BIG,.row 3 iI ((l.set (0+i.toNat) (gtI l (0+(i64.wrap (i-1)).toNat))).set (0+(i64.wrap (i-1)).toNat) (gtI l (0+i.toNat))))] }) (R (hd Tryd.f81 0) { env:=[(0,.win true iI BIG 0 l.length),(1,.int .i64 a),(2,.int .i64 b),(7,.int .i64 i),(8,.int .i64 (i64.wrap (j+1)))],blk:=[(BIG,.row 3 iI ((l.set (0+i.toNat) (gtI l (0+(i64.wrap (i-1)).toNat))).set (0+(i64.wrap (i-1)).toNat) (gtI l (0+i.toNat))))] })))))):=by kernel_rfl
theorem vc_ch (l:List Int) (a b:Int) (Q:QT) (R:RT):sy tt G0 CMd Tryd.f79.ntmps Tryd.f79.results.toList Q R 1000 [.code (qaf Tryd.f79)] (qao K2i (l,a,b,())) =
  ((4:Int)≠0 /\
 (4:Int)≠0 /\
 (4:Int)≠0 /\
 bc (decide (8<=i64.wrap (b-a))) (bc (decide (50<=i64.wrap (b-a))) False (l.length=l.length /\
 ctMd.pre (l,i64.wrap (a+i64.wrap (i64.wrap ((i64.wrap (b-a)).tdiv (4:Int))*1)),i64.wrap (a+i64.wrap (i64.wrap ((i64.wrap (b-a)).tdiv (4:Int))*2)),i64.wrap (a+i64.wrap (i64.wrap ((i64.wrap (b-a)).tdiv (4:Int))*3)),(iI.dflt,()),()) /\
 bc (decide (iI.dflt+mdS l (i64.wrap (a+i64.wrap (i64.wrap ((i64.wrap (b-a)).tdiv (4:Int))*1))) (i64.wrap (a+i64.wrap (i64.wrap ((i64.wrap (b-a)).tdiv (4:Int))*2))) (i64.wrap (a+i64.wrap (i64.wrap ((i64.wrap (b-a)).tdiv (4:Int))*3)))=0)) (Q [.int .i64 (mdV l (i64.wrap (a+i64.wrap (i64.wrap ((i64.wrap (b-a)).tdiv (4:Int))*1))) (i64.wrap (a+i64.wrap (i64.wrap ((i64.wrap (b-a)).tdiv (4:Int))*2))) (i64.wrap (a+i64.wrap (i64.wrap ((i64.wrap (b-a)).tdiv (4:Int))*3)))),.int .i64 1] [(9,.var [.int .i64 (iI.dflt+mdS l (i64.wrap (a+i64.wrap (i64.wrap ((i64.wrap (b-a)).tdiv (4:Int))*1))) (i64.wrap (a+i64.wrap (i64.wrap ((i64.wrap (b-a)).tdiv (4:Int))*2))) (i64.wrap (a+i64.wrap (i64.wrap ((i64.wrap (b-a)).tdiv (4:Int))*3))))]),(BIG,.row 3 iI l)]) (bc (decide (iI.dflt+mdS l (i64.wrap (a+i64.wrap (i64.wrap ((i64.wrap (b-a)).tdiv (4:Int))*1))) (i64.wrap (a+i64.wrap (i64.wrap ((i64.wrap (b-a)).tdiv (4:Int))*2))) (i64.wrap (a+i64.wrap (i64.wrap ((i64.wrap (b-a)).tdiv (4:Int))*3)))=12)) (Q [.int .i64 (mdV l (i64.wrap (a+i64.wrap (i64.wrap ((i64.wrap (b-a)).tdiv (4:Int))*1))) (i64.wrap (a+i64.wrap (i64.wrap ((i64.wrap (b-a)).tdiv (4:Int))*2))) (i64.wrap (a+i64.wrap (i64.wrap ((i64.wrap (b-a)).tdiv (4:Int))*3)))),.int .i64 2] [(9,.var [.int .i64 (iI.dflt+mdS l (i64.wrap (a+i64.wrap (i64.wrap ((i64.wrap (b-a)).tdiv (4:Int))*1))) (i64.wrap (a+i64.wrap (i64.wrap ((i64.wrap (b-a)).tdiv (4:Int))*2))) (i64.wrap (a+i64.wrap (i64.wrap ((i64.wrap (b-a)).tdiv (4:Int))*3))))]),(BIG,.row 3 iI l)]) (Q [.int .i64 (mdV l (i64.wrap (a+i64.wrap (i64.wrap ((i64.wrap (b-a)).tdiv (4:Int))*1))) (i64.wrap (a+i64.wrap (i64.wrap ((i64.wrap (b-a)).tdiv (4:Int))*2))) (i64.wrap (a+i64.wrap (i64.wrap ((i64.wrap (b-a)).tdiv (4:Int))*3)))),.int .i64 0] [(9,.var [.int .i64 (iI.dflt+mdS l (i64.wrap (a+i64.wrap (i64.wrap ((i64.wrap (b-a)).tdiv (4:Int))*1))) (i64.wrap (a+i64.wrap (i64.wrap ((i64.wrap (b-a)).tdiv (4:Int))*2))) (i64.wrap (a+i64.wrap (i64.wrap ((i64.wrap (b-a)).tdiv (4:Int))*3))))]),(BIG,.row 3 iI l)])))) (Q [.int .i64 (i64.wrap (a+i64.wrap (i64.wrap ((i64.wrap (b-a)).tdiv (4:Int))*2))),.int .i64 1] [(9,.var [.int .i64 iI.dflt]),(BIG,.row 3 iI l)])):=by kernel_rfl
attribute [local irreducible] Go.Px.sy Go.Px.syE
theorem bcT {c:Bool} {A B:Prop} (h:c=true) (k:A):bc c A B:=by rw[h];exact k
theorem bcF {c:Bool} {A B:Prop} (h:c=false) (k:B):bc c A B:=by rw[h];exact k
abbrev PtR:Type:=List Int × Nat × Bool
structure PtS (l:List Int) (a b:Nat) (r:PtR):Prop where
 sw:Swp a b l r.1
 lo:a<=r.2.1
 hi:r.2.1<b
 le:∀ k,a<=k->k<r.2.1->gtI r.1 k<gtI r.1 r.2.1
 ge:∀ k,r.2.1<k->k<b->gtI r.1 r.2.1<=gtI r.1 k
structure PtI (l:List Int) (a b:Nat) (m:List Int) (i j:Int):Prop where
 sw:Swp a b l m
 h1:(a:Int)+1<=i
 h2:i<=j+1
 h3:j<b
 le:∀ k:Nat,a<k->(k:Int)<i->gtI m k<gtI m a
 ge:∀ k:Nat,j<(k:Int)->k<b->gtI m a<=gtI m k
abbrev ptP (m:List Int) (a i j:Int):PS:=⟨[(0,.win true iI 1099511627776 0 m.length),(1,.int .i64 a),(10,.int .i64 i),(11,.int .i64 j)],[(1099511627776,.row 3 iI m)]⟩
abbrev PtQ (r:PtR):List SV->List (Nat × LB)->Prop:=fun rs blk=>rs=[.int .i64 (r.2.1:Nat),.bool r.2.2]/\lk blk BIG=some (.row 3 iI r.1)
abbrev PtG (l:List Int) (a b:Nat) (it:Nat) (m:List Int) (i j:Int):Prop:=∃ r,PtS l a b r/\GD 84 Tryd.f84 (PtQ r) (hd Tryd.f84 it) (ptP m a i j)
section
variable {l:List Int} {a b:Nat} (hb:b<=l.length) (hl:l.length<1073741824)
include hb
theorem qnz {m:List Int} {i j:Int} (I:PtI l a b m i j) (h:j<i) (al:Bool):PtS l a b (sw2 m j.toNat a,j.toNat,al):=by
 obtain ⟨s,h1,h2,h3,le,ge⟩:=I;have hlen:=s.len;have ej:((j.toNat:Nat):Int)=j:=by omega
 have e:=fun k=>qe9 (l:=m) (i:=j.toNat) (j:=a) (by omega) (by omega) k
 refine ⟨.step _ _ s (by omega) (by omega) (by omega) (by omega),by show a<=j.toNat;omega,by show j.toNat<b;omega,fun k k1 k2=>?_,fun k k1 k2=>?_⟩
 ·have k2:k<j.toNat:=k2
  show gtI (sw2 m j.toNat a) k<gtI (sw2 m j.toNat a) j.toNat
  rw[e,e];have hja:¬ j.toNat=a:=by omega
  rw[if_neg hja,if_pos rfl];split
  ·exact le j.toNat (by omega) (by omega)
  ·rw[if_neg (by omega)];exact le k (by omega) (by omega)
 ·have k1:j.toNat<k:=k1
  show gtI (sw2 m j.toNat a) j.toNat<=gtI (sw2 m j.toNat a) k
  rw[e,e,if_neg (show ¬ k=a by omega),if_neg (show ¬ k=j.toNat by omega)];have:=ge k (by omega) k2;split
  ·rename_i q;rw[q];exact this
  ·rw[if_pos rfl];exact this
theorem qw6 {m:List Int} {i j:Int} (I:PtI l a b m i j) (hij:i<=j) (h1:¬ gtI m i.toNat<gtI m a) (h2:gtI m j.toNat<gtI m a):PtI l a b (sw2 m i.toNat j.toNat) (i+1) (j-1):=by
 obtain ⟨s,g1,g2,g3,le,ge⟩:=I;have hlen:=s.len;have hne:i≠j:=fun q=>by rw[q] at h1;exact h1 h2
 have e:=fun k=>qe9 (l:=m) (i:=i.toNat) (j:=j.toNat) (by omega) (by omega) k
 have ea:gtI (sw2 m i.toNat j.toNat) a=gtI m a:=by rw[e,if_neg (by omega),if_neg (by omega)]
 refine ⟨.step _ _ s (by omega) (by omega) (by omega) (by omega),by omega,by omega,by omega,fun k k1 k2=>?_,fun k k1 k2=>?_⟩
 ·rw[ea,e,if_neg (by omega)];split
  ·exact h2
  ·exact le k k1 (by omega)
 ·rw[ea,e];split
  ·omega
  ·rw[if_neg (by omega)];exact ge k (by omega) k2
include hl
theorem qw8:∀ (N:Nat) (m:List Int) (i j:Int),PtI l a b m i j->(j+1-i).toNat<=N ->
  PtG l a b 3 m i j/\((j<i\/¬ gtI m i.toNat<gtI m a)->PtG l a b 4 m i j):=by
 intro N
 induction N with
 | zero=>
  intro m i j I hN;have hlen:=I.sw.len;obtain ⟨s,g1,g2,g3,le,ge⟩:=id I;have hji:j<i:=by omega
  have ej:((j.toNat:Nat):Int)=j:=by omega
  have G4:PtG l a b 4 m i j:=by
   refine ⟨_,qnz hb I hji false,qae cxLess (qsh m a i j _ _) ?_⟩;simp only[Nat.zero_add,List.length_set,Int.toNat_natCast];refine bcF (decide_eq_false (by omega)) ⟨trivial,bcT (decide_eq_true hji) ?_⟩
   repeat refine And.intro (by omega) ?_
   exact ⟨by rw[ej],rfl⟩
  refine ⟨?_,fun _=>G4⟩;obtain ⟨r,r1,r2⟩:=G4;refine ⟨r,r1,qae cxLess (qv1 m a i j _ _) ?_⟩;refine bcF (decide_eq_false (by omega)) ⟨rfl,r2.only ⟨rfl,rfl,rfl,rfl,trivial⟩ ⟨rfl,trivial⟩⟩
 | succ N ih=>
  intro m i j I hN;have hlen:=I.sw.len;obtain ⟨s,g1,g2,g3,le,ge⟩:=id I;have w1:IntKind.i64.wrap (i+1)=i+1:=IntWalk.i64_in _ (by omega);have w2:IntKind.i64.wrap (j-1)=j-1:=IntWalk.i64_in _ (by omega);have G4:(j<i\/¬ gtI m i.toNat<gtI m a)->PtG l a b 4 m i j:=fun hs=>by
   by_cases hji:j<i
   ·have ej:((j.toNat:Nat):Int)=j:=by omega
    refine ⟨_,qnz hb I hji false,qae cxLess (qsh m a i j _ _) ?_⟩;simp only[Nat.zero_add,List.length_set,Int.toNat_natCast];refine bcF (decide_eq_false (by omega)) ⟨trivial,bcT (decide_eq_true hji) ?_⟩
    repeat refine And.intro (by omega) ?_
    exact ⟨by rw[ej],rfl⟩
   ·have hs:¬ gtI m i.toNat<gtI m a:=hs.resolve_left hji;by_cases hj:gtI m j.toNat<gtI m a
    ·obtain ⟨r,r1,r2⟩:=(ih _ _ _ (qw6 hb I (by omega) hs hj) (by omega)).1;refine ⟨r,r1,qae cxLess (qsh m a i j _ _) ?_⟩;simp only[Nat.zero_add,List.length_set,Int.toNat_natCast];rw[w1,w2];refine bcT (decide_eq_true (by omega)) ?_
     repeat refine And.intro (by first | omega | trivial) ?_
     refine bcF (by simp[hj]) (bcF (decide_eq_false hji) ?_)
     repeat refine And.intro (by first | omega | trivial) ?_
     have r3:GD 84 Tryd.f84 (PtQ r) (hd Tryd.f84 2) (ptP (sw2 m i.toNat j.toNat) a (i+1) (j-1)):=qae cxLess (q2t (sw2 m i.toNat j.toNat) a (i+1) (j-1) _ _) (r2.only ⟨rfl,rfl,rfl,rfl,trivial⟩ ⟨rfl,trivial⟩);refine r3.only ⟨?_,rfl,rfl,rfl,trivial⟩ ⟨rfl,trivial⟩
     show some (SV.win true iI 1099511627776 0 m.length)=some (SV.win true iI 1099511627776 0 (sw2 m i.toNat j.toNat).length)
     rw[qb4]
    ·obtain ⟨r,r1,r2⟩:=(ih m i (j-1) ⟨s,g1,by omega,by omega,le,fun k k1 k2=>by
      by_cases q:(k:Int)=j
      ·rw[show k=j.toNat by omega];omega
      ·exact ge k (by omega) k2⟩ (by omega)).2 (.inr hs)
     refine ⟨r,r1,qae cxLess (qsh m a i j _ _) ?_⟩;simp only[Nat.zero_add,List.length_set,Int.toNat_natCast];rw[w2];refine bcT (decide_eq_true (by omega)) ?_
     repeat refine And.intro (by first | omega | trivial) ?_
     exact bcT (by simp[hj]) (r2.only ⟨rfl,rfl,rfl,rfl,trivial⟩ ⟨rfl,trivial⟩)
  refine ⟨?_,G4⟩;by_cases h:i<=j/\gtI m i.toNat<gtI m a
  ·obtain ⟨r,r1,r2⟩:=(ih m (i+1) j ⟨s,by omega,by omega,g3,fun k k1 k2=>by
    by_cases q:(k:Int)=i
    ·rw[show k=i.toNat by omega];exact h.2
    ·exact le k k1 (by omega),ge⟩ (by omega)).1
   refine ⟨r,r1,qae cxLess (qv1 m a i j _ _) ?_⟩;simp only[Nat.zero_add,List.length_set,Int.toNat_natCast];rw[w1];refine bcT (decide_eq_true h.1) ?_
   repeat refine And.intro (by first | omega | trivial) ?_
   exact bcT (by simp[h.2]) (r2.only ⟨rfl,rfl,rfl,rfl,trivial⟩ ⟨rfl,trivial⟩)
  ·obtain ⟨r,r1,r2⟩:=G4 (by omega);refine ⟨r,r1,qae cxLess (qv1 m a i j _ _) ?_⟩;simp only[Nat.zero_add,List.length_set,Int.toNat_natCast];by_cases hij:i<=j
   ·refine bcT (decide_eq_true hij) ?_
    repeat refine And.intro (by first | omega | trivial) ?_
    exact bcF (by simp;omega) (r2.only ⟨rfl,rfl,rfl,rfl,trivial⟩ ⟨rfl,trivial⟩)
   ·exact bcF (decide_eq_false hij) ⟨trivial,r2.only ⟨rfl,rfl,rfl,rfl,trivial⟩ ⟨rfl,trivial⟩⟩
end
section
variable {l:List Int} {a b:Nat} (hb:b<=l.length) (hl:l.length<1073741824)
include hb hl
theorem qw9:∀ (N:Nat) (m:List Int) (i j:Int),PtI l a b m i j->(j+1-i).toNat<=N ->
  PtG l a b 0 m i j/\((j<i\/¬ gtI m i.toNat<gtI m a)->PtG l a b 1 m i j):=by
 intro N
 induction N with
 | zero=>
  intro m i j I hN;have hlen:=I.sw.len;obtain ⟨s,g1,g2,g3,le,ge⟩:=id I;have hji:j<i:=by omega
  have ej:((j.toNat:Nat):Int)=j:=by omega
  have G4:PtG l a b 1 m i j:=by
   refine ⟨_,qnz hb I hji true,qae cxLess (qsi m a i j _ _) ?_⟩;simp only[Nat.zero_add,List.length_set,Int.toNat_natCast];refine bcF (decide_eq_false (by omega)) ⟨trivial,bcT (decide_eq_true hji) ?_⟩
   repeat refine And.intro (by omega) ?_
   exact ⟨by rw[ej],rfl⟩
  refine ⟨?_,fun _=>G4⟩;obtain ⟨r,r1,r2⟩:=G4;refine ⟨r,r1,qae cxLess (qv2 m a i j _ _) ?_⟩;refine bcF (decide_eq_false (by omega)) ⟨rfl,r2.only ⟨rfl,rfl,rfl,rfl,trivial⟩ ⟨rfl,trivial⟩⟩
 | succ N ih=>
  intro m i j I hN;have hlen:=I.sw.len;obtain ⟨s,g1,g2,g3,le,ge⟩:=id I;have w1:IntKind.i64.wrap (i+1)=i+1:=IntWalk.i64_in _ (by omega);have w2:IntKind.i64.wrap (j-1)=j-1:=IntWalk.i64_in _ (by omega);have G4:(j<i\/¬ gtI m i.toNat<gtI m a)->PtG l a b 1 m i j:=fun hs=>by
   by_cases hji:j<i
   ·have ej:((j.toNat:Nat):Int)=j:=by omega
    refine ⟨_,qnz hb I hji true,qae cxLess (qsi m a i j _ _) ?_⟩;simp only[Nat.zero_add,List.length_set,Int.toNat_natCast];refine bcF (decide_eq_false (by omega)) ⟨trivial,bcT (decide_eq_true hji) ?_⟩
    repeat refine And.intro (by omega) ?_
    exact ⟨by rw[ej],rfl⟩
   ·have hs:¬ gtI m i.toNat<gtI m a:=hs.resolve_left hji;by_cases hj:gtI m j.toNat<gtI m a
    ·obtain ⟨r,r1,r2⟩:=(qw8 hb hl _ _ _ _ (qw6 hb I (by omega) hs hj) (Nat.le_refl _)).1;refine ⟨r,r1,qae cxLess (qsi m a i j _ _) ?_⟩;simp only[Nat.zero_add,List.length_set,Int.toNat_natCast];rw[w1,w2];refine bcT (decide_eq_true (by omega)) ?_
     repeat refine And.intro (by first | omega | trivial) ?_
     refine bcF (by simp[hj]) (bcF (decide_eq_false hji) ?_)
     repeat refine And.intro (by first | omega | trivial) ?_
     have r3:GD 84 Tryd.f84 (PtQ r) (hd Tryd.f84 2) (ptP (sw2 m i.toNat j.toNat) a (i+1) (j-1)):=qae cxLess (q2t (sw2 m i.toNat j.toNat) a (i+1) (j-1) _ _) (r2.only ⟨rfl,rfl,rfl,rfl,trivial⟩ ⟨rfl,trivial⟩);refine r3.only ⟨?_,rfl,rfl,rfl,trivial⟩ ⟨rfl,trivial⟩
     show some (SV.win true iI 1099511627776 0 m.length)=some (SV.win true iI 1099511627776 0 (sw2 m i.toNat j.toNat).length)
     rw[qb4]
    ·obtain ⟨r,r1,r2⟩:=(ih m i (j-1) ⟨s,g1,by omega,by omega,le,fun k k1 k2=>by
      by_cases q:(k:Int)=j
      ·rw[show k=j.toNat by omega];omega
      ·exact ge k (by omega) k2⟩ (by omega)).2 (.inr hs)
     refine ⟨r,r1,qae cxLess (qsi m a i j _ _) ?_⟩;simp only[Nat.zero_add,List.length_set,Int.toNat_natCast];rw[w2];refine bcT (decide_eq_true (by omega)) ?_
     repeat refine And.intro (by first | omega | trivial) ?_
     exact bcT (by simp[hj]) (r2.only ⟨rfl,rfl,rfl,rfl,trivial⟩ ⟨rfl,trivial⟩)
  refine ⟨?_,G4⟩;by_cases h:i<=j/\gtI m i.toNat<gtI m a
  ·obtain ⟨r,r1,r2⟩:=(ih m (i+1) j ⟨s,by omega,by omega,g3,fun k k1 k2=>by
    by_cases q:(k:Int)=i
    ·rw[show k=i.toNat by omega];exact h.2
    ·exact le k k1 (by omega),ge⟩ (by omega)).1
   refine ⟨r,r1,qae cxLess (qv2 m a i j _ _) ?_⟩;simp only[Nat.zero_add,List.length_set,Int.toNat_natCast];rw[w1];refine bcT (decide_eq_true h.1) ?_
   repeat refine And.intro (by first | omega | trivial) ?_
   exact bcT (by simp[h.2]) (r2.only ⟨rfl,rfl,rfl,rfl,trivial⟩ ⟨rfl,trivial⟩)
  ·obtain ⟨r,r1,r2⟩:=G4 (by omega);refine ⟨r,r1,qae cxLess (qv2 m a i j _ _) ?_⟩;simp only[Nat.zero_add,List.length_set,Int.toNat_natCast];by_cases hij:i<=j
   ·refine bcT (decide_eq_true hij) ?_
    repeat refine And.intro (by first | omega | trivial) ?_
    exact bcF (by simp;omega) (r2.only ⟨rfl,rfl,rfl,rfl,trivial⟩ ⟨rfl,trivial⟩)
   ·exact bcF (decide_eq_false hij) ⟨trivial,r2.only ⟨rfl,rfl,rfl,rfl,trivial⟩ ⟨rfl,trivial⟩⟩
end
def qd4 (l:List Int) (a b p:Int):Prop:=0<=a/\a<b/\b<=l.length/\l.length<1073741824/\a<=p/\p<b
theorem bk3 (a b p:Int) (m:List Int) {blk:List (Nat × LB)} (h:lk blk BIG=some (.row 3 iI m)):∀ q∈bkKL 0 K3i (m,a,b,p,()),lk blk q.1=some q.2:=by
 intro q hq;simp only[bkKL,bkK,List.append_nil,List.mem_cons,List.not_mem_nil,or_false] at hq;subst hq;exact h
theorem q80 (l:List Int) (a b p:Int) (hp:qd4 l a b p):∃ r,PtS l a.toNat b.toNat r/\GD 84 Tryd.f84 (fun rs blk=>rs=[.int .i64 (r.2.1:Nat),.bool r.2.2]/\∀ q∈bkKL 0 K3i (r.1,a,b,p,()),lk blk q.1=some q.2) [.code (qaf Tryd.f84)] (qao K3i (l,a,b,p,())):=by
 obtain ⟨h0,h1,h2,h3,h4,h5⟩:=hp;have I:PtI l a.toNat b.toNat (sw2 l a.toNat p.toNat) (a+1) (b-1):=
  ⟨.one _ _ (by omega) (by omega) (by omega) (by omega),by omega,by omega,by omega,fun k k1 k2=>by omega,fun k k1 k2=>by omega⟩
 obtain ⟨r,r1,r2⟩:=(qw9 (l:=l) (a:=a.toNat) (b:=b.toNat) (by omega) h3 _ _ _ _ I (Nat.le_refl _)).1;refine ⟨r,r1,?_⟩;refine qae cxLess (vc_pt l a b p _ _) ?_;simp only[Nat.zero_add,List.length_set];rw[IntWalk.i64_in (a+1) (by omega),IntWalk.i64_in (b-1) (by omega)]
 repeat refine And.intro (by first | omega | trivial) ?_
 have ea:((a.toNat:Nat):Int)=a:=by omega
 rw[ea] at r2;refine (r2.post fun rs blk hq=>⟨hq.1,bk3 a b p r.1 hq.2⟩).only ⟨?_,rfl,rfl,rfl,trivial⟩ ⟨rfl,trivial⟩
 show some (SV.win true iI 1099511627776 0 l.length)=some (SV.win true iI 1099511627776 0 (sw2 l a.toNat p.toNat).length)
 rw[qb4]
theorem q5e:∃ F:DI K3i->Option PtR,(∀ x,qd4 x.1 x.2.1 x.2.2.1 x.2.2.2.1->∃ y,F x=some y/\PtS x.1 x.2.1.toNat x.2.2.1.toNat y)/\HeldI Tryd.prog G0 84 ⟨K3i,fun x=>qd4 x.1 x.2.1 x.2.2.1 x.2.2.2.1,fun x=>(F x).elim [] fun r=>[.int .i64 (r.2.1:Nat),.bool r.2.2],fun x=>(F x).elim [] fun y=>bkKL 0 K3i (y.1,x.2)⟩:=
 qc3 (K:=K3i) (Y:=PtR) (pre:=fun x=>qd4 x.1 x.2.1 x.2.2.1 x.2.2.2.1) cxLess (fn:=Tryd.f84) (fun x y=>PtS x.1 x.2.1.toNat x.2.2.1.toNat y) (fun r=>[.int .i64 (r.2.1:Nat),.bool r.2.2]) (fun x y=>(y.1,x.2)) rfl rfl ⟨by decide,by decide⟩ (fun _=>rfl) (fun _=>rfl) fun x hp=>q80 x.1 x.2.1 x.2.2.1 x.2.2.2.1 hp
abbrev PeR:Type:=List Int × Nat
structure PeS (l:List Int) (a b:Nat) (v:Int) (r:PeR):Prop where
 sw:Swp a b l r.1
 lo:a<r.2
 hi:r.2<=b
 le:∀ k,a<=k->k<r.2->gtI r.1 k<=v
 ge:∀ k,r.2<=k->k<b->v<gtI r.1 k
structure PeI (l:List Int) (a b:Nat) (v:Int) (m:List Int) (i j:Int):Prop where
 sw:Swp a b l m
 h1:(a:Int)+1<=i
 h2:i<=j+1
 h3:j<b
 va:gtI m a=v
 le:∀ k:Nat,a<k->(k:Int)<i->¬ v<gtI m k
 ge:∀ k:Nat,j<(k:Int)->k<b->v<gtI m k
abbrev peP (m:List Int) (a i j:Int):PS:=⟨[(0,.win true iI 1099511627776 0 m.length),(1,.int .i64 a),(9,.int .i64 i),(10,.int .i64 j)],[(1099511627776,.row 3 iI m)]⟩
abbrev PeQ (r:PeR):List SV->List (Nat × LB)->Prop:=fun rs blk=>rs=[.int .i64 (r.2:Nat)]/\lk blk BIG=some (.row 3 iI r.1)
abbrev PeG (l:List Int) (a b:Nat) (v:Int) (it:Nat) (m:List Int) (i j:Int):Prop:=∃ r,PeS l a b v r/\GD 83 Tryd.f83 (PeQ r) (hd Tryd.f83 it) (peP m a i j)
section
variable {l:List Int} {a b:Nat} {v:Int} (hb:b<=l.length) (hl:l.length<1073741824)
include hb
theorem qxl {m:List Int} {i j:Int} (I:PeI l a b v m i j) (h:j<i):PeS l a b v (m,i.toNat):=by
 have _:=hb;obtain ⟨s,h1,h2,h3,va,le,ge⟩:=I;refine ⟨s,by show a<i.toNat;omega,by show i.toNat<=b;omega,fun k k1 k2=>?_,fun k k1 k2=>?_⟩
 ·have k2:k<i.toNat:=k2
  show gtI m k<=v
  by_cases q:k=a
  ·rw[q,va];exact Int.le_refl _
  ·have:=le k (by omega) (by omega);omega
 ·have k1:i.toNat<=k:=k1;exact ge k (by omega) k2
theorem q5w {m:List Int} {i j:Int} (I:PeI l a b v m i j) (hij:i<=j) (h1:v<gtI m i.toNat) (h2:¬ v<gtI m j.toNat):PeI l a b v (sw2 m i.toNat j.toNat) (i+1) (j-1):=by
 obtain ⟨s,g1,g2,g3,va,le,ge⟩:=I;have hlen:=s.len;have hne:i≠j:=fun q=>by rw[q] at h1;exact h2 h1
 have e:=fun k=>qe9 (l:=m) (i:=i.toNat) (j:=j.toNat) (by omega) (by omega) k
 have ea:gtI (sw2 m i.toNat j.toNat) a=v:=by rw[e,if_neg (by omega),if_neg (by omega)];exact va
 refine ⟨.step _ _ s (by omega) (by omega) (by omega) (by omega),by omega,by omega,by omega,ea,fun k k1 k2=>?_,fun k k1 k2=>?_⟩
 ·rw[e,if_neg (by omega)];split
  ·exact h2
  ·exact le k k1 (by omega)
 ·rw[e];split
  ·exact h1
  ·rw[if_neg (by omega)];exact ge k (by omega) k2
include hl
theorem q5x:∀ (N:Nat) (m:List Int) (i j:Int),PeI l a b v m i j->(j+1-i).toNat<=N ->
  PeG l a b v 1 m i j/\((j<i\/v<gtI m i.toNat)->PeG l a b v 2 m i j):=by
 intro N
 induction N with
 | zero=>
  intro m i j I hN;have hlen:=I.sw.len;obtain ⟨s,g1,g2,g3,va,le,ge⟩:=id I;have hji:j<i:=by omega
  have ei:((i.toNat:Nat):Int)=i:=by omega
  have G4:PeG l a b v 2 m i j:=by
   refine ⟨_,qxl hb I hji,qae cxLess (qsl m a i j _ _) ?_⟩;refine bcF (decide_eq_false (by omega)) ⟨rfl,bcT (decide_eq_true hji) ?_⟩;exact ⟨by rw[ei],rfl⟩
  refine ⟨?_,fun _=>G4⟩;obtain ⟨r,r1,r2⟩:=G4;refine ⟨r,r1,qae cxLess (qv3 m a i j _ _) ?_⟩;refine bcF (decide_eq_false (by omega)) ⟨rfl,r2.only ⟨rfl,rfl,rfl,rfl,trivial⟩ ⟨rfl,trivial⟩⟩
 | succ N ih=>
  intro m i j I hN;have hlen:=I.sw.len;obtain ⟨s,g1,g2,g3,va,le,ge⟩:=id I;have w1:IntKind.i64.wrap (i+1)=i+1:=IntWalk.i64_in _ (by omega);have w2:IntKind.i64.wrap (j-1)=j-1:=IntWalk.i64_in _ (by omega);have ei:((i.toNat:Nat):Int)=i:=by omega
  have G4:(j<i\/v<gtI m i.toNat)->PeG l a b v 2 m i j:=fun hs=>by
   by_cases hji:j<i
   ·refine ⟨_,qxl hb I hji,qae cxLess (qsl m a i j _ _) ?_⟩;refine bcF (decide_eq_false (by omega)) ⟨rfl,bcT (decide_eq_true hji) ?_⟩;exact ⟨by rw[ei],rfl⟩
   ·have hs:v<gtI m i.toNat:=hs.resolve_left hji;by_cases hj:v<gtI m j.toNat
    ·obtain ⟨r,r1,r2⟩:=(ih m i (j-1) ⟨s,g1,by omega,by omega,va,le,fun k k1 k2=>by
      by_cases q:(k:Int)=j
      ·rw[show k=j.toNat by omega];exact hj
      ·exact ge k (by omega) k2⟩ (by omega)).2 (.inr hs)
     refine ⟨r,r1,qae cxLess (qsl m a i j _ _) ?_⟩;simp only[Nat.zero_add,List.length_set,Int.toNat_natCast];rw[w2];refine bcT (decide_eq_true (by omega)) ?_
     repeat refine And.intro (by first | omega | trivial) ?_
     exact bcT (by rw[va];exact decide_eq_true hj) (r2.only ⟨rfl,rfl,rfl,rfl,trivial⟩ ⟨rfl,trivial⟩)
    ·obtain ⟨r,r1,r2⟩:=(ih _ _ _ (q5w hb I (by omega) hs hj) (by omega)).1;refine ⟨r,r1,qae cxLess (qsl m a i j _ _) ?_⟩;simp only[Nat.zero_add,List.length_set,Int.toNat_natCast];rw[w1,w2];refine bcT (decide_eq_true (by omega)) ?_
     repeat refine And.intro (by first | omega | trivial) ?_
     refine bcF (by rw[va];exact decide_eq_false hj) (bcF (decide_eq_false hji) ?_)
     repeat refine And.intro (by first | omega | trivial) ?_
     have r3:GD 83 Tryd.f83 (PeQ r) (hd Tryd.f83 0) (peP (sw2 m i.toNat j.toNat) a (i+1) (j-1)):=qae cxLess (q2u (sw2 m i.toNat j.toNat) a (i+1) (j-1) _ _) (r2.only ⟨rfl,rfl,rfl,rfl,trivial⟩ ⟨rfl,trivial⟩);refine r3.only ⟨?_,rfl,rfl,rfl,trivial⟩ ⟨rfl,trivial⟩
     show some (SV.win true iI 1099511627776 0 m.length)=some (SV.win true iI 1099511627776 0 (sw2 m i.toNat j.toNat).length)
     rw[qb4]
  refine ⟨?_,G4⟩;by_cases h:i<=j/\¬ v<gtI m i.toNat
  ·obtain ⟨r,r1,r2⟩:=(ih m (i+1) j ⟨s,by omega,by omega,g3,va,fun k k1 k2=>by
    by_cases q:(k:Int)=i
    ·rw[show k=i.toNat by omega];exact h.2
    ·exact le k k1 (by omega),ge⟩ (by omega)).1
   refine ⟨r,r1,qae cxLess (qv3 m a i j _ _) ?_⟩;simp only[Nat.zero_add,List.length_set,Int.toNat_natCast];rw[w1];refine bcT (decide_eq_true h.1) ?_
   repeat refine And.intro (by first | omega | trivial) ?_
   exact bcT (by rw[va];have:=h.2;simp;omega) (r2.only ⟨rfl,rfl,rfl,rfl,trivial⟩ ⟨rfl,trivial⟩)
  ·obtain ⟨r,r1,r2⟩:=G4 (by omega);refine ⟨r,r1,qae cxLess (qv3 m a i j _ _) ?_⟩;simp only[Nat.zero_add,List.length_set,Int.toNat_natCast];by_cases hij:i<=j
   ·refine bcT (decide_eq_true hij) ?_
    repeat refine And.intro (by first | omega | trivial) ?_
    exact bcF (by rw[va];simp;omega) (r2.only ⟨rfl,rfl,rfl,rfl,trivial⟩ ⟨rfl,trivial⟩)
   ·exact bcF (decide_eq_false hij) ⟨trivial,r2.only ⟨rfl,rfl,rfl,rfl,trivial⟩ ⟨rfl,trivial⟩⟩
end
theorem q9a (l:List Int) (a b p:Int) (hp:qd4 l a b p):∃ r,PeS l a.toNat b.toNat (gtI l p.toNat) r/\GD 83 Tryd.f83 (fun rs blk=>rs=[.int .i64 (r.2:Nat)]/\∀ q∈bkKL 0 K3i (r.1,a,b,p,()),lk blk q.1=some q.2) [.code (qaf Tryd.f83)] (qao K3i (l,a,b,p,())):=by
 obtain ⟨h0,h1,h2,h3,h4,h5⟩:=hp;have I:PeI l a.toNat b.toNat (gtI l p.toNat) (sw2 l a.toNat p.toNat) (a+1) (b-1):=
  ⟨.one _ _ (by omega) (by omega) (by omega) (by omega),by omega,by omega,by omega,by
   rw[qe9 (by omega) (by omega)];split
   ·rename_i q;rw[q]
   ·rw[if_pos rfl],fun k k1 k2=>by omega,fun k k1 k2=>by omega⟩
 obtain ⟨r,r1,r2⟩:=(q5x (l:=l) (a:=a.toNat) (b:=b.toNat) (by omega) h3 _ _ _ _ I (Nat.le_refl _)).1;refine ⟨r,r1,?_⟩;have ea:((a.toNat:Nat):Int)=a:=by omega
 rw[ea] at r2;have r3:GD 83 Tryd.f83 (PeQ r) (hd Tryd.f83 0) (peP (sw2 l a.toNat p.toNat) a (a+1) (b-1)):=qae cxLess (q2u (sw2 l a.toNat p.toNat) a (a+1) (b-1) _ _) (r2.only ⟨rfl,rfl,rfl,rfl,trivial⟩ ⟨rfl,trivial⟩);refine qae cxLess (vc_pe l a b p _ _) ?_;simp only[Nat.zero_add,List.length_set];rw[IntWalk.i64_in (a+1) (by omega),IntWalk.i64_in (b-1) (by omega)]
 repeat refine And.intro (by first | omega | trivial) ?_
 refine (r3.post fun rs blk hq=>⟨hq.1,bk3 a b p r.1 hq.2⟩).only ⟨?_,rfl,rfl,rfl,trivial⟩ ⟨rfl,trivial⟩
 show some (SV.win true iI 1099511627776 0 l.length)=some (SV.win true iI 1099511627776 0 (sw2 l a.toNat p.toNat).length)
 rw[qb4]
theorem q5z:∃ F:DI K3i->Option PeR,(∀ x,qd4 x.1 x.2.1 x.2.2.1 x.2.2.2.1->∃ y,F x=some y/\PeS x.1 x.2.1.toNat x.2.2.1.toNat (gtI x.1 x.2.2.2.1.toNat) y)/\HeldI Tryd.prog G0 83 ⟨K3i,fun x=>qd4 x.1 x.2.1 x.2.2.1 x.2.2.2.1,fun x=>(F x).elim [] fun r=>[.int .i64 (r.2:Nat)],fun x=>(F x).elim [] fun y=>bkKL 0 K3i (y.1,x.2)⟩:=
 qc3 (K:=K3i) (Y:=PeR) (pre:=fun x=>qd4 x.1 x.2.1 x.2.2.1 x.2.2.2.1) cxLess (fn:=Tryd.f83) (fun x y=>PeS x.1 x.2.1.toNat x.2.2.1.toNat (gtI x.1 x.2.2.2.1.toNat) y) (fun r=>[.int .i64 (r.2:Nat)]) (fun x y=>(y.1,x.2)) rfl rfl ⟨by decide,by decide⟩ (fun _=>rfl) (fun _=>rfl) fun x hp=>q9a x.1 x.2.1 x.2.2.1 x.2.2.2.1 hp
def preS (l:List Int) (a b:Int):Prop:=qhn l a b/\12<b-a/\b-a<50
theorem q5t (l:List Int) (a b:Nat) (hb:b<=l.length) (hl:l.length<1073741824) (h50:b<a+50):∀ (N:Nat) (i:Nat),b-i<=N->a<i->i<=b->Inc l a i ->
  ∃ y:Bool,(y=true->Inc l a b)/\GD 81 Tryd.f81 (fun rs blk=>rs=[.bool y]/\lk blk BIG=some (.row 3 iI l)) (hd Tryd.f81 1) ⟨[(0,.win true iI 1099511627776 0 l.length),(1,.int .i64 a),(2,.int .i64 b),(7,.int .i64 (i:Nat)),(8,.int .i64 0)],[(1099511627776,.row 3 iI l)]⟩:=by
 intro N
 induction N with
 | zero=>
  intro i hN hi hib hI;have e:i=b:=by omega
  subst e;refine ⟨true,fun _=>hI,qae cxLess (qsk l a i i 0 _ _) ?_⟩;refine bcF (decide_eq_false (by omega)) ⟨rfl,bcT (decide_eq_true rfl) ⟨rfl,rfl⟩⟩
 | succ N ih=>
  intro i hN hi hib hI;by_cases e:i=b
  ·subst e;refine ⟨true,fun _=>hI,qae cxLess (qsk l a i i 0 _ _) ?_⟩;exact bcF (decide_eq_false (by omega)) ⟨rfl,bcT (decide_eq_true rfl) ⟨rfl,rfl⟩⟩
  ·have w1:i64.wrap ((i:Int)-1)=((i-1:Nat):Int):=by rw[IntWalk.i64_in _ (by omega)];omega
   have w2:i64.wrap ((i:Int)+1)=((i+1:Nat):Int):=by rw[IntWalk.i64_in _ (by omega)];omega
   have w3:i64.wrap ((b:Int)-a)=(b:Int)-a:=IntWalk.i64_in _ (by omega);by_cases h:gtI l i<gtI l (i-1)
   ·refine ⟨false,(fun q=>by cases q),qae cxLess (qsk l a b i 0 _ _) ?_⟩;rw[w1,w3];simp only[Nat.zero_add,List.length_set,Int.toNat_natCast];refine bcT (decide_eq_true (by omega)) ?_
    repeat refine And.intro (by first | omega | trivial) ?_
    exact bcF (by simp[h]) (bcF (decide_eq_false (by omega)) (bcT (decide_eq_true (by omega)) ⟨by first | rfl | trivial,by first | rfl | trivial⟩))
   ·obtain ⟨y,y1,y2⟩:=ih (i+1) (by omega) (by omega) (by omega) (fun k k1 k2=>by
     by_cases q:k+1=i
     ·have q2:i-1=k:=by omega
      rw[q2] at h;rw[q];omega
     ·exact hI k k1 (by omega))
    refine ⟨y,y1,qae cxLess (qsk l a b i 0 _ _) ?_⟩;rw[w1,w2];simp only[Nat.zero_add,List.length_set,Int.toNat_natCast];refine bcT (decide_eq_true (by omega)) ?_
    repeat refine And.intro (by first | omega | trivial) ?_
    exact bcT (by simp[h]) (y2.only ⟨rfl,rfl,rfl,rfl,rfl,trivial⟩ ⟨rfl,trivial⟩)
theorem q87 (l:List Int) (a b:Int) (hp:preS l a b):∃ y:Bool,(y=true->Inc l a.toNat b.toNat)/\GD 81 Tryd.f81 (fun rs blk=>rs=[.bool y]/\∀ p∈bkKL 0 K2i (l,a,b,()),lk blk p.1=some p.2) [.code (qaf Tryd.f81)] (qao K2i (l,a,b,())):=by
 obtain ⟨⟨h0,h1,h2,h3⟩,h4,h5⟩:=hp;obtain ⟨y,y1,y2⟩:=q5t l a.toNat b.toNat (by omega) h3 (by omega) _ (a.toNat+1) (Nat.le_refl _) (by omega) (by omega) (fun k k1 k2=>by omega);have ea:((a.toNat:Nat):Int)=a:=by omega
 have eb:((b.toNat:Nat):Int)=b:=by omega
 have ec:((a.toNat+1:Nat):Int)=a+1:=by omega
 rw[ea,eb,ec] at y2;refine ⟨y,y1,?_⟩;have y3:GD 81 Tryd.f81 (fun rs blk=>rs=[.bool y]/\lk blk BIG=some (.row 3 iI l)) (hd Tryd.f81 0) ⟨[(0,.win true iI 1099511627776 0 l.length),(1,.int .i64 a),(2,.int .i64 b),(7,.int .i64 (a+1)),(8,.int .i64 0)],[(1099511627776,.row 3 iI l)]⟩:=by
  refine qae cxLess (q70 l a b (a+1) 0 _ _) ?_;exact bcT rfl (y2.only ⟨rfl,rfl,rfl,rfl,rfl,trivial⟩ ⟨rfl,trivial⟩)
 refine qfh cxLess (vc_pi l a b _ _) ?_;rw[IntWalk.i64_in (a+1) (by omega)];exact (y3.post fun rs blk hq=>⟨hq.1,bk2 (l,a,b,()) l hq.2⟩).only ⟨rfl,rfl,rfl,rfl,rfl,trivial⟩ ⟨rfl,trivial⟩
theorem q5v:∃ F:DI K2i->Option Bool,(∀ x,preS x.1 x.2.1 x.2.2.1->∃ y,F x=some y/\(y=true->Inc x.1 x.2.1.toNat x.2.2.1.toNat))/\HeldI Tryd.prog G0 81 ⟨K2i,fun x=>preS x.1 x.2.1 x.2.2.1,fun x=>(F x).elim [] fun y=>[.bool y],fun x=>(F x).elim [] fun _=>bkKL 0 K2i (x.1,x.2)⟩:=
 qc3 (K:=K2i) (Y:=Bool) (pre:=fun x=>preS x.1 x.2.1 x.2.2.1) cxLess (fn:=Tryd.f81) (fun x y=>y=true->Inc x.1 x.2.1.toNat x.2.2.1.toNat) (fun y=>[.bool y]) (fun x _=>(x.1,x.2)) rfl rfl ⟨by decide,by decide⟩ (fun _=>rfl) (fun _=>rfl) fun x hp=>q87 x.1 x.2.1 x.2.2.1 hp
theorem zad (l:List Int) (a b:Int) (hp:preS l a b):∃ y:Int × Int,(a<=y.1/\y.1<b)/\GD 79 Tryd.f79 (fun rs blk=>rs=[.int .i64 y.1,.int .i64 y.2]/\∀ p∈bkKL 0 K2i (l,a,b,()),lk blk p.1=some p.2) [.code (qaf Tryd.f79)] (qao K2i (l,a,b,())):=by
 obtain ⟨⟨h0,h1,h2,h3⟩,h4,h5⟩:=hp;have d4:(b-a).tdiv 4=(b-a) / 4:=Int.tdiv_eq_ediv_of_nonneg (by omega);have wd:i64.wrap (b-a)=b-a:=IntWalk.i64_in _ (by omega);have q:∀ n:Int,1<=n->n<=3->i64.wrap (a+i64.wrap (i64.wrap ((b-a).tdiv 4)*n))=a+(b-a) / 4*n:=fun n n1 n2=>by
  rw[d4];have:(b-a) / 4<=12:=by omega
  have hn:n=1\/n=2\/n=3:=by omega
  rw[IntWalk.i64_in ((b-a) / 4) (by omega)];rcases hn with rfl | rfl | rfl
  ·rw[IntWalk.i64_in ((b-a) / 4*1) (by omega),IntWalk.i64_in (a+(b-a) / 4*1) (by omega)]
  ·rw[IntWalk.i64_in ((b-a) / 4*2) (by omega),IntWalk.i64_in (a+(b-a) / 4*2) (by omega)]
  ·rw[IntWalk.i64_in ((b-a) / 4*3) (by omega),IntWalk.i64_in (a+(b-a) / 4*3) (by omega)]
 have iin:∀ n:Int,1<=n->n<=3->a<=a+(b-a) / 4*n/\a+(b-a) / 4*n<b:=fun n n1 n2=>by
  have hn:n=1\/n=2\/n=3:=by omega
  rcases hn with rfl | rfl | rfl <;> omega
 obtain ⟨m1,m2,m3⟩:=q9n (l:=l) (P:=fun z=>a<=z/\z<b) (iin 1 (by omega) (by omega)) (iin 2 (by omega) (by omega)) (iin 3 (by omega) (by omega));generalize hS:mdS l (a+(b-a) / 4*1) (a+(b-a) / 4*2) (a+(b-a) / 4*3)=S at *;refine ⟨(mdV l (a+(b-a) / 4*1) (a+(b-a) / 4*2) (a+(b-a) / 4*3),if S=0 then 1 else if S=12 then 2 else 0),m1,?_⟩;refine qfh cxMd (vc_ch l a b _ _) ?_;rw[wd,q 1 (by omega) (by omega),q 2 (by omega) (by omega),q 3 (by omega) (by omega),hS];have i0:iI.dflt=(0:Int):=rfl;rw[i0,Int.zero_add];refine ⟨by decide,by decide,by decide,bcT (decide_eq_true (by omega)) (bcF (decide_eq_false (by omega)) ⟨rfl,?_,?_⟩)⟩
 ·have hpm:q5l l (a+(b-a) / 4*1) (a+(b-a) / 4*2) (a+(b-a) / 4*3) 0:=by
   have t1:=iin 1 (by omega) (by omega);have t2:=iin 2 (by omega) (by omega);have t3:=iin 3 (by omega) (by omega);exact ⟨⟨by omega,by omega⟩,⟨by omega,by omega⟩,⟨by omega,by omega⟩,by omega,by omega⟩
  exact hpm
 ·have fin:∀ (h:Int) (blk:List (Nat × LB)),(if S=0 then 1 else if S=12 then 2 else 0:Int)=h->lk blk BIG=some (.row 3 iI l)->([SV.int .i64 (mdV l (a+(b-a) / 4*1) (a+(b-a) / 4*2) (a+(b-a) / 4*3)),SV.int .i64 h]=[SV.int .i64 (mdV l (a+(b-a) / 4*1) (a+(b-a) / 4*2) (a+(b-a) / 4*3)),SV.int .i64 (if S=0 then 1 else if S=12 then 2 else 0)])/\∀ p∈bkKL 0 K2i (l,a,b,()),lk blk p.1=some p.2:=fun h blk e hb=>⟨by rw[e],bk2 (l,a,b,()) l hb⟩
  refine qap (fun h=>fin 1 _ ?_ rfl) (fun h=>qap (fun h2=>fin 2 _ ?_ rfl) (fun h2=>fin 0 _ ?_ rfl))
  ·exact if_pos (of_decide_eq_true h)
  ·rw[if_neg (of_decide_eq_false h),if_pos (of_decide_eq_true h2)]
  ·rw[if_neg (of_decide_eq_false h),if_neg (of_decide_eq_false h2)]
theorem q7j:∃ F:DI K2i->Option (Int × Int),(∀ x,preS x.1 x.2.1 x.2.2.1->∃ y,F x=some y/\(x.2.1<=y.1/\y.1<x.2.2.1))/\HeldI Tryd.prog G0 79 ⟨K2i,fun x=>preS x.1 x.2.1 x.2.2.1,fun x=>(F x).elim [] fun y=>[.int .i64 y.1,.int .i64 y.2],fun x=>(F x).elim [] fun _=>bkKL 0 K2i (x.1,x.2)⟩:=
 qc3 (K:=K2i) (Y:=Int × Int) (pre:=fun x=>preS x.1 x.2.1 x.2.2.1) cxMd (fn:=Tryd.f79) (fun x y=>x.2.1<=y.1/\y.1<x.2.2.1) (fun y=>[.int .i64 y.1,.int .i64 y.2]) (fun x _=>(x.1,x.2)) rfl rfl ⟨by decide,by decide⟩ (fun _=>rfl) (fun _=>rfl) fun x hp=>zad x.1 x.2.1 x.2.2.1 hp
theorem qzl (l:List Int) (Q:QT) (R:RT):sy tt G0 [] Tryd.f20.ntmps Tryd.f20.results.toList Q (fun it S=>R it (qar [0,3,4] [5] S)) 1000 [.code (qaf Tryd.f20)] (entry [.sl u4] (l,())) =
  (R (hd Tryd.f20 0) { env:=[(0,.sl u4 l),(3,.win true uB 5 0 0),(4,.int .i64 0)],blk:=[(5,.row 5 uB (List.replicate 0 uB.dflt))] }):=by kernel_rfl
theorem qot (l o:List Int) (i:Nat) (Q:QT) (R:RT):sy tt G0 [] Tryd.f20.ntmps Tryd.f20.results.toList Q (fun it S=>R it (qar [0,3,4] [5,37] S)) 1000 (hd Tryd.f20 0) ⟨[(0,.sl u4 l),(3,.win true uB 5 0 o.length),(4,.int .i64 (i:Nat))],[(5,.row 5 uB o)]⟩ =
  (bc (decide ((i:Int)<(l.length:Int))) ((0:Int)<=(i:Int) /\
 (i:Int)<(l.length:Int) /\
 (0:Int)<=24 /\
 (0:Int)<=(i:Int) /\
 (i:Int)<(l.length:Int) /\
 (0:Int)<=16 /\
 (0:Int)<=(i:Int) /\
 (i:Int)<(l.length:Int) /\
 (0:Int)<=8 /\
 (0:Int)<=(i:Int) /\
 (i:Int)<(l.length:Int) /\
 0+4<=(((((List.replicate 4 uB.dflt).set 0 (u8.wrap (Int.fdiv (gtW l (i:Int).toNat) ((2:Int) ^ min (24) u32.bits)))).set 1 (u8.wrap (Int.fdiv (gtW l (i:Int).toNat) ((2:Int) ^ min (16) u32.bits)))).set 2 (u8.wrap (Int.fdiv (gtW l (i:Int).toNat) ((2:Int) ^ min (8) u32.bits)))).set 3 (u8.wrap (gtW l (i:Int).toNat))).length /\
 o.length=o.length /\
 0=0 /\
 o.length+(winL uB 0 4 (((((List.replicate 4 uB.dflt).set 0 (u8.wrap (Int.fdiv (gtW l (i:Int).toNat) ((2:Int) ^ min (24) u32.bits)))).set 1 (u8.wrap (Int.fdiv (gtW l (i:Int).toNat) ((2:Int) ^ min (16) u32.bits)))).set 2 (u8.wrap (Int.fdiv (gtW l (i:Int).toNat) ((2:Int) ^ min (8) u32.bits)))).set 3 (u8.wrap (gtW l (i:Int).toNat)))).length<2 ^ 30 /\
 1<=2 ^ 10 /\
 R (hd Tryd.f20 0) { env:=[(0,.sl u4 l),(3,.win true uB 37 0 (o.length+(winL uB 0 4 (((((List.replicate 4 uB.dflt).set 0 (u8.wrap (Int.fdiv (gtW l (i:Int).toNat) ((2:Int) ^ min (24) u32.bits)))).set 1 (u8.wrap (Int.fdiv (gtW l (i:Int).toNat) ((2:Int) ^ min (16) u32.bits)))).set 2 (u8.wrap (Int.fdiv (gtW l (i:Int).toNat) ((2:Int) ^ min (8) u32.bits)))).set 3 (u8.wrap (gtW l (i:Int).toNat)))).length)),(4,.int .i64 (i64.wrap ((i:Int)+1)))],blk:=[(37,.row 5 uB (o++winL uB 0 4 (((((List.replicate 4 uB.dflt).set 0 (u8.wrap (Int.fdiv (gtW l (i:Int).toNat) ((2:Int) ^ min (24) u32.bits)))).set 1 (u8.wrap (Int.fdiv (gtW l (i:Int).toNat) ((2:Int) ^ min (16) u32.bits)))).set 2 (u8.wrap (Int.fdiv (gtW l (i:Int).toNat) ((2:Int) ^ min (8) u32.bits)))).set 3 (u8.wrap (gtW l (i:Int).toNat)))))] }) (Q [.win true uB 5 0 o.length] [(5,.row 5 uB o)])):=by kernel_rfl
abbrev R00:List Item->PS->Prop:=fun _ _=>False
def rby4 (w:Int):List Int:=[u8.wrap (Int.fdiv w ((2:Int) ^ min 24 u32.bits)),u8.wrap (Int.fdiv w ((2:Int) ^ min 16 u32.bits)),u8.wrap (Int.fdiv w ((2:Int) ^ min 8 u32.bits)),u8.wrap w]
def bytL (l:List Int):List Int:=l.flatMap rby4
theorem qon:∀ l,(bytL l).length=4*l.length
 | []=>rfl
 | w::l=>by
  show (rby4 w++bytL l).length=_
  rw[List.length_append,qon l,List.length_cons]
  show 4+_=_
  omega
theorem q3x:∀ l,∀ x∈bytL l,0<=x/\x<256
 | [],x,h=>by cases h
 | w::l,x,h=>by
  have h:x∈rby4 w++bytL l:=h;rcases List.mem_append.1 h with h | h
  ·have r:∀ n:Int,0<=u8.wrap n/\u8.wrap n<256:=fun n=>by
    rw[show u8.wrap n=n % 256 from rfl];omega
   unfold rby4 at h;simp only[List.mem_cons,List.not_mem_nil,or_false] at h;rcases h with rfl | rfl | rfl | rfl <;> exact r _
  ·exact q3x l x h
def ctByt:Ctr:=⟨[.sl u4],fun x=>List.length x.1<1000000,fun x=>[.win true uB 0 0 (bytL x.1).length],fun x=>[.row 5 uB (bytL x.1)]⟩
theorem q16 (l:List Int) (hl:l.length<1000000):∀ (k i:Nat),l.length-i=k->i<=l.length ->
  GD 20 Tryd.f20 (QC ctByt (l,())) (hd Tryd.f20 0) ⟨[(0,.sl u4 l),(3,.win true uB 5 0 (bytL (l.take i)).length),(4,.int .i64 (i:Nat))],[(5,.row 5 uB (bytL (l.take i)))]⟩:=by
 intro k
 induction k with
 | zero=>
  intro i hk hi;refine qae cx0 (qot l (bytL (l.take i)) i _ _) ?_;rw[decide_eq_false (by omega),bc_f,List.take_of_length_le (by omega)];exact qid (e:=uB) (et:=5) (a:=5) (xs:=bytL l) rfl rfl rfl rfl rfl
 | succ k ih=>
  intro i hk hi;have hlt:i<l.length:=by omega
  have hb:=qon (l.take i);rw[List.length_take] at hb;have nx:=ih (i+1) (by omega) (by omega);have e:bytL (l.take (i+1))=bytL (l.take i)++rby4 (gtW l i):=by
   rw[List.take_succ_eq_append_getElem hlt,qha hlt];unfold bytL;rw[List.flatMap_append];simp
  rw[e] at nx;refine qae cx0 (qot l (bytL (l.take i)) i _ _) ?_;rw[decide_eq_true (show (i:Int)<(l.length:Int) by omega),bc_t,Int.toNat_natCast,IntWalk.i64_in ((i:Int)+1) (by omega)];refine ⟨by omega,by omega,by decide,by omega,by omega,by decide,by omega,by omega,by decide,by omega,by omega,Nat.le_refl _,rfl,rfl,(show (bytL (l.take i)).length+4<2 ^ 30 by omega),by decide,?_⟩;exact nx.onlyR [(5,37)] rfl ⟨rfl,by rw[List.length_append];rfl,rfl,trivial⟩ ⟨rfl,trivial⟩
theorem q17:Held Tryd.prog G0 20 ctByt:=Held.of cx0 (fn:=Tryd.f20) rfl rfl ⟨by decide,by decide⟩ fun ⟨l,_⟩ hp=>qae cx0 (qzl l _ _) (q16 l hp _ 0 rfl (Nat.zero_le _))
abbrev KNx:List AK:=[.ptr [.dat (.int .u64)]]
theorem q9h (r:Int):∃ v:Int,sy tt G0 [] Tryd.f91.ntmps Tryd.f91.results.toList (fun rs blk=>rs=[SV.int .u64 v]/\lk blk BIG=some (.var [.int .u64 v])) R00 1000 [.code (qaf Tryd.f91)] (qao KNx ((r,()),())):=
 ⟨_,(q4b r _ _).mpr ⟨by decide,by decide,by decide,rfl,rfl⟩⟩
noncomputable def nxV (r:Int):Int:=Classical.choose (q9h r)
theorem q9g (r:Int) (R:List Item->PS->Prop):sy tt G0 [] Tryd.f91.ntmps Tryd.f91.results.toList (fun rs blk=>rs=[SV.int .u64 (nxV r)]/\lk blk BIG=some (.var [.int .u64 (nxV r)])) R 1000 [.code (qaf Tryd.f91)] (qao KNx ((r,()),())):=
 (q4b r _ R).mpr ((q4b r _ R00).mp (Classical.choose_spec (q9h r)))
noncomputable def ctNx:CtrI:=⟨KNx,fun _=>True,fun x=>[.int .u64 (nxV x.1.1)],fun x=>bkKL 0 KNx ((nxV x.1.1,()),())⟩
theorem q58:HeldI Tryd.prog G0 91 ctNx:=HeldI.of cx0 (fn:=Tryd.f91) rfl rfl ⟨by decide,by decide⟩ fun x _=>(qdz cx0 _ _ _ (q9g x.1.1 _)).post fun rs blk h=>by
 obtain ⟨rfl,hb⟩:=h;refine QI.self rfl rfl rfl ?_;intro b hb2;simp only[ctNx,bkKL,bkK,List.append_nil,List.mem_cons,List.not_mem_nil,or_false] at hb2;subst hb2;exact hb
def npV (r:Int):Int:=IntKind.u64.wrap ((2:Int) ^ min (lenV r).toNat IntKind.u64.bits)
def ctNp:Ctr:=⟨[iI],fun x=>0<=x.1/\(show Int from x.1)<256,fun x=>[.int .u64 (npV x.1)],fun _=>[]⟩
noncomputable def CBp:CV:=[(90,.inl ctNp),(91,.inr ctNx)]
set_option maxRecDepth 100000
theorem vc_sf (l:List Int) (lo hi f:Int) (Q:QT) (R:RT):sy tt G0 qdf Tryd.f89.ntmps Tryd.f89.results.toList Q (fun it S=>R it (qar [0,1,2,3,8] [BIG] S)) 1000 [.code (qaf Tryd.f89)] (qao K3i (l,lo,hi,f,())) =
  (R (hd Tryd.f89 0) { env:=[(0,.win true iI BIG 0 l.length),(1,.int .i64 lo),(2,.int .i64 hi),(3,.int .i64 f),(8,.int .i64 lo)],blk:=[(BIG,.row 3 iI l)] }):=by kernel_rfl
theorem qmt (l:List Int) (hi f r:Int) (Q:QT) (R:RT):sy tt G0 qdf Tryd.f89.ntmps Tryd.f89.results.toList Q (fun it S=>R it (qar [0,2,3,8] [BIG] S)) 1000 (hd Tryd.f89 0) ⟨[(0,.win true iI BIG 0 l.length),(2,.int .i64 hi),(3,.int .i64 f),(8,.int .i64 r)],[(BIG,.row 3 iI l)]⟩ =
  (bc (decide (hi<=i64.wrap (i64.wrap ((2:Int)*r)+1))) (Q [] [(BIG,.row 3 iI l)]) (bc (decide (i64.wrap (i64.wrap (i64.wrap ((2:Int)*r)+1)+1)<hi)) (0<=i64.wrap (f+i64.wrap (i64.wrap ((2:Int)*r)+1)) /\
 i64.wrap (f+i64.wrap (i64.wrap ((2:Int)*r)+1))<(l.length:Int) /\
 0+(i64.wrap (f+i64.wrap (i64.wrap ((2:Int)*r)+1))).toNat<l.length /\
 0<=i64.wrap (i64.wrap (f+i64.wrap (i64.wrap ((2:Int)*r)+1))+1) /\
 i64.wrap (i64.wrap (f+i64.wrap (i64.wrap ((2:Int)*r)+1))+1)<(l.length:Int) /\
 0+(i64.wrap (i64.wrap (f+i64.wrap (i64.wrap ((2:Int)*r)+1))+1)).toNat<l.length /\
 ctLess.pre (gtI l (0+(i64.wrap (f+i64.wrap (i64.wrap ((2:Int)*r)+1))).toNat),gtI l (0+(i64.wrap (i64.wrap (f+i64.wrap (i64.wrap ((2:Int)*r)+1))+1)).toNat),()) /\
 bc (decide ((have this:=gtI l (0+(i64.wrap (f+i64.wrap (i64.wrap ((2:Int)*r)+1))).toNat);this)<gtI l (0+(i64.wrap (i64.wrap (f+i64.wrap (i64.wrap ((2:Int)*r)+1))+1)).toNat))) (0<=i64.wrap (f+r) /\
 i64.wrap (f+r)<(l.length:Int) /\
 0+(i64.wrap (f+r)).toNat<l.length /\
 0<=i64.wrap (f+i64.wrap (i64.wrap (i64.wrap ((2:Int)*r)+1)+1)) /\
 i64.wrap (f+i64.wrap (i64.wrap (i64.wrap ((2:Int)*r)+1)+1))<(l.length:Int) /\
 0+(i64.wrap (f+i64.wrap (i64.wrap (i64.wrap ((2:Int)*r)+1)+1))).toNat<l.length /\
 ctLess.pre (gtI l (0+(i64.wrap (f+r)).toNat),gtI l (0+(i64.wrap (f+i64.wrap (i64.wrap (i64.wrap ((2:Int)*r)+1)+1))).toNat),()) /\
 bc (!decide ((have this:=gtI l (0+(i64.wrap (f+r)).toNat);this)<gtI l (0+(i64.wrap (f+i64.wrap (i64.wrap (i64.wrap ((2:Int)*r)+1)+1))).toNat))) (Q [] [(BIG,.row 3 iI l)]) (0<=i64.wrap (f+i64.wrap (i64.wrap (i64.wrap ((2:Int)*r)+1)+1)) /\
 i64.wrap (f+i64.wrap (i64.wrap (i64.wrap ((2:Int)*r)+1)+1))<(l.length:Int) /\
 0+(i64.wrap (f+i64.wrap (i64.wrap (i64.wrap ((2:Int)*r)+1)+1))).toNat<l.length /\
 0<=i64.wrap (f+r) /\
 i64.wrap (f+r)<(l.length:Int) /\
 0+(i64.wrap (f+r)).toNat<l.length /\
 0<=i64.wrap (f+r) /\
 i64.wrap (f+r)<(l.length:Int) /\
 0+(i64.wrap (f+r)).toNat<l.length /\
 0<=i64.wrap (f+i64.wrap (i64.wrap (i64.wrap ((2:Int)*r)+1)+1)) /\
 i64.wrap (f+i64.wrap (i64.wrap (i64.wrap ((2:Int)*r)+1)+1))<(l.length:Int) /\
 0+(i64.wrap (f+i64.wrap (i64.wrap (i64.wrap ((2:Int)*r)+1)+1))).toNat<(l.set (0+(i64.wrap (f+r)).toNat) (gtI l (0+(i64.wrap (f+i64.wrap (i64.wrap (i64.wrap ((2:Int)*r)+1)+1))).toNat))).length /\
 R (hd Tryd.f89 0) { env:=[(0,.win true iI BIG 0 l.length),(2,.int .i64 hi),(3,.int .i64 f),(8,.int .i64 (i64.wrap (i64.wrap (i64.wrap ((2:Int)*r)+1)+1)))],blk:=[(BIG,.row 3 iI ((l.set (0+(i64.wrap (f+r)).toNat) (gtI l (0+(i64.wrap (f+i64.wrap (i64.wrap (i64.wrap ((2:Int)*r)+1)+1))).toNat))).set (0+(i64.wrap (f+i64.wrap (i64.wrap (i64.wrap ((2:Int)*r)+1)+1))).toNat) (gtI l (0+(i64.wrap (f+r)).toNat))))] })) (0<=i64.wrap (f+r) /\
 i64.wrap (f+r)<(l.length:Int) /\
 0+(i64.wrap (f+r)).toNat<l.length /\
 0<=i64.wrap (f+i64.wrap (i64.wrap ((2:Int)*r)+1)) /\
 i64.wrap (f+i64.wrap (i64.wrap ((2:Int)*r)+1))<(l.length:Int) /\
 0+(i64.wrap (f+i64.wrap (i64.wrap ((2:Int)*r)+1))).toNat<l.length /\
 ctLess.pre (gtI l (0+(i64.wrap (f+r)).toNat),gtI l (0+(i64.wrap (f+i64.wrap (i64.wrap ((2:Int)*r)+1))).toNat),()) /\
 bc (!decide ((have this:=gtI l (0+(i64.wrap (f+r)).toNat);this)<gtI l (0+(i64.wrap (f+i64.wrap (i64.wrap ((2:Int)*r)+1))).toNat))) (Q [] [(BIG,.row 3 iI l)]) (0<=i64.wrap (f+i64.wrap (i64.wrap ((2:Int)*r)+1)) /\
 i64.wrap (f+i64.wrap (i64.wrap ((2:Int)*r)+1))<(l.length:Int) /\
 0+(i64.wrap (f+i64.wrap (i64.wrap ((2:Int)*r)+1))).toNat<l.length /\
 0<=i64.wrap (f+r) /\
 i64.wrap (f+r)<(l.length:Int) /\
 0+(i64.wrap (f+r)).toNat<l.length /\
 0<=i64.wrap (f+r) /\
 i64.wrap (f+r)<(l.length:Int) /\
 0+(i64.wrap (f+r)).toNat<l.length /\
 0<=i64.wrap (f+i64.wrap (i64.wrap ((2:Int)*r)+1)) /\
 i64.wrap (f+i64.wrap (i64.wrap ((2:Int)*r)+1))<(l.length:Int) /\
 0+(i64.wrap (f+i64.wrap (i64.wrap ((2:Int)*r)+1))).toNat<(l.set (0+(i64.wrap (f+r)).toNat) (gtI l (0+(i64.wrap (f+i64.wrap (i64.wrap ((2:Int)*r)+1))).toNat))).length /\
 R (hd Tryd.f89 0) { env:=[(0,.win true iI BIG 0 l.length),(2,.int .i64 hi),(3,.int .i64 f),(8,.int .i64 (i64.wrap (i64.wrap ((2:Int)*r)+1)))],blk:=[(BIG,.row 3 iI ((l.set (0+(i64.wrap (f+r)).toNat) (gtI l (0+(i64.wrap (f+i64.wrap (i64.wrap ((2:Int)*r)+1))).toNat))).set (0+(i64.wrap (f+i64.wrap (i64.wrap ((2:Int)*r)+1))).toNat) (gtI l (0+(i64.wrap (f+r)).toNat))))] }))) (false=false /\
 0<=i64.wrap (f+r) /\
 i64.wrap (f+r)<(l.length:Int) /\
 0+(i64.wrap (f+r)).toNat<l.length /\
 0<=i64.wrap (f+i64.wrap (i64.wrap ((2:Int)*r)+1)) /\
 i64.wrap (f+i64.wrap (i64.wrap ((2:Int)*r)+1))<(l.length:Int) /\
 0+(i64.wrap (f+i64.wrap (i64.wrap ((2:Int)*r)+1))).toNat<l.length /\
 ctLess.pre (gtI l (0+(i64.wrap (f+r)).toNat),gtI l (0+(i64.wrap (f+i64.wrap (i64.wrap ((2:Int)*r)+1))).toNat),()) /\
 bc (!decide ((have this:=gtI l (0+(i64.wrap (f+r)).toNat);this)<gtI l (0+(i64.wrap (f+i64.wrap (i64.wrap ((2:Int)*r)+1))).toNat))) (Q [] [(BIG,.row 3 iI l)]) (0<=i64.wrap (f+i64.wrap (i64.wrap ((2:Int)*r)+1)) /\
 i64.wrap (f+i64.wrap (i64.wrap ((2:Int)*r)+1))<(l.length:Int) /\
 0+(i64.wrap (f+i64.wrap (i64.wrap ((2:Int)*r)+1))).toNat<l.length /\
 0<=i64.wrap (f+r) /\
 i64.wrap (f+r)<(l.length:Int) /\
 0+(i64.wrap (f+r)).toNat<l.length /\
 0<=i64.wrap (f+r) /\
 i64.wrap (f+r)<(l.length:Int) /\
 0+(i64.wrap (f+r)).toNat<l.length /\
 0<=i64.wrap (f+i64.wrap (i64.wrap ((2:Int)*r)+1)) /\
 i64.wrap (f+i64.wrap (i64.wrap ((2:Int)*r)+1))<(l.length:Int) /\
 0+(i64.wrap (f+i64.wrap (i64.wrap ((2:Int)*r)+1))).toNat<(l.set (0+(i64.wrap (f+r)).toNat) (gtI l (0+(i64.wrap (f+i64.wrap (i64.wrap ((2:Int)*r)+1))).toNat))).length /\
 R (hd Tryd.f89 0) { env:=[(0,.win true iI BIG 0 l.length),(2,.int .i64 hi),(3,.int .i64 f),(8,.int .i64 (i64.wrap (i64.wrap ((2:Int)*r)+1)))],blk:=[(BIG,.row 3 iI ((l.set (0+(i64.wrap (f+r)).toNat) (gtI l (0+(i64.wrap (f+i64.wrap (i64.wrap ((2:Int)*r)+1))).toNat))).set (0+(i64.wrap (f+i64.wrap (i64.wrap ((2:Int)*r)+1))).toNat) (gtI l (0+(i64.wrap (f+r)).toNat))))] })))):=by kernel_rfl
theorem vc_bp (l:List Int) (a b:Int) (Q:QT) (R:RT):sy tt G0 CBp Tryd.f78.ntmps Tryd.f78.results.toList Q (fun it S=>R it (qar [0,1,6,7,8,9] [BIG,7] S)) 1000 [.code (qaf Tryd.f78)] (qao K2i (l,a,b,())) =
  (bc (decide (8<=i64.wrap (b-a))) (ctNp.pre (i64.wrap (b-a),()) /\
 (4:Int)≠0 /\
 R (hd Tryd.f78 0) { env:=[(0,.win true iI BIG 0 l.length),(1,.int .i64 a),(6,.int .i64 (i64.wrap (b-a))),(7,.ptr 7 0),(8,.int .u64 (npV (i64.wrap (b-a)))),(9,.int .i64 (i64.wrap (i64.wrap (a+i64.wrap (i64.wrap ((i64.wrap (b-a)).tdiv (4:Int))*2))-1)))],blk:=[(7,.var [.int .u64 (IntKind.u64.wrap (i64.wrap (b-a)))]),(BIG,.row 3 iI l)] }) (Q [] [(BIG,.row 3 iI l)])):=by kernel_rfl
theorem qso (l:List Int) (a n m x r:Int) (Q:QT) (R:RT):sy tt G0 CBp Tryd.f78.ntmps Tryd.f78.results.toList Q (fun it S=>R it (qar [0,1,6,7,8,9] [BIG,7] S)) 1000 (hd Tryd.f78 0) ⟨[(0,.win true iI BIG 0 l.length),(1,.int .i64 a),(6,.int .i64 n),(7,.ptr 7 0),(8,.int .u64 m),(9,.int .i64 x)],[(BIG,.row 3 iI l),(7,.var [.int .u64 r])]⟩ =
  ((4:Int)≠0 /\
 bc (decide (x<=i64.wrap (i64.wrap (a+i64.wrap (i64.wrap (n.tdiv (4:Int))*2))+1))) (ctNx.pre ((r,()),()) /\
 bc (decide (n<=i64.wrap (bitI BinOp.and IntKind.u64 (nxV r) (IntKind.u64.wrap (m-1))))) (0<=i64.wrap (a+i64.wrap (i64.wrap (bitI BinOp.and IntKind.u64 (nxV r) (IntKind.u64.wrap (m-1)))-n)) /\
 i64.wrap (a+i64.wrap (i64.wrap (bitI BinOp.and IntKind.u64 (nxV r) (IntKind.u64.wrap (m-1)))-n))<(l.length:Int) /\
 0+(i64.wrap (a+i64.wrap (i64.wrap (bitI BinOp.and IntKind.u64 (nxV r) (IntKind.u64.wrap (m-1)))-n))).toNat<l.length /\
 0<=x /\
 x<(l.length:Int) /\
 0+x.toNat<l.length /\
 0<=x /\
 x<(l.length:Int) /\
 0+x.toNat<l.length /\
 0<=i64.wrap (a+i64.wrap (i64.wrap (bitI BinOp.and IntKind.u64 (nxV r) (IntKind.u64.wrap (m-1)))-n)) /\
 i64.wrap (a+i64.wrap (i64.wrap (bitI BinOp.and IntKind.u64 (nxV r) (IntKind.u64.wrap (m-1)))-n))<(l.length:Int) /\
 0+(i64.wrap (a+i64.wrap (i64.wrap (bitI BinOp.and IntKind.u64 (nxV r) (IntKind.u64.wrap (m-1)))-n))).toNat<(l.set (0+x.toNat) (gtI l (0+(i64.wrap (a+i64.wrap (i64.wrap (bitI BinOp.and IntKind.u64 (nxV r) (IntKind.u64.wrap (m-1)))-n))).toNat))).length /\
 R (hd Tryd.f78 0) { env:=[(0,.win true iI BIG 0 l.length),(1,.int .i64 a),(6,.int .i64 n),(7,.ptr 7 0),(8,.int .u64 m),(9,.int .i64 (i64.wrap (x+1)))],blk:=[(7,.var [.int .u64 (nxV r)]),(BIG,.row 3 iI ((l.set (0+x.toNat) (gtI l (0+(i64.wrap (a+i64.wrap (i64.wrap (bitI BinOp.and IntKind.u64 (nxV r) (IntKind.u64.wrap (m-1)))-n))).toNat))).set (0+(i64.wrap (a+i64.wrap (i64.wrap (bitI BinOp.and IntKind.u64 (nxV r) (IntKind.u64.wrap (m-1)))-n))).toNat) (gtI l (0+x.toNat))))] }) (0<=i64.wrap (a+i64.wrap (bitI BinOp.and IntKind.u64 (nxV r) (IntKind.u64.wrap (m-1)))) /\
 i64.wrap (a+i64.wrap (bitI BinOp.and IntKind.u64 (nxV r) (IntKind.u64.wrap (m-1))))<(l.length:Int) /\
 0+(i64.wrap (a+i64.wrap (bitI BinOp.and IntKind.u64 (nxV r) (IntKind.u64.wrap (m-1))))).toNat<l.length /\
 0<=x /\
 x<(l.length:Int) /\
 0+x.toNat<l.length /\
 0<=x /\
 x<(l.length:Int) /\
 0+x.toNat<l.length /\
 0<=i64.wrap (a+i64.wrap (bitI BinOp.and IntKind.u64 (nxV r) (IntKind.u64.wrap (m-1)))) /\
 i64.wrap (a+i64.wrap (bitI BinOp.and IntKind.u64 (nxV r) (IntKind.u64.wrap (m-1))))<(l.length:Int) /\
 0+(i64.wrap (a+i64.wrap (bitI BinOp.and IntKind.u64 (nxV r) (IntKind.u64.wrap (m-1))))).toNat<(l.set (0+x.toNat) (gtI l (0+(i64.wrap (a+i64.wrap (bitI BinOp.and IntKind.u64 (nxV r) (IntKind.u64.wrap (m-1))))).toNat))).length /\
 R (hd Tryd.f78 0) { env:=[(0,.win true iI BIG 0 l.length),(1,.int .i64 a),(6,.int .i64 n),(7,.ptr 7 0),(8,.int .u64 m),(9,.int .i64 (i64.wrap (x+1)))],blk:=[(7,.var [.int .u64 (nxV r)]),(BIG,.row 3 iI ((l.set (0+x.toNat) (gtI l (0+(i64.wrap (a+i64.wrap (bitI BinOp.and IntKind.u64 (nxV r) (IntKind.u64.wrap (m-1))))).toNat))).set (0+(i64.wrap (a+i64.wrap (bitI BinOp.and IntKind.u64 (nxV r) (IntKind.u64.wrap (m-1))))).toNat) (gtI l (0+x.toNat))))] })) (Q [] [(BIG,.row 3 iI l),(7,.var [.int .u64 r])])):=by kernel_rfl
def chd (k c:Nat):Prop:=c=2*k+1\/c=2*k+2
def Heap (m:List Int) (f lo hi:Nat):Prop:=∀ k c,lo<=k->chd k c->c<hi->gtI m (f+c)<=gtI m (f+k)
structure SfI (l:List Int) (f lo hi:Nat) (m:List Int) (r:Nat):Prop where
 sw:Swp (f+lo) (f+hi) l m
 lr:lo<=r
 h1:∀ k c,lo<=k->k≠r->chd k c->c<hi->gtI m (f+c)<=gtI m (f+k)
 h2:∀ k c,lo<=k->chd k r->chd r c->c<hi->gtI m (f+c)<=gtI m (f+k)
abbrev sfP (m:List Int) (hi f r:Int):PS:=⟨[(0,.win true iI 1099511627776 0 m.length),(2,.int .i64 hi),(3,.int .i64 f),(8,.int .i64 r)],[(1099511627776,.row 3 iI m)]⟩
abbrev SfG (l:List Int) (f lo hi:Nat) (m:List Int) (r:Nat):Prop:=∃ y,(Swp (f+lo) (f+hi) l y/\Heap y f lo hi)/\GD 89 Tryd.f89 (fun rs blk=>rs=[]/\lk blk BIG=some (.row 3 iI y)) (hd Tryd.f89 0) (sfP m hi f r)
section
variable {l:List Int} {f lo hi:Nat} (hb:f+hi<=l.length) (hl:l.length<1073741824)
include hb
theorem qq0 {m:List Int} {r:Nat} (I:SfI l f lo hi m r) (h:∀ c,chd r c->c<hi->gtI m (f+c)<=gtI m (f+r)):Heap m f lo hi:=fun k c k1 k2 k3=>by
 have _:=hb;by_cases q:k=r
 ·rw[q] at k2 |-;exact h c k2 k3
 ·exact I.h1 k c k1 q k2 k3
theorem q4w {m:List Int} {r c:Nat} (I:SfI l f lo hi m r) (hc:chd r c) (hch:c<hi) (hlt:gtI m (f+r)<gtI m (f+c)) (ho:∀ c',chd r c'->c'<hi->gtI m (f+c')<=gtI m (f+c)):SfI l f lo hi (sw2 m (f+r) (f+c)) c:=by
 obtain ⟨s,lr,h1,h2⟩:=I;have hlen:=s.len;have hcr:r<c:=by rcases hc with h | h <;> omega
 have e:=fun k=>qe9 (l:=m) (i:=f+r) (j:=f+c) (by omega) (by omega) k
 refine ⟨.step _ _ s (by omega) (by omega) (by omega) (by omega),by omega,fun k c' k1 k2 k3 k4=>?_,fun k c' k1 k2 k3 k4=>?_⟩
 ·rw[e (f+c'),e (f+k)];have hk:k<c':=by rcases k3 with h | h <;> omega
  by_cases q:k=r
  ·subst q;rw[if_neg (show ¬ f+k=f+c by omega),if_pos rfl];split
   ·omega
   ·rw[if_neg (by omega)];exact ho c' k3 k4
  ·rw[if_neg (show ¬ f+k=f+c by omega),if_neg (show ¬ f+k=f+r by omega)];have hne:c'≠c:=fun w=>by
    rw[w] at k3;rcases k3 with a | a <;> rcases hc with b | b <;> omega
   rw[if_neg (by omega)];split
   ·rename_i w;have w:c'=r:=by omega
    rw[w] at k3;exact h2 k c k1 k3 hc hch
   ·exact h1 k c' k1 q k3 k4
 ·have hkr:k=r:=by rcases k2 with a | a <;> rcases hc with b | b <;> omega
  subst hkr;have hk:c<c':=by rcases k3 with h | h <;> omega
  rw[e (f+c'),e (f+k),if_neg (by omega),if_neg (by omega),if_neg (by omega),if_pos rfl];exact h1 c c' (by omega) (by omega) k3 k4
include hl
theorem q4x:∀ (N:Nat) (m:List Int) (r:Nat),SfI l f lo hi m r->hi-r<=N->r<hi\/N=0->r<=hi->SfG l f lo hi m r:=by
 intro N
 induction N with
 | zero=>
  intro m r I hN _ hr;have hlen:=I.sw.len;refine ⟨m,⟨I.sw,qq0 hb I fun c hc hch=>by rcases hc with h | h <;> omega⟩,qae cxLess (qmt m hi f r _ _) ?_⟩
  rw[IntWalk.i64_in (2*(r:Int)) (by omega),IntWalk.i64_in (2*(r:Int)+1) (by omega)];exact bcT (decide_eq_true (by omega)) ⟨rfl,rfl⟩
 | succ N ih=>
  intro m r I hN hrl hr;have hlen:=I.sw.len;have w1:i64.wrap (2*(r:Int))=2*(r:Int):=IntWalk.i64_in _ (by omega);have w2:i64.wrap (2*(r:Int)+1)=2*(r:Int)+1:=IntWalk.i64_in _ (by omega);by_cases h1:hi<=2*r+1
  ·refine ⟨m,⟨I.sw,qq0 hb I fun c hc hch=>by rcases hc with h | h <;> omega⟩,qae cxLess (qmt m hi f r _ _) ?_⟩
   rw[w1,w2];exact bcT (decide_eq_true (by omega)) ⟨rfl,rfl⟩
  ·have w3:i64.wrap (2*(r:Int)+1+1)=((2*r+2:Nat):Int):=by rw[IntWalk.i64_in _ (by omega)];omega
   have w4:i64.wrap ((f:Int)+(2*(r:Int)+1))=((f+(2*r+1):Nat):Int):=by rw[IntWalk.i64_in _ (by omega)];omega
   have w5:i64.wrap (((f+(2*r+1):Nat):Int)+1)=((f+(2*r+2):Nat):Int):=by rw[IntWalk.i64_in _ (by omega)];omega
   have w6:i64.wrap ((f:Int)+(r:Int))=((f+r:Nat):Int):=by rw[IntWalk.i64_in _ (by omega)];omega
   have w7:i64.wrap ((f:Int)+((2*r+2:Nat):Int))=((f+(2*r+2):Nat):Int):=by rw[IntWalk.i64_in _ (by omega)];omega
   have key:∀ c:Nat,chd r c->c<hi->(∀ c',chd r c'->c'<hi->gtI m (f+c')<=gtI m (f+c)) ->
     (¬ gtI m (f+r)<gtI m (f+c)/\Heap m f lo hi)\/(gtI m (f+r)<gtI m (f+c)/\SfG l f lo hi (sw2 m (f+r) (f+c)) c):=fun c hc hch ho=>by
    by_cases q:gtI m (f+r)<gtI m (f+c)
    ·exact .inr ⟨q,ih _ c (q4w hb I hc hch q ho) (by rcases hc with h | h <;> omega) (by omega) (by omega)⟩
    ·exact .inl ⟨q,qq0 hb I fun c' k1 k2=>by have:=ho c' k1 k2;omega⟩
   have hwin:∀ c:Nat,some (SV.win true iI 1099511627776 0 m.length)=some (SV.win true iI 1099511627776 0 (sw2 m (f+r) (f+c)).length):=fun c=>by rw[qb4]
   by_cases h2:2*r+2<hi/\gtI m (f+(2*r+1))<gtI m (f+(2*r+2))
   ·rcases key (2*r+2) (.inr rfl) h2.1 (fun c' k1 _=>by rcases k1 with rfl | rfl <;> omega) with ⟨q,hH⟩ | ⟨q,y,y1,y2⟩
    ·refine ⟨m,⟨I.sw,hH⟩,qae cxLess (qmt m hi f r _ _) ?_⟩;rw[w1,w2,w3,w4,w5,w6,w7];simp only[Nat.zero_add,List.length_set,Int.toNat_natCast];refine bcF (decide_eq_false (by omega)) (bcT (decide_eq_true (by omega)) ?_)
     repeat refine And.intro (by first | omega | trivial) ?_
     refine bcT (decide_eq_true h2.2) ?_
     repeat refine And.intro (by first | omega | trivial) ?_
     exact bcT (by simp[q]) ⟨by first | rfl | trivial,rfl⟩
    ·refine ⟨y,y1,qae cxLess (qmt m hi f r _ _) ?_⟩;rw[w1,w2,w3,w4,w5,w6,w7];simp only[Nat.zero_add,List.length_set,Int.toNat_natCast];refine bcF (decide_eq_false (by omega)) (bcT (decide_eq_true (by omega)) ?_)
     repeat refine And.intro (by first | omega | trivial) ?_
     refine bcT (decide_eq_true h2.2) ?_
     repeat refine And.intro (by first | omega | trivial) ?_
     refine bcF (by simp[q]) ?_
     repeat refine And.intro (by first | omega | trivial) ?_
     exact y2.only ⟨hwin _,rfl,rfl,rfl,trivial⟩ ⟨rfl,trivial⟩
   ·rcases key (2*r+1) (.inl rfl) (by omega) (fun c' k1 k2=>by rcases k1 with rfl | rfl <;> omega) with ⟨q,hH⟩ | ⟨q,y,y1,y2⟩
    ·refine ⟨m,⟨I.sw,hH⟩,qae cxLess (qmt m hi f r _ _) ?_⟩;rw[w1,w2,w3,w4,w5,w6];simp only[Nat.zero_add,List.length_set,Int.toNat_natCast];refine bcF (decide_eq_false (by omega)) ?_;by_cases h3:2*r+2<hi
     ·refine bcT (decide_eq_true (by omega)) ?_
      repeat refine And.intro (by first | omega | trivial) ?_
      refine bcF (decide_eq_false fun w=>h2 ⟨h3,w⟩) ?_
      repeat refine And.intro (by first | omega | trivial) ?_
      exact bcT (by simp[q]) ⟨by first | rfl | trivial,rfl⟩
     ·refine bcF (decide_eq_false (by omega)) ?_
      repeat refine And.intro (by first | omega | trivial) ?_
      exact bcT (by simp[q]) ⟨by first | rfl | trivial,rfl⟩
    ·refine ⟨y,y1,qae cxLess (qmt m hi f r _ _) ?_⟩;rw[w1,w2,w3,w4,w5,w6];simp only[Nat.zero_add,List.length_set,Int.toNat_natCast];refine bcF (decide_eq_false (by omega)) ?_;by_cases h3:2*r+2<hi
     ·refine bcT (decide_eq_true (by omega)) ?_
      repeat refine And.intro (by first | omega | trivial) ?_
      refine bcF (decide_eq_false fun w=>h2 ⟨h3,w⟩) ?_
      repeat refine And.intro (by first | omega | trivial) ?_
      refine bcF (by simp[q]) ?_
      repeat refine And.intro (by first | omega | trivial) ?_
      exact y2.only ⟨hwin _,rfl,rfl,by first | rfl | (rw[w2];rfl),trivial⟩ ⟨rfl,trivial⟩
     ·refine bcF (decide_eq_false (by omega)) ?_
      repeat refine And.intro (by first | omega | trivial) ?_
      refine bcF (by simp[q]) ?_
      repeat refine And.intro (by first | omega | trivial) ?_
      exact y2.only ⟨hwin _,rfl,rfl,by first | rfl | (rw[w2];rfl),trivial⟩ ⟨rfl,trivial⟩
end
def qo9 (l:List Int) (lo hi f:Int):Prop:=0<=lo/\lo<=hi/\0<=f/\f+hi<=l.length/\l.length<1073741824/\Heap l f.toNat (lo.toNat+1) hi.toNat
def SfS (l:List Int) (lo hi f:Int) (y:List Int):Prop:=Swp (f.toNat+lo.toNat) (f.toNat+hi.toNat) l y/\Heap y f.toNat lo.toNat hi.toNat
theorem q8w (l:List Int) (lo hi f:Int) (hp:qo9 l lo hi f):∃ y,SfS l lo hi f y/\GD 89 Tryd.f89 (fun rs blk=>rs=[]/\∀ q∈bkKL 0 K3i (y,lo,hi,f,()),lk blk q.1=some q.2) [.code (qaf Tryd.f89)] (qao K3i (l,lo,hi,f,())):=by
 obtain ⟨h0,h1,h2,h3,h4,h5⟩:=hp;have I:SfI l f.toNat lo.toNat hi.toNat l lo.toNat:=⟨.refl,Nat.le_refl _,fun k c k1 k2 k3 k4=>h5 k c (by omega) k3 k4,fun k c k1 k2 k3 k4=>by rcases k2 with h | h <;> omega⟩
 obtain ⟨y,y1,y2⟩:=q4x (f:=f.toNat) (lo:=lo.toNat) (hi:=hi.toNat) (by omega) h4 (hi.toNat-lo.toNat) l lo.toNat I (Nat.le_refl _) (by omega) (by omega);have e1:((lo.toNat:Nat):Int)=lo:=by omega
 have e2:((hi.toNat:Nat):Int)=hi:=by omega
 have e3:((f.toNat:Nat):Int)=f:=by omega
 rw[e1,e2,e3] at y2;refine ⟨y,y1,qae cxLess (vc_sf l lo hi f _ _) ?_⟩;exact (y2.post fun rs blk hq=>⟨hq.1,bk3 lo hi f y hq.2⟩).only ⟨rfl,rfl,rfl,rfl,trivial⟩ ⟨rfl,trivial⟩
theorem qqz:∃ F:DI K3i->Option (List Int),(∀ x,qo9 x.1 x.2.1 x.2.2.1 x.2.2.2.1->∃ y,F x=some y/\SfS x.1 x.2.1 x.2.2.1 x.2.2.2.1 y)/\HeldI Tryd.prog G0 89 ⟨K3i,fun x=>qo9 x.1 x.2.1 x.2.2.1 x.2.2.2.1,fun x=>(F x).elim [] fun _=>[],fun x=>(F x).elim [] fun y=>bkKL 0 K3i (y,x.2)⟩:=
 qc3 (K:=K3i) (Y:=List Int) (pre:=fun x=>qo9 x.1 x.2.1 x.2.2.1 x.2.2.2.1) cxLess (fn:=Tryd.f89) (fun x y=>SfS x.1 x.2.1 x.2.2.1 x.2.2.2.1 y) (fun _=>[]) (fun x y=>(y,x.2)) rfl rfl ⟨by decide,by decide⟩ (fun _=>rfl) (fun _=>rfl) fun x hp=>q8w x.1 x.2.1 x.2.2.1 x.2.2.2.1 hp
noncomputable def sfV (l:List Int) (lo hi f:Int):List Int:=((Classical.choose qqz) (l,lo,hi,f,())).getD []
theorem q21 {l:List Int} {lo hi f:Int} (hp:qo9 l lo hi f):SfS l lo hi f (sfV l lo hi f):=by
 obtain ⟨y,h1,h2⟩:=(Classical.choose_spec qqz).1 (l,lo,hi,f,()) hp;unfold sfV;rw[h1];exact h2
noncomputable def ctSf:CtrI:=⟨K3i,fun x=>qo9 x.1 x.2.1 x.2.2.1 x.2.2.2.1,fun _=>[],fun x=>bkKL 0 K3i (sfV x.1 x.2.1 x.2.2.1 x.2.2.2.1,x.2)⟩
theorem q4y:HeldI Tryd.prog G0 89 ctSf:=fun x hp=>by
 have h:=(Classical.choose_spec qqz).2 x hp;obtain ⟨y,h1,h2⟩:=(Classical.choose_spec qqz).1 x hp;have e:sfV x.1 x.2.1 x.2.2.1 x.2.2.2.1=y:=by
  unfold sfV
  show ((Classical.choose qqz) x).getD []=y
  rw[h1];rfl
 have e1:(((Classical.choose qqz) x).elim ([]:List SV) fun _=>[])=ctSf.out x:=by rw[h1];rfl
 have e2:(((Classical.choose qqz) x).elim ([]:List (Nat × LB)) fun y=>bkKL 0 K3i (y,x.2))=ctSf.blk x:=by
  rw[h1]
  show bkKL 0 K3i (y,x.2)=bkKL 0 K3i (sfV x.1 x.2.1 x.2.2.1 x.2.2.2.1,x.2)
  rw[e]
 simp only[e1,e2] at h;exact h
noncomputable def CSf:CV:=[(89,.inr ctSf)]
theorem cxSf:CxOK Tryd.prog tt G0 CSf:=cx0.consI q4y (fn:=Tryd.f89) rfl rfl rfl
theorem vc_hp (l:List Int) (a b:Int) (Q:QT) (R:RT):sy tt G0 CSf Tryd.f77.ntmps Tryd.f77.results.toList Q (fun it S=>R it (qar [0,6,7,8,9] [BIG] S)) 1000 [.code (qaf Tryd.f77)] (qao K2i (l,a,b,())) =
  ((2:Int)≠0 /\
 R (hd Tryd.f77 0) { env:=[(0,.win true iI BIG 0 l.length),(6,.int .i64 a),(7,.int .i64 0),(8,.int .i64 (i64.wrap (b-a))),(9,.int .i64 (i64.wrap ((i64.wrap (i64.wrap (b-a)-1)).tdiv (2:Int))))],blk:=[(BIG,.row 3 iI l)] }):=by kernel_rfl
theorem q2y (l:List Int) (hi f i:Int) (Q:QT) (R:RT):sy tt G0 CSf Tryd.f77.ntmps Tryd.f77.results.toList Q (fun it S=>R it (qar [0,6,7,8,9,10] [BIG] S)) 1000 (hd Tryd.f77 0) ⟨[(0,.win true iI BIG 0 l.length),(6,.int .i64 f),(7,.int .i64 0),(8,.int .i64 hi),(9,.int .i64 i)],[(BIG,.row 3 iI l)]⟩ =
  (bc (decide (0<=i)) (l.length=l.length /\
 ctSf.pre (l,i,hi,f,()) /\
 R (hd Tryd.f77 0) { env:=[(0,.win true iI BIG 0 l.length),(6,.int .i64 f),(7,.int .i64 0),(8,.int .i64 hi),(9,.int .i64 (i64.wrap (i-1)))],blk:=[(BIG,.row 3 iI (sfV l i hi f))] }) (R (hd Tryd.f77 1) { env:=[(0,.win true iI BIG 0 l.length),(6,.int .i64 f),(7,.int .i64 0),(8,.int .i64 hi),(9,.int .i64 i),(10,.int .i64 (i64.wrap (hi-1)))],blk:=[(BIG,.row 3 iI l)] })):=by kernel_rfl
theorem q2x (l:List Int) (hi f i:Int) (Q:QT) (R:RT):sy tt G0 CSf Tryd.f77.ntmps Tryd.f77.results.toList Q (fun it S=>R it (qar [0,6,7,8,10] [BIG] S)) 1000 (hd Tryd.f77 1) ⟨[(0,.win true iI BIG 0 l.length),(6,.int .i64 f),(7,.int .i64 0),(8,.int .i64 hi),(10,.int .i64 i)],[(BIG,.row 3 iI l)]⟩ =
  (bc (decide (0<=i)) (0<=i64.wrap (f+i) /\
 i64.wrap (f+i)<(l.length:Int) /\
 0+(i64.wrap (f+i)).toNat<l.length /\
 0<=f /\
 f<(l.length:Int) /\
 0+f.toNat<l.length /\
 0<=f /\
 f<(l.length:Int) /\
 0+f.toNat<l.length /\
 0<=i64.wrap (f+i) /\
 i64.wrap (f+i)<(l.length:Int) /\
 0+(i64.wrap (f+i)).toNat<(l.set (0+f.toNat) (gtI l (0+(i64.wrap (f+i)).toNat))).length /\
 l.length=((l.set (0+f.toNat) (gtI l (0+(i64.wrap (f+i)).toNat))).set (0+(i64.wrap (f+i)).toNat) (gtI l (0+f.toNat))).length /\
 ctSf.pre ((l.set (0+f.toNat) (gtI l (0+(i64.wrap (f+i)).toNat))).set (0+(i64.wrap (f+i)).toNat) (gtI l (0+f.toNat)),(0:Int),i,f,()) /\
 R (hd Tryd.f77 1) { env:=[(0,.win true iI BIG 0 l.length),(6,.int .i64 f),(7,.int .i64 0),(8,.int .i64 hi),(10,.int .i64 (i64.wrap (i-1)))],blk:=[(BIG,.row 3 iI (sfV ((l.set (0+f.toNat) (gtI l (0+(i64.wrap (f+i)).toNat))).set (0+(i64.wrap (f+i)).toNat) (gtI l (0+f.toNat))) (0:Int) i f))] }) (Q [] [(BIG,.row 3 iI l)])):=by kernel_rfl
theorem Heap.max {m:List Int} {f h:Nat} (H:Heap m f 0 h):∀ k,k<h->gtI m (f+k)<=gtI m f:=by
 intro k
 induction k using Nat.strongRecOn with
 | ind k ih=>
  intro hk;by_cases e:k=0
  ·subst e;exact Int.le_refl _
  ·have h1:=H ((k-1) / 2) k (Nat.zero_le _) (by unfold chd;omega) hk;exact Int.le_trans h1 (ih ((k-1) / 2) (by omega) (by omega))
abbrev hpP0 (m:List Int) (hi f i:Int):PS:=⟨[(0,.win true iI 1099511627776 0 m.length),(6,.int .i64 f),(7,.int .i64 0),(8,.int .i64 hi),(9,.int .i64 i)],[(1099511627776,.row 3 iI m)]⟩
abbrev hpP1 (m:List Int) (hi f i:Int):PS:=⟨[(0,.win true iI 1099511627776 0 m.length),(6,.int .i64 f),(7,.int .i64 0),(8,.int .i64 hi),(10,.int .i64 i)],[(1099511627776,.row 3 iI m)]⟩
abbrev HpG (l:List Int) (a n:Nat) (it:Nat) (S:PS):Prop:=∃ y,(Swp a (a+n) l y/\Inc y a (a+n))/\GD 77 Tryd.f77 (fun rs blk=>rs=[]/\lk blk BIG=some (.row 3 iI y)) (hd Tryd.f77 it) S
structure HpI (l:List Int) (a n:Nat) (m:List Int) (i:Nat):Prop where
 sw:Swp a (a+n) l m
 hp:Heap m a 0 i
 inc:Inc m (a+i) (a+n)
 le:∀ k q,k<i->i<=q->q<n->gtI m (a+k)<=gtI m (a+q)
section
variable {l:List Int} {a n:Nat} (hb:a+n<=l.length) (hl:l.length<1073741824)
include hb hl
theorem q1g:∀ (i:Nat) (m:List Int),i<=n->HpI l a n m i->HpG l a n 1 (hpP1 m n a ((i:Int)-1)):=by
 intro i
 induction i with
 | zero=>
  intro m hi I;refine ⟨m,⟨I.sw,I.inc⟩,qae cxSf (q2x m n a _ _ _) ?_⟩;exact bcF (decide_eq_false (by omega)) ⟨rfl,rfl⟩
 | succ i ih=>
  intro m hi I;obtain ⟨s,H,hinc,le⟩:=I;have hlen:=s.len;have hmx:=H.max;have e:=fun k=>qe9 (l:=m) (i:=a) (j:=a+i) (by omega) (by omega) k
  have ei:((i+1:Nat):Int)-1=(i:Int):=by omega
  have pS:qo9 (sw2 m a (a+i)) 0 i a:=by
   refine ⟨by omega,by omega,by omega,by rw[qb4];omega,by rw[qb4];omega,fun k c k1 k2 k3=>?_⟩;simp only[Int.toNat_natCast,Int.toNat_zero] at k1 k3 |-;have hk:k<c:=by rcases k2 with h | h <;> omega
   rw[e,e,if_neg (by omega),if_neg (by omega),if_neg (by omega),if_neg (by omega)];exact H k c (Nat.zero_le _) k2 (by omega)
  obtain ⟨y1,y2⟩:=q21 pS;generalize hy:sfV (sw2 m a (a+i)) 0 i a=y at *;simp only[Int.toNat_natCast,Int.toNat_zero,Nat.add_zero] at y1 y2;have ylen:=y1.len;have yo:∀ k,a+i<=k->gtI y k=gtI (sw2 m a (a+i)) k:=fun k hk=>y1.out (by rw[qb4];omega) (.inr hk)
  have yi:gtI y (a+i)=gtI m a:=by rw[yo _ (Nat.le_refl _),e,if_pos rfl]
  have yt:∀ k,i<k->gtI y (a+k)=gtI m (a+k):=fun k hk=>by rw[yo _ (by omega),e,if_neg (by omega),if_neg (by omega)]
  have I2:HpI l a n y i:=by
   refine ⟨(Swp.step _ _ s (by omega) (by omega) (by omega) (by omega)).trans (y1.mono (Nat.le_refl _) (by omega)),y2,fun k k1 k2=>?_,fun k q k1 k2 k3=>?_⟩
   ·obtain ⟨d,rfl⟩:∃ d,k=a+d:=⟨k-a,by omega⟩;rw[Nat.add_assoc,yt (d+1) (by omega)];by_cases q:d=i
    ·rw[q,yi];have:=le 0 (i+1) (by omega) (Nat.le_refl _) (by omega);simpa using this
    ·rw[yt d (by omega)];exact hinc (a+d) (by omega) (by omega)
   ·have all:=y1.all (by rw[qb4];omega) (P:=fun v=>v<=gtI y (a+q)) (fun k' a1 a2=>by
     obtain ⟨d,rfl⟩:∃ d,k'=a+d:=⟨k'-a,by omega⟩;rw[e,if_neg (by omega)];have hq:∀ d,d<i+1->gtI m (a+d)<=gtI y (a+q):=fun d hd=>by
      by_cases w:q=i
      ·rw[w,yi];exact hmx d hd
      ·rw[yt q (by omega)];exact le d q hd (by omega) k3
     split
     ·exact hq i (by omega)
     ·exact hq d (by omega))
    exact all (a+k) (by omega) (by omega)
  obtain ⟨z,z1,z2⟩:=ih y (by omega) I2;refine ⟨z,z1,qae cxSf (q2x m n a _ _ _) ?_⟩;rw[ei];have w1:IntKind.i64.wrap ((a:Int)+(i:Int))=((a+i:Nat):Int):=by rw[IntWalk.i64_in _ (by omega)];omega
  have w2:IntKind.i64.wrap ((i:Int)-1)=(i:Int)-1:=IntWalk.i64_in _ (by omega);rw[w1,w2];simp only[Nat.zero_add,List.length_set,Int.toNat_natCast];refine bcT (decide_eq_true (by omega)) ?_
  repeat refine And.intro (by first | omega | trivial | exact pS) ?_
  rw[show sfV ((m.set a (gtI m (a+i))).set (a+i) (gtI m a)) 0 (i:Int) (a:Int)=y from hy];refine z2.only ⟨?_,rfl,rfl,rfl,rfl,trivial⟩ ⟨rfl,trivial⟩
  show some (SV.win true iI 1099511627776 0 _)=some (SV.win true iI 1099511627776 0 y.length)
  rw[ylen,qb4]
theorem q1h (hn:1<=n):∀ (i:Nat) (m:List Int),i<=n->Swp a (a+n) l m->Heap m a i n->HpG l a n 0 (hpP0 m n a ((i:Int)-1)):=by
 intro i
 induction i with
 | zero=>
  intro m hi s H;have hlen:=s.len;obtain ⟨y,y1,y2⟩:=q1g hb hl n m (Nat.le_refl _) ⟨s,H,fun k k1 k2=>by omega,fun k q k1 k2 k3=>by omega⟩;refine ⟨y,y1,qae cxSf (q2y m n a _ _ _) ?_⟩;rw[IntWalk.i64_in ((n:Int)-1) (by omega)];exact bcF (decide_eq_false (by omega)) (y2.only ⟨rfl,rfl,rfl,rfl,rfl,trivial⟩ ⟨rfl,trivial⟩)
 | succ i ih=>
  intro m hi s H;have hlen:=s.len;have ei:((i+1:Nat):Int)-1=(i:Int):=by omega
  have pS:qo9 m i n a:=⟨by omega,by omega,by omega,by omega,by omega,fun k c k1 k2 k3=>H k c (by simpa using k1) k2 (by simpa using k3)⟩;obtain ⟨y1,y2⟩:=q21 pS;generalize hy:sfV m i n a=y at *;simp only[Int.toNat_natCast] at y1 y2;obtain ⟨z,z1,z2⟩:=ih y (by omega) (s.trans (y1.mono (by omega) (Nat.le_refl _))) y2;refine ⟨z,z1,qae cxSf (q2y m n a _ _ _) ?_⟩;rw[ei,IntWalk.i64_in ((i:Int)-1) (by omega)];refine bcT (decide_eq_true (by omega)) ⟨rfl,pS,?_⟩;rw[show sfV m (i:Int) (n:Int) (a:Int)=y from hy];refine z2.only ⟨?_,rfl,rfl,rfl,rfl,trivial⟩ ⟨rfl,trivial⟩
  show some (SV.win true iI 1099511627776 0 m.length)=some (SV.win true iI 1099511627776 0 y.length)
  rw[y1.len]
end
def SrtS (l:List Int) (a b:Int) (y:List Int):Prop:=Swp a.toNat b.toNat l y/\Inc y a.toNat b.toNat
theorem q90 (l:List Int) (a b:Int) (hp:preS l a b):∃ y,SrtS l a b y/\GD 77 Tryd.f77 (fun rs blk=>rs=[]/\∀ p∈bkKL 0 K2i (y,a,b,()),lk blk p.1=some p.2) [.code (qaf Tryd.f77)] (qao K2i (l,a,b,())):=by
 obtain ⟨⟨h0,h1,h2,h3⟩,h4,h5⟩:=hp;have hI:Heap l a.toNat ((b.toNat-a.toNat-1) / 2+1) (b.toNat-a.toNat):=fun k c k1 k2 k3=>by rcases k2 with h | h <;> omega
 obtain ⟨y,y1,y2⟩:=q1h (l:=l) (a:=a.toNat) (n:=b.toNat-a.toNat) (by omega) h3 (by omega) ((b.toNat-a.toNat-1) / 2+1) l (by omega) .refl hI;rw[show a.toNat+(b.toNat-a.toNat)=b.toNat by omega] at y1;refine ⟨y,y1,qae cxSf (vc_hp l a b _ _) ?_⟩;have e1:((b.toNat-a.toNat:Nat):Int)=b-a:=by omega
 have e2:((a.toNat:Nat):Int)=a:=by omega
 have e3:(((b.toNat-a.toNat-1) / 2+1:Nat):Int)-1=(b-a-1) / 2:=by omega
 rw[e1,e2,e3] at y2;rw[IntWalk.i64_in (b-a) (by omega),IntWalk.i64_in (b-a-1) (by omega),Int.tdiv_eq_ediv_of_nonneg (by omega),IntWalk.i64_in ((b-a-1) / 2) (by omega)];refine ⟨by decide,?_⟩;exact (y2.post fun rs blk hq=>⟨hq.1,bk2 (l,a,b,()) y hq.2⟩).only ⟨rfl,rfl,rfl,rfl,rfl,trivial⟩ ⟨rfl,trivial⟩
theorem q64:∃ F:DI K2i->Option (List Int),(∀ x,preS x.1 x.2.1 x.2.2.1->∃ y,F x=some y/\SrtS x.1 x.2.1 x.2.2.1 y)/\HeldI Tryd.prog G0 77 ⟨K2i,fun x=>preS x.1 x.2.1 x.2.2.1,fun x=>(F x).elim [] fun _=>[],fun x=>(F x).elim [] fun y=>bkKL 0 K2i (y,x.2)⟩:=
 qc3 (K:=K2i) (Y:=List Int) (pre:=fun x=>preS x.1 x.2.1 x.2.2.1) cxSf (fn:=Tryd.f77) (fun x y=>SrtS x.1 x.2.1 x.2.2.1 y) (fun _=>[]) (fun x y=>(y,x.2)) rfl rfl ⟨by decide,by decide⟩ (fun _=>rfl) (fun _=>rfl) fun x hp=>q90 x.1 x.2.1 x.2.2.1 hp
theorem cxNp:CxOK Tryd.prog tt G0 CNp:=cxPdq.cons qqh (fn:=Tryd.f71) rfl rfl rfl
theorem q9i (r:Int) (hp:0<=r/\r<256) (R:List Item->PS->Prop):sy tt G0 CNp Tryd.f90.ntmps Tryd.f90.results.toList (QC ctNp (r,())) R 1000 [.code (qaf Tryd.f90)] (entry [iI] (r,())):=by
 refine (vc_np r _ _).mpr ?_;have w:IntKind.u64.wrap r=r:=IntWalk.u64_in _ (by omega);rw[w,Int.one_mul];refine ⟨hp,?_,QC.flat rfl rfl rfl⟩;unfold lenV;omega
theorem q6a:Held Tryd.prog G0 90 ctNp:=Held.run cxNp (fn:=Tryd.f90) rfl rfl ⟨by decide,by decide⟩ fun x hp=>q9i x.1 hp _
theorem q9j {n:Int} (h0:13<=n) (h1:n<50):1<=npV n/\npV n<=2*n:=by
 have:∀ k:Fin 50,13<=k.val->1<=npV (k.val:Int)/\npV (k.val:Int)<=2*(k.val:Int):=by decide +kernel
 have h:=this ⟨n.toNat,by omega⟩ (by simp only;omega);simp only at h;rwa[show ((n.toNat:Nat):Int)=n by omega] at h
theorem zaj {x y:Int} (h0:0<=y) (h1:y<18446744073709551616):0<=bitI .and .u64 x y/\bitI .and .u64 x y<=y:=by
 have e:bitI .and .u64 x y=IntKind.u64.wrap (((BitVec.ofInt 64 x) &&& (BitVec.ofInt 64 y)).toNat:Nat):=rfl;have h2:((BitVec.ofInt 64 x) &&& (BitVec.ofInt 64 y)).toNat<=(BitVec.ofInt 64 y).toNat:=by
  rw[BitVec.toNat_and];exact Nat.and_le_right
 have h3:((BitVec.ofInt 64 y).toNat:Int)=y:=by
  rw[BitVec.toNat_ofInt];have:y % ((2 ^ 64:Nat):Int)=y:=Int.emod_eq_of_lt h0 (by omega);omega
 rw[e,IntWalk.u64_in _ (by omega)];omega
theorem cxBp:CxOK Tryd.prog tt G0 CBp:=(cx0.consI q58 (fn:=Tryd.f91) rfl rfl rfl).cons q6a (fn:=Tryd.f90) rfl rfl rfl
theorem q7l (l:List Int) (a b:Nat) (n m:Int) (hn:n=(b:Int)-a) (h12:12<n) (h50:n<50) (hm:1<=m/\m<=2*n) (hb:b<=l.length) (hl:l.length<1073741824):∀ (N:Nat) (x r:Int) (z:List Int),Swp a b l z->(a:Int)<=x->((a:Int)+n / 4*2+2-x).toNat<=N->x<=(a:Int)+n / 4*2+2 ->
  ∃ y,Swp a b l y/\GD 78 Tryd.f78 (fun rs blk=>rs=[]/\lk blk BIG=some (.row 3 iI y)) (hd Tryd.f78 0) ⟨[(0,.win true iI 1099511627776 0 z.length),(1,.int .i64 a),(6,.int .i64 n),(7,.ptr 7 0),(8,.int .u64 m),(9,.int .i64 x)],[(1099511627776,.row 3 iI z),(7,.var [.int .u64 r])]⟩:=by
 have w0:i64.wrap (i64.wrap ((a:Int)+i64.wrap (i64.wrap (n.tdiv 4)*2))+1)=(a:Int)+n / 4*2+1:=by
  rw[Int.tdiv_eq_ediv_of_nonneg (by omega),IntWalk.i64_in (n / 4) (by omega),IntWalk.i64_in (n / 4*2) (by omega),IntWalk.i64_in ((a:Int)+n / 4*2) (by omega),IntWalk.i64_in _ (by omega)]
 intro N
 induction N with
 | zero=>
  intro x r z hs hx hN hx2;refine ⟨z,hs,qae cxBp (qso z a n m x r _ _) ?_⟩;rw[w0];exact ⟨by decide,bcF (decide_eq_false (by omega)) ⟨rfl,rfl⟩⟩
 | succ N ih=>
  intro x r z hs hx hN hx2;by_cases h:x<=(a:Int)+n / 4*2+1
  ·have zl:=hs.len;have wm:IntKind.u64.wrap (m-1)=m-1:=IntWalk.u64_in _ (by omega);obtain ⟨o0,o1⟩:=zaj (x:=nxV r) (y:=m-1) (by omega) (by omega);generalize hv:bitI BinOp.and IntKind.u64 (nxV r) (m-1)=v at *;have wv:i64.wrap v=v:=IntWalk.i64_in _ (by omega);have wx:i64.wrap (x+1)=x+1:=IntWalk.i64_in _ (by omega);by_cases q:n<=v
   ·have w1:i64.wrap (v-n)=v-n:=IntWalk.i64_in _ (by omega);have w2:i64.wrap ((a:Int)+(v-n))=(a:Int)+(v-n):=IntWalk.i64_in _ (by omega);obtain ⟨y,y1,y2⟩:=ih (x+1) (nxV r) (sw2 z x.toNat ((a:Int)+(v-n)).toNat) (.step _ _ hs (by omega) (by omega) (by omega) (by omega)) (by omega) (by omega) (by omega);refine ⟨y,y1,qae cxBp (qso z a n m x r _ _) ?_⟩;rw[w0,wm,hv,wv,w1,w2,wx];simp only[Nat.zero_add,List.length_set];refine ⟨by decide,bcT (decide_eq_true h) ⟨trivial,bcT (decide_eq_true q) ?_⟩⟩
    repeat refine And.intro (by omega) ?_
    refine y2.only ⟨?_,rfl,rfl,rfl,rfl,rfl,trivial⟩ ⟨rfl,rfl,trivial⟩
    show some (SV.win true iI 1099511627776 0 z.length)=some (SV.win true iI 1099511627776 0 (sw2 z x.toNat ((a:Int)+(v-n)).toNat).length)
    rw[qb4]
   ·have w2:i64.wrap ((a:Int)+v)=(a:Int)+v:=IntWalk.i64_in _ (by omega);obtain ⟨y,y1,y2⟩:=ih (x+1) (nxV r) (sw2 z x.toNat ((a:Int)+v).toNat) (.step _ _ hs (by omega) (by omega) (by omega) (by omega)) (by omega) (by omega) (by omega);refine ⟨y,y1,qae cxBp (qso z a n m x r _ _) ?_⟩;rw[w0,wm,hv,wv,w2,wx];simp only[Nat.zero_add,List.length_set];refine ⟨by decide,bcT (decide_eq_true h) ⟨trivial,bcF (decide_eq_false q) ?_⟩⟩
    repeat refine And.intro (by omega) ?_
    refine y2.only ⟨?_,rfl,rfl,rfl,rfl,rfl,trivial⟩ ⟨rfl,rfl,trivial⟩
    show some (SV.win true iI 1099511627776 0 z.length)=some (SV.win true iI 1099511627776 0 (sw2 z x.toNat ((a:Int)+v).toNat).length)
    rw[qb4]
  ·refine ⟨z,hs,qae cxBp (qso z a n m x r _ _) ?_⟩;rw[w0];exact ⟨by decide,bcF (decide_eq_false h) ⟨rfl,rfl⟩⟩
theorem zaf (l:List Int) (a b:Int) (hp:preS l a b):∃ y,Swp a.toNat b.toNat l y/\GD 78 Tryd.f78 (fun rs blk=>rs=[]/\∀ p∈bkKL 0 K2i (y,a,b,()),lk blk p.1=some p.2) [.code (qaf Tryd.f78)] (qao K2i (l,a,b,())):=by
 obtain ⟨⟨h0,h1,h2,h3⟩,h4,h5⟩:=hp;obtain ⟨n1,n2⟩:=q9j (n:=b-a) (by omega) h5;obtain ⟨y,y1,y2⟩:=q7l l a.toNat b.toNat (b-a) (npV (b-a)) (by omega) h4 h5 ⟨n1,n2⟩ (by omega) h3 4 (a+(b-a) / 4*2-1) (IntKind.u64.wrap (b-a)) l .refl (by omega) (by omega) (by omega);have e2:((a.toNat:Nat):Int)=a:=by omega
 rw[e2] at y2;refine ⟨y,y1,qae cxBp (vc_bp l a b _ _) ?_⟩;rw[IntWalk.i64_in (b-a) (by omega),Int.tdiv_eq_ediv_of_nonneg (by omega),IntWalk.i64_in ((b-a) / 4) (by omega),IntWalk.i64_in ((b-a) / 4*2) (by omega),IntWalk.i64_in (a+(b-a) / 4*2) (by omega),IntWalk.i64_in (a+(b-a) / 4*2-1) (by omega)];refine bcT (decide_eq_true (by omega)) ⟨(show 0<=b-a/\b-a<256 by omega),by decide,?_⟩;exact (y2.post fun rs blk hq=>⟨hq.1,bk2 (l,a,b,()) y hq.2⟩).only ⟨rfl,rfl,rfl,rfl,rfl,rfl,trivial⟩ ⟨rfl,rfl,trivial⟩
theorem q7n:∃ F:DI K2i->Option (List Int),(∀ x,preS x.1 x.2.1 x.2.2.1->∃ y,F x=some y/\Swp x.2.1.toNat x.2.2.1.toNat x.1 y)/\HeldI Tryd.prog G0 78 ⟨K2i,fun x=>preS x.1 x.2.1 x.2.2.1,fun x=>(F x).elim [] fun _=>[],fun x=>(F x).elim [] fun y=>bkKL 0 K2i (y,x.2)⟩:=
 qc3 (K:=K2i) (Y:=List Int) (pre:=fun x=>preS x.1 x.2.1 x.2.2.1) cxBp (fn:=Tryd.f78) (fun x y=>Swp x.2.1.toNat x.2.2.1.toNat x.1 y) (fun _=>[]) (fun x y=>(y,x.2)) rfl rfl ⟨by decide,by decide⟩ (fun _=>rfl) (fun _=>rfl) fun x hp=>zaf x.1 x.2.1 x.2.2.1 hp
theorem exC {Y:Type} [Nonempty Y] {f:FuncId} {K:List AK} {pre:DI K->Prop} {Sp:DI K->Y->Prop} {out:Y->List SV} {dat:DI K->Y->DI K}
  (E:∃ F:DI K->Option Y,(∀ x,pre x->∃ y,F x=some y/\Sp x y)/\HeldI Tryd.prog G0 f ⟨K,pre,fun x=>(F x).elim [] out,fun x=>(F x).elim [] fun y=>bkKL 0 K (dat x y)⟩) :
  ∃ V:DI K->Y,(∀ x,pre x->Sp x (V x))/\HeldI Tryd.prog G0 f ⟨K,pre,fun x=>out (V x),fun x=>bkKL 0 K (dat x (V x))⟩:=by
 obtain ⟨F,h1,h2⟩:=E;refine ⟨fun x=>(F x).getD (Classical.choice inferInstance),fun x hp=>?_,fun x hp=>?_⟩
 ·obtain ⟨y,e,s⟩:=h1 x hp
  show Sp x ((F x).getD _)
  rw[e];exact s
 ·have h:=h2 x hp;obtain ⟨y,e,s⟩:=h1 x hp;simp only[e,Option.elim,Option.getD] at h |-;exact h
structure InJ (l:List Int) (a b i:Nat) (m:List Int) (j:Nat):Prop where
 sw:Swp a b l m
 ha:a<=j
 hj:j<=i
 inc:∀ k,a<=k->k<i->k+1≠j->gtI m k<=gtI m (k+1)
 mid:a<j->j<i->gtI m (j-1)<=gtI m (j+1)
theorem InJ.next {l:List Int} {a b i:Nat} {m:List Int} {j:Nat} (I:InJ l a b i m (j+1)) (hj:a<=j) (hi:i<b) (hb:b<=l.length) (h:gtI m (j+1)<gtI m j):InJ l a b i (sw2 m (j+1) j) j:=by
 obtain ⟨s,h1,h2,inc,mid⟩:=I;have hl:=s.len;have e:=fun k=>qe9 (l:=m) (i:=j+1) (j:=j) (by omega) (by omega) k
 refine ⟨s.trans (.one _ _ (by omega) (by omega) (by omega) (by omega)),hj,by omega,fun k k1 k2 k3=>?_,fun k1 k2=>?_⟩
 ·rw[e,e];by_cases c1:k=j
  ·subst c1;rw[if_pos rfl,if_neg (by omega),if_pos rfl];omega
  ·rw[if_neg c1];by_cases c2:k=j+1
   ·subst c2;rw[if_pos rfl,if_neg (by omega),if_neg (by omega)];exact mid (by omega) (by omega)
   ·rw[if_neg c2,if_neg (by omega),if_neg (by omega)];exact inc k k1 k2 (by omega)
 ·rw[e,e,if_neg (by omega),if_neg (by omega),if_neg (by omega),if_pos rfl];have:=inc (j-1) (by omega) (by omega) (by omega);rwa[show j-1+1=j by omega] at this
abbrev inI2 (l:List Int) (a b i:Nat):PS:=⟨[(0,.win true iI 1099511627776 0 l.length),(1,.int .i64 (a:Nat)),(2,.int .i64 (b:Nat)),(6,.int .i64 (i:Nat))],[(1099511627776,.row 3 iI l)]⟩
abbrev inJ2 (l:List Int) (a b i j:Nat):PS:=⟨[(0,.win true iI 1099511627776 0 l.length),(1,.int .i64 (a:Nat)),(2,.int .i64 (b:Nat)),(6,.int .i64 (i:Nat)),(7,.int .i64 (j:Nat))],[(1099511627776,.row 3 iI l)]⟩
theorem insJ2 {l:List Int} {a b i:Nat} (hb:b<=l.length) (hl:l.length<1073741824) (hi:i<b):∀ (j:Nat) (m:List Int),InJ l a b i m j ->
  ∃ y,(Swp a b l y/\Inc y a (i+1))/\∀ Q,GD 76 Tryd.f76 Q (hd Tryd.f76 0) (inI2 y a b (i+1))->GD 76 Tryd.f76 Q (hd Tryd.f76 1) (inJ2 m a b i j):=by
 have w1:IntKind.i64.wrap ((i:Int)+1)=((i+1:Nat):Int):=by rw[IntWalk.i64_in _ (by omega)];omega
 intro j
 induction j with
 | zero=>
  intro m I;refine ⟨m,⟨I.sw,fun k k1 k2=>I.inc k k1 (by omega) (by omega)⟩,fun Q K=>qae cxLess (qjd m a b i (0:Nat) _ _) ?_⟩;rw[decide_eq_false (by omega),bc_f,w1];exact ⟨rfl,K.only ⟨rfl,rfl,rfl,rfl,trivial⟩ ⟨rfl,trivial⟩⟩
 | succ j ih=>
  intro m I;have hm:=I.sw.len;have hj:=I.hj;have ha:=I.ha;have w2:IntKind.i64.wrap (((j+1:Nat):Int)-1)=(j:Int):=by rw[IntWalk.i64_in _ (by omega)];omega
  by_cases c:a<=j
  ·by_cases d:gtI m (j+1)<gtI m j
   ·obtain ⟨y,y1,y2⟩:=ih _ (I.next c hi hb d);refine ⟨y,y1,fun Q K=>qae cxLess (qjd m a b i (j+1:Nat) _ _) ?_⟩;rw[decide_eq_true (by omega),bc_t,w1,w2];simp only[Int.toNat_natCast,Nat.zero_add,List.length_set];refine ⟨by omega,by omega,by omega,by omega,by omega,by omega,trivial,qap (fun h=>?_) (fun h=>?_)⟩
    ·refine ⟨by omega,by omega,by omega,by omega,by omega,by omega,by omega,by omega,by omega,by omega,by omega,by omega,?_⟩;exact (y2 Q K).only ⟨qqv (qb4 m _ _).symm,rfl,rfl,rfl,rfl,trivial⟩ ⟨rfl,trivial⟩
    ·exact absurd d (of_decide_eq_false h)
   ·refine ⟨m,⟨I.sw,fun k k1 k2=>?_⟩,fun Q K=>qae cxLess (qjd m a b i (j+1:Nat) _ _) ?_⟩
    ·by_cases q:k=j
     ·subst q;omega
     ·exact I.inc k k1 (by omega) (by omega)
    ·rw[decide_eq_true (by omega),bc_t,w1,w2];simp only[Int.toNat_natCast,Nat.zero_add,List.length_set];refine ⟨by omega,by omega,by omega,by omega,by omega,by omega,trivial,qap (fun h=>?_) (fun h=>?_)⟩
     ·exact absurd (of_decide_eq_true h) d
     ·exact K.only ⟨rfl,rfl,rfl,rfl,trivial⟩ ⟨rfl,trivial⟩
  ·refine ⟨m,⟨I.sw,fun k k1 k2=>I.inc k k1 (by omega) (by omega)⟩,fun Q K=>qae cxLess (qjd m a b i (j+1:Nat) _ _) ?_⟩;rw[decide_eq_false (by omega),bc_f,w1];exact ⟨rfl,K.only ⟨rfl,rfl,rfl,rfl,trivial⟩ ⟨rfl,trivial⟩⟩
theorem insI2 {l:List Int} {a b:Nat} (hb:b<=l.length) (hl:l.length<1073741824):∀ (k i:Nat) (m:List Int),b-i<=k->Swp a b l m->Inc m a i->a<=i ->
  ∃ y,(Swp a b l y/\Inc y a b)/\GD 76 Tryd.f76 (fun rs blk=>rs=[]/\lk blk BIG=some (.row 3 iI y)) (hd Tryd.f76 0) (inI2 m a b i):=by
 intro k
 induction k with
 | zero=>
  intro i m hk s inc ha;refine ⟨m,⟨s,fun q q1 q2=>inc q q1 (by omega)⟩,qfh cxLess (qky m a b i _ _) ?_⟩;rw[decide_eq_false (by omega),bc_f];exact ⟨rfl,rfl⟩
 | succ k ih=>
  intro i m hk s inc ha;have hm:=s.len;by_cases c:i<b
  ·obtain ⟨z,⟨z1,z2⟩,z3⟩:=insJ2 hb hl c i m ⟨s,ha,Nat.le_refl _,fun q q1 q2 q3=>inc q q1 (by omega),fun q1 q2=>by omega⟩;obtain ⟨y,y1,y2⟩:=ih (i+1) z (by omega) z1 z2 (by omega);refine ⟨y,y1,qfh cxLess (qky m a b i _ _) ?_⟩;rw[decide_eq_true (by omega),bc_t];exact (z3 _ y2).only ⟨rfl,rfl,rfl,rfl,rfl,trivial⟩ ⟨rfl,trivial⟩
  ·refine ⟨m,⟨s,fun q q1 q2=>inc q q1 (by omega)⟩,qfh cxLess (qky m a b i _ _) ?_⟩;rw[decide_eq_false (by omega),bc_f];exact ⟨rfl,rfl⟩
theorem q9y (l:List Int) (a b:Int) (hp:qhn l a b):∃ y,SrtS l a b y/\GD 76 Tryd.f76 (fun rs blk=>rs=[]/\∀ p∈bkKL 0 K2i (y,a,b,()),lk blk p.1=some p.2) [.code (qaf Tryd.f76)] (qao K2i (l,a,b,())):=by
 obtain ⟨h0,h1,h2,h3⟩:=hp;obtain ⟨y,y1,y2⟩:=insI2 (l:=l) (a:=a.toNat) (b:=b.toNat) (by omega) h3 _ (a.toNat+1) l (Nat.le_refl _) .refl (fun k k1 k2=>by omega) (by omega);refine ⟨y,y1,?_⟩;have ea:((a.toNat:Nat):Int)=a:=by omega
 have eb:((b.toNat:Nat):Int)=b:=by omega
 have w:IntKind.i64.wrap (a+1)=((a.toNat+1:Nat):Int):=by rw[IntWalk.i64_in _ (by omega)];omega
 refine qfh cxLess (q2w l a b _ _) ?_;rw[w];have y3:=(y2.post (Q':=fun rs blk=>rs=[]/\∀ p∈bkKL 0 K2i (y,a,b,()),lk blk p.1=some p.2) fun rs blk hq=>⟨hq.1,bk2 (l,a,b,()) y hq.2⟩);unfold inI2 at y3;rw[ea,eb] at y3;exact y3.only ⟨rfl,rfl,rfl,rfl,trivial⟩ ⟨rfl,trivial⟩
theorem q62:∃ F:DI K2i->Option (List Int),(∀ x,qhn x.1 x.2.1 x.2.2.1->∃ y,F x=some y/\SrtS x.1 x.2.1 x.2.2.1 y)/\HeldI Tryd.prog G0 76 ⟨K2i,fun x=>qhn x.1 x.2.1 x.2.2.1,fun x=>(F x).elim [] fun _=>[],fun x=>(F x).elim [] fun y=>bkKL 0 K2i (y,x.2)⟩:=
 qc3 (K:=K2i) (Y:=List Int) (pre:=fun x=>qhn x.1 x.2.1 x.2.2.1) cxLess (fn:=Tryd.f76) (fun x y=>SrtS x.1 x.2.1 x.2.2.1 y) (fun _=>[]) (fun x y=>(y,x.2)) rfl rfl ⟨by decide,by decide⟩ (fun _=>rfl) (fun _=>rfl) fun x hp=>q9y x.1 x.2.1 x.2.2.1 hp
end Go.Proofs.YthejkhpeokeccaaDoor
