/-
  A part of the proof: what a piece of the program gives; conditions: those of each theorem.
-/
import Derived.Test.YtijeaicbnfiegaaSc27
set_option linter.unusedVariables false
namespace Go.Proofs.Ytijeaicbnfiegaa
open Go.Px Go.Ax
set_option maxRecDepth 100000
theorem vc_law8 (b : List Int) (c : Int) (Q : List SV → List (Nat × LB) → Prop) (R : List Item → PS → Prop) : sy tt G0 D7 Try.f8.ntmps Try.f8.results.toList Q (fun it S => R it (keepS [0, 1, 5, 6, 7] [16] S)) 1000 [.code (bodyOf Try.f8)] (entry [slB, .int .u8] (b, c, ())) =
    (ctSan.pre () ∧
 R (hd Try.f8 (0 : Nat))
 {
 env :=
 [((0 : Nat), SV.sl (Sh.int IntKind.u8) b), ((1 : Nat), SV.int IntKind.u8 c), ((5 : Nat), SV.bool true),
 ((6 : Nat), SV.win true (Sh.int IntKind.u8) (16 : Nat) (0 : Nat) (0 : Nat)),
 ((7 : Nat), SV.int IntKind.i64 (0 : Int))],
 blk := [((16 : Nat), LB.row (5 : Nat) (Sh.int IntKind.u8) (List.replicate (0 : Nat) (Sh.int IntKind.u8).dflt))] }) := by kernel_rfl
theorem vc_law8A (b x : List Int) (c i : Int) (Q : List SV → List (Nat × LB) → Prop) (R : List Item → PS → Prop) : sy tt G0 D7 Try.f8.ntmps Try.f8.results.toList Q (fun it S => R it (keepS [0, 1, 5, 6, 7, 8, 12, 13, 14] [34, 1147456, 1200704] S)) 1000 (hd Try.f8 0) ⟨[(0, .sl (.int .u8) b), (1, .int .u8 c), (5, .bool true), (6, .win true (.int .u8) 16 0 x.length), (7, .int .i64 i)], [(16, .row 5 (.int .u8) x)]⟩ =
    (bc (decide (i < (↑b.length : Int)))
 (bc (bif true then decide (i < (200 : Int)) else false)
 ((0 : Int) ≤ i ∧
 i < (↑b.length : Int) ∧
 (0 : Nat) + (1 : Nat) ≤
 ((List.replicate (1 : Nat) (Sh.int IntKind.u8).dflt).set (0 : Nat)
 (max (gt (Sh.int IntKind.u8) b i.toNat) (1 : Int))).length ∧
 x.length = x.length ∧
 (0 : Nat) = (0 : Nat) ∧
 x.length +
 (winL
 (Sh.int IntKind.u8)
 (0 : Nat) (1 : Nat)
 ((List.replicate (1 : Nat) (Sh.int IntKind.u8).dflt).set (0 : Nat)
 (max (gt (Sh.int IntKind.u8) b i.toNat) (1 : Int)))).length <
 (2 : Nat) ^ (30 : Nat) ∧
 (1 : Nat) ≤ (2 : Nat) ^ (10 : Nat) ∧
 R (hd Try.f8 (0 : Nat))
 {
 env :=
 [((0 : Nat), SV.sl (Sh.int IntKind.u8) b), ((1 : Nat), SV.int IntKind.u8 c),
 ((5 : Nat), SV.bool true),
 ((6 : Nat),
 SV.win true (Sh.int IntKind.u8) (34 : Nat) (0 : Nat)
 (x.length +
 (winL
 (Sh.int IntKind.u8)
 (0 : Nat) (1 : Nat)
 ((List.replicate (1 : Nat) (Sh.int IntKind.u8).dflt).set (0 : Nat)
 (max (gt (Sh.int IntKind.u8) b i.toNat) (1 : Int)))).length)),
 ((7 : Nat), SV.int IntKind.i64 (IntKind.i64.wrap (i + (1 : Int))))],
 blk :=
 [((34 : Nat),
 LB.row (5 : Nat) (Sh.int IntKind.u8)
 (x ++
 winL (Sh.int IntKind.u8) (0 : Nat) (1 : Nat)
 ((List.replicate (1 : Nat) (Sh.int IntKind.u8).dflt).set (0 : Nat)
 (max (gt (Sh.int IntKind.u8) b i.toNat) (1 : Int)))))] })
 ((0 : Nat) + x.length ≤ x.length ∧
 ctSo.pre (winL (Sh.int IntKind.u8) (0 : Nat) x.length x, ()) ∧
 (0 : Nat) + x.length ≤ x.length ∧
 (0 : Nat) = (List.replicate (0 : Nat) (Sh.int IntKind.u8).dflt).length ∧
 (0 : Nat) = (0 : Nat) ∧
 (0 : Nat) +
 (winL
 (Sh.int IntKind.u8)
 (0 : Nat) x.length x).length <
 (2 : Nat) ^ (30 : Nat) ∧
 (1 : Nat) ≤ (2 : Nat) ^ (10 : Nat) ∧
 (0 : Nat) + (1 : Nat) ≤
 ((List.replicate (1 : Nat) (Sh.int IntKind.u8).dflt).set (0 : Nat) (0 : Int)).length ∧
 (0 : Nat) +
 (winL
 (Sh.int IntKind.u8)
 (0 : Nat) x.length x).length =
 (List.replicate (0 : Nat) (Sh.int IntKind.u8).dflt ++
 winL (Sh.int IntKind.u8) (0 : Nat) x.length x).length ∧
 (0 : Nat) = (0 : Nat) ∧
 (0 : Nat) +
 (winL
 (Sh.int IntKind.u8)
 (0 : Nat) x.length x).length +
 (winL
 (Sh.int IntKind.u8)
 (0 : Nat) (1 : Nat)
 ((List.replicate (1 : Nat) (Sh.int IntKind.u8).dflt).set (0 : Nat)
 (0 : Int))).length <
 (2 : Nat) ^ (30 : Nat) ∧
 (1 : Nat) ≤ (2 : Nat) ^ (10 : Nat) ∧
 (0 : Nat) +
 ((0 : Nat) +
 (winL
 (Sh.int IntKind.u8)
 (0 : Nat) x.length x).length +
 (winL
 (Sh.int IntKind.u8)
 (0 : Nat) (1 : Nat)
 ((List.replicate (1 : Nat) (Sh.int IntKind.u8).dflt).set (0 : Nat)
 (0 : Int))).length) ≤
 (List.replicate (0 : Nat) (Sh.int IntKind.u8).dflt ++
 winL (Sh.int IntKind.u8) (0 : Nat) x.length x ++
 winL (Sh.int IntKind.u8) (0 : Nat) (1 : Nat)
 ((List.replicate (1 : Nat) (Sh.int IntKind.u8).dflt).set (0 : Nat)
 (0 : Int))).length ∧
 ctSo.pre
 (winL (Sh.int IntKind.u8) (0 : Nat)
 ((0 : Nat) +
 (winL
 (Sh.int IntKind.u8)
 (0 : Nat) x.length x).length +
 (winL
 (Sh.int IntKind.u8)
 (0 : Nat) (1 : Nat)
 ((List.replicate (1 : Nat) (Sh.int IntKind.u8).dflt).set (0 : Nat)
 (0 : Int))).length)
 (List.replicate (0 : Nat) (Sh.int IntKind.u8).dflt ++
 winL (Sh.int IntKind.u8) (0 : Nat) x.length x ++
 winL (Sh.int IntKind.u8) (0 : Nat) (1 : Nat)
 ((List.replicate (1 : Nat) (Sh.int IntKind.u8).dflt).set (0 : Nat)
 (0 : Int))),
 ()) ∧
 (0 : Nat) + x.length ≤ x.length ∧
 (1 : Nat) =
 ((List.replicate (1 : Nat) (Sh.int IntKind.u8).dflt).set (0 : Nat) c).length ∧
 (0 : Nat) = (0 : Nat) ∧
 (1 : Nat) +
 (winL
 (Sh.int IntKind.u8)
 (0 : Nat) x.length x).length <
 (2 : Nat) ^ (30 : Nat) ∧
 (1 : Nat) ≤ (2 : Nat) ^ (10 : Nat) ∧
 (0 : Nat) +
 ((1 : Nat) +
 (winL
 (Sh.int IntKind.u8)
 (0 : Nat) x.length x).length) ≤
 ((List.replicate (1 : Nat) (Sh.int IntKind.u8).dflt).set (0 : Nat) c ++
 winL (Sh.int IntKind.u8) (0 : Nat) x.length x).length ∧
 ctSo.pre
 (winL (Sh.int IntKind.u8) (0 : Nat)
 ((1 : Nat) +
 (winL
 (Sh.int IntKind.u8)
 (0 : Nat) x.length x).length)
 ((List.replicate (1 : Nat) (Sh.int IntKind.u8).dflt).set (0 : Nat)
 c ++
 winL (Sh.int IntKind.u8) (0 : Nat) x.length x),
 ()) ∧
 bc
 (decide
 ((↑(mapI
 (ordB
 (winL (Sh.int IntKind.u8) (0 : Nat) x.length x))).length :
 Int) ≠
 (↑x.length : Int)))
 (true = true ∧
 true = true ∧
 true = true ∧
 true = true ∧
 Q [SV.bool false]
 [((16 : Nat), LB.row (5 : Nat) (Sh.int IntKind.u8) x),
 ((41 : Nat),
 LB.row (5 : Nat) (Sh.int IntKind.u8)
 ((List.replicate (1 : Nat) (Sh.int IntKind.u8).dflt).set
 (0 : Nat) (0 : Int))),
 ((42 : Nat),
 LB.row (5 : Nat) (Sh.int IntKind.u8)
 (List.replicate (0 : Nat) (Sh.int IntKind.u8).dflt ++
 winL (Sh.int IntKind.u8) (0 : Nat) x.length x ++
 winL (Sh.int IntKind.u8) (0 : Nat) (1 : Nat)
 ((List.replicate (1 : Nat)
 (Sh.int IntKind.u8).dflt).set
 (0 : Nat) (0 : Int)))),
 ((47 : Nat),
 LB.row (5 : Nat) (Sh.int IntKind.u8)
 ((List.replicate (1 : Nat) (Sh.int IntKind.u8).dflt).set
 (0 : Nat) c ++
 winL (Sh.int IntKind.u8) (0 : Nat) x.length x)),
 ((1147456 : Nat),
 LB.row (3 : Nat) (Sh.int IntKind.i64)
 (mapI
 (ordB
 (winL (Sh.int IntKind.u8) (0 : Nat) x.length x)))),
 ((1176128 : Nat),
 LB.row (3 : Nat) (Sh.int IntKind.i64)
 (mapI
 (ordB
 (winL (Sh.int IntKind.u8) (0 : Nat)
 ((0 : Nat) +
 (winL (Sh.int IntKind.u8) (0 : Nat) x.length
 x).length +
 (winL (Sh.int IntKind.u8) (0 : Nat) (1 : Nat)
 ((List.replicate (1 : Nat)
 (Sh.int IntKind.u8).dflt).set
 (0 : Nat) (0 : Int))).length)
 (List.replicate (0 : Nat)
 (Sh.int IntKind.u8).dflt ++
 winL (Sh.int IntKind.u8) (0 : Nat) x.length
 x ++
 winL (Sh.int IntKind.u8) (0 : Nat) (1 : Nat)
 ((List.replicate (1 : Nat)
 (Sh.int IntKind.u8).dflt).set
 (0 : Nat) (0 : Int))))))),
 ((1200704 : Nat),
 LB.row (3 : Nat) (Sh.int IntKind.i64)
 (mapI
 (ordB
 (winL (Sh.int IntKind.u8) (0 : Nat)
 ((1 : Nat) +
 (winL (Sh.int IntKind.u8) (0 : Nat) x.length
 x).length)
 ((List.replicate (1 : Nat)
 (Sh.int IntKind.u8).dflt).set
 (0 : Nat) c ++
 winL (Sh.int IntKind.u8) (0 : Nat) x.length
 x)))))])
 (bc
 (bif false then true
 else
 decide
 ((↑(mapI
 (ordB
 (winL (Sh.int IntKind.u8) (0 : Nat)
 ((0 : Nat) +
 (winL (Sh.int IntKind.u8) (0 : Nat) x.length
 x).length +
 (winL (Sh.int IntKind.u8) (0 : Nat) (1 : Nat)
 ((List.replicate (1 : Nat)
 (Sh.int IntKind.u8).dflt).set
 (0 : Nat) (0 : Int))).length)
 (List.replicate (0 : Nat)
 (Sh.int IntKind.u8).dflt ++
 winL (Sh.int IntKind.u8) (0 : Nat) x.length x ++
 winL (Sh.int IntKind.u8) (0 : Nat) (1 : Nat)
 ((List.replicate (1 : Nat)
 (Sh.int IntKind.u8).dflt).set
 (0 : Nat) (0 : Int)))))).length :
 Int) ≠
 IntKind.i64.wrap ((↑x.length : Int) + (1 : Int))))
 (true = true ∧
 true = true ∧
 true = true ∧
 Q [SV.bool false]
 [((16 : Nat), LB.row (5 : Nat) (Sh.int IntKind.u8) x),
 ((41 : Nat),
 LB.row (5 : Nat) (Sh.int IntKind.u8)
 ((List.replicate (1 : Nat) (Sh.int IntKind.u8).dflt).set
 (0 : Nat) (0 : Int))),
 ((42 : Nat),
 LB.row (5 : Nat) (Sh.int IntKind.u8)
 (List.replicate (0 : Nat) (Sh.int IntKind.u8).dflt ++
 winL (Sh.int IntKind.u8) (0 : Nat) x.length x ++
 winL (Sh.int IntKind.u8) (0 : Nat) (1 : Nat)
 ((List.replicate (1 : Nat)
 (Sh.int IntKind.u8).dflt).set
 (0 : Nat) (0 : Int)))),
 ((47 : Nat),
 LB.row (5 : Nat) (Sh.int IntKind.u8)
 ((List.replicate (1 : Nat) (Sh.int IntKind.u8).dflt).set
 (0 : Nat) c ++
 winL (Sh.int IntKind.u8) (0 : Nat) x.length x)),
 ((1147456 : Nat),
 LB.row (3 : Nat) (Sh.int IntKind.i64)
 (mapI
 (ordB
 (winL (Sh.int IntKind.u8) (0 : Nat) x.length x)))),
 ((1176128 : Nat),
 LB.row (3 : Nat) (Sh.int IntKind.i64)
 (mapI
 (ordB
 (winL (Sh.int IntKind.u8) (0 : Nat)
 ((0 : Nat) +
 (winL (Sh.int IntKind.u8) (0 : Nat) x.length
 x).length +
 (winL (Sh.int IntKind.u8) (0 : Nat) (1 : Nat)
 ((List.replicate (1 : Nat)
 (Sh.int IntKind.u8).dflt).set
 (0 : Nat) (0 : Int))).length)
 (List.replicate (0 : Nat)
 (Sh.int IntKind.u8).dflt ++
 winL (Sh.int IntKind.u8) (0 : Nat) x.length
 x ++
 winL (Sh.int IntKind.u8) (0 : Nat) (1 : Nat)
 ((List.replicate (1 : Nat)
 (Sh.int IntKind.u8).dflt).set
 (0 : Nat) (0 : Int))))))),
 ((1200704 : Nat),
 LB.row (3 : Nat) (Sh.int IntKind.i64)
 (mapI
 (ordB
 (winL (Sh.int IntKind.u8) (0 : Nat)
 ((1 : Nat) +
 (winL (Sh.int IntKind.u8) (0 : Nat) x.length
 x).length)
 ((List.replicate (1 : Nat)
 (Sh.int IntKind.u8).dflt).set
 (0 : Nat) c ++
 winL (Sh.int IntKind.u8) (0 : Nat) x.length
 x)))))])
 (bc
 (bif false then true
 else
 decide
 ((↑(mapI
 (ordB
 (winL (Sh.int IntKind.u8) (0 : Nat)
 ((1 : Nat) +
 (winL (Sh.int IntKind.u8) (0 : Nat) x.length
 x).length)
 ((List.replicate (1 : Nat)
 (Sh.int IntKind.u8).dflt).set
 (0 : Nat) c ++
 winL (Sh.int IntKind.u8) (0 : Nat) x.length
 x)))).length :
 Int) ≠
 IntKind.i64.wrap ((↑x.length : Int) + (1 : Int))))
 (true = true ∧
 true = true ∧
 Q [SV.bool false]
 [((16 : Nat), LB.row (5 : Nat) (Sh.int IntKind.u8) x),
 ((41 : Nat),
 LB.row (5 : Nat) (Sh.int IntKind.u8)
 ((List.replicate (1 : Nat) (Sh.int IntKind.u8).dflt).set
 (0 : Nat) (0 : Int))),
 ((42 : Nat),
 LB.row (5 : Nat) (Sh.int IntKind.u8)
 (List.replicate (0 : Nat) (Sh.int IntKind.u8).dflt ++
 winL (Sh.int IntKind.u8) (0 : Nat) x.length x ++
 winL (Sh.int IntKind.u8) (0 : Nat) (1 : Nat)
 ((List.replicate (1 : Nat)
 (Sh.int IntKind.u8).dflt).set
 (0 : Nat) (0 : Int)))),
 ((47 : Nat),
 LB.row (5 : Nat) (Sh.int IntKind.u8)
 ((List.replicate (1 : Nat) (Sh.int IntKind.u8).dflt).set
 (0 : Nat) c ++
 winL (Sh.int IntKind.u8) (0 : Nat) x.length x)),
 ((1147456 : Nat),
 LB.row (3 : Nat) (Sh.int IntKind.i64)
 (mapI
 (ordB
 (winL (Sh.int IntKind.u8) (0 : Nat) x.length x)))),
 ((1176128 : Nat),
 LB.row (3 : Nat) (Sh.int IntKind.i64)
 (mapI
 (ordB
 (winL (Sh.int IntKind.u8) (0 : Nat)
 ((0 : Nat) +
 (winL (Sh.int IntKind.u8) (0 : Nat) x.length
 x).length +
 (winL (Sh.int IntKind.u8) (0 : Nat) (1 : Nat)
 ((List.replicate (1 : Nat)
 (Sh.int IntKind.u8).dflt).set
 (0 : Nat) (0 : Int))).length)
 (List.replicate (0 : Nat)
 (Sh.int IntKind.u8).dflt ++
 winL (Sh.int IntKind.u8) (0 : Nat) x.length
 x ++
 winL (Sh.int IntKind.u8) (0 : Nat) (1 : Nat)
 ((List.replicate (1 : Nat)
 (Sh.int IntKind.u8).dflt).set
 (0 : Nat) (0 : Int))))))),
 ((1200704 : Nat),
 LB.row (3 : Nat) (Sh.int IntKind.i64)
 (mapI
 (ordB
 (winL (Sh.int IntKind.u8) (0 : Nat)
 ((1 : Nat) +
 (winL (Sh.int IntKind.u8) (0 : Nat) x.length
 x).length)
 ((List.replicate (1 : Nat)
 (Sh.int IntKind.u8).dflt).set
 (0 : Nat) c ++
 winL (Sh.int IntKind.u8) (0 : Nat) x.length
 x)))))])
 ((0 : Int) ≤ (0 : Int) ∧
 (0 : Int) <
 (↑(mapI
 (ordB
 (winL (Sh.int IntKind.u8) (0 : Nat)
 ((0 : Nat) +
 (winL (Sh.int IntKind.u8) (0 : Nat) x.length
 x).length +
 (winL (Sh.int IntKind.u8) (0 : Nat) (1 : Nat)
 ((List.replicate (1 : Nat)
 (Sh.int IntKind.u8).dflt).set
 (0 : Nat) (0 : Int))).length)
 (List.replicate (0 : Nat)
 (Sh.int IntKind.u8).dflt ++
 winL (Sh.int IntKind.u8) (0 : Nat) x.length
 x ++
 winL (Sh.int IntKind.u8) (0 : Nat) (1 : Nat)
 ((List.replicate (1 : Nat)
 (Sh.int IntKind.u8).dflt).set
 (0 : Nat) (0 : Int)))))).length :
 Int) ∧
 (0 : Nat) + Int.toNat (0 : Int) <
 (mapI
 (ordB
 (winL (Sh.int IntKind.u8) (0 : Nat)
 ((0 : Nat) +
 (winL (Sh.int IntKind.u8) (0 : Nat) x.length
 x).length +
 (winL (Sh.int IntKind.u8) (0 : Nat) (1 : Nat)
 ((List.replicate (1 : Nat)
 (Sh.int IntKind.u8).dflt).set
 (0 : Nat) (0 : Int))).length)
 (List.replicate (0 : Nat)
 (Sh.int IntKind.u8).dflt ++
 winL (Sh.int IntKind.u8) (0 : Nat) x.length x ++
 winL (Sh.int IntKind.u8) (0 : Nat) (1 : Nat)
 ((List.replicate (1 : Nat)
 (Sh.int IntKind.u8).dflt).set
 (0 : Nat) (0 : Int)))))).length ∧
 bc
 (bif false then true
 else
 decide
 (gt (Sh.int IntKind.i64)
 (mapI
 (ordB
 (winL (Sh.int IntKind.u8) (0 : Nat)
 ((0 : Nat) +
 (winL (Sh.int IntKind.u8) (0 : Nat)
 x.length x).length +
 (winL (Sh.int IntKind.u8) (0 : Nat)
 (1 : Nat)
 ((List.replicate (1 : Nat)
 (Sh.int IntKind.u8).dflt).set
 (0 : Nat) (0 : Int))).length)
 (List.replicate (0 : Nat)
 (Sh.int IntKind.u8).dflt ++
 winL (Sh.int IntKind.u8) (0 : Nat)
 x.length x ++
 winL (Sh.int IntKind.u8) (0 : Nat) (1 : Nat)
 ((List.replicate (1 : Nat)
 (Sh.int IntKind.u8).dflt).set
 (0 : Nat) (0 : Int))))))
 ((0 : Nat) + Int.toNat (0 : Int)) ≠
 (↑x.length : Int)))
 (true = true ∧
 Q [SV.bool false]
 [((16 : Nat), LB.row (5 : Nat) (Sh.int IntKind.u8) x),
 ((41 : Nat),
 LB.row (5 : Nat) (Sh.int IntKind.u8)
 ((List.replicate (1 : Nat)
 (Sh.int IntKind.u8).dflt).set
 (0 : Nat) (0 : Int))),
 ((42 : Nat),
 LB.row (5 : Nat) (Sh.int IntKind.u8)
 (List.replicate (0 : Nat)
 (Sh.int IntKind.u8).dflt ++
 winL (Sh.int IntKind.u8) (0 : Nat) x.length
 x ++
 winL (Sh.int IntKind.u8) (0 : Nat) (1 : Nat)
 ((List.replicate (1 : Nat)
 (Sh.int IntKind.u8).dflt).set
 (0 : Nat) (0 : Int)))),
 ((47 : Nat),
 LB.row (5 : Nat) (Sh.int IntKind.u8)
 ((List.replicate (1 : Nat)
 (Sh.int IntKind.u8).dflt).set
 (0 : Nat) c ++
 winL (Sh.int IntKind.u8) (0 : Nat) x.length x)),
 ((1147456 : Nat),
 LB.row (3 : Nat) (Sh.int IntKind.i64)
 (mapI
 (ordB
 (winL (Sh.int IntKind.u8) (0 : Nat) x.length
 x)))),
 ((1176128 : Nat),
 LB.row (3 : Nat) (Sh.int IntKind.i64)
 (mapI
 (ordB
 (winL (Sh.int IntKind.u8) (0 : Nat)
 ((0 : Nat) +
 (winL (Sh.int IntKind.u8) (0 : Nat)
 x.length x).length +
 (winL (Sh.int IntKind.u8) (0 : Nat)
 (1 : Nat)
 ((List.replicate (1 : Nat)
 (Sh.int IntKind.u8).dflt).set
 (0 : Nat) (0 : Int))).length)
 (List.replicate (0 : Nat)
 (Sh.int IntKind.u8).dflt ++
 winL (Sh.int IntKind.u8) (0 : Nat)
 x.length x ++
 winL (Sh.int IntKind.u8) (0 : Nat)
 (1 : Nat)
 ((List.replicate (1 : Nat)
 (Sh.int IntKind.u8).dflt).set
 (0 : Nat) (0 : Int))))))),
 ((1200704 : Nat),
 LB.row (3 : Nat) (Sh.int IntKind.i64)
 (mapI
 (ordB
 (winL (Sh.int IntKind.u8) (0 : Nat)
 ((1 : Nat) +
 (winL (Sh.int IntKind.u8) (0 : Nat)
 x.length x).length)
 ((List.replicate (1 : Nat)
 (Sh.int IntKind.u8).dflt).set
 (0 : Nat) c ++
 winL (Sh.int IntKind.u8) (0 : Nat)
 x.length x)))))])
 ((0 : Int) ≤ (1 : Int) ∧
 (1 : Int) ≤
 (↑(mapI
 (ordB
 (winL (Sh.int IntKind.u8) (0 : Nat)
 ((0 : Nat) +
 (winL (Sh.int IntKind.u8) (0 : Nat)
 x.length x).length +
 (winL (Sh.int IntKind.u8) (0 : Nat)
 (1 : Nat)
 ((List.replicate (1 : Nat)
 (Sh.int IntKind.u8).dflt).set
 (0 : Nat) (0 : Int))).length)
 (List.replicate (0 : Nat)
 (Sh.int IntKind.u8).dflt ++
 winL (Sh.int IntKind.u8) (0 : Nat)
 x.length x ++
 winL (Sh.int IntKind.u8) (0 : Nat)
 (1 : Nat)
 ((List.replicate (1 : Nat)
 (Sh.int IntKind.u8).dflt).set
 (0 : Nat) (0 : Int)))))).length :
 Int) ∧
 (0 : Nat) +
 (mapI
 (ordB
 (winL (Sh.int IntKind.u8) (0 : Nat)
 ((0 : Nat) +
 (winL (Sh.int IntKind.u8) (0 : Nat)
 x.length x).length +
 (winL (Sh.int IntKind.u8) (0 : Nat)
 (1 : Nat)
 ((List.replicate (1 : Nat)
 (Sh.int IntKind.u8).dflt).set
 (0 : Nat) (0 : Int))).length)
 (List.replicate (0 : Nat)
 (Sh.int IntKind.u8).dflt ++
 winL (Sh.int IntKind.u8) (0 : Nat)
 x.length x ++
 winL (Sh.int IntKind.u8) (0 : Nat)
 (1 : Nat)
 ((List.replicate (1 : Nat)
 (Sh.int IntKind.u8).dflt).set
 (0 : Nat) (0 : Int)))))).length ≤
 (mapI
 (ordB
 (winL (Sh.int IntKind.u8) (0 : Nat)
 ((0 : Nat) +
 (winL (Sh.int IntKind.u8) (0 : Nat)
 x.length x).length +
 (winL (Sh.int IntKind.u8) (0 : Nat)
 (1 : Nat)
 ((List.replicate (1 : Nat)
 (Sh.int IntKind.u8).dflt).set
 (0 : Nat) (0 : Int))).length)
 (List.replicate (0 : Nat)
 (Sh.int IntKind.u8).dflt ++
 winL (Sh.int IntKind.u8) (0 : Nat)
 x.length x ++
 winL (Sh.int IntKind.u8) (0 : Nat)
 (1 : Nat)
 ((List.replicate (1 : Nat)
 (Sh.int IntKind.u8).dflt).set
 (0 : Nat) (0 : Int)))))).length ∧
 (0 : Nat) + Int.toNat (1 : Int) +
 ((mapI
 (ordB
 (winL (Sh.int IntKind.u8) (0 : Nat)
 ((0 : Nat) +
 (winL (Sh.int IntKind.u8)
 (0 : Nat) x.length x).length +
 (winL (Sh.int IntKind.u8) (0 : Nat)
 (1 : Nat)
 ((List.replicate (1 : Nat)
 (Sh.int
 IntKind.u8).dflt).set
 (0 : Nat) (0 : Int))).length)
 (List.replicate (0 : Nat)
 (Sh.int IntKind.u8).dflt ++
 winL (Sh.int IntKind.u8) (0 : Nat)
 x.length x ++
 winL (Sh.int IntKind.u8) (0 : Nat)
 (1 : Nat)
 ((List.replicate (1 : Nat)
 (Sh.int
 IntKind.u8).dflt).set
 (0 : Nat)
 (0 : Int)))))).length -
 Int.toNat (1 : Int)) ≤
 (mapI
 (ordB
 (winL (Sh.int IntKind.u8) (0 : Nat)
 ((0 : Nat) +
 (winL (Sh.int IntKind.u8) (0 : Nat)
 x.length x).length +
 (winL (Sh.int IntKind.u8) (0 : Nat)
 (1 : Nat)
 ((List.replicate (1 : Nat)
 (Sh.int IntKind.u8).dflt).set
 (0 : Nat) (0 : Int))).length)
 (List.replicate (0 : Nat)
 (Sh.int IntKind.u8).dflt ++
 winL (Sh.int IntKind.u8) (0 : Nat)
 x.length x ++
 winL (Sh.int IntKind.u8) (0 : Nat)
 (1 : Nat)
 ((List.replicate (1 : Nat)
 (Sh.int IntKind.u8).dflt).set
 (0 : Nat) (0 : Int)))))).length ∧
 (0 : Nat) +
 (mapI
 (ordB
 (winL (Sh.int IntKind.u8) (0 : Nat)
 x.length x))).length ≤
 (mapI
 (ordB
 (winL (Sh.int IntKind.u8) (0 : Nat)
 x.length x))).length ∧
 ctInts.pre
 (winL (Sh.int IntKind.i64)
 ((0 : Nat) + Int.toNat (1 : Int))
 ((mapI
 (ordB
 (winL (Sh.int IntKind.u8)
 (0 : Nat)
 ((0 : Nat) +
 (winL (Sh.int IntKind.u8)
 (0 : Nat) x.length
 x).length +
 (winL (Sh.int IntKind.u8)
 (0 : Nat) (1 : Nat)
 ((List.replicate (1 : Nat)
 (Sh.int
 IntKind.u8).dflt).set
 (0 : Nat)
 (0 : Int))).length)
 (List.replicate (0 : Nat)
 (Sh.int
 IntKind.u8).dflt ++
 winL (Sh.int IntKind.u8)
 (0 : Nat) x.length x ++
 winL (Sh.int IntKind.u8)
 (0 : Nat) (1 : Nat)
 ((List.replicate (1 : Nat)
 (Sh.int
 IntKind.u8).dflt).set
 (0 : Nat)
 (0 : Int)))))).length -
 Int.toNat (1 : Int))
 (mapI
 (ordB
 (winL (Sh.int IntKind.u8) (0 : Nat)
 ((0 : Nat) +
 (winL (Sh.int IntKind.u8)
 (0 : Nat) x.length
 x).length +
 (winL (Sh.int IntKind.u8)
 (0 : Nat) (1 : Nat)
 ((List.replicate (1 : Nat)
 (Sh.int
 IntKind.u8).dflt).set
 (0 : Nat)
 (0 : Int))).length)
 (List.replicate (0 : Nat)
 (Sh.int IntKind.u8).dflt ++
 winL (Sh.int IntKind.u8)
 (0 : Nat) x.length x ++
 winL (Sh.int IntKind.u8) (0 : Nat)
 (1 : Nat)
 ((List.replicate (1 : Nat)
 (Sh.int
 IntKind.u8).dflt).set
 (0 : Nat) (0 : Int)))))),
 winL (Sh.int IntKind.i64) (0 : Nat)
 (mapI
 (ordB
 (winL (Sh.int IntKind.u8) (0 : Nat)
 x.length x))).length
 (mapI
 (ordB
 (winL (Sh.int IntKind.u8) (0 : Nat)
 x.length x))),
 ()) ∧
 bc
 (bif false then true
 else
 !decide
 (winL (Sh.int IntKind.i64)
 ((0 : Nat) + Int.toNat (1 : Int))
 ((mapI
 (ordB
 (winL (Sh.int IntKind.u8)
 (0 : Nat)
 ((0 : Nat) +
 (winL
 (Sh.int
 IntKind.u8)
 (0 : Nat) x.length
 x).length +
 (winL
 (Sh.int IntKind.u8)
 (0 : Nat) (1 : Nat)
 ((List.replicate
 (1 : Nat)
 (Sh.int
 IntKind.u8).dflt).set
 (0 : Nat)
 (0 :
 Int))).length)
 (List.replicate (0 : Nat)
 (Sh.int
 IntKind.u8).dflt ++
 winL
 (Sh.int IntKind.u8)
 (0 : Nat) x.length
 x ++
 winL (Sh.int IntKind.u8)
 (0 : Nat) (1 : Nat)
 ((List.replicate
 (1 : Nat)
 (Sh.int
 IntKind.u8).dflt).set
 (0 : Nat)
 (0 :
 Int)))))).length -
 Int.toNat (1 : Int))
 (mapI
 (ordB
 (winL (Sh.int IntKind.u8)
 (0 : Nat)
 ((0 : Nat) +
 (winL (Sh.int IntKind.u8)
 (0 : Nat) x.length
 x).length +
 (winL (Sh.int IntKind.u8)
 (0 : Nat) (1 : Nat)
 ((List.replicate
 (1 : Nat)
 (Sh.int
 IntKind.u8).dflt).set
 (0 : Nat)
 (0 : Int))).length)
 (List.replicate (0 : Nat)
 (Sh.int
 IntKind.u8).dflt ++
 winL (Sh.int IntKind.u8)
 (0 : Nat) x.length x ++
 winL (Sh.int IntKind.u8)
 (0 : Nat) (1 : Nat)
 ((List.replicate (1 : Nat)
 (Sh.int
 IntKind.u8).dflt).set
 (0 : Nat)
 (0 : Int)))))) =
 winL (Sh.int IntKind.i64) (0 : Nat)
 (mapI
 (ordB
 (winL (Sh.int IntKind.u8)
 (0 : Nat) x.length
 x))).length
 (mapI
 (ordB
 (winL (Sh.int IntKind.u8)
 (0 : Nat) x.length x)))))
 (Q [SV.bool false]
 [((16 : Nat),
 LB.row (5 : Nat) (Sh.int IntKind.u8) x),
 ((41 : Nat),
 LB.row (5 : Nat) (Sh.int IntKind.u8)
 ((List.replicate (1 : Nat)
 (Sh.int IntKind.u8).dflt).set
 (0 : Nat) (0 : Int))),
 ((42 : Nat),
 LB.row (5 : Nat) (Sh.int IntKind.u8)
 (List.replicate (0 : Nat)
 (Sh.int IntKind.u8).dflt ++
 winL (Sh.int IntKind.u8) (0 : Nat)
 x.length x ++
 winL (Sh.int IntKind.u8) (0 : Nat)
 (1 : Nat)
 ((List.replicate (1 : Nat)
 (Sh.int
 IntKind.u8).dflt).set
 (0 : Nat) (0 : Int)))),
 ((47 : Nat),
 LB.row (5 : Nat) (Sh.int IntKind.u8)
 ((List.replicate (1 : Nat)
 (Sh.int IntKind.u8).dflt).set
 (0 : Nat) c ++
 winL (Sh.int IntKind.u8) (0 : Nat)
 x.length x)),
 ((1147456 : Nat),
 LB.row (3 : Nat) (Sh.int IntKind.i64)
 (mapI
 (ordB
 (winL (Sh.int IntKind.u8)
 (0 : Nat) x.length x)))),
 ((1176128 : Nat),
 LB.row (3 : Nat) (Sh.int IntKind.i64)
 (mapI
 (ordB
 (winL (Sh.int IntKind.u8)
 (0 : Nat)
 ((0 : Nat) +
 (winL (Sh.int IntKind.u8)
 (0 : Nat) x.length
 x).length +
 (winL (Sh.int IntKind.u8)
 (0 : Nat) (1 : Nat)
 ((List.replicate (1 : Nat)
 (Sh.int
 IntKind.u8).dflt).set
 (0 : Nat)
 (0 : Int))).length)
 (List.replicate (0 : Nat)
 (Sh.int
 IntKind.u8).dflt ++
 winL (Sh.int IntKind.u8)
 (0 : Nat) x.length x ++
 winL (Sh.int IntKind.u8)
 (0 : Nat) (1 : Nat)
 ((List.replicate (1 : Nat)
 (Sh.int
 IntKind.u8).dflt).set
 (0 : Nat) (0 : Int))))))),
 ((1200704 : Nat),
 LB.row (3 : Nat) (Sh.int IntKind.i64)
 (mapI
 (ordB
 (winL (Sh.int IntKind.u8)
 (0 : Nat)
 ((1 : Nat) +
 (winL (Sh.int IntKind.u8)
 (0 : Nat) x.length
 x).length)
 ((List.replicate (1 : Nat)
 (Sh.int
 IntKind.u8).dflt).set
 (0 : Nat) c ++
 winL (Sh.int IntKind.u8)
 (0 : Nat) x.length x)))))])
 (R (hd Try.f8 (1 : Nat))
 {
 env :=
 [((0 : Nat),
 SV.sl (Sh.int IntKind.u8) b),
 ((1 : Nat), SV.int IntKind.u8 c),
 ((5 : Nat), SV.bool true),
 ((6 : Nat),
 SV.win true (Sh.int IntKind.u8)
 (16 : Nat) (0 : Nat) x.length),
 ((7 : Nat), SV.int IntKind.i64 i),
 ((8 : Nat),
 SV.win true (Sh.int IntKind.i64)
 (1147456 : Nat) (0 : Nat)
 (mapI
 (ordB
 (winL (Sh.int IntKind.u8)
 (0 : Nat) x.length
 x))).length),
 ((12 : Nat),
 SV.win true (Sh.int IntKind.i64)
 (1200704 : Nat) (0 : Nat)
 (mapI
 (ordB
 (winL (Sh.int IntKind.u8)
 (0 : Nat)
 ((1 : Nat) +
 (winL
 (Sh.int IntKind.u8)
 (0 : Nat) x.length
 x).length)
 ((List.replicate (1 : Nat)
 (Sh.int
 IntKind.u8).dflt).set
 (0 : Nat) c ++
 winL (Sh.int IntKind.u8)
 (0 : Nat) x.length
 x)))).length),
 ((13 : Nat),
 SV.int IntKind.i64 (0 : Int)),
 ((14 : Nat),
 SV.int IntKind.i64 (0 : Int))],
 blk :=
 [((1147456 : Nat),
 LB.row (3 : Nat)
 (Sh.int IntKind.i64)
 (mapI
 (ordB
 (winL (Sh.int IntKind.u8)
 (0 : Nat) x.length x)))),
 ((1200704 : Nat),
 LB.row (3 : Nat)
 (Sh.int IntKind.i64)
 (mapI
 (ordB
 (winL (Sh.int IntKind.u8)
 (0 : Nat)
 ((1 : Nat) +
 (winL (Sh.int IntKind.u8)
 (0 : Nat) x.length
 x).length)
 ((List.replicate (1 : Nat)
 (Sh.int
 IntKind.u8).dflt).set
 (0 : Nat) c ++
 winL (Sh.int IntKind.u8)
 (0 : Nat) x.length
 x)))))] })))))))
 (false = false ∧
 (0 : Nat) + x.length ≤ x.length ∧
 ctSo.pre (winL (Sh.int IntKind.u8) (0 : Nat) x.length x, ()) ∧
 (0 : Nat) + x.length ≤ x.length ∧
 (0 : Nat) = (List.replicate (0 : Nat) (Sh.int IntKind.u8).dflt).length ∧
 (0 : Nat) = (0 : Nat) ∧
 (0 : Nat) +
 (winL
 (Sh.int IntKind.u8)
 (0 : Nat) x.length x).length <
 (2 : Nat) ^ (30 : Nat) ∧
 (1 : Nat) ≤ (2 : Nat) ^ (10 : Nat) ∧
 (0 : Nat) + (1 : Nat) ≤
 ((List.replicate (1 : Nat) (Sh.int IntKind.u8).dflt).set (0 : Nat) (0 : Int)).length ∧
 (0 : Nat) +
 (winL
 (Sh.int IntKind.u8)
 (0 : Nat) x.length x).length =
 (List.replicate (0 : Nat) (Sh.int IntKind.u8).dflt ++
 winL (Sh.int IntKind.u8) (0 : Nat) x.length x).length ∧
 (0 : Nat) = (0 : Nat) ∧
 (0 : Nat) +
 (winL
 (Sh.int IntKind.u8)
 (0 : Nat) x.length x).length +
 (winL
 (Sh.int IntKind.u8)
 (0 : Nat) (1 : Nat)
 ((List.replicate (1 : Nat) (Sh.int IntKind.u8).dflt).set (0 : Nat)
 (0 : Int))).length <
 (2 : Nat) ^ (30 : Nat) ∧
 (1 : Nat) ≤ (2 : Nat) ^ (10 : Nat) ∧
 (0 : Nat) +
 ((0 : Nat) +
 (winL
 (Sh.int IntKind.u8)
 (0 : Nat) x.length x).length +
 (winL
 (Sh.int IntKind.u8)
 (0 : Nat) (1 : Nat)
 ((List.replicate (1 : Nat) (Sh.int IntKind.u8).dflt).set (0 : Nat)
 (0 : Int))).length) ≤
 (List.replicate (0 : Nat) (Sh.int IntKind.u8).dflt ++
 winL (Sh.int IntKind.u8) (0 : Nat) x.length x ++
 winL (Sh.int IntKind.u8) (0 : Nat) (1 : Nat)
 ((List.replicate (1 : Nat) (Sh.int IntKind.u8).dflt).set (0 : Nat)
 (0 : Int))).length ∧
 ctSo.pre
 (winL (Sh.int IntKind.u8) (0 : Nat)
 ((0 : Nat) +
 (winL
 (Sh.int IntKind.u8)
 (0 : Nat) x.length x).length +
 (winL
 (Sh.int IntKind.u8)
 (0 : Nat) (1 : Nat)
 ((List.replicate (1 : Nat) (Sh.int IntKind.u8).dflt).set (0 : Nat)
 (0 : Int))).length)
 (List.replicate (0 : Nat) (Sh.int IntKind.u8).dflt ++
 winL (Sh.int IntKind.u8) (0 : Nat) x.length x ++
 winL (Sh.int IntKind.u8) (0 : Nat) (1 : Nat)
 ((List.replicate (1 : Nat) (Sh.int IntKind.u8).dflt).set (0 : Nat)
 (0 : Int))),
 ()) ∧
 (0 : Nat) + x.length ≤ x.length ∧
 (1 : Nat) =
 ((List.replicate (1 : Nat) (Sh.int IntKind.u8).dflt).set (0 : Nat) c).length ∧
 (0 : Nat) = (0 : Nat) ∧
 (1 : Nat) +
 (winL
 (Sh.int IntKind.u8)
 (0 : Nat) x.length x).length <
 (2 : Nat) ^ (30 : Nat) ∧
 (1 : Nat) ≤ (2 : Nat) ^ (10 : Nat) ∧
 (0 : Nat) +
 ((1 : Nat) +
 (winL
 (Sh.int IntKind.u8)
 (0 : Nat) x.length x).length) ≤
 ((List.replicate (1 : Nat) (Sh.int IntKind.u8).dflt).set (0 : Nat) c ++
 winL (Sh.int IntKind.u8) (0 : Nat) x.length x).length ∧
 ctSo.pre
 (winL (Sh.int IntKind.u8) (0 : Nat)
 ((1 : Nat) +
 (winL
 (Sh.int IntKind.u8)
 (0 : Nat) x.length x).length)
 ((List.replicate (1 : Nat) (Sh.int IntKind.u8).dflt).set (0 : Nat)
 c ++
 winL (Sh.int IntKind.u8) (0 : Nat) x.length x),
 ()) ∧
 bc
 (decide
 ((↑(mapI
 (ordB
 (winL (Sh.int IntKind.u8) (0 : Nat) x.length x))).length :
 Int) ≠
 (↑x.length : Int)))
 (true = true ∧
 true = true ∧
 true = true ∧
 true = true ∧
 Q [SV.bool false]
 [((16 : Nat), LB.row (5 : Nat) (Sh.int IntKind.u8) x),
 ((41 : Nat),
 LB.row (5 : Nat) (Sh.int IntKind.u8)
 ((List.replicate (1 : Nat) (Sh.int IntKind.u8).dflt).set
 (0 : Nat) (0 : Int))),
 ((42 : Nat),
 LB.row (5 : Nat) (Sh.int IntKind.u8)
 (List.replicate (0 : Nat) (Sh.int IntKind.u8).dflt ++
 winL (Sh.int IntKind.u8) (0 : Nat) x.length x ++
 winL (Sh.int IntKind.u8) (0 : Nat) (1 : Nat)
 ((List.replicate (1 : Nat)
 (Sh.int IntKind.u8).dflt).set
 (0 : Nat) (0 : Int)))),
 ((47 : Nat),
 LB.row (5 : Nat) (Sh.int IntKind.u8)
 ((List.replicate (1 : Nat) (Sh.int IntKind.u8).dflt).set
 (0 : Nat) c ++
 winL (Sh.int IntKind.u8) (0 : Nat) x.length x)),
 ((1147456 : Nat),
 LB.row (3 : Nat) (Sh.int IntKind.i64)
 (mapI
 (ordB
 (winL (Sh.int IntKind.u8) (0 : Nat) x.length x)))),
 ((1176128 : Nat),
 LB.row (3 : Nat) (Sh.int IntKind.i64)
 (mapI
 (ordB
 (winL (Sh.int IntKind.u8) (0 : Nat)
 ((0 : Nat) +
 (winL (Sh.int IntKind.u8) (0 : Nat) x.length
 x).length +
 (winL (Sh.int IntKind.u8) (0 : Nat) (1 : Nat)
 ((List.replicate (1 : Nat)
 (Sh.int IntKind.u8).dflt).set
 (0 : Nat) (0 : Int))).length)
 (List.replicate (0 : Nat)
 (Sh.int IntKind.u8).dflt ++
 winL (Sh.int IntKind.u8) (0 : Nat) x.length
 x ++
 winL (Sh.int IntKind.u8) (0 : Nat) (1 : Nat)
 ((List.replicate (1 : Nat)
 (Sh.int IntKind.u8).dflt).set
 (0 : Nat) (0 : Int))))))),
 ((1200704 : Nat),
 LB.row (3 : Nat) (Sh.int IntKind.i64)
 (mapI
 (ordB
 (winL (Sh.int IntKind.u8) (0 : Nat)
 ((1 : Nat) +
 (winL (Sh.int IntKind.u8) (0 : Nat) x.length
 x).length)
 ((List.replicate (1 : Nat)
 (Sh.int IntKind.u8).dflt).set
 (0 : Nat) c ++
 winL (Sh.int IntKind.u8) (0 : Nat) x.length
 x)))))])
 (bc
 (bif false then true
 else
 decide
 ((↑(mapI
 (ordB
 (winL (Sh.int IntKind.u8) (0 : Nat)
 ((0 : Nat) +
 (winL (Sh.int IntKind.u8) (0 : Nat) x.length
 x).length +
 (winL (Sh.int IntKind.u8) (0 : Nat) (1 : Nat)
 ((List.replicate (1 : Nat)
 (Sh.int IntKind.u8).dflt).set
 (0 : Nat) (0 : Int))).length)
 (List.replicate (0 : Nat)
 (Sh.int IntKind.u8).dflt ++
 winL (Sh.int IntKind.u8) (0 : Nat) x.length x ++
 winL (Sh.int IntKind.u8) (0 : Nat) (1 : Nat)
 ((List.replicate (1 : Nat)
 (Sh.int IntKind.u8).dflt).set
 (0 : Nat) (0 : Int)))))).length :
 Int) ≠
 IntKind.i64.wrap ((↑x.length : Int) + (1 : Int))))
 (true = true ∧
 true = true ∧
 true = true ∧
 Q [SV.bool false]
 [((16 : Nat), LB.row (5 : Nat) (Sh.int IntKind.u8) x),
 ((41 : Nat),
 LB.row (5 : Nat) (Sh.int IntKind.u8)
 ((List.replicate (1 : Nat) (Sh.int IntKind.u8).dflt).set
 (0 : Nat) (0 : Int))),
 ((42 : Nat),
 LB.row (5 : Nat) (Sh.int IntKind.u8)
 (List.replicate (0 : Nat) (Sh.int IntKind.u8).dflt ++
 winL (Sh.int IntKind.u8) (0 : Nat) x.length x ++
 winL (Sh.int IntKind.u8) (0 : Nat) (1 : Nat)
 ((List.replicate (1 : Nat)
 (Sh.int IntKind.u8).dflt).set
 (0 : Nat) (0 : Int)))),
 ((47 : Nat),
 LB.row (5 : Nat) (Sh.int IntKind.u8)
 ((List.replicate (1 : Nat) (Sh.int IntKind.u8).dflt).set
 (0 : Nat) c ++
 winL (Sh.int IntKind.u8) (0 : Nat) x.length x)),
 ((1147456 : Nat),
 LB.row (3 : Nat) (Sh.int IntKind.i64)
 (mapI
 (ordB
 (winL (Sh.int IntKind.u8) (0 : Nat) x.length x)))),
 ((1176128 : Nat),
 LB.row (3 : Nat) (Sh.int IntKind.i64)
 (mapI
 (ordB
 (winL (Sh.int IntKind.u8) (0 : Nat)
 ((0 : Nat) +
 (winL (Sh.int IntKind.u8) (0 : Nat) x.length
 x).length +
 (winL (Sh.int IntKind.u8) (0 : Nat) (1 : Nat)
 ((List.replicate (1 : Nat)
 (Sh.int IntKind.u8).dflt).set
 (0 : Nat) (0 : Int))).length)
 (List.replicate (0 : Nat)
 (Sh.int IntKind.u8).dflt ++
 winL (Sh.int IntKind.u8) (0 : Nat) x.length
 x ++
 winL (Sh.int IntKind.u8) (0 : Nat) (1 : Nat)
 ((List.replicate (1 : Nat)
 (Sh.int IntKind.u8).dflt).set
 (0 : Nat) (0 : Int))))))),
 ((1200704 : Nat),
 LB.row (3 : Nat) (Sh.int IntKind.i64)
 (mapI
 (ordB
 (winL (Sh.int IntKind.u8) (0 : Nat)
 ((1 : Nat) +
 (winL (Sh.int IntKind.u8) (0 : Nat) x.length
 x).length)
 ((List.replicate (1 : Nat)
 (Sh.int IntKind.u8).dflt).set
 (0 : Nat) c ++
 winL (Sh.int IntKind.u8) (0 : Nat) x.length
 x)))))])
 (bc
 (bif false then true
 else
 decide
 ((↑(mapI
 (ordB
 (winL (Sh.int IntKind.u8) (0 : Nat)
 ((1 : Nat) +
 (winL (Sh.int IntKind.u8) (0 : Nat) x.length
 x).length)
 ((List.replicate (1 : Nat)
 (Sh.int IntKind.u8).dflt).set
 (0 : Nat) c ++
 winL (Sh.int IntKind.u8) (0 : Nat) x.length
 x)))).length :
 Int) ≠
 IntKind.i64.wrap ((↑x.length : Int) + (1 : Int))))
 (true = true ∧
 true = true ∧
 Q [SV.bool false]
 [((16 : Nat), LB.row (5 : Nat) (Sh.int IntKind.u8) x),
 ((41 : Nat),
 LB.row (5 : Nat) (Sh.int IntKind.u8)
 ((List.replicate (1 : Nat) (Sh.int IntKind.u8).dflt).set
 (0 : Nat) (0 : Int))),
 ((42 : Nat),
 LB.row (5 : Nat) (Sh.int IntKind.u8)
 (List.replicate (0 : Nat) (Sh.int IntKind.u8).dflt ++
 winL (Sh.int IntKind.u8) (0 : Nat) x.length x ++
 winL (Sh.int IntKind.u8) (0 : Nat) (1 : Nat)
 ((List.replicate (1 : Nat)
 (Sh.int IntKind.u8).dflt).set
 (0 : Nat) (0 : Int)))),
 ((47 : Nat),
 LB.row (5 : Nat) (Sh.int IntKind.u8)
 ((List.replicate (1 : Nat) (Sh.int IntKind.u8).dflt).set
 (0 : Nat) c ++
 winL (Sh.int IntKind.u8) (0 : Nat) x.length x)),
 ((1147456 : Nat),
 LB.row (3 : Nat) (Sh.int IntKind.i64)
 (mapI
 (ordB
 (winL (Sh.int IntKind.u8) (0 : Nat) x.length x)))),
 ((1176128 : Nat),
 LB.row (3 : Nat) (Sh.int IntKind.i64)
 (mapI
 (ordB
 (winL (Sh.int IntKind.u8) (0 : Nat)
 ((0 : Nat) +
 (winL (Sh.int IntKind.u8) (0 : Nat) x.length
 x).length +
 (winL (Sh.int IntKind.u8) (0 : Nat) (1 : Nat)
 ((List.replicate (1 : Nat)
 (Sh.int IntKind.u8).dflt).set
 (0 : Nat) (0 : Int))).length)
 (List.replicate (0 : Nat)
 (Sh.int IntKind.u8).dflt ++
 winL (Sh.int IntKind.u8) (0 : Nat) x.length
 x ++
 winL (Sh.int IntKind.u8) (0 : Nat) (1 : Nat)
 ((List.replicate (1 : Nat)
 (Sh.int IntKind.u8).dflt).set
 (0 : Nat) (0 : Int))))))),
 ((1200704 : Nat),
 LB.row (3 : Nat) (Sh.int IntKind.i64)
 (mapI
 (ordB
 (winL (Sh.int IntKind.u8) (0 : Nat)
 ((1 : Nat) +
 (winL (Sh.int IntKind.u8) (0 : Nat) x.length
 x).length)
 ((List.replicate (1 : Nat)
 (Sh.int IntKind.u8).dflt).set
 (0 : Nat) c ++
 winL (Sh.int IntKind.u8) (0 : Nat) x.length
 x)))))])
 ((0 : Int) ≤ (0 : Int) ∧
 (0 : Int) <
 (↑(mapI
 (ordB
 (winL (Sh.int IntKind.u8) (0 : Nat)
 ((0 : Nat) +
 (winL (Sh.int IntKind.u8) (0 : Nat) x.length
 x).length +
 (winL (Sh.int IntKind.u8) (0 : Nat) (1 : Nat)
 ((List.replicate (1 : Nat)
 (Sh.int IntKind.u8).dflt).set
 (0 : Nat) (0 : Int))).length)
 (List.replicate (0 : Nat)
 (Sh.int IntKind.u8).dflt ++
 winL (Sh.int IntKind.u8) (0 : Nat) x.length
 x ++
 winL (Sh.int IntKind.u8) (0 : Nat) (1 : Nat)
 ((List.replicate (1 : Nat)
 (Sh.int IntKind.u8).dflt).set
 (0 : Nat) (0 : Int)))))).length :
 Int) ∧
 (0 : Nat) + Int.toNat (0 : Int) <
 (mapI
 (ordB
 (winL (Sh.int IntKind.u8) (0 : Nat)
 ((0 : Nat) +
 (winL (Sh.int IntKind.u8) (0 : Nat) x.length
 x).length +
 (winL (Sh.int IntKind.u8) (0 : Nat) (1 : Nat)
 ((List.replicate (1 : Nat)
 (Sh.int IntKind.u8).dflt).set
 (0 : Nat) (0 : Int))).length)
 (List.replicate (0 : Nat)
 (Sh.int IntKind.u8).dflt ++
 winL (Sh.int IntKind.u8) (0 : Nat) x.length x ++
 winL (Sh.int IntKind.u8) (0 : Nat) (1 : Nat)
 ((List.replicate (1 : Nat)
 (Sh.int IntKind.u8).dflt).set
 (0 : Nat) (0 : Int)))))).length ∧
 bc
 (bif false then true
 else
 decide
 (gt (Sh.int IntKind.i64)
 (mapI
 (ordB
 (winL (Sh.int IntKind.u8) (0 : Nat)
 ((0 : Nat) +
 (winL (Sh.int IntKind.u8) (0 : Nat)
 x.length x).length +
 (winL (Sh.int IntKind.u8) (0 : Nat)
 (1 : Nat)
 ((List.replicate (1 : Nat)
 (Sh.int IntKind.u8).dflt).set
 (0 : Nat) (0 : Int))).length)
 (List.replicate (0 : Nat)
 (Sh.int IntKind.u8).dflt ++
 winL (Sh.int IntKind.u8) (0 : Nat)
 x.length x ++
 winL (Sh.int IntKind.u8) (0 : Nat) (1 : Nat)
 ((List.replicate (1 : Nat)
 (Sh.int IntKind.u8).dflt).set
 (0 : Nat) (0 : Int))))))
 ((0 : Nat) + Int.toNat (0 : Int)) ≠
 (↑x.length : Int)))
 (true = true ∧
 Q [SV.bool false]
 [((16 : Nat), LB.row (5 : Nat) (Sh.int IntKind.u8) x),
 ((41 : Nat),
 LB.row (5 : Nat) (Sh.int IntKind.u8)
 ((List.replicate (1 : Nat)
 (Sh.int IntKind.u8).dflt).set
 (0 : Nat) (0 : Int))),
 ((42 : Nat),
 LB.row (5 : Nat) (Sh.int IntKind.u8)
 (List.replicate (0 : Nat)
 (Sh.int IntKind.u8).dflt ++
 winL (Sh.int IntKind.u8) (0 : Nat) x.length
 x ++
 winL (Sh.int IntKind.u8) (0 : Nat) (1 : Nat)
 ((List.replicate (1 : Nat)
 (Sh.int IntKind.u8).dflt).set
 (0 : Nat) (0 : Int)))),
 ((47 : Nat),
 LB.row (5 : Nat) (Sh.int IntKind.u8)
 ((List.replicate (1 : Nat)
 (Sh.int IntKind.u8).dflt).set
 (0 : Nat) c ++
 winL (Sh.int IntKind.u8) (0 : Nat) x.length x)),
 ((1147456 : Nat),
 LB.row (3 : Nat) (Sh.int IntKind.i64)
 (mapI
 (ordB
 (winL (Sh.int IntKind.u8) (0 : Nat) x.length
 x)))),
 ((1176128 : Nat),
 LB.row (3 : Nat) (Sh.int IntKind.i64)
 (mapI
 (ordB
 (winL (Sh.int IntKind.u8) (0 : Nat)
 ((0 : Nat) +
 (winL (Sh.int IntKind.u8) (0 : Nat)
 x.length x).length +
 (winL (Sh.int IntKind.u8) (0 : Nat)
 (1 : Nat)
 ((List.replicate (1 : Nat)
 (Sh.int IntKind.u8).dflt).set
 (0 : Nat) (0 : Int))).length)
 (List.replicate (0 : Nat)
 (Sh.int IntKind.u8).dflt ++
 winL (Sh.int IntKind.u8) (0 : Nat)
 x.length x ++
 winL (Sh.int IntKind.u8) (0 : Nat)
 (1 : Nat)
 ((List.replicate (1 : Nat)
 (Sh.int IntKind.u8).dflt).set
 (0 : Nat) (0 : Int))))))),
 ((1200704 : Nat),
 LB.row (3 : Nat) (Sh.int IntKind.i64)
 (mapI
 (ordB
 (winL (Sh.int IntKind.u8) (0 : Nat)
 ((1 : Nat) +
 (winL (Sh.int IntKind.u8) (0 : Nat)
 x.length x).length)
 ((List.replicate (1 : Nat)
 (Sh.int IntKind.u8).dflt).set
 (0 : Nat) c ++
 winL (Sh.int IntKind.u8) (0 : Nat)
 x.length x)))))])
 ((0 : Int) ≤ (1 : Int) ∧
 (1 : Int) ≤
 (↑(mapI
 (ordB
 (winL (Sh.int IntKind.u8) (0 : Nat)
 ((0 : Nat) +
 (winL (Sh.int IntKind.u8) (0 : Nat)
 x.length x).length +
 (winL (Sh.int IntKind.u8) (0 : Nat)
 (1 : Nat)
 ((List.replicate (1 : Nat)
 (Sh.int IntKind.u8).dflt).set
 (0 : Nat) (0 : Int))).length)
 (List.replicate (0 : Nat)
 (Sh.int IntKind.u8).dflt ++
 winL (Sh.int IntKind.u8) (0 : Nat)
 x.length x ++
 winL (Sh.int IntKind.u8) (0 : Nat)
 (1 : Nat)
 ((List.replicate (1 : Nat)
 (Sh.int IntKind.u8).dflt).set
 (0 : Nat) (0 : Int)))))).length :
 Int) ∧
 (0 : Nat) +
 (mapI
 (ordB
 (winL (Sh.int IntKind.u8) (0 : Nat)
 ((0 : Nat) +
 (winL (Sh.int IntKind.u8) (0 : Nat)
 x.length x).length +
 (winL (Sh.int IntKind.u8) (0 : Nat)
 (1 : Nat)
 ((List.replicate (1 : Nat)
 (Sh.int IntKind.u8).dflt).set
 (0 : Nat) (0 : Int))).length)
 (List.replicate (0 : Nat)
 (Sh.int IntKind.u8).dflt ++
 winL (Sh.int IntKind.u8) (0 : Nat)
 x.length x ++
 winL (Sh.int IntKind.u8) (0 : Nat)
 (1 : Nat)
 ((List.replicate (1 : Nat)
 (Sh.int IntKind.u8).dflt).set
 (0 : Nat) (0 : Int)))))).length ≤
 (mapI
 (ordB
 (winL (Sh.int IntKind.u8) (0 : Nat)
 ((0 : Nat) +
 (winL (Sh.int IntKind.u8) (0 : Nat)
 x.length x).length +
 (winL (Sh.int IntKind.u8) (0 : Nat)
 (1 : Nat)
 ((List.replicate (1 : Nat)
 (Sh.int IntKind.u8).dflt).set
 (0 : Nat) (0 : Int))).length)
 (List.replicate (0 : Nat)
 (Sh.int IntKind.u8).dflt ++
 winL (Sh.int IntKind.u8) (0 : Nat)
 x.length x ++
 winL (Sh.int IntKind.u8) (0 : Nat)
 (1 : Nat)
 ((List.replicate (1 : Nat)
 (Sh.int IntKind.u8).dflt).set
 (0 : Nat) (0 : Int)))))).length ∧
 (0 : Nat) + Int.toNat (1 : Int) +
 ((mapI
 (ordB
 (winL (Sh.int IntKind.u8) (0 : Nat)
 ((0 : Nat) +
 (winL (Sh.int IntKind.u8)
 (0 : Nat) x.length x).length +
 (winL (Sh.int IntKind.u8) (0 : Nat)
 (1 : Nat)
 ((List.replicate (1 : Nat)
 (Sh.int
 IntKind.u8).dflt).set
 (0 : Nat) (0 : Int))).length)
 (List.replicate (0 : Nat)
 (Sh.int IntKind.u8).dflt ++
 winL (Sh.int IntKind.u8) (0 : Nat)
 x.length x ++
 winL (Sh.int IntKind.u8) (0 : Nat)
 (1 : Nat)
 ((List.replicate (1 : Nat)
 (Sh.int
 IntKind.u8).dflt).set
 (0 : Nat)
 (0 : Int)))))).length -
 Int.toNat (1 : Int)) ≤
 (mapI
 (ordB
 (winL (Sh.int IntKind.u8) (0 : Nat)
 ((0 : Nat) +
 (winL (Sh.int IntKind.u8) (0 : Nat)
 x.length x).length +
 (winL (Sh.int IntKind.u8) (0 : Nat)
 (1 : Nat)
 ((List.replicate (1 : Nat)
 (Sh.int IntKind.u8).dflt).set
 (0 : Nat) (0 : Int))).length)
 (List.replicate (0 : Nat)
 (Sh.int IntKind.u8).dflt ++
 winL (Sh.int IntKind.u8) (0 : Nat)
 x.length x ++
 winL (Sh.int IntKind.u8) (0 : Nat)
 (1 : Nat)
 ((List.replicate (1 : Nat)
 (Sh.int IntKind.u8).dflt).set
 (0 : Nat) (0 : Int)))))).length ∧
 (0 : Nat) +
 (mapI
 (ordB
 (winL (Sh.int IntKind.u8) (0 : Nat)
 x.length x))).length ≤
 (mapI
 (ordB
 (winL (Sh.int IntKind.u8) (0 : Nat)
 x.length x))).length ∧
 ctInts.pre
 (winL (Sh.int IntKind.i64)
 ((0 : Nat) + Int.toNat (1 : Int))
 ((mapI
 (ordB
 (winL (Sh.int IntKind.u8)
 (0 : Nat)
 ((0 : Nat) +
 (winL (Sh.int IntKind.u8)
 (0 : Nat) x.length
 x).length +
 (winL (Sh.int IntKind.u8)
 (0 : Nat) (1 : Nat)
 ((List.replicate (1 : Nat)
 (Sh.int
 IntKind.u8).dflt).set
 (0 : Nat)
 (0 : Int))).length)
 (List.replicate (0 : Nat)
 (Sh.int
 IntKind.u8).dflt ++
 winL (Sh.int IntKind.u8)
 (0 : Nat) x.length x ++
 winL (Sh.int IntKind.u8)
 (0 : Nat) (1 : Nat)
 ((List.replicate (1 : Nat)
 (Sh.int
 IntKind.u8).dflt).set
 (0 : Nat)
 (0 : Int)))))).length -
 Int.toNat (1 : Int))
 (mapI
 (ordB
 (winL (Sh.int IntKind.u8) (0 : Nat)
 ((0 : Nat) +
 (winL (Sh.int IntKind.u8)
 (0 : Nat) x.length
 x).length +
 (winL (Sh.int IntKind.u8)
 (0 : Nat) (1 : Nat)
 ((List.replicate (1 : Nat)
 (Sh.int
 IntKind.u8).dflt).set
 (0 : Nat)
 (0 : Int))).length)
 (List.replicate (0 : Nat)
 (Sh.int IntKind.u8).dflt ++
 winL (Sh.int IntKind.u8)
 (0 : Nat) x.length x ++
 winL (Sh.int IntKind.u8) (0 : Nat)
 (1 : Nat)
 ((List.replicate (1 : Nat)
 (Sh.int
 IntKind.u8).dflt).set
 (0 : Nat) (0 : Int)))))),
 winL (Sh.int IntKind.i64) (0 : Nat)
 (mapI
 (ordB
 (winL (Sh.int IntKind.u8) (0 : Nat)
 x.length x))).length
 (mapI
 (ordB
 (winL (Sh.int IntKind.u8) (0 : Nat)
 x.length x))),
 ()) ∧
 bc
 (bif false then true
 else
 !decide
 (winL (Sh.int IntKind.i64)
 ((0 : Nat) + Int.toNat (1 : Int))
 ((mapI
 (ordB
 (winL (Sh.int IntKind.u8)
 (0 : Nat)
 ((0 : Nat) +
 (winL
 (Sh.int
 IntKind.u8)
 (0 : Nat) x.length
 x).length +
 (winL
 (Sh.int IntKind.u8)
 (0 : Nat) (1 : Nat)
 ((List.replicate
 (1 : Nat)
 (Sh.int
 IntKind.u8).dflt).set
 (0 : Nat)
 (0 :
 Int))).length)
 (List.replicate (0 : Nat)
 (Sh.int
 IntKind.u8).dflt ++
 winL
 (Sh.int IntKind.u8)
 (0 : Nat) x.length
 x ++
 winL (Sh.int IntKind.u8)
 (0 : Nat) (1 : Nat)
 ((List.replicate
 (1 : Nat)
 (Sh.int
 IntKind.u8).dflt).set
 (0 : Nat)
 (0 :
 Int)))))).length -
 Int.toNat (1 : Int))
 (mapI
 (ordB
 (winL (Sh.int IntKind.u8)
 (0 : Nat)
 ((0 : Nat) +
 (winL (Sh.int IntKind.u8)
 (0 : Nat) x.length
 x).length +
 (winL (Sh.int IntKind.u8)
 (0 : Nat) (1 : Nat)
 ((List.replicate
 (1 : Nat)
 (Sh.int
 IntKind.u8).dflt).set
 (0 : Nat)
 (0 : Int))).length)
 (List.replicate (0 : Nat)
 (Sh.int
 IntKind.u8).dflt ++
 winL (Sh.int IntKind.u8)
 (0 : Nat) x.length x ++
 winL (Sh.int IntKind.u8)
 (0 : Nat) (1 : Nat)
 ((List.replicate (1 : Nat)
 (Sh.int
 IntKind.u8).dflt).set
 (0 : Nat)
 (0 : Int)))))) =
 winL (Sh.int IntKind.i64) (0 : Nat)
 (mapI
 (ordB
 (winL (Sh.int IntKind.u8)
 (0 : Nat) x.length
 x))).length
 (mapI
 (ordB
 (winL (Sh.int IntKind.u8)
 (0 : Nat) x.length x)))))
 (Q [SV.bool false]
 [((16 : Nat),
 LB.row (5 : Nat) (Sh.int IntKind.u8) x),
 ((41 : Nat),
 LB.row (5 : Nat) (Sh.int IntKind.u8)
 ((List.replicate (1 : Nat)
 (Sh.int IntKind.u8).dflt).set
 (0 : Nat) (0 : Int))),
 ((42 : Nat),
 LB.row (5 : Nat) (Sh.int IntKind.u8)
 (List.replicate (0 : Nat)
 (Sh.int IntKind.u8).dflt ++
 winL (Sh.int IntKind.u8) (0 : Nat)
 x.length x ++
 winL (Sh.int IntKind.u8) (0 : Nat)
 (1 : Nat)
 ((List.replicate (1 : Nat)
 (Sh.int
 IntKind.u8).dflt).set
 (0 : Nat) (0 : Int)))),
 ((47 : Nat),
 LB.row (5 : Nat) (Sh.int IntKind.u8)
 ((List.replicate (1 : Nat)
 (Sh.int IntKind.u8).dflt).set
 (0 : Nat) c ++
 winL (Sh.int IntKind.u8) (0 : Nat)
 x.length x)),
 ((1147456 : Nat),
 LB.row (3 : Nat) (Sh.int IntKind.i64)
 (mapI
 (ordB
 (winL (Sh.int IntKind.u8)
 (0 : Nat) x.length x)))),
 ((1176128 : Nat),
 LB.row (3 : Nat) (Sh.int IntKind.i64)
 (mapI
 (ordB
 (winL (Sh.int IntKind.u8)
 (0 : Nat)
 ((0 : Nat) +
 (winL (Sh.int IntKind.u8)
 (0 : Nat) x.length
 x).length +
 (winL (Sh.int IntKind.u8)
 (0 : Nat) (1 : Nat)
 ((List.replicate (1 : Nat)
 (Sh.int
 IntKind.u8).dflt).set
 (0 : Nat)
 (0 : Int))).length)
 (List.replicate (0 : Nat)
 (Sh.int
 IntKind.u8).dflt ++
 winL (Sh.int IntKind.u8)
 (0 : Nat) x.length x ++
 winL (Sh.int IntKind.u8)
 (0 : Nat) (1 : Nat)
 ((List.replicate (1 : Nat)
 (Sh.int
 IntKind.u8).dflt).set
 (0 : Nat) (0 : Int))))))),
 ((1200704 : Nat),
 LB.row (3 : Nat) (Sh.int IntKind.i64)
 (mapI
 (ordB
 (winL (Sh.int IntKind.u8)
 (0 : Nat)
 ((1 : Nat) +
 (winL (Sh.int IntKind.u8)
 (0 : Nat) x.length
 x).length)
 ((List.replicate (1 : Nat)
 (Sh.int
 IntKind.u8).dflt).set
 (0 : Nat) c ++
 winL (Sh.int IntKind.u8)
 (0 : Nat) x.length x)))))])
 (R (hd Try.f8 (1 : Nat))
 {
 env :=
 [((0 : Nat),
 SV.sl (Sh.int IntKind.u8) b),
 ((1 : Nat), SV.int IntKind.u8 c),
 ((5 : Nat), SV.bool true),
 ((6 : Nat),
 SV.win true (Sh.int IntKind.u8)
 (16 : Nat) (0 : Nat) x.length),
 ((7 : Nat), SV.int IntKind.i64 i),
 ((8 : Nat),
 SV.win true (Sh.int IntKind.i64)
 (1147456 : Nat) (0 : Nat)
 (mapI
 (ordB
 (winL (Sh.int IntKind.u8)
 (0 : Nat) x.length
 x))).length),
 ((12 : Nat),
 SV.win true (Sh.int IntKind.i64)
 (1200704 : Nat) (0 : Nat)
 (mapI
 (ordB
 (winL (Sh.int IntKind.u8)
 (0 : Nat)
 ((1 : Nat) +
 (winL
 (Sh.int IntKind.u8)
 (0 : Nat) x.length
 x).length)
 ((List.replicate (1 : Nat)
 (Sh.int
 IntKind.u8).dflt).set
 (0 : Nat) c ++
 winL (Sh.int IntKind.u8)
 (0 : Nat) x.length
 x)))).length),
 ((13 : Nat),
 SV.int IntKind.i64 (0 : Int)),
 ((14 : Nat),
 SV.int IntKind.i64 (0 : Int))],
 blk :=
 [((1147456 : Nat),
 LB.row (3 : Nat)
 (Sh.int IntKind.i64)
 (mapI
 (ordB
 (winL (Sh.int IntKind.u8)
 (0 : Nat) x.length x)))),
 ((1200704 : Nat),
 LB.row (3 : Nat)
 (Sh.int IntKind.i64)
 (mapI
 (ordB
 (winL (Sh.int IntKind.u8)
 (0 : Nat)
 ((1 : Nat) +
 (winL (Sh.int IntKind.u8)
 (0 : Nat) x.length
 x).length)
 ((List.replicate (1 : Nat)
 (Sh.int
 IntKind.u8).dflt).set
 (0 : Nat) c ++
 winL (Sh.int IntKind.u8)
 (0 : Nat) x.length
 x)))))] }))))))) := by kernel_rfl
theorem vc_law8B (o p : List Int) (j i : Int) (Q : List SV → List (Nat × LB) → Prop) (R : List Item → PS → Prop) : sy tt G0 D7 Try.f8.ntmps Try.f8.results.toList Q (fun it S => R it (keepS [5, 8, 12, 13, 14] [1147456, 1200704] S)) 1000 (hd Try.f8 1) ⟨[(5, .bool true), (8, .win true (.int .i64) 1147456 0 o.length), (12, .win true (.int .i64) 1200704 0 p.length), (13, .int .i64 j), (14, .int .i64 i)], [(1147456, .row 3 (.int .i64) o), (1200704, .row 3 (.int .i64) p)]⟩ =
    (bc (decide (i < (↑p.length : Int)))
 ((0 : Int) ≤ i ∧
 i < (↑p.length : Int) ∧
 (0 : Nat) + i.toNat < p.length ∧
 bc (decide (gt (Sh.int IntKind.i64) p ((0 : Nat) + i.toNat) = (0 : Int)))
 (R (hd Try.f8 (1 : Nat))
 {
 env :=
 [((5 : Nat), SV.bool true),
 ((8 : Nat), SV.win true (Sh.int IntKind.i64) (1147456 : Nat) (0 : Nat) o.length),
 ((12 : Nat), SV.win true (Sh.int IntKind.i64) (1200704 : Nat) (0 : Nat) p.length),
 ((13 : Nat), SV.int IntKind.i64 j),
 ((14 : Nat), SV.int IntKind.i64 (IntKind.i64.wrap (i + (1 : Int))))],
 blk :=
 [((1147456 : Nat), LB.row (3 : Nat) (Sh.int IntKind.i64) o),
 ((1200704 : Nat), LB.row (3 : Nat) (Sh.int IntKind.i64) p)] })
 (bc (decide ((↑o.length : Int) ≤ j))
 (true = true ∧
 Q [SV.bool false]
 [((1147456 : Nat), LB.row (3 : Nat) (Sh.int IntKind.i64) o),
 ((1200704 : Nat), LB.row (3 : Nat) (Sh.int IntKind.i64) p)])
 ((0 : Int) ≤ i ∧
 i < (↑p.length : Int) ∧
 (0 : Nat) + i.toNat < p.length ∧
 (0 : Int) ≤ j ∧
 j < (↑o.length : Int) ∧
 (0 : Nat) + j.toNat < o.length ∧
 bc
 (bif false then true
 else
 decide
 (gt (Sh.int IntKind.i64) p ((0 : Nat) + i.toNat) ≠
 IntKind.i64.wrap (gt (Sh.int IntKind.i64) o ((0 : Nat) + j.toNat) + (1 : Int))))
 (Q [SV.bool false]
 [((1147456 : Nat), LB.row (3 : Nat) (Sh.int IntKind.i64) o),
 ((1200704 : Nat), LB.row (3 : Nat) (Sh.int IntKind.i64) p)])
 (R (hd Try.f8 (1 : Nat))
 {
 env :=
 [((5 : Nat), SV.bool true),
 ((8 : Nat), SV.win true (Sh.int IntKind.i64) (1147456 : Nat) (0 : Nat) o.length),
 ((12 : Nat), SV.win true (Sh.int IntKind.i64) (1200704 : Nat) (0 : Nat) p.length),
 ((13 : Nat), SV.int IntKind.i64 (IntKind.i64.wrap (j + (1 : Int)))),
 ((14 : Nat), SV.int IntKind.i64 (IntKind.i64.wrap (i + (1 : Int))))],
 blk :=
 [((1147456 : Nat), LB.row (3 : Nat) (Sh.int IntKind.i64) o),
 ((1200704 : Nat), LB.row (3 : Nat) (Sh.int IntKind.i64) p)] }))))
 (Q [SV.bool (bif true then decide (j = (↑o.length : Int)) else false)]
 [((1147456 : Nat), LB.row (3 : Nat) (Sh.int IntKind.i64) o),
 ((1200704 : Nat), LB.row (3 : Nat) (Sh.int IntKind.i64) p)])) := by kernel_rfl
end Go.Proofs.Ytijeaicbnfiegaa
