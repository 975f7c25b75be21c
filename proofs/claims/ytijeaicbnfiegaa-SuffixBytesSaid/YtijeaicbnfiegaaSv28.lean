/-
  A part of the proof: what a piece of the program gives; conditions: those of each theorem.
-/
import Derived.Test.YtijeaicbnfiegaaSc27
set_option linter.unusedVariables false
namespace Go.Proofs.Ytijeaicbnfiegaa
open Go.Px Go.Ax
set_option maxRecDepth 100000
theorem vc_law9 (b : List Int) (m s : Int) (Q : List SV → List (Nat × LB) → Prop) (R : List Item → PS → Prop) : sy tt G0 D7 Try.f9.ntmps Try.f9.results.toList Q (fun it S => R it (keepS [0, 2, 7, 8, 9, 10, 11] [16, 17] S)) 1000 [.code (bodyOf Try.f9)] (entry [slB, .int .u8, .int .u8] (b, m, s, ())) =
    (ctSan.pre () ∧
 (2 : Int) ≠ (0 : Int) ∧
 R (hd Try.f9 (0 : Nat))
 {
 env :=
 [((0 : Nat), SV.sl (Sh.int IntKind.u8) b), ((2 : Nat), SV.int IntKind.u8 s), ((7 : Nat), SV.bool true),
 ((8 : Nat), SV.win true (Sh.int IntKind.u8) (16 : Nat) (0 : Nat) (0 : Nat)),
 ((9 : Nat), SV.win true (Sh.int IntKind.u8) (17 : Nat) (0 : Nat) (0 : Nat)),
 ((10 : Nat), SV.int IntKind.u8 (IntKind.u8.wrap ((1 : Int) + m.tmod (2 : Int)))),
 ((11 : Nat), SV.int IntKind.i64 (0 : Int))],
 blk :=
 [((16 : Nat), LB.row (5 : Nat) (Sh.int IntKind.u8) (List.replicate (0 : Nat) (Sh.int IntKind.u8).dflt)),
 ((17 : Nat), LB.row (5 : Nat) (Sh.int IntKind.u8) (List.replicate (0 : Nat) (Sh.int IntKind.u8).dflt))] }) := by kernel_rfl
theorem vc_law9L (b x y : List Int) (s m i : Int) (Q : List SV → List (Nat × LB) → Prop) (R : List Item → PS → Prop) : sy tt G0 D7 Try.f9.ntmps Try.f9.results.toList Q (fun it S => R it (keepS [0, 2, 7, 8, 9, 10, 11] [39, 48] S)) 1000 (hd Try.f9 0) ⟨[(0, .sl (.int .u8) b), (2, .int .u8 s), (7, .bool true), (8, .win true (.int .u8) 16 0 x.length), (9, .win true (.int .u8) 17 0 y.length), (10, .int .u8 m), (11, .int .i64 i)], [(16, .row 5 (.int .u8) x), (17, .row 5 (.int .u8) y)]⟩ =
    (bc (decide (i < (↑b.length : Int)))
 (bc (bif true then decide (i < (200 : Int)) else false)
 ((0 : Int) ≤ i ∧
 i < (↑b.length : Int) ∧
 (100 : Int) ≠ (0 : Int) ∧
 (0 : Nat) + (1 : Nat) ≤
 ((List.replicate (1 : Nat) (Sh.int IntKind.u8).dflt).set (0 : Nat)
 (Int.tmod (gt (Sh.int IntKind.u8) b i.toNat) (100 : Int))).length ∧
 x.length = x.length ∧
 (0 : Nat) = (0 : Nat) ∧
 x.length +
 (winL
 ((fun self => self.6)
 (mkT (1 : Nat) (1 : Nat) false (TK.int IntKind.u8) (Sh.int IntKind.u8) none))
 (0 : Nat) (1 : Nat)
 ((List.replicate (1 : Nat) (Sh.int IntKind.u8).dflt).set (0 : Nat)
 (Int.tmod (gt (Sh.int IntKind.u8) b i.toNat) (100 : Int)))).length <
 (2 : Nat) ^ (30 : Nat) ∧
 (1 : Nat) ≤ (2 : Nat) ^ (10 : Nat) ∧
 (56 : Int) ≠ (0 : Int) ∧
 (0 : Nat) + (1 : Nat) ≤
 ((List.replicate (1 : Nat) (Sh.int IntKind.u8).dflt).set (0 : Nat)
 (IntKind.u8.wrap
 (IntKind.u8.wrap (m * Int.tmod (gt (Sh.int IntKind.u8) b i.toNat) (100 : Int)) +
 s.tmod (56 : Int)))).length ∧
 y.length = y.length ∧
 (0 : Nat) = (0 : Nat) ∧
 y.length +
 (winL
 ((fun self => self.6)
 (mkT (1 : Nat) (1 : Nat) false (TK.int IntKind.u8) (Sh.int IntKind.u8) none))
 (0 : Nat) (1 : Nat)
 ((List.replicate (1 : Nat) (Sh.int IntKind.u8).dflt).set (0 : Nat)
 (IntKind.u8.wrap
 (IntKind.u8.wrap
 (m * Int.tmod (gt (Sh.int IntKind.u8) b i.toNat) (100 : Int)) +
 s.tmod (56 : Int))))).length <
 (2 : Nat) ^ (30 : Nat) ∧
 (1 : Nat) ≤ (2 : Nat) ^ (10 : Nat) ∧
 R (hd Try.f9 (0 : Nat))
 {
 env :=
 [((0 : Nat), SV.sl (Sh.int IntKind.u8) b), ((2 : Nat), SV.int IntKind.u8 s),
 ((7 : Nat), SV.bool true),
 ((8 : Nat),
 SV.win true (Sh.int IntKind.u8) (39 : Nat) (0 : Nat)
 (x.length +
 (winL
 ((fun self => self.6)
 (mkT (1 : Nat) (1 : Nat) false (TK.int IntKind.u8)
 (Sh.int IntKind.u8) none))
 (0 : Nat) (1 : Nat)
 ((List.replicate (1 : Nat) (Sh.int IntKind.u8).dflt).set (0 : Nat)
 (Int.tmod (gt (Sh.int IntKind.u8) b i.toNat)
 (100 : Int)))).length)),
 ((9 : Nat),
 SV.win true (Sh.int IntKind.u8) (48 : Nat) (0 : Nat)
 (y.length +
 (winL
 ((fun self => self.6)
 (mkT (1 : Nat) (1 : Nat) false (TK.int IntKind.u8)
 (Sh.int IntKind.u8) none))
 (0 : Nat) (1 : Nat)
 ((List.replicate (1 : Nat) (Sh.int IntKind.u8).dflt).set (0 : Nat)
 (IntKind.u8.wrap
 (IntKind.u8.wrap
 (m *
 Int.tmod (gt (Sh.int IntKind.u8) b i.toNat) (100 : Int)) +
 s.tmod (56 : Int))))).length)),
 ((10 : Nat), SV.int IntKind.u8 m),
 ((11 : Nat), SV.int IntKind.i64 (IntKind.i64.wrap (i + (1 : Int))))],
 blk :=
 [((39 : Nat),
 LB.row (5 : Nat) (Sh.int IntKind.u8)
 (x ++
 winL (Sh.int IntKind.u8) (0 : Nat) (1 : Nat)
 ((List.replicate (1 : Nat) (Sh.int IntKind.u8).dflt).set (0 : Nat)
 (Int.tmod (gt (Sh.int IntKind.u8) b i.toNat) (100 : Int))))),
 ((48 : Nat),
 LB.row (5 : Nat) (Sh.int IntKind.u8)
 (y ++
 winL (Sh.int IntKind.u8) (0 : Nat) (1 : Nat)
 ((List.replicate (1 : Nat) (Sh.int IntKind.u8).dflt).set (0 : Nat)
 (IntKind.u8.wrap
 (IntKind.u8.wrap
 (m * Int.tmod (gt (Sh.int IntKind.u8) b i.toNat) (100 : Int)) +
 s.tmod (56 : Int))))))] })
 ((0 : Nat) + x.length ≤ x.length ∧
 ctSo.pre (winL (Sh.int IntKind.u8) (0 : Nat) x.length x, ()) ∧
 (0 : Nat) + y.length ≤ y.length ∧
 ctSo.pre (winL (Sh.int IntKind.u8) (0 : Nat) y.length y, ()) ∧
 (0 : Nat) + (mapI (ordB (winL (Sh.int IntKind.u8) (0 : Nat) x.length x))).length ≤
 (mapI (ordB (winL (Sh.int IntKind.u8) (0 : Nat) x.length x))).length ∧
 (0 : Nat) + (mapI (ordB (winL (Sh.int IntKind.u8) (0 : Nat) y.length y))).length ≤
 (mapI (ordB (winL (Sh.int IntKind.u8) (0 : Nat) y.length y))).length ∧
 ctInts.pre
 (winL (Sh.int IntKind.i64) (0 : Nat)
 (mapI (ordB (winL (Sh.int IntKind.u8) (0 : Nat) x.length x))).length
 (mapI (ordB (winL (Sh.int IntKind.u8) (0 : Nat) x.length x))),
 winL (Sh.int IntKind.i64) (0 : Nat)
 (mapI (ordB (winL (Sh.int IntKind.u8) (0 : Nat) y.length y))).length
 (mapI (ordB (winL (Sh.int IntKind.u8) (0 : Nat) y.length y))),
 ()) ∧
 bc
 (bif true then
 decide
 (winL (Sh.int IntKind.i64) (0 : Nat)
 (mapI (ordB (winL (Sh.int IntKind.u8) (0 : Nat) x.length x))).length
 (mapI (ordB (winL (Sh.int IntKind.u8) (0 : Nat) x.length x))) =
 winL (Sh.int IntKind.i64) (0 : Nat)
 (mapI (ordB (winL (Sh.int IntKind.u8) (0 : Nat) y.length y))).length
 (mapI (ordB (winL (Sh.int IntKind.u8) (0 : Nat) y.length y))))
 else false)
 (bc
 (bif true then
 decide
 ((↑(mapI (ordB (winL (Sh.int IntKind.u8) (0 : Nat) x.length x))).length : Int) =
 (↑x.length : Int))
 else false)
 ((0 : Nat) + (mapI (ordB (winL (Sh.int IntKind.u8) (0 : Nat) x.length x))).length ≤
 (mapI (ordB (winL (Sh.int IntKind.u8) (0 : Nat) x.length x))).length ∧
 ctIsP.pre
 (winL (Sh.int IntKind.i64) (0 : Nat)
 (mapI (ordB (winL (Sh.int IntKind.u8) (0 : Nat) x.length x))).length
 (mapI (ordB (winL (Sh.int IntKind.u8) (0 : Nat) x.length x))),
 ()) ∧
 (0 : Nat) + x.length ≤ x.length ∧
 (0 : Nat) + (mapI (ordB (winL (Sh.int IntKind.u8) (0 : Nat) x.length x))).length ≤
 (mapI (ordB (winL (Sh.int IntKind.u8) (0 : Nat) x.length x))).length ∧
 ctCom.pre
 (winL (Sh.int IntKind.u8) (0 : Nat) x.length x,
 winL (Sh.int IntKind.i64) (0 : Nat)
 (mapI (ordB (winL (Sh.int IntKind.u8) (0 : Nat) x.length x))).length
 (mapI (ordB (winL (Sh.int IntKind.u8) (0 : Nat) x.length x))),
 ()) ∧
 (0 : Nat) + y.length ≤ y.length ∧
 (0 : Nat) + (mapI (ordB (winL (Sh.int IntKind.u8) (0 : Nat) x.length x))).length ≤
 (mapI (ordB (winL (Sh.int IntKind.u8) (0 : Nat) x.length x))).length ∧
 ctCom.pre
 (winL (Sh.int IntKind.u8) (0 : Nat) y.length y,
 winL (Sh.int IntKind.i64) (0 : Nat)
 (mapI (ordB (winL (Sh.int IntKind.u8) (0 : Nat) x.length x))).length
 (mapI (ordB (winL (Sh.int IntKind.u8) (0 : Nat) x.length x))),
 ()) ∧
 (0 : Nat) +
 (comV (winL (Sh.int IntKind.u8) (0 : Nat) x.length x)
 (natsOf
 (winL (Sh.int IntKind.i64) (0 : Nat)
 (mapI (ordB (winL (Sh.int IntKind.u8) (0 : Nat) x.length x))).length
 (mapI
 (ordB
 (winL (Sh.int IntKind.u8) (0 : Nat) x.length x)))))).length ≤
 (comV (winL (Sh.int IntKind.u8) (0 : Nat) x.length x)
 (natsOf
 (winL (Sh.int IntKind.i64) (0 : Nat)
 (mapI (ordB (winL (Sh.int IntKind.u8) (0 : Nat) x.length x))).length
 (mapI
 (ordB (winL (Sh.int IntKind.u8) (0 : Nat) x.length x)))))).length ∧
 (0 : Nat) +
 (comV (winL (Sh.int IntKind.u8) (0 : Nat) y.length y)
 (natsOf
 (winL (Sh.int IntKind.i64) (0 : Nat)
 (mapI
 (ordB (winL (Sh.int IntKind.u8) (0 : Nat) x.length x))).length
 (mapI
 (ordB
 (winL (Sh.int IntKind.u8) (0 : Nat) x.length x)))))).length ≤
 (comV (winL (Sh.int IntKind.u8) (0 : Nat) y.length y)
 (natsOf
 (winL (Sh.int IntKind.i64) (0 : Nat)
 (mapI (ordB (winL (Sh.int IntKind.u8) (0 : Nat) x.length x))).length
 (mapI
 (ordB
 (winL (Sh.int IntKind.u8) (0 : Nat) x.length x)))))).length ∧
 ctInts.pre
 (winL (Sh.int IntKind.i64) (0 : Nat)
 (comV (winL (Sh.int IntKind.u8) (0 : Nat) x.length x)
 (natsOf
 (winL (Sh.int IntKind.i64) (0 : Nat)
 (mapI
 (ordB
 (winL (Sh.int IntKind.u8) (0 : Nat) x.length x))).length
 (mapI
 (ordB
 (winL (Sh.int IntKind.u8) (0 : Nat) x.length
 x)))))).length
 (comV (winL (Sh.int IntKind.u8) (0 : Nat) x.length x)
 (natsOf
 (winL (Sh.int IntKind.i64) (0 : Nat)
 (mapI
 (ordB
 (winL (Sh.int IntKind.u8) (0 : Nat) x.length x))).length
 (mapI
 (ordB (winL (Sh.int IntKind.u8) (0 : Nat) x.length x)))))),
 winL (Sh.int IntKind.i64) (0 : Nat)
 (comV (winL (Sh.int IntKind.u8) (0 : Nat) y.length y)
 (natsOf
 (winL (Sh.int IntKind.i64) (0 : Nat)
 (mapI
 (ordB
 (winL (Sh.int IntKind.u8) (0 : Nat) x.length x))).length
 (mapI
 (ordB
 (winL (Sh.int IntKind.u8) (0 : Nat) x.length
 x)))))).length
 (comV (winL (Sh.int IntKind.u8) (0 : Nat) y.length y)
 (natsOf
 (winL (Sh.int IntKind.i64) (0 : Nat)
 (mapI
 (ordB
 (winL (Sh.int IntKind.u8) (0 : Nat) x.length x))).length
 (mapI
 (ordB (winL (Sh.int IntKind.u8) (0 : Nat) x.length x)))))),
 ()) ∧
 Q
 [SV.bool
 (bif true then
 decide
 (winL (Sh.int IntKind.i64) (0 : Nat)
 (comV (winL (Sh.int IntKind.u8) (0 : Nat) x.length x)
 (natsOf
 (winL (Sh.int IntKind.i64) (0 : Nat)
 (mapI
 (ordB
 (winL (Sh.int IntKind.u8) (0 : Nat) x.length
 x))).length
 (mapI
 (ordB
 (winL (Sh.int IntKind.u8) (0 : Nat) x.length
 x)))))).length
 (comV (winL (Sh.int IntKind.u8) (0 : Nat) x.length x)
 (natsOf
 (winL (Sh.int IntKind.i64) (0 : Nat)
 (mapI
 (ordB
 (winL (Sh.int IntKind.u8) (0 : Nat) x.length
 x))).length
 (mapI
 (ordB
 (winL (Sh.int IntKind.u8) (0 : Nat) x.length
 x)))))) =
 winL (Sh.int IntKind.i64) (0 : Nat)
 (comV (winL (Sh.int IntKind.u8) (0 : Nat) y.length y)
 (natsOf
 (winL (Sh.int IntKind.i64) (0 : Nat)
 (mapI
 (ordB
 (winL (Sh.int IntKind.u8) (0 : Nat) x.length
 x))).length
 (mapI
 (ordB
 (winL (Sh.int IntKind.u8) (0 : Nat) x.length
 x)))))).length
 (comV (winL (Sh.int IntKind.u8) (0 : Nat) y.length y)
 (natsOf
 (winL (Sh.int IntKind.i64) (0 : Nat)
 (mapI
 (ordB
 (winL (Sh.int IntKind.u8) (0 : Nat) x.length
 x))).length
 (mapI
 (ordB
 (winL (Sh.int IntKind.u8) (0 : Nat) x.length
 x)))))))
 else false)]
 [((16 : Nat), LB.row (5 : Nat) (Sh.int IntKind.u8) x),
 ((17 : Nat), LB.row (5 : Nat) (Sh.int IntKind.u8) y),
 ((1204800 : Nat),
 LB.row (3 : Nat) (Sh.int IntKind.i64)
 (mapI (ordB (winL (Sh.int IntKind.u8) (0 : Nat) x.length x)))),
 ((1212992 : Nat),
 LB.row (3 : Nat) (Sh.int IntKind.i64)
 (mapI (ordB (winL (Sh.int IntKind.u8) (0 : Nat) y.length y)))),
 ((1299008 : Nat),
 LB.row (3 : Nat) (Sh.int IntKind.i64)
 (comV (winL (Sh.int IntKind.u8) (0 : Nat) x.length x)
 (natsOf
 (winL (Sh.int IntKind.i64) (0 : Nat)
 (mapI
 (ordB
 (winL (Sh.int IntKind.u8) (0 : Nat) x.length x))).length
 (mapI
 (ordB (winL (Sh.int IntKind.u8) (0 : Nat) x.length x))))))),
 ((1311296 : Nat),
 LB.row (3 : Nat) (Sh.int IntKind.i64)
 (comV (winL (Sh.int IntKind.u8) (0 : Nat) y.length y)
 (natsOf
 (winL (Sh.int IntKind.i64) (0 : Nat)
 (mapI
 (ordB
 (winL (Sh.int IntKind.u8) (0 : Nat) x.length x))).length
 (mapI
 (ordB
 (winL (Sh.int IntKind.u8) (0 : Nat) x.length x)))))))])
 (false = false ∧
 false = false ∧
 Q [SV.bool false]
 [((16 : Nat), LB.row (5 : Nat) (Sh.int IntKind.u8) x),
 ((17 : Nat), LB.row (5 : Nat) (Sh.int IntKind.u8) y),
 ((1204800 : Nat),
 LB.row (3 : Nat) (Sh.int IntKind.i64)
 (mapI (ordB (winL (Sh.int IntKind.u8) (0 : Nat) x.length x)))),
 ((1212992 : Nat),
 LB.row (3 : Nat) (Sh.int IntKind.i64)
 (mapI (ordB (winL (Sh.int IntKind.u8) (0 : Nat) y.length y))))]))
 (false = false ∧
 false = false ∧
 false = false ∧
 Q [SV.bool false]
 [((16 : Nat), LB.row (5 : Nat) (Sh.int IntKind.u8) x),
 ((17 : Nat), LB.row (5 : Nat) (Sh.int IntKind.u8) y),
 ((1204800 : Nat),
 LB.row (3 : Nat) (Sh.int IntKind.i64)
 (mapI (ordB (winL (Sh.int IntKind.u8) (0 : Nat) x.length x)))),
 ((1212992 : Nat),
 LB.row (3 : Nat) (Sh.int IntKind.i64)
 (mapI (ordB (winL (Sh.int IntKind.u8) (0 : Nat) y.length y))))])))
 (false = false ∧
 (0 : Nat) + x.length ≤ x.length ∧
 ctSo.pre (winL (Sh.int IntKind.u8) (0 : Nat) x.length x, ()) ∧
 (0 : Nat) + y.length ≤ y.length ∧
 ctSo.pre (winL (Sh.int IntKind.u8) (0 : Nat) y.length y, ()) ∧
 (0 : Nat) + (mapI (ordB (winL (Sh.int IntKind.u8) (0 : Nat) x.length x))).length ≤
 (mapI (ordB (winL (Sh.int IntKind.u8) (0 : Nat) x.length x))).length ∧
 (0 : Nat) + (mapI (ordB (winL (Sh.int IntKind.u8) (0 : Nat) y.length y))).length ≤
 (mapI (ordB (winL (Sh.int IntKind.u8) (0 : Nat) y.length y))).length ∧
 ctInts.pre
 (winL (Sh.int IntKind.i64) (0 : Nat)
 (mapI (ordB (winL (Sh.int IntKind.u8) (0 : Nat) x.length x))).length
 (mapI (ordB (winL (Sh.int IntKind.u8) (0 : Nat) x.length x))),
 winL (Sh.int IntKind.i64) (0 : Nat)
 (mapI (ordB (winL (Sh.int IntKind.u8) (0 : Nat) y.length y))).length
 (mapI (ordB (winL (Sh.int IntKind.u8) (0 : Nat) y.length y))),
 ()) ∧
 bc
 (bif true then
 decide
 (winL (Sh.int IntKind.i64) (0 : Nat)
 (mapI (ordB (winL (Sh.int IntKind.u8) (0 : Nat) x.length x))).length
 (mapI (ordB (winL (Sh.int IntKind.u8) (0 : Nat) x.length x))) =
 winL (Sh.int IntKind.i64) (0 : Nat)
 (mapI (ordB (winL (Sh.int IntKind.u8) (0 : Nat) y.length y))).length
 (mapI (ordB (winL (Sh.int IntKind.u8) (0 : Nat) y.length y))))
 else false)
 (bc
 (bif true then
 decide
 ((↑(mapI (ordB (winL (Sh.int IntKind.u8) (0 : Nat) x.length x))).length : Int) =
 (↑x.length : Int))
 else false)
 ((0 : Nat) + (mapI (ordB (winL (Sh.int IntKind.u8) (0 : Nat) x.length x))).length ≤
 (mapI (ordB (winL (Sh.int IntKind.u8) (0 : Nat) x.length x))).length ∧
 ctIsP.pre
 (winL (Sh.int IntKind.i64) (0 : Nat)
 (mapI (ordB (winL (Sh.int IntKind.u8) (0 : Nat) x.length x))).length
 (mapI (ordB (winL (Sh.int IntKind.u8) (0 : Nat) x.length x))),
 ()) ∧
 (0 : Nat) + x.length ≤ x.length ∧
 (0 : Nat) + (mapI (ordB (winL (Sh.int IntKind.u8) (0 : Nat) x.length x))).length ≤
 (mapI (ordB (winL (Sh.int IntKind.u8) (0 : Nat) x.length x))).length ∧
 ctCom.pre
 (winL (Sh.int IntKind.u8) (0 : Nat) x.length x,
 winL (Sh.int IntKind.i64) (0 : Nat)
 (mapI (ordB (winL (Sh.int IntKind.u8) (0 : Nat) x.length x))).length
 (mapI (ordB (winL (Sh.int IntKind.u8) (0 : Nat) x.length x))),
 ()) ∧
 (0 : Nat) + y.length ≤ y.length ∧
 (0 : Nat) + (mapI (ordB (winL (Sh.int IntKind.u8) (0 : Nat) x.length x))).length ≤
 (mapI (ordB (winL (Sh.int IntKind.u8) (0 : Nat) x.length x))).length ∧
 ctCom.pre
 (winL (Sh.int IntKind.u8) (0 : Nat) y.length y,
 winL (Sh.int IntKind.i64) (0 : Nat)
 (mapI (ordB (winL (Sh.int IntKind.u8) (0 : Nat) x.length x))).length
 (mapI (ordB (winL (Sh.int IntKind.u8) (0 : Nat) x.length x))),
 ()) ∧
 (0 : Nat) +
 (comV (winL (Sh.int IntKind.u8) (0 : Nat) x.length x)
 (natsOf
 (winL (Sh.int IntKind.i64) (0 : Nat)
 (mapI (ordB (winL (Sh.int IntKind.u8) (0 : Nat) x.length x))).length
 (mapI
 (ordB
 (winL (Sh.int IntKind.u8) (0 : Nat) x.length x)))))).length ≤
 (comV (winL (Sh.int IntKind.u8) (0 : Nat) x.length x)
 (natsOf
 (winL (Sh.int IntKind.i64) (0 : Nat)
 (mapI (ordB (winL (Sh.int IntKind.u8) (0 : Nat) x.length x))).length
 (mapI
 (ordB (winL (Sh.int IntKind.u8) (0 : Nat) x.length x)))))).length ∧
 (0 : Nat) +
 (comV (winL (Sh.int IntKind.u8) (0 : Nat) y.length y)
 (natsOf
 (winL (Sh.int IntKind.i64) (0 : Nat)
 (mapI
 (ordB (winL (Sh.int IntKind.u8) (0 : Nat) x.length x))).length
 (mapI
 (ordB
 (winL (Sh.int IntKind.u8) (0 : Nat) x.length x)))))).length ≤
 (comV (winL (Sh.int IntKind.u8) (0 : Nat) y.length y)
 (natsOf
 (winL (Sh.int IntKind.i64) (0 : Nat)
 (mapI (ordB (winL (Sh.int IntKind.u8) (0 : Nat) x.length x))).length
 (mapI
 (ordB
 (winL (Sh.int IntKind.u8) (0 : Nat) x.length x)))))).length ∧
 ctInts.pre
 (winL (Sh.int IntKind.i64) (0 : Nat)
 (comV (winL (Sh.int IntKind.u8) (0 : Nat) x.length x)
 (natsOf
 (winL (Sh.int IntKind.i64) (0 : Nat)
 (mapI
 (ordB
 (winL (Sh.int IntKind.u8) (0 : Nat) x.length x))).length
 (mapI
 (ordB
 (winL (Sh.int IntKind.u8) (0 : Nat) x.length
 x)))))).length
 (comV (winL (Sh.int IntKind.u8) (0 : Nat) x.length x)
 (natsOf
 (winL (Sh.int IntKind.i64) (0 : Nat)
 (mapI
 (ordB
 (winL (Sh.int IntKind.u8) (0 : Nat) x.length x))).length
 (mapI
 (ordB (winL (Sh.int IntKind.u8) (0 : Nat) x.length x)))))),
 winL (Sh.int IntKind.i64) (0 : Nat)
 (comV (winL (Sh.int IntKind.u8) (0 : Nat) y.length y)
 (natsOf
 (winL (Sh.int IntKind.i64) (0 : Nat)
 (mapI
 (ordB
 (winL (Sh.int IntKind.u8) (0 : Nat) x.length x))).length
 (mapI
 (ordB
 (winL (Sh.int IntKind.u8) (0 : Nat) x.length
 x)))))).length
 (comV (winL (Sh.int IntKind.u8) (0 : Nat) y.length y)
 (natsOf
 (winL (Sh.int IntKind.i64) (0 : Nat)
 (mapI
 (ordB
 (winL (Sh.int IntKind.u8) (0 : Nat) x.length x))).length
 (mapI
 (ordB (winL (Sh.int IntKind.u8) (0 : Nat) x.length x)))))),
 ()) ∧
 Q
 [SV.bool
 (bif true then
 decide
 (winL (Sh.int IntKind.i64) (0 : Nat)
 (comV (winL (Sh.int IntKind.u8) (0 : Nat) x.length x)
 (natsOf
 (winL (Sh.int IntKind.i64) (0 : Nat)
 (mapI
 (ordB
 (winL (Sh.int IntKind.u8) (0 : Nat) x.length
 x))).length
 (mapI
 (ordB
 (winL (Sh.int IntKind.u8) (0 : Nat) x.length
 x)))))).length
 (comV (winL (Sh.int IntKind.u8) (0 : Nat) x.length x)
 (natsOf
 (winL (Sh.int IntKind.i64) (0 : Nat)
 (mapI
 (ordB
 (winL (Sh.int IntKind.u8) (0 : Nat) x.length
 x))).length
 (mapI
 (ordB
 (winL (Sh.int IntKind.u8) (0 : Nat) x.length
 x)))))) =
 winL (Sh.int IntKind.i64) (0 : Nat)
 (comV (winL (Sh.int IntKind.u8) (0 : Nat) y.length y)
 (natsOf
 (winL (Sh.int IntKind.i64) (0 : Nat)
 (mapI
 (ordB
 (winL (Sh.int IntKind.u8) (0 : Nat) x.length
 x))).length
 (mapI
 (ordB
 (winL (Sh.int IntKind.u8) (0 : Nat) x.length
 x)))))).length
 (comV (winL (Sh.int IntKind.u8) (0 : Nat) y.length y)
 (natsOf
 (winL (Sh.int IntKind.i64) (0 : Nat)
 (mapI
 (ordB
 (winL (Sh.int IntKind.u8) (0 : Nat) x.length
 x))).length
 (mapI
 (ordB
 (winL (Sh.int IntKind.u8) (0 : Nat) x.length
 x)))))))
 else false)]
 [((16 : Nat), LB.row (5 : Nat) (Sh.int IntKind.u8) x),
 ((17 : Nat), LB.row (5 : Nat) (Sh.int IntKind.u8) y),
 ((1204800 : Nat),
 LB.row (3 : Nat) (Sh.int IntKind.i64)
 (mapI (ordB (winL (Sh.int IntKind.u8) (0 : Nat) x.length x)))),
 ((1212992 : Nat),
 LB.row (3 : Nat) (Sh.int IntKind.i64)
 (mapI (ordB (winL (Sh.int IntKind.u8) (0 : Nat) y.length y)))),
 ((1299008 : Nat),
 LB.row (3 : Nat) (Sh.int IntKind.i64)
 (comV (winL (Sh.int IntKind.u8) (0 : Nat) x.length x)
 (natsOf
 (winL (Sh.int IntKind.i64) (0 : Nat)
 (mapI
 (ordB
 (winL (Sh.int IntKind.u8) (0 : Nat) x.length x))).length
 (mapI
 (ordB (winL (Sh.int IntKind.u8) (0 : Nat) x.length x))))))),
 ((1311296 : Nat),
 LB.row (3 : Nat) (Sh.int IntKind.i64)
 (comV (winL (Sh.int IntKind.u8) (0 : Nat) y.length y)
 (natsOf
 (winL (Sh.int IntKind.i64) (0 : Nat)
 (mapI
 (ordB
 (winL (Sh.int IntKind.u8) (0 : Nat) x.length x))).length
 (mapI
 (ordB
 (winL (Sh.int IntKind.u8) (0 : Nat) x.length x)))))))])
 (false = false ∧
 false = false ∧
 Q [SV.bool false]
 [((16 : Nat), LB.row (5 : Nat) (Sh.int IntKind.u8) x),
 ((17 : Nat), LB.row (5 : Nat) (Sh.int IntKind.u8) y),
 ((1204800 : Nat),
 LB.row (3 : Nat) (Sh.int IntKind.i64)
 (mapI (ordB (winL (Sh.int IntKind.u8) (0 : Nat) x.length x)))),
 ((1212992 : Nat),
 LB.row (3 : Nat) (Sh.int IntKind.i64)
 (mapI (ordB (winL (Sh.int IntKind.u8) (0 : Nat) y.length y))))]))
 (false = false ∧
 false = false ∧
 false = false ∧
 Q [SV.bool false]
 [((16 : Nat), LB.row (5 : Nat) (Sh.int IntKind.u8) x),
 ((17 : Nat), LB.row (5 : Nat) (Sh.int IntKind.u8) y),
 ((1204800 : Nat),
 LB.row (3 : Nat) (Sh.int IntKind.i64)
 (mapI (ordB (winL (Sh.int IntKind.u8) (0 : Nat) x.length x)))),
 ((1212992 : Nat),
 LB.row (3 : Nat) (Sh.int IntKind.i64)
 (mapI (ordB (winL (Sh.int IntKind.u8) (0 : Nat) y.length y))))]))) := by kernel_rfl
end Go.Proofs.Ytijeaicbnfiegaa
