/-
  A part of the proof: what a piece of the program gives; conditions: those of each theorem.
-/
import Derived.Test.YtijeaicbnfiegaaSc1
import Derived.Test.YtijeaicbnfiegaaHD
set_option linter.unusedVariables false
namespace Go.Proofs.Ytijeaicbnfiegaa
open Go.Px Go.Ax
set_option maxRecDepth 100000
theorem vc_intsL (a b : List Int) (i : Int) (Q : List SV → List (Nat × LB) → Prop) (R : List Item → PS → Prop) : sy tt G0 [] Try.f13.ntmps Try.f13.results.toList Q R 1000 (hd Try.f13 0) ⟨[(0, .sl (.int .i64) a), (1, .sl (.int .i64) b), (5, .int .i64 i)], []⟩ =
    (bc (decide (i < (↑a.length : Int)))
 ((0 : Int) ≤ i ∧
 i < (↑a.length : Int) ∧
 (0 : Int) ≤ i ∧
 i < (↑b.length : Int) ∧
 bc (decide (gt (Sh.int IntKind.i64) a i.toNat ≠ gt (Sh.int IntKind.i64) b i.toNat)) (Q [SV.bool false] [])
 (R (hd Try.f13 (0 : Nat))
 {
 env :=
 [((0 : Nat), SV.sl (Sh.int IntKind.i64) a), ((1 : Nat), SV.sl (Sh.int IntKind.i64) b),
 ((5 : Nat), SV.int IntKind.i64 (IntKind.i64.wrap (i + (1 : Int)))),
 ((11 : Nat), SV.int IntKind.i64 i), ((12 : Nat), SV.sl (Sh.int IntKind.i64) a),
 ((13 : Nat), SV.int IntKind.i64 (↑a.length : Int)),
 ((14 : Nat), SV.bool (decide (i < (↑a.length : Int)))), ((15 : Nat), SV.int IntKind.i64 i),
 ((16 : Nat), SV.int IntKind.i64 (IntKind.i64.wrap (i + (1 : Int)))),
 ((17 : Nat), SV.sl (Sh.int IntKind.i64) a), ((18 : Nat), SV.int IntKind.i64 i),
 ((19 : Nat), SV.elv (Sh.int IntKind.i64) (gt (Sh.int IntKind.i64) a i.toNat)),
 ((20 : Nat), SV.int IntKind.i64 (gt (Sh.int IntKind.i64) a i.toNat)),
 ((21 : Nat), SV.sl (Sh.int IntKind.i64) b), ((22 : Nat), SV.int IntKind.i64 i),
 ((23 : Nat), SV.elv (Sh.int IntKind.i64) (gt (Sh.int IntKind.i64) b i.toNat)),
 ((24 : Nat), SV.int IntKind.i64 (gt (Sh.int IntKind.i64) b i.toNat)),
 ((25 : Nat),
 SV.bool (decide (gt (Sh.int IntKind.i64) a i.toNat ≠ gt (Sh.int IntKind.i64) b i.toNat)))],
 blk := [] }))
 (Q [SV.bool true] [])) := by kernel_rfl
theorem vc_ord (b : List Int) (Q : List SV → List (Nat × LB) → Prop) (R : List Item → PS → Prop) : sy tt G0 C1 Try.f12.ntmps Try.f12.results.toList Q R 1000 [.code (bodyOf Try.f12)] (entry [.sl (.int .u8)] (b, ())) =
    (R (hd Try.f12 (0 : Nat))
 {
 env :=
 [((0 : Nat), SV.sl (Sh.int IntKind.u8) b), ((2 : Nat), SV.nils),
 ((3 : Nat), SV.win true (Sh.int IntKind.i64) (7 : Nat) (0 : Nat) (0 : Nat)),
 ((4 : Nat), SV.int IntKind.i64 (0 : Int)),
 ((7 : Nat), SV.win true (Sh.int IntKind.i64) (7 : Nat) (0 : Nat) (0 : Nat))],
 blk := [((7 : Nat), LB.row (3 : Nat) (Sh.int IntKind.i64) (List.replicate (0 : Nat) (Sh.int IntKind.i64).dflt))] }) := by kernel_rfl
theorem vc_ordO (b r : List Int) (i : Int) (Q : List SV → List (Nat × LB) → Prop) (R : List Item → PS → Prop) : sy tt G0 C1 Try.f12.ntmps Try.f12.results.toList Q R 1000 (hd Try.f12 0) ⟨[(0, .sl (.int .u8) b), (3, .win true (.int .i64) 7 0 r.length), (4, .int .i64 i)], [(7, .row 3 (.int .i64) r)]⟩ =
    (bc (decide (i < (↑b.length : Int)))
 (R (hd Try.f12 (1 : Nat))
 {
 env :=
 [((0 : Nat), SV.sl (Sh.int IntKind.u8) b),
 ((3 : Nat), SV.win true (Sh.int IntKind.i64) (7 : Nat) (0 : Nat) r.length), ((4 : Nat), SV.int IntKind.i64 i),
 ((5 : Nat), SV.int IntKind.i64 (0 : Int)), ((8 : Nat), SV.int IntKind.i64 i),
 ((9 : Nat), SV.sl (Sh.int IntKind.u8) b), ((10 : Nat), SV.int IntKind.i64 (↑b.length : Int)),
 ((11 : Nat), SV.bool (decide (i < (↑b.length : Int))))],
 blk := [((7 : Nat), LB.row (3 : Nat) (Sh.int IntKind.i64) r)] })
 (Q [SV.win true (Sh.int IntKind.i64) (7 : Nat) (0 : Nat) r.length]
 [((7 : Nat), LB.row (3 : Nat) (Sh.int IntKind.i64) r)])) := by kernel_rfl
theorem vc_ordI (b r : List Int) (i k : Int) (Q : List SV → List (Nat × LB) → Prop) (R : List Item → PS → Prop) : sy tt G0 C1 Try.f12.ntmps Try.f12.results.toList Q R 1000 (hd Try.f12 1) ⟨[(0, .sl (.int .u8) b), (3, .win true (.int .i64) 7 0 r.length), (4, .int .i64 i), (5, .int .i64 k)], [(7, .row 3 (.int .i64) r)]⟩ =
    (bc (decide (k < (↑r.length : Int)))
 ((0 : Int) ≤ k ∧
 k < (↑r.length : Int) ∧
 (0 : Nat) + k.toNat < r.length ∧
 (0 : Int) ≤ gt (Sh.int IntKind.i64) r ((0 : Nat) + k.toNat) ∧
 gt (Sh.int IntKind.i64) r ((0 : Nat) + k.toNat) ≤ (↑b.length : Int) ∧
 (0 : Int) ≤ i ∧
 i ≤ (↑b.length : Int) ∧
 ctLess.pre
 (List.drop (Int.toNat (gt (Sh.int IntKind.i64) r ((0 : Nat) + k.toNat))) b, List.drop i.toNat b,
 ()) ∧
 bc
 (bif true then
 lexLt (List.drop (Int.toNat (gt (Sh.int IntKind.i64) r ((0 : Nat) + k.toNat))) b)
 (List.drop i.toNat b)
 else false)
 (R (hd Try.f12 (1 : Nat))
 {
 env :=
 [((0 : Nat), SV.sl (Sh.int IntKind.u8) b),
 ((3 : Nat), SV.win true (Sh.int IntKind.i64) (7 : Nat) (0 : Nat) r.length),
 ((4 : Nat), SV.int IntKind.i64 i),
 ((5 : Nat), SV.int IntKind.i64 (IntKind.i64.wrap (k + (1 : Int)))),
 ((14 : Nat), SV.int IntKind.i64 k),
 ((15 : Nat), SV.win true (Sh.int IntKind.i64) (7 : Nat) (0 : Nat) r.length),
 ((16 : Nat), SV.int IntKind.i64 (↑r.length : Int)),
 ((17 : Nat), SV.bool (decide (k < (↑r.length : Int)))), ((18 : Nat), SV.bool true),
 ((19 : Nat), SV.sl (Sh.int IntKind.u8) b),
 ((20 : Nat), SV.win true (Sh.int IntKind.i64) (7 : Nat) (0 : Nat) r.length),
 ((21 : Nat), SV.int IntKind.i64 k),
 ((22 : Nat), SV.elp (Sh.int IntKind.i64) (7 : Nat) ((0 : Nat) + k.toNat) (0 : Nat)),
 ((23 : Nat), SV.int IntKind.i64 (gt (Sh.int IntKind.i64) r ((0 : Nat) + k.toNat))),
 ((24 : Nat),
 SV.sl (Sh.int IntKind.u8)
 (List.drop (Int.toNat (gt (Sh.int IntKind.i64) r ((0 : Nat) + k.toNat))) b)),
 ((25 : Nat), SV.sl (Sh.int IntKind.u8) b), ((26 : Nat), SV.int IntKind.i64 i),
 ((27 : Nat), SV.sl (Sh.int IntKind.u8) (List.drop i.toNat b)),
 ((28 : Nat),
 SV.bool
 (lexLt (List.drop (Int.toNat (gt (Sh.int IntKind.i64) r ((0 : Nat) + k.toNat))) b)
 (List.drop i.toNat b))),
 ((29 : Nat),
 SV.bool
 (bif true then
 lexLt (List.drop (Int.toNat (gt (Sh.int IntKind.i64) r ((0 : Nat) + k.toNat))) b)
 (List.drop i.toNat b)
 else false)),
 ((30 : Nat), SV.int IntKind.i64 k),
 ((31 : Nat), SV.int IntKind.i64 (IntKind.i64.wrap (k + (1 : Int))))],
 blk := [((7 : Nat), LB.row (3 : Nat) (Sh.int IntKind.i64) r)] })
 ((0 : Int) ≤ k ∧
 k ≤ (↑r.length : Int) ∧
 (0 : Nat) + r.length ≤ r.length ∧
 (0 : Nat) + (0 : Nat) + (k.toNat - (0 : Nat)) ≤ r.length ∧
 (0 : Nat) = (List.replicate (0 : Nat) (Sh.int IntKind.i64).dflt).length ∧
 (0 : Nat) = (0 : Nat) ∧
 (0 : Nat) +
 (winL
 ((fun self => self.6)
 (mkT (1 : Nat) (8 : Nat) false (TK.int IntKind.i64) (Sh.int IntKind.i64)
 none))
 ((0 : Nat) + (0 : Nat)) (k.toNat - (0 : Nat)) r).length <
 (2 : Nat) ^ (30 : Nat) ∧
 (8 : Nat) ≤ (2 : Nat) ^ (10 : Nat) ∧
 (0 : Nat) + (1 : Nat) ≤
 ((List.replicate (1 : Nat) (Sh.int IntKind.i64).dflt).set (0 : Nat) i).length ∧
 (0 : Nat) +
 (winL
 ((fun self => self.6)
 (mkT (1 : Nat) (8 : Nat) false (TK.int IntKind.i64)
 (Sh.int IntKind.i64) none))
 ((0 : Nat) + (0 : Nat)) (k.toNat - (0 : Nat)) r).length =
 (List.replicate (0 : Nat) (Sh.int IntKind.i64).dflt ++
 winL (Sh.int IntKind.i64) ((0 : Nat) + (0 : Nat)) (k.toNat - (0 : Nat))
 r).length ∧
 (0 : Nat) = (0 : Nat) ∧
 (0 : Nat) +
 (winL
 ((fun self => self.6)
 (mkT (1 : Nat) (8 : Nat) false (TK.int IntKind.i64)
 (Sh.int IntKind.i64) none))
 ((0 : Nat) + (0 : Nat)) (k.toNat - (0 : Nat)) r).length +
 (winL
 ((fun self => self.6)
 (mkT (1 : Nat) (8 : Nat) false (TK.int IntKind.i64)
 (Sh.int IntKind.i64) none))
 (0 : Nat) (1 : Nat)
 ((List.replicate (1 : Nat) (Sh.int IntKind.i64).dflt).set (0 : Nat)
 i)).length <
 (2 : Nat) ^ (30 : Nat) ∧
 (8 : Nat) ≤ (2 : Nat) ^ (10 : Nat) ∧
 (0 : Int) ≤ k ∧
 k ≤ (↑r.length : Int) ∧
 (0 : Nat) + r.length ≤ r.length ∧
 (0 : Nat) + k.toNat + (r.length - k.toNat) ≤ r.length ∧
 (0 : Nat) +
 (winL
 ((fun self => self.6)
 (mkT (1 : Nat) (8 : Nat) false (TK.int IntKind.i64)
 (Sh.int IntKind.i64) none))
 ((0 : Nat) + (0 : Nat)) (k.toNat - (0 : Nat))
 r).length +
 (winL
 ((fun self => self.6)
 (mkT (1 : Nat) (8 : Nat) false (TK.int IntKind.i64)
 (Sh.int IntKind.i64) none))
 (0 : Nat) (1 : Nat)
 ((List.replicate (1 : Nat)
 (Sh.int IntKind.i64).dflt).set
 (0 : Nat) i)).length =
 (List.replicate (0 : Nat) (Sh.int IntKind.i64).dflt ++
 winL (Sh.int IntKind.i64) ((0 : Nat) + (0 : Nat))
 (k.toNat - (0 : Nat)) r ++
 winL (Sh.int IntKind.i64) (0 : Nat) (1 : Nat)
 ((List.replicate (1 : Nat)
 (Sh.int IntKind.i64).dflt).set
 (0 : Nat) i)).length ∧
 (0 : Nat) = (0 : Nat) ∧
 (0 : Nat) +
 (winL
 ((fun self => self.6)
 (mkT (1 : Nat) (8 : Nat) false
 (TK.int IntKind.i64) (Sh.int IntKind.i64)
 none))
 ((0 : Nat) + (0 : Nat)) (k.toNat - (0 : Nat))
 r).length +
 (winL
 ((fun self => self.6)
 (mkT (1 : Nat) (8 : Nat) false
 (TK.int IntKind.i64) (Sh.int IntKind.i64)
 none))
 (0 : Nat) (1 : Nat)
 ((List.replicate (1 : Nat)
 (Sh.int IntKind.i64).dflt).set
 (0 : Nat) i)).length +
 (winL
 ((fun self => self.6)
 (mkT (1 : Nat) (8 : Nat) false
 (TK.int IntKind.i64) (Sh.int IntKind.i64) none))
 ((0 : Nat) + k.toNat) (r.length - k.toNat)
 r).length <
 (2 : Nat) ^ (30 : Nat) ∧
 (8 : Nat) ≤ (2 : Nat) ^ (10 : Nat) ∧
 R (hd Try.f12 (0 : Nat))
 {
 env :=
 [((0 : Nat), SV.sl (Sh.int IntKind.u8) b),
 ((3 : Nat),
 SV.win true (Sh.int IntKind.i64) (45 : Nat)
 (0 : Nat)
 ((0 : Nat) +
 (winL
 ((fun self => self.6)
 (mkT (1 : Nat) (8 : Nat) false
 (TK.int IntKind.i64)
 (Sh.int IntKind.i64) none))
 ((0 : Nat) + (0 : Nat))
 (k.toNat - (0 : Nat)) r).length +
 (winL
 ((fun self => self.6)
 (mkT (1 : Nat) (8 : Nat) false
 (TK.int IntKind.i64)
 (Sh.int IntKind.i64) none))
 (0 : Nat) (1 : Nat)
 ((List.replicate (1 : Nat)
 (Sh.int IntKind.i64).dflt).set
 (0 : Nat) i)).length +
 (winL
 ((fun self => self.6)
 (mkT (1 : Nat) (8 : Nat) false
 (TK.int IntKind.i64)
 (Sh.int IntKind.i64) none))
 ((0 : Nat) + k.toNat)
 (r.length - k.toNat) r).length)),
 ((4 : Nat),
 SV.int IntKind.i64
 (IntKind.i64.wrap (i + (1 : Int)))),
 ((5 : Nat), SV.int IntKind.i64 k),
 ((6 : Nat), SV.dead),
 ((12 : Nat), SV.int IntKind.i64 i),
 ((13 : Nat),
 SV.int IntKind.i64
 (IntKind.i64.wrap (i + (1 : Int)))),
 ((14 : Nat), SV.int IntKind.i64 k),
 ((15 : Nat),
 SV.win true (Sh.int IntKind.i64) (7 : Nat)
 (0 : Nat) r.length),
 ((16 : Nat),
 SV.int IntKind.i64 (↑r.length : Int)),
 ((17 : Nat),
 SV.bool (decide (k < (↑r.length : Int)))),
 ((18 : Nat), SV.bool true),
 ((19 : Nat), SV.sl (Sh.int IntKind.u8) b),
 ((20 : Nat),
 SV.win true (Sh.int IntKind.i64) (7 : Nat)
 (0 : Nat) r.length),
 ((21 : Nat), SV.int IntKind.i64 k),
 ((22 : Nat),
 SV.elp (Sh.int IntKind.i64) (7 : Nat)
 ((0 : Nat) + k.toNat) (0 : Nat)),
 ((23 : Nat),
 SV.int IntKind.i64
 (gt (Sh.int IntKind.i64) r
 ((0 : Nat) + k.toNat))),
 ((24 : Nat),
 SV.sl (Sh.int IntKind.u8)
 (List.drop
 (Int.toNat
 (gt (Sh.int IntKind.i64) r
 ((0 : Nat) + k.toNat)))
 b)),
 ((25 : Nat), SV.sl (Sh.int IntKind.u8) b),
 ((26 : Nat), SV.int IntKind.i64 i),
 ((27 : Nat),
 SV.sl (Sh.int IntKind.u8)
 (List.drop i.toNat b)),
 ((28 : Nat),
 SV.bool
 (lexLt
 (List.drop
 (Int.toNat
 (gt (Sh.int IntKind.i64) r
 ((0 : Nat) + k.toNat)))
 b)
 (List.drop i.toNat b))),
 ((29 : Nat),
 SV.bool
 (bif true then
 lexLt
 (List.drop
 (Int.toNat
 (gt (Sh.int IntKind.i64) r
 ((0 : Nat) + k.toNat)))
 b)
 (List.drop i.toNat b)
 else false)),
 ((33 : Nat),
 SV.win true (Sh.int IntKind.i64) (7 : Nat)
 (0 : Nat) r.length),
 ((34 : Nat), SV.int IntKind.i64 k),
 ((35 : Nat),
 SV.win false (Sh.int IntKind.i64) (7 : Nat)
 (0 : Nat) (k.toNat - (0 : Nat))),
 ((37 : Nat), SV.dead),
 ((38 : Nat), SV.int IntKind.i64 i),
 ((39 : Nat),
 SV.win true (Sh.int IntKind.i64) (39 : Nat)
 (0 : Nat) (1 : Nat)),
 ((41 : Nat), SV.dead),
 ((42 : Nat),
 SV.win true (Sh.int IntKind.i64) (7 : Nat)
 (0 : Nat) r.length),
 ((43 : Nat), SV.int IntKind.i64 k),
 ((44 : Nat),
 SV.win false (Sh.int IntKind.i64) (7 : Nat)
 ((0 : Nat) + k.toNat) (r.length - k.toNat)),
 ((45 : Nat),
 SV.win true (Sh.int IntKind.i64) (45 : Nat)
 (0 : Nat)
 ((0 : Nat) +
 (winL
 ((fun self => self.6)
 (mkT (1 : Nat) (8 : Nat) false
 (TK.int IntKind.i64)
 (Sh.int IntKind.i64) none))
 ((0 : Nat) + (0 : Nat))
 (k.toNat - (0 : Nat)) r).length +
 (winL
 ((fun self => self.6)
 (mkT (1 : Nat) (8 : Nat) false
 (TK.int IntKind.i64)
 (Sh.int IntKind.i64) none))
 (0 : Nat) (1 : Nat)
 ((List.replicate (1 : Nat)
 (Sh.int IntKind.i64).dflt).set
 (0 : Nat) i)).length +
 (winL
 ((fun self => self.6)
 (mkT (1 : Nat) (8 : Nat) false
 (TK.int IntKind.i64)
 (Sh.int IntKind.i64) none))
 ((0 : Nat) + k.toNat)
 (r.length - k.toNat) r).length))],
 blk :=
 [((7 : Nat),
 LB.row (3 : Nat) (Sh.int IntKind.i64) r),
 ((39 : Nat),
 LB.row (3 : Nat) (Sh.int IntKind.i64)
 ((List.replicate (1 : Nat)
 (Sh.int IntKind.i64).dflt).set
 (0 : Nat) i)),
 ((45 : Nat),
 LB.row (3 : Nat) (Sh.int IntKind.i64)
 (List.replicate (0 : Nat)
 (Sh.int IntKind.i64).dflt ++
 winL (Sh.int IntKind.i64)
 ((0 : Nat) + (0 : Nat))
 (k.toNat - (0 : Nat)) r ++
 winL (Sh.int IntKind.i64) (0 : Nat)
 (1 : Nat)
 ((List.replicate (1 : Nat)
 (Sh.int IntKind.i64).dflt).set
 (0 : Nat) i) ++
 winL (Sh.int IntKind.i64)
 ((0 : Nat) + k.toNat) (r.length - k.toNat)
 r))] }))
 (false = false ∧
 (0 : Int) ≤ k ∧
 k ≤ (↑r.length : Int) ∧
 (0 : Nat) + r.length ≤ r.length ∧
 (0 : Nat) + (0 : Nat) + (k.toNat - (0 : Nat)) ≤ r.length ∧
 (0 : Nat) = (List.replicate (0 : Nat) (Sh.int IntKind.i64).dflt).length ∧
 (0 : Nat) = (0 : Nat) ∧
 (0 : Nat) +
 (winL
 ((fun self => self.6)
 (mkT (1 : Nat) (8 : Nat) false (TK.int IntKind.i64) (Sh.int IntKind.i64) none))
 ((0 : Nat) + (0 : Nat)) (k.toNat - (0 : Nat)) r).length <
 (2 : Nat) ^ (30 : Nat) ∧
 (8 : Nat) ≤ (2 : Nat) ^ (10 : Nat) ∧
 (0 : Nat) + (1 : Nat) ≤
 ((List.replicate (1 : Nat) (Sh.int IntKind.i64).dflt).set (0 : Nat) i).length ∧
 (0 : Nat) +
 (winL
 ((fun self => self.6)
 (mkT (1 : Nat) (8 : Nat) false (TK.int IntKind.i64) (Sh.int IntKind.i64) none))
 ((0 : Nat) + (0 : Nat)) (k.toNat - (0 : Nat)) r).length =
 (List.replicate (0 : Nat) (Sh.int IntKind.i64).dflt ++
 winL (Sh.int IntKind.i64) ((0 : Nat) + (0 : Nat)) (k.toNat - (0 : Nat)) r).length ∧
 (0 : Nat) = (0 : Nat) ∧
 (0 : Nat) +
 (winL
 ((fun self => self.6)
 (mkT (1 : Nat) (8 : Nat) false (TK.int IntKind.i64) (Sh.int IntKind.i64) none))
 ((0 : Nat) + (0 : Nat)) (k.toNat - (0 : Nat)) r).length +
 (winL
 ((fun self => self.6)
 (mkT (1 : Nat) (8 : Nat) false (TK.int IntKind.i64) (Sh.int IntKind.i64) none))
 (0 : Nat) (1 : Nat)
 ((List.replicate (1 : Nat) (Sh.int IntKind.i64).dflt).set (0 : Nat) i)).length <
 (2 : Nat) ^ (30 : Nat) ∧
 (8 : Nat) ≤ (2 : Nat) ^ (10 : Nat) ∧
 (0 : Int) ≤ k ∧
 k ≤ (↑r.length : Int) ∧
 (0 : Nat) + r.length ≤ r.length ∧
 (0 : Nat) + k.toNat + (r.length - k.toNat) ≤ r.length ∧
 (0 : Nat) +
 (winL
 ((fun self => self.6)
 (mkT (1 : Nat) (8 : Nat) false (TK.int IntKind.i64)
 (Sh.int IntKind.i64) none))
 ((0 : Nat) + (0 : Nat)) (k.toNat - (0 : Nat)) r).length +
 (winL
 ((fun self => self.6)
 (mkT (1 : Nat) (8 : Nat) false (TK.int IntKind.i64)
 (Sh.int IntKind.i64) none))
 (0 : Nat) (1 : Nat)
 ((List.replicate (1 : Nat) (Sh.int IntKind.i64).dflt).set (0 : Nat)
 i)).length =
 (List.replicate (0 : Nat) (Sh.int IntKind.i64).dflt ++
 winL (Sh.int IntKind.i64) ((0 : Nat) + (0 : Nat)) (k.toNat - (0 : Nat))
 r ++
 winL (Sh.int IntKind.i64) (0 : Nat) (1 : Nat)
 ((List.replicate (1 : Nat) (Sh.int IntKind.i64).dflt).set (0 : Nat)
 i)).length ∧
 (0 : Nat) = (0 : Nat) ∧
 (0 : Nat) +
 (winL
 ((fun self => self.6)
 (mkT (1 : Nat) (8 : Nat) false (TK.int IntKind.i64)
 (Sh.int IntKind.i64) none))
 ((0 : Nat) + (0 : Nat)) (k.toNat - (0 : Nat)) r).length +
 (winL
 ((fun self => self.6)
 (mkT (1 : Nat) (8 : Nat) false (TK.int IntKind.i64)
 (Sh.int IntKind.i64) none))
 (0 : Nat) (1 : Nat)
 ((List.replicate (1 : Nat) (Sh.int IntKind.i64).dflt).set
 (0 : Nat) i)).length +
 (winL
 ((fun self => self.6)
 (mkT (1 : Nat) (8 : Nat) false (TK.int IntKind.i64)
 (Sh.int IntKind.i64) none))
 ((0 : Nat) + k.toNat) (r.length - k.toNat) r).length <
 (2 : Nat) ^ (30 : Nat) ∧
 (8 : Nat) ≤ (2 : Nat) ^ (10 : Nat) ∧
 R (hd Try.f12 (0 : Nat))
 {
 env :=
 [((0 : Nat), SV.sl (Sh.int IntKind.u8) b),
 ((3 : Nat),
 SV.win true (Sh.int IntKind.i64) (45 : Nat) (0 : Nat)
 ((0 : Nat) +
 (winL
 ((fun self => self.6)
 (mkT (1 : Nat) (8 : Nat) false
 (TK.int IntKind.i64) (Sh.int IntKind.i64) none))
 ((0 : Nat) + (0 : Nat)) (k.toNat - (0 : Nat))
 r).length +
 (winL
 ((fun self => self.6)
 (mkT (1 : Nat) (8 : Nat) false (TK.int IntKind.i64)
 (Sh.int IntKind.i64) none))
 (0 : Nat) (1 : Nat)
 ((List.replicate (1 : Nat)
 (Sh.int IntKind.i64).dflt).set
 (0 : Nat) i)).length +
 (winL
 ((fun self => self.6)
 (mkT (1 : Nat) (8 : Nat) false (TK.int IntKind.i64)
 (Sh.int IntKind.i64) none))
 ((0 : Nat) + k.toNat) (r.length - k.toNat) r).length)),
 ((4 : Nat),
 SV.int IntKind.i64 (IntKind.i64.wrap (i + (1 : Int)))),
 ((5 : Nat), SV.int IntKind.i64 k), ((6 : Nat), SV.dead),
 ((12 : Nat), SV.int IntKind.i64 i),
 ((13 : Nat),
 SV.int IntKind.i64 (IntKind.i64.wrap (i + (1 : Int)))),
 ((14 : Nat), SV.int IntKind.i64 k),
 ((15 : Nat),
 SV.win true (Sh.int IntKind.i64) (7 : Nat) (0 : Nat) r.length),
 ((16 : Nat), SV.int IntKind.i64 (↑r.length : Int)),
 ((17 : Nat), SV.bool (decide (k < (↑r.length : Int)))),
 ((18 : Nat), SV.bool false), ((29 : Nat), SV.bool false),
 ((33 : Nat),
 SV.win true (Sh.int IntKind.i64) (7 : Nat) (0 : Nat) r.length),
 ((34 : Nat), SV.int IntKind.i64 k),
 ((35 : Nat),
 SV.win false (Sh.int IntKind.i64) (7 : Nat) (0 : Nat)
 (k.toNat - (0 : Nat))),
 ((37 : Nat), SV.dead), ((38 : Nat), SV.int IntKind.i64 i),
 ((39 : Nat),
 SV.win true (Sh.int IntKind.i64) (39 : Nat) (0 : Nat)
 (1 : Nat)),
 ((41 : Nat), SV.dead),
 ((42 : Nat),
 SV.win true (Sh.int IntKind.i64) (7 : Nat) (0 : Nat) r.length),
 ((43 : Nat), SV.int IntKind.i64 k),
 ((44 : Nat),
 SV.win false (Sh.int IntKind.i64) (7 : Nat)
 ((0 : Nat) + k.toNat) (r.length - k.toNat)),
 ((45 : Nat),
 SV.win true (Sh.int IntKind.i64) (45 : Nat) (0 : Nat)
 ((0 : Nat) +
 (winL
 ((fun self => self.6)
 (mkT (1 : Nat) (8 : Nat) false
 (TK.int IntKind.i64) (Sh.int IntKind.i64) none))
 ((0 : Nat) + (0 : Nat)) (k.toNat - (0 : Nat))
 r).length +
 (winL
 ((fun self => self.6)
 (mkT (1 : Nat) (8 : Nat) false (TK.int IntKind.i64)
 (Sh.int IntKind.i64) none))
 (0 : Nat) (1 : Nat)
 ((List.replicate (1 : Nat)
 (Sh.int IntKind.i64).dflt).set
 (0 : Nat) i)).length +
 (winL
 ((fun self => self.6)
 (mkT (1 : Nat) (8 : Nat) false (TK.int IntKind.i64)
 (Sh.int IntKind.i64) none))
 ((0 : Nat) + k.toNat) (r.length - k.toNat) r).length))],
 blk :=
 [((7 : Nat), LB.row (3 : Nat) (Sh.int IntKind.i64) r),
 ((39 : Nat),
 LB.row (3 : Nat) (Sh.int IntKind.i64)
 ((List.replicate (1 : Nat) (Sh.int IntKind.i64).dflt).set
 (0 : Nat) i)),
 ((45 : Nat),
 LB.row (3 : Nat) (Sh.int IntKind.i64)
 (List.replicate (0 : Nat) (Sh.int IntKind.i64).dflt ++
 winL (Sh.int IntKind.i64) ((0 : Nat) + (0 : Nat))
 (k.toNat - (0 : Nat)) r ++
 winL (Sh.int IntKind.i64) (0 : Nat) (1 : Nat)
 ((List.replicate (1 : Nat)
 (Sh.int IntKind.i64).dflt).set
 (0 : Nat) i) ++
 winL (Sh.int IntKind.i64) ((0 : Nat) + k.toNat)
 (r.length - k.toNat) r))] })) := by kernel_rfl
theorem vc_least (l : List Int) (Q : List SV → List (Nat × LB) → Prop) (R : List Item → PS → Prop) : sy tt G0 [] Try.f33.ntmps Try.f33.results.toList Q R 1000 [.code (bodyOf Try.f33)] (entry [.sl (.int .i64)] (l, ())) =
    ((0 : Int) ≤ (0 : Int) ∧
 (0 : Int) < (↑l.length : Int) ∧
 R (hd Try.f33 (0 : Nat))
 {
 env :=
 [((0 : Nat), SV.sl (Sh.int IntKind.i64) l), ((2 : Nat), SV.int IntKind.i64 (0 : Int)),
 ((3 : Nat), SV.int IntKind.i64 (gt (Sh.int IntKind.i64) l (Int.toNat (0 : Int)))),
 ((6 : Nat), SV.sl (Sh.int IntKind.i64) l),
 ((7 : Nat), SV.elv (Sh.int IntKind.i64) (gt (Sh.int IntKind.i64) l (Int.toNat (0 : Int)))),
 ((8 : Nat), SV.int IntKind.i64 (gt (Sh.int IntKind.i64) l (Int.toNat (0 : Int)))),
 ((9 : Nat), SV.sl (Sh.int IntKind.i64) l), ((10 : Nat), SV.int IntKind.i64 (↑l.length : Int)),
 ((11 : Nat), SV.int IntKind.i64 (0 : Int))],
 blk := [] }) := by kernel_rfl
theorem vc_perm (l : List Int) (Q : List SV → List (Nat × LB) → Prop) (R : List Item → PS → Prop) : sy tt G0 [] Try.f19.ntmps Try.f19.results.toList Q R 1000 [.code (bodyOf Try.f19)] (entry [.sl (.int .i64)] (l, ())) =
    ((0 : Int) ≤ (↑l.length : Int) ∧
 (↑l.length : Int) ≤ (↑l.length : Int) ∧
 (↑l.length : Int) < (2 : Int) ^ (24 : Nat) ∧
 (↑(1 : Nat) : Int) * (↑l.length : Int) ≤ (2 : Int) ^ (48 : Nat) ∧
 R (hd Try.f19 (0 : Nat))
 {
 env :=
 [((0 : Nat), SV.sl (Sh.int IntKind.i64) l), ((2 : Nat), SV.bool false),
 ((3 : Nat), SV.win true Sh.bool (7 : Nat) (0 : Nat) (↑l.length : Int).toNat),
 ((4 : Nat), SV.int IntKind.i64 (0 : Int)), ((5 : Nat), SV.sl (Sh.int IntKind.i64) l),
 ((6 : Nat), SV.int IntKind.i64 (↑l.length : Int)),
 ((7 : Nat), SV.win true Sh.bool (7 : Nat) (0 : Nat) (↑l.length : Int).toNat)],
 blk := [((7 : Nat), LB.row (4 : Nat) Sh.bool (List.replicate (↑l.length : Int).toNat Sh.bool.dflt))] }) := by kernel_rfl
end Go.Proofs.Ytijeaicbnfiegaa
