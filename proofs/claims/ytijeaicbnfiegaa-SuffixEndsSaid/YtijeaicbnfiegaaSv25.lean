/-
  A part of the proof: what a piece of the program gives; conditions: those of each theorem.
-/
import Derived.Test.YtijeaicbnfiegaaSc24
set_option linter.unusedVariables false
namespace Go.Proofs.Ytijeaicbnfiegaa
open Go.Px Go.Ax
set_option maxRecDepth 100000
theorem vc_sord (b : List Int) (Q : List SV → List (Nat × LB) → Prop) (R : List Item → PS → Prop) : sy tt G0 D6 Try.f14.ntmps Try.f14.results.toList Q R 1000 [.code (bodyOf Try.f14)] (entry [.sl (.int .u8)] (b, ())) =
    ((0 : Int) ≤ (↑b.length : Int) ∧
 (↑b.length : Int) ≤ (↑b.length : Int) ∧
 (↑b.length : Int) < (2 : Int) ^ (24 : Nat) ∧
 (↑(8 : Nat) : Int) * (↑b.length : Int) ≤ (2 : Int) ^ (48 : Nat) ∧
 (0 : Int) ≤ (↑b.length : Int) ∧
 (↑b.length : Int) ≤ (↑b.length : Int) ∧
 (↑b.length : Int) < (2 : Int) ^ (24 : Nat) ∧
 (↑(8 : Nat) : Int) * (↑b.length : Int) ≤ (2 : Int) ^ (48 : Nat) ∧
 R (hd Try.f14 (0 : Nat))
 {
 env :=
 [((0 : Nat), SV.sl (Sh.int IntKind.u8) b), ((2 : Nat), SV.nils),
 ((3 : Nat), SV.win true (Sh.int IntKind.i64) (12 : Nat) (0 : Nat) (↑b.length : Int).toNat),
 ((4 : Nat), SV.win true (Sh.int IntKind.i64) (15 : Nat) (0 : Nat) (↑b.length : Int).toNat),
 ((10 : Nat), SV.sl (Sh.int IntKind.u8) b), ((11 : Nat), SV.int IntKind.i64 (↑b.length : Int)),
 ((12 : Nat), SV.win true (Sh.int IntKind.i64) (12 : Nat) (0 : Nat) (↑b.length : Int).toNat),
 ((13 : Nat), SV.sl (Sh.int IntKind.u8) b), ((14 : Nat), SV.int IntKind.i64 (↑b.length : Int)),
 ((15 : Nat), SV.win true (Sh.int IntKind.i64) (15 : Nat) (0 : Nat) (↑b.length : Int).toNat),
 ((16 : Nat), SV.sl (Sh.int IntKind.u8) b), ((17 : Nat), SV.int IntKind.i64 (↑b.length : Int)),
 ((18 : Nat), SV.int IntKind.i64 (0 : Int))],
 blk :=
 [((12 : Nat),
 LB.row (3 : Nat) (Sh.int IntKind.i64)
 (List.replicate (↑b.length : Int).toNat (Sh.int IntKind.i64).dflt)),
 ((15 : Nat),
 LB.row (3 : Nat) (Sh.int IntKind.i64)
 (List.replicate (↑b.length : Int).toNat (Sh.int IntKind.i64).dflt))] }) := by kernel_rfl
theorem vc_sordI (b o r : List Int) (i : Int) (Q : List SV → List (Nat × LB) → Prop) (R : List Item → PS → Prop) : sy tt G0 D6 Try.f14.ntmps Try.f14.results.toList Q (fun it S => R it (keepS [0, 3, 4, 16, 17, 18, 7] [12, 15] S)) 1000 (hd Try.f14 0) ⟨[(0, .sl (.int .u8) b), (3, .win true (.int .i64) 12 0 o.length), (4, .win true (.int .i64) 15 0 r.length), (16, .sl (.int .u8) b), (17, .int .i64 b.length), (18, .int .i64 i)], [(12, .row 3 (.int .i64) o), (15, .row 3 (.int .i64) r)]⟩ =
    (bc (decide (i < (↑b.length : Int)))
 ((0 : Int) ≤ i ∧
 i < (↑b.length : Int) ∧
 (0 : Int) ≤ i ∧
 i < (↑o.length : Int) ∧
 (0 : Nat) + i.toNat < o.length ∧
 (0 : Int) ≤ i ∧
 i < (↑r.length : Int) ∧
 (0 : Nat) + i.toNat < r.length ∧
 R (hd Try.f14 (0 : Nat))
 {
 env :=
 [((0 : Nat), SV.sl (Sh.int IntKind.u8) b),
 ((3 : Nat), SV.win true (Sh.int IntKind.i64) (12 : Nat) (0 : Nat) o.length),
 ((4 : Nat), SV.win true (Sh.int IntKind.i64) (15 : Nat) (0 : Nat) r.length),
 ((16 : Nat), SV.sl (Sh.int IntKind.u8) b), ((17 : Nat), SV.int IntKind.i64 (↑b.length : Int)),
 ((18 : Nat), SV.int IntKind.i64 (IntKind.i64.wrap (i + (1 : Int))))],
 blk :=
 [((12 : Nat), LB.row (3 : Nat) (Sh.int IntKind.i64) (o.set ((0 : Nat) + i.toNat) i)),
 ((15 : Nat),
 LB.row (3 : Nat) (Sh.int IntKind.i64)
 (r.set ((0 : Nat) + i.toNat) (IntKind.i64.wrap (gt (Sh.int IntKind.u8) b i.toNat))))] })
 (R (hd Try.f14 (1 : Nat))
 {
 env :=
 [((0 : Nat), SV.sl (Sh.int IntKind.u8) b),
 ((3 : Nat), SV.win true (Sh.int IntKind.i64) (12 : Nat) (0 : Nat) o.length),
 ((4 : Nat), SV.win true (Sh.int IntKind.i64) (15 : Nat) (0 : Nat) r.length),
 ((7 : Nat), SV.int IntKind.i64 (1 : Int)), ((16 : Nat), SV.sl (Sh.int IntKind.u8) b),
 ((17 : Nat), SV.int IntKind.i64 (↑b.length : Int)), ((18 : Nat), SV.int IntKind.i64 i)],
 blk :=
 [((12 : Nat), LB.row (3 : Nat) (Sh.int IntKind.i64) o),
 ((15 : Nat), LB.row (3 : Nat) (Sh.int IntKind.i64) r)] })) := by kernel_rfl
theorem vc_sordL (b o r : List Int) (c : Int) (Q : List SV → List (Nat × LB) → Prop) (R : List Item → PS → Prop) : sy tt G0 D6 Try.f14.ntmps Try.f14.results.toList Q (fun it S => R it (keepS [0, 3, 4, 7] [12, 1192512] S)) 1000 (hd Try.f14 1) ⟨[(0, .sl (.int .u8) b), (3, .win true (.int .i64) 12 0 o.length), (4, .win true (.int .i64) 15 0 r.length), (7, .int .i64 c)], [(12, .row 3 (.int .i64) o), (15, .row 3 (.int .i64) r)]⟩ =
    (bc (decide (c < (↑b.length : Int)))
 ((0 : Nat) + r.length ≤ r.length ∧
 ctPa.pre (winL (Sh.int IntKind.i64) (0 : Nat) r.length r, c, ()) ∧
 o.length = o.length ∧
 (winL (Sh.int IntKind.i64) (0 : Nat) r.length r).length =
 (List.map (pairF (winL (Sh.int IntKind.i64) (0 : Nat) r.length r) c.toNat)
 (List.range (winL (Sh.int IntKind.i64) (0 : Nat) r.length r).length)).length ∧
 ctPl.pre
 (o,
 ((),
 (List.map (pairF (winL (Sh.int IntKind.i64) (0 : Nat) r.length r) c.toNat)
 (List.range (winL (Sh.int IntKind.i64) (0 : Nat) r.length r).length),
 ()),
 ()),
 ()) ∧
 (0 : Nat) + o.length ≤
 (srtP
 (List.map (pairF (winL (Sh.int IntKind.i64) (0 : Nat) r.length r) c.toNat)
 (List.range (winL (Sh.int IntKind.i64) (0 : Nat) r.length r).length))
 o).length ∧
 (0 : Nat) +
 (List.map (pairF (winL (Sh.int IntKind.i64) (0 : Nat) r.length r) c.toNat)
 (List.range (winL (Sh.int IntKind.i64) (0 : Nat) r.length r).length)).length ≤
 (List.map (pairF (winL (Sh.int IntKind.i64) (0 : Nat) r.length r) c.toNat)
 (List.range (winL (Sh.int IntKind.i64) (0 : Nat) r.length r).length)).length ∧
 ctRk.pre
 (winL (Sh.int IntKind.i64) (0 : Nat) o.length
 (srtP
 (List.map (pairF (winL (Sh.int IntKind.i64) (0 : Nat) r.length r) c.toNat)
 (List.range (winL (Sh.int IntKind.i64) (0 : Nat) r.length r).length))
 o),
 winL shP (0 : Nat)
 (List.map (pairF (winL (Sh.int IntKind.i64) (0 : Nat) r.length r) c.toNat)
 (List.range (winL (Sh.int IntKind.i64) (0 : Nat) r.length r).length)).length
 (List.map (pairF (winL (Sh.int IntKind.i64) (0 : Nat) r.length r) c.toNat)
 (List.range (winL (Sh.int IntKind.i64) (0 : Nat) r.length r).length)),
 ()) ∧
 (0 : Int) ≤ IntKind.i64.wrap ((↑o.length : Int) - (1 : Int)) ∧
 IntKind.i64.wrap ((↑o.length : Int) - (1 : Int)) < (↑o.length : Int) ∧
 (0 : Nat) + (IntKind.i64.wrap ((↑o.length : Int) - (1 : Int))).toNat <
 (srtP
 (List.map (pairF (winL (Sh.int IntKind.i64) (0 : Nat) r.length r) c.toNat)
 (List.range (winL (Sh.int IntKind.i64) (0 : Nat) r.length r).length))
 o).length ∧
 (0 : Int) ≤
 gt (Sh.int IntKind.i64)
 (srtP
 (List.map (pairF (winL (Sh.int IntKind.i64) (0 : Nat) r.length r) c.toNat)
 (List.range (winL (Sh.int IntKind.i64) (0 : Nat) r.length r).length))
 o)
 ((0 : Nat) + (IntKind.i64.wrap ((↑o.length : Int) - (1 : Int))).toNat) ∧
 gt (Sh.int IntKind.i64)
 (srtP
 (List.map (pairF (winL (Sh.int IntKind.i64) (0 : Nat) r.length r) c.toNat)
 (List.range (winL (Sh.int IntKind.i64) (0 : Nat) r.length r).length))
 o)
 ((0 : Nat) + (IntKind.i64.wrap ((↑o.length : Int) - (1 : Int))).toNat) <
 (↑(rankV
 (winL shP (0 : Nat)
 (List.map (pairF (winL (Sh.int IntKind.i64) (0 : Nat) r.length r) c.toNat)
 (List.range (winL (Sh.int IntKind.i64) (0 : Nat) r.length r).length)).length
 (List.map (pairF (winL (Sh.int IntKind.i64) (0 : Nat) r.length r) c.toNat)
 (List.range (winL (Sh.int IntKind.i64) (0 : Nat) r.length r).length)))
 (natsOf
 (winL (Sh.int IntKind.i64) (0 : Nat) o.length
 (srtP
 (List.map (pairF (winL (Sh.int IntKind.i64) (0 : Nat) r.length r) c.toNat)
 (List.range (winL (Sh.int IntKind.i64) (0 : Nat) r.length r).length))
 o)))).length :
 Int) ∧
 (0 : Nat) +
 Int.toNat
 (gt (Sh.int IntKind.i64)
 (srtP
 (List.map (pairF (winL (Sh.int IntKind.i64) (0 : Nat) r.length r) c.toNat)
 (List.range (winL (Sh.int IntKind.i64) (0 : Nat) r.length r).length))
 o)
 ((0 : Nat) + (IntKind.i64.wrap ((↑o.length : Int) - (1 : Int))).toNat)) <
 (rankV
 (winL shP (0 : Nat)
 (List.map (pairF (winL (Sh.int IntKind.i64) (0 : Nat) r.length r) c.toNat)
 (List.range (winL (Sh.int IntKind.i64) (0 : Nat) r.length r).length)).length
 (List.map (pairF (winL (Sh.int IntKind.i64) (0 : Nat) r.length r) c.toNat)
 (List.range (winL (Sh.int IntKind.i64) (0 : Nat) r.length r).length)))
 (natsOf
 (winL (Sh.int IntKind.i64) (0 : Nat) o.length
 (srtP
 (List.map (pairF (winL (Sh.int IntKind.i64) (0 : Nat) r.length r) c.toNat)
 (List.range (winL (Sh.int IntKind.i64) (0 : Nat) r.length r).length))
 o)))).length ∧
 bc
 (decide
 (gt (Sh.int IntKind.i64)
 (rankV
 (winL shP (0 : Nat)
 (List.map (pairF (winL (Sh.int IntKind.i64) (0 : Nat) r.length r) c.toNat)
 (List.range
 (winL (Sh.int IntKind.i64) (0 : Nat) r.length r).length)).length
 (List.map (pairF (winL (Sh.int IntKind.i64) (0 : Nat) r.length r) c.toNat)
 (List.range (winL (Sh.int IntKind.i64) (0 : Nat) r.length r).length)))
 (natsOf
 (winL (Sh.int IntKind.i64) (0 : Nat) o.length
 (srtP
 (List.map (pairF (winL (Sh.int IntKind.i64) (0 : Nat) r.length r) c.toNat)
 (List.range (winL (Sh.int IntKind.i64) (0 : Nat) r.length r).length))
 o))))
 ((0 : Nat) +
 Int.toNat
 (gt (Sh.int IntKind.i64)
 (srtP
 (List.map (pairF (winL (Sh.int IntKind.i64) (0 : Nat) r.length r) c.toNat)
 (List.range (winL (Sh.int IntKind.i64) (0 : Nat) r.length r).length))
 o)
 ((0 : Nat) + (IntKind.i64.wrap ((↑o.length : Int) - (1 : Int))).toNat))) =
 IntKind.i64.wrap ((↑o.length : Int) - (1 : Int))))
 (Q [SV.win true (Sh.int IntKind.i64) (12 : Nat) (0 : Nat) o.length]
 [((8 : Nat),
 LB.var
 [SV.win true (Sh.arr (2 : Nat) (Sh.int IntKind.i64)) (1167936 : Nat) (0 : Nat)
 (List.map (pairF (winL (Sh.int IntKind.i64) (0 : Nat) r.length r) c.toNat)
 (List.range
 (winL (Sh.int IntKind.i64) (0 : Nat) r.length r).length)).length]),
 ((12 : Nat),
 LB.row (3 : Nat) (Sh.int IntKind.i64)
 (srtP
 (List.map (pairF (winL (Sh.int IntKind.i64) (0 : Nat) r.length r) c.toNat)
 (List.range (winL (Sh.int IntKind.i64) (0 : Nat) r.length r).length))
 o)),
 ((15 : Nat), LB.row (3 : Nat) (Sh.int IntKind.i64) r),
 ((1167936 : Nat),
 LB.row (45 : Nat) (Sh.arr (2 : Nat) (Sh.int IntKind.i64))
 (List.map (pairF (winL (Sh.int IntKind.i64) (0 : Nat) r.length r) c.toNat)
 (List.range (winL (Sh.int IntKind.i64) (0 : Nat) r.length r).length))),
 ((1192512 : Nat),
 LB.row (3 : Nat) (Sh.int IntKind.i64)
 (rankV
 (winL shP (0 : Nat)
 (List.map (pairF (winL (Sh.int IntKind.i64) (0 : Nat) r.length r) c.toNat)
 (List.range
 (winL (Sh.int IntKind.i64) (0 : Nat) r.length r).length)).length
 (List.map (pairF (winL (Sh.int IntKind.i64) (0 : Nat) r.length r) c.toNat)
 (List.range (winL (Sh.int IntKind.i64) (0 : Nat) r.length r).length)))
 (natsOf
 (winL (Sh.int IntKind.i64) (0 : Nat) o.length
 (srtP
 (List.map
 (pairF (winL (Sh.int IntKind.i64) (0 : Nat) r.length r) c.toNat)
 (List.range (winL (Sh.int IntKind.i64) (0 : Nat) r.length r).length))
 o)))))])
 (R (hd Try.f14 (1 : Nat))
 {
 env :=
 [((0 : Nat), SV.sl (Sh.int IntKind.u8) b),
 ((3 : Nat), SV.win true (Sh.int IntKind.i64) (12 : Nat) (0 : Nat) o.length),
 ((4 : Nat),
 SV.win true (Sh.int IntKind.i64) (1192512 : Nat) (0 : Nat)
 (rankV
 (winL shP (0 : Nat)
 (List.map
 (pairF (winL (Sh.int IntKind.i64) (0 : Nat) r.length r) c.toNat)
 (List.range
 (winL (Sh.int IntKind.i64) (0 : Nat) r.length r).length)).length
 (List.map
 (pairF (winL (Sh.int IntKind.i64) (0 : Nat) r.length r) c.toNat)
 (List.range
 (winL (Sh.int IntKind.i64) (0 : Nat) r.length r).length)))
 (natsOf
 (winL (Sh.int IntKind.i64) (0 : Nat) o.length
 (srtP
 (List.map
 (pairF (winL (Sh.int IntKind.i64) (0 : Nat) r.length r) c.toNat)
 (List.range
 (winL (Sh.int IntKind.i64) (0 : Nat) r.length r).length))
 o)))).length),
 ((7 : Nat), SV.int IntKind.i64 (IntKind.i64.wrap (c * (2 : Int))))],
 blk :=
 [((12 : Nat),
 LB.row (3 : Nat) (Sh.int IntKind.i64)
 (srtP
 (List.map (pairF (winL (Sh.int IntKind.i64) (0 : Nat) r.length r) c.toNat)
 (List.range (winL (Sh.int IntKind.i64) (0 : Nat) r.length r).length))
 o)),
 ((1192512 : Nat),
 LB.row (3 : Nat) (Sh.int IntKind.i64)
 (rankV
 (winL shP (0 : Nat)
 (List.map
 (pairF (winL (Sh.int IntKind.i64) (0 : Nat) r.length r) c.toNat)
 (List.range
 (winL (Sh.int IntKind.i64) (0 : Nat) r.length r).length)).length
 (List.map
 (pairF (winL (Sh.int IntKind.i64) (0 : Nat) r.length r) c.toNat)
 (List.range (winL (Sh.int IntKind.i64) (0 : Nat) r.length r).length)))
 (natsOf
 (winL (Sh.int IntKind.i64) (0 : Nat) o.length
 (srtP
 (List.map
 (pairF (winL (Sh.int IntKind.i64) (0 : Nat) r.length r) c.toNat)
 (List.range
 (winL (Sh.int IntKind.i64) (0 : Nat) r.length r).length))
 o)))))] }))
 (Q [SV.win true (Sh.int IntKind.i64) (12 : Nat) (0 : Nat) o.length]
 [((12 : Nat), LB.row (3 : Nat) (Sh.int IntKind.i64) o), ((15 : Nat), LB.row (3 : Nat) (Sh.int IntKind.i64) r)])) := by kernel_rfl
end Go.Proofs.Ytijeaicbnfiegaa
