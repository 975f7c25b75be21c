/-
  A part of the proof: what pieces of the program give; conditions: those of each theorem.
-/
import Derived.Test.YtjcknfkddbiobaaQ2
set_option linter.unusedVariables false
namespace Go.Proofs.Ytjcknfkddbiobaa
open Go.Px Go.Ax
set_option maxRecDepth 100000
theorem vc_sord (b : List Int) (Q : List SV → List (Nat × LB) → Prop) (R : List Item → PS → Prop) : sy tt G0 D6 Try.f14.ntmps Try.f14.results.toList Q R 1000 [.code (bodyOf Try.f14)] (entry [.sl (.int .u8)] (b, ())) =
    ((0 : Int) ≤ (↑b.length : Int) ∧
 (↑b.length : Int) ≤ (↑b.length : Int) ∧
 (↑b.length : Int) < (2 : Int) ^ (24 : Nat) ∧
 (↑(8 : Nat) : Int) * (↑b.length : Int) ≤ (2 : Int) ^ (48 : Nat) ∧
 (0 : Int) ≤ (↑b.length : Int) ∧
 (↑b.length : Int) ≤ (↑b.length : Int) ∧
 (↑b.length : Int) < (2 : Int) ^ (24 : Nat) ∧
 (↑(8 : Nat) : Int) * (↑b.length : Int) ≤ (2 : Int) ^ (48 : Nat) ∧
 R (hd Try.f14 (0 : Nat))
 {
 env :=
 [((0 : Nat), SV.sl (Sh.int IntKind.u8) b), ((2 : Nat), SV.nils),
 ((3 : Nat), SV.win true (Sh.int IntKind.i64) (12 : Nat) (0 : Nat) (↑b.length : Int).toNat),
 ((4 : Nat), SV.win true (Sh.int IntKind.i64) (15 : Nat) (0 : Nat) (↑b.length : Int).toNat),
 ((10 : Nat), SV.sl (Sh.int IntKind.u8) b), ((11 : Nat), SV.int IntKind.i64 (↑b.length : Int)),
 ((12 : Nat), SV.win true (Sh.int IntKind.i64) (12 : Nat) (0 : Nat) (↑b.length : Int).toNat),
 ((13 : Nat), SV.sl (Sh.int IntKind.u8) b), ((14 : Nat), SV.int IntKind.i64 (↑b.length : Int)),
 ((15 : Nat), SV.win true (Sh.int IntKind.i64) (15 : Nat) (0 : Nat) (↑b.length : Int).toNat),
 ((16 : Nat), SV.sl (Sh.int IntKind.u8) b), ((17 : Nat), SV.int IntKind.i64 (↑b.length : Int)),
 ((18 : Nat), SV.int IntKind.i64 (0 : Int))],
 blk :=
 [((12 : Nat),
 LB.row (3 : Nat) (Sh.int IntKind.i64)
 (List.replicate (↑b.length : Int).toNat (Sh.int IntKind.i64).dflt)),
 ((15 : Nat),
 LB.row (3 : Nat) (Sh.int IntKind.i64)
 (List.replicate (↑b.length : Int).toNat (Sh.int IntKind.i64).dflt))] }) := by kernel_rfl
theorem vc_sordI (b o r : List Int) (i : Int) (Q : List SV → List (Nat × LB) → Prop) (R : List Item → PS → Prop) : sy tt G0 D6 Try.f14.ntmps Try.f14.results.toList Q (fun it S => R it (keepS [0, 3, 4, 16, 17, 18, 7] [12, 15] S)) 1000 (hd Try.f14 0) ⟨[(0, .sl (.int .u8) b), (3, .win true (.int .i64) 12 0 o.length), (4, .win true (.int .i64) 15 0 r.length), (16, .sl (.int .u8) b), (17, .int .i64 b.length), (18, .int .i64 i)], [(12, .row 3 (.int .i64) o), (15, .row 3 (.int .i64) r)]⟩ =
    (bc (decide (i < (↑b.length : Int)))
 ((0 : Int) ≤ i ∧
 i < (↑b.length : Int) ∧
 (0 : Int) ≤ i ∧
 i < (↑o.length : Int) ∧
 (0 : Nat) + i.toNat < o.length ∧
 (0 : Int) ≤ i ∧
 i < (↑r.length : Int) ∧
 (0 : Nat) + i.toNat < r.length ∧
 R (hd Try.f14 (0 : Nat))
 {
 env :=
 [((0 : Nat), SV.sl (Sh.int IntKind.u8) b),
 ((3 : Nat), SV.win true (Sh.int IntKind.i64) (12 : Nat) (0 : Nat) o.length),
 ((4 : Nat), SV.win true (Sh.int IntKind.i64) (15 : Nat) (0 : Nat) r.length),
 ((16 : Nat), SV.sl (Sh.int IntKind.u8) b), ((17 : Nat), SV.int IntKind.i64 (↑b.length : Int)),
 ((18 : Nat), SV.int IntKind.i64 (IntKind.i64.wrap (i + (1 : Int))))],
 blk :=
 [((12 : Nat), LB.row (3 : Nat) (Sh.int IntKind.i64) (o.set ((0 : Nat) + i.toNat) i)),
 ((15 : Nat),
 LB.row (3 : Nat) (Sh.int IntKind.i64)
 (r.set ((0 : Nat) + i.toNat) (IntKind.i64.wrap (gt (Sh.int IntKind.u8) b i.toNat))))] })
 (R (hd Try.f14 (1 : Nat))
 {
 env :=
 [((0 : Nat), SV.sl (Sh.int IntKind.u8) b),
 ((3 : Nat), SV.win true (Sh.int IntKind.i64) (12 : Nat) (0 : Nat) o.length),
 ((4 : Nat), SV.win true (Sh.int IntKind.i64) (15 : Nat) (0 : Nat) r.length),
 ((7 : Nat), SV.int IntKind.i64 (1 : Int)), ((16 : Nat), SV.sl (Sh.int IntKind.u8) b),
 ((17 : Nat), SV.int IntKind.i64 (↑b.length : Int)), ((18 : Nat), SV.int IntKind.i64 i)],
 blk :=
 [((12 : Nat), LB.row (3 : Nat) (Sh.int IntKind.i64) o),
 ((15 : Nat), LB.row (3 : Nat) (Sh.int IntKind.i64) r)] })) := by kernel_rfl
theorem vc_sordL (b o r : List Int) (c : Int) (Q : List SV → List (Nat × LB) → Prop) (R : List Item → PS → Prop) : sy tt G0 D6 Try.f14.ntmps Try.f14.results.toList Q (fun it S => R it (keepS [0, 3, 4, 7] [12, 1192512] S)) 1000 (hd Try.f14 1) ⟨[(0, .sl (.int .u8) b), (3, .win true (.int .i64) 12 0 o.length), (4, .win true (.int .i64) 15 0 r.length), (7, .int .i64 c)], [(12, .row 3 (.int .i64) o), (15, .row 3 (.int .i64) r)]⟩ =
    (bc (decide (c < (↑b.length : Int)))
 ((0 : Nat) + r.length ≤ r.length ∧
 ctPa.pre (winL (Sh.int IntKind.i64) (0 : Nat) r.length r, c, ()) ∧
 o.length = o.length ∧
 (winL (Sh.int IntKind.i64) (0 : Nat) r.length r).length =
 (List.map (pairF (winL (Sh.int IntKind.i64) (0 : Nat) r.length r) c.toNat)
 (List.range (winL (Sh.int IntKind.i64) (0 : Nat) r.length r).length)).length ∧
 ctPl.pre
 (o,
 ((),
 (List.map (pairF (winL (Sh.int IntKind.i64) (0 : Nat) r.length r) c.toNat)
 (List.range (winL (Sh.int IntKind.i64) (0 : Nat) r.length r).length),
 ()),
 ()),
 ()) ∧
 (0 : Nat) + o.length ≤
 (srtP
 (List.map (pairF (winL (Sh.int IntKind.i64) (0 : Nat) r.length r) c.toNat)
 (List.range (winL (Sh.int IntKind.i64) (0 : Nat) r.length r).length))
 o).length ∧
 (0 : Nat) +
 (List.map (pairF (winL (Sh.int IntKind.i64) (0 : Nat) r.length r) c.toNat)
 (List.range (winL (Sh.int IntKind.i64) (0 : Nat) r.length r).length)).length ≤
 (List.map (pairF (winL (Sh.int IntKind.i64) (0 : Nat) r.length r) c.toNat)
 (List.range (winL (Sh.int IntKind.i64) (0 : Nat) r.length r).length)).length ∧
 ctRk.pre
 (winL (Sh.int IntKind.i64) (0 : Nat) o.length
 (srtP
 (List.map (pairF (winL (Sh.int IntKind.i64) (0 : Nat) r.length r) c.toNat)
 (List.range (winL (Sh.int IntKind.i64) (0 : Nat) r.length r).length))
 o),
 winL shP (0 : Nat)
 (List.map (pairF (winL (Sh.int IntKind.i64) (0 : Nat) r.length r) c.toNat)
 (List.range (winL (Sh.int IntKind.i64) (0 : Nat) r.length r).length)).length
 (List.map (pairF (winL (Sh.int IntKind.i64) (0 : Nat) r.length r) c.toNat)
 (List.range (winL (Sh.int IntKind.i64) (0 : Nat) r.length r).length)),
 ()) ∧
 (0 : Int) ≤ IntKind.i64.wrap ((↑o.length : Int) - (1 : Int)) ∧
 IntKind.i64.wrap ((↑o.length : Int) - (1 : Int)) < (↑o.length : Int) ∧
 (0 : Nat) + (IntKind.i64.wrap ((↑o.length : Int) - (1 : Int))).toNat <
 (srtP
 (List.map (pairF (winL (Sh.int IntKind.i64) (0 : Nat) r.length r) c.toNat)
 (List.range (winL (Sh.int IntKind.i64) (0 : Nat) r.length r).length))
 o).length ∧
 (0 : Int) ≤
 gt (Sh.int IntKind.i64)
 (srtP
 (List.map (pairF (winL (Sh.int IntKind.i64) (0 : Nat) r.length r) c.toNat)
 (List.range (winL (Sh.int IntKind.i64) (0 : Nat) r.length r).length))
 o)
 ((0 : Nat) + (IntKind.i64.wrap ((↑o.length : Int) - (1 : Int))).toNat) ∧
 gt (Sh.int IntKind.i64)
 (srtP
 (List.map (pairF (winL (Sh.int IntKind.i64) (0 : Nat) r.length r) c.toNat)
 (List.range (winL (Sh.int IntKind.i64) (0 : Nat) r.length r).length))
 o)
 ((0 : Nat) + (IntKind.i64.wrap ((↑o.length : Int) - (1 : Int))).toNat) <
 (↑(rankV
 (winL shP (0 : Nat)
 (List.map (pairF (winL (Sh.int IntKind.i64) (0 : Nat) r.length r) c.toNat)
 (List.range (winL (Sh.int IntKind.i64) (0 : Nat) r.length r).length)).length
 (List.map (pairF (winL (Sh.int IntKind.i64) (0 : Nat) r.length r) c.toNat)
 (List.range (winL (Sh.int IntKind.i64) (0 : Nat) r.length r).length)))
 (natsOf
 (winL (Sh.int IntKind.i64) (0 : Nat) o.length
 (srtP
 (List.map (pairF (winL (Sh.int IntKind.i64) (0 : Nat) r.length r) c.toNat)
 (List.range (winL (Sh.int IntKind.i64) (0 : Nat) r.length r).length))
 o)))).length :
 Int) ∧
 (0 : Nat) +
 Int.toNat
 (gt (Sh.int IntKind.i64)
 (srtP
 (List.map (pairF (winL (Sh.int IntKind.i64) (0 : Nat) r.length r) c.toNat)
 (List.range (winL (Sh.int IntKind.i64) (0 : Nat) r.length r).length))
 o)
 ((0 : Nat) + (IntKind.i64.wrap ((↑o.length : Int) - (1 : Int))).toNat)) <
 (rankV
 (winL shP (0 : Nat)
 (List.map (pairF (winL (Sh.int IntKind.i64) (0 : Nat) r.length r) c.toNat)
 (List.range (winL (Sh.int IntKind.i64) (0 : Nat) r.length r).length)).length
 (List.map (pairF (winL (Sh.int IntKind.i64) (0 : Nat) r.length r) c.toNat)
 (List.range (winL (Sh.int IntKind.i64) (0 : Nat) r.length r).length)))
 (natsOf
 (winL (Sh.int IntKind.i64) (0 : Nat) o.length
 (srtP
 (List.map (pairF (winL (Sh.int IntKind.i64) (0 : Nat) r.length r) c.toNat)
 (List.range (winL (Sh.int IntKind.i64) (0 : Nat) r.length r).length))
 o)))).length ∧
 bc
 (decide
 (gt (Sh.int IntKind.i64)
 (rankV
 (winL shP (0 : Nat)
 (List.map (pairF (winL (Sh.int IntKind.i64) (0 : Nat) r.length r) c.toNat)
 (List.range
 (winL (Sh.int IntKind.i64) (0 : Nat) r.length r).length)).length
 (List.map (pairF (winL (Sh.int IntKind.i64) (0 : Nat) r.length r) c.toNat)
 (List.range (winL (Sh.int IntKind.i64) (0 : Nat) r.length r).length)))
 (natsOf
 (winL (Sh.int IntKind.i64) (0 : Nat) o.length
 (srtP
 (List.map (pairF (winL (Sh.int IntKind.i64) (0 : Nat) r.length r) c.toNat)
 (List.range (winL (Sh.int IntKind.i64) (0 : Nat) r.length r).length))
 o))))
 ((0 : Nat) +
 Int.toNat
 (gt (Sh.int IntKind.i64)
 (srtP
 (List.map (pairF (winL (Sh.int IntKind.i64) (0 : Nat) r.length r) c.toNat)
 (List.range (winL (Sh.int IntKind.i64) (0 : Nat) r.length r).length))
 o)
 ((0 : Nat) + (IntKind.i64.wrap ((↑o.length : Int) - (1 : Int))).toNat))) =
 IntKind.i64.wrap ((↑o.length : Int) - (1 : Int))))
 (Q [SV.win true (Sh.int IntKind.i64) (12 : Nat) (0 : Nat) o.length]
 [((8 : Nat),
 LB.var
 [SV.win true (Sh.arr (2 : Nat) (Sh.int IntKind.i64)) (1167936 : Nat) (0 : Nat)
 (List.map (pairF (winL (Sh.int IntKind.i64) (0 : Nat) r.length r) c.toNat)
 (List.range
 (winL (Sh.int IntKind.i64) (0 : Nat) r.length r).length)).length]),
 ((12 : Nat),
 LB.row (3 : Nat) (Sh.int IntKind.i64)
 (srtP
 (List.map (pairF (winL (Sh.int IntKind.i64) (0 : Nat) r.length r) c.toNat)
 (List.range (winL (Sh.int IntKind.i64) (0 : Nat) r.length r).length))
 o)),
 ((15 : Nat), LB.row (3 : Nat) (Sh.int IntKind.i64) r),
 ((1167936 : Nat),
 LB.row (45 : Nat) (Sh.arr (2 : Nat) (Sh.int IntKind.i64))
 (List.map (pairF (winL (Sh.int IntKind.i64) (0 : Nat) r.length r) c.toNat)
 (List.range (winL (Sh.int IntKind.i64) (0 : Nat) r.length r).length))),
 ((1192512 : Nat),
 LB.row (3 : Nat) (Sh.int IntKind.i64)
 (rankV
 (winL shP (0 : Nat)
 (List.map (pairF (winL (Sh.int IntKind.i64) (0 : Nat) r.length r) c.toNat)
 (List.range
 (winL (Sh.int IntKind.i64) (0 : Nat) r.length r).length)).length
 (List.map (pairF (winL (Sh.int IntKind.i64) (0 : Nat) r.length r) c.toNat)
 (List.range (winL (Sh.int IntKind.i64) (0 : Nat) r.length r).length)))
 (natsOf
 (winL (Sh.int IntKind.i64) (0 : Nat) o.length
 (srtP
 (List.map
 (pairF (winL (Sh.int IntKind.i64) (0 : Nat) r.length r) c.toNat)
 (List.range (winL (Sh.int IntKind.i64) (0 : Nat) r.length r).length))
 o)))))])
 (R (hd Try.f14 (1 : Nat))
 {
 env :=
 [((0 : Nat), SV.sl (Sh.int IntKind.u8) b),
 ((3 : Nat), SV.win true (Sh.int IntKind.i64) (12 : Nat) (0 : Nat) o.length),
 ((4 : Nat),
 SV.win true (Sh.int IntKind.i64) (1192512 : Nat) (0 : Nat)
 (rankV
 (winL shP (0 : Nat)
 (List.map
 (pairF (winL (Sh.int IntKind.i64) (0 : Nat) r.length r) c.toNat)
 (List.range
 (winL (Sh.int IntKind.i64) (0 : Nat) r.length r).length)).length
 (List.map
 (pairF (winL (Sh.int IntKind.i64) (0 : Nat) r.length r) c.toNat)
 (List.range
 (winL (Sh.int IntKind.i64) (0 : Nat) r.length r).length)))
 (natsOf
 (winL (Sh.int IntKind.i64) (0 : Nat) o.length
 (srtP
 (List.map
 (pairF (winL (Sh.int IntKind.i64) (0 : Nat) r.length r) c.toNat)
 (List.range
 (winL (Sh.int IntKind.i64) (0 : Nat) r.length r).length))
 o)))).length),
 ((7 : Nat), SV.int IntKind.i64 (IntKind.i64.wrap (c * (2 : Int))))],
 blk :=
 [((12 : Nat),
 LB.row (3 : Nat) (Sh.int IntKind.i64)
 (srtP
 (List.map (pairF (winL (Sh.int IntKind.i64) (0 : Nat) r.length r) c.toNat)
 (List.range (winL (Sh.int IntKind.i64) (0 : Nat) r.length r).length))
 o)),
 ((1192512 : Nat),
 LB.row (3 : Nat) (Sh.int IntKind.i64)
 (rankV
 (winL shP (0 : Nat)
 (List.map
 (pairF (winL (Sh.int IntKind.i64) (0 : Nat) r.length r) c.toNat)
 (List.range
 (winL (Sh.int IntKind.i64) (0 : Nat) r.length r).length)).length
 (List.map
 (pairF (winL (Sh.int IntKind.i64) (0 : Nat) r.length r) c.toNat)
 (List.range (winL (Sh.int IntKind.i64) (0 : Nat) r.length r).length)))
 (natsOf
 (winL (Sh.int IntKind.i64) (0 : Nat) o.length
 (srtP
 (List.map
 (pairF (winL (Sh.int IntKind.i64) (0 : Nat) r.length r) c.toNat)
 (List.range
 (winL (Sh.int IntKind.i64) (0 : Nat) r.length r).length))
 o)))))] }))
 (Q [SV.win true (Sh.int IntKind.i64) (12 : Nat) (0 : Nat) o.length]
 [((12 : Nat), LB.row (3 : Nat) (Sh.int IntKind.i64) o), ((15 : Nat), LB.row (3 : Nat) (Sh.int IntKind.i64) r)])) := by kernel_rfl
end Go.Proofs.Ytjcknfkddbiobaa
namespace Go.Proofs.Ytjcknfkddbiobaa
open Go.Px
/-- The first k of a suffix. -/
def pre (x : List Int) (k i : Nat) : List Int := (x.drop i).take k
theorem lexLt_app : ∀ (a : List Int) {b d : List Int}, lexLt (a ++ b) (a ++ d) = lexLt b d
  | [], _, _ => rfl
  | x :: a, b, d => by
    rw [List.cons_append, List.cons_append, lexLt, if_pos rfl]
    exact lexLt_app a
theorem lexLt_app2 : ∀ (a c : List Int) {b d : List Int}, a ≠ c → (a.length < c.length → b = []) → (c.length < a.length → d = []) → lexLt (a ++ b) (c ++ d) = lexLt a c
  | [], [], _, _, h, _, _ => absurd rfl h
  | [], y :: c, b, d, _, h1, _ => by rw [h1 (by simp)]; rfl
  | x :: a, [], b, d, _, _, h2 => by rw [h2 (by simp)]; rfl
  | x :: a, y :: c, b, d, h, h1, h2 => by
    rw [List.cons_append, List.cons_append, lexLt, lexLt]
    by_cases e : x = y
    · subst e
      rw [if_pos rfl, if_pos rfl]
      exact lexLt_app2 a c (fun q => h (by rw [q])) (fun q => h1 (by simpa using q)) (fun q => h2 (by simpa using q))
    · rw [if_neg e, if_neg e]
theorem lexLt_take : ∀ (m : Nat) (u v : List Int), lexLt (u.take m) (v.take m) = true → lexLt u v = true
  | 0, u, v, h => by rw [List.take_zero, List.take_zero] at h; exact absurd h (by decide)
  | m + 1, [], [], h => absurd h (by simp [lexLt])
  | m + 1, [], y :: v, _ => rfl
  | m + 1, x :: u, [], h => absurd h (by simp [lexLt])
  | m + 1, x :: u, y :: v, h => by
    rw [List.take_succ_cons, List.take_succ_cons, lexLt] at h
    rw [lexLt]
    by_cases e : x = y
    · rw [if_pos e] at h ⊢
      exact lexLt_take m u v h
    · rw [if_neg e] at h ⊢
      exact h
theorem pre_len (x : List Int) (k i : Nat) : (pre x k i).length = min k (x.length - i) := by
  unfold pre
  rw [List.length_take, List.length_drop]
theorem pre_nil {x : List Int} {k i : Nat} (h : x.length ≤ i) : pre x k i = [] := by
  unfold pre
  rw [List.drop_of_length_le h, List.take_nil]
theorem pre_dbl (x : List Int) (k i : Nat) : pre x (k * 2) i = pre x k i ++ pre x k (i + k) := by
  unfold pre
  rw [show k * 2 = k + k by omega, List.take_add, List.drop_drop]
/-- Ranks of the first k. -/
structure RI (x : List Int) (k : Nat) (r : List Int) : Prop where
  len : r.length = x.length
  pos : ∀ i, i < x.length → 0 ≤ G64 r i
  lt : ∀ i j, i < x.length → j < x.length → (G64 r i < G64 r j ↔ lexLt (pre x k i) (pre x k j) = true)
theorem RI.eq {x : List Int} {k : Nat} {r : List Int} (h : RI x k r) {i j : Nat} (hi : i < x.length) (hj : j < x.length) : G64 r i = G64 r j ↔ pre x k i = pre x k j := by
  have a := h.lt i j hi hj
  have b := h.lt j i hj hi
  constructor
  · intro e
    rcases lexLt_tri (pre x k i) (pre x k j) with q | q | q
    · exact q
    · have := a.2 q; omega
    · have := b.2 q; omega
  · intro e
    rw [e, lexLt_irrefl] at a b
    have a' : ¬ (G64 r i < G64 r j) := fun q => absurd (a.1 q) (by decide)
    have b' : ¬ (G64 r j < G64 r i) := fun q => absurd (b.1 q) (by decide)
    omega
abbrev prs (r : List Int) (k : Nat) : List (List Int) := (List.range r.length).map (pairF r k)
theorem prs_len (r : List Int) (k : Nat) : (prs r k).length = r.length := by simp
theorem gt_prs {r : List Int} {k i : Nat} (h : i < r.length) : gt shP (prs r k) i = pairF r k i := by
  have e := gt_at (σ := shP) (l := prs r k) (i := i) (by rw [prs_len]; exact h)
  have : (prs r k)[i]? = some (pairF r k i) := by simp [prs, h]
  rw [this] at e
  exact (Option.some.inj e).symm
theorem pBef_iff (p q : List Int) : pBef p q = true ↔ G64 p 0 < G64 q 0 ∨ (G64 p 0 = G64 q 0 ∧ G64 p 1 < G64 q 1) := by
  unfold pBef
  by_cases h : G64 p 0 = G64 q 0
  · rw [decide_eq_true h]
    simp [h]
  · rw [decide_eq_false h]
    simp [h]
theorem wo_pb (p : List (List Int)) : WO (pbB p) := by
  have F : ∀ x y, pbB p x y = false ↔ ¬ (pBef (gt shP p x.toNat) (gt shP p y.toNat) = true) := fun x y => by unfold pbB; simp
  refine ⟨fun x y h => (F _ _).2 fun k => ?_, fun x y z h k => (F _ _).2 fun q => ?_⟩
  · have h : pBef (gt shP p x.toNat) (gt shP p y.toNat) = true := h
    rw [pBef_iff] at h k
    omega
  · have h := (F _ _).1 h
    have k := (F _ _).1 k
    rw [pBef_iff] at h k q
    omega
/-- The pairs of ranks are the ranks of twice as many. -/
theorem pairs_lt {x : List Int} {k : Nat} {r : List Int} (h : RI x k r) (hk : 0 < k) {i j : Nat} (hi : i < x.length) (hj : j < x.length) : pBef (pairF r k i) (pairF r k j) = lexLt (pre x (k * 2) i) (pre x (k * 2) j) := by
  have hl := h.len
  rw [pre_dbl, pre_dbl]
  have p0 : ∀ i, G64 (pairF r k i) 0 = G64 r i := fun i => rfl
  have p1 : ∀ i, G64 (pairF r k i) 1 = if i + k < x.length then G64 r (i + k) else -1 := fun i => by rw [← hl]; rfl
  by_cases e : pre x k i = pre x k j
  · rw [e, lexLt_app]
    have e0 : G64 r i = G64 r j := (h.eq hi hj).2 e
    rw [Bool.eq_iff_iff, pBef_iff, p0, p0, p1, p1, e0]
    simp only [Int.lt_irrefl, false_or, true_and]
    by_cases c1 : i + k < x.length
    · by_cases c2 : j + k < x.length
      · rw [if_pos c1, if_pos c2]
        exact h.lt _ _ c1 c2
      · rw [if_pos c1, if_neg c2, pre_nil (i := j + k) (by omega)]
        have := h.pos _ c1
        constructor
        · intro q; omega
        · intro q
          cases hp : pre x k (i + k) <;> rw [hp] at q <;> simp [lexLt] at q
    · by_cases c2 : j + k < x.length
      · rw [if_neg c1, if_pos c2, pre_nil (i := i + k) (by omega)]
        have := h.pos _ c2
        refine ⟨fun _ => ?_, fun _ => by omega⟩
        have hlen := pre_len x k (j + k)
        cases hp : pre x k (j + k) with
        | nil => rw [hp] at hlen; simp at hlen; omega
        | cons a l => rfl
      · rw [if_neg c1, if_neg c2, pre_nil (i := i + k) (by omega), pre_nil (i := j + k) (by omega)]
        exact ⟨fun q => by omega, fun q => absurd q (by decide)⟩
  · have hne : G64 r i ≠ G64 r j := fun q => e ((h.eq hi hj).1 q)
    have li := pre_len x k i
    have lj := pre_len x k j
    rw [lexLt_app2 _ _ e (fun q => pre_nil (by omega)) (fun q => pre_nil (by omega)), Bool.eq_iff_iff, pBef_iff, p0, p0, ← h.lt i j hi hj]
    omega
theorem pairs_eq {k : Nat} {r : List Int} {i j : Nat} : (pBef (pairF r k i) (pairF r k j) = false ∧ pBef (pairF r k j) (pairF r k i) = false) ↔ pairF r k i = pairF r k j := by
  constructor
  · rintro ⟨a, b⟩
    have a : ¬ (pBef (pairF r k i) (pairF r k j) = true) := by rw [a]; decide
    have b : ¬ (pBef (pairF r k j) (pairF r k i) = true) := by rw [b]; decide
    rw [pBef_iff] at a b
    have e0 : G64 (pairF r k i) 0 = G64 (pairF r k j) 0 := by omega
    have e1 : G64 (pairF r k i) 1 = G64 (pairF r k j) 1 := by omega
    show [G64 (pairF r k i) 0, G64 (pairF r k i) 1] = [G64 (pairF r k j) 0, G64 (pairF r k j) 1]
    rw [e0, e1]
  · intro e
    rw [e]
    have : pBef (pairF r k j) (pairF r k j) = false := by
      cases hh : pBef (pairF r k j) (pairF r k j) with
      | false => rfl
      | true => rw [pBef_iff] at hh; omega
    exact ⟨this, this⟩
section
variable {x : List Int} {k : Nat} {r : List Int} {o : List Nat}
/-- A place's order, sorted by pairs. -/
structure SOP (x : List Int) (k : Nat) (r : List Int) (o : List Nat) : Prop where
  perm : o.Perm (List.range x.length)
  srt : ∀ a b (hb : b < o.length) (hab : a < b), pBef (pairF r k o[b]) (pairF r k (o[a]'(by omega))) = false
theorem SOP.len (h : SOP x k r o) : o.length = x.length := by simpa using h.perm.length_eq
theorem SOP.lt (h : SOP x k r o) {a : Nat} (ha : a < o.length) : o[a] < x.length := by simpa using h.perm.mem_iff.1 (List.getElem_mem ha)
theorem rk_mono (p : List (List Int)) (o : List Nat) (a : Nat) : ∀ d, rk p o a ≤ rk p o (a + d)
  | 0 => Nat.le_refl _
  | d + 1 => by
    have := rk_mono p o a d
    rw [← Nat.add_assoc, rk]
    omega
theorem SOP.rk_eq (hr : RI x k r) (h : SOP x k r o) {a : Nat} : ∀ d, (hd : a + d < o.length) → (rk (prs r k) o a = rk (prs r k) o (a + d) ↔ pairF r k (o[a]'(by omega)) = pairF r k o[a + d])
  | 0, _ => by simp
  | d + 1, hd => by
    have ih := SOP.rk_eq hr h (a := a) d (by omega)
    have hl := hr.len
    have hol := h.len
    have m := rk_mono (prs r k) o a d
    have l1 := h.lt (a := a + d) (by omega)
    have l2 := h.lt (a := a + d + 1) (by omega)
    have st : rk (prs r k) o (a + d + 1) = rk (prs r k) o (a + d) + if pairF r k (o[a + d + 1]'(by omega)) ≠ pairF r k (o[a + d]'(by omega)) then 1 else 0 := by
      rw [rk, List.getElem?_eq_getElem (show a + d + 1 < o.length by omega), List.getElem?_eq_getElem (show a + d < o.length by omega)]
      simp only [Option.getD_some, gt_prs (show o[a + d + 1] < r.length by omega), gt_prs (show o[a + d] < r.length by omega)]
    simp only [← Nat.add_assoc]
    constructor
    · intro e
      rw [st] at e
      by_cases c : pairF r k (o[a + d + 1]'(by omega)) ≠ pairF r k (o[a + d]'(by omega))
      · rw [if_pos c] at e; omega
      · rw [if_neg c] at e
        have c := Classical.not_not.1 c
        rw [c]
        exact ih.1 (by omega)
    · intro e
      have s2 := h.srt (a + d) (a + d + 1) (by omega) (by omega)
      have eq2 : pairF r k (o[a]'(by omega)) = pairF r k (o[a + d]'(by omega)) := by
        by_cases hd0 : d = 0
        · subst hd0; rfl
        · have s1 := h.srt a (a + d) (by omega) (by omega)
          rw [← e] at s2
          exact pairs_eq.1 ⟨s2, s1⟩
      rw [st, if_neg (fun c => c (by rw [← e, eq2])), Nat.add_zero]
      exact ih.2 eq2
theorem SOP.rk_lt (hr : RI x k r) (h : SOP x k r o) {a b : Nat} (ha : a < o.length) (hb : b < o.length) : rk (prs r k) o a < rk (prs r k) o b ↔ pBef (pairF r k o[a]) (pairF r k o[b]) = true := by
  constructor
  · intro q
    have hab : a < b := by
      apply Classical.byContradiction
      intro c
      have := rk_mono (prs r k) o b (a - b)
      rw [show b + (a - b) = a by omega] at this
      omega
    have s := h.srt a b hb hab
    cases e : pBef (pairF r k o[a]) (pairF r k o[b]) with
    | true => rfl
    | false =>
      have := pairs_eq.1 ⟨e, s⟩
      have := (h.rk_eq hr (a := a) (b - a) (by omega)).2 (by simp only [show a + (b - a) = b by omega]; exact this)
      rw [show a + (b - a) = b by omega] at this
      omega
  · intro q
    have hne : pairF r k o[a] ≠ pairF r k o[b] := fun e => by
      have := (pairs_eq.2 e).1
      rw [q] at this; cases this
    have hab : a < b := by
      apply Classical.byContradiction
      intro c
      by_cases e : a = b
      · subst e; exact hne rfl
      · have := h.srt b a ha (by omega)
        rw [q] at this; cases this
    have m := rk_mono (prs r k) o a (b - a)
    have e := h.rk_eq hr (a := a) (b - a) (by omega)
    simp only [show a + (b - a) = b by omega] at m e
    have : rk (prs r k) o a ≠ rk (prs r k) o b := fun z => hne (e.1 z)
    omega
/-- The next ranks. -/
theorem SOP.next (hr : RI x k r) (hk : 0 < k) (h : SOP x k r o) : RI x (k * 2) (rankV (prs r k) o) := by
  have hol := h.len
  have g : ∀ i, i < x.length → G64 (rankV (prs r k) o) i = ((rk (prs r k) o (o.idxOf i) : Nat) : Int) := fun i hi => gt_rowF (by omega)
  refine ⟨by rw [rankV, rowF_len, hol], fun i hi => by rw [g i hi]; exact Int.natCast_nonneg _, fun i j hi hj => ?_⟩
  rw [g i hi, g j hj, Int.ofNat_lt, h.rk_lt hr (ixlt h.perm hi) (ixlt h.perm hj), ixat h.perm hi, ixat h.perm hj, pairs_lt hr hk hi hj]
theorem SOP.ok_of (h : SOP x k r o) (hs : ∀ a b (hb : b < o.length) (hab : a < b), sl x (o[a]'(by omega)) o[b] = true) : OrdOK x o := ⟨h.perm, List.pairwise_iff_getElem.2 fun a b _ hb hab => hs a b hb hab⟩
theorem SOP.ne (h : SOP x k r o) {a b : Nat} (hb : b < o.length) (hab : a < b) : o[a]'(by omega) ≠ o[b] := fun e => by
  have := nodup_at (h.perm.nodup_iff.2 List.nodup_range) (show a < o.length by omega) hb e
  omega
theorem SOP.long (hr : RI x k r) (hk : 0 < k) (h : SOP x k r o) (hn : x.length ≤ k * 2) : OrdOK x o := by
  refine h.ok_of fun a b hb hab => ?_
  have s := h.srt a b hb hab
  rw [pairs_lt hr hk (h.lt hb) (h.lt (by omega))] at s
  have w : ∀ i, pre x (k * 2) i = x.drop i := fun i => by
    unfold pre
    exact List.take_of_length_le (by rw [List.length_drop]; omega)
  rw [w, w] at s
  rcases sl_tri (h.lt (show a < o.length by omega)) (h.lt hb) with q | q | q
  · exact absurd q (h.ne hb hab)
  · exact q
  · unfold sl at q; rw [s] at q; cases q
theorem rk_step_le (p : List (List Int)) (o : List Nat) (a : Nat) : ∀ d, rk p o (a + d) ≤ rk p o a + d
  | 0 => Nat.le_refl _
  | d + 1 => by
    have := rk_step_le p o a d
    rw [← Nat.add_assoc, rk]
    split <;> omega
theorem SOP.full (hr : RI x k r) (hk : 0 < k) (h : SOP x k r o) (h0 : 0 < o.length) (hf : rk (prs r k) o (o.length - 1) = o.length - 1) : OrdOK x o := by
  refine h.ok_of fun a b hb hab => ?_
  have r1 := rk_le (prs r k) o a
  have r3 := rk_step_le (prs r k) o b (o.length - 1 - b)
  rw [show b + (o.length - 1 - b) = o.length - 1 by omega, hf] at r3
  have := (h.rk_lt hr (show a < o.length by omega) hb).1 (by omega)
  rw [pairs_lt hr hk (h.lt (by omega)) (h.lt hb)] at this
  exact lexLt_take _ _ _ this
end
end Go.Proofs.Ytjcknfkddbiobaa
namespace Go.Proofs.Ytjcknfkddbiobaa
open Go.Px Go.Ax
def bytesOK (b : List Int) : Prop := ∀ c ∈ b, 0 ≤ c ∧ c < 256
def preSo (b : List Int) : Prop := b.length < 1048576 ∧ bytesOK b
def ctSo : Ctr := ⟨[slB], fun x => preSo x.1, fun x => [.win true (.int .i64) 0 0 (List.length (mapI (ordB x.1)))], fun x => [.row 3 (.int .i64) (mapI (ordB x.1))]⟩
abbrev QSo (b : List Int) : List SV → List (Nat × LB) → Prop := fun rs blk => rs = [.win true (.int .i64) 12 0 b.length] ∧ lk blk 12 = some (.row 3 (.int .i64) (mapI (ordB b)))
theorem winAll {e : Sh} (l : List e.D) : winL e 0 l.length l = l := by
  unfold winL
  rw [List.drop_zero, List.take_length]
theorem ints_of_perm {l : List Int} {o : List Nat} (h : l.Perm (mapI o)) : l = mapI (natsOf l) ∧ (natsOf l).Perm o := by
  have hp : ∀ i ∈ l, 0 ≤ i := by
    intro i hi
    have := h.mem_iff.1 hi
    unfold mapI at this
    obtain ⟨k, _, rfl⟩ := List.mem_map.1 this
    exact Int.natCast_nonneg k
  constructor
  · unfold mapI natsOf
    rw [List.map_map]
    conv => lhs; rw [← List.map_id l]
    refine List.map_congr_left fun i hi => ?_
    have := hp i hi
    simp only [Function.comp, id]
    omega
  · have := h.map Int.toNat
    rw [show (mapI o).map Int.toNat = o from nats_map o] at this
    exact this
theorem sop_of {x : List Int} {k : Nat} {r : List Int} {o : List Nat} (hr : r.length = x.length) (ho : o.Perm (List.range x.length)) (hs : Srt (pbB (prs r k)) (mapI o)) : SOP x k r o := by
  refine ⟨ho, fun a b hb hab => ?_⟩
  have hl : ∀ {a : Nat} (ha : a < o.length), o[a] < x.length := fun ha => by simpa using ho.mem_iff.1 (List.getElem_mem ha)
  have := List.pairwise_iff_getElem.1 hs a b (by rw [mapI_len]; omega) (by rw [mapI_len]; exact hb) hab
  unfold pbB at this
  have e : ∀ {a : Nat} (ha : a < o.length), (mapI o)[a]'(by rw [mapI_len]; exact ha) = ((o[a] : Nat) : Int) := fun ha => by simp [mapI]
  rw [e hb, e (show a < o.length by omega), Int.toNat_natCast, Int.toNat_natCast, gt_prs (by have := hl hb; omega), gt_prs (by have := hl (show a < o.length by omega); omega)] at this
  exact this
abbrev oS (x : List Int) (o : List Nat) (r : List Int) (c : Nat) : PS := ⟨[(0, .sl (.int .u8) x), (3, .win true (.int .i64) 12 0 (mapI o).length), (4, .win true (.int .i64) 15 0 r.length), (7, .int .i64 (c : Int))], [(12, .row 3 (.int .i64) (mapI o)), (15, .row 3 (.int .i64) r)]⟩
theorem so_loop {x : List Int} (hx : x.length < 1048576) : ∀ (m c : Nat) (o : List Nat) (r : List Int), x.length ≤ c + m → 0 < c → c < 2097152 → RI x c r → o.Perm (List.range x.length) → (x.length ≤ c → OrdOK x o) →
    GD 14 Try.f14 (QSo x) (hd Try.f14 1) (oS x o r c) := by
  intro m
  induction m with
  | zero =>
    intro c o r hm hc hc2 hr ho hok
    refine sy_goK cxd6 (vc_sordL _ _ _ _ _ _) (bc_of (fun h => ?_) (fun h => ?_))
    · have h := of_decide_eq_true h; omega
    · have hok := hok (by omega)
      have e := hok.unique (ordN_ok x)
      rw [e]
      exact ⟨by rw [mapI_len, ordN_len], rfl⟩
  | succ m ih =>
    intro c o r hm hc hc2 hr ho hok
    by_cases hlt : c < x.length
    · refine sy_goK cxd6 (vc_sordL _ _ _ _ _ _) ?_
      have hrl := hr.len
      have hol : o.length = x.length := by simpa using ho.length_eq
      have hml := mapI_len o
      have w1 := winAll (e := .int .i64) r
      rw [decide_eq_true (show (c : Int) < (x.length : Int) by omega), bc_t, w1, Int.toNat_natCast]
      generalize hp : (List.range r.length).map (pairF r c) = p
      have hpl : p.length = x.length := by rw [← hp]; simp [hrl]
      have w2 := winAll (e := shP) p
      rw [w2]
      have hin : inP p (mapI o) := by
        intro i hi
        unfold mapI at hi
        obtain ⟨k, hk, rfl⟩ := List.mem_map.1 hi
        have := ho.mem_iff.1 hk
        rw [List.mem_range] at this
        omega
      generalize hl : srtP p (mapI o) = l
      have hperm : l.Perm (mapI o) := by rw [← hl]; exact sortF_perm _ _ _ _
      have hsrt : Srt (pbB p) l := by rw [← hl]; exact sortF_srt (wo_pb p) _ _ _ (Nat.le_refl _)
      obtain ⟨e1, hp2⟩ := ints_of_perm hperm
      have hp3 := hp2.trans ho
      have hll : l.length = x.length := by rw [hperm.length_eq, mapI_len, hol]
      have w3 := winAll (e := .int .i64) l
      rw [hml, hol, ← hll, w3, hll]
      generalize natsOf l = o' at e1 hp3
      subst e1
      have hol' : o'.length = x.length := by simpa using hp3.length_eq
      have sop : SOP x c r o' := sop_of hrl hp3 (by rw [show prs r c = p from hp]; exact hsrt)
      have hlast : IntKind.i64.wrap ((x.length : Int) - 1) = ((x.length - 1 : Nat) : Int) := by rw [IntWalk.i64_in _ (by omega)]; omega
      have g1 : gt (Sh.int .i64) (mapI o') (0 + (x.length - 1)) = ((o'[x.length - 1]'(by omega) : Nat) : Int) := by rw [Nat.zero_add]; exact gt_mapI (by omega)
      have o1 := sop.lt (a := x.length - 1) (by omega)
      have hvl : (rankV p o').length = x.length := by rw [rankV, rowF_len, hol']
      have g2 : gt (Sh.int .i64) (rankV p o') (0 + (o'[x.length - 1]'(by omega))) = ((rk p o' (x.length - 1) : Nat) : Int) := by
        rw [Nat.zero_add]
        have := gt_rowF (n := o'.length) (f := fun j => ((rk p o' (o'.idxOf j) : Nat) : Int)) (i := o'[x.length - 1]'(by omega)) (by omega)
        rw [show o'.idxOf (o'[x.length - 1]'(by omega)) = x.length - 1 from nodup_at (hp3.nodup_iff.2 List.nodup_range) (ixlt hp3 o1) (by omega) (ixat hp3 o1)] at this
        exact this
      rw [hlast, Int.toNat_natCast, g1, Int.toNat_natCast, g2, hvl]
      refine ⟨by omega, (show prePa r (c : Int) from ⟨by omega, by omega, by omega⟩), rfl, by omega, (show prePl (mapI o) p from ⟨by rw [mapI_len]; omega, hin⟩), by omega, by omega,
        (show preRk (mapI o') p from ⟨by omega, o', by rw [hpl]; exact hp3, rfl⟩), by omega, by omega, (by have := mapI_len o'; omega), (show (0 : Int) ≤ ((o'[x.length - 1]'(by omega) : Nat) : Int) by omega), (show ((o'[x.length - 1]'(by omega) : Nat) : Int) < (x.length : Int) by omega), (by omega), bc_of (fun h => ?_) (fun h => ?_)⟩
      · have h := of_decide_eq_true h
        have h' : ((rk p o' (x.length - 1) : Nat) : Int) = ((x.length - 1 : Nat) : Int) := h
        have hok2 : OrdOK x o' := sop.full hr hc (by omega) (by rw [show prs r c = p from hp, hol']; omega)
        have e := hok2.unique (ordN_ok x)
        rw [e]
        exact ⟨rfl, rfl⟩
      · have hw : IntKind.i64.wrap ((c : Int) * 2) = ((c * 2 : Nat) : Int) := by rw [IntWalk.i64_in _ (by omega)]; omega
        rw [hw]
        have nx := sop.next hr hc
        rw [show prs r c = p from hp] at nx
        refine (ih (c * 2) o' (rankV p o') (by omega) (by omega) (by omega) nx hp3 (fun hn => sop.long hr hc hn)).onlyR [(15, 1192512)] rfl ⟨rfl, ?_, ?_, rfl, trivial⟩ ⟨rfl, rfl, trivial⟩
        · rw [mapI_len, hol']; rfl
        · rw [hvl]; rfl
    · exact ih c o r (by omega) hc hc2 hr ho hok
theorem pre_one {x : List Int} {i : Nat} (h : i < x.length) : pre x 1 i = [x[i]] := by
  unfold pre
  rw [List.drop_eq_getElem_cons h]
  rfl
theorem ri_one {x : List Int} (hb : bytesOK x) : RI x 1 x := by
  have g : ∀ i (h : i < x.length), G64 x i = x[i] := fun i h => gt_eq h
  refine ⟨rfl, fun i hi => by rw [g i hi]; exact (hb _ (List.getElem_mem hi)).1, fun i j hi hj => ?_⟩
  rw [g i hi, g j hj, pre_one hi, pre_one hj, lexLt]
  by_cases e : x[i] = x[j]
  · rw [if_pos e, e]
    exact ⟨fun h => absurd h (Int.lt_irrefl _), fun h => absurd h (by decide)⟩
  · rw [if_neg e]
    simp
abbrev oI (x : List Int) (i : Nat) : List Int := bld (fun (j : Nat) => ((j : Nat) : Int)) x.length i 0
abbrev rI' (x : List Int) (i : Nat) : List Int := bld (fun j => G64 x j) x.length i 0
theorem oI_all (x : List Int) : oI x x.length = mapI (List.range x.length) := bld_all
theorem rI_all (x : List Int) : rI' x x.length = x := by
  rw [rI', bld_all]
  apply List.ext_getElem
  · simp
  · intro j h1 h2
    simp only [List.getElem_map, List.getElem_range]
    exact gt_eq h2
theorem so_init {x : List Int} (hx : x.length < 1048576) (hb : bytesOK x) : ∀ (m i : Nat), x.length - i ≤ m → i ≤ x.length →
    GD 14 Try.f14 (QSo x) (hd Try.f14 0) ⟨[(0, .sl (.int .u8) x), (3, .win true (.int .i64) 12 0 (oI x i).length), (4, .win true (.int .i64) 15 0 (rI' x i).length), (16, .sl (.int .u8) x), (17, .int .i64 x.length), (18, .int .i64 (i : Int))], [(12, .row 3 (.int .i64) (oI x i)), (15, .row 3 (.int .i64) (rI' x i))]⟩ := by
  have fin : GD 14 Try.f14 (QSo x) (hd Try.f14 0) ⟨[(0, .sl (.int .u8) x), (3, .win true (.int .i64) 12 0 (oI x x.length).length), (4, .win true (.int .i64) 15 0 (rI' x x.length).length), (16, .sl (.int .u8) x), (17, .int .i64 x.length), (18, .int .i64 (x.length : Int))], [(12, .row 3 (.int .i64) (oI x x.length)), (15, .row 3 (.int .i64) (rI' x x.length))]⟩ := by
    refine sy_goK cxd6 (vc_sordI _ _ _ _ _ _) (bc_of (fun h => ?_) (fun h => ?_))
    · have h := of_decide_eq_true h; omega
    · rw [oI_all, rI_all]
      refine (so_loop hx x.length 1 (List.range x.length) x (by omega) (by omega) (by omega) (ri_one hb) (.refl _) (fun hn => ⟨.refl _, ?_⟩)).only ⟨rfl, rfl, rfl, rfl, trivial⟩ ⟨rfl, rfl, trivial⟩
      obtain h0 | h0 : x.length = 0 ∨ x.length = 1 := by omega
      · rw [h0]; exact List.Pairwise.nil
      · rw [h0]; exact List.pairwise_singleton _ _
  intro m
  induction m with
  | zero =>
    intro i hm h1
    obtain rfl : i = x.length := by omega
    exact fin
  | succ m ih =>
    intro i hm h1
    by_cases hi : i < x.length
    · refine sy_goK cxd6 (vc_sordI _ _ _ _ _ _) ?_
      have l1 : (oI x i).length = x.length := bld_len h1
      have l2 : (rI' x i).length = x.length := bld_len h1
      have hbi := hb _ (List.getElem_mem hi)
      have g : gt (Sh.int .u8) x i = x[i] := gt_eq hi
      have g' : G64 x i = x[i] := gt_eq hi
      have w1 : IntKind.i64.wrap ((i : Int) + 1) = ((i + 1 : Nat) : Int) := by rw [IntWalk.i64_in _ (by omega)]; omega
      have w2 : IntKind.i64.wrap x[i] = x[i] := IntWalk.i64_in _ (by omega)
      rw [decide_eq_true (show (i : Int) < (x.length : Int) by omega), bc_t, Int.toNat_natCast, g, w1, w2, l1, l2, Nat.zero_add]
      refine ⟨by omega, by omega, by omega, by omega, by omega, by omega, by omega, by omega, ?_⟩
      have q := ih (i + 1) (by omega) (by omega)
      have s1 : (oI x i).set i (i : Int) = oI x (i + 1) := bld_set (f := fun (j : Nat) => ((j : Nat) : Int)) hi
      have s2 : (rI' x i).set i x[i] = rI' x (i + 1) := by rw [← g']; exact bld_set (f := fun j => G64 x j) hi
      rw [← s1, ← s2] at q
      refine q.only ⟨rfl, ?_, ?_, rfl, rfl, rfl, trivial⟩ ⟨rfl, rfl, trivial⟩
      · rw [List.length_set, l1]; rfl
      · rw [List.length_set, l2]; rfl
    · obtain rfl : i = x.length := by omega
      exact fin
theorem so_run (x : List Int) (hp : preSo x) : sy tt G0 D6 Try.f14.ntmps Try.f14.results.toList (QC ctSo (x, ())) (Px.Good Try.prog tt G0 14 Try.f14.ntmps Try.f14.results.toList (QC ctSo (x, ()))) 1000 [.code (bodyOf Try.f14)] (entry [slB] (x, ())) := by
  obtain ⟨hx, hb⟩ := hp
  refine (vc_sord _ _ _).mpr ⟨by omega, Int.le_refl _, by omega, by omega, by omega, Int.le_refl _, by omega, by omega, ?_⟩
  rw [Int.toNat_natCast]
  have q := so_init hx hb _ 0 (Nat.le_refl _) (Nat.zero_le _)
  refine (q.post fun rs blk hq => ?_).only ⟨rfl, ?_, ?_, rfl, rfl, rfl, trivial⟩ ⟨rfl, rfl, trivial⟩
  · refine QC.row (e := .int .i64) (et := 3) (a := 12) (k := x.length) (xs := mapI (ordB x)) rfl rfl hq.1 (by rw [mapI_len, ordB, ordN_len]) hq.2
  · rw [show (oI x 0).length = x.length from bld_len (Nat.zero_le _)]; rfl
  · rw [show (rI' x 0).length = x.length from bld_len (Nat.zero_le _)]; rfl
theorem so_held : Held Try.prog G0 14 ctSo := Held.run cxd6 (fn := Try.f14) rfl rfl ⟨by decide, by decide⟩ fun x hp => so_run x.1 hp
theorem bytes_of {l : List Int} (h : ∀ n ∈ l, (Lit.int .u8 n).wf = true) : bytesOK l := fun n hn => by
  have := Go.bounds_u8 (h n hn)
  exact ⟨this.1, by omega⟩
end Go.Proofs.Ytjcknfkddbiobaa
namespace Go.Proofs.Ytjcknfkddbiobaa
open Go.Px Go.Ax
set_option maxRecDepth 100000
theorem vc_permL (o : List Int) (u : List Bool) (i : Int) (Q : List SV → List (Nat × LB) → Prop) (R : List Item → PS → Prop) : sy tt G0 [] Try.f19.ntmps Try.f19.results.toList Q (fun it S => R it (keepS [0, 3, 4] [7] S)) 1000 (hd Try.f19 0) ⟨[(0, .sl (.int .i64) o), (3, .win true .bool 7 0 u.length), (4, .int .i64 i)], [(7, .row 4 .bool u)]⟩ =
    (bc (decide (i < (↑o.length : Int)))
 ((0 : Int) ≤ i ∧
 i < (↑o.length : Int) ∧
 bc (decide (gt (Sh.int IntKind.i64) o i.toNat < (0 : Int)))
 (true = true ∧ true = true ∧ Q [SV.bool false] [((7 : Nat), LB.row (4 : Nat) Sh.bool u)])
 ((0 : Int) ≤ i ∧
 i < (↑o.length : Int) ∧
 bc (bif false then true else decide ((↑o.length : Int) ≤ gt (Sh.int IntKind.i64) o i.toNat))
 (true = true ∧ Q [SV.bool false] [((7 : Nat), LB.row (4 : Nat) Sh.bool u)])
 ((0 : Int) ≤ i ∧
 i < (↑o.length : Int) ∧
 (0 : Int) ≤ gt (Sh.int IntKind.i64) o i.toNat ∧
 gt (Sh.int IntKind.i64) o i.toNat < (↑u.length : Int) ∧
 (0 : Nat) + Int.toNat (gt (Sh.int IntKind.i64) o i.toNat) < u.length ∧
 bc
 (bif false then true
 else gt Sh.bool u ((0 : Nat) + Int.toNat (gt (Sh.int IntKind.i64) o i.toNat)))
 (Q [SV.bool false] [((7 : Nat), LB.row (4 : Nat) Sh.bool u)])
 ((0 : Int) ≤ i ∧
 i < (↑o.length : Int) ∧
 (0 : Int) ≤ gt (Sh.int IntKind.i64) o i.toNat ∧
 gt (Sh.int IntKind.i64) o i.toNat < (↑u.length : Int) ∧
 (0 : Nat) + Int.toNat (gt (Sh.int IntKind.i64) o i.toNat) < u.length ∧
 R (hd Try.f19 (0 : Nat))
 {
 env :=
 [((0 : Nat), SV.sl (Sh.int IntKind.i64) o),
 ((3 : Nat), SV.win true Sh.bool (7 : Nat) (0 : Nat) u.length),
 ((4 : Nat), SV.int IntKind.i64 (IntKind.i64.wrap (i + (1 : Int))))],
 blk :=
 [((7 : Nat),
 LB.row (4 : Nat) Sh.bool
 (u.set ((0 : Nat) + Int.toNat (gt (Sh.int IntKind.i64) o i.toNat))
 true))] }))))
 (Q [SV.bool true] [((7 : Nat), LB.row (4 : Nat) Sh.bool u)])) := by kernel_rfl
end Go.Proofs.Ytjcknfkddbiobaa
namespace Go.Proofs.Ytjcknfkddbiobaa
open Go.Px Go.Ax
theorem map_set {α : Type} {n : Nat} {f g : Nat → α} {i : Nat} {v : α} (hi : g i = v) (h : ∀ j, j < n → j ≠ i → f j = g j) : ((List.range n).map f).set i v = (List.range n).map g := by
  apply List.ext_getElem
  · simp
  · intro j h1 h2
    simp only [List.length_map, List.length_range] at h2
    rw [List.getElem_set]
    simp only [List.getElem_map, List.getElem_range]
    by_cases e : i = j
    · subst e; rw [if_pos rfl, hi]
    · rw [if_neg e]; exact h j h2 (Ne.symm e)
theorem gt_map {e : Sh} {n : Nat} {f : Nat → e.D} {i : Nat} (h : i < n) : gt e ((List.range n).map f) i = f i := by
  have q := gt_at (σ := e) (l := (List.range n).map f) (i := i) (by simp [h])
  have : ((List.range n).map f)[i]? = some (f i) := by simp [h]
  rw [this] at q
  exact (Option.some.inj q).symm
def preIsP (l : List Int) : Prop := l.length < 1048576 ∧ ∃ o : List Nat, o.Perm (List.range l.length) ∧ l = mapI o
def ctIsP : Ctr := ⟨[slI], fun x => preIsP x.1, fun _ => [.bool true], fun _ => []⟩
abbrev pU (o : List Nat) (i : Nat) : List Bool := (List.range o.length).map fun j => decide (o.idxOf j < i)
theorem perm_loop {o : List Nat} (ho : o.Perm (List.range o.length)) (hn : o.length < 1048576) : ∀ (m i : Nat), o.length - i ≤ m → i ≤ o.length →
    GD 19 Try.f19 (fun rs _ => rs = [.bool true]) (hd Try.f19 0) ⟨[(0, .sl (.int .i64) (mapI o)), (3, .win true .bool 7 0 (pU o i).length), (4, .int .i64 (i : Int))], [(7, .row 4 .bool (pU o i))]⟩ := by
  have hnd : o.Nodup := ho.nodup_iff.2 List.nodup_range
  have hlt : ∀ {j : Nat} (h : j < o.length), o[j] < o.length := fun h => by simpa using ho.mem_iff.1 (List.getElem_mem h)
  intro m
  induction m with
  | zero =>
    intro i hm h1
    refine sy_goK cx0 (vc_permL _ _ _ _ _) (bc_of (fun h => ?_) (fun h => ?_))
    · have h := of_decide_eq_true h; rw [mapI_len] at h; omega
    · rfl
  | succ m ih =>
    intro i hm h1
    by_cases hi : i < o.length
    · refine sy_goK cx0 (vc_permL _ _ _ _ _) ?_
      have hx := hlt hi
      have g : gt (Sh.int .i64) (mapI o) (i : Int).toNat = ((o[i] : Nat) : Int) := gt_mapI hi
      have hidx : o.idxOf o[i] = i := nodup_at hnd (ixlt ho hx) hi (ixat ho hx)
      have hul : (pU o i).length = o.length := by simp
      have gu : gt Sh.bool (pU o i) (0 + o[i]) = false := by
        rw [Nat.zero_add]
        have := gt_map (e := .bool) (f := fun j => decide (o.idxOf j < i)) hx
        rw [this, hidx]
        exact decide_eq_false (Nat.lt_irrefl _)
      have e : (pU o i).set (0 + o[i]) true = pU o (i + 1) := by
        rw [Nat.zero_add]
        refine map_set (by rw [hidx]; exact decide_eq_true (by omega)) fun j hj hne => ?_
        have : o.idxOf j ≠ i := by
          intro q
          have := ixat ho hj
          simp only [q] at this
          exact hne this.symm
        by_cases q : o.idxOf j < i
        · rw [decide_eq_true q, decide_eq_true (by omega)]
        · rw [decide_eq_false q, decide_eq_false (by omega)]
      have w : IntKind.i64.wrap ((i : Int) + 1) = ((i + 1 : Nat) : Int) := by rw [IntWalk.i64_in _ (by omega)]; omega
      rw [g, Int.toNat_natCast, gu, w, mapI_len, hul, decide_eq_true (show (i : Int) < (o.length : Int) by omega), bc_t, decide_eq_false (show ¬ (((o[i] : Nat) : Int) < 0) by omega), bc_f, decide_eq_false (show ¬ ((o.length : Int) ≤ ((o[i] : Nat) : Int)) by omega)]
      have a1 : (0 : Int) ≤ ((o[i] : Nat) : Int) := by omega
      have a2 : ((o[i] : Nat) : Int) < (o.length : Int) := by omega
      have a3 : 0 + o[i] < o.length := by omega
      refine ⟨by omega, by omega, by omega, by omega, ?_⟩
      rw [cond_false, bc_f]
      refine ⟨by omega, by omega, a1, a2, a3, ?_⟩
      rw [bc_f, e]
      refine ⟨by omega, by omega, a1, a2, a3, ?_⟩
      refine (ih (i + 1) (by omega) (by omega)).only ⟨rfl, ?_, rfl, trivial⟩ ⟨rfl, trivial⟩
      rw [show (pU o (i + 1)).length = o.length by simp]; rfl
    · exact ih i (by omega) h1
theorem perm_run (l : List Int) (hp : preIsP l) : sy tt G0 [] Try.f19.ntmps Try.f19.results.toList (QC ctIsP (l, ())) (Px.Good Try.prog tt G0 19 Try.f19.ntmps Try.f19.results.toList (QC ctIsP (l, ()))) 1000 [.code (bodyOf Try.f19)] (entry [slI] (l, ())) := by
  obtain ⟨hn, o, ho, rfl⟩ := hp
  rw [mapI_len] at hn ho
  refine (vc_perm _ _ _).mpr ?_
  rw [mapI_len]
  refine ⟨by omega, Int.le_refl _, by omega, by omega, ?_⟩
  rw [Int.toNat_natCast]
  have e0 : List.replicate o.length Sh.bool.dflt = pU o 0 := by
    apply List.ext_getElem
    · simp
    · intro j h1 h2
      simp; rfl
  rw [e0]
  refine ((perm_loop ho hn _ 0 (Nat.le_refl _) (Nat.zero_le _)).post fun rs blk hq => QC.flat hq.symm rfl (by rw [hq]; rfl)).only ⟨rfl, ?_, rfl, trivial⟩ ⟨rfl, trivial⟩
  rw [show (pU o 0).length = o.length by simp]; rfl
theorem perm_held : Held Try.prog G0 19 ctIsP := Held.run cx0 (fn := Try.f19) rfl rfl ⟨by decide, by decide⟩ fun x hp => perm_run x.1 hp
def D7 : CV := (19, .inl ctIsP) :: (14, .inl ctSo) :: C10
theorem cxd7 : CxOK Try.prog tt G0 D7 := (cx10.cons so_held (fn := Try.f14) rfl rfl rfl).cons perm_held (fn := Try.f19) rfl rfl rfl
end Go.Proofs.Ytjcknfkddbiobaa
namespace Go.Proofs.Ytjcknfkddbiobaa
open Go.Px Go.Ax
set_option maxRecDepth 100000
theorem vc_rlon (b s : List Int) (Q : List SV → List (Nat × LB) → Prop) (R : List Item → PS → Prop) : sy tt G0 C4 Try.f16.ntmps Try.f16.results.toList Q R 1000 [.code (bodyOf Try.f16)] (entry [.sl (.int .u8), .sl (.int .u8)] (b, s, ())) =
    (R (hd Try.f16 (0 : Nat))
 {
 env :=
 [((0 : Nat), SV.sl (Sh.int IntKind.u8) b), ((1 : Nat), SV.sl (Sh.int IntKind.u8) s),
 ((4 : Nat), SV.ptr (4 : Nat) (0 : Nat)), ((5 : Nat), SV.ptr (5 : Nat) (0 : Nat)),
 ((6 : Nat), SV.int IntKind.i64 (0 : Int)),
 ((8 : Nat),
 SV.agg
 [SV.int IntKind.i64 ((Sh.int IntKind.i64).pair (Sh.int IntKind.i64)).dflt.fst,
 SV.int IntKind.i64 ((Sh.int IntKind.i64).pair (Sh.int IntKind.i64)).dflt.snd])],
 blk :=
 [((4 : Nat),
 LB.var
 [SV.int IntKind.i64 ((Sh.int IntKind.i64).pair (Sh.int IntKind.i64)).dflt.fst,
 SV.int IntKind.i64 ((Sh.int IntKind.i64).pair (Sh.int IntKind.i64)).dflt.snd]),
 ((5 : Nat),
 LB.var
 [SV.int IntKind.i64 ((Sh.int IntKind.i64).pair (Sh.int IntKind.i64)).dflt.fst,
 SV.int IntKind.i64 ((Sh.int IntKind.i64).pair (Sh.int IntKind.i64)).dflt.snd])] }) := by kernel_rfl
theorem vc_rlonL (b s : List Int) (a n i : Int) (Q : List SV → List (Nat × LB) → Prop) (R : List Item → PS → Prop) : sy tt G0 C4 Try.f16.ntmps Try.f16.results.toList Q R 1000 (hd Try.f16 0) ⟨[(0, .sl (.int .u8) b), (1, .sl (.int .u8) s), (4, .ptr 4 0), (5, .ptr 5 0), (6, .int .i64 i)], [(4, .var [.int .i64 0, .int .i64 0]), (5, .var [.int .i64 a, .int .i64 n])]⟩ =
    (bc (decide (i < (↑b.length : Int)))
 ((0 : Int) ≤ i ∧
 i ≤ (↑b.length : Int) ∧
 ctLcp.pre (List.drop i.toNat b, s, ()) ∧
 bc (decide (n < (↑(lcp (List.drop i.toNat b) s) : Int)))
 (R (hd Try.f16 (0 : Nat))
 {
 env :=
 [((0 : Nat), SV.sl (Sh.int IntKind.u8) b), ((1 : Nat), SV.sl (Sh.int IntKind.u8) s),
 ((4 : Nat), SV.ptr (4 : Nat) (0 : Nat)), ((5 : Nat), SV.ptr (5 : Nat) (0 : Nat)),
 ((6 : Nat), SV.int IntKind.i64 (IntKind.i64.wrap (i + (1 : Int)))),
 ((7 : Nat), SV.int IntKind.i64 (↑(lcp (List.drop i.toNat b) s) : Int)),
 ((9 : Nat), SV.int IntKind.i64 i), ((10 : Nat), SV.sl (Sh.int IntKind.u8) b),
 ((11 : Nat), SV.int IntKind.i64 (↑b.length : Int)),
 ((12 : Nat), SV.bool (decide (i < (↑b.length : Int)))), ((13 : Nat), SV.int IntKind.i64 i),
 ((14 : Nat), SV.int IntKind.i64 (IntKind.i64.wrap (i + (1 : Int)))),
 ((15 : Nat), SV.sl (Sh.int IntKind.u8) b), ((16 : Nat), SV.int IntKind.i64 i),
 ((17 : Nat), SV.sl (Sh.int IntKind.u8) (List.drop i.toNat b)),
 ((18 : Nat), SV.sl (Sh.int IntKind.u8) s),
 ((19 : Nat), SV.int IntKind.i64 (↑(lcp (List.drop i.toNat b) s) : Int)),
 ((20 : Nat), SV.int IntKind.i64 (↑(lcp (List.drop i.toNat b) s) : Int)),
 ((21 : Nat), SV.ptr (5 : Nat) (1 : Nat)), ((22 : Nat), SV.int IntKind.i64 n),
 ((23 : Nat), SV.bool (decide (n < (↑(lcp (List.drop i.toNat b) s) : Int)))),
 ((24 : Nat), SV.int IntKind.i64 i),
 ((25 : Nat), SV.int IntKind.i64 (↑(lcp (List.drop i.toNat b) s) : Int)),
 ((26 : Nat),
 SV.agg [SV.int IntKind.i64 i, SV.int IntKind.i64 (↑(lcp (List.drop i.toNat b) s) : Int)])],
 blk :=
 [((4 : Nat), LB.var [SV.int IntKind.i64 (0 : Int), SV.int IntKind.i64 (0 : Int)]),
 ((5 : Nat),
 LB.var [SV.int IntKind.i64 i, SV.int IntKind.i64 (↑(lcp (List.drop i.toNat b) s) : Int)])] })
 (R (hd Try.f16 (0 : Nat))
 {
 env :=
 [((0 : Nat), SV.sl (Sh.int IntKind.u8) b), ((1 : Nat), SV.sl (Sh.int IntKind.u8) s),
 ((4 : Nat), SV.ptr (4 : Nat) (0 : Nat)), ((5 : Nat), SV.ptr (5 : Nat) (0 : Nat)),
 ((6 : Nat), SV.int IntKind.i64 (IntKind.i64.wrap (i + (1 : Int)))),
 ((7 : Nat), SV.int IntKind.i64 (↑(lcp (List.drop i.toNat b) s) : Int)),
 ((9 : Nat), SV.int IntKind.i64 i), ((10 : Nat), SV.sl (Sh.int IntKind.u8) b),
 ((11 : Nat), SV.int IntKind.i64 (↑b.length : Int)),
 ((12 : Nat), SV.bool (decide (i < (↑b.length : Int)))), ((13 : Nat), SV.int IntKind.i64 i),
 ((14 : Nat), SV.int IntKind.i64 (IntKind.i64.wrap (i + (1 : Int)))),
 ((15 : Nat), SV.sl (Sh.int IntKind.u8) b), ((16 : Nat), SV.int IntKind.i64 i),
 ((17 : Nat), SV.sl (Sh.int IntKind.u8) (List.drop i.toNat b)),
 ((18 : Nat), SV.sl (Sh.int IntKind.u8) s),
 ((19 : Nat), SV.int IntKind.i64 (↑(lcp (List.drop i.toNat b) s) : Int)),
 ((20 : Nat), SV.int IntKind.i64 (↑(lcp (List.drop i.toNat b) s) : Int)),
 ((21 : Nat), SV.ptr (5 : Nat) (1 : Nat)), ((22 : Nat), SV.int IntKind.i64 n),
 ((23 : Nat), SV.bool (decide (n < (↑(lcp (List.drop i.toNat b) s) : Int))))],
 blk :=
 [((4 : Nat), LB.var [SV.int IntKind.i64 (0 : Int), SV.int IntKind.i64 (0 : Int)]),
 ((5 : Nat), LB.var [SV.int IntKind.i64 a, SV.int IntKind.i64 n])] }))
 (Q [SV.agg [SV.int IntKind.i64 a, SV.int IntKind.i64 n]]
 [((4 : Nat), LB.var [SV.int IntKind.i64 a, SV.int IntKind.i64 n]),
 ((5 : Nat), LB.var [SV.int IntKind.i64 a, SV.int IntKind.i64 n])])) := by kernel_rfl
theorem vc_rcom (b o : List Int) (Q : List SV → List (Nat × LB) → Prop) (R : List Item → PS → Prop) : sy tt G0 C4 Try.f18.ntmps Try.f18.results.toList Q R 1000 [.code (bodyOf Try.f18)] (entry [.sl (.int .u8), .sl (.int .i64)] (b, o, ())) =
    (R (hd Try.f18 (0 : Nat))
 {
 env :=
 [((0 : Nat), SV.sl (Sh.int IntKind.u8) b), ((1 : Nat), SV.sl (Sh.int IntKind.i64) o), ((4 : Nat), SV.nils),
 ((5 : Nat), SV.win true (Sh.int IntKind.i64) (8 : Nat) (0 : Nat) (0 : Nat)),
 ((6 : Nat), SV.int IntKind.i64 (0 : Int)),
 ((8 : Nat), SV.win true (Sh.int IntKind.i64) (8 : Nat) (0 : Nat) (0 : Nat))],
 blk := [((8 : Nat), LB.row (3 : Nat) (Sh.int IntKind.i64) (List.replicate (0 : Nat) (Sh.int IntKind.i64).dflt))] }) := by kernel_rfl
theorem vc_rcomL (b o r : List Int) (i : Int) (Q : List SV → List (Nat × LB) → Prop) (R : List Item → PS → Prop) : sy tt G0 C4 Try.f18.ntmps Try.f18.results.toList Q R 1000 (hd Try.f18 0) ⟨[(0, .sl (.int .u8) b), (1, .sl (.int .i64) o), (5, .win true (.int .i64) 8 0 r.length), (6, .int .i64 i)], [(8, .row 3 (.int .i64) r)]⟩ =
    (bc (decide (i < (↑o.length : Int)))
 (bc (decide ((0 : Int) < i))
 ((0 : Int) ≤ IntKind.i64.wrap (i - (1 : Int)) ∧
 IntKind.i64.wrap (i - (1 : Int)) < (↑o.length : Int) ∧
 (0 : Int) ≤ gt (Sh.int IntKind.i64) o (IntKind.i64.wrap (i - (1 : Int))).toNat ∧
 gt (Sh.int IntKind.i64) o (IntKind.i64.wrap (i - (1 : Int))).toNat ≤ (↑b.length : Int) ∧
 (0 : Int) ≤ i ∧
 i < (↑o.length : Int) ∧
 (0 : Int) ≤ gt (Sh.int IntKind.i64) o i.toNat ∧
 gt (Sh.int IntKind.i64) o i.toNat ≤ (↑b.length : Int) ∧
 ctLcp.pre
 (List.drop (Int.toNat (gt (Sh.int IntKind.i64) o (IntKind.i64.wrap (i - (1 : Int))).toNat)) b,
 List.drop (Int.toNat (gt (Sh.int IntKind.i64) o i.toNat)) b, ()) ∧
 (0 : Nat) + (1 : Nat) ≤
 ((List.replicate (1 : Nat) (Sh.int IntKind.i64).dflt).set (0 : Nat)
 (↑(lcp
 (List.drop
 (Int.toNat (gt (Sh.int IntKind.i64) o (IntKind.i64.wrap (i - (1 : Int))).toNat))
 b)
 (List.drop (Int.toNat (gt (Sh.int IntKind.i64) o i.toNat)) b)) :
 Int)).length ∧
 r.length = r.length ∧
 (0 : Nat) = (0 : Nat) ∧
 r.length +
 (winL
 ((fun self => self.6)
 (mkT (1 : Nat) (8 : Nat) false (TK.int IntKind.i64) (Sh.int IntKind.i64) none))
 (0 : Nat) (1 : Nat)
 ((List.replicate (1 : Nat) (Sh.int IntKind.i64).dflt).set (0 : Nat)
 (↑(lcp
 (List.drop
 (Int.toNat
 (gt (Sh.int IntKind.i64) o (IntKind.i64.wrap (i - (1 : Int))).toNat))
 b)
 (List.drop (Int.toNat (gt (Sh.int IntKind.i64) o i.toNat)) b)) :
 Int))).length <
 (2 : Nat) ^ (30 : Nat) ∧
 (8 : Nat) ≤ (2 : Nat) ^ (10 : Nat) ∧
 R (hd Try.f18 (0 : Nat))
 {
 env :=
 [((0 : Nat), SV.sl (Sh.int IntKind.u8) b),
 ((1 : Nat), SV.sl (Sh.int IntKind.i64) o),
 ((5 : Nat),
 SV.win true (Sh.int IntKind.i64) (34 : Nat) (0 : Nat)
 (r.length +
 (winL
 ((fun self => self.6)
 (mkT (1 : Nat) (8 : Nat) false (TK.int IntKind.i64)
 (Sh.int IntKind.i64) none))
 (0 : Nat) (1 : Nat)
 ((List.replicate (1 : Nat) (Sh.int IntKind.i64).dflt).set (0 : Nat)
 (↑(lcp
 (List.drop
 (Int.toNat
 (gt (Sh.int IntKind.i64) o
 (IntKind.i64.wrap (i - (1 : Int))).toNat))
 b)
 (List.drop (Int.toNat (gt (Sh.int IntKind.i64) o i.toNat))
 b)) :
 Int))).length)),
 ((6 : Nat), SV.int IntKind.i64 (IntKind.i64.wrap (i + (1 : Int)))),
 ((7 : Nat),
 SV.int IntKind.i64
 (↑(lcp
 (List.drop
 (Int.toNat
 (gt (Sh.int IntKind.i64) o
 (IntKind.i64.wrap (i - (1 : Int))).toNat))
 b)
 (List.drop (Int.toNat (gt (Sh.int IntKind.i64) o i.toNat)) b)) :
 Int)),
 ((9 : Nat), SV.int IntKind.i64 i), ((10 : Nat), SV.sl (Sh.int IntKind.i64) o),
 ((11 : Nat), SV.int IntKind.i64 (↑o.length : Int)),
 ((12 : Nat), SV.bool (decide (i < (↑o.length : Int)))),
 ((13 : Nat), SV.int IntKind.i64 i),
 ((14 : Nat), SV.int IntKind.i64 (IntKind.i64.wrap (i + (1 : Int)))),
 ((15 : Nat), SV.int IntKind.i64 i),
 ((16 : Nat), SV.bool (decide ((0 : Int) < i))),
 ((17 : Nat), SV.sl (Sh.int IntKind.u8) b),
 ((18 : Nat), SV.sl (Sh.int IntKind.i64) o), ((19 : Nat), SV.int IntKind.i64 i),
 ((20 : Nat), SV.int IntKind.i64 (IntKind.i64.wrap (i - (1 : Int)))),
 ((21 : Nat),
 SV.elv (Sh.int IntKind.i64)
 (gt (Sh.int IntKind.i64) o (IntKind.i64.wrap (i - (1 : Int))).toNat)),
 ((22 : Nat),
 SV.int IntKind.i64
 (gt (Sh.int IntKind.i64) o (IntKind.i64.wrap (i - (1 : Int))).toNat)),
 ((23 : Nat),
 SV.sl (Sh.int IntKind.u8)
 (List.drop
 (Int.toNat
 (gt (Sh.int IntKind.i64) o (IntKind.i64.wrap (i - (1 : Int))).toNat))
 b)),
 ((24 : Nat), SV.sl (Sh.int IntKind.u8) b),
 ((25 : Nat), SV.sl (Sh.int IntKind.i64) o), ((26 : Nat), SV.int IntKind.i64 i),
 ((27 : Nat), SV.elv (Sh.int IntKind.i64) (gt (Sh.int IntKind.i64) o i.toNat)),
 ((28 : Nat), SV.int IntKind.i64 (gt (Sh.int IntKind.i64) o i.toNat)),
 ((29 : Nat),
 SV.sl (Sh.int IntKind.u8)
 (List.drop (Int.toNat (gt (Sh.int IntKind.i64) o i.toNat)) b)),
 ((30 : Nat),
 SV.int IntKind.i64
 (↑(lcp
 (List.drop
 (Int.toNat
 (gt (Sh.int IntKind.i64) o
 (IntKind.i64.wrap (i - (1 : Int))).toNat))
 b)
 (List.drop (Int.toNat (gt (Sh.int IntKind.i64) o i.toNat)) b)) :
 Int)),
 ((31 : Nat), SV.dead),
 ((32 : Nat),
 SV.int IntKind.i64
 (↑(lcp
 (List.drop
 (Int.toNat
 (gt (Sh.int IntKind.i64) o
 (IntKind.i64.wrap (i - (1 : Int))).toNat))
 b)
 (List.drop (Int.toNat (gt (Sh.int IntKind.i64) o i.toNat)) b)) :
 Int)),
 ((33 : Nat), SV.win true (Sh.int IntKind.i64) (33 : Nat) (0 : Nat) (1 : Nat)),
 ((34 : Nat),
 SV.win true (Sh.int IntKind.i64) (34 : Nat) (0 : Nat)
 (r.length +
 (winL
 ((fun self => self.6)
 (mkT (1 : Nat) (8 : Nat) false (TK.int IntKind.i64)
 (Sh.int IntKind.i64) none))
 (0 : Nat) (1 : Nat)
 ((List.replicate (1 : Nat) (Sh.int IntKind.i64).dflt).set (0 : Nat)
 (↑(lcp
 (List.drop
 (Int.toNat
 (gt (Sh.int IntKind.i64) o
 (IntKind.i64.wrap (i - (1 : Int))).toNat))
 b)
 (List.drop (Int.toNat (gt (Sh.int IntKind.i64) o i.toNat))
 b)) :
 Int))).length))],
 blk :=
 [((33 : Nat),
 LB.row (3 : Nat) (Sh.int IntKind.i64)
 ((List.replicate (1 : Nat) (Sh.int IntKind.i64).dflt).set (0 : Nat)
 (↑(lcp
 (List.drop
 (Int.toNat
 (gt (Sh.int IntKind.i64) o
 (IntKind.i64.wrap (i - (1 : Int))).toNat))
 b)
 (List.drop (Int.toNat (gt (Sh.int IntKind.i64) o i.toNat)) b)) :
 Int))),
 ((34 : Nat),
 LB.row (3 : Nat) (Sh.int IntKind.i64)
 (r ++
 winL (Sh.int IntKind.i64) (0 : Nat) (1 : Nat)
 ((List.replicate (1 : Nat) (Sh.int IntKind.i64).dflt).set (0 : Nat)
 (↑(lcp
 (List.drop
 (Int.toNat
 (gt (Sh.int IntKind.i64) o
 (IntKind.i64.wrap (i - (1 : Int))).toNat))
 b)
 (List.drop (Int.toNat (gt (Sh.int IntKind.i64) o i.toNat)) b)) :
 Int))))] })
 ((0 : Nat) + (1 : Nat) ≤ ((List.replicate (1 : Nat) (Sh.int IntKind.i64).dflt).set (0 : Nat) (0 : Int)).length ∧
 r.length = r.length ∧
 (0 : Nat) = (0 : Nat) ∧
 r.length +
 (winL
 ((fun self => self.6)
 (mkT (1 : Nat) (8 : Nat) false (TK.int IntKind.i64) (Sh.int IntKind.i64) none))
 (0 : Nat) (1 : Nat)
 ((List.replicate (1 : Nat) (Sh.int IntKind.i64).dflt).set (0 : Nat) (0 : Int))).length <
 (2 : Nat) ^ (30 : Nat) ∧
 (8 : Nat) ≤ (2 : Nat) ^ (10 : Nat) ∧
 R (hd Try.f18 (0 : Nat))
 {
 env :=
 [((0 : Nat), SV.sl (Sh.int IntKind.u8) b), ((1 : Nat), SV.sl (Sh.int IntKind.i64) o),
 ((5 : Nat),
 SV.win true (Sh.int IntKind.i64) (34 : Nat) (0 : Nat)
 (r.length +
 (winL
 ((fun self => self.6)
 (mkT (1 : Nat) (8 : Nat) false (TK.int IntKind.i64) (Sh.int IntKind.i64) none))
 (0 : Nat) (1 : Nat)
 ((List.replicate (1 : Nat) (Sh.int IntKind.i64).dflt).set (0 : Nat)
 (0 : Int))).length)),
 ((6 : Nat), SV.int IntKind.i64 (IntKind.i64.wrap (i + (1 : Int)))),
 ((7 : Nat), SV.int IntKind.i64 (0 : Int)), ((9 : Nat), SV.int IntKind.i64 i),
 ((10 : Nat), SV.sl (Sh.int IntKind.i64) o), ((11 : Nat), SV.int IntKind.i64 (↑o.length : Int)),
 ((12 : Nat), SV.bool (decide (i < (↑o.length : Int)))), ((13 : Nat), SV.int IntKind.i64 i),
 ((14 : Nat), SV.int IntKind.i64 (IntKind.i64.wrap (i + (1 : Int)))),
 ((15 : Nat), SV.int IntKind.i64 i), ((16 : Nat), SV.bool (decide ((0 : Int) < i))),
 ((31 : Nat), SV.dead), ((32 : Nat), SV.int IntKind.i64 (0 : Int)),
 ((33 : Nat), SV.win true (Sh.int IntKind.i64) (33 : Nat) (0 : Nat) (1 : Nat)),
 ((34 : Nat),
 SV.win true (Sh.int IntKind.i64) (34 : Nat) (0 : Nat)
 (r.length +
 (winL
 ((fun self => self.6)
 (mkT (1 : Nat) (8 : Nat) false (TK.int IntKind.i64) (Sh.int IntKind.i64) none))
 (0 : Nat) (1 : Nat)
 ((List.replicate (1 : Nat) (Sh.int IntKind.i64).dflt).set (0 : Nat)
 (0 : Int))).length))],
 blk :=
 [((33 : Nat),
 LB.row (3 : Nat) (Sh.int IntKind.i64)
 ((List.replicate (1 : Nat) (Sh.int IntKind.i64).dflt).set (0 : Nat) (0 : Int))),
 ((34 : Nat),
 LB.row (3 : Nat) (Sh.int IntKind.i64)
 (r ++
 winL (Sh.int IntKind.i64) (0 : Nat) (1 : Nat)
 ((List.replicate (1 : Nat) (Sh.int IntKind.i64).dflt).set (0 : Nat) (0 : Int))))] }))
 (Q [SV.win true (Sh.int IntKind.i64) (8 : Nat) (0 : Nat) r.length]
 [((8 : Nat), LB.row (3 : Nat) (Sh.int IntKind.i64) r)])) := by kernel_rfl
end Go.Proofs.Ytjcknfkddbiobaa
namespace Go.Proofs.Ytjcknfkddbiobaa
open Go.Px Go.Ax
def lonP (b s : List Int) (m : Nat) : Nat × Nat := (List.range m).foldl (fun r i => if r.2 < lcp (b.drop i) s then (i, lcp (b.drop i) s) else r) (0, 0)
theorem lonP_succ (b s : List Int) (m : Nat) : lonP b s (m + 1) = if (lonP b s m).2 < lcp (b.drop m) s then (m, lcp (b.drop m) s) else lonP b s m := by
  rw [lonP, List.range_succ, List.foldl_append, List.foldl_cons, List.foldl_nil]; rfl
def preBS (b s : List Int) : Prop := b.length < 1048576 ∧ s.length < 1048576
def ctRlon : Ctr := ⟨[slB, slB], fun x => preBS x.1 x.2.1, fun x => [.agg [.int .i64 ((lonF x.1 x.2.1).1 : Nat), .int .i64 ((lonF x.1 x.2.1).2 : Nat)]], fun _ => []⟩
theorem rlon_loop {b s : List Int} (hb : b.length < 1048576) (hs : s.length < 1048576) : ∀ (m i : Nat), b.length - i ≤ m → i ≤ b.length →
    GD 16 Try.f16 (fun rs _ => rs = [.agg [.int .i64 ((lonF b s).1 : Nat), .int .i64 ((lonF b s).2 : Nat)]]) (hd Try.f16 0) ⟨[(0, .sl (.int .u8) b), (1, .sl (.int .u8) s), (4, .ptr 4 0), (5, .ptr 5 0), (6, .int .i64 (i : Nat))], [(4, .var [.int .i64 0, .int .i64 0]), (5, .var [.int .i64 ((lonP b s i).1 : Nat), .int .i64 ((lonP b s i).2 : Nat)])]⟩ := by
  intro m
  induction m with
  | zero =>
    intro i hm h1
    obtain rfl : i = b.length := by omega
    refine sy_go cx4 (vc_rlonL _ _ _ _ _ _ _) (bc_of (fun h => ?_) (fun h => ?_))
    · have h := of_decide_eq_true h; omega
    · rfl
  | succ m ih =>
    intro i hm h1
    by_cases hi : i < b.length
    · refine sy_go cx4 (vc_rlonL _ _ _ _ _ _ _) ?_
      have w2 : IntKind.i64.wrap ((i : Int) + 1) = ((i + 1 : Nat) : Int) := by rw [IntWalk.i64_in _ (by omega)]; omega
      rw [decide_eq_true (show (i : Int) < (b.length : Int) by omega), bc_t, w2, Int.toNat_natCast]
      have hl := lonP_succ b s i
      refine ⟨by omega, by omega, (show preTwo (List.length (b.drop i)) s.length from ⟨by rw [List.length_drop]; omega, by omega⟩), bc_of (fun h => ?_) (fun h => ?_)⟩
      · have h := of_decide_eq_true h
        rw [if_pos (by omega)] at hl
        have k := ih (i + 1) (by omega) (by omega)
        rw [hl] at k
        exact k.only ⟨rfl, rfl, rfl, rfl, rfl, trivial⟩ ⟨rfl, rfl, trivial⟩
      · have h := of_decide_eq_false h
        rw [if_neg (by omega)] at hl
        have k := ih (i + 1) (by omega) (by omega)
        rw [hl] at k
        exact k.only ⟨rfl, rfl, rfl, rfl, rfl, trivial⟩ ⟨rfl, rfl, trivial⟩
    · exact ih i (by omega) h1
theorem rlon_run (b s : List Int) (hp : preBS b s) : sy tt G0 C4 Try.f16.ntmps Try.f16.results.toList (QC ctRlon (b, s, ())) (Px.Good Try.prog tt G0 16 Try.f16.ntmps Try.f16.results.toList (QC ctRlon (b, s, ()))) 1000 [.code (bodyOf Try.f16)] (entry [slB, slB] (b, s, ())) := by
  refine (vc_rlon _ _ _ _).mpr ?_
  exact ((rlon_loop hp.1 hp.2 _ 0 (Nat.le_refl _) (Nat.zero_le _)).post fun rs blk hq => QC.flat (by rw [hq]; rfl) rfl (by rw [hq]; rfl)).only ⟨rfl, rfl, rfl, rfl, rfl, trivial⟩ ⟨rfl, rfl, trivial⟩
theorem rlon_held : Held Try.prog G0 16 ctRlon := Held.run cx4 (fn := Try.f16) rfl rfl ⟨by decide, by decide⟩ fun x hp => rlon_run x.1 x.2.1 hp
def ctRcom : Ctr := ⟨[slB, slI], fun x => preOrd x.1 x.2.1, fun x => [.win true (.int .i64) 0 0 (List.length (comV x.1 (natsOf x.2.1)))], fun x => [.row 3 (.int .i64) (comV x.1 (natsOf x.2.1))]⟩
abbrev rcR (b : List Int) (o : List Nat) (i : Nat) : List Int := (List.range i).map fun k => ((adjN b o k : Nat) : Int)
theorem rcR_succ (b : List Int) (o : List Nat) (i : Nat) : rcR b o (i + 1) = rcR b o i ++ [((adjN b o i : Nat) : Int)] := by
  simp [rcR, List.range_succ]
theorem rcom_loop {b : List Int} {o : List Nat} (ho : OrdOK b o) (hb : b.length < 1048576) : ∀ (m i : Nat), o.length - i ≤ m → i ≤ o.length →
    GD 18 Try.f18 (QC ctRcom (b, mapI o, ())) (hd Try.f18 0) ⟨[(0, .sl (.int .u8) b), (1, .sl (.int .i64) (mapI o)), (5, .win true (.int .i64) 8 0 (rcR b o i).length), (6, .int .i64 (i : Nat))], [(8, .row 3 (.int .i64) (rcR b o i))]⟩ := by
  have hol : o.length = b.length := by simpa using ho.perm.length_eq
  have hfin : ∀ i, i = o.length → QC ctRcom (b, mapI o, ()) [SV.win true (Sh.int .i64) 8 0 (rcR b o i).length] [(8, LB.row 3 (Sh.int .i64) (rcR b o i))] := by
    intro i e
    subst e
    refine QC.row (e := .int .i64) (et := 3) (a := 8) (k := (rcR b o o.length).length) (xs := comV b o) ?_ ?_ rfl ?_ rfl
    · show [SV.win true (.int .i64) 0 0 (List.length (comV b (natsOf (mapI o))))] = _
      rw [nats_map]
    · show [LB.row 3 (.int .i64) (comV b (natsOf (mapI o)))] = _
      rw [nats_map]
    · rfl
  intro m
  induction m with
  | zero =>
    intro i hm h1
    refine sy_go cx4 (vc_rcomL _ _ _ _ _ _) (bc_of (fun h => ?_) (fun h => ?_))
    · have h := of_decide_eq_true h; rw [mapI_len] at h; omega
    · exact hfin i (by omega)
  | succ m ih =>
    intro i hm h1
    by_cases hi : i < o.length
    · refine sy_go cx4 (vc_rcomL _ _ _ _ _ _) ?_
      have w2 : IntKind.i64.wrap ((i : Int) + 1) = ((i + 1 : Nat) : Int) := by rw [IntWalk.i64_in _ (by omega)]; omega
      have e0 : ∀ v : Int, winL (Sh.int .i64) 0 1 ((List.replicate 1 (Sh.int .i64).dflt).set 0 v) = [v] := fun v => rfl
      have k := ih (i + 1) (by omega) (by omega)
      rw [mapI_len, decide_eq_true (show (i : Int) < (o.length : Int) by omega), bc_t, w2]
      rw [rcR_succ] at k
      have hlr : (rcR b o i).length = i := by simp
      refine bc_of (fun h => ?_) (fun h => ?_)
      · have h := of_decide_eq_true h
        have w1 : IntKind.i64.wrap ((i : Int) - 1) = ((i - 1 : Nat) : Int) := by rw [IntWalk.i64_in _ (by omega)]; omega
        have g1 : gt (Sh.int .i64) (mapI o) (i - 1) = ((o[i - 1] : Nat) : Int) := gt_mapI (by omega)
        have g2 : gt (Sh.int .i64) (mapI o) i = ((o[i] : Nat) : Int) := gt_mapI hi
        have l1 : o[i - 1] < b.length := ho.lt (List.getElem_mem _)
        have l2 : o[i] < b.length := ho.lt (List.getElem_mem _)
        have ha : adjN b o i = lcp (b.drop (o[i - 1])) (b.drop (o[i])) := by
          rw [adjN, if_neg (by omega), lcp_comm]
          simp [List.getD_eq_getElem?_getD, hi, show i - 1 < o.length by omega]
        rw [ha] at k
        rw [w1, Int.toNat_natCast, Int.toNat_natCast, g1, g2, Int.toNat_natCast, Int.toNat_natCast]
        clear g1 g2 ha
        generalize o[i - 1] = p at l1 k ⊢
        generalize o[i] = q at l2 k ⊢
        refine ⟨by omega, by omega, (show (0 : Int) ≤ (p : Int) by omega), (show (p : Int) ≤ (b.length : Int) by omega), by omega, by omega, (show (0 : Int) ≤ (q : Int) by omega), (show (q : Int) ≤ (b.length : Int) by omega),
          ⟨by show List.length (List.drop _ b) < 2 ^ 62; rw [List.length_drop]; omega, by show List.length (List.drop _ b) < 2 ^ 62; rw [List.length_drop]; omega⟩, Nat.le_refl _, rfl, rfl, ?_, by decide, ?_⟩
        · show (rcR b o i).length + 1 < 2 ^ 30
          omega
        · refine k.onlyR [(8, 34)] rfl ⟨rfl, rfl, ?_, rfl, trivial⟩ ⟨rfl, trivial⟩
          rw [List.length_append]; rfl
      · have h := of_decide_eq_false h
        obtain rfl : i = 0 := by omega
        rw [show adjN b o 0 = 0 from if_pos rfl] at k
        refine ⟨Nat.le_refl _, rfl, rfl, ?_, by decide, ?_⟩
        · show (rcR b o 0).length + 1 < 2 ^ 30
          omega
        · refine k.onlyR [(8, 34)] rfl ⟨rfl, rfl, ?_, rfl, trivial⟩ ⟨rfl, trivial⟩
          rw [List.length_append]; rfl
    · exact ih i (by omega) h1
theorem rcom_run (b o : List Int) (hp : preOrd b o) : sy tt G0 C4 Try.f18.ntmps Try.f18.results.toList (QC ctRcom (b, o, ())) (Px.Good Try.prog tt G0 18 Try.f18.ntmps Try.f18.results.toList (QC ctRcom (b, o, ()))) 1000 [.code (bodyOf Try.f18)] (entry [slB, slI] (b, o, ())) := by
  obtain ⟨hb, p, ho, rfl⟩ := hp
  refine (vc_rcom _ _ _ _).mpr ?_
  exact (rcom_loop ho hb _ 0 (Nat.le_refl _) (Nat.zero_le _)).only ⟨rfl, rfl, rfl, rfl, trivial⟩ ⟨rfl, trivial⟩
theorem rcom_held : Held Try.prog G0 18 ctRcom := Held.run cx4 (fn := Try.f18) rfl rfl ⟨by decide, by decide⟩ fun x hp => rcom_run x.1 x.2.1 hp
def D8 : CV := (16, .inl ctRlon) :: (18, .inl ctRcom) :: D7
theorem cxd8 : CxOK Try.prog tt G0 D8 := (cxd7.cons rcom_held (fn := Try.f18) rfl rfl rfl).cons rlon_held (fn := Try.f16) rfl rfl rfl
end Go.Proofs.Ytjcknfkddbiobaa
namespace Go.Proofs.Ytjcknfkddbiobaa
open Go.Px Go.Ax
set_option maxRecDepth 100000
theorem vc_l3 (b s : List Int) (Q : List SV → List (Nat × LB) → Prop) (R : List Item → PS → Prop) : sy tt G0 D8 Try.f3.ntmps Try.f3.results.toList Q R 1000 [.code (bodyOf Try.f3)] (entry [.sl (.int .u8), .sl (.int .u8)] (b, s, ())) =
    (ctSan.pre () ∧
 ctLimited.pre (b, (80 : Int), ()) ∧
 ctLimited.pre (s, (40 : Int), ()) ∧
 ctOrd.pre (List.take (Int.toNat (80 : Int)) b, ()) ∧
 ctSo.pre (List.take (Int.toNat (80 : Int)) b, ()) ∧
 (0 : Nat) + (mapI (ordB (List.take (Int.toNat (80 : Int)) b))).length ≤
 (mapI (ordB (List.take (Int.toNat (80 : Int)) b))).length ∧
 (0 : Nat) + (mapI (ordB (List.take (Int.toNat (80 : Int)) b))).length ≤
 (mapI (ordB (List.take (Int.toNat (80 : Int)) b))).length ∧
 ctInts.pre
 (winL (Sh.int IntKind.i64) (0 : Nat) (mapI (ordB (List.take (Int.toNat (80 : Int)) b))).length
 (mapI (ordB (List.take (Int.toNat (80 : Int)) b))),
 winL (Sh.int IntKind.i64) (0 : Nat) (mapI (ordB (List.take (Int.toNat (80 : Int)) b))).length
 (mapI (ordB (List.take (Int.toNat (80 : Int)) b))),
 ()) ∧
 bc
 (bif true then
 decide
 (winL (Sh.int IntKind.i64) (0 : Nat) (mapI (ordB (List.take (Int.toNat (80 : Int)) b))).length
 (mapI (ordB (List.take (Int.toNat (80 : Int)) b))) =
 winL (Sh.int IntKind.i64) (0 : Nat) (mapI (ordB (List.take (Int.toNat (80 : Int)) b))).length
 (mapI (ordB (List.take (Int.toNat (80 : Int)) b))))
 else false)
 ((0 : Nat) + (mapI (ordB (List.take (Int.toNat (80 : Int)) b))).length ≤
 (mapI (ordB (List.take (Int.toNat (80 : Int)) b))).length ∧
 ctLon.pre
 (List.take (Int.toNat (80 : Int)) b,
 winL (Sh.int IntKind.i64) (0 : Nat) (mapI (ordB (List.take (Int.toNat (80 : Int)) b))).length
 (mapI (ordB (List.take (Int.toNat (80 : Int)) b))),
 List.take (Int.toNat (40 : Int)) s, ()) ∧
 ctRlon.pre (List.take (Int.toNat (80 : Int)) b, List.take (Int.toNat (40 : Int)) s, ()) ∧
 bc
 (bif true then
 decide
 ([(↑(lonF (List.take (Int.toNat (80 : Int)) b) (List.take (Int.toNat (40 : Int)) s)).fst :
 Int),
 (↑(lonF (List.take (Int.toNat (80 : Int)) b)
 (List.take (Int.toNat (40 : Int)) s)).snd :
 Int)] =
 [(↑(lonF (List.take (Int.toNat (80 : Int)) b)
 (List.take (Int.toNat (40 : Int)) s)).fst :
 Int),
 (↑(lonF (List.take (Int.toNat (80 : Int)) b)
 (List.take (Int.toNat (40 : Int)) s)).snd :
 Int)])
 else false)
 ((0 : Nat) + (mapI (ordB (List.take (Int.toNat (80 : Int)) b))).length ≤
 (mapI (ordB (List.take (Int.toNat (80 : Int)) b))).length ∧
 ctCom.pre
 (List.take (Int.toNat (80 : Int)) b,
 winL (Sh.int IntKind.i64) (0 : Nat)
 (mapI (ordB (List.take (Int.toNat (80 : Int)) b))).length
 (mapI (ordB (List.take (Int.toNat (80 : Int)) b))),
 ()) ∧
 (0 : Nat) + (mapI (ordB (List.take (Int.toNat (80 : Int)) b))).length ≤
 (mapI (ordB (List.take (Int.toNat (80 : Int)) b))).length ∧
 ctRcom.pre
 (List.take (Int.toNat (80 : Int)) b,
 winL (Sh.int IntKind.i64) (0 : Nat)
 (mapI (ordB (List.take (Int.toNat (80 : Int)) b))).length
 (mapI (ordB (List.take (Int.toNat (80 : Int)) b))),
 ()) ∧
 (0 : Nat) +
 (comV (List.take (Int.toNat (80 : Int)) b)
 (natsOf
 (winL (Sh.int IntKind.i64) (0 : Nat)
 (mapI (ordB (List.take (Int.toNat (80 : Int)) b))).length
 (mapI (ordB (List.take (Int.toNat (80 : Int)) b)))))).length ≤
 (comV (List.take (Int.toNat (80 : Int)) b)
 (natsOf
 (winL (Sh.int IntKind.i64) (0 : Nat)
 (mapI (ordB (List.take (Int.toNat (80 : Int)) b))).length
 (mapI (ordB (List.take (Int.toNat (80 : Int)) b)))))).length ∧
 (0 : Nat) +
 (comV (List.take (Int.toNat (80 : Int)) b)
 (natsOf
 (winL (Sh.int IntKind.i64) (0 : Nat)
 (mapI (ordB (List.take (Int.toNat (80 : Int)) b))).length
 (mapI (ordB (List.take (Int.toNat (80 : Int)) b)))))).length ≤
 (comV (List.take (Int.toNat (80 : Int)) b)
 (natsOf
 (winL (Sh.int IntKind.i64) (0 : Nat)
 (mapI (ordB (List.take (Int.toNat (80 : Int)) b))).length
 (mapI (ordB (List.take (Int.toNat (80 : Int)) b)))))).length ∧
 ctInts.pre
 (winL (Sh.int IntKind.i64) (0 : Nat)
 (comV (List.take (Int.toNat (80 : Int)) b)
 (natsOf
 (winL (Sh.int IntKind.i64) (0 : Nat)
 (mapI (ordB (List.take (Int.toNat (80 : Int)) b))).length
 (mapI (ordB (List.take (Int.toNat (80 : Int)) b)))))).length
 (comV (List.take (Int.toNat (80 : Int)) b)
 (natsOf
 (winL (Sh.int IntKind.i64) (0 : Nat)
 (mapI (ordB (List.take (Int.toNat (80 : Int)) b))).length
 (mapI (ordB (List.take (Int.toNat (80 : Int)) b)))))),
 winL (Sh.int IntKind.i64) (0 : Nat)
 (comV (List.take (Int.toNat (80 : Int)) b)
 (natsOf
 (winL (Sh.int IntKind.i64) (0 : Nat)
 (mapI (ordB (List.take (Int.toNat (80 : Int)) b))).length
 (mapI (ordB (List.take (Int.toNat (80 : Int)) b)))))).length
 (comV (List.take (Int.toNat (80 : Int)) b)
 (natsOf
 (winL (Sh.int IntKind.i64) (0 : Nat)
 (mapI (ordB (List.take (Int.toNat (80 : Int)) b))).length
 (mapI (ordB (List.take (Int.toNat (80 : Int)) b)))))),
 ()) ∧
 Q
 [SV.bool
 (bif true then
 decide
 (winL (Sh.int IntKind.i64) (0 : Nat)
 (comV (List.take (Int.toNat (80 : Int)) b)
 (natsOf
 (winL (Sh.int IntKind.i64) (0 : Nat)
 (mapI (ordB (List.take (Int.toNat (80 : Int)) b))).length
 (mapI
 (ordB (List.take (Int.toNat (80 : Int)) b)))))).length
 (comV (List.take (Int.toNat (80 : Int)) b)
 (natsOf
 (winL (Sh.int IntKind.i64) (0 : Nat)
 (mapI (ordB (List.take (Int.toNat (80 : Int)) b))).length
 (mapI (ordB (List.take (Int.toNat (80 : Int)) b)))))) =
 winL (Sh.int IntKind.i64) (0 : Nat)
 (comV (List.take (Int.toNat (80 : Int)) b)
 (natsOf
 (winL (Sh.int IntKind.i64) (0 : Nat)
 (mapI (ordB (List.take (Int.toNat (80 : Int)) b))).length
 (mapI
 (ordB (List.take (Int.toNat (80 : Int)) b)))))).length
 (comV (List.take (Int.toNat (80 : Int)) b)
 (natsOf
 (winL (Sh.int IntKind.i64) (0 : Nat)
 (mapI (ordB (List.take (Int.toNat (80 : Int)) b))).length
 (mapI (ordB (List.take (Int.toNat (80 : Int)) b)))))))
 else false)]
 [((1061440 : Nat),
 LB.row (3 : Nat) (Sh.int IntKind.i64)
 (mapI (ordB (List.take (Int.toNat (80 : Int)) b)))),
 ((1077824 : Nat),
 LB.row (3 : Nat) (Sh.int IntKind.i64)
 (mapI (ordB (List.take (Int.toNat (80 : Int)) b)))),
 ((1147456 : Nat),
 LB.row (3 : Nat) (Sh.int IntKind.i64)
 (comV (List.take (Int.toNat (80 : Int)) b)
 (natsOf
 (winL (Sh.int IntKind.i64) (0 : Nat)
 (mapI (ordB (List.take (Int.toNat (80 : Int)) b))).length
 (mapI (ordB (List.take (Int.toNat (80 : Int)) b))))))),
 ((1159744 : Nat),
 LB.row (3 : Nat) (Sh.int IntKind.i64)
 (comV (List.take (Int.toNat (80 : Int)) b)
 (natsOf
 (winL (Sh.int IntKind.i64) (0 : Nat)
 (mapI (ordB (List.take (Int.toNat (80 : Int)) b))).length
 (mapI (ordB (List.take (Int.toNat (80 : Int)) b)))))))])
 (false = false ∧
 Q [SV.bool false]
 [((1061440 : Nat),
 LB.row (3 : Nat) (Sh.int IntKind.i64)
 (mapI (ordB (List.take (Int.toNat (80 : Int)) b)))),
 ((1077824 : Nat),
 LB.row (3 : Nat) (Sh.int IntKind.i64)
 (mapI (ordB (List.take (Int.toNat (80 : Int)) b))))]))
 (false = false ∧
 false = false ∧
 Q [SV.bool false]
 [((1061440 : Nat),
 LB.row (3 : Nat) (Sh.int IntKind.i64) (mapI (ordB (List.take (Int.toNat (80 : Int)) b)))),
 ((1077824 : Nat),
 LB.row (3 : Nat) (Sh.int IntKind.i64) (mapI (ordB (List.take (Int.toNat (80 : Int)) b))))])) := by kernel_rfl
end Go.Proofs.Ytjcknfkddbiobaa
namespace Go.Proofs.Ytjcknfkddbiobaa
open Go.Px Go.Ax
set_option maxRecDepth 100000
theorem vc_law4 (b : List Int) (Q : List SV → List (Nat × LB) → Prop) (R : List Item → PS → Prop) : sy tt G0 D7 Try.f4.ntmps Try.f4.results.toList Q (fun it S => R it (keepS [3, 4, 5, 6] [1045056] S)) 1000 [.code (bodyOf Try.f4)] (entry [slB] (b, ())) =
    (ctSan.pre () ∧
 ctLimited.pre (b, (400 : Int), ()) ∧
 ctSo.pre (List.take (Int.toNat (400 : Int)) b, ()) ∧
 bc
 (decide
 ((↑(mapI (ordB (List.take (Int.toNat (400 : Int)) b))).length : Int) ≠
 (↑(List.take (Int.toNat (400 : Int)) b).length : Int)))
 (true = true ∧
 Q [SV.bool false]
 [((1045056 : Nat),
 LB.row (3 : Nat) (Sh.int IntKind.i64) (mapI (ordB (List.take (Int.toNat (400 : Int)) b))))])
 ((0 : Nat) + (mapI (ordB (List.take (Int.toNat (400 : Int)) b))).length ≤
 (mapI (ordB (List.take (Int.toNat (400 : Int)) b))).length ∧
 ctIsP.pre
 (winL (Sh.int IntKind.i64) (0 : Nat) (mapI (ordB (List.take (Int.toNat (400 : Int)) b))).length
 (mapI (ordB (List.take (Int.toNat (400 : Int)) b))),
 ()) ∧
 R (hd Try.f4 (0 : Nat))
 {
 env :=
 [((3 : Nat), SV.bool true),
 ((4 : Nat), SV.sl (Sh.int IntKind.u8) (List.take (Int.toNat (400 : Int)) b)),
 ((5 : Nat),
 SV.win true (Sh.int IntKind.i64) (1045056 : Nat) (0 : Nat)
 (mapI (ordB (List.take (Int.toNat (400 : Int)) b))).length),
 ((6 : Nat), SV.int IntKind.i64 (1 : Int))],
 blk :=
 [((1045056 : Nat),
 LB.row (3 : Nat) (Sh.int IntKind.i64) (mapI (ordB (List.take (Int.toNat (400 : Int)) b))))] })) := by kernel_rfl
theorem vc_law4L (x o : List Int) (i : Int) (Q : List SV → List (Nat × LB) → Prop) (R : List Item → PS → Prop) : sy tt G0 D7 Try.f4.ntmps Try.f4.results.toList Q (fun it S => R it (keepS [3, 4, 5, 6] [1045056] S)) 1000 (hd Try.f4 0) ⟨[(3, .bool true), (4, .sl (.int .u8) x), (5, .win true (.int .i64) 1045056 0 o.length), (6, .int .i64 i)], [(1045056, .row 3 (.int .i64) o)]⟩ =
    (bc (decide (i < (↑o.length : Int)))
 ((0 : Int) ≤ IntKind.i64.wrap (i - (1 : Int)) ∧
 IntKind.i64.wrap (i - (1 : Int)) < (↑o.length : Int) ∧
 (0 : Nat) + (IntKind.i64.wrap (i - (1 : Int))).toNat < o.length ∧
 (0 : Int) ≤ gt (Sh.int IntKind.i64) o ((0 : Nat) + (IntKind.i64.wrap (i - (1 : Int))).toNat) ∧
 gt (Sh.int IntKind.i64) o ((0 : Nat) + (IntKind.i64.wrap (i - (1 : Int))).toNat) ≤ (↑x.length : Int) ∧
 (0 : Int) ≤ i ∧
 i < (↑o.length : Int) ∧
 (0 : Nat) + i.toNat < o.length ∧
 (0 : Int) ≤ gt (Sh.int IntKind.i64) o ((0 : Nat) + i.toNat) ∧
 gt (Sh.int IntKind.i64) o ((0 : Nat) + i.toNat) ≤ (↑x.length : Int) ∧
 ctLess.pre
 (List.drop
 (Int.toNat
 (gt (Sh.int IntKind.i64) o ((0 : Nat) + (IntKind.i64.wrap (i - (1 : Int))).toNat)))
 x,
 List.drop (Int.toNat (gt (Sh.int IntKind.i64) o ((0 : Nat) + i.toNat))) x, ()) ∧
 bc
 (!lexLt
 (List.drop
 (Int.toNat
 (gt (Sh.int IntKind.i64) o ((0 : Nat) + (IntKind.i64.wrap (i - (1 : Int))).toNat)))
 x)
 (List.drop (Int.toNat (gt (Sh.int IntKind.i64) o ((0 : Nat) + i.toNat))) x))
 (Q [SV.bool false] [((1045056 : Nat), LB.row (3 : Nat) (Sh.int IntKind.i64) o)])
 (R (hd Try.f4 (0 : Nat))
 {
 env :=
 [((3 : Nat), SV.bool true), ((4 : Nat), SV.sl (Sh.int IntKind.u8) x),
 ((5 : Nat), SV.win true (Sh.int IntKind.i64) (1045056 : Nat) (0 : Nat) o.length),
 ((6 : Nat), SV.int IntKind.i64 (IntKind.i64.wrap (i + (1 : Int))))],
 blk := [((1045056 : Nat), LB.row (3 : Nat) (Sh.int IntKind.i64) o)] }))
 (Q [SV.bool true] [((1045056 : Nat), LB.row (3 : Nat) (Sh.int IntKind.i64) o)])) := by kernel_rfl
end Go.Proofs.Ytjcknfkddbiobaa
namespace Go.Proofs.Ytjcknfkddbiobaa
open Go.Px Go.Ax
theorem bytes_take {b : List Int} (h : bytesOK b) (n : Nat) : bytesOK (b.take n) := fun c hc => h c (List.mem_of_mem_take hc)
theorem ordB_len (x : List Int) : (ordB x).length = x.length := ordN_len x _
theorem l4_loop {x : List Int} (hx : x.length ≤ 400) : ∀ (m i : Nat), x.length - i ≤ m → 0 < i →
    GD 4 Try.f4 (fun rs _ => rs = [.bool true]) (hd Try.f4 0) ⟨[(3, .bool true), (4, .sl (.int .u8) x), (5, .win true (.int .i64) 1045056 0 (mapI (ordB x)).length), (6, .int .i64 (i : Int))], [(1045056, .row 3 (.int .i64) (mapI (ordB x)))]⟩ := by
  have ho := ordN_ok x
  have hl := ordB_len x
  intro m
  induction m with
  | zero =>
    intro i hm h0
    refine sy_goK cxd7 (vc_law4L _ _ _ _ _) (bc_of (fun h => ?_) (fun h => ?_))
    · have h := of_decide_eq_true h; rw [mapI_len] at h; omega
    · rfl
  | succ m ih =>
    intro i hm h0
    by_cases hi : i < x.length
    · refine sy_goK cxd7 (vc_law4L _ _ _ _ _) ?_
      have w1 : IntKind.i64.wrap ((i : Int) - 1) = ((i - 1 : Nat) : Int) := by rw [IntWalk.i64_in _ (by omega)]; omega
      have w2 : IntKind.i64.wrap ((i : Int) + 1) = ((i + 1 : Nat) : Int) := by rw [IntWalk.i64_in _ (by omega)]; omega
      have g1 : gt (Sh.int .i64) (mapI (ordB x)) (0 + (i - 1)) = (((ordB x)[i - 1]'(by omega) : Nat) : Int) := by rw [Nat.zero_add]; exact gt_mapI (by omega)
      have g2 : gt (Sh.int .i64) (mapI (ordB x)) (0 + i) = (((ordB x)[i]'(by omega) : Nat) : Int) := by rw [Nat.zero_add]; exact gt_mapI (by omega)
      have l1 : (ordB x)[i - 1]'(by omega) < x.length := ho.lt (List.getElem_mem _)
      have l2 : (ordB x)[i]'(by omega) < x.length := ho.lt (List.getElem_mem _)
      have hs : lexLt (x.drop ((ordB x)[i - 1]'(by omega))) (x.drop ((ordB x)[i]'(by omega))) = true := ho.at_lt (i := i - 1) (j := i) (by omega) (by show i < (ordB x).length; omega)
      rw [w1, w2, Int.toNat_natCast, Int.toNat_natCast, g1, g2, Int.toNat_natCast, Int.toNat_natCast, hs, mapI_len]
      clear hs g1 g2
      generalize (ordB x)[i - 1]'(by omega) = a at l1 ⊢
      generalize (ordB x)[i]'(by omega) = b at l2 ⊢
      rw [hl, decide_eq_true (show (i : Int) < (x.length : Int) by omega), bc_t]
      refine ⟨by omega, by omega, by omega, (show (0 : Int) ≤ (a : Int) by omega), (show (a : Int) ≤ (x.length : Int) by omega), by omega, by omega, by omega, (show (0 : Int) ≤ (b : Int) by omega), (show (b : Int) ≤ (x.length : Int) by omega),
        ⟨by show List.length (List.drop _ x) < 2 ^ 62; rw [List.length_drop]; omega, by show List.length (List.drop _ x) < 2 ^ 62; rw [List.length_drop]; omega⟩, ?_⟩
      refine (ih (i + 1) (by omega) (by omega)).only ⟨rfl, rfl, ?_, rfl, trivial⟩ ⟨rfl, trivial⟩
      rw [mapI_len, hl]; rfl
    · exact ih i (by omega) h0
def ctOrders : Ctr := ⟨[slB], fun x => bytesOK x.1, fun _ => [.bool true], fun _ => []⟩
theorem l4_run (b : List Int) (hb : bytesOK b) : Px.Good Try.prog tt G0 4 Try.f4.ntmps Try.f4.results.toList (QC ctOrders (b, ())) [.code (bodyOf Try.f4)] (entry [slB] (b, ())) := by
  refine sy_goK cxd7 (vc_law4 _ _ _) ?_
  have hx : (List.take (Int.toNat 400) b).length ≤ 400 := by rw [List.length_take]; exact Nat.min_le_left _ _
  have hbx := bytes_take hb (Int.toNat 400)
  generalize List.take (Int.toNat 400) b = x at hx hbx
  have ho := ordN_ok x
  have hl := ordB_len x
  have w := winAll (e := .int .i64) (mapI (ordB x))
  rw [w, mapI_len, hl]
  refine ⟨trivial, (by decide : (0 : Int) ≤ 400), (show preSo x from ⟨by omega, hbx⟩), ?_⟩
  rw [decide_eq_false (by simp), bc_f]
  refine ⟨by omega, (show preIsP (mapI (ordB x)) from ⟨by rw [mapI_len]; omega, ordB x, by rw [mapI_len, hl]; exact ho.perm, rfl⟩), ?_⟩
  have q := l4_loop hx x.length 1 (by omega) (by omega)
  refine (q.post fun rs blk hq => QC.flat hq.symm rfl (by rw [hq]; rfl)).only ⟨rfl, rfl, ?_, rfl, trivial⟩ ⟨rfl, trivial⟩
  rw [mapI_len, hl]; rfl
theorem orders_held : Held Try.prog G0 4 ctOrders := Held.of cxd7 (fn := Try.f4) rfl rfl ⟨by decide, by decide⟩ fun x hp => l4_run x.1 hp
end Go.Proofs.Ytjcknfkddbiobaa
namespace Go.Proofs.Ytjcknfkddbiobaa
open Go.Px Go.Ax
def ctMr : Ctr := ⟨[slB, slB], fun x => bytesOK x.1, fun _ => [.bool true], fun _ => []⟩
theorem l3_run (b s : List Int) (hb : bytesOK b) (R : List Item → PS → Prop) : sy tt G0 D8 Try.f3.ntmps Try.f3.results.toList (QC ctMr (b, s, ())) R 1000 [.code (bodyOf Try.f3)] (entry [slB, slB] (b, s, ())) := by
  refine (vc_l3 _ _ _ _).mpr ?_
  have hx : (List.take (Int.toNat 80) b).length ≤ 80 := by rw [List.length_take]; exact Nat.min_le_left _ _
  have hy : (List.take (Int.toNat 40) s).length ≤ 40 := by rw [List.length_take]; exact Nat.min_le_left _ _
  have hbx := bytes_take hb (Int.toNat 80)
  generalize List.take (Int.toNat 80) b = x at hx hbx
  generalize List.take (Int.toNat 40) s = y at hy
  have ho := ordN_ok x
  have hl := ordB_len x
  have w := winAll (e := .int .i64) (mapI (ordB x))
  have hml : (mapI (ordB x)).length = x.length := by rw [mapI_len, hl]
  have po : preOrd x (mapI (ordB x)) := ⟨by omega, ordB x, ho, rfl⟩
  rw [w, nats_map]
  have w2 := winAll (e := .int .i64) (comV x (ordB x))
  rw [w2]
  have hcl : (comV x (ordB x)).length = x.length := by rw [comV, rowF_len, hl]
  refine ⟨trivial, (by decide : (0 : Int) ≤ 80), (by decide : (0 : Int) ≤ 40), (show x.length < 1048576 by omega), (show preSo x from ⟨by omega, hbx⟩), by omega, by omega,
    (show preTwo (mapI (ordB x)).length (mapI (ordB x)).length from ⟨by omega, by omega⟩), ?_⟩
  rw [cond_true, decide_eq_true rfl, bc_t]
  refine ⟨by omega, (show preClo x (mapI (ordB x)) y from ⟨po, by omega⟩), (show preBS x y from ⟨by omega, by omega⟩), ?_⟩
  rw [cond_true, decide_eq_true rfl, bc_t]
  refine ⟨by omega, po, by omega, po, by omega, by omega, (show preTwo (comV x (ordB x)).length (comV x (ordB x)).length from ⟨by omega, by omega⟩), ?_⟩
  rw [cond_true, decide_eq_true rfl]
  exact QC.flat rfl rfl rfl
theorem mr_held : Held Try.prog G0 3 ctMr := Held.run cxd8 (fn := Try.f3) rfl rfl ⟨by decide, by decide⟩ fun x hp => l3_run x.1 x.2.1 hp _
end Go.Proofs.Ytjcknfkddbiobaa
