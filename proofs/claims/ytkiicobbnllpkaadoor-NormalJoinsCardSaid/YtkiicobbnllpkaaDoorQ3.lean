/-
 A part of the proof: what pieces of the program give; conditions: those of each theorem.
-/
import Derived.Test.YtkiicobbnllpkaaDoorQ2
import Derived.Test.YtkiicobbnllpkaaDoorHD
set_option linter.unusedVariables false
set_option linter.unusedSimpArgs false
namespace Go.Proofs.YtkiicobbnllpkaaDoor
open Go.Px Go.Ax
set_option maxRecDepth 100000
def CLj : CV := [(10, .inl ctSan), (12, .inl ctRaw), (15, .inl ctCp), (21, .inl ctRi), (22, .inl ctRco)]
theorem cxLj : CxOK Tryd.prog tt G0 CLj := ((((cx0.cons rco_held (fn := Tryd.f22) rfl rfl rfl).cons right_held (fn := Tryd.f21) rfl rfl rfl).cons cp_held (fn := Tryd.f15) rfl rfl rfl).cons raw_held (fn := Tryd.f12) rfl rfl rfl).cons san_held (fn := Tryd.f10) rfl rfl rfl
set_option maxRecDepth 100000
theorem vc_j6a (l : List (List Int)) (n k:Int) (Q : QT) (R : RT) : sy tt G0 CLj Tryd.f6.ntmps Tryd.f6.results.toList Q (fun it S => R it (keepS [6, 7, 8, 9, 10] [1106496, 1090112] S)) 10 [.code (bodyOf Tryd.f6)] (entry [.sl a2S, uB, uB] (l, n, k, ())) =
  (ctSan.pre () ∧
 (12:Int) ≠ (0:Int) ∧
 ctRaw.pre (l, IntKind.i64.wrap (n.tmod (12:Int)), ()) ∧
 IntKind.i64.wrap ((↑(rawL l (IntKind.i64.wrap (n.tmod (12:Int))) (rawK l)).length:Int) + (1:Int)) ≠ (0:Int) ∧
 R (midI 10 [] [Item.code (bodyOf Tryd.f6)]) { env := [(6, .bool false), (7, .bool true), (8, .int .i64 (IntKind.i64.wrap (n.tmod (12:Int)))), (9, .win true syS 1106496 0 (rawL l (IntKind.i64.wrap (n.tmod (12:Int))) (rawK l)).length), (10, .int .i64 ((IntKind.i64.wrap k).tmod (IntKind.i64.wrap ((↑(rawL l (IntKind.i64.wrap (n.tmod (12:Int))) (rawK l)).length:Int) + (1:Int)))))], blk := [(1106496, .row 52 syS (rawL l (IntKind.i64.wrap (n.tmod (12:Int))) (rawK l)))] }) := by kernel_rfl
theorem vc_j6b (s : List SyT) (m a:Int) (Q : QT) (R : RT) : sy tt G0 CLj Tryd.f6.ntmps Tryd.f6.results.toList Q (fun it S => R it (keepS [6, 7, 11, 12, 13, 14, 15, 16] [11, 13, 15] S)) 6 (midI 10 [] [.code (bodyOf Tryd.f6)]) ⟨[(6, .bool false), (7, .bool true), (8, .int .i64 m), (9, .sl syS s), (10, .int .i64 a)], []⟩ =
  (ctCp.pre (s, m, ()) ∧
 (0:Int) ≤ a ∧
 a ≤ (s.length:Int) ∧
 ctCp.pre (List.take a.toNat s, m, ()) ∧
 (0:Int) ≤ a ∧
 a ≤ (s.length:Int) ∧
 ctCp.pre (List.drop a.toNat s, m, ()) ∧
 R (midI 16 [] [Item.code (bodyOf Tryd.f6)]) { env := [(6, .bool false), (7, .bool true), (11, .ptr 11 0), (12, .int .i64 (cpV s m).2), (13, .ptr 13 0), (14, .int .i64 (cpV (List.take a.toNat s) m).2), (15, .ptr 15 0), (16, .int .i64 (cpV (List.drop a.toNat s) m).2)], blk := [(11, .var [.bool (cpV s m).1.1, .int .i64 (cpV s m).1.2.1, .int .i64 (cpV s m).1.2.2.1, .sl opS (cpV s m).1.2.2.2]), (13, .var [.bool (cpV (List.take a.toNat s) m).1.1, .int .i64 (cpV (List.take a.toNat s) m).1.2.1, .int .i64 (cpV (List.take a.toNat s) m).1.2.2.1, .sl opS (cpV (List.take a.toNat s) m).1.2.2.2]), (15, .var [.bool (cpV (List.drop a.toNat s) m).1.1, .int .i64 (cpV (List.drop a.toNat s) m).1.2.1, .int .i64 (cpV (List.drop a.toNat s) m).1.2.2.1, .sl opS (cpV (List.drop a.toNat s) m).1.2.2.2])] }) := by kernel_rfl
def mem_j6c_m0 (p q r : PaT) : List (Nat × LB) := [(11, .var [.bool p.1, .int .i64 p.2.1, .int .i64 p.2.2.1, .sl opS p.2.2.2]), (13, .var [.bool q.1, .int .i64 q.2.1, .int .i64 q.2.2.1, .sl opS q.2.2.2]), (15, .var [.bool r.1, .int .i64 r.2.1, .int .i64 r.2.2.1, .sl opS r.2.2.2])]
theorem vc_j6c (p q r : PaT) (e1 e2 e3:Int) (Q : QT) (R : RT) : sy tt G0 CLj Tryd.f6.ntmps Tryd.f6.results.toList Q R 1000 (midI 16 [] [.code (bodyOf Tryd.f6)]) ⟨[(6, .bool false), (7, .bool true), (11, .ptr 11 0), (12, .int .i64 e1), (13, .ptr 13 0), (14, .int .i64 e2), (15, .ptr 15 0), (16, .int .i64 e3)], [(11, .var [.bool p.1, .int .i64 p.2.1, .int .i64 p.2.2.1, .sl opS p.2.2.2]), (13, .var [.bool q.1, .int .i64 q.2.1, .int .i64 q.2.2.1, .sl opS q.2.2.2]), (15, .var [.bool r.1, .int .i64 r.2.1, .int .i64 r.2.2.1, .sl opS r.2.2.2])]⟩ =
  (bc (decide (e1 ≠ (0:Int))) (true = true ∧
 true = true ∧
 true = true ∧
 true = true ∧
 true = true ∧
 Q [.bool false] (mem_j6c_m0 p q r)) (bc (bif false then true else decide (e2 ≠ (0:Int))) (true = true ∧
 true = true ∧
 true = true ∧
 true = true ∧
 Q [.bool false] (mem_j6c_m0 p q r)) (bc (bif false then true else decide (e3 ≠ (0:Int))) (true = true ∧
 true = true ∧
 true = true ∧
 Q [.bool false] (mem_j6c_m0 p q r)) (ctRi.pre (p, ()) ∧
 bc (bif false then true else !decide ((chkV p).2 = (0:Int))) (true = true ∧
 true = true ∧
 Q [.bool false] (mem_j6c_m0 p q r)) (ctRi.pre (q, ()) ∧
 bc (bif false then true else !decide ((chkV q).2 = (0:Int))) (true = true ∧
 Q [.bool false] (mem_j6c_m0 p q r)) (ctRi.pre (r, ()) ∧
 bc (bif false then true else !decide ((chkV r).2 = (0:Int))) (Q [.bool false] (mem_j6c_m0 p q r)) (ctRco.pre (p, ()) ∧
 ctRco.pre (q, ()) ∧
 ctRco.pre (r, ()) ∧
 bc (decide (costF (0:Int) p.2.2.2 ≤ IntKind.i64.wrap (costF (0:Int) q.2.2.2 + costF (0:Int) r.2.2.2))) (bc (decide (costF (0:Int) q.2.2.2 ≤ costF (0:Int) p.2.2.2)) (bc (decide (costF (0:Int) r.2.2.2 ≤ costF (0:Int) p.2.2.2)) (Q [.bool true] (mem_j6c_m0 p q r)) (false = false ∧
 Q [.bool false] (mem_j6c_m0 p q r))) (false = false ∧
 false = false ∧
 Q [.bool false] (mem_j6c_m0 p q r))) (false = false ∧
 false = false ∧
 false = false ∧
 Q [.bool false] (mem_j6c_m0 p q r))))))))) := by kernel_rfl
end Go.Proofs.YtkiicobbnllpkaaDoor
namespace Go.Proofs.YtkiicobbnllpkaaDoor
open Go.Px Go.Ax
set_option maxRecDepth 100000
attribute [local irreducible] Go.Px.sy Go.Px.syE
theorem cost_b {s : List SyT} (hl : s.length ≤ 20) : 0 ≤ cst s ∧ cst s ≤ 100 := by
 have h := bst_bo s (by omega)
 unfold boL at h
 show 0 ≤ (bst s).2.2.1 ∧ (bst s).2.2.1 ≤ 100
 omega
section
variable (s : List SyT) (m : Int) (hr : ∀ x ∈ s, sOK m x = true) (h0 : 0 ≤ m) (h1 : m < 12) (hl : s.length ≤ 20)
include hr h0 h1 hl
theorem j6c_run (a : Nat) (ha : a ≤ s.length) (p q r : PaT) (hp : p = (false, m, (s.length : Int), chL s)) (hq : q = (false, m, ((s.take a).length : Int), chL (s.take a))) (hr' : r = (false, m, ((s.drop a).length : Int), chL (s.drop a))) :
  GD 6 Tryd.f6 TQ (midI 16 [] [.code (bodyOf Tryd.f6)]) ⟨[(6, .bool false), (7, .bool true), (11, .ptr 11 0), (12, .int .i64 0), (13, .ptr 13 0), (14, .int .i64 0), (15, .ptr 15 0), (16, .int .i64 0)], [(11, .var [.bool p.1, .int .i64 p.2.1, .int .i64 p.2.2.1, .sl opS p.2.2.2]), (13, .var [.bool q.1, .int .i64 q.2.1, .int .i64 q.2.2.1, .sl opS q.2.2.2]), (15, .var [.bool r.1, .int .i64 r.2.1, .int .i64 r.2.2.1, .sl opS r.2.2.2])]⟩ := by
 have ht : ∀ x ∈ s.take a, sOK m x = true := fun x hx => hr x (List.mem_of_mem_take hx)
 have hd : ∀ x ∈ s.drop a, sOK m x = true := fun x hx => hr x (List.mem_of_mem_drop hx)
 have lt : (s.take a).length = a := by rw [List.length_take]; omega
 have ld : (s.drop a).length = s.length - a := List.length_drop ..
 obtain ⟨_, _, _, _, p3, p4⟩ := poV_ok hr h0 (by omega) (by omega)
 obtain ⟨_, _, _, _, q3, q4⟩ := poV_ok ht h0 (by omega) (by omega)
 obtain ⟨_, _, _, _, r3, r4⟩ := poV_ok hd h0 (by omega) (by omega)
 have cp : costF 0 p.2.2.2 = cst s := by rw [hp]; exact cost_eq hr h0 (by omega) (by omega)
 have cq : costF 0 q.2.2.2 = cst (s.take a) := by rw [hq]; exact cost_eq ht h0 (by omega) (by omega)
 have cr : costF 0 r.2.2.2 = cst (s.drop a) := by rw [hr']; exact cost_eq hd h0 (by omega) (by omega)
 rw [← hp] at p4
 rw [← hq] at q4
 rw [← hr'] at r4
 have lp : p.2.2.2.length < 1099511627776 := by rw [hp]; show (chL s).length < _; omega
 have lq : q.2.2.2.length < 1099511627776 := by rw [hq]; show (chL (s.take a)).length < _; omega
 have lr : r.2.2.2.length < 1099511627776 := by rw [hr']; show (chL (s.drop a)).length < _; omega
 have bt := cost_b (s := s.take a) (by omega)
 have bd := cost_b (s := s.drop a) (by omega)
 have k1 := cst_app (s.take a).length (s.take a) (s.drop a) (Nat.le_refl _) (by rw [List.take_append_drop]; omega)
 rw [List.take_append_drop] at k1
 have k2 := cst_take s.length s (Nat.le_refl _) (by omega) a
 have k3 := cst_drop (l := s) (by omega) a
 refine sy_go cxLj (vc_j6c p q r 0 0 0 _ _) ?_
 rw [cp, cq, cr, IntWalk.i64_in (cst (s.take a) + cst (s.drop a)) (by omega), p4, q4, r4]
 refine bc_of (fun h => by simp at h) (fun _ => bc_of (fun h => by simp at h) (fun _ => bc_of (fun h => by simp at h) (fun _ => ⟨trivial, bc_of (fun h => by simp at h) (fun _ => ⟨trivial, bc_of (fun h => by simp at h) (fun _ => ⟨trivial, bc_of (fun h => by simp at h) (fun _ => ⟨lp, lq, lr, ?_⟩)⟩)⟩)⟩)))
 rw [decide_eq_true k1, bc_t, decide_eq_true k2, bc_t, decide_eq_true k3]
 rfl
theorem j6b_run (a : Nat) (ha : a ≤ s.length) : GD 6 Tryd.f6 TQ (midI 10 [] [.code (bodyOf Tryd.f6)]) ⟨[(6, .bool false), (7, .bool true), (8, .int .i64 m), (9, .sl syS s), (10, .int .i64 (a : Nat))], []⟩ := by
 have ht : ∀ x ∈ s.take a, sOK m x = true := fun x hx => hr x (List.mem_of_mem_take hx)
 have hd : ∀ x ∈ s.drop a, sOK m x = true := fun x hx => hr x (List.mem_of_mem_drop hx)
 have lt : (s.take a).length = a := by rw [List.length_take]; omega
 have ld : (s.drop a).length = s.length - a := List.length_drop ..
 have vp := cpV_ok hr h0 (by omega) (by omega)
 have vq := cpV_ok ht h0 (by omega) (by omega)
 have vr := cpV_ok hd h0 (by omega) (by omega)
 refine sy_goKm cxLj (vc_j6b s m a _ _) ?_
 rw [Int.toNat_natCast, vp, vq, vr]
 refine ⟨(show s.length < 16777216 by omega), by omega, by omega, (show (s.take a).length < 16777216 by omega), by omega, by omega, (show (s.drop a).length < 16777216 by omega), ?_⟩
 exact (j6c_run s m hr h0 h1 hl a ha _ _ _ rfl rfl rfl).only ⟨rfl, rfl, rfl, rfl, rfl, rfl, rfl, rfl, trivial⟩ ⟨rfl, rfl, rfl, trivial⟩
end
theorem j6_run (l : List (List Int)) (n k : Int) (hl : preL2 l) (hn : 0 ≤ n ∧ n < 256) (hk : 0 ≤ k ∧ k < 256) : GD 6 Tryd.f6 TQ [.code (bodyOf Tryd.f6)] (entry [.sl a2S, uB, uB] (l, n, k, ())) := by
 refine sy_goKm cxLj (vc_j6a l n k _ _) ?_
 have w : IntKind.i64.wrap (n.tmod 12) = n % 12 := by rw [Int.tmod_eq_emod_of_nonneg hn.1, IntWalk.i64_in _ (by omega)]
 rw [w]
 have h0 : 0 ≤ n % 12 ∧ n % 12 < 12 := by omega
 generalize n % 12 = m at *
 have hr := rawL_ok (n := m) hl (rawK l)
 have hk1 := rawL_len l m (rawK l)
 have hk2 : rawK l ≤ 20 := by unfold rawK; omega
 generalize rawL l m (rawK l) = s at *
 have w2 : IntKind.i64.wrap ((s.length : Int) + 1) = (s.length : Int) + 1 := IntWalk.i64_in _ (by omega)
 have w3 : IntKind.i64.wrap k = k := IntWalk.i64_in k (by omega)
 rw [w2, w3, Int.tmod_eq_emod_of_nonneg hk.1]
 have hm0 : 0 ≤ k % ((s.length : Int) + 1) := Int.emod_nonneg _ (by omega)
 have hm1 : k % ((s.length : Int) + 1) < (s.length : Int) + 1 := Int.emod_lt_of_pos _ (by omega)
 obtain ⟨a, ha⟩ : ∃ a : Nat, k % ((s.length : Int) + 1) = (a : Int) := ⟨(k % ((s.length : Int) + 1)).toNat, by omega⟩
 rw [ha] at hm1 ⊢
 refine ⟨trivial, by decide, ⟨hl, (show preN m from ⟨h0.1, by omega⟩)⟩, by omega, ?_⟩
 have w1 : winL syS 0 s.length s = s := winA (e := syS) _
 refine frzG (i := 1106496) (e := syS) (et := 52) (xs := s) rfl rfl ?_
 refine (j6b_run s m hr h0.1 h0.2 (by omega) a (by omega)).only ⟨rfl, rfl, rfl, ?_, rfl, trivial⟩ trivial
 show some (SV.sl syS (winL syS 0 s.length s)) = _
 rw [w1]
def ctLj : Ctr := ⟨[.sl a2S, uB, uB], fun x => preL2 x.1 ∧ (0 ≤ x.2.1 ∧ (show Int from x.2.1) < 256) ∧ (0 ≤ x.2.2.1 ∧ (show Int from x.2.2.1) < 256), fun _ => [.bool true], fun _ => []⟩
theorem j6_held : Held Tryd.prog G0 6 ctLj :=
 Held.of cxLj (fn := Tryd.f6) rfl rfl ⟨by decide, by decide⟩ fun ⟨l, n, k, _⟩ hp =>
  (j6_run l n k hp.1 hp.2.1 hp.2.2).post fun rs blk hq => QC.flat (by rw [hq]; rfl) rfl (by rw [hq]; rfl)
end Go.Proofs.YtkiicobbnllpkaaDoor
namespace Go.Proofs.YtkiicobbnllpkaaDoor
open Go.Px Go.Ax
def u8L (b : List Int) : Prop := ∀ j, 0 ≤ gtB b j ∧ gtB b j < 256
theorem u8_wf {n : Int} (h : wfD uB n) : 0 ≤ n ∧ n < 256 := by
 have h : (Lit.int IntKind.u8 n).wf = true := h
 simp [Lit.wf, IntKind.min, IntKind.max, IntKind.signed, IntKind.bits] at h
 omega
theorem u8_of {l : List Int} (h : ∀ x ∈ l, wfD uB x) : u8L l := fun j => by
 by_cases hj : j < l.length
 ·rw [gtB_at hj]; exact u8_wf (h _ (List.getElem_mem hj))
 ·have : gtB l j = 0 := by
   show gt uB _ _ = _
   unfold gt
   rw [List.getElem?_eq_none (by omega)]; rfl
  rw [this]; decide
theorem l2_of {l : List (List Int)} (h : ∀ x ∈ l, wfD a2S x) : preL2 l := fun j k => by
 by_cases hj : j < l.length
 ·have e : gt a2S l j = l[j] := gtE (e := a2S) hj
  rw [e]
  exact u8_of (h _ (List.getElem_mem hj)).2 k
 ·have : gt a2S l j = List.replicate 2 (0 : Int) := by
   unfold gt
   rw [List.getElem?_eq_none (by omega)]; rfl
  rw [this]
  exact u8_of (fun x hx => by rw [List.eq_of_mem_replicate hx]; rfl) k
theorem G_get {g : Nat} {x : ABlk} (h : rawG.get g = some x) : g = 0 ∧ x = .cells costCells 111 2 := by
 unfold rawG T.get at h
 split at h
 ·rename_i e; cases h; exact ⟨e, rfl⟩
 ·split at h <;> (simp [T.get] at h)
theorem hG : Glob G0.raw := ⟨fun g x h => by rw [(G_get h).1]; decide, fun g x h => by rw [(G_get h).2]; decide⟩
abbrev H0 : AHeap := ⟨nglob, G0.raw⟩
def Z0 : Nat → Option ABlk := fun g => rawG.get g
theorem gz0 : GZ Z0 G0 := by
 refine ⟨fun g x e => ?_, fun g x e => e⟩
 simp only [G0, lk] at e
 split at e
 ·rename_i h; subst h; cases e
  refine ⟨by decide, fun ν => ⟨0, 0, costCells, 111, 2, rfl, rfl, by decide, ?_⟩⟩
  exact rv_of (.arr 5 coS) costsL ⟨rfl, fun x _ => ⟨trivial, trivial⟩⟩
 ·cases e
theorem fro0 : Px.Fro G0 H0 := ⟨fun i x h => by rw [(G_get h).2]; rfl, fun i x h => by rw [(G_get h).2]; trivial, fun i x h => by rw [(G_get h).1]; decide, gz0⟩
end Go.Proofs.YtkiicobbnllpkaaDoor
