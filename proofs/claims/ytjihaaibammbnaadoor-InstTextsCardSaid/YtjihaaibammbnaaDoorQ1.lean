/-
  A part of the proof: what pieces of the program give; conditions: those of each theorem.
-/
import Derived.Test.YtjihaaibammbnaaDoorQ0
import Derived.Test.YtjihaaibammbnaaDoorHD
import Derived.KernelRfl
import Derived.Test.YtjihaaibammbnaaDoorGE
set_option linter.unusedVariables false
set_option linter.unusedSimpArgs false
namespace Go.Proofs.YtjihaaibammbnaaDoor
open Go.Px Go.Ax
theorem winA {e : Sh} (l : List e.D) : winL e 0 l.length l = l := by
  simp [winL]
def opT (x : Int) : List Int := 32 :: numT x
def rgT (r : List Int) (kr : Int) : Nat → List Int
  | 0 => []
  | k + 1 => (if (2 - (k : Int)) < kr then opT (gt (.int .i64) r (2 - (k : Int)).toNat) else []) ++ rgT r kr k
def nT (kb n : Int) : List Int := if 0 < kb then opT n else []
def mid (x : Int) : Prop := -1000000000000000000 < x ∧ x < 1000000000000000000
theorem numT_len (n : Int) : (numT n).length ≤ 20 := by
  unfold numT
  split
  · have := digT_len 19 (-n)
    rw [List.length_cons]; omega
  · have := digT_len 19 n
    omega
theorem print_loop (o a b c n kr kb : Int) (ks : List UInt8) (kg kt : Bool) (r : List Int) (hr : ∀ j, mid (gt (.int .i64) r j)) (hn : mid n) : ∀ (k : Nat) (l : List Int), k ≤ 3 → l.length + 21 * (k + 1) < 268435456 →
    Px.Good Tryd.prog tt G0 16 Tryd.f16.ntmps Tryd.f16.results.toList (fun rs _ => rs = [.str ((l ++ (rgT r kr k ++ nT kb n)).map toB)]) (hd Tryd.f16 0) ⟨[(0, .agg [.int .i64 o, .int .i64 a, .int .i64 b, .int .i64 c, .int .i64 n]), (1, .ptr 1 0), (3, .ptr 3 0), (4, .win true (.int .u8) 16 0 l.length), (23, .arr 3 (.int .i64) r), (24, .int .i64 (3 - (k : Int)))], [(1, .var [.int .i64 o, .int .i64 a, .int .i64 b, .int .i64 c, .int .i64 n]), (3, .var [.str ks, .int .i64 kr, .int .i64 kb, .bool kg, .bool kt]), (16, .row 5 (.int .u8) l)]⟩ := by
  intro k
  induction k with
  | zero =>
    intro l hk hl
    refine sy_sound cx9 _ _ _ ((vc_printA o a b c n _ kr kb ks kg kt r l _ _).mpr ?_)
    rw [decide_eq_false (show ¬ (3 - ((0 : Nat) : Int)) < 3 by omega), bc_f]
    refine bc_of (fun h => ?_) (fun h => ?_)
    · have h := of_decide_eq_true h
      have hpre : preNT n (l ++ [32]).length := ⟨hn.1, hn.2, by rw [List.length_append, List.length_singleton]; omega⟩
      refine ⟨Nat.le_refl 1, rfl, rfl, ?_, by decide, ?_, hpre, Nat.le_of_eq (Nat.zero_add _), ?_⟩
      · show l.length + 1 < 2 ^ 30
        omega
      · show l.length + 1 = _
        rw [List.length_append, List.length_singleton]
      · have e : l ++ (rgT r kr 0 ++ nT kb n) = l ++ ([32] : List Int) ++ numT n := by simp [rgT, nT, h, opT]
        rw [e]
        exact congrArg (fun z => [SV.str (List.map toB z)]) (winA (e := .int .u8) (l ++ ([32] : List Int) ++ numT n))
    · have h := of_decide_eq_false h
      refine ⟨Nat.le_of_eq (Nat.zero_add _), ?_⟩
      have e : l ++ (rgT r kr 0 ++ nT kb n) = l := by simp [rgT, nT, h]
      rw [e]
      exact congrArg (fun z => [SV.str (List.map toB z)]) (winA (e := .int .u8) l)
  | succ k ih =>
    intro l hk hl
    have hi : (3 - ((k + 1 : Nat) : Int)) = 2 - (k : Int) := by omega
    rw [hi]
    refine sy_sound cx9 _ _ _ ((vc_printA o a b c n _ kr kb ks kg kt r l _ _).mpr ?_)
    rw [decide_eq_true (show (2 - (k : Int)) < 3 by omega), bc_t, IntWalk.i64_in (2 - (k : Int) + 1) (by omega), show (2 - (k : Int) + 1) = 3 - (k : Int) by omega]
    refine ⟨by omega, by show 2 - (k : Int) < 3; omega, bc_of (fun h => ?_) (fun h => ?_)⟩
    · have h := of_decide_eq_true h
      have hg := hr (2 - (k : Int)).toNat
      have hpre : preNT (gt (.int .i64) r (2 - (k : Int)).toNat) (l ++ [32]).length := ⟨hg.1, hg.2, by rw [List.length_append, List.length_singleton]; omega⟩
      have hln := numT_len (gt (.int .i64) r (2 - (k : Int)).toNat)
      have k1 := ih (l ++ ([32] : List Int) ++ numT (gt (.int .i64) r (2 - (k : Int)).toNat)) (by omega) (by rw [List.length_append, List.length_append, List.length_singleton]; omega)
      have e : l ++ (rgT r kr (k + 1) ++ nT kb n) = l ++ ([32] : List Int) ++ numT (gt (.int .i64) r (2 - (k : Int)).toNat) ++ (rgT r kr k ++ nT kb n) := by
        simp [rgT, if_pos h, opT]
      rw [e]
      refine ⟨Nat.le_refl 1, rfl, rfl, ?_, by decide, ?_, hpre, ?_⟩
      · show l.length + 1 < 2 ^ 30
        omega
      · show l.length + 1 = _
        rw [List.length_append, List.length_singleton]
      · exact k1.onlyR [(16, 1147456)] rfl ⟨rfl, rfl, rfl, rfl, rfl, rfl, trivial⟩ ⟨rfl, rfl, rfl, trivial⟩
    · have h := of_decide_eq_false h
      have e : l ++ (rgT r kr (k + 1) ++ nT kb n) = l ++ (rgT r kr k ++ nT kb n) := by
        simp [rgT, if_neg h]
      rw [e]
      exact (ih l (by omega) (by omega)).only ⟨rfl, rfl, rfl, rfl, rfl, rfl, trivial⟩ ⟨rfl, rfl, rfl, trivial⟩
/-- The text of a valid instruction. -/
def textL (o a b c n : Int) : List Int := List.map ofB (kd o).1 ++ (rgT [a, b, c] (kd o).2.1 3 ++ nT (kd o).2.2.1 n)
def prT (o a b c n : Int) : List UInt8 := if validV o a b c n then (textL o a b c n).map toB else []
def prePr (a b c n : Int) : Prop := mid a ∧ mid b ∧ mid c ∧ mid n
abbrev ctPr : Ctr := ⟨[.pair (.int .i64) (.pair (.int .i64) (.pair (.int .i64) (.pair (.int .i64) (.int .i64))))], fun x => prePr x.1.2.1 x.1.2.2.1 x.1.2.2.2.1 x.1.2.2.2.2, fun x => [.str (prT x.1.1 x.1.2.1 x.1.2.2.1 x.1.2.2.2.1 x.1.2.2.2.2)], fun _ => []⟩
theorem name_len (o : Int) (h0 : 0 ≤ o) (h9 : o < 9) : List.length (kd o).1 ≤ 6 := by
  rcases nine o h0 h9 with rfl | rfl | rfl | rfl | rfl | rfl | rfl | rfl | rfl <;> decide
theorem pr_run (o a b c n : Int) (h : prePr a b c n) : sy tt G0 C9 Tryd.f16.ntmps Tryd.f16.results.toList (QC ctPr ((o, a, b, c, n), ())) (Px.Good Tryd.prog tt G0 16 Tryd.f16.ntmps Tryd.f16.results.toList (QC ctPr ((o, a, b, c, n), ()))) 1000 [.code (bodyOf Tryd.f16)] (entry [.pair (.int .i64) (.pair (.int .i64) (.pair (.int .i64) (.pair (.int .i64) (.int .i64))))] ((o, a, b, c, n), ())) := by
  obtain ⟨ha, hb, hc, hn⟩ := h
  have hv : preVal n := ⟨by have := hn.1; omega, by have := hn.2; omega⟩
  refine (vc_print o a b c n _ _).mpr ⟨hv, bc_of (fun h => ?_) (fun h => ?_)⟩
  · have h : validV o a b c n = false := by simpa using h
    refine QC.flat ?_ rfl rfl
    show [SV.str (prT o a b c n)] = _
    rw [prT, h]; rfl
  · have h : validV o a b c n = true := by simpa using h
    have hE := h
    unfold validV encB at hE
    simp only [Bool.and_eq_true, decide_eq_true_eq] at hE
    have h0 := hE.1
    have h9 := hE.2.1
    have hl := name_len o h0 h9
    have hr : ∀ j, mid (gt (.int .i64) [a, b, c] j) := fun j => match j with
      | 0 => ha
      | 1 => hb
      | 2 => hc
      | _ + 3 => (show mid 0 from ⟨by decide, by decide⟩)
    refine ⟨h0, by show o < 9; exact h9, ?_, ?_⟩
    · exact Nat.lt_of_le_of_lt hl (by decide)
    · have e := print_loop o a b c n (kd o).2.1 (kd o).2.2.1 (kd o).1 (kd o).2.2.2.1 (kd o).2.2.2.2 [a, b, c] hr hn 3 (List.map ofB (kd o).1) (Nat.le_refl 3) (by rw [List.length_map]; omega)
      refine (e.post fun rs blk hq => QC.flat ?_ rfl (by rw [hq]; rfl)).only ⟨rfl, rfl, rfl, ?_, rfl, rfl, trivial⟩ ⟨rfl, rfl, rfl, trivial⟩
      · rw [hq]
        show [SV.str (prT o a b c n)] = _
        rw [prT, h]; rfl
      · rw [List.length_map]; rfl
theorem pr_held : Held Tryd.prog G0 16 ctPr :=
  Held.run cx9 (fn := Tryd.f16) rfl rfl ⟨by decide, by decide⟩ fun x hp => pr_run x.1.1 x.1.2.1 x.1.2.2.1 x.1.2.2.2.1 x.1.2.2.2.2 hp
end Go.Proofs.YtjihaaibammbnaaDoor
namespace Go.Proofs.YtjihaaibammbnaaDoor
open Go.Px Go.Ax
noncomputable section
def C10 : CV := (16, .inl ctPr) :: C6
set_option maxRecDepth 100000
theorem vc_texts (x y : List Int) (n : Int) (Q : List SV → List (Nat × LB) → Prop) (R : List Item → PS → Prop) : sy tt G0 C10 Tryd.f9.ntmps Tryd.f9.results.toList Q R 1000 [.code (bodyOf Tryd.f9)] (entry [.arr 4 (.int .u8), .arr 4 (.int .u8), .int .u16] (x, y, n, ())) =
    (ctSan.pre () ∧
 ctPlace.pre (n, ()) ∧
 ctMade.pre (x, ()) ∧
 ctDec.pre (madeV x, plc n, ()) ∧
 ctMade.pre (y, ()) ∧
 ctDec.pre (madeV y, plc n, ()) ∧
 ctPr.pre ((opV (madeV x), rg (madeV x) (regs (opV (madeV x))) (0 : Int), rg (madeV x) (regs (opV (madeV x))) (1 : Int), rg (madeV x) (regs (opV (madeV x))) (2 : Int), numN (madeV x) (plc n) (kd (opV (madeV x))).snd.snd.fst (kd (opV (madeV x))).snd.snd.snd.fst (kd (opV (madeV x))).snd.snd.snd.snd), ()) ∧
 bc (decide (prT (opV (madeV x)) (rg (madeV x) (regs (opV (madeV x))) (0 : Int)) (rg (madeV x) (regs (opV (madeV x))) (1 : Int)) (rg (madeV x) (regs (opV (madeV x))) (2 : Int)) (numN (madeV x) (plc n) (kd (opV (madeV x))).snd.snd.fst (kd (opV (madeV x))).snd.snd.snd.fst (kd (opV (madeV x))).snd.snd.snd.snd) ≠ (ByteArray.mk #[]).data.toList)) (ctPr.pre ((opV (madeV x), rg (madeV x) (regs (opV (madeV x))) (0 : Int), rg (madeV x) (regs (opV (madeV x))) (1 : Int), rg (madeV x) (regs (opV (madeV x))) (2 : Int), numN (madeV x) (plc n) (kd (opV (madeV x))).snd.snd.fst (kd (opV (madeV x))).snd.snd.snd.fst (kd (opV (madeV x))).snd.snd.snd.snd), ()) ∧
 ctPr.pre ((opV (madeV y), rg (madeV y) (regs (opV (madeV y))) (0 : Int), rg (madeV y) (regs (opV (madeV y))) (1 : Int), rg (madeV y) (regs (opV (madeV y))) (2 : Int), numN (madeV y) (plc n) (kd (opV (madeV y))).snd.snd.fst (kd (opV (madeV y))).snd.snd.snd.fst (kd (opV (madeV y))).snd.snd.snd.snd), ()) ∧
 bc (bif true then decide (prT (opV (madeV x)) (rg (madeV x) (regs (opV (madeV x))) (0 : Int)) (rg (madeV x) (regs (opV (madeV x))) (1 : Int)) (rg (madeV x) (regs (opV (madeV x))) (2 : Int)) (numN (madeV x) (plc n) (kd (opV (madeV x))).snd.snd.fst (kd (opV (madeV x))).snd.snd.snd.fst (kd (opV (madeV x))).snd.snd.snd.snd) = prT (opV (madeV y)) (rg (madeV y) (regs (opV (madeV y))) (0 : Int)) (rg (madeV y) (regs (opV (madeV y))) (1 : Int)) (rg (madeV y) (regs (opV (madeV y))) (2 : Int)) (numN (madeV y) (plc n) (kd (opV (madeV y))).snd.snd.fst (kd (opV (madeV y))).snd.snd.snd.fst (kd (opV (madeV y))).snd.snd.snd.snd)) == decide ([opV (madeV x), rg (madeV x) (regs (opV (madeV x))) (0 : Int), rg (madeV x) (regs (opV (madeV x))) (1 : Int), rg (madeV x) (regs (opV (madeV x))) (2 : Int), numN (madeV x) (plc n) (kd (opV (madeV x))).snd.snd.fst (kd (opV (madeV x))).snd.snd.snd.fst (kd (opV (madeV x))).snd.snd.snd.snd] = [opV (madeV y), rg (madeV y) (regs (opV (madeV y))) (0 : Int), rg (madeV y) (regs (opV (madeV y))) (1 : Int), rg (madeV y) (regs (opV (madeV y))) (2 : Int), numN (madeV y) (plc n) (kd (opV (madeV y))).snd.snd.fst (kd (opV (madeV y))).snd.snd.snd.fst (kd (opV (madeV y))).snd.snd.snd.snd]) else false) (Q [SV.bool (bif true then true else false)] [((3 : Nat), LB.var [SV.arr (4 : Nat) (Sh.int IntKind.u8) x]), ((4 : Nat), LB.var [SV.arr (4 : Nat) (Sh.int IntKind.u8) y]), ((9 : Nat), LB.var [SV.int IntKind.i64 (opV (madeV x)), SV.int IntKind.i64 (rg (madeV x) (regs (opV (madeV x))) (0 : Int)), SV.int IntKind.i64 (rg (madeV x) (regs (opV (madeV x))) (1 : Int)), SV.int IntKind.i64 (rg (madeV x) (regs (opV (madeV x))) (2 : Int)), SV.int IntKind.i64 (numN (madeV x) (plc n) (kd (opV (madeV x))).snd.snd.fst (kd (opV (madeV x))).snd.snd.snd.fst (kd (opV (madeV x))).snd.snd.snd.snd)]), ((10 : Nat), LB.var [SV.int IntKind.i64 (opV (madeV y)), SV.int IntKind.i64 (rg (madeV y) (regs (opV (madeV y))) (0 : Int)), SV.int IntKind.i64 (rg (madeV y) (regs (opV (madeV y))) (1 : Int)), SV.int IntKind.i64 (rg (madeV y) (regs (opV (madeV y))) (2 : Int)), SV.int IntKind.i64 (numN (madeV y) (plc n) (kd (opV (madeV y))).snd.snd.fst (kd (opV (madeV y))).snd.snd.snd.fst (kd (opV (madeV y))).snd.snd.snd.snd)])]) (false = false ∧
 Q [SV.bool false] [((3 : Nat), LB.var [SV.arr (4 : Nat) (Sh.int IntKind.u8) x]), ((4 : Nat), LB.var [SV.arr (4 : Nat) (Sh.int IntKind.u8) y]), ((9 : Nat), LB.var [SV.int IntKind.i64 (opV (madeV x)), SV.int IntKind.i64 (rg (madeV x) (regs (opV (madeV x))) (0 : Int)), SV.int IntKind.i64 (rg (madeV x) (regs (opV (madeV x))) (1 : Int)), SV.int IntKind.i64 (rg (madeV x) (regs (opV (madeV x))) (2 : Int)), SV.int IntKind.i64 (numN (madeV x) (plc n) (kd (opV (madeV x))).snd.snd.fst (kd (opV (madeV x))).snd.snd.snd.fst (kd (opV (madeV x))).snd.snd.snd.snd)]), ((10 : Nat), LB.var [SV.int IntKind.i64 (opV (madeV y)), SV.int IntKind.i64 (rg (madeV y) (regs (opV (madeV y))) (0 : Int)), SV.int IntKind.i64 (rg (madeV y) (regs (opV (madeV y))) (1 : Int)), SV.int IntKind.i64 (rg (madeV y) (regs (opV (madeV y))) (2 : Int)), SV.int IntKind.i64 (numN (madeV y) (plc n) (kd (opV (madeV y))).snd.snd.fst (kd (opV (madeV y))).snd.snd.snd.fst (kd (opV (madeV y))).snd.snd.snd.snd)])])) (false = false ∧
 false = false ∧
 Q [SV.bool false] [((3 : Nat), LB.var [SV.arr (4 : Nat) (Sh.int IntKind.u8) x]), ((4 : Nat), LB.var [SV.arr (4 : Nat) (Sh.int IntKind.u8) y]), ((9 : Nat), LB.var [SV.int IntKind.i64 (opV (madeV x)), SV.int IntKind.i64 (rg (madeV x) (regs (opV (madeV x))) (0 : Int)), SV.int IntKind.i64 (rg (madeV x) (regs (opV (madeV x))) (1 : Int)), SV.int IntKind.i64 (rg (madeV x) (regs (opV (madeV x))) (2 : Int)), SV.int IntKind.i64 (numN (madeV x) (plc n) (kd (opV (madeV x))).snd.snd.fst (kd (opV (madeV x))).snd.snd.snd.fst (kd (opV (madeV x))).snd.snd.snd.snd)]), ((10 : Nat), LB.var [SV.int IntKind.i64 (opV (madeV y)), SV.int IntKind.i64 (rg (madeV y) (regs (opV (madeV y))) (0 : Int)), SV.int IntKind.i64 (rg (madeV y) (regs (opV (madeV y))) (1 : Int)), SV.int IntKind.i64 (rg (madeV y) (regs (opV (madeV y))) (2 : Int)), SV.int IntKind.i64 (numN (madeV y) (plc n) (kd (opV (madeV y))).snd.snd.fst (kd (opV (madeV y))).snd.snd.snd.fst (kd (opV (madeV y))).snd.snd.snd.snd)])])) := by kernel_rfl
end
end Go.Proofs.YtjihaaibammbnaaDoor
namespace Go.Proofs.YtjihaaibammbnaaDoor
open Go.Px Go.Ax
set_option linter.unusedVariables false
theorem bc_ne {L M : List Int} [d : Decidable (L = M)] {A B : Prop} (e : L = M) (h : B) : bc (!decide (L = M)) A B := by
  rw [decide_eq_true e]; exact h
theorem kd_t (o : Int) (h0 : 0 ≤ o) (h9 : o < 9) : (kd o).2.2.2.2 = decide (5 ≤ o) := by
  rcases nine o h0 h9 with rfl | rfl | rfl | rfl | rfl | rfl | rfl | rfl | rfl <;> rfl
theorem numN_move {u p q : Int} (h5 : 5 ≤ opV u) (hp : 0 ≤ p ∧ p ≤ 65540) (hq : 0 ≤ q ∧ q ≤ 65540) (b : Int) (g : Bool) : IntKind.i64.wrap (numN u p b g (kd (opV u)).2.2.2.2 + IntKind.i64.wrap (q - p)) = numN u q b g (kd (opV u)).2.2.2.2 := by
  have ho := opV_range u
  have hn := numV_range g u b
  rw [kd_t _ ho.1 ho.2, decide_eq_true h5]
  simp only [numN, if_true]
  rw [IntWalk.i64_in (q - p) (by omega), IntWalk.i64_in _ (by omega)]
  omega
theorem numN_stay {u p q : Int} (h5 : ¬ 5 ≤ opV u) (b : Int) (g : Bool) : numN u p b g (kd (opV u)).2.2.2.2 = numN u q b g (kd (opV u)).2.2.2.2 := by
  have ho := opV_range u
  rw [kd_t _ ho.1 ho.2, decide_eq_false h5]
  rfl
def rng (n : Int) : Prop := 0 ≤ n ∧ n < 4294967296
theorem moves_loop (hx : CxOK Tryd.prog tt G0 C6) (p q : Int) (l : List Int) (hp : 0 ≤ p ∧ p ≤ 65540) (hq : 0 ≤ q ∧ q ≤ 65540) (hl : l.length = 2) (hr : ∀ j, rng (gt (.int .u32) l j)) : ∀ (m : Nat) (i : Int), 0 ≤ i → i ≤ 2 → (2 - i).toNat = m →
    Px.Good Tryd.prog tt G0 5 Tryd.f5.ntmps Tryd.f5.results.toList (fun rs _ => rs = [.bool true]) (hd Tryd.f5 0) ⟨[(7, .bool true), (8, .int .i64 p), (9, .int .i64 q), (10, .win true (.int .u32) 24 0 2), (11, .int .i64 i)], [(24, .row 22 (.int .u32) l)]⟩ := by
  intro m
  induction m with
  | zero =>
    intro i hi hin hm
    refine sy_sound hx _ _ _ ((vc_movesL p q i l _ _).mpr ?_)
    rw [show decide (i < 2) = false from decide_eq_false (by omega), bc_f]
  | succ m ih =>
    intro i hi hin hm
    refine sy_sound hx _ _ _ ((vc_movesL p q i l _ _).mpr ?_)
    rw [show decide (i < 2) = true from decide_eq_true (by omega), bc_t, IntWalk.i64_in (i + 1) (by omega)]
    have hu := hr (0 + i.toNat)
    refine ⟨hi, by show _ < (2 : Int); omega, by omega, ⟨hu, hp⟩, hi, by show _ < (2 : Int); omega, by omega, ⟨hu, hq⟩, bc_of (fun h => ?_) (fun h => ?_)⟩
    · have h5 := of_decide_eq_true h
      refine bc_ne ?_ ?_
      · rw [numN_move h5 hp hq]
      · exact (ih (i + 1) (by omega) (by omega) (by omega)).only ⟨rfl, rfl, rfl, rfl, rfl, trivial⟩ ⟨rfl, trivial⟩
    · have h5 := of_decide_eq_false h
      refine bc_ne ?_ ?_
      · rw [numN_stay h5]
      · exact (ih (i + 1) (by omega) (by omega) (by omega)).only ⟨rfl, rfl, rfl, rfl, rfl, trivial⟩ ⟨rfl, trivial⟩
def preM (w : Int) (p : List Int) : Prop := rng w ∧ ∀ j, preP (gt (.int .u16) p j)
def ctMoves : Ctr := ⟨[.int .u32, .arr 4 (.int .u8), .arr 2 (.int .u16)], fun x => preM x.1 x.2.2.1, fun _ => [.bool true], fun _ => []⟩
theorem plc_ok {n : Int} (h : preP n) : 0 ≤ plc n ∧ plc n ≤ 65540 := by unfold preP at h; unfold plc; omega
theorem moves_held (hx : CxOK Tryd.prog tt G0 C6) : Held Tryd.prog G0 5 ctMoves := by
  refine Held.run hx (fn := Tryd.f5) rfl rfl ⟨by decide, by decide⟩ ?_
  rintro ⟨w, x, p, ⟨⟩⟩ hpre
  obtain ⟨hw, hpp⟩ : preM w p := hpre
  refine (vc_moves w x p _ _).mpr ⟨trivial, by decide, by decide, by decide, hpp 0, by decide, by decide, by decide, hpp 1, trivial, ?_⟩
  have e := moves_loop hx (plc (gt (.int .u16) p 0)) (plc (gt (.int .u16) p 1)) [w, madeV x] (plc_ok (hpp 0)) (plc_ok (hpp 1)) rfl (fun j => match j with
    | 0 => hw
    | 1 => madeV_range x
    | _ + 2 => (show rng 0 from ⟨by decide, by decide⟩)) _ 0 (by omega) (by omega) rfl
  exact (e.post fun rs blk hq => QC.flat hq.symm rfl (by rw [hq]; rfl)).only ⟨rfl, rfl, rfl, rfl, rfl, trivial⟩ ⟨rfl, trivial⟩
end Go.Proofs.YtjihaaibammbnaaDoor
namespace Go.Proofs.YtjihaaibammbnaaDoor
open Go.Px Go.Ax
noncomputable abbrev FF := fnsOf Tryd.prog 3 29
set_option maxRecDepth 100000 in
theorem fns_ok : Ax.fnsOK Tryd.prog 3 29 = true := by decide +kernel
theorem cxE : Cx Tryd.prog FF := Cx.of_ok fns_ok mixed
theorem G_get {g : Nat} {x : ABlk} (h : rawG.get g = some x) : g = 0 ∧ x = .cells kindCells 60 2 := by
  unfold rawG T.get at h
  split at h
  · rename_i e; cases h; exact ⟨e, rfl⟩
  · split at h <;> (simp [T.get] at h)
theorem hG : Glob G0.raw := ⟨fun g x h => by rw [(G_get h).1]; decide, fun g x h => by rw [(G_get h).2]; decide⟩
abbrev H0 : AHeap := ⟨nglob, G0.raw⟩
set_option maxRecDepth 100000 in
theorem sanity_runs : Ax.givesV (Ax.eval Tryd.prog FF 300 (.call 10 #[] H0)) (.bool true) = true := by decide +kernel
theorem san_held : Held Tryd.prog G0 10 ctSan := by
  have h := sanity_runs
  unfold givesV at h
  split at h
  · rename_i r H2 he
    simp only [Bool.and_eq_true] at h
    have hr := eqV_eq _ _ h.1
    subst hr
    exact Held.bool0 hG (Valid.eval cxE 300 _ _ he)
  · cases h
theorem cx6 : CxOK Tryd.prog tt G0 C6 := ((cx4.cons made_held (fn := Tryd.f12) rfl rfl rfl).cons place_held (fn := Tryd.f11) rfl rfl rfl).cons san_held (fn := Tryd.f10) rfl rfl rfl
def Z0 : Nat → Option ABlk := fun g => rawG.get g
theorem gz0 : GZ Z0 G0 := by
  refine ⟨fun g x e => ?_, fun g x e => e⟩
  simp only [G0, lk] at e
  split at e
  · rename_i h; subst h; cases e
    refine ⟨by decide, fun ν => ⟨0, 0, kindCells, 60, 2, rfl, rfl, by decide, ?_⟩⟩
    exact rv_of (.arr 9 kindSh) kindsL ⟨rfl, fun x _ => ⟨trivial, trivial, trivial, trivial, trivial⟩⟩
  · cases e
theorem moves_ok : Held Tryd.prog G0 5 ctMoves := moves_held cx6
end Go.Proofs.YtjihaaibammbnaaDoor
namespace Go.Proofs.YtjihaaibammbnaaDoor
open Go.Px Go.Ax
theorem preM_of {w : Int} {p : List Int} (hw : (Lit.int .u32 w).wf = true) (hp : ∀ n ∈ p, (Lit.int .u16 n).wf = true) : preM w p := by
  refine ⟨?_, fun j => ?_⟩
  · have h := Go.bounds_u32 hw
    exact ⟨h.1, by omega⟩
  · show preP ((p[j]?).getD 0)
    cases h : p[j]? with
    | none => exact ⟨by decide, by decide⟩
    | some n =>
      have h := Go.bounds_u16 (hp n (List.mem_of_getElem? h))
      exact ⟨h.1, by show n ≤ 65535; omega⟩
end Go.Proofs.YtjihaaibammbnaaDoor
namespace Go.Proofs.YtjihaaibammbnaaDoor
open Go.Ax
theorem u32_wrap {a : Int} : IntKind.u32.wrap a = a % 4294967296 := by rw [IntKind.wrap_u32]
def sgn (n m : Int) : Int := if m / 2 ≤ n then n - m else n
def near (n : Int) : Int := min (max n 0) 65536 - min (max n 0) 65536 % 4
structure Wd (w b0 b1 b2 b3 : Int) : Prop where
  e : w = 16777216 * b0 + 65536 * b1 + 256 * b2 + b3
  h0 : 0 ≤ b0 ∧ b0 ≤ 255
  h1 : 0 ≤ b1 ∧ b1 ≤ 255
  h2 : 0 ≤ b2 ∧ b2 ≤ 255
  h3 : 0 ≤ b3 ∧ b3 ≤ 255
theorem wd (w : Int) (h0 : 0 ≤ w) (h1 : w < 4294967296) : Wd w (w / 16777216 % 256) (w / 65536 % 256) (w / 256 % 256) (w % 256) := ⟨by omega, by omega, by omega, by omega, by omega⟩
def opS (b0 b1 b2 b3 : Int) : Int :=
  if 9 ≤ b0 then 0
  else if b0 = 1 ∨ b0 = 3 ∨ b0 = 4 then (if b1 ≤ 15 ∧ b2 ≤ 15 ∧ b3 ≤ 15 then b0 else 0)
  else if b0 = 2 ∨ b0 = 7 ∨ b0 = 8 then (if b1 ≤ 15 then b0 else 0)
  else b0
structure I5 where
  o : Int
  a : Int
  b : Int
  c : Int
  n : Int
def decO (o w b1 b2 b3 at_ : Int) : I5 :=
  if o = 0 then ⟨0, 0, 0, 0, w⟩
  else if o = 1 ∨ o = 3 ∨ o = 4 then ⟨o, b1, b2, b3, 0⟩
  else if o = 2 then ⟨2, b1, 0, 0, w % 65536⟩
  else if o = 5 ∨ o = 6 then ⟨o, 0, 0, 0, at_ + 4 * sgn (w % 16777216) 16777216⟩
  else if o = 7 then ⟨7, b1, 0, 0, at_ + 4 * sgn (w % 65536) 65536⟩
  else ⟨8, b1, 0, 0, at_ + 4 * (w % 65536)⟩
def decI (w at_ : Int) : I5 := decO (opS (w / 16777216 % 256) (w / 65536 % 256) (w / 256 % 256) (w % 256)) w (w / 65536 % 256) (w / 256 % 256) (w % 256) at_
def asmN (o n at_ : Int) : Int := if 5 ≤ o then (IntKind.i64.wrap (n - at_)).tdiv 4 else n
def asmL (o n at_ : Int) : Int :=
  let m := asmN o n at_ % 4294967296
  if o = 0 then m else if o = 5 ∨ o = 6 then m % 16777216 else if o = 2 ∨ o = 7 ∨ o = 8 then m % 65536 else 0
def asm (x : I5) (at_ : Int) : Int :=
  orW .u32 (orW .u32 (orW .u32 (orW .u32 (asmL x.o x.n at_) (x.o * 16777216)) (x.a % 256 * 65536)) (x.b % 256 * 256)) (x.c % 256)
/-- What can be encoded at a place. -/
inductive OkI (at_ : Int) : I5 → Prop
  | data {n} (h0 : 0 ≤ n) (h1 : n < 4294967296) (h : opS (n / 16777216 % 256) (n / 65536 % 256) (n / 256 % 256) (n % 256) = 0) : OkI at_ ⟨0, 0, 0, 0, n⟩
  | regs {o a b c} (ho : o = 1 ∨ o = 3 ∨ o = 4) (ha : 0 ≤ a ∧ a ≤ 15) (hb : 0 ≤ b ∧ b ≤ 15) (hc : 0 ≤ c ∧ c ≤ 15) : OkI at_ ⟨o, a, b, c, 0⟩
  | set {a n} (ha : 0 ≤ a ∧ a ≤ 15) (hn : 0 ≤ n ∧ n < 65536) : OkI at_ ⟨2, a, 0, 0, n⟩
  | jump {o d} (ho : o = 5 ∨ o = 6) (hd : -8388608 ≤ d ∧ d < 8388608) : OkI at_ ⟨o, 0, 0, 0, at_ + 4 * d⟩
  | branch {a d} (ha : 0 ≤ a ∧ a ≤ 15) (hd : -32768 ≤ d ∧ d < 32768) : OkI at_ ⟨7, a, 0, 0, at_ + 4 * d⟩
  | pool {a d} (ha : 0 ≤ a ∧ a ≤ 15) (hd : 0 ≤ d ∧ d < 65536) : OkI at_ ⟨8, a, 0, 0, at_ + 4 * d⟩
theorem sgn24 {n : Int} (h0 : 0 ≤ n) (h1 : n < 16777216) : -8388608 ≤ sgn n 16777216 ∧ sgn n 16777216 < 8388608 := by unfold sgn; split <;> omega
theorem sgn16 {n : Int} (h0 : 0 ≤ n) (h1 : n < 65536) : -32768 ≤ sgn n 65536 ∧ sgn n 65536 < 32768 := by unfold sgn; split <;> omega
/-- Bytes by what the kind says. -/
inductive OpC (b0 b1 b2 b3 : Int) : Int → Prop
  | data (h : opS b0 b1 b2 b3 = 0) : OpC b0 b1 b2 b3 0
  | regs {o} (ho : o = 1 ∨ o = 3 ∨ o = 4) (e : b0 = o) (h1 : b1 ≤ 15) (h2 : b2 ≤ 15) (h3 : b3 ≤ 15) : OpC b0 b1 b2 b3 o
  | set (e : b0 = 2) (h1 : b1 ≤ 15) : OpC b0 b1 b2 b3 2
  | jump {o} (ho : o = 5 ∨ o = 6) (e : b0 = o) : OpC b0 b1 b2 b3 o
  | branch (e : b0 = 7) (h1 : b1 ≤ 15) : OpC b0 b1 b2 b3 7
  | pool (e : b0 = 8) (h1 : b1 ≤ 15) : OpC b0 b1 b2 b3 8
theorem opC {b0 b1 b2 b3 : Int} (h0 : 0 ≤ b0) : OpC b0 b1 b2 b3 (opS b0 b1 b2 b3) := by
  by_cases hz : opS b0 b1 b2 b3 = 0
  · rw [hz]; exact .data hz
  · by_cases h9 : 9 ≤ b0
    · exact absurd (by unfold opS; rw [if_pos h9]) hz
    · by_cases h3 : b0 = 1 ∨ b0 = 3 ∨ b0 = 4
      · by_cases hr : b1 ≤ 15 ∧ b2 ≤ 15 ∧ b3 ≤ 15
        · have : opS b0 b1 b2 b3 = b0 := by unfold opS; rw [if_neg h9, if_pos h3, if_pos hr]
          rw [this]; exact .regs h3 rfl hr.1 hr.2.1 hr.2.2
        · exact absurd (by unfold opS; rw [if_neg h9, if_pos h3, if_neg hr]) hz
      · by_cases h1 : b0 = 2 ∨ b0 = 7 ∨ b0 = 8
        · by_cases hr : b1 ≤ 15
          · have : opS b0 b1 b2 b3 = b0 := by unfold opS; rw [if_neg h9, if_neg h3, if_pos h1, if_pos hr]
            rw [this]
            rcases h1 with h1 | h1 | h1
            · rw [h1]; exact .set rfl hr
            · rw [h1]; exact .branch rfl hr
            · rw [h1]; exact .pool rfl hr
          · exact absurd (by unfold opS; rw [if_neg h9, if_neg h3, if_pos h1, if_neg hr]) hz
        · have : opS b0 b1 b2 b3 = b0 := by unfold opS; rw [if_neg h9, if_neg h3, if_neg h1]
          rw [this]; rw [this] at hz
          exact .jump (by omega) rfl
/-- What a word is, can be encoded. -/
theorem ok_dec {w : Int} (h0 : 0 ≤ w) (h1 : w < 4294967296) (at_ : Int) : OkI at_ (decI w at_) := by
  unfold decI
  have hw := wd w h0 h1
  generalize hb0 : w / 16777216 % 256 = b0 at hw
  generalize hb1 : w / 65536 % 256 = b1 at hw
  generalize hb2 : w / 256 % 256 = b2 at hw
  generalize hb3 : w % 256 = b3 at hw
  have hc := opC (b1 := b1) (b2 := b2) (b3 := b3) hw.h0.1
  have hr1 := hw.h1
  have hr2 := hw.h2
  have hr3 := hw.h3
  generalize ho : opS b0 b1 b2 b3 = o at hc
  cases hc with
  | data h =>
    refine .data h0 h1 ?_
    rw [hb0, hb1, hb2, hb3]; exact ho
  | regs ho' e x1 x2 x3 =>
    have : decO o w b1 b2 b3 at_ = ⟨o, b1, b2, b3, 0⟩ := by unfold decO; rw [if_neg (by omega), if_pos ho']
    rw [this]; exact .regs ho' ⟨hr1.1, x1⟩ ⟨hr2.1, x2⟩ ⟨hr3.1, x3⟩
  | set e x1 => exact .set ⟨hr1.1, x1⟩ ⟨Int.emod_nonneg _ (by decide), Int.emod_lt_of_pos _ (by decide)⟩
  | jump ho' e =>
    have : decO o w b1 b2 b3 at_ = ⟨o, 0, 0, 0, at_ + 4 * sgn (w % 16777216) 16777216⟩ := by unfold decO; rw [if_neg (by omega), if_neg (by omega), if_neg (by omega), if_pos ho']
    rw [this]; exact .jump ho' (sgn24 (Int.emod_nonneg _ (by decide)) (Int.emod_lt_of_pos _ (by decide)))
  | branch e x1 => exact .branch ⟨hr1.1, x1⟩ (sgn16 (Int.emod_nonneg _ (by decide)) (Int.emod_lt_of_pos _ (by decide)))
  | pool e x1 => exact .pool ⟨hr1.1, x1⟩ ⟨Int.emod_nonneg _ (by decide), Int.emod_lt_of_pos _ (by decide)⟩
theorem orA (m : Nat) {a b : Int} (h0 : 0 ≤ a) (h1 : a + b < 4294967296) (h2 : a % 2 ^ m = 0) (h3 : 0 ≤ b) (h4 : b < 2 ^ m) : orW .u32 a b = a + b :=
  orW_add m h0 (by simpa [IntKind.bits] using h1) h2 h3 h4 (IntWalk.u32_in _ (by omega))
theorem orB (m : Nat) {a b : Int} (h0 : 0 ≤ b) (h1 : a + b < 4294967296) (h2 : b % 2 ^ m = 0) (h3 : 0 ≤ a) (h4 : a < 2 ^ m) : orW .u32 a b = a + b := by
  rw [orW_comm, orA m h0 (by omega) h2 h3 h4]; omega
theorem or0 {a : Int} (h0 : 0 ≤ a) (h1 : a < 4294967296) : orW .u32 a 0 = a := by
  have := orA 0 (a := a) (b := 0) h0 (by omega) (by simp) (by omega) (by simp)
  simpa using this
theorem orW_toNat (a b : Int) : orW .u32 a b = (((BitVec.ofInt 32 a) ||| (BitVec.ofInt 32 b)).toNat : Int) := by
  unfold orW
  rw [u32_wrap]
  have := ((BitVec.ofInt 32 a) ||| (BitVec.ofInt 32 b)).isLt
  show ((((BitVec.ofInt 32 a) ||| (BitVec.ofInt 32 b)).toNat : Nat) : Int) % 4294967296 = _
  omega
theorem orW_assoc (a b c : Int) : orW .u32 (orW .u32 a b) c = orW .u32 a (orW .u32 b c) := by
  rw [orW_toNat (orW .u32 a b), orW_toNat a (orW .u32 b c), orW_toNat a b, orW_toNat b c]
  have h : ∀ x : BitVec 32, BitVec.ofInt 32 (x.toNat : Int) = x := fun x => by
    rw [BitVec.ofInt_natCast, BitVec.ofNat_toNat, BitVec.setWidth_eq]
  rw [h, h, BitVec.or_assoc]
theorem asm_eq (x : I5) (at_ : Int) : asm x at_ = orW .u32 (asmL x.o x.n at_) (orW .u32 (x.o * 16777216) (orW .u32 (x.a % 256 * 65536) (orW .u32 (x.b % 256 * 256) (x.c % 256)))) := by
  unfold asm; rw [orW_assoc, orW_assoc, orW_assoc]
theorem or00 : orW .u32 0 0 = 0 := or0 (by decide) (by decide)
theorem asmN_at {o d at_ : Int} (ho : 5 ≤ o) (hd : -16777216 ≤ d ∧ d ≤ 16777216) : asmN o (at_ + 4 * d) at_ = d := by
  unfold asmN
  rw [if_pos ho, show at_ + 4 * d - at_ = 4 * d by omega, IntWalk.i64_in _ (by omega), Int.mul_tdiv_cancel_left _ (by decide)]
/-- The word of an instruction. -/
def form (x : I5) (at_ : Int) : Int :=
  if x.o = 0 then x.n
  else if x.o = 1 ∨ x.o = 3 ∨ x.o = 4 then x.o * 16777216 + (x.a * 65536 + (x.b * 256 + x.c))
  else if x.o = 2 then x.n + (2 * 16777216 + x.a * 65536)
  else if x.o = 5 ∨ x.o = 6 then (x.n - at_) / 4 % 16777216 + x.o * 16777216
  else (x.n - at_) / 4 % 65536 + (x.o * 16777216 + x.a * 65536)
theorem asm_form {x : I5} {at_ : Int} (h : OkI at_ x) : asm x at_ = form x at_ := by
  rw [asm_eq]
  cases h with
  | @data n h0 h1 h =>
    simp only [asmL, asmN, form]
    rw [show (0 : Int) * 16777216 = 0 from rfl, show (0 : Int) % 256 * 65536 = 0 from rfl, show (0 : Int) % 256 * 256 = 0 from rfl, show (0 : Int) % 256 = 0 from rfl, or00, or00, or00]
    simp only [if_true, show ¬ (5 : Int) ≤ 0 by decide, if_false]
    rw [Int.emod_eq_of_lt h0 h1, or0 h0 h1]
  | @regs o a b c ho ha hb hc =>
    have hl : asmL o 0 at_ = 0 := by
      unfold asmL asmN; simp only
      rw [if_neg (by omega), if_neg (by omega), if_neg (by omega)]
    simp only [hl, form]
    rw [if_neg (by omega), if_pos ho, show a % 256 = a by omega, Int.emod_eq_of_lt (by omega : 0 ≤ b) (by omega), Int.emod_eq_of_lt (by omega : 0 ≤ c) (by omega)]
    rw [orA 8 (a := b * 256) (by omega) (by omega) (by omega) (by omega) (by omega)]
    rw [orA 16 (a := a * 65536) (by omega) (by omega) (by omega) (by omega) (by omega)]
    rw [orA 24 (a := o * 16777216) (by omega) (by omega) (by omega) (by omega) (by omega)]
    rw [orW_comm, or0 (by omega) (by omega)]
  | @set a n ha hn =>
    have hl : asmL 2 n at_ = n := by
      have hN : asmN 2 n at_ = n := if_neg (by decide)
      unfold asmL; simp only [hN]
      rw [if_neg (by decide), if_neg (by decide), if_pos (by decide)]; omega
    simp only [hl, form]
    rw [if_neg (by omega), if_neg (by omega), if_pos trivial, show a % 256 = a by omega]
    rw [show (0 : Int) % 256 * 256 = 0 from rfl, show (0 : Int) % 256 = 0 from rfl, or00, or0 (a := a * 65536) (by omega) (by omega)]
    rw [orA 24 (a := 2 * 16777216) (b := a * 65536) (by decide) (by omega) (by decide) (by omega) (by omega)]
    rw [orB 16 (b := 2 * 16777216 + a * 65536) (by omega) (by omega) (by omega) (by omega) (by omega)]
  | @jump o d ho hd =>
    have hl : asmL o (at_ + 4 * d) at_ = d % 16777216 := by
      unfold asmL; simp only
      rw [asmN_at (by omega) (by omega), if_neg (by omega), if_pos ho]; omega
    simp only [hl, form]
    rw [if_neg (by omega), if_neg (by omega), if_neg (by omega), if_pos ho, show (at_ + 4 * d - at_) / 4 = d by omega]
    rw [show (0 : Int) % 256 * 65536 = 0 from rfl, show (0 : Int) % 256 * 256 = 0 from rfl, show (0 : Int) % 256 = 0 from rfl, or00, or00, or0 (a := o * 16777216) (by omega) (by omega)]
    rw [orB 24 (b := o * 16777216) (by omega) (by omega) (by omega) (by omega) (by omega)]
  | @branch a d ha hd =>
    have hl : asmL 7 (at_ + 4 * d) at_ = d % 65536 := by
      unfold asmL; simp only
      rw [asmN_at (by omega) (by omega), if_neg (by decide), if_neg (by decide), if_pos (by decide)]; omega
    simp only [hl, form]
    rw [if_neg (by omega), if_neg (by omega), if_neg (by omega), if_neg (by omega), show (at_ + 4 * d - at_) / 4 = d by omega, show a % 256 = a by omega]
    rw [show (0 : Int) % 256 * 256 = 0 from rfl, show (0 : Int) % 256 = 0 from rfl, or00, or0 (a := a * 65536) (by omega) (by omega)]
    rw [orA 24 (a := 7 * 16777216) (b := a * 65536) (by decide) (by omega) (by decide) (by omega) (by omega)]
    rw [orB 16 (b := 7 * 16777216 + a * 65536) (by omega) (by omega) (by omega) (by omega) (by omega)]
  | @pool a d ha hd =>
    have hl : asmL 8 (at_ + 4 * d) at_ = d % 65536 := by
      unfold asmL; simp only
      rw [asmN_at (by omega) (by omega), if_neg (by decide), if_neg (by decide), if_pos (by decide)]; omega
    simp only [hl, form]
    rw [if_neg (by omega), if_neg (by omega), if_neg (by omega), if_neg (by omega), show (at_ + 4 * d - at_) / 4 = d by omega, show a % 256 = a by omega]
    rw [show (0 : Int) % 256 * 256 = 0 from rfl, show (0 : Int) % 256 = 0 from rfl, or00, or0 (a := a * 65536) (by omega) (by omega)]
    rw [orA 24 (a := 8 * 16777216) (b := a * 65536) (by decide) (by omega) (by decide) (by omega) (by omega)]
    rw [orB 16 (b := 8 * 16777216 + a * 65536) (by omega) (by omega) (by omega) (by omega) (by omega)]
theorem dec_at {w b0 b1 b2 b3 at_ : Int} (h0 : w / 16777216 % 256 = b0) (h1 : w / 65536 % 256 = b1) (h2 : w / 256 % 256 = b2) (h3 : w % 256 = b3) : decI w at_ = decO (opS b0 b1 b2 b3) w b1 b2 b3 at_ := by
  unfold decI; rw [h0, h1, h2, h3]
theorem dec_form {x : I5} {at_ : Int} (h : OkI at_ x) : decI (form x at_) at_ = x := by
  cases h with
  | @data n h0 h1 h =>
    simp only [form, if_true]
    unfold decI
    rw [h]
    rfl
  | @regs o a b c ho ha hb hc =>
    simp only [form]
    rw [if_neg (by omega), if_pos ho]
    rw [dec_at (b0 := o) (b1 := a) (b2 := b) (b3 := c) (by omega) (by omega) (by omega) (by omega)]
    rw [show opS o a b c = o by unfold opS; rw [if_neg (by omega), if_pos ho, if_pos ⟨ha.2, hb.2, hc.2⟩]]
    unfold decO
    rw [if_neg (by omega), if_pos ho]
  | @set a n ha hn =>
    simp only [form]
    rw [if_neg (by omega), if_neg (by omega), if_pos trivial]
    rw [dec_at (b0 := 2) (b1 := a) (b2 := n / 256 % 256) (b3 := n % 256) (by omega) (by omega) (by omega) (by omega)]
    rw [show opS 2 a (n / 256 % 256) (n % 256) = 2 by unfold opS; rw [if_neg (by omega), if_neg (by omega), if_pos (by omega), if_pos ha.2]]
    unfold decO
    rw [if_neg (by omega), if_neg (by omega), if_pos rfl, show (n + (2 * 16777216 + a * 65536)) % 65536 = n by omega]
  | @jump o d ho hd =>
    simp only [form]
    rw [if_neg (by omega), if_neg (by omega), if_neg (by omega), if_pos ho, show (at_ + 4 * d - at_) / 4 = d by omega]
    rw [dec_at (b0 := o) (b1 := d / 65536 % 256) (b2 := d / 256 % 256) (b3 := d % 256) (by omega) (by omega) (by omega) (by omega)]
    rw [show opS o (d / 65536 % 256) (d / 256 % 256) (d % 256) = o by unfold opS; rw [if_neg (by omega), if_neg (by omega), if_neg (by omega)]]
    unfold decO
    rw [if_neg (by omega), if_neg (by omega), if_neg (by omega), if_pos ho, show (d % 16777216 + o * 16777216) % 16777216 = d % 16777216 by omega]
    rw [show sgn (d % 16777216) 16777216 = d by unfold sgn; split <;> omega]
  | @branch a d ha hd =>
    simp only [form]
    rw [if_neg (by omega), if_neg (by omega), if_neg (by omega), if_neg (by omega), show (at_ + 4 * d - at_) / 4 = d by omega]
    rw [dec_at (b0 := 7) (b1 := a) (b2 := d / 256 % 256) (b3 := d % 256) (by omega) (by omega) (by omega) (by omega)]
    rw [show opS 7 a (d / 256 % 256) (d % 256) = 7 by unfold opS; rw [if_neg (by omega), if_neg (by omega), if_pos (by omega), if_pos ha.2]]
    unfold decO
    rw [if_neg (by omega), if_neg (by omega), if_neg (by omega), if_neg (by omega), if_pos rfl, show (d % 65536 + (7 * 16777216 + a * 65536)) % 65536 = d % 65536 by omega]
    rw [show sgn (d % 65536) 65536 = d by unfold sgn; split <;> omega]
  | @pool a d ha hd =>
    simp only [form]
    rw [if_neg (by omega), if_neg (by omega), if_neg (by omega), if_neg (by omega), show (at_ + 4 * d - at_) / 4 = d by omega]
    rw [dec_at (b0 := 8) (b1 := a) (b2 := d / 256 % 256) (b3 := d % 256) (by omega) (by omega) (by omega) (by omega)]
    rw [show opS 8 a (d / 256 % 256) (d % 256) = 8 by unfold opS; rw [if_neg (by omega), if_neg (by omega), if_pos (by omega), if_pos ha.2]]
    unfold decO
    rw [if_neg (by omega), if_neg (by omega), if_neg (by omega), if_neg (by omega), if_neg (by omega), show (d % 65536 + (8 * 16777216 + a * 65536)) % 65536 = d % 65536 by omega]
    rw [show d % 65536 = d by omega]
theorem OkI.o_range {x : I5} {at_ : Int} (h : OkI at_ x) : 0 ≤ x.o ∧ x.o ≤ 8 := by
  cases h <;> simp only <;> omega
theorem near_mod (n : Int) : near n % 4 = 0 := by unfold near; omega
/-- What can be encoded somewhere can be encoded near its target. -/
theorem ok_near {x : I5} {at_ : Int} (ha : 0 ≤ at_ ∧ at_ ≤ 65536) (hm : at_ % 4 = 0) (h : OkI at_ x) : OkI (near x.n) x := by
  cases h with
  | data h0 h1 h => exact .data h0 h1 h
  | regs ho ha hb hc => exact .regs ho ha hb hc
  | set ha hn => exact .set ha hn
  | @jump o d ho hd =>
    simp only
    have := OkI.jump (at_ := near (at_ + 4 * d)) (o := o) (d := (at_ + 4 * d - near (at_ + 4 * d)) / 4) ho (by unfold near; omega)
    rwa [show near (at_ + 4 * d) + 4 * ((at_ + 4 * d - near (at_ + 4 * d)) / 4) = at_ + 4 * d by have := near_mod (at_ + 4 * d); omega] at this
  | @branch a d hq hd =>
    simp only
    have := OkI.branch (at_ := near (at_ + 4 * d)) (a := a) (d := (at_ + 4 * d - near (at_ + 4 * d)) / 4) hq (by unfold near; omega)
    rwa [show near (at_ + 4 * d) + 4 * ((at_ + 4 * d - near (at_ + 4 * d)) / 4) = at_ + 4 * d by have := near_mod (at_ + 4 * d); omega] at this
  | @pool a d hq hd =>
    simp only
    have := OkI.pool (at_ := near (at_ + 4 * d)) (a := a) (d := (at_ + 4 * d - near (at_ + 4 * d)) / 4) hq (by unfold near; omega)
    rwa [show near (at_ + 4 * d) + 4 * ((at_ + 4 * d - near (at_ + 4 * d)) / 4) = at_ + 4 * d by have := near_mod (at_ + 4 * d); omega] at this
end Go.Proofs.YtjihaaibammbnaaDoor
namespace Go.Proofs.YtjihaaibammbnaaDoor
open Go.Px Go.Ax
theorem oc0 (w : Int) : octV w 0 = w / 16777216 % 256 := by
  unfold octV; rw [show (2 : Int) ^ (24 - 8 * (0 : Int)).toNat = 16777216 from by decide]
theorem oc1 (w : Int) : octV w 1 = w / 65536 % 256 := by
  unfold octV; rw [show (2 : Int) ^ (24 - 8 * (1 : Int)).toNat = 65536 from by decide]
theorem oc2 (w : Int) : octV w 2 = w / 256 % 256 := by
  unfold octV; rw [show (2 : Int) ^ (24 - 8 * (2 : Int)).toNat = 256 from by decide]
theorem oc3 (w : Int) : octV w 3 = w % 256 := by
  unfold octV; rw [show (2 : Int) ^ (24 - 8 * (3 : Int)).toNat = 1 from by decide, Int.ediv_one]
theorem lw0 (w : Int) : lowV w 0 = 0 := by
  unfold lowV; rw [show (2 : Int) ^ (32 - (0 : Int)).toNat = 4294967296 from by decide]; omega
theorem lw16 (w : Int) : lowV w 16 = w % 65536 := by
  unfold lowV; rw [show (2 : Int) ^ (32 - (16 : Int)).toNat = 65536 from by decide]; omega
theorem lw24 (w : Int) : lowV w 24 = w % 16777216 := by
  unfold lowV; rw [show (2 : Int) ^ (32 - (24 : Int)).toNat = 256 from by decide]; omega
theorem lw32 (w : Int) : lowV w 32 = w % 4294967296 := by
  unfold lowV; rw [show (2 : Int) ^ (32 - (32 : Int)).toNat = 1 from by decide]; omega
theorem ls16 (w : Int) : lowSV w 16 = sgn (w % 65536) 65536 := by
  unfold lowSV; rw [show (2 : Int) ^ (32 - (16 : Int)).toNat = 65536 from by decide, IntKind.wrap_i32]; unfold sgn; split <;> omega
theorem ls24 (w : Int) : lowSV w 24 = sgn (w % 16777216) 16777216 := by
  unfold lowSV; rw [show (2 : Int) ^ (32 - (24 : Int)).toNat = 256 from by decide, IntKind.wrap_i32]; unfold sgn; split <;> omega
theorem opV_opS (w : Int) : opV w = opS (w / 16777216 % 256) (w / 65536 % 256) (w / 256 % 256) (w % 256) := by
  unfold opV badR
  rw [oc0, oc1, oc2, oc3]
  generalize hb0 : w / 16777216 % 256 = b0
  generalize w / 65536 % 256 = b1
  generalize w / 256 % 256 = b2
  generalize w % 256 = b3
  have h0 : 0 ≤ b0 := by omega
  unfold opS
  by_cases h9 : 9 ≤ b0
  · rw [if_pos h9, if_pos h9]
  · rw [if_neg h9, if_neg h9]
    clear hb0
    rcases nine b0 h0 (by omega) with rfl | rfl | rfl | rfl | rfl | rfl | rfl | rfl | rfl <;> simp [regs] <;> (repeat' split) <;> omega
theorem key (w t : Int) : ∀ o, opV w = o → decN w t = [o, rg w (regs o) 0, rg w (regs o) 1, rg w (regs o) 2, numN w t (kd o).2.2.1 (kd o).2.2.2.1 (kd o).2.2.2.2] := by
  rintro _ rfl; rfl
def toL (x : I5) : List Int := [x.o, x.a, x.b, x.c, x.n]
theorem rg3 (w : Int) : rg w 3 0 = octV w 1 ∧ rg w 3 1 = octV w 2 ∧ rg w 3 2 = octV w 3 := ⟨by unfold rg; rw [if_pos (by decide)]; rfl, by unfold rg; rw [if_pos (by decide)]; rfl, by unfold rg; rw [if_pos (by decide)]; rfl⟩
theorem rg1 (w : Int) : rg w 1 0 = octV w 1 ∧ rg w 1 1 = 0 ∧ rg w 1 2 = 0 := ⟨by unfold rg; rw [if_pos (by decide)]; rfl, by unfold rg; rw [if_neg (by decide)], by unfold rg; rw [if_neg (by decide)]⟩
theorem rg0 (w : Int) : rg w 0 0 = 0 ∧ rg w 0 1 = 0 ∧ rg w 0 2 = 0 := ⟨by unfold rg; rw [if_neg (by decide)], by unfold rg; rw [if_neg (by decide)], by unfold rg; rw [if_neg (by decide)]⟩
theorem decN_eq {w : Int} (h0 : 0 ≤ w) (h1 : w < 4294967296) (t : Int) : decN w t = toL (decI w t) := by
  have k := key w t _ rfl
  rw [k, opV_opS]
  unfold decI
  have hc := opC (b0 := w / 16777216 % 256) (b1 := w / 65536 % 256) (b2 := w / 256 % 256) (b3 := w % 256) (by omega)
  generalize opS (w / 16777216 % 256) (w / 65536 % 256) (w / 256 % 256) (w % 256) = o at hc
  have h15 : o = 0 ∨ o = 1 ∨ o = 2 ∨ o = 3 ∨ o = 4 ∨ o = 5 ∨ o = 6 ∨ o = 7 ∨ o = 8 := by
    cases hc <;> omega
  clear hc k
  rcases h15 with rfl | rfl | rfl | rfl | rfl | rfl | rfl | rfl | rfl
  · rw [show regs 0 = 0 from by decide, (rg0 w).1, (rg0 w).2.1, (rg0 w).2.2]
    show [0, 0, 0, 0, lowV w 32] = [0, 0, 0, 0, w]
    rw [lw32, Int.emod_eq_of_lt h0 h1]
  · rw [show regs 1 = 3 from by decide, (rg3 w).1, (rg3 w).2.1, (rg3 w).2.2, oc1, oc2, oc3]
    show [1, _, _, _, lowV w 0] = [1, _, _, _, 0]
    rw [lw0]; rfl
  · rw [show regs 2 = 1 from by decide, (rg1 w).1, (rg1 w).2.1, (rg1 w).2.2, oc1]
    show [2, _, 0, 0, lowV w 16] = [2, _, 0, 0, w % 65536]
    rw [lw16]; rfl
  · rw [show regs 3 = 3 from by decide, (rg3 w).1, (rg3 w).2.1, (rg3 w).2.2, oc1, oc2, oc3]
    show [3, _, _, _, lowV w 0] = [3, _, _, _, 0]
    rw [lw0]; rfl
  · rw [show regs 4 = 3 from by decide, (rg3 w).1, (rg3 w).2.1, (rg3 w).2.2, oc1, oc2, oc3]
    show [4, _, _, _, lowV w 0] = [4, _, _, _, 0]
    rw [lw0]; rfl
  · rw [show regs 5 = 0 from by decide, (rg0 w).1, (rg0 w).2.1, (rg0 w).2.2]
    show [5, 0, 0, 0, t + 4 * lowSV w 24] = [5, 0, 0, 0, t + 4 * sgn (w % 16777216) 16777216]
    rw [ls24]
  · rw [show regs 6 = 0 from by decide, (rg0 w).1, (rg0 w).2.1, (rg0 w).2.2]
    show [6, 0, 0, 0, t + 4 * lowSV w 24] = [6, 0, 0, 0, t + 4 * sgn (w % 16777216) 16777216]
    rw [ls24]
  · rw [show regs 7 = 1 from by decide, (rg1 w).1, (rg1 w).2.1, (rg1 w).2.2, oc1]
    show [7, _, 0, 0, t + 4 * lowSV w 16] = [7, _, 0, 0, t + 4 * sgn (w % 65536) 65536]
    rw [ls16]; rfl
  · rw [show regs 8 = 1 from by decide, (rg1 w).1, (rg1 w).2.1, (rg1 w).2.2, oc1]
    show [8, _, 0, 0, t + 4 * lowV w 16] = [8, _, 0, 0, t + 4 * (w % 65536)]
    rw [lw16]; rfl
theorem nearV_near (n : Int) : nearV n = near n := rfl
theorem OkI.bounds {x : I5} {t : Int} (h : OkI t x) (ht : 0 ≤ t ∧ t ≤ 65540) : (0 ≤ x.a ∧ x.a ≤ 15) ∧ (0 ≤ x.b ∧ x.b ≤ 15) ∧ (0 ≤ x.c ∧ x.c ≤ 15) ∧ -5000000000 ≤ x.n ∧ x.n ≤ 5000000000 := by
  cases h <;> simp only <;> omega
theorem bitI_or (a b : Int) : bitI .or .u32 a b = orW .u32 a b := rfl
theorem sh24 : min (Int.toNat 24) IntKind.u32.bits = 24 := rfl
theorem sh16 : min (Int.toNat 16) IntKind.u32.bits = 16 := rfl
theorem sh8 : min (Int.toNat 8) IntKind.u32.bits = 8 := rfl
theorem asmV_asm {x : I5} {t : Int} (h : OkI t x) (ht : 0 ≤ t ∧ t ≤ 65540) : asmV x.o x.a x.b x.c x.n t = asm x t := by
  have hb := h.bounds ht
  have ho := h.o_range
  unfold asmV asm
  simp only [bitI_or]
  rw [sh24, sh16, sh8]
  have e1 : ∀ z : Int, 0 ≤ z → z ≤ 15 → IntKind.u8.wrap z = z := fun z a b => IntWalk.u8_in _ (by omega)
  have e2 : ∀ z : Int, 0 ≤ z → z < 4294967296 → IntKind.u32.wrap z = z := fun z a b => IntWalk.u32_in _ (by omega)
  rw [e1 _ hb.1.1 hb.1.2, e1 _ hb.2.1.1 hb.2.1.2, e1 _ hb.2.2.1.1 hb.2.2.1.2]
  rw [e2 x.o (by omega) (by omega), e2 x.a (by omega) (by omega), e2 x.b (by omega) (by omega), e2 x.c (by omega) (by omega)]
  rw [show (2 : Int) ^ 24 = 16777216 from by decide, show (2 : Int) ^ 16 = 65536 from by decide, show (2 : Int) ^ 8 = 256 from by decide]
  rw [e2 (x.o * 16777216) (by omega) (by omega), e2 (x.a * 65536) (by omega) (by omega), e2 (x.b * 256) (by omega) (by omega)]
  rw [Int.emod_eq_of_lt (a := x.a) (b := 256) (by omega) (by omega), Int.emod_eq_of_lt (a := x.b) (b := 256) (by omega) (by omega), Int.emod_eq_of_lt (a := x.c) (b := 256) (by omega) (by omega)]
  have el : IntKind.u32.wrap (lowV (IntKind.u32.wrap (numW x.o x.n t)) (kd x.o).2.2.1) = asmL x.o x.n t := by
    have hn := hb.2.2.2
    generalize x.n = n at hn
    generalize x.o = o at ho
    have hi : IntKind.i64.wrap (n - t) = n - t := IntWalk.i64_in _ (by omega)
    have h15 : o = 0 ∨ o = 1 ∨ o = 2 ∨ o = 3 ∨ o = 4 ∨ o = 5 ∨ o = 6 ∨ o = 7 ∨ o = 8 := by omega
    rcases h15 with rfl | rfl | rfl | rfl | rfl | rfl | rfl | rfl | rfl
    · show IntKind.u32.wrap (lowV (IntKind.u32.wrap n) 32) = n % 4294967296
      rw [lw32, u32_wrap, u32_wrap]; omega
    · show IntKind.u32.wrap (lowV (IntKind.u32.wrap n) 0) = 0
      rw [lw0, u32_wrap]; rfl
    · show IntKind.u32.wrap (lowV (IntKind.u32.wrap n) 16) = n % 4294967296 % 65536
      rw [lw16, u32_wrap, u32_wrap]; omega
    · show IntKind.u32.wrap (lowV (IntKind.u32.wrap n) 0) = 0
      rw [lw0, u32_wrap]; rfl
    · show IntKind.u32.wrap (lowV (IntKind.u32.wrap n) 0) = 0
      rw [lw0, u32_wrap]; rfl
    · show IntKind.u32.wrap (lowV (IntKind.u32.wrap ((n - t).tdiv 4)) 24) = (IntKind.i64.wrap (n - t)).tdiv 4 % 4294967296 % 16777216
      rw [hi, lw24, u32_wrap, u32_wrap]; omega
    · show IntKind.u32.wrap (lowV (IntKind.u32.wrap ((n - t).tdiv 4)) 24) = (IntKind.i64.wrap (n - t)).tdiv 4 % 4294967296 % 16777216
      rw [hi, lw24, u32_wrap, u32_wrap]; omega
    · show IntKind.u32.wrap (lowV (IntKind.u32.wrap ((n - t).tdiv 4)) 16) = (IntKind.i64.wrap (n - t)).tdiv 4 % 4294967296 % 65536
      rw [hi, lw16, u32_wrap, u32_wrap]; omega
    · show IntKind.u32.wrap (lowV (IntKind.u32.wrap ((n - t).tdiv 4)) 16) = (IntKind.i64.wrap (n - t)).tdiv 4 % 4294967296 % 65536
      rw [hi, lw16, u32_wrap, u32_wrap]; omega
  rw [el]
/-- What a word is at a place is valid. -/
theorem valid_dec {w : Int} (h0 : 0 ≤ w) (h1 : w < 4294967296) {t : Int} (ht : 0 ≤ t ∧ t ≤ 65536) (hm : t % 4 = 0) : validV (decI w t).o (decI w t).a (decI w t).b (decI w t).c (decI w t).n = true := by
  have hk := ok_dec h0 h1 t
  generalize decI w t = x at hk
  have h2 := ok_near ht hm hk
  have hn : 0 ≤ near x.n ∧ near x.n ≤ 65540 := by unfold near; omega
  have ho := h2.o_range
  have hr : 0 ≤ asmV x.o x.a x.b x.c x.n (near x.n) ∧ asmV x.o x.a x.b x.c x.n (near x.n) < 4294967296 := bitI_u32 _ _ _
  unfold validV encB
  rw [nearV_near, decN_eq hr.1 hr.2, asmV_asm h2 hn, asm_form h2, dec_form h2]
  simp only [Bool.and_eq_true, decide_eq_true_eq]
  exact ⟨ho.1, by omega, rfl⟩
end Go.Proofs.YtjihaaibammbnaaDoor
namespace Go.Proofs.YtjihaaibammbnaaDoor
open Go.Px Go.Ax
/-- The number that digits are. -/
def valD (l : List Int) : Int := l.foldl (fun v c => v * 10 + (c - 48)) 0
theorem valD_snoc (l : List Int) (c : Int) : valD (l ++ [c]) = valD l * 10 + (c - 48) := by simp [valD]
theorem valD_digT : ∀ (m : Nat) (n : Int), 0 ≤ n → n < 10 ^ (m + 1) → valD (digT (m + 1) n) = n
  | 0, n, h0, h1 => by
    have h1 : n < 10 := by simpa using h1
    have : digT 1 n = [48 + n % 10] := by rw [digT, if_neg (by omega)]; rfl
    rw [this]; simp [valD]; omega
  | m + 1, n, h0, h1 => by
    rw [digT, valD_snoc]
    by_cases h : 10 ≤ n
    · rw [if_pos h, valD_digT m (n / 10) (by omega) (by rw [Int.pow_succ] at h1; omega)]
      omega
    · rw [if_neg h]; simp [valD]; omega
theorem digT_dig : ∀ (m : Nat) (n : Int), 0 ≤ n → ∀ c ∈ digT m n, 48 ≤ c ∧ c ≤ 57
  | 0, _, _, c, h => by simp [digT] at h
  | m + 1, n, h0, c, h => by
    rw [digT, List.mem_append] at h
    rcases h with h | h
    · split at h
      · exact digT_dig m (n / 10) (by omega) c h
      · simp at h
    · simp at h; omega
theorem numT_neg {n : Int} (h : n < 0) : numT n = 45 :: digT 19 (-n) := if_pos h
theorem numT_pos {n : Int} (h : ¬ n < 0) : numT n = digT 19 n := if_neg h
theorem numT_nosp {n : Int} : (32 : Int) ∉ numT n := by
  intro h
  by_cases hn : n < 0
  · rw [numT_neg hn, List.mem_cons] at h
    rcases h with h | h
    · omega
    · have := digT_dig 19 (-n) (by omega) _ h; omega
  · rw [numT_pos hn] at h
    have := digT_dig 19 n (by omega) _ h; omega
theorem p19 : (10 : Int) ^ 19 = 10000000000000000000 := by decide
theorem numT_inj {a b : Int} (ha : mid a) (hb : mid b) (h : numT a = numT b) : a = b := by
  obtain ⟨a1, a2⟩ := ha
  obtain ⟨b1, b2⟩ := hb
  have hp := p19
  by_cases hna : a < 0 <;> by_cases hnb : b < 0
  · rw [numT_neg hna, numT_neg hnb] at h
    have h := congrArg valD (List.cons.inj h).2
    rw [valD_digT 18 _ (by omega) (by omega), valD_digT 18 _ (by omega) (by omega)] at h
    omega
  · rw [numT_neg hna, numT_pos hnb] at h
    have := digT_dig 19 b (by omega) 45 (by rw [← h]; simp)
    omega
  · rw [numT_pos hna, numT_neg hnb] at h
    have := digT_dig 19 a (by omega) 45 (by rw [h]; simp)
    omega
  · rw [numT_pos hna, numT_pos hnb] at h
    have h := congrArg valD h
    rwa [valD_digT 18 _ (by omega) (by omega), valD_digT 18 _ (by omega) (by omega)] at h
/-- Texts that end at a space or at the end. -/
theorem cut_sp : ∀ {A B X Y : List Int}, (32 : Int) ∉ A → (32 : Int) ∉ B → (X = [] ∨ ∃ t, X = 32 :: t) → (Y = [] ∨ ∃ t, Y = 32 :: t) → A ++ X = B ++ Y → A = B ∧ X = Y
  | [], [], _, _, _, _, _, _, h => ⟨rfl, h⟩
  | [], b :: B, X, Y, _, hb, hx, _, h => by
    rcases hx with rfl | ⟨t, rfl⟩
    · simp at h
    · simp at h; exact absurd (by simp [h.1]) hb
  | a :: A, [], X, Y, ha, _, _, hy, h => by
    rcases hy with rfl | ⟨t, rfl⟩
    · simp at h
    · simp at h; exact absurd (by simp [h.1]) ha
  | a :: A, b :: B, X, Y, ha, hb, hx, hy, h => by
    simp only [List.cons_append, List.cons.injEq] at h
    obtain ⟨rfl, h⟩ := h
    obtain ⟨rfl, h2⟩ := cut_sp (fun q => ha (by simp [q])) (fun q => hb (by simp [q])) hx hy h
    exact ⟨rfl, h2⟩
def opsT (l : List Int) : List Int := l.flatMap opT
theorem opsT_form (l : List Int) : opsT l = [] ∨ ∃ t, opsT l = 32 :: t := by
  cases l with
  | nil => exact .inl rfl
  | cons a l => exact .inr ⟨_, rfl⟩
theorem opsT_inj : ∀ {l m : List Int}, (∀ x ∈ l, mid x) → (∀ x ∈ m, mid x) → opsT l = opsT m → l = m
  | [], [], _, _, _ => rfl
  | [], b :: m, _, _, h => by simp [opsT, opT] at h
  | a :: l, [], _, _, h => by simp [opsT, opT] at h
  | a :: l, b :: m, hl, hm, h => by
    have h : numT a ++ opsT l = numT b ++ opsT m := by
      simpa [opsT, opT] using h
    obtain ⟨h1, h2⟩ := cut_sp numT_nosp numT_nosp (opsT_form l) (opsT_form m) h
    rw [numT_inj (hl a (by simp)) (hm b (by simp)) h1, opsT_inj (fun x hx => hl x (by simp [hx])) (fun x hx => hm x (by simp [hx])) h2]
/-- What a kind's text has. -/
def fieldsOf (x : I5) : List Int :=
  if x.o = 0 ∨ x.o = 5 ∨ x.o = 6 then [x.n] else if x.o = 1 ∨ x.o = 3 ∨ x.o = 4 then [x.a, x.b, x.c] else [x.a, x.n]
def nameL (o : Int) : List Int := List.map ofB (kd o).1
theorem rgT3 (a b c kr : Int) : rgT [a, b, c] kr 3 = (if 0 < kr then opT a else []) ++ ((if 1 < kr then opT b else []) ++ ((if 2 < kr then opT c else []) ++ [])) := rfl
theorem text_form {x : I5} {t : Int} (h : OkI t x) : textL x.o x.a x.b x.c x.n = nameL x.o ++ opsT (fieldsOf x) := by
  have ho := h.o_range
  clear h
  obtain ⟨o, a, b, c, n⟩ := x
  simp only at ho ⊢
  have g : ∀ (o kr kb : Int), (kd o).2.1 = kr → (kd o).2.2.1 = kb → textL o a b c n = nameL o ++ (rgT [a, b, c] kr 3 ++ nT kb n) := by
    rintro o _ _ rfl rfl; rfl
  have h15 : o = 0 ∨ o = 1 ∨ o = 2 ∨ o = 3 ∨ o = 4 ∨ o = 5 ∨ o = 6 ∨ o = 7 ∨ o = 8 := by omega
  rcases h15 with rfl | rfl | rfl | rfl | rfl | rfl | rfl | rfl | rfl
  · rw [g 0 0 32 rfl rfl, rgT3]; simp [nT, opsT, fieldsOf]
  · rw [g 1 3 0 rfl rfl, rgT3]; simp [nT, opsT, fieldsOf]
  · rw [g 2 1 16 rfl rfl, rgT3]; simp [nT, opsT, fieldsOf]
  · rw [g 3 3 0 rfl rfl, rgT3]; simp [nT, opsT, fieldsOf]
  · rw [g 4 3 0 rfl rfl, rgT3]; simp [nT, opsT, fieldsOf]
  · rw [g 5 0 24 rfl rfl, rgT3]; simp [nT, opsT, fieldsOf]
  · rw [g 6 0 24 rfl rfl, rgT3]; simp [nT, opsT, fieldsOf]
  · rw [g 7 1 16 rfl rfl, rgT3]; simp [nT, opsT, fieldsOf]
  · rw [g 8 1 16 rfl rfl, rgT3]; simp [nT, opsT, fieldsOf]
def lst (l : List Int) (i : Nat) : Int := (l[i]?).getD 0
def reb (o : Int) (l : List Int) : List Int :=
  if o = 0 ∨ o = 5 ∨ o = 6 then [o, 0, 0, 0, lst l 0] else if o = 1 ∨ o = 3 ∨ o = 4 then [o, lst l 0, lst l 1, lst l 2, 0] else [o, lst l 0, 0, 0, lst l 1]
theorem toL_reb {x : I5} {t : Int} (h : OkI t x) : toL x = reb x.o (fieldsOf x) := by
  cases h with
  | data h0 h1 h => rfl
  | regs ho ha hb hc => rcases ho with rfl | rfl | rfl <;> rfl
  | set ha hn => rfl
  | jump ho hd => rcases ho with rfl | rfl <;> rfl
  | branch ha hd => rfl
  | pool ha hd => rfl
theorem name_nosp {o : Int} (h0 : 0 ≤ o) (h9 : o < 9) : (32 : Int) ∉ nameL o := by
  rcases nine o h0 h9 with rfl | rfl | rfl | rfl | rfl | rfl | rfl | rfl | rfl <;> decide
theorem name_inj {o p : Int} (h0 : 0 ≤ o) (h9 : o < 9) (k0 : 0 ≤ p) (k9 : p < 9) (h : nameL o = nameL p) : o = p := by
  rcases nine o h0 h9 with rfl | rfl | rfl | rfl | rfl | rfl | rfl | rfl | rfl <;>
  rcases nine p k0 k9 with rfl | rfl | rfl | rfl | rfl | rfl | rfl | rfl | rfl <;> first | rfl | (exact absurd h (by decide))
theorem fields_mid {x : I5} {t : Int} (h : OkI t x) (ht : 0 ≤ t ∧ t ≤ 65540) : ∀ z ∈ fieldsOf x, mid z := by
  have hb := h.bounds ht
  intro z hz
  unfold fieldsOf at hz
  unfold mid
  repeat' split at hz
  all_goals
    simp only [List.mem_cons, List.not_mem_nil, or_false] at hz
    omega
theorem text_inj {x y : I5} {t : Int} (ht : 0 ≤ t ∧ t ≤ 65540) (hx : OkI t x) (hy : OkI t y) (h : textL x.o x.a x.b x.c x.n = textL y.o y.a y.b y.c y.n) : toL x = toL y := by
  rw [text_form hx, text_form hy] at h
  have ox := hx.o_range
  have oy := hy.o_range
  obtain ⟨h1, h2⟩ := cut_sp (name_nosp ox.1 (by omega)) (name_nosp oy.1 (by omega)) (opsT_form _) (opsT_form _) h
  have ho := name_inj ox.1 (by omega) oy.1 (by omega) h1
  have hf := opsT_inj (fields_mid hx ht) (fields_mid hy ht) h2
  rw [toL_reb hx, toL_reb hy, ho, hf]
theorem text_ne {x : I5} {t : Int} (hx : OkI t x) : textL x.o x.a x.b x.c x.n ≠ [] := by
  rw [text_form hx]
  have ox := hx.o_range
  intro h
  have : nameL x.o = [] := (List.append_eq_nil_iff.1 h).1
  rcases nine x.o ox.1 (by omega) with e | e | e | e | e | e | e | e | e <;> rw [e] at this <;> exact absurd this (by decide)
theorem text_u8 {x : I5} {t : Int} (hx : OkI t x) : ∀ c ∈ textL x.o x.a x.b x.c x.n, 0 ≤ c ∧ c < 256 := by
  rw [text_form hx]
  intro c hc
  rw [List.mem_append] at hc
  rcases hc with hc | hc
  · obtain ⟨b, _, rfl⟩ := List.mem_map.1 hc
    have := b.toNat_lt
    unfold ofB; omega
  · obtain ⟨z, _, hz⟩ := List.mem_flatMap.1 hc
    rw [opT, List.mem_cons] at hz
    rcases hz with hz | hz
    · omega
    · by_cases hn : z < 0
      · rw [numT_neg hn, List.mem_cons] at hz
        rcases hz with hz | hz
        · omega
        · have := digT_dig 19 (-z) (by omega) _ hz; omega
      · rw [numT_pos hn] at hz
        have := digT_dig 19 z (by omega) _ hz; omega
theorem toB_inj {l m : List Int} (hl : ∀ c ∈ l, 0 ≤ c ∧ c < 256) (hm : ∀ c ∈ m, 0 ≤ c ∧ c < 256) (h : l.map toB = m.map toB) : l = m := by
  have e : ∀ l : List Int, (∀ c ∈ l, 0 ≤ c ∧ c < 256) → (l.map toB).map ofB = l := fun l hl => by
    rw [List.map_map]
    conv => rhs; rw [← List.map_id l]
    refine List.map_congr_left fun c hc => ?_
    have := hl c hc
    simp only [Function.comp, toB, ofB, id, UInt8.toNat_ofNat']
    omega
  rw [← e l hl, h, e m hm]
end Go.Proofs.YtjihaaibammbnaaDoor
namespace Go.Proofs.YtjihaaibammbnaaDoor
open Go.Px Go.Ax
theorem cx10 : CxOK Tryd.prog tt G0 C10 := cx6.cons pr_held (fn := Tryd.f16) rfl rfl rfl
theorem parts {w : Int} (h0 : 0 ≤ w) (h1 : w < 4294967296) (t : Int) :
    opV w = (decI w t).o ∧ rg w (regs (opV w)) 0 = (decI w t).a ∧ rg w (regs (opV w)) 1 = (decI w t).b ∧ rg w (regs (opV w)) 2 = (decI w t).c ∧ numN w t (kd (opV w)).2.2.1 (kd (opV w)).2.2.2.1 (kd (opV w)).2.2.2.2 = (decI w t).n := by
  have h := decN_eq h0 h1 t
  unfold decN toL at h
  simp only [List.cons.injEq, and_true] at h
  exact h
theorem prT_of {w : Int} (h0 : 0 ≤ w) (h1 : w < 4294967296) {t : Int} (ht : 0 ≤ t ∧ t ≤ 65536) (hm : t % 4 = 0) :
    prT (decI w t).o (decI w t).a (decI w t).b (decI w t).c (decI w t).n = (textL (decI w t).o (decI w t).a (decI w t).b (decI w t).c (decI w t).n).map toB := by
  unfold prT; rw [if_pos (valid_dec h0 h1 ht hm)]
theorem prePr_of {x : I5} {t : Int} (h : OkI t x) (ht : 0 ≤ t ∧ t ≤ 65540) : prePr x.a x.b x.c x.n := by
  have hb := h.bounds ht
  unfold prePr mid
  omega
noncomputable def ctTx : Ctr := ⟨[.arr 4 (.int .u8), .arr 4 (.int .u8), .int .u16], fun x => preP x.2.2.1, fun _ => [.bool true], fun _ => []⟩
theorem tx_run (x y : List Int) (n : Int) (hn : preP n) (R : List Item → PS → Prop) : sy tt G0 C10 Tryd.f9.ntmps Tryd.f9.results.toList (QC ctTx (x, y, n, ())) R 1000 [.code (bodyOf Tryd.f9)] (entry [.arr 4 (.int .u8), .arr 4 (.int .u8), .int .u16] (x, y, n, ())) := by
  have hp : 0 ≤ plc n ∧ plc n ≤ 65536 := by unfold preP at hn; unfold plc; omega
  have hp' : 0 ≤ plc n ∧ plc n ≤ 65540 := by omega
  have hm : plc n % 4 = 0 := by unfold plc; omega
  have wx := madeV_range x
  have wy := madeV_range y
  have px := parts wx.1 wx.2 (plc n)
  have py := parts wy.1 wy.2 (plc n)
  have kx := ok_dec wx.1 wx.2 (plc n)
  have ky := ok_dec wy.1 wy.2 (plc n)
  have tx := prT_of wx.1 wx.2 hp hm
  have tY := prT_of wy.1 wy.2 hp hm
  obtain ⟨x1, x2, x3, x4, x5⟩ := px
  obtain ⟨y1, y2, y3, y4, y5⟩ := py
  rw [vc_texts]
  rw [x2, x3, x4, x5, y2, y3, y4, y5, x1, y1]
  generalize hX : decI (madeV x) (plc n) = X at *
  generalize hY : decI (madeV y) (plc n) = Y at *
  have cX : prePr X.a X.b X.c X.n := prePr_of kx hp'
  have cY : prePr Y.a Y.b Y.c Y.n := prePr_of ky hp'
  have ne : decide (prT X.o X.a X.b X.c X.n ≠ (ByteArray.mk #[]).data.toList) = true := by
    refine decide_eq_true ?_
    rw [tx]
    intro h
    exact text_ne kx (List.map_eq_nil_iff.1 h)
  have eq : (decide (prT X.o X.a X.b X.c X.n = prT Y.o Y.a Y.b Y.c Y.n) == decide ([X.o, X.a, X.b, X.c, X.n] = [Y.o, Y.a, Y.b, Y.c, Y.n])) = true := by
    have hi : prT X.o X.a X.b X.c X.n = prT Y.o Y.a Y.b Y.c Y.n ↔ [X.o, X.a, X.b, X.c, X.n] = [Y.o, Y.a, Y.b, Y.c, Y.n] := by
      constructor
      · intro h
        rw [tx, tY] at h
        exact text_inj hp' kx ky (toB_inj (text_u8 kx) (text_u8 ky) h)
      · intro h
        simp only [List.cons.injEq, and_true] at h
        obtain ⟨h1, h2, h3, h4, h5⟩ := h
        rw [h1, h2, h3, h4, h5]
    rw [beq_iff_eq]
    exact decide_eq_decide.2 hi
  refine ⟨trivial, hn, trivial, ⟨wx, hp'⟩, trivial, ⟨wy, hp'⟩, cX, ?_⟩
  rw [ne, bc_t]
  refine ⟨cX, cY, ?_⟩
  rw [eq]
  exact QC.flat rfl rfl rfl
theorem texts_ok : Held Tryd.prog G0 9 ctTx :=
  Held.run cx10 (fn := Tryd.f9) rfl rfl ⟨by decide, by decide⟩ fun x hp => tx_run x.1 x.2.1 x.2.2.1 hp _
theorem preP_of {n : Int} (h : (Lit.int .u16 n).wf = true) : preP n := by
  have h := Go.bounds_u16 h
  exact ⟨h.1, by show n ≤ 65535; omega⟩
end Go.Proofs.YtjihaaibammbnaaDoor
