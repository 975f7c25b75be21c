/-
  A part of the proof: what a piece of the program gives; conditions: those of each theorem.
-/
import Derived.Test.YtfkbegcinagkmaaDoorV5
namespace Go.Proofs.YtfkbegcinagkmaaDoor
open Go.Px Go.Ax
set_option linter.unusedVariables false
theorem bc_ne {L M : List Int} [d : Decidable (L = M)] {A B : Prop} (e : L = M) (h : B) : bc (!decide (L = M)) A B := by
  rw [decide_eq_true e]; exact h
theorem kd_t (o : Int) (h0 : 0 ≤ o) (h9 : o < 9) : (kd o).2.2.2.2 = decide (5 ≤ o) := by
  rcases nine o h0 h9 with rfl | rfl | rfl | rfl | rfl | rfl | rfl | rfl | rfl <;> rfl
theorem numN_move {u p q : Int} (h5 : 5 ≤ opV u) (hp : 0 ≤ p ∧ p ≤ 65540) (hq : 0 ≤ q ∧ q ≤ 65540) (b : Int) (g : Bool) : IntKind.i64.wrap (numN u p b g (kd (opV u)).2.2.2.2 + IntKind.i64.wrap (q - p)) = numN u q b g (kd (opV u)).2.2.2.2 := by
  have ho := opV_range u
  have hn := numV_range g u b
  rw [kd_t _ ho.1 ho.2, decide_eq_true h5]
  simp only [numN, if_true]
  rw [IntWalk.i64_in (q - p) (by omega), IntWalk.i64_in _ (by omega)]
  omega
theorem numN_stay {u p q : Int} (h5 : ¬ 5 ≤ opV u) (b : Int) (g : Bool) : numN u p b g (kd (opV u)).2.2.2.2 = numN u q b g (kd (opV u)).2.2.2.2 := by
  have ho := opV_range u
  rw [kd_t _ ho.1 ho.2, decide_eq_false h5]
  rfl
def rng (n : Int) : Prop := 0 ≤ n ∧ n < 4294967296
theorem moves_loop (hx : CxOK Tryd.prog tt G0 C6) (p q : Int) (l : List Int) (hp : 0 ≤ p ∧ p ≤ 65540) (hq : 0 ≤ q ∧ q ≤ 65540) (hl : l.length = 2) (hr : ∀ j, rng (gt (.int .u32) l j)) : ∀ (m : Nat) (i : Int), 0 ≤ i → i ≤ 2 → (2 - i).toNat = m →
    Px.Good Tryd.prog tt G0 5 Tryd.f5.ntmps Tryd.f5.results.toList (fun rs _ => rs = [.bool true]) (hd Tryd.f5 0) ⟨[(7, .bool true), (8, .int .i64 p), (9, .int .i64 q), (10, .win true (.int .u32) 24 0 2), (11, .int .i64 i)], [(24, .row 22 (.int .u32) l)]⟩ := by
  intro m
  induction m with
  | zero =>
    intro i hi hin hm
    refine sy_sound hx _ _ _ ((vc_movesL p q i l _ _).mpr ?_)
    rw [show decide (i < 2) = false from decide_eq_false (by omega), bc_f]
  | succ m ih =>
    intro i hi hin hm
    refine sy_sound hx _ _ _ ((vc_movesL p q i l _ _).mpr ?_)
    rw [show decide (i < 2) = true from decide_eq_true (by omega), bc_t, IntWalk.i64_in (i + 1) (by omega)]
    have hu := hr (0 + i.toNat)
    refine ⟨hi, by show _ < (2 : Int); omega, by omega, ⟨hu, hp⟩, hi, by show _ < (2 : Int); omega, by omega, ⟨hu, hq⟩, bc_of (fun h => ?_) (fun h => ?_)⟩
    · have h5 := of_decide_eq_true h
      refine bc_ne ?_ ?_
      · rw [numN_move h5 hp hq]
      · exact (ih (i + 1) (by omega) (by omega) (by omega)).only ⟨rfl, rfl, rfl, rfl, rfl, trivial⟩ ⟨rfl, trivial⟩
    · have h5 := of_decide_eq_false h
      refine bc_ne ?_ ?_
      · rw [numN_stay h5]
      · exact (ih (i + 1) (by omega) (by omega) (by omega)).only ⟨rfl, rfl, rfl, rfl, rfl, trivial⟩ ⟨rfl, trivial⟩
def preM (w : Int) (p : List Int) : Prop := rng w ∧ ∀ j, preP (gt (.int .u16) p j)
def ctMoves : Ctr := ⟨[.int .u32, .arr 4 (.int .u8), .arr 2 (.int .u16)], fun x => preM x.1 x.2.2.1, fun _ => [.bool true], fun _ => []⟩
theorem plc_ok {n : Int} (h : preP n) : 0 ≤ plc n ∧ plc n ≤ 65540 := by unfold preP at h; unfold plc; omega
theorem moves_held (hx : CxOK Tryd.prog tt G0 C6) : Held Tryd.prog G0 5 ctMoves := by
  refine Held.run hx (fn := Tryd.f5) rfl rfl ⟨by decide, by decide⟩ ?_
  rintro ⟨w, x, p, ⟨⟩⟩ hpre
  obtain ⟨hw, hpp⟩ : preM w p := hpre
  refine (vc_moves w x p _ _).mpr ⟨trivial, by decide, by decide, by decide, hpp 0, by decide, by decide, by decide, hpp 1, trivial, ?_⟩
  have e := moves_loop hx (plc (gt (.int .u16) p 0)) (plc (gt (.int .u16) p 1)) [w, madeV x] (plc_ok (hpp 0)) (plc_ok (hpp 1)) rfl (fun j => match j with
    | 0 => hw
    | 1 => madeV_range x
    | _ + 2 => (show rng 0 from ⟨by decide, by decide⟩)) _ 0 (by omega) (by omega) rfl
  exact (e.post fun rs blk hq => QC.flat hq.symm rfl (by rw [hq]; rfl)).only ⟨rfl, rfl, rfl, rfl, rfl, trivial⟩ ⟨rfl, trivial⟩
end Go.Proofs.YtfkbegcinagkmaaDoor
