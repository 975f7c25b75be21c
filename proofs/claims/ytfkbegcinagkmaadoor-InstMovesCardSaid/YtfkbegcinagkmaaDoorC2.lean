/-
  A part of the proof: what a piece of the program gives; conditions: those of each theorem.
-/
import Derived.Test.YtfkbegcinagkmaaDoorV2
set_option linter.unusedVariables false
namespace Go.Proofs.YtfkbegcinagkmaaDoor
open Go.Px Go.Ax
def regs (o : Int) : Int := if o = 1 ∨ o = 3 ∨ o = 4 then 3 else if o = 2 ∨ o = 7 ∨ o = 8 then 1 else 0
/-- Whether a register's octet from i to n - 1 is too large. -/
def badR (w n i : Int) : Bool := decide (i ≤ 0 ∧ 0 < n ∧ 15 < octV w 1) || decide (i ≤ 1 ∧ 1 < n ∧ 15 < octV w 2) || decide (i ≤ 2 ∧ 2 < n ∧ 15 < octV w 3)
def opV (w : Int) : Int := if 9 ≤ octV w 0 then 0 else if badR w (regs (octV w 0)) 0 then 0 else octV w 0
theorem oct_nn (w i : Int) : 0 ≤ octV w i ∧ octV w i < 256 := by unfold octV; omega
theorem nine : ∀ o : Int, 0 ≤ o → o < 9 → o = 0 ∨ o = 1 ∨ o = 2 ∨ o = 3 ∨ o = 4 ∨ o = 5 ∨ o = 6 ∨ o = 7 ∨ o = 8 := by omega
theorem regs_tab (o : Int) (h0 : 0 ≤ o) (h9 : o < 9) : ((gt kindSh kindsL o.toNat).2.1 : Int) = regs o := by
  rcases nine o h0 h9 with rfl | rfl | rfl | rfl | rfl | rfl | rfl | rfl | rfl <;> rfl
theorem regs_le (o : Int) : 0 ≤ regs o ∧ regs o ≤ 3 := by
  unfold regs
  repeat' split
  all_goals omega
def ctOp : Ctr := ⟨[.int .u32], fun x => (fun w : Int => 0 ≤ w ∧ w < 4294967296) x.1, fun x => [.int .i64 (opV x.1)], fun _ => []⟩
theorem op_loop (w o : Int) (hw : 0 ≤ w ∧ w < 4294967296) {n : Int} (hn : 0 ≤ n ∧ n ≤ 3) : ∀ (m : Nat) (i : Int), 0 ≤ i → (n - i).toNat = m →
    Px.Good Tryd.prog tt G0 22 Tryd.f22.ntmps Tryd.f22.results.toList (fun rs _ => rs = [.int .i64 (if badR w n i then 0 else o)]) (hd Tryd.f22 0) ⟨[(0, .int .u32 w), (3, .int .i64 o), (12, .int .i64 n), (13, .int .i64 i)], []⟩ := by
  intro m
  induction m with
  | zero =>
    intro i hi hm
    refine sy_sound cx1 _ _ _ ((vc_opL w o n i _ _).mpr ?_)
    rw [show decide (i < n) = false from decide_eq_false (by omega)]
    show _ = _
    rw [show badR w n i = false by simp only [badR, Bool.or_eq_false_iff, decide_eq_false_iff_not]; omega]
    rfl
  | succ m ih =>
    intro i hi hm
    refine sy_sound cx1 _ _ _ ((vc_opL w o n i _ _).mpr ?_)
    rw [show decide (i < n) = true from decide_eq_true (by omega), bc_t, IntWalk.i64_in (1 + i) (by omega), IntWalk.i64_in (i + 1) (by omega)]
    refine ⟨⟨hw, (by omega : 0 ≤ 1 + i ∧ 1 + i < 4)⟩, bc_of (fun h => ?_) (fun h => ?_)⟩
    · have h' := of_decide_eq_true h
      rw [show badR w n i = true by
        simp only [badR, Bool.or_eq_true, decide_eq_true_eq]
        rcases (by omega : i = 0 ∨ i = 1 ∨ i = 2) with rfl | rfl | rfl
        · have h2 : 15 < octV w 1 := h'
          omega
        · have h2 : 15 < octV w 2 := h'
          omega
        · have h2 : 15 < octV w 3 := h'
          omega]
      rfl
    · have h' := of_decide_eq_false h
      have hb : badR w n i = badR w n (i + 1) := by
        refine Bool.eq_iff_iff.mpr ?_
        simp only [badR, Bool.or_eq_true, decide_eq_true_eq]
        rcases (by omega : i = 0 ∨ i = 1 ∨ i = 2) with rfl | rfl | rfl
        · have h2 : ¬ 15 < octV w 1 := h'
          omega
        · have h2 : ¬ 15 < octV w 2 := h'
          omega
        · have h2 : ¬ 15 < octV w 3 := h'
          omega
      rw [hb]
      exact (ih (i + 1) (by omega) (by omega)).only ⟨rfl, rfl, rfl, rfl, trivial⟩ trivial
theorem op_held : Held Tryd.prog G0 22 ctOp := by
  refine Held.run cx1 (fn := Tryd.f22) rfl rfl ⟨by decide, by decide⟩ ?_
  rintro ⟨w, ⟨⟩⟩ hw
  replace hw : 0 ≤ w ∧ w < 4294967296 := hw
  refine (vc_op w _ _).mpr ?_
  refine ⟨⟨hw, (by decide : (0 : Int) ≤ 0 ∧ (0 : Int) < 4)⟩, bc_of (fun h => ?_) (fun h => ?_)⟩
  · have h' := of_decide_eq_true h
    exact QC.flat (by simp only [ctOp, opV, if_pos h']) rfl rfl
  · have h' := of_decide_eq_false h
    have hb := oct_nn w 0
    refine ⟨hb.1, by show _ < (9 : Int); omega, ?_⟩
    have e := op_loop w (octV w 0) hw (regs_le (octV w 0)) _ 0 (by omega) rfl
    refine (e.post fun rs blk hq => QC.flat (by simp only [ctOp, opV, if_neg h']; exact hq.symm) rfl (by rw [hq]; rfl)).only ⟨rfl, rfl, ?_, rfl, trivial⟩ trivial
    exact congrArg (fun z => some (SV.int .i64 z)) (regs_tab _ hb.1 (by omega))
def C2 : CV := (22, ctOp) :: C1
theorem cx2 : CxOK Tryd.prog tt G0 C2 := cx1.cons op_held (fn := Tryd.f22) rfl rfl rfl
end Go.Proofs.YtfkbegcinagkmaaDoor
