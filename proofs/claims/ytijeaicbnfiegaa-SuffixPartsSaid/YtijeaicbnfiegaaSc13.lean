/-
  A part of the proof: what a piece of the program gives; conditions: those of each theorem.
-/
import Derived.Test.YtijeaicbnfiegaaSv12
set_option linter.unusedVariables false
namespace Go.Proofs.Ytijeaicbnfiegaa
open Go.Px Go.Ax
theorem lcp_takes : ∀ a s : List Int, a.take (lcp a s) = s.take (lcp a s)
  | [], s => by cases s <;> simp [lcp]
  | _ :: _, [] => by simp [lcp]
  | x :: a, y :: s => by
    simp only [lcp]
    split
    · rename_i e
      subst e
      rw [List.take_succ_cons, List.take_succ_cons, lcp_takes a s]
    · simp
abbrev QT5 : List SV → List (Nat × LB) → Prop := fun rs _ => rs = [.bool true]
theorem lcp_le2 (a s : List Int) : lcp a s ≤ s.length := by rw [lcp_comm]; exact lcp_le s a
theorem l5_loop {x y : List Int} (hx : x.length ≤ 100) (hy : y.length ≤ 60) : ∀ (m i : Nat), x.length - i ≤ m → i ≤ x.length →
    GD 5 Try.f5 QT5 (hd Try.f5 0) ⟨[(5, .bool true), (6, .sl (.int .u8) x), (7, .sl (.int .u8) y), (8, .ptr 8 0), (9, .int .i64 (i : Nat))], [(8, .var [.int .i64 ((lonF x y).1 : Nat), .int .i64 ((lonF x y).2 : Nat)])]⟩ := by
  have hl := lonF_ok x y
  intro m
  induction m with
  | zero =>
    intro i hm h1
    refine sy_goK cx10 (vc_law5L _ _ _ _ _ _ _) (bc_of (fun h => ?_) (fun h => ?_))
    · have h := of_decide_eq_true h; omega
    · rfl
  | succ m ih =>
    intro i hm h1
    by_cases hi : i < x.length
    · refine sy_goK cx10 (vc_law5L _ _ _ _ _ _ _) ?_
      have hmax := hl.max i hi
      have hc := lcp_le2 (x.drop i) y
      rw [decide_eq_true (show (i : Int) < (x.length : Int) by omega), bc_t]
      simp only [Int.toNat_natCast, IntWalk.i64_in ((i : Int) + 1) (show _ ∧ _ by omega)]
      refine ⟨by omega, by omega, ⟨by show List.length (List.drop i x) < 2 ^ 62; rw [List.length_drop]; omega, by show List.length y < 2 ^ 62; omega⟩, ?_⟩
      rw [decide_eq_false (show ¬ ((lonF x y).2 : Int) < (lcp (x.drop i) y : Nat) by omega), bc_f]
      have nx := ih (i + 1) (by omega) (by omega)
      refine bc_of (fun h => ?_) (fun h => ?_)
      · have h := of_decide_eq_true h
        refine bc_of (fun h2 => ?_) (fun h2 => ?_)
        · have h2 : (0 : Int) < (lcp (x.drop i) y : Nat) := of_decide_eq_true h2
          have h3 := (hl.at' (by omega)).2.2 i
          have h4 : ¬ ((i : Int) < ((lonF x y).1 : Nat)) := fun q => by have := h3 (by omega); omega
          refine bc_of (fun h5 => ?_) (fun h5 => nx)
          exact absurd (of_decide_eq_true h5) h4
        · exact ⟨trivial, nx⟩
      · exact ⟨trivial, trivial, nx⟩
    · exact ih i (by omega) h1
def ctTrue2 : Ctr := ⟨[slB, slB], fun _ => True, fun _ => [.bool true], fun _ => []⟩
theorem l5_run (b s : List Int) : GD 5 Try.f5 (QC ctTrue2 (b, s, ())) [.code (bodyOf Try.f5)] (entry [slB, slB] (b, s, ())) := by
  refine sy_goK cx10 (vc_law5 _ _ _ _) ?_
  have hx : (List.take (Int.toNat 100) b).length ≤ 100 := by rw [List.length_take]; exact Nat.min_le_left _ _
  have hy : (List.take (Int.toNat 60) s).length ≤ 60 := by rw [List.length_take]; exact Nat.min_le_left _ _
  generalize List.take (Int.toNat 100) b = x at hx
  generalize List.take (Int.toNat 60) s = y at hy
  have hl := lonF_ok x y
  have ho := ordN_ok x
  have hw : winL (Sh.int .i64) 0 (mapI (ordB x)).length (mapI (ordB x)) = mapI (ordB x) := by
    unfold winL
    rw [List.drop_zero, List.take_length]
  have fin : GD 5 Try.f5 (QC ctTrue2 (b, s, ())) (hd Try.f5 0) ⟨[(5, .bool true), (6, .sl (.int .u8) x), (7, .sl (.int .u8) y), (8, .ptr 8 0), (9, .int .i64 (0 : Nat))], [(8, .var [.int .i64 ((lonF x y).1 : Nat), .int .i64 ((lonF x y).2 : Nat)])]⟩ :=
    (l5_loop hx hy _ 0 (Nat.le_refl _) (Nat.zero_le _)).post fun rs blk h => QC.flat h.symm rfl (by rw [h]; rfl)
  have hn : (lonF x y).2 ≤ y.length := by
    by_cases h0 : (lonF x y).2 = 0
    · omega
    · obtain ⟨_, e, _⟩ := hl.at' (by omega)
      rw [← e]; exact lcp_le2 _ _
  have ha : (lonF x y).1 + (lonF x y).2 ≤ x.length := by
    by_cases h0 : (lonF x y).2 = 0
    · rw [h0, hl.z h0]; omega
    · obtain ⟨e0, e, _⟩ := hl.at' (by omega)
      have := lcp_le (x.drop (lonF x y).1) y
      rw [e, List.length_drop] at this
      omega
  have ht : (x.drop (lonF x y).1).take (lonF x y).2 = y.take (lonF x y).2 := by
    by_cases h0 : (lonF x y).2 = 0
    · rw [h0]; simp
    · obtain ⟨_, e, _⟩ := hl.at' (by omega)
      have := lcp_takes (x.drop (lonF x y).1) y
      rw [e] at this; exact this
  have hz := hl.z
  rw [hw]
  have e1 : IntKind.i64.wrap (((lonF x y).1 : Int) + ((lonF x y).2 : Nat)) = (((lonF x y).1 + (lonF x y).2 : Nat) : Int) := by rw [IntWalk.i64_in _ (by omega)]; omega
  rw [e1]
  generalize (lonF x y).1 = at' at *
  generalize (lonF x y).2 = n at *
  have hp : Px.part x (some ((at' : Nat) : Int)) (some ((at' + n : Nat) : Int)) = y.take n := by
    rw [← ht]
    simp only [Px.part, Int.toNat_natCast]
    rw [show at' + n = n + at' by omega, List.drop_take, Nat.add_sub_cancel]
  rw [hp]
  simp only [Int.toNat_natCast, ne_eq, not_true, decide_false]
  refine ⟨trivial, (by decide : (0 : Int) ≤ 100), (by decide : (0 : Int) ≤ 60), (by show x.length < 1048576; omega), by omega, ⟨⟨by show x.length < 1048576; omega, ordB x, ho, rfl⟩, by show y.length < 1048576; omega⟩, ?_⟩
  refine bc_of (fun h => ?_) (fun h => ?_)
  · exfalso
    have h : (y.length : Int) < n := of_decide_eq_true h
    omega
  · refine bc_of (fun h => ?_) (fun h => ?_)
    · exfalso
      have h : (x.length : Int) < ((at' + n : Nat) : Int) := of_decide_eq_true h
      omega
    · have rest : (0 : Int) ≤ (at' : Int) ∧ (at' : Int) ≤ ((at' + n : Nat) : Int) ∧ ((at' + n : Nat) : Int) ≤ (x.length : Int) ∧ (0 : Int) ≤ (n : Int) ∧ (n : Int) ≤ (y.length : Int) := ⟨by omega, by omega, by omega, by omega, by omega⟩
      refine bc_of (fun h2 => ?_) (fun h2 => ?_)
      · have h2 := of_decide_eq_true h2
        have h0 : at' = 0 := hz (by omega)
        refine bc_of (fun h3 => ?_) (fun h3 => ?_)
        · exfalso
          have h3 : ¬ ((at' : Int) = 0) := by simpa using h3
          omega
        · exact ⟨rest.1, rest.2.1, rest.2.2.1, rest.2.2.2.1, rest.2.2.2.2, fin⟩
      · exact ⟨trivial, rest.1, rest.2.1, rest.2.2.1, rest.2.2.2.1, rest.2.2.2.2, fin⟩
theorem finds_held : Held Try.prog G0 5 ctTrue2 := Held.of cx10 (fn := Try.f5) rfl rfl ⟨by decide, by decide⟩ fun x _ => l5_run x.1 x.2.1
end Go.Proofs.Ytijeaicbnfiegaa
