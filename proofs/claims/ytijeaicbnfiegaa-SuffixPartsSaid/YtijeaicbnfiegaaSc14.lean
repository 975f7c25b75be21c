/-
  A part of the proof: what a piece of the program gives; conditions: those of each theorem.
-/
import Derived.Test.YtijeaicbnfiegaaSc13
set_option linter.unusedVariables false
namespace Go.Proofs.Ytijeaicbnfiegaa
open Go.Px Go.Ax
theorem lcp_pre : ∀ (n : Nat) (a m : List Int), n ≤ a.length → n ≤ lcp a (a.take n ++ m)
  | 0, _, _, _ => Nat.zero_le _
  | n + 1, [], _, h => by simp at h
  | n + 1, x :: a, m, h => by
    simp only [List.take_succ_cons, List.cons_append, lcp, if_true]
    have := lcp_pre n a m (by simpa using h)
    omega
theorem part_found {x m : List Int} {i n : Nat} (hi : i + n ≤ x.length) : n ≤ (lonF x ((x.drop i).take n ++ m)).2 := by
  have hl := lonF_ok x ((x.drop i).take n ++ m)
  by_cases h0 : n = 0
  · omega
  · have h1 := lcp_pre n (x.drop i) m (by rw [List.length_drop]; omega)
    exact Nat.le_trans h1 (hl.max i (by omega))
theorem part_whole {x : List Int} {i n : Nat} (hi : i + n ≤ x.length) : (lonF x ((x.drop i).take n)).2 = n ∧ (lonF x ((x.drop i).take n)).1 ≤ i := by
  have hl := lonF_ok x ((x.drop i).take n)
  have h1 := part_found (m := []) hi
  rw [List.append_nil] at h1
  have h2 : (lonF x ((x.drop i).take n)).2 ≤ n := by
    by_cases h0 : (lonF x ((x.drop i).take n)).2 = 0
    · omega
    · obtain ⟨_, e, _⟩ := hl.at' (by omega)
      rw [← e]
      refine Nat.le_trans (lcp_le2 _ _) ?_
      rw [List.length_take]; omega
  refine ⟨by omega, ?_⟩
  by_cases h0 : (lonF x ((x.drop i).take n)).2 = 0
  · rw [hl.z h0]; omega
  · obtain ⟨_, _, e⟩ := hl.at' (by omega)
    apply Classical.byContradiction
    intro hh
    have := e i (by omega)
    have h3 := lcp_pre n (x.drop i) [] (by rw [List.length_drop]; omega)
    rw [List.append_nil] at h3
    omega
def preW (w : List Int) : Prop := (0 ≤ gt (Sh.int .u8) w 0 ∧ gt (Sh.int .u8) w 0 < 256) ∧ 0 ≤ gt (Sh.int .u8) w 1 ∧ gt (Sh.int .u8) w 1 < 256
def ctParts : Ctr := ⟨[slB, .arr 2 (.int .u8), slB], fun x => preW x.2.1, fun _ => [.bool true], fun _ => []⟩
theorem l6_run (b w m : List Int) (hw0 : preW w) (R : List Item → PS → Prop) : sy tt G0 C10 Try.f6.ntmps Try.f6.results.toList (QC ctParts (b, w, m, ())) R 1000 [.code (bodyOf Try.f6)] (entry [slB, .arr 2 (.int .u8), slB] (b, w, m, ())) := by
  rw [vc_law6]
  have hx : (List.take (Int.toNat 100) b).length ≤ 100 := by rw [List.length_take]; exact Nat.min_le_left _ _
  have hm : (List.take (Int.toNat 20) m).length ≤ 20 := by rw [List.length_take]; exact Nat.min_le_left _ _
  generalize List.take (Int.toNat 100) b = x at hx
  generalize List.take (Int.toNat 20) m = mm at hm
  have ho := ordN_ok x
  have hw : winL (Sh.int .i64) 0 (mapI (ordB x)).length (mapI (ordB x)) = mapI (ordB x) := by
    unfold winL
    rw [List.drop_zero, List.take_length]
  obtain ⟨⟨p1, p2⟩, p3, p4⟩ := hw0
  have g0 : gt (Sh.int .u8) w (Int.toNat 0) = gt (Sh.int .u8) w 0 := rfl
  have g1 : gt (Sh.int .u8) w (Int.toNat 1) = gt (Sh.int .u8) w 1 := rfl
  have k0 : ∃ z : Int, gt (Sh.int .u8) w 0 = z ∧ 0 ≤ z ∧ z < 256 := ⟨_, rfl, p1, p2⟩
  have k1 : ∃ z : Int, gt (Sh.int .u8) w 1 = z ∧ 0 ≤ z ∧ z < 256 := ⟨_, rfl, p3, p4⟩
  obtain ⟨w0, e0, p1, p2⟩ := k0
  obtain ⟨w1, e1, p3, p4⟩ := k1
  rw [hw, g0, g1, e0, e1]
  have i1 : IntKind.i64.wrap ((x.length : Int) + 1) = ((x.length + 1 : Nat) : Int) := by rw [IntWalk.i64_in _ (by omega)]; omega
  have i2 : (IntKind.i64.wrap w0).tmod ((x.length + 1 : Nat) : Int) = ((w0.toNat % (x.length + 1) : Nat) : Int) := by
    rw [IntWalk.i64_in w0 (by omega), Int.tmod_eq_emod_of_nonneg p1, Int.natCast_emod, Int.toNat_of_nonneg p1]
  rw [i1, i2]
  have hi : w0.toNat % (x.length + 1) ≤ x.length := by have := Nat.mod_lt w0.toNat (show 0 < x.length + 1 by omega); omega
  generalize w0.toNat % (x.length + 1) = i at hi
  have i3 : IntKind.i64.wrap (IntKind.i64.wrap ((x.length : Int) - (i : Int)) + 1) = ((x.length - i + 1 : Nat) : Int) := by rw [IntWalk.i64_in ((x.length : Int) - i) (by omega), IntWalk.i64_in _ (by omega)]; omega
  rw [i3]
  have i4 : (IntKind.i64.wrap w1).tmod ((x.length - i + 1 : Nat) : Int) = ((w1.toNat % (x.length - i + 1) : Nat) : Int) := by
    rw [IntWalk.i64_in w1 (by omega), Int.tmod_eq_emod_of_nonneg p3, Int.natCast_emod, Int.toNat_of_nonneg p3]
  rw [i4]
  have hn : w1.toNat % (x.length - i + 1) ≤ x.length - i := by have := Nat.mod_lt w1.toNat (show 0 < x.length - i + 1 by omega); omega
  generalize w1.toNat % (x.length - i + 1) = n at hn
  have i5 : IntKind.i64.wrap ((i : Int) + (n : Int)) = ((i + n : Nat) : Int) := by rw [IntWalk.i64_in _ (by omega)]; omega
  rw [i5]
  have hp : Px.part x (some ((i : Nat) : Int)) (some ((i + n : Nat) : Int)) = (x.drop i).take n := by
    simp only [Px.part, Int.toNat_natCast]
    rw [show i + n = n + i by omega, List.drop_take, Nat.add_sub_cancel]
  rw [hp]
  have hlen : ((x.drop i).take n).length = n := by rw [List.length_take, List.length_drop]; omega
  have i6 : IntKind.i64.wrap (((i + n : Nat) : Int) - (i : Int)) = (n : Int) := by rw [IntWalk.i64_in _ (by omega)]; omega
  rw [i6]
  have hwl : winL (Sh.int .u8) 0 (0 + ((x.drop i).take n).length + mm.length) (List.replicate 0 (Sh.int .u8).dflt ++ (x.drop i).take n ++ mm) = (x.drop i).take n ++ mm := by
    unfold winL
    rw [List.drop_zero, List.replicate_zero, List.nil_append]
    exact List.take_of_length_le (by rw [List.length_append]; omega)
  rw [hwl]
  have hf1 := part_whole (x := x) (i := i) (n := n) (by omega)
  have hf2 := part_found (x := x) (m := mm) (i := i) (n := n) (by omega)
  have hpo : preOrd x (mapI (ordB x)) := ⟨by omega, ordB x, ho, rfl⟩
  have pc1 : preClo x (mapI (ordB x)) ((x.drop i).take n) := ⟨hpo, by omega⟩
  have pc2 : preClo x (mapI (ordB x)) ((x.drop i).take n ++ mm) := ⟨hpo, by rw [List.length_append]; omega⟩
  refine ⟨trivial, (by decide : (0 : Int) ≤ 100), by decide, by decide, by decide, by omega, by decide, by decide, by decide, by omega, (by show x.length < 1048576; omega), by omega, by omega, by omega, by omega, pc1, by omega, by omega, by omega, rfl, rfl, ?_, by decide, (by decide : (0 : Int) ≤ 20), ?_, rfl, ?_, by decide, by omega, ?_, pc2, ?_⟩
  · rw [hlen]; omega
  · rw [List.replicate_zero, List.nil_append]; omega
  · rw [hlen]; omega
  · rw [List.replicate_zero, List.nil_append, List.length_append]; omega
  · rw [hf1.1]
    have e1 : (bif true then decide ((n : Int) = (n : Int)) else false) = true := by simp
    have e2 : (bif true then decide (((lonF x ((x.drop i).take n)).1 : Int) ≤ (i : Int)) else false) = true := by
      simp only [cond_true, decide_eq_true_eq]
      have := hf1.2
      omega
    have e3 : (bif true then decide ((n : Int) ≤ ((lonF x ((x.drop i).take n ++ mm)).2 : Int)) else false) = true := by
      simp only [cond_true, decide_eq_true_eq]
      omega
    rw [e1, bc_t, e2, bc_t, e3]
    exact QC.flat rfl rfl rfl
theorem parts_held : Held Try.prog G0 6 ctParts := Held.run cx10 (fn := Try.f6) rfl rfl ⟨by decide, by decide⟩ fun x hp => l6_run x.1 x.2.1 x.2.2.1 hp _
theorem preW_of {l : List Int} (h : ∀ n ∈ l, (Lit.int .u8 n).wf = true) : preW l := by
  have key : ∀ j : Nat, 0 ≤ gt (Sh.int .u8) l j ∧ gt (Sh.int .u8) l j < 256 := by
    intro j
    show 0 ≤ (l[j]?).getD 0 ∧ (l[j]?).getD 0 < 256
    cases e : l[j]? with
    | none => exact ⟨by decide, by decide⟩
    | some n =>
      have := Go.bounds_u8 (h n (List.mem_of_getElem? e))
      exact ⟨this.1, by show n < 256; omega⟩
  exact ⟨key 0, key 1⟩
end Go.Proofs.Ytijeaicbnfiegaa
