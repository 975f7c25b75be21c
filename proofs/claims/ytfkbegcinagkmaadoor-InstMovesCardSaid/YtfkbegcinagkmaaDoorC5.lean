/-
  A part of the proof: what a piece of the program gives; conditions: those of each theorem.
-/
import Derived.Test.YtfkbegcinagkmaaDoorC4
set_option linter.unusedVariables false
namespace Go.Proofs.YtfkbegcinagkmaaDoor
open Go.Px Go.Ax
def plc (n : Int) : Int := 4 * (n % 16385)
def preP (n : Int) : Prop := 0 ≤ n ∧ n ≤ 65535
def ctPlace : Ctr := ⟨[.int .u16], fun x => preP x.1, fun x => [.int .i64 (plc x.1)], fun _ => []⟩
theorem place_run (n : Int) (hp : preP n) : sy tt G0 [] Tryd.f11.ntmps Tryd.f11.results.toList (QC ctPlace (n, ())) (Px.Good Tryd.prog tt G0 11 Tryd.f11.ntmps Tryd.f11.results.toList (QC ctPlace (n, ()))) 1000 [.code (bodyOf Tryd.f11)] (entry [.int .u16] (n, ())) := by
  unfold preP at hp
  refine (vc_place n _ _).mpr ⟨by decide, ?_⟩
  rw [IntWalk.i64_in n (by omega), Int.tmod_eq_emod_of_nonneg hp.1, IntWalk.i64_in _ (by omega)]
  exact QC.flat rfl rfl rfl
theorem place_held : Held Tryd.prog G0 11 ctPlace :=
  Held.run cx0 (fn := Tryd.f11) rfl rfl ⟨by decide, by decide⟩ fun x hp => place_run x.1 hp
theorem bitI_u32 (op : BinOp) (a b : Int) : 0 ≤ bitI op .u32 a b ∧ bitI op .u32 a b < 4294967296 := by
  unfold bitI
  split <;> simp only [IntKind.wrap_u32] <;> omega
theorem made_ex (x : List Int) : ∃ m, (0 ≤ m ∧ m < 4294967296) ∧ ∀ (Q : List SV → List (Nat × LB) → Prop) (R : List Item → PS → Prop), Q [.int .u32 m] [((1 : Nat), LB.var [SV.arr (4 : Nat) (Sh.int IntKind.u8) x])] →
    sy tt G0 [] Tryd.f12.ntmps Tryd.f12.results.toList Q R 1000 [.code (bodyOf Tryd.f12)] (entry [.arr 4 (.int .u8)] (x, ())) := by
  rcases Bool.eq_false_or_eq_true (decide (gt (Sh.int IntKind.u8) x (Int.toNat (0 : Int)) < (200 : Int))) with h0 | h0 <;>
  rcases Bool.eq_false_or_eq_true (decide (IntKind.u32.wrap (Int.tmod (gt (Sh.int IntKind.u8) x (Int.toNat (0 : Int))) (10 : Int)) = (1 : Int))) with h1 | h1 <;>
  rcases Bool.eq_false_or_eq_true (decide (IntKind.u32.wrap (Int.tmod (gt (Sh.int IntKind.u8) x (Int.toNat (0 : Int))) (10 : Int)) = (3 : Int))) with h3 | h3 <;>
  rcases Bool.eq_false_or_eq_true (decide (IntKind.u32.wrap (Int.tmod (gt (Sh.int IntKind.u8) x (Int.toNat (0 : Int))) (10 : Int)) = (4 : Int))) with h4 | h4
  all_goals
    refine ⟨?_, ?_, fun Q R h => (vc_made x Q R).mpr ?_⟩
    rotate_left 2
    · simp only [cond_false, h0, h1, h3, h4, bc_t, bc_f]
      iterate 10 refine ⟨by decide, ?_⟩
      repeat (first | exact h | refine ⟨by decide, ?_⟩)
    · exact bitI_u32 _ _ _
noncomputable def madeV (x : List Int) : Int := Classical.choose (made_ex x)
theorem madeV_range (x : List Int) : 0 ≤ madeV x ∧ madeV x < 4294967296 := (Classical.choose_spec (made_ex x)).1
noncomputable def ctMade : Ctr := ⟨[.arr 4 (.int .u8)], fun _ => True, fun x => [.int .u32 (madeV x.1)], fun _ => []⟩
theorem made_held : Held Tryd.prog G0 12 ctMade :=
  Held.run cx0 (fn := Tryd.f12) rfl rfl ⟨by decide, by decide⟩ fun x _ => (Classical.choose_spec (made_ex x.1)).2 _ _ (QC.flat rfl rfl rfl)
end Go.Proofs.YtfkbegcinagkmaaDoor
