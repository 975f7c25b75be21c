/-
  A part of the proof: what a piece of the program gives; conditions: those of each theorem.
-/
import Derived.Test.YtljpjeipgdeioaaDoorS4
set_option linter.unusedVariables false
namespace Go.Proofs.YtljpjeipgdeioaaDoor
open Ax
set_option maxHeartbeats 8000000
/-- An instruction. -/
structure I5 where
  o : Int
  a : Int
  b : Int
  c : Int
  n : Int
deriving DecidableEq
def I5.val (x : I5) : Value := inst x.o x.a x.b x.c x.n
/-- The instruction of a kind that a word with these bytes is. -/
def decO (o w b1 b2 b3 at_ : Int) : I5 :=
  if o = 0 then ⟨0, 0, 0, 0, w⟩
  else if o = 1 ∨ o = 3 ∨ o = 4 then ⟨o, b1, b2, b3, 0⟩
  else if o = 2 then ⟨2, b1, 0, 0, w % 65536⟩
  else if o = 5 ∨ o = 6 then ⟨o, 0, 0, 0, at_ + 4 * sgn (w % 16777216) 16777216⟩
  else if o = 7 then ⟨7, b1, 0, 0, at_ + 4 * sgn (w % 65536) 65536⟩
  else ⟨8, b1, 0, 0, at_ + 4 * (w % 65536)⟩
theorem opS_range {b0 b1 b2 b3 : Int} (h : 0 ≤ b0) : 0 ≤ opS b0 b1 b2 b3 ∧ opS b0 b1 b2 b3 ≤ 8 := by
  unfold opS; repeat' split
  all_goals omega
theorem sgn_range {n m : Int} (h0 : 0 ≤ n) (h1 : n < m) (h2 : 0 < m) : -m ≤ sgn n m ∧ sgn n m ≤ m := by unfold sgn; split <;> omega
theorem decode0 {w b0 b1 b2 b3 at_ : Int} (W : Wd w b0 b1 b2 b3) (ha : 0 ≤ at_ ∧ at_ ≤ 65540) (ho : opS b0 b1 b2 b3 = 0) : ∃ v H2, EvS Tryd.prog (.call 13 #[.int .u32 w, .int .i64 at_] H0) (.value v H2) ∧ v = (decO 0 w b1 b2 b3 at_).val := by
  refine EvS.call cx F13 (fn := Tryd.f13) rfl ⟨by simp [Tryd.f13], by simp⟩ ?_
  have w0 := W.ge
  have w1 := W.lt
  have s0 : -65536 ≤ sgn (w % 65536) 65536 ∧ sgn (w % 65536) 65536 ≤ 65536 := sgn_range (by omega) (by omega) (by omega)
  have s1 : -16777216 ≤ sgn (w % 16777216) 16777216 ∧ sgn (w % 16777216) 16777216 ≤ 16777216 := sgn_range (by omega) (by omega) (by omega)
  have op_ev : ∀ {H : AHeap} (hL : Lay G H), EvS Tryd.prog (.call 22 #[.int .u32 w] H) (.value (.int .i64 0) H) := fun hL => by rw [← ho]; exact op_ev W hL
  generalize hq0 : sgn (w % 65536) 65536 = q0 at s0
  generalize hq1 : sgn (w % 16777216) 16777216 = q1 at s1
  have lowS16E : ∀ H, EvS Tryd.prog (.call 29 #[.int .u32 w, .int .i64 16] H) (.value (.int .i64 q0) H) := fun H => by rw [← hq0]; exact lowS16E w0 w1 H
  have lowS24E : ∀ H, EvS Tryd.prog (.call 29 #[.int .u32 w, .int .i64 24] H) (.value (.int .i64 q1) H) := fun H => by rw [← hq1]; exact lowS24E w0 w1 H
  repeat (first
    | (refine OT.fetch rfl (fun i_ ho_ => ?_)
       first
        | refine OT.move ho_ rfl rfl rfl ?_
        | refine OT.assign ho_ rfl rfl rfl ?_
        | refine OT.un ho_ rfl rfl ?_
        | refine OT.pickT ho_ rfl rfl rfl rfl ?_
        | refine OT.pickF ho_ rfl rfl rfl rfl ?_
        | refine OT.extract ho_ rfl rfl rfl rfl ?_
        | refine OT.not ho_ rfl rfl rfl ?_
        | refine OT.faddr ho_ rfl rfl (by first | exact us31 | exact us59) (by decide) rfl ?_
        | refine OT.ld ho_ rfl rfl (by first | exact ga3 | exact ga4 | exact ga5 | exact ga9 | exact ga22) rfl rfl (by first | exact trivial | exact .inr (.inl ⟨rfl, fun b hb => by cases hb; decide⟩) | exact Side.pass rfl) rfl ?_
        | refine OT.call1 (op_ev (lay_of (Nat.le_of_ble_eq_true (by rfl)) (by rfl))) ho_ rfl rfl (iF F22) rfl ?_
        | refine OT.call1 (oct1 W _) ho_ rfl rfl (iF F23) rfl ?_
        | refine OT.call1 (oct2 W _) ho_ rfl rfl (iF F23) rfl ?_
        | refine OT.call1 (oct3 W _) ho_ rfl rfl (iF F23) rfl ?_
        | refine OT.call1 (numberU (lowE32 w0 w1) (lay_of (Nat.le_of_ble_eq_true (by rfl)) (by rfl))) ho_ rfl rfl (iF F24) rfl ?_
        | refine OT.cmpT ho_ rfl rfl rfl rfl (by first | (simp only [cmpP]; done) | (simp only [cmpP]; omega)) rfl ?_
        | refine OT.cmpF ho_ rfl rfl rfl rfl (by first | (simp only [cmpP]; done) | (simp only [cmpP]; omega)) rfl ?_
        | refine OT.add ho_ rfl rfl rfl (by first | exact IntWalk.i64_in _ (by omega) | exact IntWalk.u8_in _ (by omega) | exact IntWalk.u32_in _ (by omega) | exact IntWalk.u16_in _ (by omega) | exact IntWalk.i32_in _ (by omega)) rfl ?_
        | refine OT.sub ho_ rfl rfl rfl (by first | exact IntWalk.i64_in _ (by omega) | exact IntWalk.u8_in _ (by omega) | exact IntWalk.u32_in _ (by omega) | exact IntWalk.u16_in _ (by omega) | exact IntWalk.i32_in _ (by omega)) rfl ?_
        | refine OT.mul ho_ rfl rfl rfl (by first | exact IntWalk.i64_in _ (by omega) | exact IntWalk.u8_in _ (by omega) | exact IntWalk.u32_in _ (by omega) | exact IntWalk.u16_in _ (by omega) | exact IntWalk.i32_in _ (by omega)) rfl ?_
        | refine OT.quo ho_ rfl rfl rfl (by omega) (by omega) (by first | exact IntWalk.i64_in _ (by omega) | exact IntWalk.u8_in _ (by omega) | exact IntWalk.u32_in _ (by omega) | exact IntWalk.u16_in _ (by omega) | exact IntWalk.i32_in _ (by omega)) rfl ?_
        | refine OT.rem ho_ rfl rfl rfl (by omega) (by omega) rfl ?_
        | refine OT.box _ ho_ rfl rfl rfl (by decide) (by first | exact trivial | exact .inr (.inl ⟨rfl, fun b hb => by cases hb; decide⟩) | exact Side.pass rfl) rfl ?_
        | refine OT.alloc _ ho_ rfl (by first | exact z31 | exact z59 | exact z61) rfl rfl (by decide) (by first | exact trivial | exact .inr (.inl ⟨rfl, fun b hb => by cases hb; decide⟩) | exact Side.pass rfl) rfl ?_
        | refine OT.ldA ho_ rfl rfl (by first | exact ga31 | exact ga59 | exact ga61 | exact ga24) (by first | exact sz3 | exact sz5 | exact sz22 | exact sz31 | exact sz59 | exact sz61 | exact sz24) rfl (Nat.le_of_ble_eq_true (by rfl)) rfl (by first | exact trivial | exact .inr (.inl ⟨rfl, fun b hb => by cases hb; decide⟩) | exact Side.pass rfl) rfl ?_
        | refine OT.st _ ho_ rfl rfl rfl (by first | exact sz3 | exact sz5 | exact sz22 | exact sz31 | exact sz59 | exact sz61 | exact sz24) rfl (by rfl) rfl (by decide) (Nat.le_of_ble_eq_true (by rfl)) rfl (by decide) rfl (by first | exact trivial | exact .inr (.inl ⟨rfl, fun b hb => by cases hb; decide⟩) | exact Side.pass rfl) ?_
        | refine OT.iaddrA ho_ rfl rfl rfl (by first | exact u60 | exact u61 | exact u24) (by first | exact sz3 | exact sz5 | exact sz22 | exact sz31 | exact sz59 | exact sz61 | exact sz24) (by omega) (by omega) rfl ?_
        | refine OT.buildV ho_ rfl rfl (by first | exact bld31 _ _ _ _ _ | exact bld31b _ _) rfl ?_
        | refine OT.mkF ho_ rfl rfl rfl rfl ?_
        | refine OT.maxQ _ ho_ rfl rfl rfl rfl rfl ?_
        | refine OT.minQ _ ho_ rfl rfl rfl rfl rfl ?_
        | refine OT.convI ho_ rfl rfl (by first | exact u3 | exact u5 | exact u22 | exact u56 | exact u21 | exact u25 | exact u33 | exact u42 | exact u2) (by first | exact u3 | exact u5 | exact u22 | exact u56 | exact u21 | exact u25 | exact u33 | exact u42 | exact u2) (by first | exact IntWalk.i64_in _ (by omega) | exact IntWalk.u8_in _ (by omega) | exact IntWalk.u32_in _ (by omega) | exact IntWalk.u16_in _ (by omega) | exact IntWalk.i32_in _ (by omega)) rfl ?_
       clear ho_ i_)
    | refine OT.nil ?_
    | refine Tr.region cx ?_
    | refine Tr.draw cx [] noEv (Valid.none _) (by decide +kernel) ?_
    | refine Tr.cond_true cx rfl ?_
    | refine Tr.cond_false cx rfl ?_
    | refine Tr.seq cx ?_
    | refine Tr.block cx ?_
    | refine Tr.ret cx ?_
    | refine Tr.skip cx ?_
    | refine Tr.exit cx ?_
    | refine Tr.loopU cx ?_
    | refine Tr.againU ?_)
  exact ⟨_, _, rfl, rfl, by rfl⟩
theorem decode1 {w b0 b1 b2 b3 at_ : Int} (W : Wd w b0 b1 b2 b3) (ha : 0 ≤ at_ ∧ at_ ≤ 65540) (ho : opS b0 b1 b2 b3 = 1) : ∃ v H2, EvS Tryd.prog (.call 13 #[.int .u32 w, .int .i64 at_] H0) (.value v H2) ∧ v = (decO 1 w b1 b2 b3 at_).val := by
  refine EvS.call cx F13 (fn := Tryd.f13) rfl ⟨by simp [Tryd.f13], by simp⟩ ?_
  have w0 := W.ge
  have w1 := W.lt
  have s0 : -65536 ≤ sgn (w % 65536) 65536 ∧ sgn (w % 65536) 65536 ≤ 65536 := sgn_range (by omega) (by omega) (by omega)
  have s1 : -16777216 ≤ sgn (w % 16777216) 16777216 ∧ sgn (w % 16777216) 16777216 ≤ 16777216 := sgn_range (by omega) (by omega) (by omega)
  have op_ev : ∀ {H : AHeap} (hL : Lay G H), EvS Tryd.prog (.call 22 #[.int .u32 w] H) (.value (.int .i64 1) H) := fun hL => by rw [← ho]; exact op_ev W hL
  generalize hq0 : sgn (w % 65536) 65536 = q0 at s0
  generalize hq1 : sgn (w % 16777216) 16777216 = q1 at s1
  have lowS16E : ∀ H, EvS Tryd.prog (.call 29 #[.int .u32 w, .int .i64 16] H) (.value (.int .i64 q0) H) := fun H => by rw [← hq0]; exact lowS16E w0 w1 H
  have lowS24E : ∀ H, EvS Tryd.prog (.call 29 #[.int .u32 w, .int .i64 24] H) (.value (.int .i64 q1) H) := fun H => by rw [← hq1]; exact lowS24E w0 w1 H
  repeat (first
    | (refine OT.fetch rfl (fun i_ ho_ => ?_)
       first
        | refine OT.move ho_ rfl rfl rfl ?_
        | refine OT.assign ho_ rfl rfl rfl ?_
        | refine OT.un ho_ rfl rfl ?_
        | refine OT.pickT ho_ rfl rfl rfl rfl ?_
        | refine OT.pickF ho_ rfl rfl rfl rfl ?_
        | refine OT.extract ho_ rfl rfl rfl rfl ?_
        | refine OT.not ho_ rfl rfl rfl ?_
        | refine OT.faddr ho_ rfl rfl (by first | exact us31 | exact us59) (by decide) rfl ?_
        | refine OT.ld ho_ rfl rfl (by first | exact ga3 | exact ga4 | exact ga5 | exact ga9 | exact ga22) rfl rfl (by first | exact trivial | exact .inr (.inl ⟨rfl, fun b hb => by cases hb; decide⟩) | exact Side.pass rfl) rfl ?_
        | refine OT.call1 (op_ev (lay_of (Nat.le_of_ble_eq_true (by rfl)) (by rfl))) ho_ rfl rfl (iF F22) rfl ?_
        | refine OT.call1 (oct1 W _) ho_ rfl rfl (iF F23) rfl ?_
        | refine OT.call1 (oct2 W _) ho_ rfl rfl (iF F23) rfl ?_
        | refine OT.call1 (oct3 W _) ho_ rfl rfl (iF F23) rfl ?_
        | refine OT.call1 (numberU (lowE0 w0 w1) (lay_of (Nat.le_of_ble_eq_true (by rfl)) (by rfl))) ho_ rfl rfl (iF F24) rfl ?_
        | refine OT.cmpT ho_ rfl rfl rfl rfl (by first | (simp only [cmpP]; done) | (simp only [cmpP]; omega)) rfl ?_
        | refine OT.cmpF ho_ rfl rfl rfl rfl (by first | (simp only [cmpP]; done) | (simp only [cmpP]; omega)) rfl ?_
        | refine OT.add ho_ rfl rfl rfl (by first | exact IntWalk.i64_in _ (by omega) | exact IntWalk.u8_in _ (by omega) | exact IntWalk.u32_in _ (by omega) | exact IntWalk.u16_in _ (by omega) | exact IntWalk.i32_in _ (by omega)) rfl ?_
        | refine OT.sub ho_ rfl rfl rfl (by first | exact IntWalk.i64_in _ (by omega) | exact IntWalk.u8_in _ (by omega) | exact IntWalk.u32_in _ (by omega) | exact IntWalk.u16_in _ (by omega) | exact IntWalk.i32_in _ (by omega)) rfl ?_
        | refine OT.mul ho_ rfl rfl rfl (by first | exact IntWalk.i64_in _ (by omega) | exact IntWalk.u8_in _ (by omega) | exact IntWalk.u32_in _ (by omega) | exact IntWalk.u16_in _ (by omega) | exact IntWalk.i32_in _ (by omega)) rfl ?_
        | refine OT.quo ho_ rfl rfl rfl (by omega) (by omega) (by first | exact IntWalk.i64_in _ (by omega) | exact IntWalk.u8_in _ (by omega) | exact IntWalk.u32_in _ (by omega) | exact IntWalk.u16_in _ (by omega) | exact IntWalk.i32_in _ (by omega)) rfl ?_
        | refine OT.rem ho_ rfl rfl rfl (by omega) (by omega) rfl ?_
        | refine OT.box _ ho_ rfl rfl rfl (by decide) (by first | exact trivial | exact .inr (.inl ⟨rfl, fun b hb => by cases hb; decide⟩) | exact Side.pass rfl) rfl ?_
        | refine OT.alloc _ ho_ rfl (by first | exact z31 | exact z59 | exact z61) rfl rfl (by decide) (by first | exact trivial | exact .inr (.inl ⟨rfl, fun b hb => by cases hb; decide⟩) | exact Side.pass rfl) rfl ?_
        | refine OT.ldA ho_ rfl rfl (by first | exact ga31 | exact ga59 | exact ga61 | exact ga24) (by first | exact sz3 | exact sz5 | exact sz22 | exact sz31 | exact sz59 | exact sz61 | exact sz24) rfl (Nat.le_of_ble_eq_true (by rfl)) rfl (by first | exact trivial | exact .inr (.inl ⟨rfl, fun b hb => by cases hb; decide⟩) | exact Side.pass rfl) rfl ?_
        | refine OT.st _ ho_ rfl rfl rfl (by first | exact sz3 | exact sz5 | exact sz22 | exact sz31 | exact sz59 | exact sz61 | exact sz24) rfl (by rfl) rfl (by decide) (Nat.le_of_ble_eq_true (by rfl)) rfl (by decide) rfl (by first | exact trivial | exact .inr (.inl ⟨rfl, fun b hb => by cases hb; decide⟩) | exact Side.pass rfl) ?_
        | refine OT.iaddrA ho_ rfl rfl rfl (by first | exact u60 | exact u61 | exact u24) (by first | exact sz3 | exact sz5 | exact sz22 | exact sz31 | exact sz59 | exact sz61 | exact sz24) (by omega) (by omega) rfl ?_
        | refine OT.buildV ho_ rfl rfl (by first | exact bld31 _ _ _ _ _ | exact bld31b _ _) rfl ?_
        | refine OT.mkF ho_ rfl rfl rfl rfl ?_
        | refine OT.maxQ _ ho_ rfl rfl rfl rfl rfl ?_
        | refine OT.minQ _ ho_ rfl rfl rfl rfl rfl ?_
        | refine OT.convI ho_ rfl rfl (by first | exact u3 | exact u5 | exact u22 | exact u56 | exact u21 | exact u25 | exact u33 | exact u42 | exact u2) (by first | exact u3 | exact u5 | exact u22 | exact u56 | exact u21 | exact u25 | exact u33 | exact u42 | exact u2) (by first | exact IntWalk.i64_in _ (by omega) | exact IntWalk.u8_in _ (by omega) | exact IntWalk.u32_in _ (by omega) | exact IntWalk.u16_in _ (by omega) | exact IntWalk.i32_in _ (by omega)) rfl ?_
       clear ho_ i_)
    | refine OT.nil ?_
    | refine Tr.region cx ?_
    | refine Tr.draw cx [] noEv (Valid.none _) (by decide +kernel) ?_
    | refine Tr.cond_true cx rfl ?_
    | refine Tr.cond_false cx rfl ?_
    | refine Tr.seq cx ?_
    | refine Tr.block cx ?_
    | refine Tr.ret cx ?_
    | refine Tr.skip cx ?_
    | refine Tr.exit cx ?_
    | refine Tr.loopU cx ?_
    | refine Tr.againU ?_)
  exact ⟨_, _, rfl, rfl, by rfl⟩
theorem decode2 {w b0 b1 b2 b3 at_ : Int} (W : Wd w b0 b1 b2 b3) (ha : 0 ≤ at_ ∧ at_ ≤ 65540) (ho : opS b0 b1 b2 b3 = 2) : ∃ v H2, EvS Tryd.prog (.call 13 #[.int .u32 w, .int .i64 at_] H0) (.value v H2) ∧ v = (decO 2 w b1 b2 b3 at_).val := by
  refine EvS.call cx F13 (fn := Tryd.f13) rfl ⟨by simp [Tryd.f13], by simp⟩ ?_
  have w0 := W.ge
  have w1 := W.lt
  have s0 : -65536 ≤ sgn (w % 65536) 65536 ∧ sgn (w % 65536) 65536 ≤ 65536 := sgn_range (by omega) (by omega) (by omega)
  have s1 : -16777216 ≤ sgn (w % 16777216) 16777216 ∧ sgn (w % 16777216) 16777216 ≤ 16777216 := sgn_range (by omega) (by omega) (by omega)
  have op_ev : ∀ {H : AHeap} (hL : Lay G H), EvS Tryd.prog (.call 22 #[.int .u32 w] H) (.value (.int .i64 2) H) := fun hL => by rw [← ho]; exact op_ev W hL
  generalize hq0 : sgn (w % 65536) 65536 = q0 at s0
  generalize hq1 : sgn (w % 16777216) 16777216 = q1 at s1
  have lowS16E : ∀ H, EvS Tryd.prog (.call 29 #[.int .u32 w, .int .i64 16] H) (.value (.int .i64 q0) H) := fun H => by rw [← hq0]; exact lowS16E w0 w1 H
  have lowS24E : ∀ H, EvS Tryd.prog (.call 29 #[.int .u32 w, .int .i64 24] H) (.value (.int .i64 q1) H) := fun H => by rw [← hq1]; exact lowS24E w0 w1 H
  repeat (first
    | (refine OT.fetch rfl (fun i_ ho_ => ?_)
       first
        | refine OT.move ho_ rfl rfl rfl ?_
        | refine OT.assign ho_ rfl rfl rfl ?_
        | refine OT.un ho_ rfl rfl ?_
        | refine OT.pickT ho_ rfl rfl rfl rfl ?_
        | refine OT.pickF ho_ rfl rfl rfl rfl ?_
        | refine OT.extract ho_ rfl rfl rfl rfl ?_
        | refine OT.not ho_ rfl rfl rfl ?_
        | refine OT.faddr ho_ rfl rfl (by first | exact us31 | exact us59) (by decide) rfl ?_
        | refine OT.ld ho_ rfl rfl (by first | exact ga3 | exact ga4 | exact ga5 | exact ga9 | exact ga22) rfl rfl (by first | exact trivial | exact .inr (.inl ⟨rfl, fun b hb => by cases hb; decide⟩) | exact Side.pass rfl) rfl ?_
        | refine OT.call1 (op_ev (lay_of (Nat.le_of_ble_eq_true (by rfl)) (by rfl))) ho_ rfl rfl (iF F22) rfl ?_
        | refine OT.call1 (oct1 W _) ho_ rfl rfl (iF F23) rfl ?_
        | refine OT.call1 (oct2 W _) ho_ rfl rfl (iF F23) rfl ?_
        | refine OT.call1 (oct3 W _) ho_ rfl rfl (iF F23) rfl ?_
        | refine OT.call1 (numberU (lowE16 w0 w1) (lay_of (Nat.le_of_ble_eq_true (by rfl)) (by rfl))) ho_ rfl rfl (iF F24) rfl ?_
        | refine OT.cmpT ho_ rfl rfl rfl rfl (by first | (simp only [cmpP]; done) | (simp only [cmpP]; omega)) rfl ?_
        | refine OT.cmpF ho_ rfl rfl rfl rfl (by first | (simp only [cmpP]; done) | (simp only [cmpP]; omega)) rfl ?_
        | refine OT.add ho_ rfl rfl rfl (by first | exact IntWalk.i64_in _ (by omega) | exact IntWalk.u8_in _ (by omega) | exact IntWalk.u32_in _ (by omega) | exact IntWalk.u16_in _ (by omega) | exact IntWalk.i32_in _ (by omega)) rfl ?_
        | refine OT.sub ho_ rfl rfl rfl (by first | exact IntWalk.i64_in _ (by omega) | exact IntWalk.u8_in _ (by omega) | exact IntWalk.u32_in _ (by omega) | exact IntWalk.u16_in _ (by omega) | exact IntWalk.i32_in _ (by omega)) rfl ?_
        | refine OT.mul ho_ rfl rfl rfl (by first | exact IntWalk.i64_in _ (by omega) | exact IntWalk.u8_in _ (by omega) | exact IntWalk.u32_in _ (by omega) | exact IntWalk.u16_in _ (by omega) | exact IntWalk.i32_in _ (by omega)) rfl ?_
        | refine OT.quo ho_ rfl rfl rfl (by omega) (by omega) (by first | exact IntWalk.i64_in _ (by omega) | exact IntWalk.u8_in _ (by omega) | exact IntWalk.u32_in _ (by omega) | exact IntWalk.u16_in _ (by omega) | exact IntWalk.i32_in _ (by omega)) rfl ?_
        | refine OT.rem ho_ rfl rfl rfl (by omega) (by omega) rfl ?_
        | refine OT.box _ ho_ rfl rfl rfl (by decide) (by first | exact trivial | exact .inr (.inl ⟨rfl, fun b hb => by cases hb; decide⟩) | exact Side.pass rfl) rfl ?_
        | refine OT.alloc _ ho_ rfl (by first | exact z31 | exact z59 | exact z61) rfl rfl (by decide) (by first | exact trivial | exact .inr (.inl ⟨rfl, fun b hb => by cases hb; decide⟩) | exact Side.pass rfl) rfl ?_
        | refine OT.ldA ho_ rfl rfl (by first | exact ga31 | exact ga59 | exact ga61 | exact ga24) (by first | exact sz3 | exact sz5 | exact sz22 | exact sz31 | exact sz59 | exact sz61 | exact sz24) rfl (Nat.le_of_ble_eq_true (by rfl)) rfl (by first | exact trivial | exact .inr (.inl ⟨rfl, fun b hb => by cases hb; decide⟩) | exact Side.pass rfl) rfl ?_
        | refine OT.st _ ho_ rfl rfl rfl (by first | exact sz3 | exact sz5 | exact sz22 | exact sz31 | exact sz59 | exact sz61 | exact sz24) rfl (by rfl) rfl (by decide) (Nat.le_of_ble_eq_true (by rfl)) rfl (by decide) rfl (by first | exact trivial | exact .inr (.inl ⟨rfl, fun b hb => by cases hb; decide⟩) | exact Side.pass rfl) ?_
        | refine OT.iaddrA ho_ rfl rfl rfl (by first | exact u60 | exact u61 | exact u24) (by first | exact sz3 | exact sz5 | exact sz22 | exact sz31 | exact sz59 | exact sz61 | exact sz24) (by omega) (by omega) rfl ?_
        | refine OT.buildV ho_ rfl rfl (by first | exact bld31 _ _ _ _ _ | exact bld31b _ _) rfl ?_
        | refine OT.mkF ho_ rfl rfl rfl rfl ?_
        | refine OT.maxQ _ ho_ rfl rfl rfl rfl rfl ?_
        | refine OT.minQ _ ho_ rfl rfl rfl rfl rfl ?_
        | refine OT.convI ho_ rfl rfl (by first | exact u3 | exact u5 | exact u22 | exact u56 | exact u21 | exact u25 | exact u33 | exact u42 | exact u2) (by first | exact u3 | exact u5 | exact u22 | exact u56 | exact u21 | exact u25 | exact u33 | exact u42 | exact u2) (by first | exact IntWalk.i64_in _ (by omega) | exact IntWalk.u8_in _ (by omega) | exact IntWalk.u32_in _ (by omega) | exact IntWalk.u16_in _ (by omega) | exact IntWalk.i32_in _ (by omega)) rfl ?_
       clear ho_ i_)
    | refine OT.nil ?_
    | refine Tr.region cx ?_
    | refine Tr.draw cx [] noEv (Valid.none _) (by decide +kernel) ?_
    | refine Tr.cond_true cx rfl ?_
    | refine Tr.cond_false cx rfl ?_
    | refine Tr.seq cx ?_
    | refine Tr.block cx ?_
    | refine Tr.ret cx ?_
    | refine Tr.skip cx ?_
    | refine Tr.exit cx ?_
    | refine Tr.loopU cx ?_
    | refine Tr.againU ?_)
  exact ⟨_, _, rfl, rfl, by rfl⟩
theorem decode3 {w b0 b1 b2 b3 at_ : Int} (W : Wd w b0 b1 b2 b3) (ha : 0 ≤ at_ ∧ at_ ≤ 65540) (ho : opS b0 b1 b2 b3 = 3) : ∃ v H2, EvS Tryd.prog (.call 13 #[.int .u32 w, .int .i64 at_] H0) (.value v H2) ∧ v = (decO 3 w b1 b2 b3 at_).val := by
  refine EvS.call cx F13 (fn := Tryd.f13) rfl ⟨by simp [Tryd.f13], by simp⟩ ?_
  have w0 := W.ge
  have w1 := W.lt
  have s0 : -65536 ≤ sgn (w % 65536) 65536 ∧ sgn (w % 65536) 65536 ≤ 65536 := sgn_range (by omega) (by omega) (by omega)
  have s1 : -16777216 ≤ sgn (w % 16777216) 16777216 ∧ sgn (w % 16777216) 16777216 ≤ 16777216 := sgn_range (by omega) (by omega) (by omega)
  have op_ev : ∀ {H : AHeap} (hL : Lay G H), EvS Tryd.prog (.call 22 #[.int .u32 w] H) (.value (.int .i64 3) H) := fun hL => by rw [← ho]; exact op_ev W hL
  generalize hq0 : sgn (w % 65536) 65536 = q0 at s0
  generalize hq1 : sgn (w % 16777216) 16777216 = q1 at s1
  have lowS16E : ∀ H, EvS Tryd.prog (.call 29 #[.int .u32 w, .int .i64 16] H) (.value (.int .i64 q0) H) := fun H => by rw [← hq0]; exact lowS16E w0 w1 H
  have lowS24E : ∀ H, EvS Tryd.prog (.call 29 #[.int .u32 w, .int .i64 24] H) (.value (.int .i64 q1) H) := fun H => by rw [← hq1]; exact lowS24E w0 w1 H
  repeat (first
    | (refine OT.fetch rfl (fun i_ ho_ => ?_)
       first
        | refine OT.move ho_ rfl rfl rfl ?_
        | refine OT.assign ho_ rfl rfl rfl ?_
        | refine OT.un ho_ rfl rfl ?_
        | refine OT.pickT ho_ rfl rfl rfl rfl ?_
        | refine OT.pickF ho_ rfl rfl rfl rfl ?_
        | refine OT.extract ho_ rfl rfl rfl rfl ?_
        | refine OT.not ho_ rfl rfl rfl ?_
        | refine OT.faddr ho_ rfl rfl (by first | exact us31 | exact us59) (by decide) rfl ?_
        | refine OT.ld ho_ rfl rfl (by first | exact ga3 | exact ga4 | exact ga5 | exact ga9 | exact ga22) rfl rfl (by first | exact trivial | exact .inr (.inl ⟨rfl, fun b hb => by cases hb; decide⟩) | exact Side.pass rfl) rfl ?_
        | refine OT.call1 (op_ev (lay_of (Nat.le_of_ble_eq_true (by rfl)) (by rfl))) ho_ rfl rfl (iF F22) rfl ?_
        | refine OT.call1 (oct1 W _) ho_ rfl rfl (iF F23) rfl ?_
        | refine OT.call1 (oct2 W _) ho_ rfl rfl (iF F23) rfl ?_
        | refine OT.call1 (oct3 W _) ho_ rfl rfl (iF F23) rfl ?_
        | refine OT.call1 (numberU (lowE0 w0 w1) (lay_of (Nat.le_of_ble_eq_true (by rfl)) (by rfl))) ho_ rfl rfl (iF F24) rfl ?_
        | refine OT.cmpT ho_ rfl rfl rfl rfl (by first | (simp only [cmpP]; done) | (simp only [cmpP]; omega)) rfl ?_
        | refine OT.cmpF ho_ rfl rfl rfl rfl (by first | (simp only [cmpP]; done) | (simp only [cmpP]; omega)) rfl ?_
        | refine OT.add ho_ rfl rfl rfl (by first | exact IntWalk.i64_in _ (by omega) | exact IntWalk.u8_in _ (by omega) | exact IntWalk.u32_in _ (by omega) | exact IntWalk.u16_in _ (by omega) | exact IntWalk.i32_in _ (by omega)) rfl ?_
        | refine OT.sub ho_ rfl rfl rfl (by first | exact IntWalk.i64_in _ (by omega) | exact IntWalk.u8_in _ (by omega) | exact IntWalk.u32_in _ (by omega) | exact IntWalk.u16_in _ (by omega) | exact IntWalk.i32_in _ (by omega)) rfl ?_
        | refine OT.mul ho_ rfl rfl rfl (by first | exact IntWalk.i64_in _ (by omega) | exact IntWalk.u8_in _ (by omega) | exact IntWalk.u32_in _ (by omega) | exact IntWalk.u16_in _ (by omega) | exact IntWalk.i32_in _ (by omega)) rfl ?_
        | refine OT.quo ho_ rfl rfl rfl (by omega) (by omega) (by first | exact IntWalk.i64_in _ (by omega) | exact IntWalk.u8_in _ (by omega) | exact IntWalk.u32_in _ (by omega) | exact IntWalk.u16_in _ (by omega) | exact IntWalk.i32_in _ (by omega)) rfl ?_
        | refine OT.rem ho_ rfl rfl rfl (by omega) (by omega) rfl ?_
        | refine OT.box _ ho_ rfl rfl rfl (by decide) (by first | exact trivial | exact .inr (.inl ⟨rfl, fun b hb => by cases hb; decide⟩) | exact Side.pass rfl) rfl ?_
        | refine OT.alloc _ ho_ rfl (by first | exact z31 | exact z59 | exact z61) rfl rfl (by decide) (by first | exact trivial | exact .inr (.inl ⟨rfl, fun b hb => by cases hb; decide⟩) | exact Side.pass rfl) rfl ?_
        | refine OT.ldA ho_ rfl rfl (by first | exact ga31 | exact ga59 | exact ga61 | exact ga24) (by first | exact sz3 | exact sz5 | exact sz22 | exact sz31 | exact sz59 | exact sz61 | exact sz24) rfl (Nat.le_of_ble_eq_true (by rfl)) rfl (by first | exact trivial | exact .inr (.inl ⟨rfl, fun b hb => by cases hb; decide⟩) | exact Side.pass rfl) rfl ?_
        | refine OT.st _ ho_ rfl rfl rfl (by first | exact sz3 | exact sz5 | exact sz22 | exact sz31 | exact sz59 | exact sz61 | exact sz24) rfl (by rfl) rfl (by decide) (Nat.le_of_ble_eq_true (by rfl)) rfl (by decide) rfl (by first | exact trivial | exact .inr (.inl ⟨rfl, fun b hb => by cases hb; decide⟩) | exact Side.pass rfl) ?_
        | refine OT.iaddrA ho_ rfl rfl rfl (by first | exact u60 | exact u61 | exact u24) (by first | exact sz3 | exact sz5 | exact sz22 | exact sz31 | exact sz59 | exact sz61 | exact sz24) (by omega) (by omega) rfl ?_
        | refine OT.buildV ho_ rfl rfl (by first | exact bld31 _ _ _ _ _ | exact bld31b _ _) rfl ?_
        | refine OT.mkF ho_ rfl rfl rfl rfl ?_
        | refine OT.maxQ _ ho_ rfl rfl rfl rfl rfl ?_
        | refine OT.minQ _ ho_ rfl rfl rfl rfl rfl ?_
        | refine OT.convI ho_ rfl rfl (by first | exact u3 | exact u5 | exact u22 | exact u56 | exact u21 | exact u25 | exact u33 | exact u42 | exact u2) (by first | exact u3 | exact u5 | exact u22 | exact u56 | exact u21 | exact u25 | exact u33 | exact u42 | exact u2) (by first | exact IntWalk.i64_in _ (by omega) | exact IntWalk.u8_in _ (by omega) | exact IntWalk.u32_in _ (by omega) | exact IntWalk.u16_in _ (by omega) | exact IntWalk.i32_in _ (by omega)) rfl ?_
       clear ho_ i_)
    | refine OT.nil ?_
    | refine Tr.region cx ?_
    | refine Tr.draw cx [] noEv (Valid.none _) (by decide +kernel) ?_
    | refine Tr.cond_true cx rfl ?_
    | refine Tr.cond_false cx rfl ?_
    | refine Tr.seq cx ?_
    | refine Tr.block cx ?_
    | refine Tr.ret cx ?_
    | refine Tr.skip cx ?_
    | refine Tr.exit cx ?_
    | refine Tr.loopU cx ?_
    | refine Tr.againU ?_)
  exact ⟨_, _, rfl, rfl, by rfl⟩
theorem decode4 {w b0 b1 b2 b3 at_ : Int} (W : Wd w b0 b1 b2 b3) (ha : 0 ≤ at_ ∧ at_ ≤ 65540) (ho : opS b0 b1 b2 b3 = 4) : ∃ v H2, EvS Tryd.prog (.call 13 #[.int .u32 w, .int .i64 at_] H0) (.value v H2) ∧ v = (decO 4 w b1 b2 b3 at_).val := by
  refine EvS.call cx F13 (fn := Tryd.f13) rfl ⟨by simp [Tryd.f13], by simp⟩ ?_
  have w0 := W.ge
  have w1 := W.lt
  have s0 : -65536 ≤ sgn (w % 65536) 65536 ∧ sgn (w % 65536) 65536 ≤ 65536 := sgn_range (by omega) (by omega) (by omega)
  have s1 : -16777216 ≤ sgn (w % 16777216) 16777216 ∧ sgn (w % 16777216) 16777216 ≤ 16777216 := sgn_range (by omega) (by omega) (by omega)
  have op_ev : ∀ {H : AHeap} (hL : Lay G H), EvS Tryd.prog (.call 22 #[.int .u32 w] H) (.value (.int .i64 4) H) := fun hL => by rw [← ho]; exact op_ev W hL
  generalize hq0 : sgn (w % 65536) 65536 = q0 at s0
  generalize hq1 : sgn (w % 16777216) 16777216 = q1 at s1
  have lowS16E : ∀ H, EvS Tryd.prog (.call 29 #[.int .u32 w, .int .i64 16] H) (.value (.int .i64 q0) H) := fun H => by rw [← hq0]; exact lowS16E w0 w1 H
  have lowS24E : ∀ H, EvS Tryd.prog (.call 29 #[.int .u32 w, .int .i64 24] H) (.value (.int .i64 q1) H) := fun H => by rw [← hq1]; exact lowS24E w0 w1 H
  repeat (first
    | (refine OT.fetch rfl (fun i_ ho_ => ?_)
       first
        | refine OT.move ho_ rfl rfl rfl ?_
        | refine OT.assign ho_ rfl rfl rfl ?_
        | refine OT.un ho_ rfl rfl ?_
        | refine OT.pickT ho_ rfl rfl rfl rfl ?_
        | refine OT.pickF ho_ rfl rfl rfl rfl ?_
        | refine OT.extract ho_ rfl rfl rfl rfl ?_
        | refine OT.not ho_ rfl rfl rfl ?_
        | refine OT.faddr ho_ rfl rfl (by first | exact us31 | exact us59) (by decide) rfl ?_
        | refine OT.ld ho_ rfl rfl (by first | exact ga3 | exact ga4 | exact ga5 | exact ga9 | exact ga22) rfl rfl (by first | exact trivial | exact .inr (.inl ⟨rfl, fun b hb => by cases hb; decide⟩) | exact Side.pass rfl) rfl ?_
        | refine OT.call1 (op_ev (lay_of (Nat.le_of_ble_eq_true (by rfl)) (by rfl))) ho_ rfl rfl (iF F22) rfl ?_
        | refine OT.call1 (oct1 W _) ho_ rfl rfl (iF F23) rfl ?_
        | refine OT.call1 (oct2 W _) ho_ rfl rfl (iF F23) rfl ?_
        | refine OT.call1 (oct3 W _) ho_ rfl rfl (iF F23) rfl ?_
        | refine OT.call1 (numberU (lowE0 w0 w1) (lay_of (Nat.le_of_ble_eq_true (by rfl)) (by rfl))) ho_ rfl rfl (iF F24) rfl ?_
        | refine OT.cmpT ho_ rfl rfl rfl rfl (by first | (simp only [cmpP]; done) | (simp only [cmpP]; omega)) rfl ?_
        | refine OT.cmpF ho_ rfl rfl rfl rfl (by first | (simp only [cmpP]; done) | (simp only [cmpP]; omega)) rfl ?_
        | refine OT.add ho_ rfl rfl rfl (by first | exact IntWalk.i64_in _ (by omega) | exact IntWalk.u8_in _ (by omega) | exact IntWalk.u32_in _ (by omega) | exact IntWalk.u16_in _ (by omega) | exact IntWalk.i32_in _ (by omega)) rfl ?_
        | refine OT.sub ho_ rfl rfl rfl (by first | exact IntWalk.i64_in _ (by omega) | exact IntWalk.u8_in _ (by omega) | exact IntWalk.u32_in _ (by omega) | exact IntWalk.u16_in _ (by omega) | exact IntWalk.i32_in _ (by omega)) rfl ?_
        | refine OT.mul ho_ rfl rfl rfl (by first | exact IntWalk.i64_in _ (by omega) | exact IntWalk.u8_in _ (by omega) | exact IntWalk.u32_in _ (by omega) | exact IntWalk.u16_in _ (by omega) | exact IntWalk.i32_in _ (by omega)) rfl ?_
        | refine OT.quo ho_ rfl rfl rfl (by omega) (by omega) (by first | exact IntWalk.i64_in _ (by omega) | exact IntWalk.u8_in _ (by omega) | exact IntWalk.u32_in _ (by omega) | exact IntWalk.u16_in _ (by omega) | exact IntWalk.i32_in _ (by omega)) rfl ?_
        | refine OT.rem ho_ rfl rfl rfl (by omega) (by omega) rfl ?_
        | refine OT.box _ ho_ rfl rfl rfl (by decide) (by first | exact trivial | exact .inr (.inl ⟨rfl, fun b hb => by cases hb; decide⟩) | exact Side.pass rfl) rfl ?_
        | refine OT.alloc _ ho_ rfl (by first | exact z31 | exact z59 | exact z61) rfl rfl (by decide) (by first | exact trivial | exact .inr (.inl ⟨rfl, fun b hb => by cases hb; decide⟩) | exact Side.pass rfl) rfl ?_
        | refine OT.ldA ho_ rfl rfl (by first | exact ga31 | exact ga59 | exact ga61 | exact ga24) (by first | exact sz3 | exact sz5 | exact sz22 | exact sz31 | exact sz59 | exact sz61 | exact sz24) rfl (Nat.le_of_ble_eq_true (by rfl)) rfl (by first | exact trivial | exact .inr (.inl ⟨rfl, fun b hb => by cases hb; decide⟩) | exact Side.pass rfl) rfl ?_
        | refine OT.st _ ho_ rfl rfl rfl (by first | exact sz3 | exact sz5 | exact sz22 | exact sz31 | exact sz59 | exact sz61 | exact sz24) rfl (by rfl) rfl (by decide) (Nat.le_of_ble_eq_true (by rfl)) rfl (by decide) rfl (by first | exact trivial | exact .inr (.inl ⟨rfl, fun b hb => by cases hb; decide⟩) | exact Side.pass rfl) ?_
        | refine OT.iaddrA ho_ rfl rfl rfl (by first | exact u60 | exact u61 | exact u24) (by first | exact sz3 | exact sz5 | exact sz22 | exact sz31 | exact sz59 | exact sz61 | exact sz24) (by omega) (by omega) rfl ?_
        | refine OT.buildV ho_ rfl rfl (by first | exact bld31 _ _ _ _ _ | exact bld31b _ _) rfl ?_
        | refine OT.mkF ho_ rfl rfl rfl rfl ?_
        | refine OT.maxQ _ ho_ rfl rfl rfl rfl rfl ?_
        | refine OT.minQ _ ho_ rfl rfl rfl rfl rfl ?_
        | refine OT.convI ho_ rfl rfl (by first | exact u3 | exact u5 | exact u22 | exact u56 | exact u21 | exact u25 | exact u33 | exact u42 | exact u2) (by first | exact u3 | exact u5 | exact u22 | exact u56 | exact u21 | exact u25 | exact u33 | exact u42 | exact u2) (by first | exact IntWalk.i64_in _ (by omega) | exact IntWalk.u8_in _ (by omega) | exact IntWalk.u32_in _ (by omega) | exact IntWalk.u16_in _ (by omega) | exact IntWalk.i32_in _ (by omega)) rfl ?_
       clear ho_ i_)
    | refine OT.nil ?_
    | refine Tr.region cx ?_
    | refine Tr.draw cx [] noEv (Valid.none _) (by decide +kernel) ?_
    | refine Tr.cond_true cx rfl ?_
    | refine Tr.cond_false cx rfl ?_
    | refine Tr.seq cx ?_
    | refine Tr.block cx ?_
    | refine Tr.ret cx ?_
    | refine Tr.skip cx ?_
    | refine Tr.exit cx ?_
    | refine Tr.loopU cx ?_
    | refine Tr.againU ?_)
  exact ⟨_, _, rfl, rfl, by rfl⟩
theorem decode5 {w b0 b1 b2 b3 at_ : Int} (W : Wd w b0 b1 b2 b3) (ha : 0 ≤ at_ ∧ at_ ≤ 65540) (ho : opS b0 b1 b2 b3 = 5) : ∃ v H2, EvS Tryd.prog (.call 13 #[.int .u32 w, .int .i64 at_] H0) (.value v H2) ∧ v = (decO 5 w b1 b2 b3 at_).val := by
  refine EvS.call cx F13 (fn := Tryd.f13) rfl ⟨by simp [Tryd.f13], by simp⟩ ?_
  have w0 := W.ge
  have w1 := W.lt
  have s0 : -65536 ≤ sgn (w % 65536) 65536 ∧ sgn (w % 65536) 65536 ≤ 65536 := sgn_range (by omega) (by omega) (by omega)
  have s1 : -16777216 ≤ sgn (w % 16777216) 16777216 ∧ sgn (w % 16777216) 16777216 ≤ 16777216 := sgn_range (by omega) (by omega) (by omega)
  have op_ev : ∀ {H : AHeap} (hL : Lay G H), EvS Tryd.prog (.call 22 #[.int .u32 w] H) (.value (.int .i64 5) H) := fun hL => by rw [← ho]; exact op_ev W hL
  generalize hq0 : sgn (w % 65536) 65536 = q0 at s0
  generalize hq1 : sgn (w % 16777216) 16777216 = q1 at s1
  have lowS16E : ∀ H, EvS Tryd.prog (.call 29 #[.int .u32 w, .int .i64 16] H) (.value (.int .i64 q0) H) := fun H => by rw [← hq0]; exact lowS16E w0 w1 H
  have lowS24E : ∀ H, EvS Tryd.prog (.call 29 #[.int .u32 w, .int .i64 24] H) (.value (.int .i64 q1) H) := fun H => by rw [← hq1]; exact lowS24E w0 w1 H
  repeat (first
    | (refine OT.fetch rfl (fun i_ ho_ => ?_)
       first
        | refine OT.move ho_ rfl rfl rfl ?_
        | refine OT.assign ho_ rfl rfl rfl ?_
        | refine OT.un ho_ rfl rfl ?_
        | refine OT.pickT ho_ rfl rfl rfl rfl ?_
        | refine OT.pickF ho_ rfl rfl rfl rfl ?_
        | refine OT.extract ho_ rfl rfl rfl rfl ?_
        | refine OT.not ho_ rfl rfl rfl ?_
        | refine OT.faddr ho_ rfl rfl (by first | exact us31 | exact us59) (by decide) rfl ?_
        | refine OT.ld ho_ rfl rfl (by first | exact ga3 | exact ga4 | exact ga5 | exact ga9 | exact ga22) rfl rfl (by first | exact trivial | exact .inr (.inl ⟨rfl, fun b hb => by cases hb; decide⟩) | exact Side.pass rfl) rfl ?_
        | refine OT.call1 (op_ev (lay_of (Nat.le_of_ble_eq_true (by rfl)) (by rfl))) ho_ rfl rfl (iF F22) rfl ?_
        | refine OT.call1 (oct1 W _) ho_ rfl rfl (iF F23) rfl ?_
        | refine OT.call1 (oct2 W _) ho_ rfl rfl (iF F23) rfl ?_
        | refine OT.call1 (oct3 W _) ho_ rfl rfl (iF F23) rfl ?_
        | refine OT.call1 (numberS (lowS24E) (lay_of (Nat.le_of_ble_eq_true (by rfl)) (by rfl))) ho_ rfl rfl (iF F24) rfl ?_
        | refine OT.cmpT ho_ rfl rfl rfl rfl (by first | (simp only [cmpP]; done) | (simp only [cmpP]; omega)) rfl ?_
        | refine OT.cmpF ho_ rfl rfl rfl rfl (by first | (simp only [cmpP]; done) | (simp only [cmpP]; omega)) rfl ?_
        | refine OT.add ho_ rfl rfl rfl (by first | exact IntWalk.i64_in _ (by omega) | exact IntWalk.u8_in _ (by omega) | exact IntWalk.u32_in _ (by omega) | exact IntWalk.u16_in _ (by omega) | exact IntWalk.i32_in _ (by omega)) rfl ?_
        | refine OT.sub ho_ rfl rfl rfl (by first | exact IntWalk.i64_in _ (by omega) | exact IntWalk.u8_in _ (by omega) | exact IntWalk.u32_in _ (by omega) | exact IntWalk.u16_in _ (by omega) | exact IntWalk.i32_in _ (by omega)) rfl ?_
        | refine OT.mul ho_ rfl rfl rfl (by first | exact IntWalk.i64_in _ (by omega) | exact IntWalk.u8_in _ (by omega) | exact IntWalk.u32_in _ (by omega) | exact IntWalk.u16_in _ (by omega) | exact IntWalk.i32_in _ (by omega)) rfl ?_
        | refine OT.quo ho_ rfl rfl rfl (by omega) (by omega) (by first | exact IntWalk.i64_in _ (by omega) | exact IntWalk.u8_in _ (by omega) | exact IntWalk.u32_in _ (by omega) | exact IntWalk.u16_in _ (by omega) | exact IntWalk.i32_in _ (by omega)) rfl ?_
        | refine OT.rem ho_ rfl rfl rfl (by omega) (by omega) rfl ?_
        | refine OT.box _ ho_ rfl rfl rfl (by decide) (by first | exact trivial | exact .inr (.inl ⟨rfl, fun b hb => by cases hb; decide⟩) | exact Side.pass rfl) rfl ?_
        | refine OT.alloc _ ho_ rfl (by first | exact z31 | exact z59 | exact z61) rfl rfl (by decide) (by first | exact trivial | exact .inr (.inl ⟨rfl, fun b hb => by cases hb; decide⟩) | exact Side.pass rfl) rfl ?_
        | refine OT.ldA ho_ rfl rfl (by first | exact ga31 | exact ga59 | exact ga61 | exact ga24) (by first | exact sz3 | exact sz5 | exact sz22 | exact sz31 | exact sz59 | exact sz61 | exact sz24) rfl (Nat.le_of_ble_eq_true (by rfl)) rfl (by first | exact trivial | exact .inr (.inl ⟨rfl, fun b hb => by cases hb; decide⟩) | exact Side.pass rfl) rfl ?_
        | refine OT.st _ ho_ rfl rfl rfl (by first | exact sz3 | exact sz5 | exact sz22 | exact sz31 | exact sz59 | exact sz61 | exact sz24) rfl (by rfl) rfl (by decide) (Nat.le_of_ble_eq_true (by rfl)) rfl (by decide) rfl (by first | exact trivial | exact .inr (.inl ⟨rfl, fun b hb => by cases hb; decide⟩) | exact Side.pass rfl) ?_
        | refine OT.iaddrA ho_ rfl rfl rfl (by first | exact u60 | exact u61 | exact u24) (by first | exact sz3 | exact sz5 | exact sz22 | exact sz31 | exact sz59 | exact sz61 | exact sz24) (by omega) (by omega) rfl ?_
        | refine OT.buildV ho_ rfl rfl (by first | exact bld31 _ _ _ _ _ | exact bld31b _ _) rfl ?_
        | refine OT.mkF ho_ rfl rfl rfl rfl ?_
        | refine OT.maxQ _ ho_ rfl rfl rfl rfl rfl ?_
        | refine OT.minQ _ ho_ rfl rfl rfl rfl rfl ?_
        | refine OT.convI ho_ rfl rfl (by first | exact u3 | exact u5 | exact u22 | exact u56 | exact u21 | exact u25 | exact u33 | exact u42 | exact u2) (by first | exact u3 | exact u5 | exact u22 | exact u56 | exact u21 | exact u25 | exact u33 | exact u42 | exact u2) (by first | exact IntWalk.i64_in _ (by omega) | exact IntWalk.u8_in _ (by omega) | exact IntWalk.u32_in _ (by omega) | exact IntWalk.u16_in _ (by omega) | exact IntWalk.i32_in _ (by omega)) rfl ?_
       clear ho_ i_)
    | refine OT.nil ?_
    | refine Tr.region cx ?_
    | refine Tr.draw cx [] noEv (Valid.none _) (by decide +kernel) ?_
    | refine Tr.cond_true cx rfl ?_
    | refine Tr.cond_false cx rfl ?_
    | refine Tr.seq cx ?_
    | refine Tr.block cx ?_
    | refine Tr.ret cx ?_
    | refine Tr.skip cx ?_
    | refine Tr.exit cx ?_
    | refine Tr.loopU cx ?_
    | refine Tr.againU ?_)
  exact ⟨_, _, rfl, rfl, by subst hq0 hq1; rfl⟩
theorem decode6 {w b0 b1 b2 b3 at_ : Int} (W : Wd w b0 b1 b2 b3) (ha : 0 ≤ at_ ∧ at_ ≤ 65540) (ho : opS b0 b1 b2 b3 = 6) : ∃ v H2, EvS Tryd.prog (.call 13 #[.int .u32 w, .int .i64 at_] H0) (.value v H2) ∧ v = (decO 6 w b1 b2 b3 at_).val := by
  refine EvS.call cx F13 (fn := Tryd.f13) rfl ⟨by simp [Tryd.f13], by simp⟩ ?_
  have w0 := W.ge
  have w1 := W.lt
  have s0 : -65536 ≤ sgn (w % 65536) 65536 ∧ sgn (w % 65536) 65536 ≤ 65536 := sgn_range (by omega) (by omega) (by omega)
  have s1 : -16777216 ≤ sgn (w % 16777216) 16777216 ∧ sgn (w % 16777216) 16777216 ≤ 16777216 := sgn_range (by omega) (by omega) (by omega)
  have op_ev : ∀ {H : AHeap} (hL : Lay G H), EvS Tryd.prog (.call 22 #[.int .u32 w] H) (.value (.int .i64 6) H) := fun hL => by rw [← ho]; exact op_ev W hL
  generalize hq0 : sgn (w % 65536) 65536 = q0 at s0
  generalize hq1 : sgn (w % 16777216) 16777216 = q1 at s1
  have lowS16E : ∀ H, EvS Tryd.prog (.call 29 #[.int .u32 w, .int .i64 16] H) (.value (.int .i64 q0) H) := fun H => by rw [← hq0]; exact lowS16E w0 w1 H
  have lowS24E : ∀ H, EvS Tryd.prog (.call 29 #[.int .u32 w, .int .i64 24] H) (.value (.int .i64 q1) H) := fun H => by rw [← hq1]; exact lowS24E w0 w1 H
  repeat (first
    | (refine OT.fetch rfl (fun i_ ho_ => ?_)
       first
        | refine OT.move ho_ rfl rfl rfl ?_
        | refine OT.assign ho_ rfl rfl rfl ?_
        | refine OT.un ho_ rfl rfl ?_
        | refine OT.pickT ho_ rfl rfl rfl rfl ?_
        | refine OT.pickF ho_ rfl rfl rfl rfl ?_
        | refine OT.extract ho_ rfl rfl rfl rfl ?_
        | refine OT.not ho_ rfl rfl rfl ?_
        | refine OT.faddr ho_ rfl rfl (by first | exact us31 | exact us59) (by decide) rfl ?_
        | refine OT.ld ho_ rfl rfl (by first | exact ga3 | exact ga4 | exact ga5 | exact ga9 | exact ga22) rfl rfl (by first | exact trivial | exact .inr (.inl ⟨rfl, fun b hb => by cases hb; decide⟩) | exact Side.pass rfl) rfl ?_
        | refine OT.call1 (op_ev (lay_of (Nat.le_of_ble_eq_true (by rfl)) (by rfl))) ho_ rfl rfl (iF F22) rfl ?_
        | refine OT.call1 (oct1 W _) ho_ rfl rfl (iF F23) rfl ?_
        | refine OT.call1 (oct2 W _) ho_ rfl rfl (iF F23) rfl ?_
        | refine OT.call1 (oct3 W _) ho_ rfl rfl (iF F23) rfl ?_
        | refine OT.call1 (numberS (lowS24E) (lay_of (Nat.le_of_ble_eq_true (by rfl)) (by rfl))) ho_ rfl rfl (iF F24) rfl ?_
        | refine OT.cmpT ho_ rfl rfl rfl rfl (by first | (simp only [cmpP]; done) | (simp only [cmpP]; omega)) rfl ?_
        | refine OT.cmpF ho_ rfl rfl rfl rfl (by first | (simp only [cmpP]; done) | (simp only [cmpP]; omega)) rfl ?_
        | refine OT.add ho_ rfl rfl rfl (by first | exact IntWalk.i64_in _ (by omega) | exact IntWalk.u8_in _ (by omega) | exact IntWalk.u32_in _ (by omega) | exact IntWalk.u16_in _ (by omega) | exact IntWalk.i32_in _ (by omega)) rfl ?_
        | refine OT.sub ho_ rfl rfl rfl (by first | exact IntWalk.i64_in _ (by omega) | exact IntWalk.u8_in _ (by omega) | exact IntWalk.u32_in _ (by omega) | exact IntWalk.u16_in _ (by omega) | exact IntWalk.i32_in _ (by omega)) rfl ?_
        | refine OT.mul ho_ rfl rfl rfl (by first | exact IntWalk.i64_in _ (by omega) | exact IntWalk.u8_in _ (by omega) | exact IntWalk.u32_in _ (by omega) | exact IntWalk.u16_in _ (by omega) | exact IntWalk.i32_in _ (by omega)) rfl ?_
        | refine OT.quo ho_ rfl rfl rfl (by omega) (by omega) (by first | exact IntWalk.i64_in _ (by omega) | exact IntWalk.u8_in _ (by omega) | exact IntWalk.u32_in _ (by omega) | exact IntWalk.u16_in _ (by omega) | exact IntWalk.i32_in _ (by omega)) rfl ?_
        | refine OT.rem ho_ rfl rfl rfl (by omega) (by omega) rfl ?_
        | refine OT.box _ ho_ rfl rfl rfl (by decide) (by first | exact trivial | exact .inr (.inl ⟨rfl, fun b hb => by cases hb; decide⟩) | exact Side.pass rfl) rfl ?_
        | refine OT.alloc _ ho_ rfl (by first | exact z31 | exact z59 | exact z61) rfl rfl (by decide) (by first | exact trivial | exact .inr (.inl ⟨rfl, fun b hb => by cases hb; decide⟩) | exact Side.pass rfl) rfl ?_
        | refine OT.ldA ho_ rfl rfl (by first | exact ga31 | exact ga59 | exact ga61 | exact ga24) (by first | exact sz3 | exact sz5 | exact sz22 | exact sz31 | exact sz59 | exact sz61 | exact sz24) rfl (Nat.le_of_ble_eq_true (by rfl)) rfl (by first | exact trivial | exact .inr (.inl ⟨rfl, fun b hb => by cases hb; decide⟩) | exact Side.pass rfl) rfl ?_
        | refine OT.st _ ho_ rfl rfl rfl (by first | exact sz3 | exact sz5 | exact sz22 | exact sz31 | exact sz59 | exact sz61 | exact sz24) rfl (by rfl) rfl (by decide) (Nat.le_of_ble_eq_true (by rfl)) rfl (by decide) rfl (by first | exact trivial | exact .inr (.inl ⟨rfl, fun b hb => by cases hb; decide⟩) | exact Side.pass rfl) ?_
        | refine OT.iaddrA ho_ rfl rfl rfl (by first | exact u60 | exact u61 | exact u24) (by first | exact sz3 | exact sz5 | exact sz22 | exact sz31 | exact sz59 | exact sz61 | exact sz24) (by omega) (by omega) rfl ?_
        | refine OT.buildV ho_ rfl rfl (by first | exact bld31 _ _ _ _ _ | exact bld31b _ _) rfl ?_
        | refine OT.mkF ho_ rfl rfl rfl rfl ?_
        | refine OT.maxQ _ ho_ rfl rfl rfl rfl rfl ?_
        | refine OT.minQ _ ho_ rfl rfl rfl rfl rfl ?_
        | refine OT.convI ho_ rfl rfl (by first | exact u3 | exact u5 | exact u22 | exact u56 | exact u21 | exact u25 | exact u33 | exact u42 | exact u2) (by first | exact u3 | exact u5 | exact u22 | exact u56 | exact u21 | exact u25 | exact u33 | exact u42 | exact u2) (by first | exact IntWalk.i64_in _ (by omega) | exact IntWalk.u8_in _ (by omega) | exact IntWalk.u32_in _ (by omega) | exact IntWalk.u16_in _ (by omega) | exact IntWalk.i32_in _ (by omega)) rfl ?_
       clear ho_ i_)
    | refine OT.nil ?_
    | refine Tr.region cx ?_
    | refine Tr.draw cx [] noEv (Valid.none _) (by decide +kernel) ?_
    | refine Tr.cond_true cx rfl ?_
    | refine Tr.cond_false cx rfl ?_
    | refine Tr.seq cx ?_
    | refine Tr.block cx ?_
    | refine Tr.ret cx ?_
    | refine Tr.skip cx ?_
    | refine Tr.exit cx ?_
    | refine Tr.loopU cx ?_
    | refine Tr.againU ?_)
  exact ⟨_, _, rfl, rfl, by subst hq0 hq1; rfl⟩
theorem decode7 {w b0 b1 b2 b3 at_ : Int} (W : Wd w b0 b1 b2 b3) (ha : 0 ≤ at_ ∧ at_ ≤ 65540) (ho : opS b0 b1 b2 b3 = 7) : ∃ v H2, EvS Tryd.prog (.call 13 #[.int .u32 w, .int .i64 at_] H0) (.value v H2) ∧ v = (decO 7 w b1 b2 b3 at_).val := by
  refine EvS.call cx F13 (fn := Tryd.f13) rfl ⟨by simp [Tryd.f13], by simp⟩ ?_
  have w0 := W.ge
  have w1 := W.lt
  have s0 : -65536 ≤ sgn (w % 65536) 65536 ∧ sgn (w % 65536) 65536 ≤ 65536 := sgn_range (by omega) (by omega) (by omega)
  have s1 : -16777216 ≤ sgn (w % 16777216) 16777216 ∧ sgn (w % 16777216) 16777216 ≤ 16777216 := sgn_range (by omega) (by omega) (by omega)
  have op_ev : ∀ {H : AHeap} (hL : Lay G H), EvS Tryd.prog (.call 22 #[.int .u32 w] H) (.value (.int .i64 7) H) := fun hL => by rw [← ho]; exact op_ev W hL
  generalize hq0 : sgn (w % 65536) 65536 = q0 at s0
  generalize hq1 : sgn (w % 16777216) 16777216 = q1 at s1
  have lowS16E : ∀ H, EvS Tryd.prog (.call 29 #[.int .u32 w, .int .i64 16] H) (.value (.int .i64 q0) H) := fun H => by rw [← hq0]; exact lowS16E w0 w1 H
  have lowS24E : ∀ H, EvS Tryd.prog (.call 29 #[.int .u32 w, .int .i64 24] H) (.value (.int .i64 q1) H) := fun H => by rw [← hq1]; exact lowS24E w0 w1 H
  repeat (first
    | (refine OT.fetch rfl (fun i_ ho_ => ?_)
       first
        | refine OT.move ho_ rfl rfl rfl ?_
        | refine OT.assign ho_ rfl rfl rfl ?_
        | refine OT.un ho_ rfl rfl ?_
        | refine OT.pickT ho_ rfl rfl rfl rfl ?_
        | refine OT.pickF ho_ rfl rfl rfl rfl ?_
        | refine OT.extract ho_ rfl rfl rfl rfl ?_
        | refine OT.not ho_ rfl rfl rfl ?_
        | refine OT.faddr ho_ rfl rfl (by first | exact us31 | exact us59) (by decide) rfl ?_
        | refine OT.ld ho_ rfl rfl (by first | exact ga3 | exact ga4 | exact ga5 | exact ga9 | exact ga22) rfl rfl (by first | exact trivial | exact .inr (.inl ⟨rfl, fun b hb => by cases hb; decide⟩) | exact Side.pass rfl) rfl ?_
        | refine OT.call1 (op_ev (lay_of (Nat.le_of_ble_eq_true (by rfl)) (by rfl))) ho_ rfl rfl (iF F22) rfl ?_
        | refine OT.call1 (oct1 W _) ho_ rfl rfl (iF F23) rfl ?_
        | refine OT.call1 (oct2 W _) ho_ rfl rfl (iF F23) rfl ?_
        | refine OT.call1 (oct3 W _) ho_ rfl rfl (iF F23) rfl ?_
        | refine OT.call1 (numberS (lowS16E) (lay_of (Nat.le_of_ble_eq_true (by rfl)) (by rfl))) ho_ rfl rfl (iF F24) rfl ?_
        | refine OT.cmpT ho_ rfl rfl rfl rfl (by first | (simp only [cmpP]; done) | (simp only [cmpP]; omega)) rfl ?_
        | refine OT.cmpF ho_ rfl rfl rfl rfl (by first | (simp only [cmpP]; done) | (simp only [cmpP]; omega)) rfl ?_
        | refine OT.add ho_ rfl rfl rfl (by first | exact IntWalk.i64_in _ (by omega) | exact IntWalk.u8_in _ (by omega) | exact IntWalk.u32_in _ (by omega) | exact IntWalk.u16_in _ (by omega) | exact IntWalk.i32_in _ (by omega)) rfl ?_
        | refine OT.sub ho_ rfl rfl rfl (by first | exact IntWalk.i64_in _ (by omega) | exact IntWalk.u8_in _ (by omega) | exact IntWalk.u32_in _ (by omega) | exact IntWalk.u16_in _ (by omega) | exact IntWalk.i32_in _ (by omega)) rfl ?_
        | refine OT.mul ho_ rfl rfl rfl (by first | exact IntWalk.i64_in _ (by omega) | exact IntWalk.u8_in _ (by omega) | exact IntWalk.u32_in _ (by omega) | exact IntWalk.u16_in _ (by omega) | exact IntWalk.i32_in _ (by omega)) rfl ?_
        | refine OT.quo ho_ rfl rfl rfl (by omega) (by omega) (by first | exact IntWalk.i64_in _ (by omega) | exact IntWalk.u8_in _ (by omega) | exact IntWalk.u32_in _ (by omega) | exact IntWalk.u16_in _ (by omega) | exact IntWalk.i32_in _ (by omega)) rfl ?_
        | refine OT.rem ho_ rfl rfl rfl (by omega) (by omega) rfl ?_
        | refine OT.box _ ho_ rfl rfl rfl (by decide) (by first | exact trivial | exact .inr (.inl ⟨rfl, fun b hb => by cases hb; decide⟩) | exact Side.pass rfl) rfl ?_
        | refine OT.alloc _ ho_ rfl (by first | exact z31 | exact z59 | exact z61) rfl rfl (by decide) (by first | exact trivial | exact .inr (.inl ⟨rfl, fun b hb => by cases hb; decide⟩) | exact Side.pass rfl) rfl ?_
        | refine OT.ldA ho_ rfl rfl (by first | exact ga31 | exact ga59 | exact ga61 | exact ga24) (by first | exact sz3 | exact sz5 | exact sz22 | exact sz31 | exact sz59 | exact sz61 | exact sz24) rfl (Nat.le_of_ble_eq_true (by rfl)) rfl (by first | exact trivial | exact .inr (.inl ⟨rfl, fun b hb => by cases hb; decide⟩) | exact Side.pass rfl) rfl ?_
        | refine OT.st _ ho_ rfl rfl rfl (by first | exact sz3 | exact sz5 | exact sz22 | exact sz31 | exact sz59 | exact sz61 | exact sz24) rfl (by rfl) rfl (by decide) (Nat.le_of_ble_eq_true (by rfl)) rfl (by decide) rfl (by first | exact trivial | exact .inr (.inl ⟨rfl, fun b hb => by cases hb; decide⟩) | exact Side.pass rfl) ?_
        | refine OT.iaddrA ho_ rfl rfl rfl (by first | exact u60 | exact u61 | exact u24) (by first | exact sz3 | exact sz5 | exact sz22 | exact sz31 | exact sz59 | exact sz61 | exact sz24) (by omega) (by omega) rfl ?_
        | refine OT.buildV ho_ rfl rfl (by first | exact bld31 _ _ _ _ _ | exact bld31b _ _) rfl ?_
        | refine OT.mkF ho_ rfl rfl rfl rfl ?_
        | refine OT.maxQ _ ho_ rfl rfl rfl rfl rfl ?_
        | refine OT.minQ _ ho_ rfl rfl rfl rfl rfl ?_
        | refine OT.convI ho_ rfl rfl (by first | exact u3 | exact u5 | exact u22 | exact u56 | exact u21 | exact u25 | exact u33 | exact u42 | exact u2) (by first | exact u3 | exact u5 | exact u22 | exact u56 | exact u21 | exact u25 | exact u33 | exact u42 | exact u2) (by first | exact IntWalk.i64_in _ (by omega) | exact IntWalk.u8_in _ (by omega) | exact IntWalk.u32_in _ (by omega) | exact IntWalk.u16_in _ (by omega) | exact IntWalk.i32_in _ (by omega)) rfl ?_
       clear ho_ i_)
    | refine OT.nil ?_
    | refine Tr.region cx ?_
    | refine Tr.draw cx [] noEv (Valid.none _) (by decide +kernel) ?_
    | refine Tr.cond_true cx rfl ?_
    | refine Tr.cond_false cx rfl ?_
    | refine Tr.seq cx ?_
    | refine Tr.block cx ?_
    | refine Tr.ret cx ?_
    | refine Tr.skip cx ?_
    | refine Tr.exit cx ?_
    | refine Tr.loopU cx ?_
    | refine Tr.againU ?_)
  exact ⟨_, _, rfl, rfl, by subst hq0 hq1; rfl⟩
theorem decode8 {w b0 b1 b2 b3 at_ : Int} (W : Wd w b0 b1 b2 b3) (ha : 0 ≤ at_ ∧ at_ ≤ 65540) (ho : opS b0 b1 b2 b3 = 8) : ∃ v H2, EvS Tryd.prog (.call 13 #[.int .u32 w, .int .i64 at_] H0) (.value v H2) ∧ v = (decO 8 w b1 b2 b3 at_).val := by
  refine EvS.call cx F13 (fn := Tryd.f13) rfl ⟨by simp [Tryd.f13], by simp⟩ ?_
  have w0 := W.ge
  have w1 := W.lt
  have s0 : -65536 ≤ sgn (w % 65536) 65536 ∧ sgn (w % 65536) 65536 ≤ 65536 := sgn_range (by omega) (by omega) (by omega)
  have s1 : -16777216 ≤ sgn (w % 16777216) 16777216 ∧ sgn (w % 16777216) 16777216 ≤ 16777216 := sgn_range (by omega) (by omega) (by omega)
  have op_ev : ∀ {H : AHeap} (hL : Lay G H), EvS Tryd.prog (.call 22 #[.int .u32 w] H) (.value (.int .i64 8) H) := fun hL => by rw [← ho]; exact op_ev W hL
  generalize hq0 : sgn (w % 65536) 65536 = q0 at s0
  generalize hq1 : sgn (w % 16777216) 16777216 = q1 at s1
  have lowS16E : ∀ H, EvS Tryd.prog (.call 29 #[.int .u32 w, .int .i64 16] H) (.value (.int .i64 q0) H) := fun H => by rw [← hq0]; exact lowS16E w0 w1 H
  have lowS24E : ∀ H, EvS Tryd.prog (.call 29 #[.int .u32 w, .int .i64 24] H) (.value (.int .i64 q1) H) := fun H => by rw [← hq1]; exact lowS24E w0 w1 H
  repeat (first
    | (refine OT.fetch rfl (fun i_ ho_ => ?_)
       first
        | refine OT.move ho_ rfl rfl rfl ?_
        | refine OT.assign ho_ rfl rfl rfl ?_
        | refine OT.un ho_ rfl rfl ?_
        | refine OT.pickT ho_ rfl rfl rfl rfl ?_
        | refine OT.pickF ho_ rfl rfl rfl rfl ?_
        | refine OT.extract ho_ rfl rfl rfl rfl ?_
        | refine OT.not ho_ rfl rfl rfl ?_
        | refine OT.faddr ho_ rfl rfl (by first | exact us31 | exact us59) (by decide) rfl ?_
        | refine OT.ld ho_ rfl rfl (by first | exact ga3 | exact ga4 | exact ga5 | exact ga9 | exact ga22) rfl rfl (by first | exact trivial | exact .inr (.inl ⟨rfl, fun b hb => by cases hb; decide⟩) | exact Side.pass rfl) rfl ?_
        | refine OT.call1 (op_ev (lay_of (Nat.le_of_ble_eq_true (by rfl)) (by rfl))) ho_ rfl rfl (iF F22) rfl ?_
        | refine OT.call1 (oct1 W _) ho_ rfl rfl (iF F23) rfl ?_
        | refine OT.call1 (oct2 W _) ho_ rfl rfl (iF F23) rfl ?_
        | refine OT.call1 (oct3 W _) ho_ rfl rfl (iF F23) rfl ?_
        | refine OT.call1 (numberU (lowE16 w0 w1) (lay_of (Nat.le_of_ble_eq_true (by rfl)) (by rfl))) ho_ rfl rfl (iF F24) rfl ?_
        | refine OT.cmpT ho_ rfl rfl rfl rfl (by first | (simp only [cmpP]; done) | (simp only [cmpP]; omega)) rfl ?_
        | refine OT.cmpF ho_ rfl rfl rfl rfl (by first | (simp only [cmpP]; done) | (simp only [cmpP]; omega)) rfl ?_
        | refine OT.add ho_ rfl rfl rfl (by first | exact IntWalk.i64_in _ (by omega) | exact IntWalk.u8_in _ (by omega) | exact IntWalk.u32_in _ (by omega) | exact IntWalk.u16_in _ (by omega) | exact IntWalk.i32_in _ (by omega)) rfl ?_
        | refine OT.sub ho_ rfl rfl rfl (by first | exact IntWalk.i64_in _ (by omega) | exact IntWalk.u8_in _ (by omega) | exact IntWalk.u32_in _ (by omega) | exact IntWalk.u16_in _ (by omega) | exact IntWalk.i32_in _ (by omega)) rfl ?_
        | refine OT.mul ho_ rfl rfl rfl (by first | exact IntWalk.i64_in _ (by omega) | exact IntWalk.u8_in _ (by omega) | exact IntWalk.u32_in _ (by omega) | exact IntWalk.u16_in _ (by omega) | exact IntWalk.i32_in _ (by omega)) rfl ?_
        | refine OT.quo ho_ rfl rfl rfl (by omega) (by omega) (by first | exact IntWalk.i64_in _ (by omega) | exact IntWalk.u8_in _ (by omega) | exact IntWalk.u32_in _ (by omega) | exact IntWalk.u16_in _ (by omega) | exact IntWalk.i32_in _ (by omega)) rfl ?_
        | refine OT.rem ho_ rfl rfl rfl (by omega) (by omega) rfl ?_
        | refine OT.box _ ho_ rfl rfl rfl (by decide) (by first | exact trivial | exact .inr (.inl ⟨rfl, fun b hb => by cases hb; decide⟩) | exact Side.pass rfl) rfl ?_
        | refine OT.alloc _ ho_ rfl (by first | exact z31 | exact z59 | exact z61) rfl rfl (by decide) (by first | exact trivial | exact .inr (.inl ⟨rfl, fun b hb => by cases hb; decide⟩) | exact Side.pass rfl) rfl ?_
        | refine OT.ldA ho_ rfl rfl (by first | exact ga31 | exact ga59 | exact ga61 | exact ga24) (by first | exact sz3 | exact sz5 | exact sz22 | exact sz31 | exact sz59 | exact sz61 | exact sz24) rfl (Nat.le_of_ble_eq_true (by rfl)) rfl (by first | exact trivial | exact .inr (.inl ⟨rfl, fun b hb => by cases hb; decide⟩) | exact Side.pass rfl) rfl ?_
        | refine OT.st _ ho_ rfl rfl rfl (by first | exact sz3 | exact sz5 | exact sz22 | exact sz31 | exact sz59 | exact sz61 | exact sz24) rfl (by rfl) rfl (by decide) (Nat.le_of_ble_eq_true (by rfl)) rfl (by decide) rfl (by first | exact trivial | exact .inr (.inl ⟨rfl, fun b hb => by cases hb; decide⟩) | exact Side.pass rfl) ?_
        | refine OT.iaddrA ho_ rfl rfl rfl (by first | exact u60 | exact u61 | exact u24) (by first | exact sz3 | exact sz5 | exact sz22 | exact sz31 | exact sz59 | exact sz61 | exact sz24) (by omega) (by omega) rfl ?_
        | refine OT.buildV ho_ rfl rfl (by first | exact bld31 _ _ _ _ _ | exact bld31b _ _) rfl ?_
        | refine OT.mkF ho_ rfl rfl rfl rfl ?_
        | refine OT.maxQ _ ho_ rfl rfl rfl rfl rfl ?_
        | refine OT.minQ _ ho_ rfl rfl rfl rfl rfl ?_
        | refine OT.convI ho_ rfl rfl (by first | exact u3 | exact u5 | exact u22 | exact u56 | exact u21 | exact u25 | exact u33 | exact u42 | exact u2) (by first | exact u3 | exact u5 | exact u22 | exact u56 | exact u21 | exact u25 | exact u33 | exact u42 | exact u2) (by first | exact IntWalk.i64_in _ (by omega) | exact IntWalk.u8_in _ (by omega) | exact IntWalk.u32_in _ (by omega) | exact IntWalk.u16_in _ (by omega) | exact IntWalk.i32_in _ (by omega)) rfl ?_
       clear ho_ i_)
    | refine OT.nil ?_
    | refine Tr.region cx ?_
    | refine Tr.draw cx [] noEv (Valid.none _) (by decide +kernel) ?_
    | refine Tr.cond_true cx rfl ?_
    | refine Tr.cond_false cx rfl ?_
    | refine Tr.seq cx ?_
    | refine Tr.block cx ?_
    | refine Tr.ret cx ?_
    | refine Tr.skip cx ?_
    | refine Tr.exit cx ?_
    | refine Tr.loopU cx ?_
    | refine Tr.againU ?_)
  exact ⟨_, _, rfl, rfl, by rfl⟩
theorem decode_ev {w b0 b1 b2 b3 at_ : Int} (W : Wd w b0 b1 b2 b3) (ha : 0 ≤ at_ ∧ at_ ≤ 65540) {H : AHeap} (hL : Lay G H) : EvS Tryd.prog (.call 13 #[.int .u32 w, .int .i64 at_] H) (.value (decO (opS b0 b1 b2 b3) w b1 b2 b3 at_).val H) := by
  have hr := opS_range (b1 := b1) (b2 := b2) (b3 := b3) W.h0.1
  have : ∃ v H2, EvS Tryd.prog (.call 13 #[.int .u32 w, .int .i64 at_] H0) (.value v H2) ∧ v = (decO (opS b0 b1 b2 b3) w b1 b2 b3 at_).val := by
    generalize ho : opS b0 b1 b2 b3 = o at hr
    have hc : o = 0 ∨ o = 1 ∨ o = 2 ∨ o = 3 ∨ o = 4 ∨ o = 5 ∨ o = 6 ∨ o = 7 ∨ o = 8 := by omega
    rcases hc with rfl | rfl | rfl | rfl | rfl | rfl | rfl | rfl | rfl
    · exact decode0 W ha ho
    · exact decode1 W ha ho
    · exact decode2 W ha ho
    · exact decode3 W ha ho
    · exact decode4 W ha ho
    · exact decode5 W ha ho
    · exact decode6 W ha ho
    · exact decode7 W ha ho
    · exact decode8 W ha ho
  obtain ⟨v, H2, h, rfl⟩ := this
  exact EvS.frame hG rfl rfl h hL
end Go.Proofs.YtljpjeipgdeioaaDoor
