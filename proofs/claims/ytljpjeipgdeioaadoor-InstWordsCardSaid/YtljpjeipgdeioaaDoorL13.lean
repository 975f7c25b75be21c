/-
  A part of the proof: what a piece of the program gives; conditions: those of each theorem.
-/
import Derived.Test.YtljpjeipgdeioaaDoorL12
set_option linter.unusedVariables false
namespace Go.Proofs.YtljpjeipgdeioaaDoor
open Ax
set_option maxHeartbeats 16000000
theorem instWords_ev {w x0 x1 x2 x3 n : Int} (hw0 : 0 ≤ w) (hw1 : w < 4294967296) (hx0 : 0 ≤ x0 ∧ x0 ≤ 255) (hx1 : 0 ≤ x1 ∧ x1 ≤ 255) (hx2 : 0 ≤ x2 ∧ x2 ≤ 255) (hx3 : 0 ≤ x3 ∧ x3 ≤ 255) (h0 : 0 ≤ n) (h1 : n ≤ 65535) :
    ∃ v H2, EvS Tryd.prog (.call 3 #[.int .u32 w, .agg #[.int .u8 x0, .int .u8 x1, .int .u8 x2, .int .u8 x3], .int .u16 n] H0) (.value v H2) ∧ v = .bool true := by
  refine EvS.call cx F3 (fn := Tryd.f3) rfl ⟨by simp [Tryd.f3], by simp⟩ ?_
  obtain ⟨p0, p1, p2⟩ := place_ok h0
  have hP := fun H => place_evH h0 h1 H
  generalize 4 * (n % 16385) = at_ at hP p0 p1 p2
  obtain ⟨m, hm, hM⟩ := made_ev hx0 hx1 hx2 hx3
  obtain ⟨o, a, b, c, d, hDw, hEw, hVw, hBw⟩ := word_facts hw0 hw1 p0 p1 p2
  obtain ⟨o', a', b', c', d', hDm, hEm, hVm, hBm⟩ := word_facts hm.1 hm.2 p0 p1 p2
  repeat (first
    | (refine OT.fetch rfl (fun i_ ho_ => ?_)
       first
        | refine OT.move ho_ rfl rfl rfl ?_
        | refine OT.assign ho_ rfl rfl rfl ?_
        | refine OT.un ho_ rfl rfl ?_
        | refine OT.pickT ho_ rfl rfl rfl rfl ?_
        | refine OT.pickF ho_ rfl rfl rfl rfl ?_
        | refine OT.extract ho_ rfl rfl rfl rfl ?_
        | refine OT.not ho_ rfl rfl rfl ?_
        | refine OT.faddr ho_ rfl rfl (by first | exact us31 | exact us59) (by decide) rfl ?_
        | refine OT.ld ho_ rfl rfl (by first | exact ga25 | exact ga42 | exact ga3 | exact ga4 | exact ga5 | exact ga9 | exact ga22) rfl rfl (by first | exact trivial | exact .inr (.inl ⟨rfl, fun b hb => by cases hb; decide⟩) | exact Side.pass rfl) rfl ?_
        | refine OT.call1 (sanity_ev (lay_of (Nat.le_of_ble_eq_true (by rfl)) (by rfl))) ho_ rfl rfl F10 rfl ?_
        | refine OT.call1 (hP _) ho_ rfl rfl (iF F11) rfl ?_
        | refine OT.call1 (hM (lay_of (Nat.le_of_ble_eq_true (by rfl)) (by rfl))) ho_ rfl rfl (iF F12) rfl ?_
        | refine OT.buildSl ho_ rfl rfl (words_lit (Nat.le_of_ble_eq_true (by rfl))) trivial rfl ?_
        | refine OT.cmpT ho_ rfl rfl rfl rfl (by first | (simp only [cmpP]; done) | (simp only [cmpP]; omega)) rfl ?_
        | refine OT.cmpF ho_ rfl rfl rfl rfl (by first | (simp only [cmpP]; done) | (simp only [cmpP]; omega)) rfl ?_
        | refine OT.add ho_ rfl rfl rfl (by first | exact IntWalk.i64_in _ (by omega) | exact IntWalk.u8_in _ (by omega) | exact IntWalk.u32_in _ (by omega) | exact IntWalk.u16_in _ (by omega) | exact IntWalk.i32_in _ (by omega)) rfl ?_
        | refine OT.sub ho_ rfl rfl rfl (by first | exact IntWalk.i64_in _ (by omega) | exact IntWalk.u8_in _ (by omega) | exact IntWalk.u32_in _ (by omega) | exact IntWalk.u16_in _ (by omega) | exact IntWalk.i32_in _ (by omega)) rfl ?_
        | refine OT.mul ho_ rfl rfl rfl (by first | exact IntWalk.i64_in _ (by omega) | exact IntWalk.u8_in _ (by omega) | exact IntWalk.u32_in _ (by omega) | exact IntWalk.u16_in _ (by omega) | exact IntWalk.i32_in _ (by omega)) rfl ?_
        | refine OT.quo ho_ rfl rfl rfl (by omega) (by omega) (by first | exact IntWalk.i64_in _ (by omega) | exact IntWalk.u8_in _ (by omega) | exact IntWalk.u32_in _ (by omega) | exact IntWalk.u16_in _ (by omega) | exact IntWalk.i32_in _ (by omega)) rfl ?_
        | refine OT.rem ho_ rfl rfl rfl (by omega) (by omega) rfl ?_
        | refine OT.box _ ho_ rfl rfl rfl (Nat.le_of_ble_eq_true (by rfl)) (by first | exact trivial | exact .inr (.inl ⟨rfl, fun b hb => by cases hb; decide⟩) | exact Side.pass rfl) rfl ?_
        | refine OT.alloc _ ho_ rfl (by first | exact z31 | exact z59 | exact z61) rfl rfl (Nat.le_of_ble_eq_true (by rfl)) (by first | exact trivial | exact .inr (.inl ⟨rfl, fun b hb => by cases hb; decide⟩) | exact Side.pass rfl) rfl ?_
        | refine OT.ldA ho_ rfl rfl (by first | exact ga39 | exact ga43 | exact ga31 | exact ga59 | exact ga61 | exact ga24) (by first | exact sz25 | exact sz42 | exact sz3 | exact sz5 | exact sz22 | exact sz31 | exact sz59 | exact sz61 | exact sz24) rfl (Nat.le_of_ble_eq_true (by rfl)) rfl (by first | exact trivial | exact .inr (.inl ⟨rfl, fun b hb => by cases hb; decide⟩) | exact Side.pass rfl) rfl ?_
        | refine OT.st _ ho_ rfl rfl rfl (by first | exact sz25 | exact sz42 | exact sz3 | exact sz5 | exact sz22 | exact sz31 | exact sz59 | exact sz61 | exact sz24) rfl (by rfl) rfl (by decide) (Nat.le_of_ble_eq_true (by rfl)) rfl (Nat.le_of_ble_eq_true (by rfl)) rfl (by first | exact trivial | exact .inr (.inl ⟨rfl, fun b hb => by cases hb; decide⟩) | exact Side.pass rfl) ?_
        | refine OT.iaddrA ho_ rfl rfl rfl (by first | exact u39 | exact u43 | exact u60 | exact u61 | exact u24) (by first | exact sz25 | exact sz42 | exact sz3 | exact sz5 | exact sz22 | exact sz31 | exact sz59 | exact sz61 | exact sz24) (by omega) (by omega) rfl ?_
        | refine OT.buildV ho_ rfl rfl (by first | exact bld31 _ _ _ _ _ | exact bld31b _ _) rfl ?_
        | refine OT.mkF ho_ rfl rfl rfl rfl ?_
        | refine OT.maxQ _ ho_ rfl rfl rfl rfl rfl ?_
        | refine OT.minQ _ ho_ rfl rfl rfl rfl rfl ?_
        | refine OT.convI ho_ rfl rfl (by first | exact u3 | exact u5 | exact u22 | exact u56 | exact u21 | exact u25 | exact u33 | exact u42 | exact u2) (by first | exact u3 | exact u5 | exact u22 | exact u56 | exact u21 | exact u25 | exact u33 | exact u42 | exact u2) (by first | exact IntWalk.i64_in _ (by omega) | exact IntWalk.u8_in _ (by omega) | exact IntWalk.u32_in _ (by omega) | exact IntWalk.u16_in _ (by omega) | exact IntWalk.i32_in _ (by omega)) rfl ?_
       clear ho_ i_)
    | refine OT.nil ?_
    | refine Tr.region cx ?_
    | refine Tr.draw cx [] noEv (Valid.none _) (by decide +kernel) ?_
    | refine Tr.cond_true cx rfl ?_
    | refine Tr.cond_false cx rfl ?_
    | refine Tr.seq cx ?_
    | refine Tr.block cx ?_
    | refine Tr.ret cx ?_
    | refine Tr.skip cx ?_
    | refine Tr.exit cx ?_)
  refine Tr.loopU cx ?_
  repeat (first
    | (refine OT.fetch rfl (fun i_ ho_ => ?_)
       first
        | refine OT.move ho_ rfl rfl rfl ?_
        | refine OT.assign ho_ rfl rfl rfl ?_
        | refine OT.un ho_ rfl rfl ?_
        | refine OT.pickT ho_ rfl rfl rfl rfl ?_
        | refine OT.pickF ho_ rfl rfl rfl rfl ?_
        | refine OT.extract ho_ rfl rfl rfl rfl ?_
        | refine OT.not ho_ rfl rfl rfl ?_
        | refine OT.faddr ho_ rfl rfl (by first | exact us31 | exact us59) (by decide) rfl ?_
        | refine OT.ld ho_ rfl rfl (by first | exact ga25 | exact ga42 | exact ga3 | exact ga4 | exact ga5 | exact ga9 | exact ga22) rfl rfl (by first | exact trivial | exact .inr (.inl ⟨rfl, fun b hb => by cases hb; decide⟩) | exact Side.pass rfl) rfl ?_
        | refine OT.call1 (hDw (lay_of (Nat.le_of_ble_eq_true (by rfl)) (by rfl))) ho_ rfl rfl (iF F13) rfl ?_
        | refine OT.call1 (hEw (lay_of (Nat.le_of_ble_eq_true (by rfl)) (by rfl))) ho_ rfl rfl (iF F14) rfl ?_
        | refine OT.call1 (hVw (lay_of (Nat.le_of_ble_eq_true (by rfl)) (by rfl))) ho_ rfl rfl (iF F15) rfl ?_
        | refine OT.indexAddr ho_ rfl rfl rfl u29 sz22 (by decide) (by decide) rfl ?_
        | refine OT.cmpT ho_ rfl rfl rfl rfl (by first | (simp only [cmpP]; done) | (simp only [cmpP]; omega)) rfl ?_
        | refine OT.cmpF ho_ rfl rfl rfl rfl (by first | (simp only [cmpP]; done) | (simp only [cmpP]; omega)) rfl ?_
        | refine OT.add ho_ rfl rfl rfl (by first | exact IntWalk.i64_in _ (by omega) | exact IntWalk.u8_in _ (by omega) | exact IntWalk.u32_in _ (by omega) | exact IntWalk.u16_in _ (by omega) | exact IntWalk.i32_in _ (by omega)) rfl ?_
        | refine OT.sub ho_ rfl rfl rfl (by first | exact IntWalk.i64_in _ (by omega) | exact IntWalk.u8_in _ (by omega) | exact IntWalk.u32_in _ (by omega) | exact IntWalk.u16_in _ (by omega) | exact IntWalk.i32_in _ (by omega)) rfl ?_
        | refine OT.mul ho_ rfl rfl rfl (by first | exact IntWalk.i64_in _ (by omega) | exact IntWalk.u8_in _ (by omega) | exact IntWalk.u32_in _ (by omega) | exact IntWalk.u16_in _ (by omega) | exact IntWalk.i32_in _ (by omega)) rfl ?_
        | refine OT.quo ho_ rfl rfl rfl (by omega) (by omega) (by first | exact IntWalk.i64_in _ (by omega) | exact IntWalk.u8_in _ (by omega) | exact IntWalk.u32_in _ (by omega) | exact IntWalk.u16_in _ (by omega) | exact IntWalk.i32_in _ (by omega)) rfl ?_
        | refine OT.rem ho_ rfl rfl rfl (by omega) (by omega) rfl ?_
        | refine OT.box _ ho_ rfl rfl rfl (Nat.le_of_ble_eq_true (by rfl)) (by first | exact trivial | exact .inr (.inl ⟨rfl, fun b hb => by cases hb; decide⟩) | exact Side.pass rfl) rfl ?_
        | refine OT.alloc _ ho_ rfl (by first | exact z31 | exact z59 | exact z61) rfl rfl (Nat.le_of_ble_eq_true (by rfl)) (by first | exact trivial | exact .inr (.inl ⟨rfl, fun b hb => by cases hb; decide⟩) | exact Side.pass rfl) rfl ?_
        | refine OT.ldA ho_ rfl rfl (by first | exact ga39 | exact ga43 | exact ga31 | exact ga59 | exact ga61 | exact ga24) (by first | exact sz25 | exact sz42 | exact sz3 | exact sz5 | exact sz22 | exact sz31 | exact sz59 | exact sz61 | exact sz24) rfl (Nat.le_of_ble_eq_true (by rfl)) rfl (by first | exact trivial | exact .inr (.inl ⟨rfl, fun b hb => by cases hb; decide⟩) | exact Side.pass rfl) rfl ?_
        | refine OT.st _ ho_ rfl rfl rfl (by first | exact sz25 | exact sz42 | exact sz3 | exact sz5 | exact sz22 | exact sz31 | exact sz59 | exact sz61 | exact sz24) rfl (by rfl) rfl (by decide) (Nat.le_of_ble_eq_true (by rfl)) rfl (Nat.le_of_ble_eq_true (by rfl)) rfl (by first | exact trivial | exact .inr (.inl ⟨rfl, fun b hb => by cases hb; decide⟩) | exact Side.pass rfl) ?_
        | refine OT.iaddrA ho_ rfl rfl rfl (by first | exact u39 | exact u43 | exact u60 | exact u61 | exact u24) (by first | exact sz25 | exact sz42 | exact sz3 | exact sz5 | exact sz22 | exact sz31 | exact sz59 | exact sz61 | exact sz24) (by omega) (by omega) rfl ?_
        | refine OT.buildV ho_ rfl rfl (by first | exact bld31 _ _ _ _ _ | exact bld31b _ _) rfl ?_
        | refine OT.mkF ho_ rfl rfl rfl rfl ?_
        | refine OT.maxQ _ ho_ rfl rfl rfl rfl rfl ?_
        | refine OT.minQ _ ho_ rfl rfl rfl rfl rfl ?_
        | refine OT.convI ho_ rfl rfl (by first | exact u3 | exact u5 | exact u22 | exact u56 | exact u21 | exact u25 | exact u33 | exact u42 | exact u2) (by first | exact u3 | exact u5 | exact u22 | exact u56 | exact u21 | exact u25 | exact u33 | exact u42 | exact u2) (by first | exact IntWalk.i64_in _ (by omega) | exact IntWalk.u8_in _ (by omega) | exact IntWalk.u32_in _ (by omega) | exact IntWalk.u16_in _ (by omega) | exact IntWalk.i32_in _ (by omega)) rfl ?_
       clear ho_ i_)
    | refine OT.nil ?_
    | refine Tr.region cx ?_
    | refine Tr.draw cx [] noEv (Valid.none _) (by decide +kernel) ?_
    | refine Tr.cond_true cx rfl ?_
    | refine Tr.cond_false cx rfl ?_
    | refine Tr.seq cx ?_
    | refine Tr.block cx ?_
    | refine Tr.ret cx ?_
    | refine Tr.skip cx ?_
    | refine Tr.exit cx ?_)
  refine Tr.loopK cx (fun k => T.set 20 (T.set 20 (T.set 20 (T.set 20 (T.set 20 (T.set 20 .nil 14 (.int .i64 k)) 11 (.pointer (some ⟨32, 0, none⟩))) 10 (.int .i64 0)) 9 (.slice (some ⟨31, 0, none⟩) 2 2)) 8 (.int .i64 at_)) 7 (.bool true)) (fun k : Int => 0 ≤ k ∧ k ≤ 32) (fun k => (32 - k).toNat) 0 ?_ ⟨by decide, by decide⟩ ?_
  · refine .set (by omega) rfl ?_ (.set (by omega) rfl ?_ (.set (by omega) rfl ?_ (.set (by omega) rfl ?_ (.set (by omega) rfl ?_ (.set (by omega) rfl ?_ .nil))))) <;> rfl
  · intro k hk
    by_cases hk2 : k < 32
    · obtain ⟨D, hne, hX⟩ := hBw k hk.1 hk2
      obtain ⟨z, hz, hX⟩ : ∃ z, xorW .u32 w (IntKind.u32.wrap (1 * 2 ^ k.toNat)) = z ∧ ∀ {H}, Lay G H → EvS Tryd.prog (.call 13 #[.int .u32 z, .int .i64 at_] H) (.value D.val H) := ⟨_, rfl, hX⟩
      repeat (first
    | (refine OT.fetch rfl (fun i_ ho_ => ?_)
       first
        | refine OT.move ho_ rfl rfl rfl ?_
        | refine OT.assign ho_ rfl rfl rfl ?_
        | refine OT.un ho_ rfl rfl ?_
        | refine OT.pickT ho_ rfl rfl rfl rfl ?_
        | refine OT.pickF ho_ rfl rfl rfl rfl ?_
        | refine OT.extract ho_ rfl rfl rfl rfl ?_
        | refine OT.not ho_ rfl rfl rfl ?_
        | refine OT.faddr ho_ rfl rfl (by first | exact us31 | exact us59) (by decide) rfl ?_
        | refine OT.ld ho_ rfl rfl (by first | exact ga25 | exact ga42 | exact ga3 | exact ga4 | exact ga5 | exact ga9 | exact ga22) rfl rfl (by first | exact trivial | exact .inr (.inl ⟨rfl, fun b hb => by cases hb; decide⟩) | exact Side.pass rfl) rfl ?_
        | refine OT.indexAddr ho_ rfl rfl rfl u29 sz22 (by decide) (by decide) rfl ?_
        | refine OT.shlW _ _ ho_ rfl rfl rfl (by omega) (by simp only [IntKind.bits]; omega) rfl rfl rfl ?_
        | refine OT.arW z ho_ rfl rfl rfl (fun _ _ => by rw [aBin_xorW, hz]) rfl ?_
        | refine OT.call1D (orc_at _ _) ho_ rfl rfl (iF F13) (Side.pass rfl) rfl ?_
        | refine OT.bin ho_ rfl rfl rfl (eq31F (x := D) (y := ⟨o, a, b, c, d⟩) hne) rfl ?_
        | refine OT.cmpT ho_ rfl rfl rfl rfl (by first | (simp only [cmpP]; done) | (simp only [cmpP]; omega)) rfl ?_
        | refine OT.cmpF ho_ rfl rfl rfl rfl (by first | (simp only [cmpP]; done) | (simp only [cmpP]; omega)) rfl ?_
        | refine OT.add ho_ rfl rfl rfl (by first | exact IntWalk.i64_in _ (by omega) | exact IntWalk.u8_in _ (by omega) | exact IntWalk.u32_in _ (by omega) | exact IntWalk.u16_in _ (by omega) | exact IntWalk.i32_in _ (by omega)) rfl ?_
        | refine OT.sub ho_ rfl rfl rfl (by first | exact IntWalk.i64_in _ (by omega) | exact IntWalk.u8_in _ (by omega) | exact IntWalk.u32_in _ (by omega) | exact IntWalk.u16_in _ (by omega) | exact IntWalk.i32_in _ (by omega)) rfl ?_
        | refine OT.mul ho_ rfl rfl rfl (by first | exact IntWalk.i64_in _ (by omega) | exact IntWalk.u8_in _ (by omega) | exact IntWalk.u32_in _ (by omega) | exact IntWalk.u16_in _ (by omega) | exact IntWalk.i32_in _ (by omega)) rfl ?_
        | refine OT.quo ho_ rfl rfl rfl (by omega) (by omega) (by first | exact IntWalk.i64_in _ (by omega) | exact IntWalk.u8_in _ (by omega) | exact IntWalk.u32_in _ (by omega) | exact IntWalk.u16_in _ (by omega) | exact IntWalk.i32_in _ (by omega)) rfl ?_
        | refine OT.rem ho_ rfl rfl rfl (by omega) (by omega) rfl ?_
        | refine OT.box _ ho_ rfl rfl rfl (Nat.le_of_ble_eq_true (by rfl)) (by first | exact trivial | exact .inr (.inl ⟨rfl, fun b hb => by cases hb; decide⟩) | exact Side.pass rfl) rfl ?_
        | refine OT.alloc _ ho_ rfl (by first | exact z31 | exact z59 | exact z61) rfl rfl (Nat.le_of_ble_eq_true (by rfl)) (by first | exact trivial | exact .inr (.inl ⟨rfl, fun b hb => by cases hb; decide⟩) | exact Side.pass rfl) rfl ?_
        | refine OT.ldA ho_ rfl rfl (by first | exact ga39 | exact ga43 | exact ga31 | exact ga59 | exact ga61 | exact ga24) (by first | exact sz25 | exact sz42 | exact sz3 | exact sz5 | exact sz22 | exact sz31 | exact sz59 | exact sz61 | exact sz24) rfl (Nat.le_of_ble_eq_true (by rfl)) rfl (by first | exact trivial | exact .inr (.inl ⟨rfl, fun b hb => by cases hb; decide⟩) | exact Side.pass rfl) rfl ?_
        | refine OT.st _ ho_ rfl rfl rfl (by first | exact sz25 | exact sz42 | exact sz3 | exact sz5 | exact sz22 | exact sz31 | exact sz59 | exact sz61 | exact sz24) rfl (by rfl) rfl (by decide) (Nat.le_of_ble_eq_true (by rfl)) rfl (Nat.le_of_ble_eq_true (by rfl)) rfl (by first | exact trivial | exact .inr (.inl ⟨rfl, fun b hb => by cases hb; decide⟩) | exact Side.pass rfl) ?_
        | refine OT.iaddrA ho_ rfl rfl rfl (by first | exact u39 | exact u43 | exact u60 | exact u61 | exact u24) (by first | exact sz25 | exact sz42 | exact sz3 | exact sz5 | exact sz22 | exact sz31 | exact sz59 | exact sz61 | exact sz24) (by omega) (by omega) rfl ?_
        | refine OT.buildV ho_ rfl rfl (by first | exact bld31 _ _ _ _ _ | exact bld31b _ _) rfl ?_
        | refine OT.mkF ho_ rfl rfl rfl rfl ?_
        | refine OT.maxQ _ ho_ rfl rfl rfl rfl rfl ?_
        | refine OT.minQ _ ho_ rfl rfl rfl rfl rfl ?_
        | refine OT.convI ho_ rfl rfl (by first | exact u3 | exact u5 | exact u22 | exact u56 | exact u21 | exact u25 | exact u33 | exact u42 | exact u2) (by first | exact u3 | exact u5 | exact u22 | exact u56 | exact u21 | exact u25 | exact u33 | exact u42 | exact u2) (by first | exact IntWalk.i64_in _ (by omega) | exact IntWalk.u8_in _ (by omega) | exact IntWalk.u32_in _ (by omega) | exact IntWalk.u16_in _ (by omega) | exact IntWalk.i32_in _ (by omega)) rfl ?_
       clear ho_ i_)
    | refine Tr.drawH cx [0, 30, 31, 32, 33] (fun H => .call 13 #[.int .u32 z, .int .i64 at_] H) (fun H => .value D.val H) (hX (lay_of (Nat.le_of_ble_eq_true (by rfl)) (by rfl))) (by decide +kernel) ?_
    | refine OT.nil ?_
    | refine Tr.region cx ?_
    | refine Tr.draw cx [] noEv (Valid.none _) (by decide +kernel) ?_
    | refine Tr.cond_true cx rfl ?_
    | refine Tr.cond_false cx rfl ?_
    | refine Tr.seq cx ?_
    | refine Tr.block cx ?_
    | refine Tr.ret cx ?_
    | refine Tr.skip cx ?_
    | refine Tr.exit cx ?_)
      exact ⟨k + 1, ⟨by omega, by omega⟩, rfl, rfl, .set (by omega) rfl rfl (.set (by omega) rfl rfl (.set (by omega) rfl rfl (.set (by omega) rfl rfl (.set (by omega) rfl rfl (.set (by omega) rfl rfl .nil))))), by omega⟩
    · repeat (first
    | (refine OT.fetch rfl (fun i_ ho_ => ?_)
       first
        | refine OT.move ho_ rfl rfl rfl ?_
        | refine OT.assign ho_ rfl rfl rfl ?_
        | refine OT.un ho_ rfl rfl ?_
        | refine OT.pickT ho_ rfl rfl rfl rfl ?_
        | refine OT.pickF ho_ rfl rfl rfl rfl ?_
        | refine OT.extract ho_ rfl rfl rfl rfl ?_
        | refine OT.not ho_ rfl rfl rfl ?_
        | refine OT.faddr ho_ rfl rfl (by first | exact us31 | exact us59) (by decide) rfl ?_
        | refine OT.ld ho_ rfl rfl (by first | exact ga25 | exact ga42 | exact ga3 | exact ga4 | exact ga5 | exact ga9 | exact ga22) rfl rfl (by first | exact trivial | exact .inr (.inl ⟨rfl, fun b hb => by cases hb; decide⟩) | exact Side.pass rfl) rfl ?_
        | refine OT.indexAddr ho_ rfl rfl rfl u29 sz22 (by decide) (by decide) rfl ?_
        | refine OT.cmpT ho_ rfl rfl rfl rfl (by first | (simp only [cmpP]; done) | (simp only [cmpP]; omega)) rfl ?_
        | refine OT.cmpF ho_ rfl rfl rfl rfl (by first | (simp only [cmpP]; done) | (simp only [cmpP]; omega)) rfl ?_
        | refine OT.add ho_ rfl rfl rfl (by first | exact IntWalk.i64_in _ (by omega) | exact IntWalk.u8_in _ (by omega) | exact IntWalk.u32_in _ (by omega) | exact IntWalk.u16_in _ (by omega) | exact IntWalk.i32_in _ (by omega)) rfl ?_
        | refine OT.sub ho_ rfl rfl rfl (by first | exact IntWalk.i64_in _ (by omega) | exact IntWalk.u8_in _ (by omega) | exact IntWalk.u32_in _ (by omega) | exact IntWalk.u16_in _ (by omega) | exact IntWalk.i32_in _ (by omega)) rfl ?_
        | refine OT.mul ho_ rfl rfl rfl (by first | exact IntWalk.i64_in _ (by omega) | exact IntWalk.u8_in _ (by omega) | exact IntWalk.u32_in _ (by omega) | exact IntWalk.u16_in _ (by omega) | exact IntWalk.i32_in _ (by omega)) rfl ?_
        | refine OT.quo ho_ rfl rfl rfl (by omega) (by omega) (by first | exact IntWalk.i64_in _ (by omega) | exact IntWalk.u8_in _ (by omega) | exact IntWalk.u32_in _ (by omega) | exact IntWalk.u16_in _ (by omega) | exact IntWalk.i32_in _ (by omega)) rfl ?_
        | refine OT.rem ho_ rfl rfl rfl (by omega) (by omega) rfl ?_
        | refine OT.box _ ho_ rfl rfl rfl (Nat.le_of_ble_eq_true (by rfl)) (by first | exact trivial | exact .inr (.inl ⟨rfl, fun b hb => by cases hb; decide⟩) | exact Side.pass rfl) rfl ?_
        | refine OT.alloc _ ho_ rfl (by first | exact z31 | exact z59 | exact z61) rfl rfl (Nat.le_of_ble_eq_true (by rfl)) (by first | exact trivial | exact .inr (.inl ⟨rfl, fun b hb => by cases hb; decide⟩) | exact Side.pass rfl) rfl ?_
        | refine OT.ldA ho_ rfl rfl (by first | exact ga39 | exact ga43 | exact ga31 | exact ga59 | exact ga61 | exact ga24) (by first | exact sz25 | exact sz42 | exact sz3 | exact sz5 | exact sz22 | exact sz31 | exact sz59 | exact sz61 | exact sz24) rfl (Nat.le_of_ble_eq_true (by rfl)) rfl (by first | exact trivial | exact .inr (.inl ⟨rfl, fun b hb => by cases hb; decide⟩) | exact Side.pass rfl) rfl ?_
        | refine OT.st _ ho_ rfl rfl rfl (by first | exact sz25 | exact sz42 | exact sz3 | exact sz5 | exact sz22 | exact sz31 | exact sz59 | exact sz61 | exact sz24) rfl (by rfl) rfl (by decide) (Nat.le_of_ble_eq_true (by rfl)) rfl (Nat.le_of_ble_eq_true (by rfl)) rfl (by first | exact trivial | exact .inr (.inl ⟨rfl, fun b hb => by cases hb; decide⟩) | exact Side.pass rfl) ?_
        | refine OT.iaddrA ho_ rfl rfl rfl (by first | exact u39 | exact u43 | exact u60 | exact u61 | exact u24) (by first | exact sz25 | exact sz42 | exact sz3 | exact sz5 | exact sz22 | exact sz31 | exact sz59 | exact sz61 | exact sz24) (by omega) (by omega) rfl ?_
        | refine OT.buildV ho_ rfl rfl (by first | exact bld31 _ _ _ _ _ | exact bld31b _ _) rfl ?_
        | refine OT.mkF ho_ rfl rfl rfl rfl ?_
        | refine OT.maxQ _ ho_ rfl rfl rfl rfl rfl ?_
        | refine OT.minQ _ ho_ rfl rfl rfl rfl rfl ?_
        | refine OT.convI ho_ rfl rfl (by first | exact u3 | exact u5 | exact u22 | exact u56 | exact u21 | exact u25 | exact u33 | exact u42 | exact u2) (by first | exact u3 | exact u5 | exact u22 | exact u56 | exact u21 | exact u25 | exact u33 | exact u42 | exact u2) (by first | exact IntWalk.i64_in _ (by omega) | exact IntWalk.u8_in _ (by omega) | exact IntWalk.u32_in _ (by omega) | exact IntWalk.u16_in _ (by omega) | exact IntWalk.i32_in _ (by omega)) rfl ?_
       clear ho_ i_)
    | refine OT.nil ?_
    | refine Tr.region cx ?_
    | refine Tr.draw cx [] noEv (Valid.none _) (by decide +kernel) ?_
    | refine Tr.cond_true cx rfl ?_
    | refine Tr.cond_false cx rfl ?_
    | refine Tr.seq cx ?_
    | refine Tr.block cx ?_
    | refine Tr.ret cx ?_
    | refine Tr.skip cx ?_
    | refine Tr.exit cx ?_)
      refine Tr.againU ?_
      repeat (first
    | (refine OT.fetch rfl (fun i_ ho_ => ?_)
       first
        | refine OT.move ho_ rfl rfl rfl ?_
        | refine OT.assign ho_ rfl rfl rfl ?_
        | refine OT.un ho_ rfl rfl ?_
        | refine OT.pickT ho_ rfl rfl rfl rfl ?_
        | refine OT.pickF ho_ rfl rfl rfl rfl ?_
        | refine OT.extract ho_ rfl rfl rfl rfl ?_
        | refine OT.not ho_ rfl rfl rfl ?_
        | refine OT.faddr ho_ rfl rfl (by first | exact us31 | exact us59) (by decide) rfl ?_
        | refine OT.ld ho_ rfl rfl (by first | exact ga25 | exact ga42 | exact ga3 | exact ga4 | exact ga5 | exact ga9 | exact ga22) rfl rfl (by first | exact trivial | exact .inr (.inl ⟨rfl, fun b hb => by cases hb; decide⟩) | exact Side.pass rfl) rfl ?_
        | refine OT.call1 (hDm (lay_of (Nat.le_of_ble_eq_true (by rfl)) (by rfl))) ho_ rfl rfl (iF F13) rfl ?_
        | refine OT.call1 (hEm (lay_of (Nat.le_of_ble_eq_true (by rfl)) (by rfl))) ho_ rfl rfl (iF F14) rfl ?_
        | refine OT.call1 (hVm (lay_of (Nat.le_of_ble_eq_true (by rfl)) (by rfl))) ho_ rfl rfl (iF F15) rfl ?_
        | refine OT.indexAddr ho_ rfl rfl rfl u29 sz22 (by decide) (by decide) rfl ?_
        | refine OT.cmpT ho_ rfl rfl rfl rfl (by first | (simp only [cmpP]; done) | (simp only [cmpP]; omega)) rfl ?_
        | refine OT.cmpF ho_ rfl rfl rfl rfl (by first | (simp only [cmpP]; done) | (simp only [cmpP]; omega)) rfl ?_
        | refine OT.add ho_ rfl rfl rfl (by first | exact IntWalk.i64_in _ (by omega) | exact IntWalk.u8_in _ (by omega) | exact IntWalk.u32_in _ (by omega) | exact IntWalk.u16_in _ (by omega) | exact IntWalk.i32_in _ (by omega)) rfl ?_
        | refine OT.sub ho_ rfl rfl rfl (by first | exact IntWalk.i64_in _ (by omega) | exact IntWalk.u8_in _ (by omega) | exact IntWalk.u32_in _ (by omega) | exact IntWalk.u16_in _ (by omega) | exact IntWalk.i32_in _ (by omega)) rfl ?_
        | refine OT.mul ho_ rfl rfl rfl (by first | exact IntWalk.i64_in _ (by omega) | exact IntWalk.u8_in _ (by omega) | exact IntWalk.u32_in _ (by omega) | exact IntWalk.u16_in _ (by omega) | exact IntWalk.i32_in _ (by omega)) rfl ?_
        | refine OT.quo ho_ rfl rfl rfl (by omega) (by omega) (by first | exact IntWalk.i64_in _ (by omega) | exact IntWalk.u8_in _ (by omega) | exact IntWalk.u32_in _ (by omega) | exact IntWalk.u16_in _ (by omega) | exact IntWalk.i32_in _ (by omega)) rfl ?_
        | refine OT.rem ho_ rfl rfl rfl (by omega) (by omega) rfl ?_
        | refine OT.box _ ho_ rfl rfl rfl (Nat.le_of_ble_eq_true (by rfl)) (by first | exact trivial | exact .inr (.inl ⟨rfl, fun b hb => by cases hb; decide⟩) | exact Side.pass rfl) rfl ?_
        | refine OT.alloc _ ho_ rfl (by first | exact z31 | exact z59 | exact z61) rfl rfl (Nat.le_of_ble_eq_true (by rfl)) (by first | exact trivial | exact .inr (.inl ⟨rfl, fun b hb => by cases hb; decide⟩) | exact Side.pass rfl) rfl ?_
        | refine OT.ldA ho_ rfl rfl (by first | exact ga39 | exact ga43 | exact ga31 | exact ga59 | exact ga61 | exact ga24) (by first | exact sz25 | exact sz42 | exact sz3 | exact sz5 | exact sz22 | exact sz31 | exact sz59 | exact sz61 | exact sz24) rfl (Nat.le_of_ble_eq_true (by rfl)) rfl (by first | exact trivial | exact .inr (.inl ⟨rfl, fun b hb => by cases hb; decide⟩) | exact Side.pass rfl) rfl ?_
        | refine OT.st _ ho_ rfl rfl rfl (by first | exact sz25 | exact sz42 | exact sz3 | exact sz5 | exact sz22 | exact sz31 | exact sz59 | exact sz61 | exact sz24) rfl (by rfl) rfl (by decide) (Nat.le_of_ble_eq_true (by rfl)) rfl (Nat.le_of_ble_eq_true (by rfl)) rfl (by first | exact trivial | exact .inr (.inl ⟨rfl, fun b hb => by cases hb; decide⟩) | exact Side.pass rfl) ?_
        | refine OT.iaddrA ho_ rfl rfl rfl (by first | exact u39 | exact u43 | exact u60 | exact u61 | exact u24) (by first | exact sz25 | exact sz42 | exact sz3 | exact sz5 | exact sz22 | exact sz31 | exact sz59 | exact sz61 | exact sz24) (by omega) (by omega) rfl ?_
        | refine OT.buildV ho_ rfl rfl (by first | exact bld31 _ _ _ _ _ | exact bld31b _ _) rfl ?_
        | refine OT.mkF ho_ rfl rfl rfl rfl ?_
        | refine OT.maxQ _ ho_ rfl rfl rfl rfl rfl ?_
        | refine OT.minQ _ ho_ rfl rfl rfl rfl rfl ?_
        | refine OT.convI ho_ rfl rfl (by first | exact u3 | exact u5 | exact u22 | exact u56 | exact u21 | exact u25 | exact u33 | exact u42 | exact u2) (by first | exact u3 | exact u5 | exact u22 | exact u56 | exact u21 | exact u25 | exact u33 | exact u42 | exact u2) (by first | exact IntWalk.i64_in _ (by omega) | exact IntWalk.u8_in _ (by omega) | exact IntWalk.u32_in _ (by omega) | exact IntWalk.u16_in _ (by omega) | exact IntWalk.i32_in _ (by omega)) rfl ?_
       clear ho_ i_)
    | refine OT.nil ?_
    | refine Tr.region cx ?_
    | refine Tr.draw cx [] noEv (Valid.none _) (by decide +kernel) ?_
    | refine Tr.cond_true cx rfl ?_
    | refine Tr.cond_false cx rfl ?_
    | refine Tr.seq cx ?_
    | refine Tr.block cx ?_
    | refine Tr.ret cx ?_
    | refine Tr.skip cx ?_
    | refine Tr.exit cx ?_)
      refine Tr.loopK cx (fun k => T.set 20 (T.set 20 (T.set 20 (T.set 20 (T.set 20 (T.set 20 .nil 14 (.int .i64 k)) 11 (.pointer (some ⟨33, 0, none⟩))) 10 (.int .i64 1)) 9 (.slice (some ⟨31, 0, none⟩) 2 2)) 8 (.int .i64 at_)) 7 (.bool true)) (fun k : Int => 0 ≤ k ∧ k ≤ 32) (fun k => (32 - k).toNat) 0 ?_ ⟨by decide, by decide⟩ ?_
      · refine .set (by omega) rfl ?_ (.set (by omega) rfl ?_ (.set (by omega) rfl ?_ (.set (by omega) rfl ?_ (.set (by omega) rfl ?_ (.set (by omega) rfl ?_ .nil))))) <;> rfl
      · intro k hk
        by_cases hk2 : k < 32
        · obtain ⟨D, hne, hX⟩ := hBm k hk.1 hk2
          obtain ⟨z, hz, hX⟩ : ∃ z, xorW .u32 m (IntKind.u32.wrap (1 * 2 ^ k.toNat)) = z ∧ ∀ {H}, Lay G H → EvS Tryd.prog (.call 13 #[.int .u32 z, .int .i64 at_] H) (.value D.val H) := ⟨_, rfl, hX⟩
          repeat (first
    | (refine OT.fetch rfl (fun i_ ho_ => ?_)
       first
        | refine OT.move ho_ rfl rfl rfl ?_
        | refine OT.assign ho_ rfl rfl rfl ?_
        | refine OT.un ho_ rfl rfl ?_
        | refine OT.pickT ho_ rfl rfl rfl rfl ?_
        | refine OT.pickF ho_ rfl rfl rfl rfl ?_
        | refine OT.extract ho_ rfl rfl rfl rfl ?_
        | refine OT.not ho_ rfl rfl rfl ?_
        | refine OT.faddr ho_ rfl rfl (by first | exact us31 | exact us59) (by decide) rfl ?_
        | refine OT.ld ho_ rfl rfl (by first | exact ga25 | exact ga42 | exact ga3 | exact ga4 | exact ga5 | exact ga9 | exact ga22) rfl rfl (by first | exact trivial | exact .inr (.inl ⟨rfl, fun b hb => by cases hb; decide⟩) | exact Side.pass rfl) rfl ?_
        | refine OT.indexAddr ho_ rfl rfl rfl u29 sz22 (by decide) (by decide) rfl ?_
        | refine OT.shlW _ _ ho_ rfl rfl rfl (by omega) (by simp only [IntKind.bits]; omega) rfl rfl rfl ?_
        | refine OT.arW z ho_ rfl rfl rfl (fun _ _ => by rw [aBin_xorW, hz]) rfl ?_
        | refine OT.call1D (orc_at _ _) ho_ rfl rfl (iF F13) (Side.pass rfl) rfl ?_
        | refine OT.bin ho_ rfl rfl rfl (eq31F (x := D) (y := ⟨o', a', b', c', d'⟩) hne) rfl ?_
        | refine OT.cmpT ho_ rfl rfl rfl rfl (by first | (simp only [cmpP]; done) | (simp only [cmpP]; omega)) rfl ?_
        | refine OT.cmpF ho_ rfl rfl rfl rfl (by first | (simp only [cmpP]; done) | (simp only [cmpP]; omega)) rfl ?_
        | refine OT.add ho_ rfl rfl rfl (by first | exact IntWalk.i64_in _ (by omega) | exact IntWalk.u8_in _ (by omega) | exact IntWalk.u32_in _ (by omega) | exact IntWalk.u16_in _ (by omega) | exact IntWalk.i32_in _ (by omega)) rfl ?_
        | refine OT.sub ho_ rfl rfl rfl (by first | exact IntWalk.i64_in _ (by omega) | exact IntWalk.u8_in _ (by omega) | exact IntWalk.u32_in _ (by omega) | exact IntWalk.u16_in _ (by omega) | exact IntWalk.i32_in _ (by omega)) rfl ?_
        | refine OT.mul ho_ rfl rfl rfl (by first | exact IntWalk.i64_in _ (by omega) | exact IntWalk.u8_in _ (by omega) | exact IntWalk.u32_in _ (by omega) | exact IntWalk.u16_in _ (by omega) | exact IntWalk.i32_in _ (by omega)) rfl ?_
        | refine OT.quo ho_ rfl rfl rfl (by omega) (by omega) (by first | exact IntWalk.i64_in _ (by omega) | exact IntWalk.u8_in _ (by omega) | exact IntWalk.u32_in _ (by omega) | exact IntWalk.u16_in _ (by omega) | exact IntWalk.i32_in _ (by omega)) rfl ?_
        | refine OT.rem ho_ rfl rfl rfl (by omega) (by omega) rfl ?_
        | refine OT.box _ ho_ rfl rfl rfl (Nat.le_of_ble_eq_true (by rfl)) (by first | exact trivial | exact .inr (.inl ⟨rfl, fun b hb => by cases hb; decide⟩) | exact Side.pass rfl) rfl ?_
        | refine OT.alloc _ ho_ rfl (by first | exact z31 | exact z59 | exact z61) rfl rfl (Nat.le_of_ble_eq_true (by rfl)) (by first | exact trivial | exact .inr (.inl ⟨rfl, fun b hb => by cases hb; decide⟩) | exact Side.pass rfl) rfl ?_
        | refine OT.ldA ho_ rfl rfl (by first | exact ga39 | exact ga43 | exact ga31 | exact ga59 | exact ga61 | exact ga24) (by first | exact sz25 | exact sz42 | exact sz3 | exact sz5 | exact sz22 | exact sz31 | exact sz59 | exact sz61 | exact sz24) rfl (Nat.le_of_ble_eq_true (by rfl)) rfl (by first | exact trivial | exact .inr (.inl ⟨rfl, fun b hb => by cases hb; decide⟩) | exact Side.pass rfl) rfl ?_
        | refine OT.st _ ho_ rfl rfl rfl (by first | exact sz25 | exact sz42 | exact sz3 | exact sz5 | exact sz22 | exact sz31 | exact sz59 | exact sz61 | exact sz24) rfl (by rfl) rfl (by decide) (Nat.le_of_ble_eq_true (by rfl)) rfl (Nat.le_of_ble_eq_true (by rfl)) rfl (by first | exact trivial | exact .inr (.inl ⟨rfl, fun b hb => by cases hb; decide⟩) | exact Side.pass rfl) ?_
        | refine OT.iaddrA ho_ rfl rfl rfl (by first | exact u39 | exact u43 | exact u60 | exact u61 | exact u24) (by first | exact sz25 | exact sz42 | exact sz3 | exact sz5 | exact sz22 | exact sz31 | exact sz59 | exact sz61 | exact sz24) (by omega) (by omega) rfl ?_
        | refine OT.buildV ho_ rfl rfl (by first | exact bld31 _ _ _ _ _ | exact bld31b _ _) rfl ?_
        | refine OT.mkF ho_ rfl rfl rfl rfl ?_
        | refine OT.maxQ _ ho_ rfl rfl rfl rfl rfl ?_
        | refine OT.minQ _ ho_ rfl rfl rfl rfl rfl ?_
        | refine OT.convI ho_ rfl rfl (by first | exact u3 | exact u5 | exact u22 | exact u56 | exact u21 | exact u25 | exact u33 | exact u42 | exact u2) (by first | exact u3 | exact u5 | exact u22 | exact u56 | exact u21 | exact u25 | exact u33 | exact u42 | exact u2) (by first | exact IntWalk.i64_in _ (by omega) | exact IntWalk.u8_in _ (by omega) | exact IntWalk.u32_in _ (by omega) | exact IntWalk.u16_in _ (by omega) | exact IntWalk.i32_in _ (by omega)) rfl ?_
       clear ho_ i_)
    | refine Tr.drawH cx [0, 30, 31, 32, 33] (fun H => .call 13 #[.int .u32 z, .int .i64 at_] H) (fun H => .value D.val H) (hX (lay_of (Nat.le_of_ble_eq_true (by rfl)) (by rfl))) (by decide +kernel) ?_
    | refine OT.nil ?_
    | refine Tr.region cx ?_
    | refine Tr.draw cx [] noEv (Valid.none _) (by decide +kernel) ?_
    | refine Tr.cond_true cx rfl ?_
    | refine Tr.cond_false cx rfl ?_
    | refine Tr.seq cx ?_
    | refine Tr.block cx ?_
    | refine Tr.ret cx ?_
    | refine Tr.skip cx ?_
    | refine Tr.exit cx ?_)
          exact ⟨k + 1, ⟨by omega, by omega⟩, rfl, rfl, .set (by omega) rfl rfl (.set (by omega) rfl rfl (.set (by omega) rfl rfl (.set (by omega) rfl rfl (.set (by omega) rfl rfl (.set (by omega) rfl rfl .nil))))), by omega⟩
        · repeat (first
    | (refine OT.fetch rfl (fun i_ ho_ => ?_)
       first
        | refine OT.move ho_ rfl rfl rfl ?_
        | refine OT.assign ho_ rfl rfl rfl ?_
        | refine OT.un ho_ rfl rfl ?_
        | refine OT.pickT ho_ rfl rfl rfl rfl ?_
        | refine OT.pickF ho_ rfl rfl rfl rfl ?_
        | refine OT.extract ho_ rfl rfl rfl rfl ?_
        | refine OT.not ho_ rfl rfl rfl ?_
        | refine OT.faddr ho_ rfl rfl (by first | exact us31 | exact us59) (by decide) rfl ?_
        | refine OT.ld ho_ rfl rfl (by first | exact ga25 | exact ga42 | exact ga3 | exact ga4 | exact ga5 | exact ga9 | exact ga22) rfl rfl (by first | exact trivial | exact .inr (.inl ⟨rfl, fun b hb => by cases hb; decide⟩) | exact Side.pass rfl) rfl ?_
        | refine OT.indexAddr ho_ rfl rfl rfl u29 sz22 (by decide) (by decide) rfl ?_
        | refine OT.cmpT ho_ rfl rfl rfl rfl (by first | (simp only [cmpP]; done) | (simp only [cmpP]; omega)) rfl ?_
        | refine OT.cmpF ho_ rfl rfl rfl rfl (by first | (simp only [cmpP]; done) | (simp only [cmpP]; omega)) rfl ?_
        | refine OT.add ho_ rfl rfl rfl (by first | exact IntWalk.i64_in _ (by omega) | exact IntWalk.u8_in _ (by omega) | exact IntWalk.u32_in _ (by omega) | exact IntWalk.u16_in _ (by omega) | exact IntWalk.i32_in _ (by omega)) rfl ?_
        | refine OT.sub ho_ rfl rfl rfl (by first | exact IntWalk.i64_in _ (by omega) | exact IntWalk.u8_in _ (by omega) | exact IntWalk.u32_in _ (by omega) | exact IntWalk.u16_in _ (by omega) | exact IntWalk.i32_in _ (by omega)) rfl ?_
        | refine OT.mul ho_ rfl rfl rfl (by first | exact IntWalk.i64_in _ (by omega) | exact IntWalk.u8_in _ (by omega) | exact IntWalk.u32_in _ (by omega) | exact IntWalk.u16_in _ (by omega) | exact IntWalk.i32_in _ (by omega)) rfl ?_
        | refine OT.quo ho_ rfl rfl rfl (by omega) (by omega) (by first | exact IntWalk.i64_in _ (by omega) | exact IntWalk.u8_in _ (by omega) | exact IntWalk.u32_in _ (by omega) | exact IntWalk.u16_in _ (by omega) | exact IntWalk.i32_in _ (by omega)) rfl ?_
        | refine OT.rem ho_ rfl rfl rfl (by omega) (by omega) rfl ?_
        | refine OT.box _ ho_ rfl rfl rfl (Nat.le_of_ble_eq_true (by rfl)) (by first | exact trivial | exact .inr (.inl ⟨rfl, fun b hb => by cases hb; decide⟩) | exact Side.pass rfl) rfl ?_
        | refine OT.alloc _ ho_ rfl (by first | exact z31 | exact z59 | exact z61) rfl rfl (Nat.le_of_ble_eq_true (by rfl)) (by first | exact trivial | exact .inr (.inl ⟨rfl, fun b hb => by cases hb; decide⟩) | exact Side.pass rfl) rfl ?_
        | refine OT.ldA ho_ rfl rfl (by first | exact ga39 | exact ga43 | exact ga31 | exact ga59 | exact ga61 | exact ga24) (by first | exact sz25 | exact sz42 | exact sz3 | exact sz5 | exact sz22 | exact sz31 | exact sz59 | exact sz61 | exact sz24) rfl (Nat.le_of_ble_eq_true (by rfl)) rfl (by first | exact trivial | exact .inr (.inl ⟨rfl, fun b hb => by cases hb; decide⟩) | exact Side.pass rfl) rfl ?_
        | refine OT.st _ ho_ rfl rfl rfl (by first | exact sz25 | exact sz42 | exact sz3 | exact sz5 | exact sz22 | exact sz31 | exact sz59 | exact sz61 | exact sz24) rfl (by rfl) rfl (by decide) (Nat.le_of_ble_eq_true (by rfl)) rfl (Nat.le_of_ble_eq_true (by rfl)) rfl (by first | exact trivial | exact .inr (.inl ⟨rfl, fun b hb => by cases hb; decide⟩) | exact Side.pass rfl) ?_
        | refine OT.iaddrA ho_ rfl rfl rfl (by first | exact u39 | exact u43 | exact u60 | exact u61 | exact u24) (by first | exact sz25 | exact sz42 | exact sz3 | exact sz5 | exact sz22 | exact sz31 | exact sz59 | exact sz61 | exact sz24) (by omega) (by omega) rfl ?_
        | refine OT.buildV ho_ rfl rfl (by first | exact bld31 _ _ _ _ _ | exact bld31b _ _) rfl ?_
        | refine OT.mkF ho_ rfl rfl rfl rfl ?_
        | refine OT.maxQ _ ho_ rfl rfl rfl rfl rfl ?_
        | refine OT.minQ _ ho_ rfl rfl rfl rfl rfl ?_
        | refine OT.convI ho_ rfl rfl (by first | exact u3 | exact u5 | exact u22 | exact u56 | exact u21 | exact u25 | exact u33 | exact u42 | exact u2) (by first | exact u3 | exact u5 | exact u22 | exact u56 | exact u21 | exact u25 | exact u33 | exact u42 | exact u2) (by first | exact IntWalk.i64_in _ (by omega) | exact IntWalk.u8_in _ (by omega) | exact IntWalk.u32_in _ (by omega) | exact IntWalk.u16_in _ (by omega) | exact IntWalk.i32_in _ (by omega)) rfl ?_
       clear ho_ i_)
    | refine OT.nil ?_
    | refine Tr.region cx ?_
    | refine Tr.draw cx [] noEv (Valid.none _) (by decide +kernel) ?_
    | refine Tr.cond_true cx rfl ?_
    | refine Tr.cond_false cx rfl ?_
    | refine Tr.seq cx ?_
    | refine Tr.block cx ?_
    | refine Tr.ret cx ?_
    | refine Tr.skip cx ?_
    | refine Tr.exit cx ?_)
          refine Tr.againU ?_
          repeat (first
    | (refine OT.fetch rfl (fun i_ ho_ => ?_)
       first
        | refine OT.move ho_ rfl rfl rfl ?_
        | refine OT.assign ho_ rfl rfl rfl ?_
        | refine OT.un ho_ rfl rfl ?_
        | refine OT.pickT ho_ rfl rfl rfl rfl ?_
        | refine OT.pickF ho_ rfl rfl rfl rfl ?_
        | refine OT.extract ho_ rfl rfl rfl rfl ?_
        | refine OT.not ho_ rfl rfl rfl ?_
        | refine OT.faddr ho_ rfl rfl (by first | exact us31 | exact us59) (by decide) rfl ?_
        | refine OT.ld ho_ rfl rfl (by first | exact ga25 | exact ga42 | exact ga3 | exact ga4 | exact ga5 | exact ga9 | exact ga22) rfl rfl (by first | exact trivial | exact .inr (.inl ⟨rfl, fun b hb => by cases hb; decide⟩) | exact Side.pass rfl) rfl ?_
        | refine OT.cmpT ho_ rfl rfl rfl rfl (by first | (simp only [cmpP]; done) | (simp only [cmpP]; omega)) rfl ?_
        | refine OT.cmpF ho_ rfl rfl rfl rfl (by first | (simp only [cmpP]; done) | (simp only [cmpP]; omega)) rfl ?_
        | refine OT.add ho_ rfl rfl rfl (by first | exact IntWalk.i64_in _ (by omega) | exact IntWalk.u8_in _ (by omega) | exact IntWalk.u32_in _ (by omega) | exact IntWalk.u16_in _ (by omega) | exact IntWalk.i32_in _ (by omega)) rfl ?_
        | refine OT.sub ho_ rfl rfl rfl (by first | exact IntWalk.i64_in _ (by omega) | exact IntWalk.u8_in _ (by omega) | exact IntWalk.u32_in _ (by omega) | exact IntWalk.u16_in _ (by omega) | exact IntWalk.i32_in _ (by omega)) rfl ?_
        | refine OT.mul ho_ rfl rfl rfl (by first | exact IntWalk.i64_in _ (by omega) | exact IntWalk.u8_in _ (by omega) | exact IntWalk.u32_in _ (by omega) | exact IntWalk.u16_in _ (by omega) | exact IntWalk.i32_in _ (by omega)) rfl ?_
        | refine OT.quo ho_ rfl rfl rfl (by omega) (by omega) (by first | exact IntWalk.i64_in _ (by omega) | exact IntWalk.u8_in _ (by omega) | exact IntWalk.u32_in _ (by omega) | exact IntWalk.u16_in _ (by omega) | exact IntWalk.i32_in _ (by omega)) rfl ?_
        | refine OT.rem ho_ rfl rfl rfl (by omega) (by omega) rfl ?_
        | refine OT.box _ ho_ rfl rfl rfl (Nat.le_of_ble_eq_true (by rfl)) (by first | exact trivial | exact .inr (.inl ⟨rfl, fun b hb => by cases hb; decide⟩) | exact Side.pass rfl) rfl ?_
        | refine OT.alloc _ ho_ rfl (by first | exact z31 | exact z59 | exact z61) rfl rfl (Nat.le_of_ble_eq_true (by rfl)) (by first | exact trivial | exact .inr (.inl ⟨rfl, fun b hb => by cases hb; decide⟩) | exact Side.pass rfl) rfl ?_
        | refine OT.ldA ho_ rfl rfl (by first | exact ga39 | exact ga43 | exact ga31 | exact ga59 | exact ga61 | exact ga24) (by first | exact sz25 | exact sz42 | exact sz3 | exact sz5 | exact sz22 | exact sz31 | exact sz59 | exact sz61 | exact sz24) rfl (Nat.le_of_ble_eq_true (by rfl)) rfl (by first | exact trivial | exact .inr (.inl ⟨rfl, fun b hb => by cases hb; decide⟩) | exact Side.pass rfl) rfl ?_
        | refine OT.st _ ho_ rfl rfl rfl (by first | exact sz25 | exact sz42 | exact sz3 | exact sz5 | exact sz22 | exact sz31 | exact sz59 | exact sz61 | exact sz24) rfl (by rfl) rfl (by decide) (Nat.le_of_ble_eq_true (by rfl)) rfl (Nat.le_of_ble_eq_true (by rfl)) rfl (by first | exact trivial | exact .inr (.inl ⟨rfl, fun b hb => by cases hb; decide⟩) | exact Side.pass rfl) ?_
        | refine OT.iaddrA ho_ rfl rfl rfl (by first | exact u39 | exact u43 | exact u60 | exact u61 | exact u24) (by first | exact sz25 | exact sz42 | exact sz3 | exact sz5 | exact sz22 | exact sz31 | exact sz59 | exact sz61 | exact sz24) (by omega) (by omega) rfl ?_
        | refine OT.buildV ho_ rfl rfl (by first | exact bld31 _ _ _ _ _ | exact bld31b _ _) rfl ?_
        | refine OT.mkF ho_ rfl rfl rfl rfl ?_
        | refine OT.maxQ _ ho_ rfl rfl rfl rfl rfl ?_
        | refine OT.minQ _ ho_ rfl rfl rfl rfl rfl ?_
        | refine OT.convI ho_ rfl rfl (by first | exact u3 | exact u5 | exact u22 | exact u56 | exact u21 | exact u25 | exact u33 | exact u42 | exact u2) (by first | exact u3 | exact u5 | exact u22 | exact u56 | exact u21 | exact u25 | exact u33 | exact u42 | exact u2) (by first | exact IntWalk.i64_in _ (by omega) | exact IntWalk.u8_in _ (by omega) | exact IntWalk.u32_in _ (by omega) | exact IntWalk.u16_in _ (by omega) | exact IntWalk.i32_in _ (by omega)) rfl ?_
       clear ho_ i_)
    | refine OT.nil ?_
    | refine Tr.region cx ?_
    | refine Tr.draw cx [] noEv (Valid.none _) (by decide +kernel) ?_
    | refine Tr.cond_true cx rfl ?_
    | refine Tr.cond_false cx rfl ?_
    | refine Tr.seq cx ?_
    | refine Tr.block cx ?_
    | refine Tr.ret cx ?_
    | refine Tr.skip cx ?_
    | refine Tr.exit cx ?_)
          exact ⟨_, _, rfl, rfl, by rfl⟩
end Go.Proofs.YtljpjeipgdeioaaDoor
