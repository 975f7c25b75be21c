/-
  A part of the proof: what a piece of the program gives; conditions: those of each theorem.
-/
import Derived.Test.YtljpjeipgdeioaaDoorM3
import Derived.Test.YtljpjeipgdeioaaDoorGE
set_option linter.unusedVariables false
namespace Go.Proofs.YtljpjeipgdeioaaDoor
open Ax
set_option maxHeartbeats 8000000
theorem eq31T {xo yo : Operand} {x y : I5} (h : x = y) : aBin Tryd.prog .eql 31 xo yo x.val y.val = some (.bool true) := by rw [eq31]; simp [h]
theorem eq31F {xo yo : Operand} {x y : I5} (h : x ≠ y) : aBin Tryd.prog .eql 31 xo yo x.val y.val = some (.bool false) := by rw [eq31]; simp [h]
theorem place_ok {n : Int} (h0 : 0 ≤ n) : 0 ≤ 4 * (n % 16385) ∧ 4 * (n % 16385) ≤ 65536 ∧ 4 * (n % 16385) % 4 = 0 := by omega
theorem instInstructions_ev {o a b c m n : Int} (hx : I5.Fits ⟨o, a, b, c, m⟩) (h0 : 0 ≤ n) (h1 : n ≤ 65535) : ∃ v H2, EvS Tryd.prog (.call 4 #[inst o a b c m, .int .u16 n] H0) (.value v H2) ∧ v = .bool true := by
  refine EvS.call cx F4 (fn := Tryd.f4) rfl ⟨by simp [Tryd.f4], by simp⟩ ?_
  obtain ⟨p0, p1, p2⟩ := place_ok h0
  have hP := fun H => place_evH h0 h1 H
  generalize 4 * (n % 16385) = at_ at hP p0 p1 p2
  have hE : ∀ {H}, Lay G H → EvS Tryd.prog (.call 14 #[inst o a b c m, .int .i64 at_] H) (.value (encV ⟨o, a, b, c, m⟩ at_) H) := fun hL => encode_ev hx ⟨p0, by omega⟩ hL
  by_cases hq : encOK ⟨o, a, b, c, m⟩ at_
  · rw [show encV ⟨o, a, b, c, m⟩ at_ = _ from if_pos hq] at hE
    have hr := asm_range ⟨o, a, b, c, m⟩ at_
    have hD : ∀ {H}, Lay G H → EvS Tryd.prog (.call 13 #[.int .u32 (asm ⟨o, a, b, c, m⟩ at_), .int .i64 at_] H) (.value (decI (asm ⟨o, a, b, c, m⟩ at_) at_).val H) := fun hL => dec_ev hr.1 hr.2 ⟨p0, by omega⟩ hL
    have hV : ∀ {H}, Lay G H → EvS Tryd.prog (.call 15 #[inst o a b c m] H) (.value (.bool true) H) := fun {H} hL => by
      have := valid_ev hx hL
      rwa [valid_of ⟨p0, p1⟩ p2 hq] at this
    rw [hq.2.2] at hD
    generalize asm ⟨o, a, b, c, m⟩ at_ = w at hE hD
    repeat (first
    | (refine OT.fetch rfl (fun i_ ho_ => ?_)
       first
        | refine OT.move ho_ rfl rfl rfl ?_
        | refine OT.assign ho_ rfl rfl rfl ?_
        | refine OT.un ho_ rfl rfl ?_
        | refine OT.pickT ho_ rfl rfl rfl rfl ?_
        | refine OT.pickF ho_ rfl rfl rfl rfl ?_
        | refine OT.extract ho_ rfl rfl rfl rfl ?_
        | refine OT.not ho_ rfl rfl rfl ?_
        | refine OT.faddr ho_ rfl rfl (by first | exact us31 | exact us59) (by decide) rfl ?_
        | refine OT.ld ho_ rfl rfl (by first | exact ga3 | exact ga4 | exact ga5 | exact ga9 | exact ga22) rfl rfl (by first | exact trivial | exact .inr (.inl ⟨rfl, fun b hb => by cases hb; decide⟩) | exact Side.pass rfl) rfl ?_
        | refine OT.call1 (sanity_ev (lay_of (Nat.le_of_ble_eq_true (by rfl)) (by rfl))) ho_ rfl rfl F10 rfl ?_
        | refine OT.call1 (hP _) ho_ rfl rfl (iF F11) rfl ?_
        | refine OT.call1 (hE (lay_of (Nat.le_of_ble_eq_true (by rfl)) (by rfl))) ho_ rfl rfl (iF F14) rfl ?_
        | refine OT.call1D orc2_1 ho_ rfl rfl (iF F13) (Side.pass rfl) rfl ?_
        | refine OT.call1D (orc2_2 (by decide)) ho_ rfl rfl (iF F15) (Side.pass rfl) rfl ?_
        | refine OT.bin ho_ rfl rfl rfl (eq31T (x := ⟨o, a, b, c, m⟩) (y := ⟨o, a, b, c, m⟩) rfl) rfl ?_
        | refine OT.cmpT ho_ rfl rfl rfl rfl (by first | (simp only [cmpP]; done) | (simp only [cmpP]; omega)) rfl ?_
        | refine OT.cmpF ho_ rfl rfl rfl rfl (by first | (simp only [cmpP]; done) | (simp only [cmpP]; omega)) rfl ?_
        | refine OT.add ho_ rfl rfl rfl (by first | exact IntWalk.i64_in _ (by omega) | exact IntWalk.u8_in _ (by omega) | exact IntWalk.u32_in _ (by omega) | exact IntWalk.u16_in _ (by omega) | exact IntWalk.i32_in _ (by omega)) rfl ?_
        | refine OT.sub ho_ rfl rfl rfl (by first | exact IntWalk.i64_in _ (by omega) | exact IntWalk.u8_in _ (by omega) | exact IntWalk.u32_in _ (by omega) | exact IntWalk.u16_in _ (by omega) | exact IntWalk.i32_in _ (by omega)) rfl ?_
        | refine OT.mul ho_ rfl rfl rfl (by first | exact IntWalk.i64_in _ (by omega) | exact IntWalk.u8_in _ (by omega) | exact IntWalk.u32_in _ (by omega) | exact IntWalk.u16_in _ (by omega) | exact IntWalk.i32_in _ (by omega)) rfl ?_
        | refine OT.quo ho_ rfl rfl rfl (by omega) (by omega) (by first | exact IntWalk.i64_in _ (by omega) | exact IntWalk.u8_in _ (by omega) | exact IntWalk.u32_in _ (by omega) | exact IntWalk.u16_in _ (by omega) | exact IntWalk.i32_in _ (by omega)) rfl ?_
        | refine OT.rem ho_ rfl rfl rfl (by omega) (by omega) rfl ?_
        | refine OT.box _ ho_ rfl rfl rfl (Nat.le_of_ble_eq_true (by rfl)) (by first | exact trivial | exact .inr (.inl ⟨rfl, fun b hb => by cases hb; decide⟩) | exact Side.pass rfl) rfl ?_
        | refine OT.alloc _ ho_ rfl (by first | exact z31 | exact z59 | exact z61) rfl rfl (Nat.le_of_ble_eq_true (by rfl)) (by first | exact trivial | exact .inr (.inl ⟨rfl, fun b hb => by cases hb; decide⟩) | exact Side.pass rfl) rfl ?_
        | refine OT.ldA ho_ rfl rfl (by first | exact ga31 | exact ga59 | exact ga61 | exact ga24) (by first | exact sz3 | exact sz5 | exact sz22 | exact sz31 | exact sz59 | exact sz61 | exact sz24) rfl (Nat.le_of_ble_eq_true (by rfl)) rfl (by first | exact trivial | exact .inr (.inl ⟨rfl, fun b hb => by cases hb; decide⟩) | exact Side.pass rfl) rfl ?_
        | refine OT.st _ ho_ rfl rfl rfl (by first | exact sz3 | exact sz5 | exact sz22 | exact sz31 | exact sz59 | exact sz61 | exact sz24) rfl (by rfl) rfl (by decide) (Nat.le_of_ble_eq_true (by rfl)) rfl (Nat.le_of_ble_eq_true (by rfl)) rfl (by first | exact trivial | exact .inr (.inl ⟨rfl, fun b hb => by cases hb; decide⟩) | exact Side.pass rfl) ?_
        | refine OT.iaddrA ho_ rfl rfl rfl (by first | exact u60 | exact u61 | exact u24) (by first | exact sz3 | exact sz5 | exact sz22 | exact sz31 | exact sz59 | exact sz61 | exact sz24) (by omega) (by omega) rfl ?_
        | refine OT.buildV ho_ rfl rfl (by first | exact bld31 _ _ _ _ _ | exact bld31b _ _) rfl ?_
        | refine OT.mkF ho_ rfl rfl rfl rfl ?_
        | refine OT.maxQ _ ho_ rfl rfl rfl rfl rfl ?_
        | refine OT.minQ _ ho_ rfl rfl rfl rfl rfl ?_
        | refine OT.convI ho_ rfl rfl (by first | exact u3 | exact u5 | exact u22 | exact u56 | exact u21 | exact u25 | exact u33 | exact u42 | exact u2) (by first | exact u3 | exact u5 | exact u22 | exact u56 | exact u21 | exact u25 | exact u33 | exact u42 | exact u2) (by first | exact IntWalk.i64_in _ (by omega) | exact IntWalk.u8_in _ (by omega) | exact IntWalk.u32_in _ (by omega) | exact IntWalk.u16_in _ (by omega) | exact IntWalk.i32_in _ (by omega)) rfl ?_
       clear ho_ i_)
    | refine Tr.draw2H cx [0, 30] (fun H => .call 13 #[.int .u32 w, .int .i64 at_] H) (fun H => .call 15 #[inst o a b c m] H) (fun H => .value (inst o a b c m) H) (fun H => .value (.bool true) H) (hD (lay_of (Nat.le_of_ble_eq_true (by rfl)) (by rfl))) (hV (lay_of (Nat.le_of_ble_eq_true (by rfl)) (by rfl))) (by decide +kernel) ?_
    | refine OT.nil ?_
    | refine Tr.region cx ?_
    | refine Tr.draw cx [] noEv (Valid.none _) (by decide +kernel) ?_
    | refine Tr.cond_true cx rfl ?_
    | refine Tr.cond_false cx rfl ?_
    | refine Tr.seq cx ?_
    | refine Tr.block cx ?_
    | refine Tr.ret cx ?_
    | refine Tr.skip cx ?_
    | refine Tr.exit cx ?_)
    exact ⟨_, _, rfl, rfl, by rfl⟩
  · rw [show encV ⟨o, a, b, c, m⟩ at_ = _ from if_neg hq] at hE
    repeat (first
    | (refine OT.fetch rfl (fun i_ ho_ => ?_)
       first
        | refine OT.move ho_ rfl rfl rfl ?_
        | refine OT.assign ho_ rfl rfl rfl ?_
        | refine OT.un ho_ rfl rfl ?_
        | refine OT.pickT ho_ rfl rfl rfl rfl ?_
        | refine OT.pickF ho_ rfl rfl rfl rfl ?_
        | refine OT.extract ho_ rfl rfl rfl rfl ?_
        | refine OT.not ho_ rfl rfl rfl ?_
        | refine OT.faddr ho_ rfl rfl (by first | exact us31 | exact us59) (by decide) rfl ?_
        | refine OT.ld ho_ rfl rfl (by first | exact ga3 | exact ga4 | exact ga5 | exact ga9 | exact ga22) rfl rfl (by first | exact trivial | exact .inr (.inl ⟨rfl, fun b hb => by cases hb; decide⟩) | exact Side.pass rfl) rfl ?_
        | refine OT.call1 (sanity_ev (lay_of (Nat.le_of_ble_eq_true (by rfl)) (by rfl))) ho_ rfl rfl F10 rfl ?_
        | refine OT.call1 (hP _) ho_ rfl rfl (iF F11) rfl ?_
        | refine OT.call1 (hE (lay_of (Nat.le_of_ble_eq_true (by rfl)) (by rfl))) ho_ rfl rfl (iF F14) rfl ?_
        | refine OT.cmpT ho_ rfl rfl rfl rfl (by first | (simp only [cmpP]; done) | (simp only [cmpP]; omega)) rfl ?_
        | refine OT.cmpF ho_ rfl rfl rfl rfl (by first | (simp only [cmpP]; done) | (simp only [cmpP]; omega)) rfl ?_
        | refine OT.add ho_ rfl rfl rfl (by first | exact IntWalk.i64_in _ (by omega) | exact IntWalk.u8_in _ (by omega) | exact IntWalk.u32_in _ (by omega) | exact IntWalk.u16_in _ (by omega) | exact IntWalk.i32_in _ (by omega)) rfl ?_
        | refine OT.sub ho_ rfl rfl rfl (by first | exact IntWalk.i64_in _ (by omega) | exact IntWalk.u8_in _ (by omega) | exact IntWalk.u32_in _ (by omega) | exact IntWalk.u16_in _ (by omega) | exact IntWalk.i32_in _ (by omega)) rfl ?_
        | refine OT.mul ho_ rfl rfl rfl (by first | exact IntWalk.i64_in _ (by omega) | exact IntWalk.u8_in _ (by omega) | exact IntWalk.u32_in _ (by omega) | exact IntWalk.u16_in _ (by omega) | exact IntWalk.i32_in _ (by omega)) rfl ?_
        | refine OT.quo ho_ rfl rfl rfl (by omega) (by omega) (by first | exact IntWalk.i64_in _ (by omega) | exact IntWalk.u8_in _ (by omega) | exact IntWalk.u32_in _ (by omega) | exact IntWalk.u16_in _ (by omega) | exact IntWalk.i32_in _ (by omega)) rfl ?_
        | refine OT.rem ho_ rfl rfl rfl (by omega) (by omega) rfl ?_
        | refine OT.box _ ho_ rfl rfl rfl (Nat.le_of_ble_eq_true (by rfl)) (by first | exact trivial | exact .inr (.inl ⟨rfl, fun b hb => by cases hb; decide⟩) | exact Side.pass rfl) rfl ?_
        | refine OT.alloc _ ho_ rfl (by first | exact z31 | exact z59 | exact z61) rfl rfl (Nat.le_of_ble_eq_true (by rfl)) (by first | exact trivial | exact .inr (.inl ⟨rfl, fun b hb => by cases hb; decide⟩) | exact Side.pass rfl) rfl ?_
        | refine OT.ldA ho_ rfl rfl (by first | exact ga31 | exact ga59 | exact ga61 | exact ga24) (by first | exact sz3 | exact sz5 | exact sz22 | exact sz31 | exact sz59 | exact sz61 | exact sz24) rfl (Nat.le_of_ble_eq_true (by rfl)) rfl (by first | exact trivial | exact .inr (.inl ⟨rfl, fun b hb => by cases hb; decide⟩) | exact Side.pass rfl) rfl ?_
        | refine OT.st _ ho_ rfl rfl rfl (by first | exact sz3 | exact sz5 | exact sz22 | exact sz31 | exact sz59 | exact sz61 | exact sz24) rfl (by rfl) rfl (by decide) (Nat.le_of_ble_eq_true (by rfl)) rfl (Nat.le_of_ble_eq_true (by rfl)) rfl (by first | exact trivial | exact .inr (.inl ⟨rfl, fun b hb => by cases hb; decide⟩) | exact Side.pass rfl) ?_
        | refine OT.iaddrA ho_ rfl rfl rfl (by first | exact u60 | exact u61 | exact u24) (by first | exact sz3 | exact sz5 | exact sz22 | exact sz31 | exact sz59 | exact sz61 | exact sz24) (by omega) (by omega) rfl ?_
        | refine OT.buildV ho_ rfl rfl (by first | exact bld31 _ _ _ _ _ | exact bld31b _ _) rfl ?_
        | refine OT.mkF ho_ rfl rfl rfl rfl ?_
        | refine OT.maxQ _ ho_ rfl rfl rfl rfl rfl ?_
        | refine OT.minQ _ ho_ rfl rfl rfl rfl rfl ?_
        | refine OT.convI ho_ rfl rfl (by first | exact u3 | exact u5 | exact u22 | exact u56 | exact u21 | exact u25 | exact u33 | exact u42 | exact u2) (by first | exact u3 | exact u5 | exact u22 | exact u56 | exact u21 | exact u25 | exact u33 | exact u42 | exact u2) (by first | exact IntWalk.i64_in _ (by omega) | exact IntWalk.u8_in _ (by omega) | exact IntWalk.u32_in _ (by omega) | exact IntWalk.u16_in _ (by omega) | exact IntWalk.i32_in _ (by omega)) rfl ?_
       clear ho_ i_)
    | refine OT.nil ?_
    | refine Tr.region cx ?_
    | refine Tr.draw cx [] noEv (Valid.none _) (by decide +kernel) ?_
    | refine Tr.cond_true cx rfl ?_
    | refine Tr.cond_false cx rfl ?_
    | refine Tr.seq cx ?_
    | refine Tr.block cx ?_
    | refine Tr.ret cx ?_
    | refine Tr.skip cx ?_
    | refine Tr.exit cx ?_)
    exact ⟨_, _, rfl, rfl, by rfl⟩
theorem i64_wf {n : Int} (h : (Lit.int .i64 n).wf = true) : -9223372036854775808 ≤ n ∧ n ≤ 9223372036854775807 := Go.bounds_i64 h
theorem u16_wf {n : Int} (h : (Lit.int .u16 n).wf = true) : 0 ≤ n ∧ n ≤ 65535 := Go.bounds_u16 h
theorem fits_of {a b c d e : Int} (h : ∀ n ∈ [a, b, c, d, e], (Lit.int .i64 n).wf = true) : I5.Fits ⟨a, b, c, d, e⟩ :=
  ⟨i64_wf (h a (by simp)), i64_wf (h b (by simp)), i64_wf (h c (by simp)), i64_wf (h d (by simp)), i64_wf (h e (by simp))⟩
theorem instInstructions_all (l : List Int) (hl : l.length = 5) (hw : ∀ n ∈ l, (Lit.int .i64 n).wf = true) (n : Int) (hn : (Lit.int .u16 n).wf = true) : ∃ v H2, EvS Tryd.prog (.call 4 #[.agg (l.map (Value.int .i64)).toArray, .int .u16 n] H0) (.value v H2) ∧ v = .bool true := by
  obtain ⟨a, b, c, d, e, rfl⟩ := five hl
  exact instInstructions_ev (fits_of hw) (u16_wf hn).1 (u16_wf hn).2
end Go.Proofs.YtljpjeipgdeioaaDoor
