/-
  A part of the proof: what a piece of the program gives; conditions: those of each theorem.
-/
import Derived.Test.YtljpjeipgdeioaaDoorL8
set_option linter.unusedVariables false
namespace Go.Proofs.YtljpjeipgdeioaaDoor
open Ax
set_option maxHeartbeats 16000000
theorem refuses1 {x0 x1 x2 x3 n w0 w1 : Int} (hx0 : 0 ≤ x0 ∧ x0 ≤ 255) (hx1 : 0 ≤ x1 ∧ x1 ≤ 255) (hx2 : 0 ≤ x2 ∧ x2 ≤ 255) (hx3 : 0 ≤ x3 ∧ x3 ≤ 255) (h0 : 0 ≤ n) (h1 : n ≤ 65535) (hw0 : -32768 ≤ w0 ∧ w0 ≤ 32767) (hw1 : -32768 ≤ w1 ∧ w1 ≤ 32767) (hc : w0 % 65536 % 4 = 1) :
    ∃ v H2, EvS Tryd.prog (.call 7 #[.agg #[.int .u8 x0, .int .u8 x1, .int .u8 x2, .int .u8 x3], .int .u16 n, .agg #[.int .i16 w0, .int .i16 w1]] H0) (.value v H2) ∧ v = .bool true := by
  refine EvS.call cx F7 (fn := Tryd.f7) rfl ⟨by simp [Tryd.f7], by simp⟩ ?_
  obtain ⟨p0, p1, p2⟩ := place_ok h0
  have hP := fun H => place_evH h0 h1 H
  generalize 4 * (n % 16385) = at_ at hP p0 p1 p2
  obtain ⟨m, hm, hM⟩ := made_ev hx0 hx1 hx2 hx3
  have hD : ∀ {H}, Lay G H → EvS Tryd.prog (.call 13 #[.int .u32 m, .int .i64 at_] H) (.value (decI m at_).val H) := fun hL => dec_ev hm.1 hm.2 ⟨p0, by omega⟩ hL
  have hy := ok_dec hm.1 hm.2 at_
  generalize decI m at_ = y at hD hy
  obtain ⟨o, a, b, cc, nn⟩ := y
  have hs := hy.small ⟨p0, by omega⟩
  have hf := hy.fields
  have hr := hy.o_range
  have hm4 := fun h => hy.mod4 h p2
  obtain ⟨s1, s2, s3, s4, s5⟩ := hs
  simp only at s1 s2 s3 s4 s5 hf hr hm4
  have hmax : max o 0 = o := by omega
  replace hD : ∀ {H}, Lay G H → EvS Tryd.prog (.call 13 #[.int .u32 m, .int .i64 at_] H) (.value (inst o a b cc nn) H) := hD
  clear hy
  by_cases k0 : 0 ≤ w1
  · by_cases k1 : w1 ≤ 15
    · have B1 : Bad ⟨o, (w1 + 16), b, cc, nn⟩ := ⟨Small.fits ⟨by simp only; omega, by simp only; omega, by simp only; omega, by simp only; omega, by simp only; omega⟩, fun at2 _ h => by have := h.fields; simp only at this; omega⟩
      by_cases o5 : o < 5
      · repeat (first
    | (refine OT.fetch rfl (fun i_ ho_ => ?_)
       first
        | refine OT.move ho_ rfl rfl rfl ?_
        | refine OT.assign ho_ rfl rfl rfl ?_
        | refine OT.un ho_ rfl rfl ?_
        | refine OT.pickT ho_ rfl rfl rfl rfl ?_
        | refine OT.pickF ho_ rfl rfl rfl rfl ?_
        | refine OT.extract ho_ rfl rfl rfl rfl ?_
        | refine OT.not ho_ rfl rfl rfl ?_
        | refine OT.faddr ho_ rfl rfl (by first | exact us31 | exact us59) (by decide) rfl ?_
        | refine OT.ld ho_ rfl rfl (by first | exact ga25 | exact ga42 | exact ga3 | exact ga4 | exact ga5 | exact ga9 | exact ga22) rfl rfl (by first | exact trivial | exact .inr (.inl ⟨rfl, fun b hb => by cases hb; decide⟩) | exact Side.pass rfl) rfl ?_
        | refine OT.call1 (sanity_ev (lay_of (Nat.le_of_ble_eq_true (by rfl)) (by rfl))) ho_ rfl rfl F10 rfl ?_
        | refine OT.call1 (hP _) ho_ rfl rfl (iF F11) rfl ?_
        | refine OT.call1 (hM (lay_of (Nat.le_of_ble_eq_true (by rfl)) (by rfl))) ho_ rfl rfl (iF F12) rfl ?_
        | refine OT.call1 (hD (lay_of (Nat.le_of_ble_eq_true (by rfl)) (by rfl))) ho_ rfl rfl (iF F13) rfl ?_
        | refine OT.maxQ o ho_ rfl rfl rfl hmax rfl ?_
        | refine OT.convI ho_ rfl rfl u42 u3 (IntWalk.i64_in _ (by omega)) rfl ?_
        | refine OT.convW (w0 % 65536) ho_ rfl rfl u42 u25 u16_wrap rfl ?_
        | refine OT.convW (w1 % 65536) ho_ rfl rfl u42 u25 u16_wrap rfl ?_
        | refine OT.convI ho_ rfl rfl u25 u3 (IntWalk.i64_in _ (by omega)) rfl ?_
        | refine OT.call1 (B1.enc p0 p1 p2 (lay_of (Nat.le_of_ble_eq_true (by rfl)) (by rfl))) ho_ rfl rfl (iF F14) rfl ?_
        | refine OT.call1 (B1.valid (lay_of (Nat.le_of_ble_eq_true (by rfl)) (by rfl))) ho_ rfl rfl (iF F15) rfl ?_
        | refine OT.call1 (B1.print (lay_of (Nat.le_of_ble_eq_true (by rfl)) (by rfl))) ho_ rfl rfl (iF F16) rfl ?_
        | refine OT.bin ho_ rfl rfl rfl neE rfl ?_
        | refine OT.cmpT ho_ rfl rfl rfl rfl (by first | (simp only [cmpP]; done) | (simp only [cmpP]; omega)) rfl ?_
        | refine OT.cmpF ho_ rfl rfl rfl rfl (by first | (simp only [cmpP]; done) | (simp only [cmpP]; omega)) rfl ?_
        | refine OT.add ho_ rfl rfl rfl (by first | exact IntWalk.i64_in _ (by omega) | exact IntWalk.u8_in _ (by omega) | exact IntWalk.u32_in _ (by omega) | exact IntWalk.u16_in _ (by omega) | exact IntWalk.i32_in _ (by omega)) rfl ?_
        | refine OT.sub ho_ rfl rfl rfl (by first | exact IntWalk.i64_in _ (by omega) | exact IntWalk.u8_in _ (by omega) | exact IntWalk.u32_in _ (by omega) | exact IntWalk.u16_in _ (by omega) | exact IntWalk.i32_in _ (by omega)) rfl ?_
        | refine OT.mul ho_ rfl rfl rfl (by first | exact IntWalk.i64_in _ (by omega) | exact IntWalk.u8_in _ (by omega) | exact IntWalk.u32_in _ (by omega) | exact IntWalk.u16_in _ (by omega) | exact IntWalk.i32_in _ (by omega)) rfl ?_
        | refine OT.quo ho_ rfl rfl rfl (by omega) (by omega) (by first | exact IntWalk.i64_in _ (by omega) | exact IntWalk.u8_in _ (by omega) | exact IntWalk.u32_in _ (by omega) | exact IntWalk.u16_in _ (by omega) | exact IntWalk.i32_in _ (by omega)) rfl ?_
        | refine OT.rem ho_ rfl rfl rfl (by omega) (by omega) rfl ?_
        | refine OT.box _ ho_ rfl rfl rfl (Nat.le_of_ble_eq_true (by rfl)) (by first | exact trivial | exact .inr (.inl ⟨rfl, fun b hb => by cases hb; decide⟩) | exact Side.pass rfl) rfl ?_
        | refine OT.alloc _ ho_ rfl (by first | exact z31 | exact z59 | exact z61) rfl rfl (Nat.le_of_ble_eq_true (by rfl)) (by first | exact trivial | exact .inr (.inl ⟨rfl, fun b hb => by cases hb; decide⟩) | exact Side.pass rfl) rfl ?_
        | refine OT.ldA ho_ rfl rfl (by first | exact ga39 | exact ga43 | exact ga31 | exact ga59 | exact ga61 | exact ga24) (by first | exact sz25 | exact sz42 | exact sz3 | exact sz5 | exact sz22 | exact sz31 | exact sz59 | exact sz61 | exact sz24) rfl (Nat.le_of_ble_eq_true (by rfl)) rfl (by first | exact trivial | exact .inr (.inl ⟨rfl, fun b hb => by cases hb; decide⟩) | exact Side.pass rfl) rfl ?_
        | refine OT.st _ ho_ rfl rfl rfl (by first | exact sz25 | exact sz42 | exact sz3 | exact sz5 | exact sz22 | exact sz31 | exact sz59 | exact sz61 | exact sz24) rfl (by rfl) rfl (by decide) (Nat.le_of_ble_eq_true (by rfl)) rfl (Nat.le_of_ble_eq_true (by rfl)) rfl (by first | exact trivial | exact .inr (.inl ⟨rfl, fun b hb => by cases hb; decide⟩) | exact Side.pass rfl) ?_
        | refine OT.iaddrA ho_ rfl rfl rfl (by first | exact u39 | exact u43 | exact u60 | exact u61 | exact u24) (by first | exact sz25 | exact sz42 | exact sz3 | exact sz5 | exact sz22 | exact sz31 | exact sz59 | exact sz61 | exact sz24) (by omega) (by omega) rfl ?_
        | refine OT.buildV ho_ rfl rfl (by first | exact bld31 _ _ _ _ _ | exact bld31b _ _) rfl ?_
        | refine OT.mkF ho_ rfl rfl rfl rfl ?_
        | refine OT.maxQ _ ho_ rfl rfl rfl rfl rfl ?_
        | refine OT.minQ _ ho_ rfl rfl rfl rfl rfl ?_
        | refine OT.convI ho_ rfl rfl (by first | exact u3 | exact u5 | exact u22 | exact u56 | exact u21 | exact u25 | exact u33 | exact u42 | exact u2) (by first | exact u3 | exact u5 | exact u22 | exact u56 | exact u21 | exact u25 | exact u33 | exact u42 | exact u2) (by first | exact IntWalk.i64_in _ (by omega) | exact IntWalk.u8_in _ (by omega) | exact IntWalk.u32_in _ (by omega) | exact IntWalk.u16_in _ (by omega) | exact IntWalk.i32_in _ (by omega)) rfl ?_
       clear ho_ i_)
    | refine OT.nil ?_
    | refine Tr.region cx ?_
    | refine Tr.draw cx [] noEv (Valid.none _) (by decide +kernel) ?_
    | refine Tr.cond_true cx rfl ?_
    | refine Tr.cond_false cx rfl ?_
    | refine Tr.seq cx ?_
    | refine Tr.block cx ?_
    | refine Tr.ret cx ?_
    | refine Tr.skip cx ?_
    | refine Tr.exit cx ?_)
        exact ⟨_, _, rfl, rfl, by rfl⟩
      · have B2 : Bad ⟨o, a, b, cc, nn + (1 + w1 % 65536 % 3)⟩ := ⟨⟨by simp only; omega, by simp only; omega, by simp only; omega, by simp only; omega, by simp only; omega⟩, fun at2 h2 h => by have := h.mod4 (by simp only; omega) h2; simp only at this; have := hm4 (by omega); omega⟩
        repeat (first
    | (refine OT.fetch rfl (fun i_ ho_ => ?_)
       first
        | refine OT.move ho_ rfl rfl rfl ?_
        | refine OT.assign ho_ rfl rfl rfl ?_
        | refine OT.un ho_ rfl rfl ?_
        | refine OT.pickT ho_ rfl rfl rfl rfl ?_
        | refine OT.pickF ho_ rfl rfl rfl rfl ?_
        | refine OT.extract ho_ rfl rfl rfl rfl ?_
        | refine OT.not ho_ rfl rfl rfl ?_
        | refine OT.faddr ho_ rfl rfl (by first | exact us31 | exact us59) (by decide) rfl ?_
        | refine OT.ld ho_ rfl rfl (by first | exact ga25 | exact ga42 | exact ga3 | exact ga4 | exact ga5 | exact ga9 | exact ga22) rfl rfl (by first | exact trivial | exact .inr (.inl ⟨rfl, fun b hb => by cases hb; decide⟩) | exact Side.pass rfl) rfl ?_
        | refine OT.call1 (sanity_ev (lay_of (Nat.le_of_ble_eq_true (by rfl)) (by rfl))) ho_ rfl rfl F10 rfl ?_
        | refine OT.call1 (hP _) ho_ rfl rfl (iF F11) rfl ?_
        | refine OT.call1 (hM (lay_of (Nat.le_of_ble_eq_true (by rfl)) (by rfl))) ho_ rfl rfl (iF F12) rfl ?_
        | refine OT.call1 (hD (lay_of (Nat.le_of_ble_eq_true (by rfl)) (by rfl))) ho_ rfl rfl (iF F13) rfl ?_
        | refine OT.maxQ o ho_ rfl rfl rfl hmax rfl ?_
        | refine OT.convI ho_ rfl rfl u42 u3 (IntWalk.i64_in _ (by omega)) rfl ?_
        | refine OT.convW (w0 % 65536) ho_ rfl rfl u42 u25 u16_wrap rfl ?_
        | refine OT.convW (w1 % 65536) ho_ rfl rfl u42 u25 u16_wrap rfl ?_
        | refine OT.convI ho_ rfl rfl u25 u3 (IntWalk.i64_in _ (by omega)) rfl ?_
        | refine OT.call1 (B1.enc p0 p1 p2 (lay_of (Nat.le_of_ble_eq_true (by rfl)) (by rfl))) ho_ rfl rfl (iF F14) rfl ?_
        | refine OT.call1 (B1.valid (lay_of (Nat.le_of_ble_eq_true (by rfl)) (by rfl))) ho_ rfl rfl (iF F15) rfl ?_
        | refine OT.call1 (B1.print (lay_of (Nat.le_of_ble_eq_true (by rfl)) (by rfl))) ho_ rfl rfl (iF F16) rfl ?_
        | refine OT.bin ho_ rfl rfl rfl neE rfl ?_
        | refine OT.call1 (B2.enc p0 p1 p2 (lay_of (Nat.le_of_ble_eq_true (by rfl)) (by rfl))) ho_ rfl rfl (iF F14) rfl ?_
        | refine OT.call1 (B2.valid (lay_of (Nat.le_of_ble_eq_true (by rfl)) (by rfl))) ho_ rfl rfl (iF F15) rfl ?_
        | refine OT.cmpT ho_ rfl rfl rfl rfl (by first | (simp only [cmpP]; done) | (simp only [cmpP]; omega)) rfl ?_
        | refine OT.cmpF ho_ rfl rfl rfl rfl (by first | (simp only [cmpP]; done) | (simp only [cmpP]; omega)) rfl ?_
        | refine OT.add ho_ rfl rfl rfl (by first | exact IntWalk.i64_in _ (by omega) | exact IntWalk.u8_in _ (by omega) | exact IntWalk.u32_in _ (by omega) | exact IntWalk.u16_in _ (by omega) | exact IntWalk.i32_in _ (by omega)) rfl ?_
        | refine OT.sub ho_ rfl rfl rfl (by first | exact IntWalk.i64_in _ (by omega) | exact IntWalk.u8_in _ (by omega) | exact IntWalk.u32_in _ (by omega) | exact IntWalk.u16_in _ (by omega) | exact IntWalk.i32_in _ (by omega)) rfl ?_
        | refine OT.mul ho_ rfl rfl rfl (by first | exact IntWalk.i64_in _ (by omega) | exact IntWalk.u8_in _ (by omega) | exact IntWalk.u32_in _ (by omega) | exact IntWalk.u16_in _ (by omega) | exact IntWalk.i32_in _ (by omega)) rfl ?_
        | refine OT.quo ho_ rfl rfl rfl (by omega) (by omega) (by first | exact IntWalk.i64_in _ (by omega) | exact IntWalk.u8_in _ (by omega) | exact IntWalk.u32_in _ (by omega) | exact IntWalk.u16_in _ (by omega) | exact IntWalk.i32_in _ (by omega)) rfl ?_
        | refine OT.rem ho_ rfl rfl rfl (by omega) (by omega) rfl ?_
        | refine OT.box _ ho_ rfl rfl rfl (Nat.le_of_ble_eq_true (by rfl)) (by first | exact trivial | exact .inr (.inl ⟨rfl, fun b hb => by cases hb; decide⟩) | exact Side.pass rfl) rfl ?_
        | refine OT.alloc _ ho_ rfl (by first | exact z31 | exact z59 | exact z61) rfl rfl (Nat.le_of_ble_eq_true (by rfl)) (by first | exact trivial | exact .inr (.inl ⟨rfl, fun b hb => by cases hb; decide⟩) | exact Side.pass rfl) rfl ?_
        | refine OT.ldA ho_ rfl rfl (by first | exact ga39 | exact ga43 | exact ga31 | exact ga59 | exact ga61 | exact ga24) (by first | exact sz25 | exact sz42 | exact sz3 | exact sz5 | exact sz22 | exact sz31 | exact sz59 | exact sz61 | exact sz24) rfl (Nat.le_of_ble_eq_true (by rfl)) rfl (by first | exact trivial | exact .inr (.inl ⟨rfl, fun b hb => by cases hb; decide⟩) | exact Side.pass rfl) rfl ?_
        | refine OT.st _ ho_ rfl rfl rfl (by first | exact sz25 | exact sz42 | exact sz3 | exact sz5 | exact sz22 | exact sz31 | exact sz59 | exact sz61 | exact sz24) rfl (by rfl) rfl (by decide) (Nat.le_of_ble_eq_true (by rfl)) rfl (Nat.le_of_ble_eq_true (by rfl)) rfl (by first | exact trivial | exact .inr (.inl ⟨rfl, fun b hb => by cases hb; decide⟩) | exact Side.pass rfl) ?_
        | refine OT.iaddrA ho_ rfl rfl rfl (by first | exact u39 | exact u43 | exact u60 | exact u61 | exact u24) (by first | exact sz25 | exact sz42 | exact sz3 | exact sz5 | exact sz22 | exact sz31 | exact sz59 | exact sz61 | exact sz24) (by omega) (by omega) rfl ?_
        | refine OT.buildV ho_ rfl rfl (by first | exact bld31 _ _ _ _ _ | exact bld31b _ _) rfl ?_
        | refine OT.mkF ho_ rfl rfl rfl rfl ?_
        | refine OT.maxQ _ ho_ rfl rfl rfl rfl rfl ?_
        | refine OT.minQ _ ho_ rfl rfl rfl rfl rfl ?_
        | refine OT.convI ho_ rfl rfl (by first | exact u3 | exact u5 | exact u22 | exact u56 | exact u21 | exact u25 | exact u33 | exact u42 | exact u2) (by first | exact u3 | exact u5 | exact u22 | exact u56 | exact u21 | exact u25 | exact u33 | exact u42 | exact u2) (by first | exact IntWalk.i64_in _ (by omega) | exact IntWalk.u8_in _ (by omega) | exact IntWalk.u32_in _ (by omega) | exact IntWalk.u16_in _ (by omega) | exact IntWalk.i32_in _ (by omega)) rfl ?_
       clear ho_ i_)
    | refine OT.nil ?_
    | refine Tr.region cx ?_
    | refine Tr.draw cx [] noEv (Valid.none _) (by decide +kernel) ?_
    | refine Tr.cond_true cx rfl ?_
    | refine Tr.cond_false cx rfl ?_
    | refine Tr.seq cx ?_
    | refine Tr.block cx ?_
    | refine Tr.ret cx ?_
    | refine Tr.skip cx ?_
    | refine Tr.exit cx ?_)
        exact ⟨_, _, rfl, rfl, by rfl⟩
    · have B1 : Bad ⟨o, (w1), b, cc, nn⟩ := ⟨Small.fits ⟨by simp only; omega, by simp only; omega, by simp only; omega, by simp only; omega, by simp only; omega⟩, fun at2 _ h => by have := h.fields; simp only at this; omega⟩
      by_cases o5 : o < 5
      · repeat (first
    | (refine OT.fetch rfl (fun i_ ho_ => ?_)
       first
        | refine OT.move ho_ rfl rfl rfl ?_
        | refine OT.assign ho_ rfl rfl rfl ?_
        | refine OT.un ho_ rfl rfl ?_
        | refine OT.pickT ho_ rfl rfl rfl rfl ?_
        | refine OT.pickF ho_ rfl rfl rfl rfl ?_
        | refine OT.extract ho_ rfl rfl rfl rfl ?_
        | refine OT.not ho_ rfl rfl rfl ?_
        | refine OT.faddr ho_ rfl rfl (by first | exact us31 | exact us59) (by decide) rfl ?_
        | refine OT.ld ho_ rfl rfl (by first | exact ga25 | exact ga42 | exact ga3 | exact ga4 | exact ga5 | exact ga9 | exact ga22) rfl rfl (by first | exact trivial | exact .inr (.inl ⟨rfl, fun b hb => by cases hb; decide⟩) | exact Side.pass rfl) rfl ?_
        | refine OT.call1 (sanity_ev (lay_of (Nat.le_of_ble_eq_true (by rfl)) (by rfl))) ho_ rfl rfl F10 rfl ?_
        | refine OT.call1 (hP _) ho_ rfl rfl (iF F11) rfl ?_
        | refine OT.call1 (hM (lay_of (Nat.le_of_ble_eq_true (by rfl)) (by rfl))) ho_ rfl rfl (iF F12) rfl ?_
        | refine OT.call1 (hD (lay_of (Nat.le_of_ble_eq_true (by rfl)) (by rfl))) ho_ rfl rfl (iF F13) rfl ?_
        | refine OT.maxQ o ho_ rfl rfl rfl hmax rfl ?_
        | refine OT.convI ho_ rfl rfl u42 u3 (IntWalk.i64_in _ (by omega)) rfl ?_
        | refine OT.convW (w0 % 65536) ho_ rfl rfl u42 u25 u16_wrap rfl ?_
        | refine OT.convW (w1 % 65536) ho_ rfl rfl u42 u25 u16_wrap rfl ?_
        | refine OT.convI ho_ rfl rfl u25 u3 (IntWalk.i64_in _ (by omega)) rfl ?_
        | refine OT.call1 (B1.enc p0 p1 p2 (lay_of (Nat.le_of_ble_eq_true (by rfl)) (by rfl))) ho_ rfl rfl (iF F14) rfl ?_
        | refine OT.call1 (B1.valid (lay_of (Nat.le_of_ble_eq_true (by rfl)) (by rfl))) ho_ rfl rfl (iF F15) rfl ?_
        | refine OT.call1 (B1.print (lay_of (Nat.le_of_ble_eq_true (by rfl)) (by rfl))) ho_ rfl rfl (iF F16) rfl ?_
        | refine OT.bin ho_ rfl rfl rfl neE rfl ?_
        | refine OT.cmpT ho_ rfl rfl rfl rfl (by first | (simp only [cmpP]; done) | (simp only [cmpP]; omega)) rfl ?_
        | refine OT.cmpF ho_ rfl rfl rfl rfl (by first | (simp only [cmpP]; done) | (simp only [cmpP]; omega)) rfl ?_
        | refine OT.add ho_ rfl rfl rfl (by first | exact IntWalk.i64_in _ (by omega) | exact IntWalk.u8_in _ (by omega) | exact IntWalk.u32_in _ (by omega) | exact IntWalk.u16_in _ (by omega) | exact IntWalk.i32_in _ (by omega)) rfl ?_
        | refine OT.sub ho_ rfl rfl rfl (by first | exact IntWalk.i64_in _ (by omega) | exact IntWalk.u8_in _ (by omega) | exact IntWalk.u32_in _ (by omega) | exact IntWalk.u16_in _ (by omega) | exact IntWalk.i32_in _ (by omega)) rfl ?_
        | refine OT.mul ho_ rfl rfl rfl (by first | exact IntWalk.i64_in _ (by omega) | exact IntWalk.u8_in _ (by omega) | exact IntWalk.u32_in _ (by omega) | exact IntWalk.u16_in _ (by omega) | exact IntWalk.i32_in _ (by omega)) rfl ?_
        | refine OT.quo ho_ rfl rfl rfl (by omega) (by omega) (by first | exact IntWalk.i64_in _ (by omega) | exact IntWalk.u8_in _ (by omega) | exact IntWalk.u32_in _ (by omega) | exact IntWalk.u16_in _ (by omega) | exact IntWalk.i32_in _ (by omega)) rfl ?_
        | refine OT.rem ho_ rfl rfl rfl (by omega) (by omega) rfl ?_
        | refine OT.box _ ho_ rfl rfl rfl (Nat.le_of_ble_eq_true (by rfl)) (by first | exact trivial | exact .inr (.inl ⟨rfl, fun b hb => by cases hb; decide⟩) | exact Side.pass rfl) rfl ?_
        | refine OT.alloc _ ho_ rfl (by first | exact z31 | exact z59 | exact z61) rfl rfl (Nat.le_of_ble_eq_true (by rfl)) (by first | exact trivial | exact .inr (.inl ⟨rfl, fun b hb => by cases hb; decide⟩) | exact Side.pass rfl) rfl ?_
        | refine OT.ldA ho_ rfl rfl (by first | exact ga39 | exact ga43 | exact ga31 | exact ga59 | exact ga61 | exact ga24) (by first | exact sz25 | exact sz42 | exact sz3 | exact sz5 | exact sz22 | exact sz31 | exact sz59 | exact sz61 | exact sz24) rfl (Nat.le_of_ble_eq_true (by rfl)) rfl (by first | exact trivial | exact .inr (.inl ⟨rfl, fun b hb => by cases hb; decide⟩) | exact Side.pass rfl) rfl ?_
        | refine OT.st _ ho_ rfl rfl rfl (by first | exact sz25 | exact sz42 | exact sz3 | exact sz5 | exact sz22 | exact sz31 | exact sz59 | exact sz61 | exact sz24) rfl (by rfl) rfl (by decide) (Nat.le_of_ble_eq_true (by rfl)) rfl (Nat.le_of_ble_eq_true (by rfl)) rfl (by first | exact trivial | exact .inr (.inl ⟨rfl, fun b hb => by cases hb; decide⟩) | exact Side.pass rfl) ?_
        | refine OT.iaddrA ho_ rfl rfl rfl (by first | exact u39 | exact u43 | exact u60 | exact u61 | exact u24) (by first | exact sz25 | exact sz42 | exact sz3 | exact sz5 | exact sz22 | exact sz31 | exact sz59 | exact sz61 | exact sz24) (by omega) (by omega) rfl ?_
        | refine OT.buildV ho_ rfl rfl (by first | exact bld31 _ _ _ _ _ | exact bld31b _ _) rfl ?_
        | refine OT.mkF ho_ rfl rfl rfl rfl ?_
        | refine OT.maxQ _ ho_ rfl rfl rfl rfl rfl ?_
        | refine OT.minQ _ ho_ rfl rfl rfl rfl rfl ?_
        | refine OT.convI ho_ rfl rfl (by first | exact u3 | exact u5 | exact u22 | exact u56 | exact u21 | exact u25 | exact u33 | exact u42 | exact u2) (by first | exact u3 | exact u5 | exact u22 | exact u56 | exact u21 | exact u25 | exact u33 | exact u42 | exact u2) (by first | exact IntWalk.i64_in _ (by omega) | exact IntWalk.u8_in _ (by omega) | exact IntWalk.u32_in _ (by omega) | exact IntWalk.u16_in _ (by omega) | exact IntWalk.i32_in _ (by omega)) rfl ?_
       clear ho_ i_)
    | refine OT.nil ?_
    | refine Tr.region cx ?_
    | refine Tr.draw cx [] noEv (Valid.none _) (by decide +kernel) ?_
    | refine Tr.cond_true cx rfl ?_
    | refine Tr.cond_false cx rfl ?_
    | refine Tr.seq cx ?_
    | refine Tr.block cx ?_
    | refine Tr.ret cx ?_
    | refine Tr.skip cx ?_
    | refine Tr.exit cx ?_)
        exact ⟨_, _, rfl, rfl, by rfl⟩
      · have B2 : Bad ⟨o, a, b, cc, nn + (1 + w1 % 65536 % 3)⟩ := ⟨⟨by simp only; omega, by simp only; omega, by simp only; omega, by simp only; omega, by simp only; omega⟩, fun at2 h2 h => by have := h.mod4 (by simp only; omega) h2; simp only at this; have := hm4 (by omega); omega⟩
        repeat (first
    | (refine OT.fetch rfl (fun i_ ho_ => ?_)
       first
        | refine OT.move ho_ rfl rfl rfl ?_
        | refine OT.assign ho_ rfl rfl rfl ?_
        | refine OT.un ho_ rfl rfl ?_
        | refine OT.pickT ho_ rfl rfl rfl rfl ?_
        | refine OT.pickF ho_ rfl rfl rfl rfl ?_
        | refine OT.extract ho_ rfl rfl rfl rfl ?_
        | refine OT.not ho_ rfl rfl rfl ?_
        | refine OT.faddr ho_ rfl rfl (by first | exact us31 | exact us59) (by decide) rfl ?_
        | refine OT.ld ho_ rfl rfl (by first | exact ga25 | exact ga42 | exact ga3 | exact ga4 | exact ga5 | exact ga9 | exact ga22) rfl rfl (by first | exact trivial | exact .inr (.inl ⟨rfl, fun b hb => by cases hb; decide⟩) | exact Side.pass rfl) rfl ?_
        | refine OT.call1 (sanity_ev (lay_of (Nat.le_of_ble_eq_true (by rfl)) (by rfl))) ho_ rfl rfl F10 rfl ?_
        | refine OT.call1 (hP _) ho_ rfl rfl (iF F11) rfl ?_
        | refine OT.call1 (hM (lay_of (Nat.le_of_ble_eq_true (by rfl)) (by rfl))) ho_ rfl rfl (iF F12) rfl ?_
        | refine OT.call1 (hD (lay_of (Nat.le_of_ble_eq_true (by rfl)) (by rfl))) ho_ rfl rfl (iF F13) rfl ?_
        | refine OT.maxQ o ho_ rfl rfl rfl hmax rfl ?_
        | refine OT.convI ho_ rfl rfl u42 u3 (IntWalk.i64_in _ (by omega)) rfl ?_
        | refine OT.convW (w0 % 65536) ho_ rfl rfl u42 u25 u16_wrap rfl ?_
        | refine OT.convW (w1 % 65536) ho_ rfl rfl u42 u25 u16_wrap rfl ?_
        | refine OT.convI ho_ rfl rfl u25 u3 (IntWalk.i64_in _ (by omega)) rfl ?_
        | refine OT.call1 (B1.enc p0 p1 p2 (lay_of (Nat.le_of_ble_eq_true (by rfl)) (by rfl))) ho_ rfl rfl (iF F14) rfl ?_
        | refine OT.call1 (B1.valid (lay_of (Nat.le_of_ble_eq_true (by rfl)) (by rfl))) ho_ rfl rfl (iF F15) rfl ?_
        | refine OT.call1 (B1.print (lay_of (Nat.le_of_ble_eq_true (by rfl)) (by rfl))) ho_ rfl rfl (iF F16) rfl ?_
        | refine OT.bin ho_ rfl rfl rfl neE rfl ?_
        | refine OT.call1 (B2.enc p0 p1 p2 (lay_of (Nat.le_of_ble_eq_true (by rfl)) (by rfl))) ho_ rfl rfl (iF F14) rfl ?_
        | refine OT.call1 (B2.valid (lay_of (Nat.le_of_ble_eq_true (by rfl)) (by rfl))) ho_ rfl rfl (iF F15) rfl ?_
        | refine OT.cmpT ho_ rfl rfl rfl rfl (by first | (simp only [cmpP]; done) | (simp only [cmpP]; omega)) rfl ?_
        | refine OT.cmpF ho_ rfl rfl rfl rfl (by first | (simp only [cmpP]; done) | (simp only [cmpP]; omega)) rfl ?_
        | refine OT.add ho_ rfl rfl rfl (by first | exact IntWalk.i64_in _ (by omega) | exact IntWalk.u8_in _ (by omega) | exact IntWalk.u32_in _ (by omega) | exact IntWalk.u16_in _ (by omega) | exact IntWalk.i32_in _ (by omega)) rfl ?_
        | refine OT.sub ho_ rfl rfl rfl (by first | exact IntWalk.i64_in _ (by omega) | exact IntWalk.u8_in _ (by omega) | exact IntWalk.u32_in _ (by omega) | exact IntWalk.u16_in _ (by omega) | exact IntWalk.i32_in _ (by omega)) rfl ?_
        | refine OT.mul ho_ rfl rfl rfl (by first | exact IntWalk.i64_in _ (by omega) | exact IntWalk.u8_in _ (by omega) | exact IntWalk.u32_in _ (by omega) | exact IntWalk.u16_in _ (by omega) | exact IntWalk.i32_in _ (by omega)) rfl ?_
        | refine OT.quo ho_ rfl rfl rfl (by omega) (by omega) (by first | exact IntWalk.i64_in _ (by omega) | exact IntWalk.u8_in _ (by omega) | exact IntWalk.u32_in _ (by omega) | exact IntWalk.u16_in _ (by omega) | exact IntWalk.i32_in _ (by omega)) rfl ?_
        | refine OT.rem ho_ rfl rfl rfl (by omega) (by omega) rfl ?_
        | refine OT.box _ ho_ rfl rfl rfl (Nat.le_of_ble_eq_true (by rfl)) (by first | exact trivial | exact .inr (.inl ⟨rfl, fun b hb => by cases hb; decide⟩) | exact Side.pass rfl) rfl ?_
        | refine OT.alloc _ ho_ rfl (by first | exact z31 | exact z59 | exact z61) rfl rfl (Nat.le_of_ble_eq_true (by rfl)) (by first | exact trivial | exact .inr (.inl ⟨rfl, fun b hb => by cases hb; decide⟩) | exact Side.pass rfl) rfl ?_
        | refine OT.ldA ho_ rfl rfl (by first | exact ga39 | exact ga43 | exact ga31 | exact ga59 | exact ga61 | exact ga24) (by first | exact sz25 | exact sz42 | exact sz3 | exact sz5 | exact sz22 | exact sz31 | exact sz59 | exact sz61 | exact sz24) rfl (Nat.le_of_ble_eq_true (by rfl)) rfl (by first | exact trivial | exact .inr (.inl ⟨rfl, fun b hb => by cases hb; decide⟩) | exact Side.pass rfl) rfl ?_
        | refine OT.st _ ho_ rfl rfl rfl (by first | exact sz25 | exact sz42 | exact sz3 | exact sz5 | exact sz22 | exact sz31 | exact sz59 | exact sz61 | exact sz24) rfl (by rfl) rfl (by decide) (Nat.le_of_ble_eq_true (by rfl)) rfl (Nat.le_of_ble_eq_true (by rfl)) rfl (by first | exact trivial | exact .inr (.inl ⟨rfl, fun b hb => by cases hb; decide⟩) | exact Side.pass rfl) ?_
        | refine OT.iaddrA ho_ rfl rfl rfl (by first | exact u39 | exact u43 | exact u60 | exact u61 | exact u24) (by first | exact sz25 | exact sz42 | exact sz3 | exact sz5 | exact sz22 | exact sz31 | exact sz59 | exact sz61 | exact sz24) (by omega) (by omega) rfl ?_
        | refine OT.buildV ho_ rfl rfl (by first | exact bld31 _ _ _ _ _ | exact bld31b _ _) rfl ?_
        | refine OT.mkF ho_ rfl rfl rfl rfl ?_
        | refine OT.maxQ _ ho_ rfl rfl rfl rfl rfl ?_
        | refine OT.minQ _ ho_ rfl rfl rfl rfl rfl ?_
        | refine OT.convI ho_ rfl rfl (by first | exact u3 | exact u5 | exact u22 | exact u56 | exact u21 | exact u25 | exact u33 | exact u42 | exact u2) (by first | exact u3 | exact u5 | exact u22 | exact u56 | exact u21 | exact u25 | exact u33 | exact u42 | exact u2) (by first | exact IntWalk.i64_in _ (by omega) | exact IntWalk.u8_in _ (by omega) | exact IntWalk.u32_in _ (by omega) | exact IntWalk.u16_in _ (by omega) | exact IntWalk.i32_in _ (by omega)) rfl ?_
       clear ho_ i_)
    | refine OT.nil ?_
    | refine Tr.region cx ?_
    | refine Tr.draw cx [] noEv (Valid.none _) (by decide +kernel) ?_
    | refine Tr.cond_true cx rfl ?_
    | refine Tr.cond_false cx rfl ?_
    | refine Tr.seq cx ?_
    | refine Tr.block cx ?_
    | refine Tr.ret cx ?_
    | refine Tr.skip cx ?_
    | refine Tr.exit cx ?_)
        exact ⟨_, _, rfl, rfl, by rfl⟩
  · have B1 : Bad ⟨o, (w1), b, cc, nn⟩ := ⟨Small.fits ⟨by simp only; omega, by simp only; omega, by simp only; omega, by simp only; omega, by simp only; omega⟩, fun at2 _ h => by have := h.fields; simp only at this; omega⟩
    by_cases o5 : o < 5
    · repeat (first
    | (refine OT.fetch rfl (fun i_ ho_ => ?_)
       first
        | refine OT.move ho_ rfl rfl rfl ?_
        | refine OT.assign ho_ rfl rfl rfl ?_
        | refine OT.un ho_ rfl rfl ?_
        | refine OT.pickT ho_ rfl rfl rfl rfl ?_
        | refine OT.pickF ho_ rfl rfl rfl rfl ?_
        | refine OT.extract ho_ rfl rfl rfl rfl ?_
        | refine OT.not ho_ rfl rfl rfl ?_
        | refine OT.faddr ho_ rfl rfl (by first | exact us31 | exact us59) (by decide) rfl ?_
        | refine OT.ld ho_ rfl rfl (by first | exact ga25 | exact ga42 | exact ga3 | exact ga4 | exact ga5 | exact ga9 | exact ga22) rfl rfl (by first | exact trivial | exact .inr (.inl ⟨rfl, fun b hb => by cases hb; decide⟩) | exact Side.pass rfl) rfl ?_
        | refine OT.call1 (sanity_ev (lay_of (Nat.le_of_ble_eq_true (by rfl)) (by rfl))) ho_ rfl rfl F10 rfl ?_
        | refine OT.call1 (hP _) ho_ rfl rfl (iF F11) rfl ?_
        | refine OT.call1 (hM (lay_of (Nat.le_of_ble_eq_true (by rfl)) (by rfl))) ho_ rfl rfl (iF F12) rfl ?_
        | refine OT.call1 (hD (lay_of (Nat.le_of_ble_eq_true (by rfl)) (by rfl))) ho_ rfl rfl (iF F13) rfl ?_
        | refine OT.maxQ o ho_ rfl rfl rfl hmax rfl ?_
        | refine OT.convI ho_ rfl rfl u42 u3 (IntWalk.i64_in _ (by omega)) rfl ?_
        | refine OT.convW (w0 % 65536) ho_ rfl rfl u42 u25 u16_wrap rfl ?_
        | refine OT.convW (w1 % 65536) ho_ rfl rfl u42 u25 u16_wrap rfl ?_
        | refine OT.convI ho_ rfl rfl u25 u3 (IntWalk.i64_in _ (by omega)) rfl ?_
        | refine OT.call1 (B1.enc p0 p1 p2 (lay_of (Nat.le_of_ble_eq_true (by rfl)) (by rfl))) ho_ rfl rfl (iF F14) rfl ?_
        | refine OT.call1 (B1.valid (lay_of (Nat.le_of_ble_eq_true (by rfl)) (by rfl))) ho_ rfl rfl (iF F15) rfl ?_
        | refine OT.call1 (B1.print (lay_of (Nat.le_of_ble_eq_true (by rfl)) (by rfl))) ho_ rfl rfl (iF F16) rfl ?_
        | refine OT.bin ho_ rfl rfl rfl neE rfl ?_
        | refine OT.cmpT ho_ rfl rfl rfl rfl (by first | (simp only [cmpP]; done) | (simp only [cmpP]; omega)) rfl ?_
        | refine OT.cmpF ho_ rfl rfl rfl rfl (by first | (simp only [cmpP]; done) | (simp only [cmpP]; omega)) rfl ?_
        | refine OT.add ho_ rfl rfl rfl (by first | exact IntWalk.i64_in _ (by omega) | exact IntWalk.u8_in _ (by omega) | exact IntWalk.u32_in _ (by omega) | exact IntWalk.u16_in _ (by omega) | exact IntWalk.i32_in _ (by omega)) rfl ?_
        | refine OT.sub ho_ rfl rfl rfl (by first | exact IntWalk.i64_in _ (by omega) | exact IntWalk.u8_in _ (by omega) | exact IntWalk.u32_in _ (by omega) | exact IntWalk.u16_in _ (by omega) | exact IntWalk.i32_in _ (by omega)) rfl ?_
        | refine OT.mul ho_ rfl rfl rfl (by first | exact IntWalk.i64_in _ (by omega) | exact IntWalk.u8_in _ (by omega) | exact IntWalk.u32_in _ (by omega) | exact IntWalk.u16_in _ (by omega) | exact IntWalk.i32_in _ (by omega)) rfl ?_
        | refine OT.quo ho_ rfl rfl rfl (by omega) (by omega) (by first | exact IntWalk.i64_in _ (by omega) | exact IntWalk.u8_in _ (by omega) | exact IntWalk.u32_in _ (by omega) | exact IntWalk.u16_in _ (by omega) | exact IntWalk.i32_in _ (by omega)) rfl ?_
        | refine OT.rem ho_ rfl rfl rfl (by omega) (by omega) rfl ?_
        | refine OT.box _ ho_ rfl rfl rfl (Nat.le_of_ble_eq_true (by rfl)) (by first | exact trivial | exact .inr (.inl ⟨rfl, fun b hb => by cases hb; decide⟩) | exact Side.pass rfl) rfl ?_
        | refine OT.alloc _ ho_ rfl (by first | exact z31 | exact z59 | exact z61) rfl rfl (Nat.le_of_ble_eq_true (by rfl)) (by first | exact trivial | exact .inr (.inl ⟨rfl, fun b hb => by cases hb; decide⟩) | exact Side.pass rfl) rfl ?_
        | refine OT.ldA ho_ rfl rfl (by first | exact ga39 | exact ga43 | exact ga31 | exact ga59 | exact ga61 | exact ga24) (by first | exact sz25 | exact sz42 | exact sz3 | exact sz5 | exact sz22 | exact sz31 | exact sz59 | exact sz61 | exact sz24) rfl (Nat.le_of_ble_eq_true (by rfl)) rfl (by first | exact trivial | exact .inr (.inl ⟨rfl, fun b hb => by cases hb; decide⟩) | exact Side.pass rfl) rfl ?_
        | refine OT.st _ ho_ rfl rfl rfl (by first | exact sz25 | exact sz42 | exact sz3 | exact sz5 | exact sz22 | exact sz31 | exact sz59 | exact sz61 | exact sz24) rfl (by rfl) rfl (by decide) (Nat.le_of_ble_eq_true (by rfl)) rfl (Nat.le_of_ble_eq_true (by rfl)) rfl (by first | exact trivial | exact .inr (.inl ⟨rfl, fun b hb => by cases hb; decide⟩) | exact Side.pass rfl) ?_
        | refine OT.iaddrA ho_ rfl rfl rfl (by first | exact u39 | exact u43 | exact u60 | exact u61 | exact u24) (by first | exact sz25 | exact sz42 | exact sz3 | exact sz5 | exact sz22 | exact sz31 | exact sz59 | exact sz61 | exact sz24) (by omega) (by omega) rfl ?_
        | refine OT.buildV ho_ rfl rfl (by first | exact bld31 _ _ _ _ _ | exact bld31b _ _) rfl ?_
        | refine OT.mkF ho_ rfl rfl rfl rfl ?_
        | refine OT.maxQ _ ho_ rfl rfl rfl rfl rfl ?_
        | refine OT.minQ _ ho_ rfl rfl rfl rfl rfl ?_
        | refine OT.convI ho_ rfl rfl (by first | exact u3 | exact u5 | exact u22 | exact u56 | exact u21 | exact u25 | exact u33 | exact u42 | exact u2) (by first | exact u3 | exact u5 | exact u22 | exact u56 | exact u21 | exact u25 | exact u33 | exact u42 | exact u2) (by first | exact IntWalk.i64_in _ (by omega) | exact IntWalk.u8_in _ (by omega) | exact IntWalk.u32_in _ (by omega) | exact IntWalk.u16_in _ (by omega) | exact IntWalk.i32_in _ (by omega)) rfl ?_
       clear ho_ i_)
    | refine OT.nil ?_
    | refine Tr.region cx ?_
    | refine Tr.draw cx [] noEv (Valid.none _) (by decide +kernel) ?_
    | refine Tr.cond_true cx rfl ?_
    | refine Tr.cond_false cx rfl ?_
    | refine Tr.seq cx ?_
    | refine Tr.block cx ?_
    | refine Tr.ret cx ?_
    | refine Tr.skip cx ?_
    | refine Tr.exit cx ?_)
      exact ⟨_, _, rfl, rfl, by rfl⟩
    · have B2 : Bad ⟨o, a, b, cc, nn + (1 + w1 % 65536 % 3)⟩ := ⟨⟨by simp only; omega, by simp only; omega, by simp only; omega, by simp only; omega, by simp only; omega⟩, fun at2 h2 h => by have := h.mod4 (by simp only; omega) h2; simp only at this; have := hm4 (by omega); omega⟩
      repeat (first
    | (refine OT.fetch rfl (fun i_ ho_ => ?_)
       first
        | refine OT.move ho_ rfl rfl rfl ?_
        | refine OT.assign ho_ rfl rfl rfl ?_
        | refine OT.un ho_ rfl rfl ?_
        | refine OT.pickT ho_ rfl rfl rfl rfl ?_
        | refine OT.pickF ho_ rfl rfl rfl rfl ?_
        | refine OT.extract ho_ rfl rfl rfl rfl ?_
        | refine OT.not ho_ rfl rfl rfl ?_
        | refine OT.faddr ho_ rfl rfl (by first | exact us31 | exact us59) (by decide) rfl ?_
        | refine OT.ld ho_ rfl rfl (by first | exact ga25 | exact ga42 | exact ga3 | exact ga4 | exact ga5 | exact ga9 | exact ga22) rfl rfl (by first | exact trivial | exact .inr (.inl ⟨rfl, fun b hb => by cases hb; decide⟩) | exact Side.pass rfl) rfl ?_
        | refine OT.call1 (sanity_ev (lay_of (Nat.le_of_ble_eq_true (by rfl)) (by rfl))) ho_ rfl rfl F10 rfl ?_
        | refine OT.call1 (hP _) ho_ rfl rfl (iF F11) rfl ?_
        | refine OT.call1 (hM (lay_of (Nat.le_of_ble_eq_true (by rfl)) (by rfl))) ho_ rfl rfl (iF F12) rfl ?_
        | refine OT.call1 (hD (lay_of (Nat.le_of_ble_eq_true (by rfl)) (by rfl))) ho_ rfl rfl (iF F13) rfl ?_
        | refine OT.maxQ o ho_ rfl rfl rfl hmax rfl ?_
        | refine OT.convI ho_ rfl rfl u42 u3 (IntWalk.i64_in _ (by omega)) rfl ?_
        | refine OT.convW (w0 % 65536) ho_ rfl rfl u42 u25 u16_wrap rfl ?_
        | refine OT.convW (w1 % 65536) ho_ rfl rfl u42 u25 u16_wrap rfl ?_
        | refine OT.convI ho_ rfl rfl u25 u3 (IntWalk.i64_in _ (by omega)) rfl ?_
        | refine OT.call1 (B1.enc p0 p1 p2 (lay_of (Nat.le_of_ble_eq_true (by rfl)) (by rfl))) ho_ rfl rfl (iF F14) rfl ?_
        | refine OT.call1 (B1.valid (lay_of (Nat.le_of_ble_eq_true (by rfl)) (by rfl))) ho_ rfl rfl (iF F15) rfl ?_
        | refine OT.call1 (B1.print (lay_of (Nat.le_of_ble_eq_true (by rfl)) (by rfl))) ho_ rfl rfl (iF F16) rfl ?_
        | refine OT.bin ho_ rfl rfl rfl neE rfl ?_
        | refine OT.call1 (B2.enc p0 p1 p2 (lay_of (Nat.le_of_ble_eq_true (by rfl)) (by rfl))) ho_ rfl rfl (iF F14) rfl ?_
        | refine OT.call1 (B2.valid (lay_of (Nat.le_of_ble_eq_true (by rfl)) (by rfl))) ho_ rfl rfl (iF F15) rfl ?_
        | refine OT.cmpT ho_ rfl rfl rfl rfl (by first | (simp only [cmpP]; done) | (simp only [cmpP]; omega)) rfl ?_
        | refine OT.cmpF ho_ rfl rfl rfl rfl (by first | (simp only [cmpP]; done) | (simp only [cmpP]; omega)) rfl ?_
        | refine OT.add ho_ rfl rfl rfl (by first | exact IntWalk.i64_in _ (by omega) | exact IntWalk.u8_in _ (by omega) | exact IntWalk.u32_in _ (by omega) | exact IntWalk.u16_in _ (by omega) | exact IntWalk.i32_in _ (by omega)) rfl ?_
        | refine OT.sub ho_ rfl rfl rfl (by first | exact IntWalk.i64_in _ (by omega) | exact IntWalk.u8_in _ (by omega) | exact IntWalk.u32_in _ (by omega) | exact IntWalk.u16_in _ (by omega) | exact IntWalk.i32_in _ (by omega)) rfl ?_
        | refine OT.mul ho_ rfl rfl rfl (by first | exact IntWalk.i64_in _ (by omega) | exact IntWalk.u8_in _ (by omega) | exact IntWalk.u32_in _ (by omega) | exact IntWalk.u16_in _ (by omega) | exact IntWalk.i32_in _ (by omega)) rfl ?_
        | refine OT.quo ho_ rfl rfl rfl (by omega) (by omega) (by first | exact IntWalk.i64_in _ (by omega) | exact IntWalk.u8_in _ (by omega) | exact IntWalk.u32_in _ (by omega) | exact IntWalk.u16_in _ (by omega) | exact IntWalk.i32_in _ (by omega)) rfl ?_
        | refine OT.rem ho_ rfl rfl rfl (by omega) (by omega) rfl ?_
        | refine OT.box _ ho_ rfl rfl rfl (Nat.le_of_ble_eq_true (by rfl)) (by first | exact trivial | exact .inr (.inl ⟨rfl, fun b hb => by cases hb; decide⟩) | exact Side.pass rfl) rfl ?_
        | refine OT.alloc _ ho_ rfl (by first | exact z31 | exact z59 | exact z61) rfl rfl (Nat.le_of_ble_eq_true (by rfl)) (by first | exact trivial | exact .inr (.inl ⟨rfl, fun b hb => by cases hb; decide⟩) | exact Side.pass rfl) rfl ?_
        | refine OT.ldA ho_ rfl rfl (by first | exact ga39 | exact ga43 | exact ga31 | exact ga59 | exact ga61 | exact ga24) (by first | exact sz25 | exact sz42 | exact sz3 | exact sz5 | exact sz22 | exact sz31 | exact sz59 | exact sz61 | exact sz24) rfl (Nat.le_of_ble_eq_true (by rfl)) rfl (by first | exact trivial | exact .inr (.inl ⟨rfl, fun b hb => by cases hb; decide⟩) | exact Side.pass rfl) rfl ?_
        | refine OT.st _ ho_ rfl rfl rfl (by first | exact sz25 | exact sz42 | exact sz3 | exact sz5 | exact sz22 | exact sz31 | exact sz59 | exact sz61 | exact sz24) rfl (by rfl) rfl (by decide) (Nat.le_of_ble_eq_true (by rfl)) rfl (Nat.le_of_ble_eq_true (by rfl)) rfl (by first | exact trivial | exact .inr (.inl ⟨rfl, fun b hb => by cases hb; decide⟩) | exact Side.pass rfl) ?_
        | refine OT.iaddrA ho_ rfl rfl rfl (by first | exact u39 | exact u43 | exact u60 | exact u61 | exact u24) (by first | exact sz25 | exact sz42 | exact sz3 | exact sz5 | exact sz22 | exact sz31 | exact sz59 | exact sz61 | exact sz24) (by omega) (by omega) rfl ?_
        | refine OT.buildV ho_ rfl rfl (by first | exact bld31 _ _ _ _ _ | exact bld31b _ _) rfl ?_
        | refine OT.mkF ho_ rfl rfl rfl rfl ?_
        | refine OT.maxQ _ ho_ rfl rfl rfl rfl rfl ?_
        | refine OT.minQ _ ho_ rfl rfl rfl rfl rfl ?_
        | refine OT.convI ho_ rfl rfl (by first | exact u3 | exact u5 | exact u22 | exact u56 | exact u21 | exact u25 | exact u33 | exact u42 | exact u2) (by first | exact u3 | exact u5 | exact u22 | exact u56 | exact u21 | exact u25 | exact u33 | exact u42 | exact u2) (by first | exact IntWalk.i64_in _ (by omega) | exact IntWalk.u8_in _ (by omega) | exact IntWalk.u32_in _ (by omega) | exact IntWalk.u16_in _ (by omega) | exact IntWalk.i32_in _ (by omega)) rfl ?_
       clear ho_ i_)
    | refine OT.nil ?_
    | refine Tr.region cx ?_
    | refine Tr.draw cx [] noEv (Valid.none _) (by decide +kernel) ?_
    | refine Tr.cond_true cx rfl ?_
    | refine Tr.cond_false cx rfl ?_
    | refine Tr.seq cx ?_
    | refine Tr.block cx ?_
    | refine Tr.ret cx ?_
    | refine Tr.skip cx ?_
    | refine Tr.exit cx ?_)
      exact ⟨_, _, rfl, rfl, by rfl⟩
end Go.Proofs.YtljpjeipgdeioaaDoor
