/-
  A part of the proof: what a piece of the program gives; conditions: those of each theorem.
-/
import Derived.Test.YtljpjeipgdeioaaDoorBase2
set_option linter.unusedVariables false
namespace Go.Proofs.YtljpjeipgdeioaaDoor
open Ax
set_option maxHeartbeats 2000000
theorem octet_ev (w : Int) (h0 : 0 ≤ w) (h1 : w < 4294967296) (H : AHeap) (j q : Int) (hj : 0 ≤ j ∧ j ≤ 3) (hq : (2 : Int) ^ (24 - 8 * j).toNat = q) : ∃ v H2, EvS Tryd.prog (.call 23 #[.int .u32 w, .int .i64 j] H) (.value v H2) ∧ (v = .int .i64 (w / q % 256) ∧ H2 = H) := by
  refine EvS.call cx F23 (fn := Tryd.f23) rfl ⟨by simp [Tryd.f23], by simp⟩ ?_
  repeat (first
    | (refine OT.fetch rfl (fun i_ ho_ => ?_)
       first
        | refine OT.move ho_ rfl rfl rfl ?_
        | refine OT.assign ho_ rfl rfl rfl ?_
        | refine OT.un ho_ rfl rfl ?_
        | refine OT.pickT ho_ rfl rfl rfl rfl ?_
        | refine OT.pickF ho_ rfl rfl rfl rfl ?_
        | refine OT.extract ho_ rfl rfl rfl rfl ?_
        | refine OT.not ho_ rfl rfl rfl ?_
        | refine OT.faddr ho_ rfl rfl (by first | exact us31 | exact us59) (by decide) rfl ?_
        | refine OT.ld ho_ rfl rfl (by first | exact ga3 | exact ga4 | exact ga5 | exact ga9 | exact ga22) rfl rfl (by first | exact trivial | exact .inr (.inl ⟨rfl, fun b hb => by cases hb; decide⟩) | exact Side.pass rfl) rfl ?_
        | refine OT.shr q ho_ rfl rfl rfl (by omega) (by simp only [IntKind.bits]; omega) hq rfl ?_
        | refine OT.convW (w / q % 256) ho_ rfl rfl u56 u5 u8_wrap rfl ?_
        | refine OT.convI ho_ rfl rfl u5 u3 (IntWalk.i64_in _ (by omega)) rfl ?_
        | refine OT.cmpT ho_ rfl rfl rfl rfl (by first | (simp only [cmpP]; done) | (simp only [cmpP]; omega)) rfl ?_
        | refine OT.cmpF ho_ rfl rfl rfl rfl (by first | (simp only [cmpP]; done) | (simp only [cmpP]; omega)) rfl ?_
        | refine OT.add ho_ rfl rfl rfl (by first | exact IntWalk.i64_in _ (by omega) | exact IntWalk.u8_in _ (by omega) | exact IntWalk.u32_in _ (by omega) | exact IntWalk.u16_in _ (by omega) | exact IntWalk.i32_in _ (by omega)) rfl ?_
        | refine OT.sub ho_ rfl rfl rfl (by first | exact IntWalk.i64_in _ (by omega) | exact IntWalk.u8_in _ (by omega) | exact IntWalk.u32_in _ (by omega) | exact IntWalk.u16_in _ (by omega) | exact IntWalk.i32_in _ (by omega)) rfl ?_
        | refine OT.mul ho_ rfl rfl rfl (by first | exact IntWalk.i64_in _ (by omega) | exact IntWalk.u8_in _ (by omega) | exact IntWalk.u32_in _ (by omega) | exact IntWalk.u16_in _ (by omega) | exact IntWalk.i32_in _ (by omega)) rfl ?_
        | refine OT.quo ho_ rfl rfl rfl (by omega) (by omega) (by first | exact IntWalk.i64_in _ (by omega) | exact IntWalk.u8_in _ (by omega) | exact IntWalk.u32_in _ (by omega) | exact IntWalk.u16_in _ (by omega) | exact IntWalk.i32_in _ (by omega)) rfl ?_
        | refine OT.rem ho_ rfl rfl rfl (by omega) (by omega) rfl ?_
        | refine OT.box _ ho_ rfl rfl rfl (by decide) (by first | exact trivial | exact .inr (.inl ⟨rfl, fun b hb => by cases hb; decide⟩) | exact Side.pass rfl) rfl ?_
        | refine OT.alloc _ ho_ rfl (by first | exact z31 | exact z59 | exact z61) rfl rfl (by decide) (by first | exact trivial | exact .inr (.inl ⟨rfl, fun b hb => by cases hb; decide⟩) | exact Side.pass rfl) rfl ?_
        | refine OT.ldA ho_ rfl rfl (by first | exact ga31 | exact ga59 | exact ga61) (by first | exact sz3 | exact sz5 | exact sz22 | exact sz31 | exact sz59 | exact sz61) rfl (by decide) rfl (by first | exact trivial | exact .inr (.inl ⟨rfl, fun b hb => by cases hb; decide⟩) | exact Side.pass rfl) rfl ?_
        | refine OT.st _ ho_ rfl rfl rfl (by first | exact sz3 | exact sz5 | exact sz22 | exact sz31 | exact sz59 | exact sz61) rfl rfl rfl (by decide) (by decide) rfl (by decide) rfl (by first | exact trivial | exact .inr (.inl ⟨rfl, fun b hb => by cases hb; decide⟩) | exact Side.pass rfl) ?_
        | refine OT.iaddrA ho_ rfl rfl rfl (by first | exact u60 | exact u61) (by first | exact sz3 | exact sz5 | exact sz22 | exact sz31 | exact sz59 | exact sz61) (by omega) (by omega) rfl ?_
        | refine OT.mkF ho_ rfl rfl rfl rfl ?_
        | refine OT.maxI ho_ rfl rfl rfl rfl ?_
        | refine OT.minI ho_ rfl rfl rfl rfl ?_
        | refine OT.convI ho_ rfl rfl (by first | exact u3 | exact u5 | exact u22 | exact u56 | exact u21 | exact u25 | exact u33 | exact u42 | exact u2) (by first | exact u3 | exact u5 | exact u22 | exact u56 | exact u21 | exact u25 | exact u33 | exact u42 | exact u2) (by first | exact IntWalk.i64_in _ (by omega) | exact IntWalk.u8_in _ (by omega) | exact IntWalk.u32_in _ (by omega) | exact IntWalk.u16_in _ (by omega) | exact IntWalk.i32_in _ (by omega)) rfl ?_)
    | refine OT.nil ?_
    | refine Tr.region cx ?_
    | refine Tr.draw cx [] noEv (Valid.none _) (by decide +kernel) ?_
    | refine Tr.cond_true cx rfl ?_
    | refine Tr.cond_false cx rfl ?_
    | refine Tr.seq cx ?_
    | refine Tr.block cx ?_
    | refine Tr.ret cx ?_
    | refine Tr.skip cx ?_
    | refine Tr.exit cx ?_)
  exact ⟨_, _, rfl, rfl, rfl, rfl⟩
end Go.Proofs.YtljpjeipgdeioaaDoor
