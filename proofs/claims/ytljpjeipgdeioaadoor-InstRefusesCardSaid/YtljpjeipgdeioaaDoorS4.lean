/-
  A part of the proof: what a piece of the program gives; conditions: those of each theorem.
-/
import Derived.Test.YtljpjeipgdeioaaDoorS3
set_option linter.unusedVariables false
namespace Go.Proofs.YtljpjeipgdeioaaDoor
open Ax
set_option maxHeartbeats 8000000
theorem lay_of {H : AHeap} (h1 : 30 ≤ H.next) (h2 : H.t.get 0 = some (.cells kindCells 60 2)) : Lay G H := ⟨h1, fun g x h => by obtain ⟨rfl, rfl⟩ := G_get h; exact h2⟩
/-- What low and lowSigned give, by a kind's bits. -/
theorem lowE0 {w : Int} (h0 : 0 ≤ w) (h1 : w < 4294967296) (H : AHeap) : EvS Tryd.prog (.call 28 #[.int .u32 w, .int .i64 0] H) (.value (.int .i64 0) H) := by
  obtain ⟨v, H2, h, rfl, rfl⟩ := low_ev w h0 h1 H 0 4294967296 (by omega) (by decide) (by decide)
  rwa [low0] at h
theorem lowE16 {w : Int} (h0 : 0 ≤ w) (h1 : w < 4294967296) (H : AHeap) : EvS Tryd.prog (.call 28 #[.int .u32 w, .int .i64 16] H) (.value (.int .i64 (w % 65536)) H) := by
  obtain ⟨v, H2, h, rfl, rfl⟩ := low_ev w h0 h1 H 16 65536 (by omega) (by decide) (by decide)
  rwa [low16] at h
theorem lowE24 {w : Int} (h0 : 0 ≤ w) (h1 : w < 4294967296) (H : AHeap) : EvS Tryd.prog (.call 28 #[.int .u32 w, .int .i64 24] H) (.value (.int .i64 (w % 16777216)) H) := by
  obtain ⟨v, H2, h, rfl, rfl⟩ := low_ev w h0 h1 H 24 256 (by omega) (by decide) (by decide)
  rwa [low24] at h
theorem lowE32 {w : Int} (h0 : 0 ≤ w) (h1 : w < 4294967296) (H : AHeap) : EvS Tryd.prog (.call 28 #[.int .u32 w, .int .i64 32] H) (.value (.int .i64 w) H) := by
  obtain ⟨v, H2, h, rfl, rfl⟩ := low_ev w h0 h1 H 32 1 (by omega) (by decide) (by decide)
  rwa [low32 w h0 h1] at h
theorem lowS16E {w : Int} (h0 : 0 ≤ w) (h1 : w < 4294967296) (H : AHeap) : EvS Tryd.prog (.call 29 #[.int .u32 w, .int .i64 16] H) (.value (.int .i64 (sgn (w % 65536) 65536)) H) := by
  obtain ⟨v, H2, h, rfl, rfl⟩ := lowSigned_ev w h0 h1 H 16 65536 (by omega) (by decide) (by decide) _ (lowS16 w) (by unfold sgn; split <;> omega)
  exact h
theorem lowS24E {w : Int} (h0 : 0 ≤ w) (h1 : w < 4294967296) (H : AHeap) : EvS Tryd.prog (.call 29 #[.int .u32 w, .int .i64 24] H) (.value (.int .i64 (sgn (w % 16777216) 16777216)) H) := by
  obtain ⟨v, H2, h, rfl, rfl⟩ := lowSigned_ev w h0 h1 H 24 256 (by omega) (by decide) (by decide) _ (lowS24 w) (by unfold sgn; split <;> omega)
  exact h
def kd (s : List UInt8) (r b : Int) (g t : Bool) : Value := .agg #[bstr s, .int .i64 r, .int .i64 b, .bool g, .bool t]
theorem numberU {s : List UInt8} {r b : Int} {t : Bool} {w q : Int} (hq : ∀ H, EvS Tryd.prog (.call 28 #[.int .u32 w, .int .i64 b] H) (.value (.int .i64 q) H)) {H : AHeap} (hL : Lay G H) :
    EvS Tryd.prog (.call 24 #[kd s r b false t, .int .u32 w] H) (.value (.int .i64 q) H) := by
  have : ∃ v H2, EvS Tryd.prog (.call 24 #[kd s r b false t, .int .u32 w] H0) (.value v H2) ∧ v = .int .i64 q := by
    refine EvS.call cx F24 (fn := Tryd.f24) rfl ⟨by simp [Tryd.f24], by simp⟩ ?_
    repeat (first
    | (refine OT.fetch rfl (fun i_ ho_ => ?_)
       first
        | refine OT.move ho_ rfl rfl rfl ?_
        | refine OT.assign ho_ rfl rfl rfl ?_
        | refine OT.un ho_ rfl rfl ?_
        | refine OT.pickT ho_ rfl rfl rfl rfl ?_
        | refine OT.pickF ho_ rfl rfl rfl rfl ?_
        | refine OT.extract ho_ rfl rfl rfl rfl ?_
        | refine OT.not ho_ rfl rfl rfl ?_
        | refine OT.faddr ho_ rfl rfl (by first | exact us31 | exact us59) (by decide) rfl ?_
        | refine OT.ld ho_ rfl rfl (by first | exact ga3 | exact ga4 | exact ga5 | exact ga9 | exact ga22) rfl rfl (by first | exact trivial | exact .inr (.inl ⟨rfl, fun b hb => by cases hb; decide⟩) | exact Side.pass rfl) rfl ?_
        | refine OT.callV ho_ rfl rfl rfl (hq _) (iF F28) rfl ?_
        | refine OT.cmpT ho_ rfl rfl rfl rfl (by first | (simp only [cmpP]; done) | (simp only [cmpP]; omega)) rfl ?_
        | refine OT.cmpF ho_ rfl rfl rfl rfl (by first | (simp only [cmpP]; done) | (simp only [cmpP]; omega)) rfl ?_
        | refine OT.add ho_ rfl rfl rfl (by first | exact IntWalk.i64_in _ (by omega) | exact IntWalk.u8_in _ (by omega) | exact IntWalk.u32_in _ (by omega) | exact IntWalk.u16_in _ (by omega) | exact IntWalk.i32_in _ (by omega)) rfl ?_
        | refine OT.sub ho_ rfl rfl rfl (by first | exact IntWalk.i64_in _ (by omega) | exact IntWalk.u8_in _ (by omega) | exact IntWalk.u32_in _ (by omega) | exact IntWalk.u16_in _ (by omega) | exact IntWalk.i32_in _ (by omega)) rfl ?_
        | refine OT.mul ho_ rfl rfl rfl (by first | exact IntWalk.i64_in _ (by omega) | exact IntWalk.u8_in _ (by omega) | exact IntWalk.u32_in _ (by omega) | exact IntWalk.u16_in _ (by omega) | exact IntWalk.i32_in _ (by omega)) rfl ?_
        | refine OT.quo ho_ rfl rfl rfl (by omega) (by omega) (by first | exact IntWalk.i64_in _ (by omega) | exact IntWalk.u8_in _ (by omega) | exact IntWalk.u32_in _ (by omega) | exact IntWalk.u16_in _ (by omega) | exact IntWalk.i32_in _ (by omega)) rfl ?_
        | refine OT.rem ho_ rfl rfl rfl (by omega) (by omega) rfl ?_
        | refine OT.box _ ho_ rfl rfl rfl (by decide) (by first | exact trivial | exact .inr (.inl ⟨rfl, fun b hb => by cases hb; decide⟩) | exact Side.pass rfl) rfl ?_
        | refine OT.alloc _ ho_ rfl (by first | exact z31 | exact z59 | exact z61) rfl rfl (by decide) (by first | exact trivial | exact .inr (.inl ⟨rfl, fun b hb => by cases hb; decide⟩) | exact Side.pass rfl) rfl ?_
        | refine OT.ldA ho_ rfl rfl (by first | exact ga31 | exact ga59 | exact ga61 | exact ga24) (by first | exact sz3 | exact sz5 | exact sz22 | exact sz31 | exact sz59 | exact sz61 | exact sz24) rfl (by decide) rfl (by first | exact trivial | exact .inr (.inl ⟨rfl, fun b hb => by cases hb; decide⟩) | exact Side.pass rfl) rfl ?_
        | refine OT.st _ ho_ rfl rfl rfl (by first | exact sz3 | exact sz5 | exact sz22 | exact sz31 | exact sz59 | exact sz61 | exact sz24) rfl rfl rfl (by decide) (by decide) rfl (by decide) rfl (by first | exact trivial | exact .inr (.inl ⟨rfl, fun b hb => by cases hb; decide⟩) | exact Side.pass rfl) ?_
        | refine OT.iaddrA ho_ rfl rfl rfl (by first | exact u60 | exact u61 | exact u24) (by first | exact sz3 | exact sz5 | exact sz22 | exact sz31 | exact sz59 | exact sz61 | exact sz24) (by omega) (by omega) rfl ?_
        | refine OT.mkF ho_ rfl rfl rfl rfl ?_
        | refine OT.maxQ _ ho_ rfl rfl rfl rfl rfl ?_
        | refine OT.minQ _ ho_ rfl rfl rfl rfl rfl ?_
        | refine OT.convI ho_ rfl rfl (by first | exact u3 | exact u5 | exact u22 | exact u56 | exact u21 | exact u25 | exact u33 | exact u42 | exact u2) (by first | exact u3 | exact u5 | exact u22 | exact u56 | exact u21 | exact u25 | exact u33 | exact u42 | exact u2) (by first | exact IntWalk.i64_in _ (by omega) | exact IntWalk.u8_in _ (by omega) | exact IntWalk.u32_in _ (by omega) | exact IntWalk.u16_in _ (by omega) | exact IntWalk.i32_in _ (by omega)) rfl ?_
       clear ho_ i_)
    | refine OT.nil ?_
    | refine Tr.region cx ?_
    | refine Tr.draw cx [] noEv (Valid.none _) (by decide +kernel) ?_
    | refine Tr.cond_true cx rfl ?_
    | refine Tr.cond_false cx rfl ?_
    | refine Tr.seq cx ?_
    | refine Tr.block cx ?_
    | refine Tr.ret cx ?_
    | refine Tr.skip cx ?_
    | refine Tr.exit cx ?_)
    exact ⟨_, _, rfl, rfl, rfl⟩
  obtain ⟨v, H2, h, rfl⟩ := this
  exact EvS.frame hG rfl rfl h hL
theorem numberS {s : List UInt8} {r b : Int} {t : Bool} {w q : Int} (hq : ∀ H, EvS Tryd.prog (.call 29 #[.int .u32 w, .int .i64 b] H) (.value (.int .i64 q) H)) {H : AHeap} (hL : Lay G H) :
    EvS Tryd.prog (.call 24 #[kd s r b true t, .int .u32 w] H) (.value (.int .i64 q) H) := by
  have : ∃ v H2, EvS Tryd.prog (.call 24 #[kd s r b true t, .int .u32 w] H0) (.value v H2) ∧ v = .int .i64 q := by
    refine EvS.call cx F24 (fn := Tryd.f24) rfl ⟨by simp [Tryd.f24], by simp⟩ ?_
    repeat (first
    | (refine OT.fetch rfl (fun i_ ho_ => ?_)
       first
        | refine OT.move ho_ rfl rfl rfl ?_
        | refine OT.assign ho_ rfl rfl rfl ?_
        | refine OT.un ho_ rfl rfl ?_
        | refine OT.pickT ho_ rfl rfl rfl rfl ?_
        | refine OT.pickF ho_ rfl rfl rfl rfl ?_
        | refine OT.extract ho_ rfl rfl rfl rfl ?_
        | refine OT.not ho_ rfl rfl rfl ?_
        | refine OT.faddr ho_ rfl rfl (by first | exact us31 | exact us59) (by decide) rfl ?_
        | refine OT.ld ho_ rfl rfl (by first | exact ga3 | exact ga4 | exact ga5 | exact ga9 | exact ga22) rfl rfl (by first | exact trivial | exact .inr (.inl ⟨rfl, fun b hb => by cases hb; decide⟩) | exact Side.pass rfl) rfl ?_
        | refine OT.callV ho_ rfl rfl rfl (hq _) (iF F29) rfl ?_
        | refine OT.cmpT ho_ rfl rfl rfl rfl (by first | (simp only [cmpP]; done) | (simp only [cmpP]; omega)) rfl ?_
        | refine OT.cmpF ho_ rfl rfl rfl rfl (by first | (simp only [cmpP]; done) | (simp only [cmpP]; omega)) rfl ?_
        | refine OT.add ho_ rfl rfl rfl (by first | exact IntWalk.i64_in _ (by omega) | exact IntWalk.u8_in _ (by omega) | exact IntWalk.u32_in _ (by omega) | exact IntWalk.u16_in _ (by omega) | exact IntWalk.i32_in _ (by omega)) rfl ?_
        | refine OT.sub ho_ rfl rfl rfl (by first | exact IntWalk.i64_in _ (by omega) | exact IntWalk.u8_in _ (by omega) | exact IntWalk.u32_in _ (by omega) | exact IntWalk.u16_in _ (by omega) | exact IntWalk.i32_in _ (by omega)) rfl ?_
        | refine OT.mul ho_ rfl rfl rfl (by first | exact IntWalk.i64_in _ (by omega) | exact IntWalk.u8_in _ (by omega) | exact IntWalk.u32_in _ (by omega) | exact IntWalk.u16_in _ (by omega) | exact IntWalk.i32_in _ (by omega)) rfl ?_
        | refine OT.quo ho_ rfl rfl rfl (by omega) (by omega) (by first | exact IntWalk.i64_in _ (by omega) | exact IntWalk.u8_in _ (by omega) | exact IntWalk.u32_in _ (by omega) | exact IntWalk.u16_in _ (by omega) | exact IntWalk.i32_in _ (by omega)) rfl ?_
        | refine OT.rem ho_ rfl rfl rfl (by omega) (by omega) rfl ?_
        | refine OT.box _ ho_ rfl rfl rfl (by decide) (by first | exact trivial | exact .inr (.inl ⟨rfl, fun b hb => by cases hb; decide⟩) | exact Side.pass rfl) rfl ?_
        | refine OT.alloc _ ho_ rfl (by first | exact z31 | exact z59 | exact z61) rfl rfl (by decide) (by first | exact trivial | exact .inr (.inl ⟨rfl, fun b hb => by cases hb; decide⟩) | exact Side.pass rfl) rfl ?_
        | refine OT.ldA ho_ rfl rfl (by first | exact ga31 | exact ga59 | exact ga61 | exact ga24) (by first | exact sz3 | exact sz5 | exact sz22 | exact sz31 | exact sz59 | exact sz61 | exact sz24) rfl (by decide) rfl (by first | exact trivial | exact .inr (.inl ⟨rfl, fun b hb => by cases hb; decide⟩) | exact Side.pass rfl) rfl ?_
        | refine OT.st _ ho_ rfl rfl rfl (by first | exact sz3 | exact sz5 | exact sz22 | exact sz31 | exact sz59 | exact sz61 | exact sz24) rfl rfl rfl (by decide) (by decide) rfl (by decide) rfl (by first | exact trivial | exact .inr (.inl ⟨rfl, fun b hb => by cases hb; decide⟩) | exact Side.pass rfl) ?_
        | refine OT.iaddrA ho_ rfl rfl rfl (by first | exact u60 | exact u61 | exact u24) (by first | exact sz3 | exact sz5 | exact sz22 | exact sz31 | exact sz59 | exact sz61 | exact sz24) (by omega) (by omega) rfl ?_
        | refine OT.mkF ho_ rfl rfl rfl rfl ?_
        | refine OT.maxQ _ ho_ rfl rfl rfl rfl rfl ?_
        | refine OT.minQ _ ho_ rfl rfl rfl rfl rfl ?_
        | refine OT.convI ho_ rfl rfl (by first | exact u3 | exact u5 | exact u22 | exact u56 | exact u21 | exact u25 | exact u33 | exact u42 | exact u2) (by first | exact u3 | exact u5 | exact u22 | exact u56 | exact u21 | exact u25 | exact u33 | exact u42 | exact u2) (by first | exact IntWalk.i64_in _ (by omega) | exact IntWalk.u8_in _ (by omega) | exact IntWalk.u32_in _ (by omega) | exact IntWalk.u16_in _ (by omega) | exact IntWalk.i32_in _ (by omega)) rfl ?_
       clear ho_ i_)
    | refine OT.nil ?_
    | refine Tr.region cx ?_
    | refine Tr.draw cx [] noEv (Valid.none _) (by decide +kernel) ?_
    | refine Tr.cond_true cx rfl ?_
    | refine Tr.cond_false cx rfl ?_
    | refine Tr.seq cx ?_
    | refine Tr.block cx ?_
    | refine Tr.ret cx ?_
    | refine Tr.skip cx ?_
    | refine Tr.exit cx ?_)
    exact ⟨_, _, rfl, rfl, rfl⟩
  obtain ⟨v, H2, h, rfl⟩ := this
  exact EvS.frame hG rfl rfl h hL
end Go.Proofs.YtljpjeipgdeioaaDoor
