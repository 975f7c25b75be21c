/-
  A part of the proof: what a piece of the program gives; conditions: those of each theorem.
-/
import Derived.Test.YtljpjeipgdeioaaDoorL7
set_option linter.unusedVariables false
namespace Go.Proofs.YtljpjeipgdeioaaDoor
open Ax
set_option maxHeartbeats 16000000
theorem print_bad0 {o a b c n : Int} (hx : I5.Fits ⟨o, a, b, c, n⟩) (hv : validS ⟨o, a, b, c, n⟩ = false) : ∃ v H2, EvS Tryd.prog (.call 16 #[inst o a b c n] H0) (.value v H2) ∧ v = bstr [] := by
  refine EvS.call cx F16 (fn := Tryd.f16) rfl ⟨by simp [Tryd.f16], by simp⟩ ?_
  have hV : ∀ {H}, Lay G H → EvS Tryd.prog (.call 15 #[inst o a b c n] H) (.value (.bool false) H) := fun {H} hL => by
    have := valid_ev hx hL
    rwa [hv] at this
  repeat (first
    | (refine OT.fetch rfl (fun i_ ho_ => ?_)
       first
        | refine OT.move ho_ rfl rfl rfl ?_
        | refine OT.assign ho_ rfl rfl rfl ?_
        | refine OT.un ho_ rfl rfl ?_
        | refine OT.pickT ho_ rfl rfl rfl rfl ?_
        | refine OT.pickF ho_ rfl rfl rfl rfl ?_
        | refine OT.extract ho_ rfl rfl rfl rfl ?_
        | refine OT.not ho_ rfl rfl rfl ?_
        | refine OT.faddr ho_ rfl rfl (by first | exact us31 | exact us59) (by decide) rfl ?_
        | refine OT.ld ho_ rfl rfl (by first | exact ga25 | exact ga42 | exact ga3 | exact ga4 | exact ga5 | exact ga9 | exact ga22) rfl rfl (by first | exact trivial | exact .inr (.inl ⟨rfl, fun b hb => by cases hb; decide⟩) | exact Side.pass rfl) rfl ?_
        | refine OT.call1 (hV (lay_of (Nat.le_of_ble_eq_true (by rfl)) (by rfl))) ho_ rfl rfl (iF F15) rfl ?_
        | refine OT.cmpT ho_ rfl rfl rfl rfl (by first | (simp only [cmpP]; done) | (simp only [cmpP]; omega)) rfl ?_
        | refine OT.cmpF ho_ rfl rfl rfl rfl (by first | (simp only [cmpP]; done) | (simp only [cmpP]; omega)) rfl ?_
        | refine OT.add ho_ rfl rfl rfl (by first | exact IntWalk.i64_in _ (by omega) | exact IntWalk.u8_in _ (by omega) | exact IntWalk.u32_in _ (by omega) | exact IntWalk.u16_in _ (by omega) | exact IntWalk.i32_in _ (by omega)) rfl ?_
        | refine OT.sub ho_ rfl rfl rfl (by first | exact IntWalk.i64_in _ (by omega) | exact IntWalk.u8_in _ (by omega) | exact IntWalk.u32_in _ (by omega) | exact IntWalk.u16_in _ (by omega) | exact IntWalk.i32_in _ (by omega)) rfl ?_
        | refine OT.mul ho_ rfl rfl rfl (by first | exact IntWalk.i64_in _ (by omega) | exact IntWalk.u8_in _ (by omega) | exact IntWalk.u32_in _ (by omega) | exact IntWalk.u16_in _ (by omega) | exact IntWalk.i32_in _ (by omega)) rfl ?_
        | refine OT.quo ho_ rfl rfl rfl (by omega) (by omega) (by first | exact IntWalk.i64_in _ (by omega) | exact IntWalk.u8_in _ (by omega) | exact IntWalk.u32_in _ (by omega) | exact IntWalk.u16_in _ (by omega) | exact IntWalk.i32_in _ (by omega)) rfl ?_
        | refine OT.rem ho_ rfl rfl rfl (by omega) (by omega) rfl ?_
        | refine OT.box _ ho_ rfl rfl rfl (Nat.le_of_ble_eq_true (by rfl)) (by first | exact trivial | exact .inr (.inl ⟨rfl, fun b hb => by cases hb; decide⟩) | exact Side.pass rfl) rfl ?_
        | refine OT.alloc _ ho_ rfl (by first | exact z31 | exact z59 | exact z61) rfl rfl (Nat.le_of_ble_eq_true (by rfl)) (by first | exact trivial | exact .inr (.inl ⟨rfl, fun b hb => by cases hb; decide⟩) | exact Side.pass rfl) rfl ?_
        | refine OT.ldA ho_ rfl rfl (by first | exact ga39 | exact ga43 | exact ga31 | exact ga59 | exact ga61 | exact ga24) (by first | exact sz25 | exact sz42 | exact sz3 | exact sz5 | exact sz22 | exact sz31 | exact sz59 | exact sz61 | exact sz24) rfl (Nat.le_of_ble_eq_true (by rfl)) rfl (by first | exact trivial | exact .inr (.inl ⟨rfl, fun b hb => by cases hb; decide⟩) | exact Side.pass rfl) rfl ?_
        | refine OT.st _ ho_ rfl rfl rfl (by first | exact sz25 | exact sz42 | exact sz3 | exact sz5 | exact sz22 | exact sz31 | exact sz59 | exact sz61 | exact sz24) rfl (by rfl) rfl (by decide) (Nat.le_of_ble_eq_true (by rfl)) rfl (Nat.le_of_ble_eq_true (by rfl)) rfl (by first | exact trivial | exact .inr (.inl ⟨rfl, fun b hb => by cases hb; decide⟩) | exact Side.pass rfl) ?_
        | refine OT.iaddrA ho_ rfl rfl rfl (by first | exact u39 | exact u43 | exact u60 | exact u61 | exact u24) (by first | exact sz25 | exact sz42 | exact sz3 | exact sz5 | exact sz22 | exact sz31 | exact sz59 | exact sz61 | exact sz24) (by omega) (by omega) rfl ?_
        | refine OT.buildV ho_ rfl rfl (by first | exact bld31 _ _ _ _ _ | exact bld31b _ _) rfl ?_
        | refine OT.mkF ho_ rfl rfl rfl rfl ?_
        | refine OT.maxQ _ ho_ rfl rfl rfl rfl rfl ?_
        | refine OT.minQ _ ho_ rfl rfl rfl rfl rfl ?_
        | refine OT.convI ho_ rfl rfl (by first | exact u3 | exact u5 | exact u22 | exact u56 | exact u21 | exact u25 | exact u33 | exact u42 | exact u2) (by first | exact u3 | exact u5 | exact u22 | exact u56 | exact u21 | exact u25 | exact u33 | exact u42 | exact u2) (by first | exact IntWalk.i64_in _ (by omega) | exact IntWalk.u8_in _ (by omega) | exact IntWalk.u32_in _ (by omega) | exact IntWalk.u16_in _ (by omega) | exact IntWalk.i32_in _ (by omega)) rfl ?_
       clear ho_ i_)
    | refine OT.nil ?_
    | refine Tr.region cx ?_
    | refine Tr.draw cx [] noEv (Valid.none _) (by decide +kernel) ?_
    | refine Tr.cond_true cx rfl ?_
    | refine Tr.cond_false cx rfl ?_
    | refine Tr.seq cx ?_
    | refine Tr.block cx ?_
    | refine Tr.ret cx ?_
    | refine Tr.skip cx ?_
    | refine Tr.exit cx ?_)
  exact ⟨_, _, rfl, rfl, by rfl⟩
theorem print_bad {o a b c n : Int} (hx : I5.Fits ⟨o, a, b, c, n⟩) (hv : validS ⟨o, a, b, c, n⟩ = false) {H : AHeap} (hL : Lay G H) : EvS Tryd.prog (.call 16 #[inst o a b c n] H) (.value (bstr []) H) := by
  obtain ⟨v, H2, h, rfl⟩ := print_bad0 hx hv
  exact EvS.frame hG rfl rfl h hL
theorem OkI.fields {x : I5} {at_ : Int} (h : OkI at_ x) : x.o ≤ 8 ∧ (0 ≤ x.a ∧ x.a ≤ 15) ∧ (0 ≤ x.b ∧ x.b ≤ 15) ∧ (0 ≤ x.c ∧ x.c ≤ 15) := by
  cases h <;> simp only <;> omega
theorem OkI.mod4 {x : I5} {at_ : Int} (h : OkI at_ x) (ho : 5 ≤ x.o) (ha : at_ % 4 = 0) : x.n % 4 = 0 := by
  cases h <;> simp only at ho ⊢ <;> omega
structure Bad (x : I5) : Prop where
  fits : x.Fits
  no : ∀ at_, at_ % 4 = 0 → ¬ OkI at_ x
theorem Bad.enc {x : I5} (h : Bad x) {at_ : Int} (p0 : 0 ≤ at_) (p1 : at_ ≤ 65536) (p2 : at_ % 4 = 0) {H : AHeap} (hL : Lay G H) : EvS Tryd.prog (.call 14 #[x.val, .int .i64 at_] H) (.value (.tuple #[.int .u32 0, .int .i64 20]) H) := by
  have := encode_ev h.fits ⟨p0, by omega⟩ hL (at_ := at_)
  rwa [encV_F fun hq => h.no at_ p2 (enc_iff.1 hq)] at this
theorem Bad.vs {x : I5} (h : Bad x) : validS x = false := decide_eq_false fun hq => h.no _ (near_mod _) (enc_iff.1 hq)
theorem Bad.valid {x : I5} (h : Bad x) {H : AHeap} (hL : Lay G H) : EvS Tryd.prog (.call 15 #[x.val] H) (.value (.bool false) H) := by
  have := valid_ev h.fits hL
  rwa [h.vs] at this
theorem Bad.print {x : I5} (h : Bad x) {H : AHeap} (hL : Lay G H) : EvS Tryd.prog (.call 16 #[x.val] H) (.value (bstr []) H) := print_bad h.fits h.vs hL
theorem neE {xo yo : Operand} : aBin Tryd.prog .neq 9 xo yo (bstr []) (.string ⟨#[]⟩) = some (.bool false) := by kernel_rfl
theorem u16_wrap {a : Int} : IntKind.u16.wrap a = a % 65536 := by simp [IntKind.wrap, IntKind.bits, IntKind.signed]
end Go.Proofs.YtljpjeipgdeioaaDoor
