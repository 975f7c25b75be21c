/-
  A part of the proof: what a piece of the program gives; conditions: those of each theorem.
-/
import Derived.Test.YtljpjeipgdeioaaDoorS5
import Derived.Test.YtljpjeipgdeioaaDoorGE
set_option linter.unusedVariables false
namespace Go.Proofs.YtljpjeipgdeioaaDoor
open Ax
set_option maxHeartbeats 8000000
def big : Int := 9223372036854775807
/-- The number that the word of x bears. -/
def asmN (o n at_ : Int) : Int := if 5 ≤ o then (IntKind.i64.wrap (n - at_)).tdiv 4 else n
def asmL (o n at_ : Int) : Int :=
  let m := asmN o n at_ % 4294967296
  if o = 0 then m else if o = 5 ∨ o = 6 then m % 16777216 else if o = 2 ∨ o = 7 ∨ o = 8 then m % 65536 else 0
def asm (x : I5) (at_ : Int) : Int :=
  orW .u32 (orW .u32 (orW .u32 (orW .u32 (asmL x.o x.n at_) (x.o * 16777216)) (x.a % 256 * 65536)) (x.b % 256 * 256)) (x.c % 256)
theorem wrap_i64_range (n : Int) : -9223372036854775808 ≤ IntKind.i64.wrap n ∧ IntKind.i64.wrap n ≤ 9223372036854775807 := by
  rw [IntKind.wrap_i64]; omega
structure I5.Fits (x : I5) : Prop where
  o : -9223372036854775808 ≤ x.o ∧ x.o ≤ 9223372036854775807
  a : -9223372036854775808 ≤ x.a ∧ x.a ≤ 9223372036854775807
  b : -9223372036854775808 ≤ x.b ∧ x.b ≤ 9223372036854775807
  c : -9223372036854775808 ≤ x.c ∧ x.c ≤ 9223372036854775807
  n : -9223372036854775808 ≤ x.n ∧ x.n ≤ 9223372036854775807
theorem aBin_subW {P : Program} {t : TypeId} {xo yo : Operand} {k : IntKind} {a b q : Int} (h : k.wrap (a - b) = q) : aBin P .sub t xo yo (.int k a) (.int k b) = some (.int k q) := by rw [aBin_sub, h]
theorem aBin_quoW {P : Program} {t : TypeId} {xo yo : Operand} {k : IntKind} {a b q : Int} (hb : b ≠ 0) (h : k.wrap (a.tdiv b) = q) : aBin P .quo t xo yo (.int k a) (.int k b) = some (.int k q) := by rw [aBin_quo hb, h]
theorem assemble0 {a b c n at_ : Int} (hx : I5.Fits ⟨0, a, b, c, n⟩) (ha : 0 ≤ at_ ∧ at_ ≤ 65540) : ∃ v H2, EvS Tryd.prog (.call 25 #[inst 0 a b c n, .int .i64 at_] H0) (.value v H2) ∧ v = .int .u32 (asm ⟨0, a, b, c, n⟩ at_) := by
  refine EvS.call cx F25 (fn := Tryd.f25) rfl ⟨by simp [Tryd.f25], by simp⟩ ?_
  obtain ⟨-, -, -, -, hn⟩ := hx
  simp only at hn
  generalize hD : IntKind.i64.wrap (n - at_) = D
  have hDr := wrap_i64_range (n - at_)
  rw [hD] at hDr
  have hN : IntKind.i64.wrap (D.tdiv 4) = D.tdiv 4 := IntWalk.i64_quo' D 4 ⟨hDr.1, hDr.2, by decide⟩
  generalize hN2 : D.tdiv 4 = N at hN
  have hNN : asmN 0 n at_ = n := by
    unfold asmN
    rw [if_neg (by decide)]
  generalize hm : IntKind.u32.wrap n = m
  have hmm : m = asmN 0 n at_ % 4294967296 := by rw [hNN, ← hm, u32_wrap]
  have hm0 : 0 ≤ m := by rw [hmm]; exact Int.emod_nonneg _ (by decide)
  have hm1 : m < 4294967296 := by rw [hmm]; exact Int.emod_lt_of_pos _ (by decide)
  have er : asm ⟨0, a, b, c, n⟩ at_ = orW .u32 (orW .u32 (orW .u32 (orW .u32 (m) (0 * 16777216)) (a % 256 * 65536)) (b % 256 * 256)) (c % 256) := by
    unfold asm asmL
    simp only [← hmm]
    simp
  rw [er]
  repeat (first
    | (refine OT.fetch rfl (fun i_ ho_ => ?_)
       first
        | refine OT.move ho_ rfl rfl rfl ?_
        | refine OT.assign ho_ rfl rfl rfl ?_
        | refine OT.un ho_ rfl rfl ?_
        | refine OT.pickT ho_ rfl rfl rfl rfl ?_
        | refine OT.pickF ho_ rfl rfl rfl rfl ?_
        | refine OT.extract ho_ rfl rfl rfl rfl ?_
        | refine OT.not ho_ rfl rfl rfl ?_
        | refine OT.faddr ho_ rfl rfl (by first | exact us31 | exact us59) (by decide) rfl ?_
        | refine OT.ld ho_ rfl rfl (by first | exact ga3 | exact ga4 | exact ga5 | exact ga9 | exact ga22) rfl rfl (by first | exact trivial | exact .inr (.inl ⟨rfl, fun b hb => by cases hb; decide⟩) | exact Side.pass rfl) rfl ?_
        | refine OT.arW D ho_ rfl rfl rfl (fun _ _ => aBin_subW hD) rfl ?_
        | refine OT.arW N ho_ rfl rfl rfl (fun _ _ => aBin_quoW (by decide) (by rw [hN2]; exact hN)) rfl ?_
        | refine OT.convW m ho_ rfl rfl u3 u56 hm rfl ?_
        | refine OT.convW (a % 256) ho_ rfl rfl u3 u5 u8_wrap rfl ?_
        | refine OT.convW (b % 256) ho_ rfl rfl u3 u5 u8_wrap rfl ?_
        | refine OT.convW (c % 256) ho_ rfl rfl u3 u5 u8_wrap rfl ?_
        | refine OT.convI ho_ rfl rfl u3 u22 (IntWalk.u32_in _ (by omega)) rfl ?_
        | refine OT.convI ho_ rfl rfl u5 u22 (IntWalk.u32_in _ (by omega)) rfl ?_
        | refine OT.shl 16777216 ho_ rfl rfl rfl (by decide) (by decide) (by decide) (IntWalk.u32_in _ (by omega)) rfl ?_
        | refine OT.shl 65536 ho_ rfl rfl rfl (by decide) (by decide) (by decide) (IntWalk.u32_in _ (by omega)) rfl ?_
        | refine OT.shl 256 ho_ rfl rfl rfl (by decide) (by decide) (by decide) (IntWalk.u32_in _ (by omega)) rfl ?_
        | refine OT.orW ho_ rfl rfl rfl rfl ?_
        | refine OT.call1D (orc_at _ _) ho_ rfl rfl (iF F28) (Side.pass rfl) rfl ?_
        | refine OT.cmpT ho_ rfl rfl rfl rfl (by first | (simp only [cmpP]; done) | (simp only [cmpP]; omega)) rfl ?_
        | refine OT.cmpF ho_ rfl rfl rfl rfl (by first | (simp only [cmpP]; done) | (simp only [cmpP]; omega)) rfl ?_
        | refine OT.add ho_ rfl rfl rfl (by first | exact IntWalk.i64_in _ (by omega) | exact IntWalk.u8_in _ (by omega) | exact IntWalk.u32_in _ (by omega) | exact IntWalk.u16_in _ (by omega) | exact IntWalk.i32_in _ (by omega)) rfl ?_
        | refine OT.sub ho_ rfl rfl rfl (by first | exact IntWalk.i64_in _ (by omega) | exact IntWalk.u8_in _ (by omega) | exact IntWalk.u32_in _ (by omega) | exact IntWalk.u16_in _ (by omega) | exact IntWalk.i32_in _ (by omega)) rfl ?_
        | refine OT.mul ho_ rfl rfl rfl (by first | exact IntWalk.i64_in _ (by omega) | exact IntWalk.u8_in _ (by omega) | exact IntWalk.u32_in _ (by omega) | exact IntWalk.u16_in _ (by omega) | exact IntWalk.i32_in _ (by omega)) rfl ?_
        | refine OT.quo ho_ rfl rfl rfl (by omega) (by omega) (by first | exact IntWalk.i64_in _ (by omega) | exact IntWalk.u8_in _ (by omega) | exact IntWalk.u32_in _ (by omega) | exact IntWalk.u16_in _ (by omega) | exact IntWalk.i32_in _ (by omega)) rfl ?_
        | refine OT.rem ho_ rfl rfl rfl (by omega) (by omega) rfl ?_
        | refine OT.box _ ho_ rfl rfl rfl (Nat.le_of_ble_eq_true (by rfl)) (by first | exact trivial | exact .inr (.inl ⟨rfl, fun b hb => by cases hb; decide⟩) | exact Side.pass rfl) rfl ?_
        | refine OT.alloc _ ho_ rfl (by first | exact z31 | exact z59 | exact z61) rfl rfl (Nat.le_of_ble_eq_true (by rfl)) (by first | exact trivial | exact .inr (.inl ⟨rfl, fun b hb => by cases hb; decide⟩) | exact Side.pass rfl) rfl ?_
        | refine OT.ldA ho_ rfl rfl (by first | exact ga31 | exact ga59 | exact ga61 | exact ga24) (by first | exact sz3 | exact sz5 | exact sz22 | exact sz31 | exact sz59 | exact sz61 | exact sz24) rfl (Nat.le_of_ble_eq_true (by rfl)) rfl (by first | exact trivial | exact .inr (.inl ⟨rfl, fun b hb => by cases hb; decide⟩) | exact Side.pass rfl) rfl ?_
        | refine OT.st _ ho_ rfl rfl rfl (by first | exact sz3 | exact sz5 | exact sz22 | exact sz31 | exact sz59 | exact sz61 | exact sz24) rfl (by rfl) rfl (by decide) (Nat.le_of_ble_eq_true (by rfl)) rfl (Nat.le_of_ble_eq_true (by rfl)) rfl (by first | exact trivial | exact .inr (.inl ⟨rfl, fun b hb => by cases hb; decide⟩) | exact Side.pass rfl) ?_
        | refine OT.iaddrA ho_ rfl rfl rfl (by first | exact u60 | exact u61 | exact u24) (by first | exact sz3 | exact sz5 | exact sz22 | exact sz31 | exact sz59 | exact sz61 | exact sz24) (by omega) (by omega) rfl ?_
        | refine OT.buildV ho_ rfl rfl (by first | exact bld31 _ _ _ _ _ | exact bld31b _ _) rfl ?_
        | refine OT.mkF ho_ rfl rfl rfl rfl ?_
        | refine OT.maxQ _ ho_ rfl rfl rfl rfl rfl ?_
        | refine OT.minQ _ ho_ rfl rfl rfl rfl rfl ?_
        | refine OT.convI ho_ rfl rfl (by first | exact u3 | exact u5 | exact u22 | exact u56 | exact u21 | exact u25 | exact u33 | exact u42 | exact u2) (by first | exact u3 | exact u5 | exact u22 | exact u56 | exact u21 | exact u25 | exact u33 | exact u42 | exact u2) (by first | exact IntWalk.i64_in _ (by omega) | exact IntWalk.u8_in _ (by omega) | exact IntWalk.u32_in _ (by omega) | exact IntWalk.u16_in _ (by omega) | exact IntWalk.i32_in _ (by omega)) rfl ?_
       clear ho_ i_)
    | refine Tr.drawH cx [0, 30, 31] (fun H => .call 28 #[.int .u32 m, .int .i64 32] H) (fun H => .value (.int .i64 (m)) H) (lowE32 hm0 hm1 _) (by decide +kernel) ?_
    | refine OT.nil ?_
    | refine Tr.region cx ?_
    | refine Tr.draw cx [] noEv (Valid.none _) (by decide +kernel) ?_
    | refine Tr.cond_true cx rfl ?_
    | refine Tr.cond_false cx rfl ?_
    | refine Tr.seq cx ?_
    | refine Tr.block cx ?_
    | refine Tr.ret cx ?_
    | refine Tr.skip cx ?_
    | refine Tr.exit cx ?_)
  exact ⟨_, _, rfl, rfl, by rfl⟩
theorem assemble1 {a b c n at_ : Int} (hx : I5.Fits ⟨1, a, b, c, n⟩) (ha : 0 ≤ at_ ∧ at_ ≤ 65540) : ∃ v H2, EvS Tryd.prog (.call 25 #[inst 1 a b c n, .int .i64 at_] H0) (.value v H2) ∧ v = .int .u32 (asm ⟨1, a, b, c, n⟩ at_) := by
  refine EvS.call cx F25 (fn := Tryd.f25) rfl ⟨by simp [Tryd.f25], by simp⟩ ?_
  obtain ⟨-, -, -, -, hn⟩ := hx
  simp only at hn
  generalize hD : IntKind.i64.wrap (n - at_) = D
  have hDr := wrap_i64_range (n - at_)
  rw [hD] at hDr
  have hN : IntKind.i64.wrap (D.tdiv 4) = D.tdiv 4 := IntWalk.i64_quo' D 4 ⟨hDr.1, hDr.2, by decide⟩
  generalize hN2 : D.tdiv 4 = N at hN
  have hNN : asmN 1 n at_ = n := by
    unfold asmN
    rw [if_neg (by decide)]
  generalize hm : IntKind.u32.wrap n = m
  have hmm : m = asmN 1 n at_ % 4294967296 := by rw [hNN, ← hm, u32_wrap]
  have hm0 : 0 ≤ m := by rw [hmm]; exact Int.emod_nonneg _ (by decide)
  have hm1 : m < 4294967296 := by rw [hmm]; exact Int.emod_lt_of_pos _ (by decide)
  have er : asm ⟨1, a, b, c, n⟩ at_ = orW .u32 (orW .u32 (orW .u32 (orW .u32 (0) (1 * 16777216)) (a % 256 * 65536)) (b % 256 * 256)) (c % 256) := by
    unfold asm asmL
    simp only [← hmm]
    simp
  rw [er]
  repeat (first
    | (refine OT.fetch rfl (fun i_ ho_ => ?_)
       first
        | refine OT.move ho_ rfl rfl rfl ?_
        | refine OT.assign ho_ rfl rfl rfl ?_
        | refine OT.un ho_ rfl rfl ?_
        | refine OT.pickT ho_ rfl rfl rfl rfl ?_
        | refine OT.pickF ho_ rfl rfl rfl rfl ?_
        | refine OT.extract ho_ rfl rfl rfl rfl ?_
        | refine OT.not ho_ rfl rfl rfl ?_
        | refine OT.faddr ho_ rfl rfl (by first | exact us31 | exact us59) (by decide) rfl ?_
        | refine OT.ld ho_ rfl rfl (by first | exact ga3 | exact ga4 | exact ga5 | exact ga9 | exact ga22) rfl rfl (by first | exact trivial | exact .inr (.inl ⟨rfl, fun b hb => by cases hb; decide⟩) | exact Side.pass rfl) rfl ?_
        | refine OT.arW D ho_ rfl rfl rfl (fun _ _ => aBin_subW hD) rfl ?_
        | refine OT.arW N ho_ rfl rfl rfl (fun _ _ => aBin_quoW (by decide) (by rw [hN2]; exact hN)) rfl ?_
        | refine OT.convW m ho_ rfl rfl u3 u56 hm rfl ?_
        | refine OT.convW (a % 256) ho_ rfl rfl u3 u5 u8_wrap rfl ?_
        | refine OT.convW (b % 256) ho_ rfl rfl u3 u5 u8_wrap rfl ?_
        | refine OT.convW (c % 256) ho_ rfl rfl u3 u5 u8_wrap rfl ?_
        | refine OT.convI ho_ rfl rfl u3 u22 (IntWalk.u32_in _ (by omega)) rfl ?_
        | refine OT.convI ho_ rfl rfl u5 u22 (IntWalk.u32_in _ (by omega)) rfl ?_
        | refine OT.shl 16777216 ho_ rfl rfl rfl (by decide) (by decide) (by decide) (IntWalk.u32_in _ (by omega)) rfl ?_
        | refine OT.shl 65536 ho_ rfl rfl rfl (by decide) (by decide) (by decide) (IntWalk.u32_in _ (by omega)) rfl ?_
        | refine OT.shl 256 ho_ rfl rfl rfl (by decide) (by decide) (by decide) (IntWalk.u32_in _ (by omega)) rfl ?_
        | refine OT.orW ho_ rfl rfl rfl rfl ?_
        | refine OT.call1D (orc_at _ _) ho_ rfl rfl (iF F28) (Side.pass rfl) rfl ?_
        | refine OT.cmpT ho_ rfl rfl rfl rfl (by first | (simp only [cmpP]; done) | (simp only [cmpP]; omega)) rfl ?_
        | refine OT.cmpF ho_ rfl rfl rfl rfl (by first | (simp only [cmpP]; done) | (simp only [cmpP]; omega)) rfl ?_
        | refine OT.add ho_ rfl rfl rfl (by first | exact IntWalk.i64_in _ (by omega) | exact IntWalk.u8_in _ (by omega) | exact IntWalk.u32_in _ (by omega) | exact IntWalk.u16_in _ (by omega) | exact IntWalk.i32_in _ (by omega)) rfl ?_
        | refine OT.sub ho_ rfl rfl rfl (by first | exact IntWalk.i64_in _ (by omega) | exact IntWalk.u8_in _ (by omega) | exact IntWalk.u32_in _ (by omega) | exact IntWalk.u16_in _ (by omega) | exact IntWalk.i32_in _ (by omega)) rfl ?_
        | refine OT.mul ho_ rfl rfl rfl (by first | exact IntWalk.i64_in _ (by omega) | exact IntWalk.u8_in _ (by omega) | exact IntWalk.u32_in _ (by omega) | exact IntWalk.u16_in _ (by omega) | exact IntWalk.i32_in _ (by omega)) rfl ?_
        | refine OT.quo ho_ rfl rfl rfl (by omega) (by omega) (by first | exact IntWalk.i64_in _ (by omega) | exact IntWalk.u8_in _ (by omega) | exact IntWalk.u32_in _ (by omega) | exact IntWalk.u16_in _ (by omega) | exact IntWalk.i32_in _ (by omega)) rfl ?_
        | refine OT.rem ho_ rfl rfl rfl (by omega) (by omega) rfl ?_
        | refine OT.box _ ho_ rfl rfl rfl (Nat.le_of_ble_eq_true (by rfl)) (by first | exact trivial | exact .inr (.inl ⟨rfl, fun b hb => by cases hb; decide⟩) | exact Side.pass rfl) rfl ?_
        | refine OT.alloc _ ho_ rfl (by first | exact z31 | exact z59 | exact z61) rfl rfl (Nat.le_of_ble_eq_true (by rfl)) (by first | exact trivial | exact .inr (.inl ⟨rfl, fun b hb => by cases hb; decide⟩) | exact Side.pass rfl) rfl ?_
        | refine OT.ldA ho_ rfl rfl (by first | exact ga31 | exact ga59 | exact ga61 | exact ga24) (by first | exact sz3 | exact sz5 | exact sz22 | exact sz31 | exact sz59 | exact sz61 | exact sz24) rfl (Nat.le_of_ble_eq_true (by rfl)) rfl (by first | exact trivial | exact .inr (.inl ⟨rfl, fun b hb => by cases hb; decide⟩) | exact Side.pass rfl) rfl ?_
        | refine OT.st _ ho_ rfl rfl rfl (by first | exact sz3 | exact sz5 | exact sz22 | exact sz31 | exact sz59 | exact sz61 | exact sz24) rfl (by rfl) rfl (by decide) (Nat.le_of_ble_eq_true (by rfl)) rfl (Nat.le_of_ble_eq_true (by rfl)) rfl (by first | exact trivial | exact .inr (.inl ⟨rfl, fun b hb => by cases hb; decide⟩) | exact Side.pass rfl) ?_
        | refine OT.iaddrA ho_ rfl rfl rfl (by first | exact u60 | exact u61 | exact u24) (by first | exact sz3 | exact sz5 | exact sz22 | exact sz31 | exact sz59 | exact sz61 | exact sz24) (by omega) (by omega) rfl ?_
        | refine OT.buildV ho_ rfl rfl (by first | exact bld31 _ _ _ _ _ | exact bld31b _ _) rfl ?_
        | refine OT.mkF ho_ rfl rfl rfl rfl ?_
        | refine OT.maxQ _ ho_ rfl rfl rfl rfl rfl ?_
        | refine OT.minQ _ ho_ rfl rfl rfl rfl rfl ?_
        | refine OT.convI ho_ rfl rfl (by first | exact u3 | exact u5 | exact u22 | exact u56 | exact u21 | exact u25 | exact u33 | exact u42 | exact u2) (by first | exact u3 | exact u5 | exact u22 | exact u56 | exact u21 | exact u25 | exact u33 | exact u42 | exact u2) (by first | exact IntWalk.i64_in _ (by omega) | exact IntWalk.u8_in _ (by omega) | exact IntWalk.u32_in _ (by omega) | exact IntWalk.u16_in _ (by omega) | exact IntWalk.i32_in _ (by omega)) rfl ?_
       clear ho_ i_)
    | refine Tr.drawH cx [0, 30, 31] (fun H => .call 28 #[.int .u32 m, .int .i64 0] H) (fun H => .value (.int .i64 (0)) H) (lowE0 hm0 hm1 _) (by decide +kernel) ?_
    | refine OT.nil ?_
    | refine Tr.region cx ?_
    | refine Tr.draw cx [] noEv (Valid.none _) (by decide +kernel) ?_
    | refine Tr.cond_true cx rfl ?_
    | refine Tr.cond_false cx rfl ?_
    | refine Tr.seq cx ?_
    | refine Tr.block cx ?_
    | refine Tr.ret cx ?_
    | refine Tr.skip cx ?_
    | refine Tr.exit cx ?_)
  exact ⟨_, _, rfl, rfl, by rfl⟩
theorem assemble2 {a b c n at_ : Int} (hx : I5.Fits ⟨2, a, b, c, n⟩) (ha : 0 ≤ at_ ∧ at_ ≤ 65540) : ∃ v H2, EvS Tryd.prog (.call 25 #[inst 2 a b c n, .int .i64 at_] H0) (.value v H2) ∧ v = .int .u32 (asm ⟨2, a, b, c, n⟩ at_) := by
  refine EvS.call cx F25 (fn := Tryd.f25) rfl ⟨by simp [Tryd.f25], by simp⟩ ?_
  obtain ⟨-, -, -, -, hn⟩ := hx
  simp only at hn
  generalize hD : IntKind.i64.wrap (n - at_) = D
  have hDr := wrap_i64_range (n - at_)
  rw [hD] at hDr
  have hN : IntKind.i64.wrap (D.tdiv 4) = D.tdiv 4 := IntWalk.i64_quo' D 4 ⟨hDr.1, hDr.2, by decide⟩
  generalize hN2 : D.tdiv 4 = N at hN
  have hNN : asmN 2 n at_ = n := by
    unfold asmN
    rw [if_neg (by decide)]
  generalize hm : IntKind.u32.wrap n = m
  have hmm : m = asmN 2 n at_ % 4294967296 := by rw [hNN, ← hm, u32_wrap]
  have hm0 : 0 ≤ m := by rw [hmm]; exact Int.emod_nonneg _ (by decide)
  have hm1 : m < 4294967296 := by rw [hmm]; exact Int.emod_lt_of_pos _ (by decide)
  have er : asm ⟨2, a, b, c, n⟩ at_ = orW .u32 (orW .u32 (orW .u32 (orW .u32 (m % 65536) (2 * 16777216)) (a % 256 * 65536)) (b % 256 * 256)) (c % 256) := by
    unfold asm asmL
    simp only [← hmm]
    simp
  rw [er]
  repeat (first
    | (refine OT.fetch rfl (fun i_ ho_ => ?_)
       first
        | refine OT.move ho_ rfl rfl rfl ?_
        | refine OT.assign ho_ rfl rfl rfl ?_
        | refine OT.un ho_ rfl rfl ?_
        | refine OT.pickT ho_ rfl rfl rfl rfl ?_
        | refine OT.pickF ho_ rfl rfl rfl rfl ?_
        | refine OT.extract ho_ rfl rfl rfl rfl ?_
        | refine OT.not ho_ rfl rfl rfl ?_
        | refine OT.faddr ho_ rfl rfl (by first | exact us31 | exact us59) (by decide) rfl ?_
        | refine OT.ld ho_ rfl rfl (by first | exact ga3 | exact ga4 | exact ga5 | exact ga9 | exact ga22) rfl rfl (by first | exact trivial | exact .inr (.inl ⟨rfl, fun b hb => by cases hb; decide⟩) | exact Side.pass rfl) rfl ?_
        | refine OT.arW D ho_ rfl rfl rfl (fun _ _ => aBin_subW hD) rfl ?_
        | refine OT.arW N ho_ rfl rfl rfl (fun _ _ => aBin_quoW (by decide) (by rw [hN2]; exact hN)) rfl ?_
        | refine OT.convW m ho_ rfl rfl u3 u56 hm rfl ?_
        | refine OT.convW (a % 256) ho_ rfl rfl u3 u5 u8_wrap rfl ?_
        | refine OT.convW (b % 256) ho_ rfl rfl u3 u5 u8_wrap rfl ?_
        | refine OT.convW (c % 256) ho_ rfl rfl u3 u5 u8_wrap rfl ?_
        | refine OT.convI ho_ rfl rfl u3 u22 (IntWalk.u32_in _ (by omega)) rfl ?_
        | refine OT.convI ho_ rfl rfl u5 u22 (IntWalk.u32_in _ (by omega)) rfl ?_
        | refine OT.shl 16777216 ho_ rfl rfl rfl (by decide) (by decide) (by decide) (IntWalk.u32_in _ (by omega)) rfl ?_
        | refine OT.shl 65536 ho_ rfl rfl rfl (by decide) (by decide) (by decide) (IntWalk.u32_in _ (by omega)) rfl ?_
        | refine OT.shl 256 ho_ rfl rfl rfl (by decide) (by decide) (by decide) (IntWalk.u32_in _ (by omega)) rfl ?_
        | refine OT.orW ho_ rfl rfl rfl rfl ?_
        | refine OT.call1D (orc_at _ _) ho_ rfl rfl (iF F28) (Side.pass rfl) rfl ?_
        | refine OT.cmpT ho_ rfl rfl rfl rfl (by first | (simp only [cmpP]; done) | (simp only [cmpP]; omega)) rfl ?_
        | refine OT.cmpF ho_ rfl rfl rfl rfl (by first | (simp only [cmpP]; done) | (simp only [cmpP]; omega)) rfl ?_
        | refine OT.add ho_ rfl rfl rfl (by first | exact IntWalk.i64_in _ (by omega) | exact IntWalk.u8_in _ (by omega) | exact IntWalk.u32_in _ (by omega) | exact IntWalk.u16_in _ (by omega) | exact IntWalk.i32_in _ (by omega)) rfl ?_
        | refine OT.sub ho_ rfl rfl rfl (by first | exact IntWalk.i64_in _ (by omega) | exact IntWalk.u8_in _ (by omega) | exact IntWalk.u32_in _ (by omega) | exact IntWalk.u16_in _ (by omega) | exact IntWalk.i32_in _ (by omega)) rfl ?_
        | refine OT.mul ho_ rfl rfl rfl (by first | exact IntWalk.i64_in _ (by omega) | exact IntWalk.u8_in _ (by omega) | exact IntWalk.u32_in _ (by omega) | exact IntWalk.u16_in _ (by omega) | exact IntWalk.i32_in _ (by omega)) rfl ?_
        | refine OT.quo ho_ rfl rfl rfl (by omega) (by omega) (by first | exact IntWalk.i64_in _ (by omega) | exact IntWalk.u8_in _ (by omega) | exact IntWalk.u32_in _ (by omega) | exact IntWalk.u16_in _ (by omega) | exact IntWalk.i32_in _ (by omega)) rfl ?_
        | refine OT.rem ho_ rfl rfl rfl (by omega) (by omega) rfl ?_
        | refine OT.box _ ho_ rfl rfl rfl (Nat.le_of_ble_eq_true (by rfl)) (by first | exact trivial | exact .inr (.inl ⟨rfl, fun b hb => by cases hb; decide⟩) | exact Side.pass rfl) rfl ?_
        | refine OT.alloc _ ho_ rfl (by first | exact z31 | exact z59 | exact z61) rfl rfl (Nat.le_of_ble_eq_true (by rfl)) (by first | exact trivial | exact .inr (.inl ⟨rfl, fun b hb => by cases hb; decide⟩) | exact Side.pass rfl) rfl ?_
        | refine OT.ldA ho_ rfl rfl (by first | exact ga31 | exact ga59 | exact ga61 | exact ga24) (by first | exact sz3 | exact sz5 | exact sz22 | exact sz31 | exact sz59 | exact sz61 | exact sz24) rfl (Nat.le_of_ble_eq_true (by rfl)) rfl (by first | exact trivial | exact .inr (.inl ⟨rfl, fun b hb => by cases hb; decide⟩) | exact Side.pass rfl) rfl ?_
        | refine OT.st _ ho_ rfl rfl rfl (by first | exact sz3 | exact sz5 | exact sz22 | exact sz31 | exact sz59 | exact sz61 | exact sz24) rfl (by rfl) rfl (by decide) (Nat.le_of_ble_eq_true (by rfl)) rfl (Nat.le_of_ble_eq_true (by rfl)) rfl (by first | exact trivial | exact .inr (.inl ⟨rfl, fun b hb => by cases hb; decide⟩) | exact Side.pass rfl) ?_
        | refine OT.iaddrA ho_ rfl rfl rfl (by first | exact u60 | exact u61 | exact u24) (by first | exact sz3 | exact sz5 | exact sz22 | exact sz31 | exact sz59 | exact sz61 | exact sz24) (by omega) (by omega) rfl ?_
        | refine OT.buildV ho_ rfl rfl (by first | exact bld31 _ _ _ _ _ | exact bld31b _ _) rfl ?_
        | refine OT.mkF ho_ rfl rfl rfl rfl ?_
        | refine OT.maxQ _ ho_ rfl rfl rfl rfl rfl ?_
        | refine OT.minQ _ ho_ rfl rfl rfl rfl rfl ?_
        | refine OT.convI ho_ rfl rfl (by first | exact u3 | exact u5 | exact u22 | exact u56 | exact u21 | exact u25 | exact u33 | exact u42 | exact u2) (by first | exact u3 | exact u5 | exact u22 | exact u56 | exact u21 | exact u25 | exact u33 | exact u42 | exact u2) (by first | exact IntWalk.i64_in _ (by omega) | exact IntWalk.u8_in _ (by omega) | exact IntWalk.u32_in _ (by omega) | exact IntWalk.u16_in _ (by omega) | exact IntWalk.i32_in _ (by omega)) rfl ?_
       clear ho_ i_)
    | refine Tr.drawH cx [0, 30, 31] (fun H => .call 28 #[.int .u32 m, .int .i64 16] H) (fun H => .value (.int .i64 (m % 65536)) H) (lowE16 hm0 hm1 _) (by decide +kernel) ?_
    | refine OT.nil ?_
    | refine Tr.region cx ?_
    | refine Tr.draw cx [] noEv (Valid.none _) (by decide +kernel) ?_
    | refine Tr.cond_true cx rfl ?_
    | refine Tr.cond_false cx rfl ?_
    | refine Tr.seq cx ?_
    | refine Tr.block cx ?_
    | refine Tr.ret cx ?_
    | refine Tr.skip cx ?_
    | refine Tr.exit cx ?_)
  exact ⟨_, _, rfl, rfl, by rfl⟩
theorem assemble3 {a b c n at_ : Int} (hx : I5.Fits ⟨3, a, b, c, n⟩) (ha : 0 ≤ at_ ∧ at_ ≤ 65540) : ∃ v H2, EvS Tryd.prog (.call 25 #[inst 3 a b c n, .int .i64 at_] H0) (.value v H2) ∧ v = .int .u32 (asm ⟨3, a, b, c, n⟩ at_) := by
  refine EvS.call cx F25 (fn := Tryd.f25) rfl ⟨by simp [Tryd.f25], by simp⟩ ?_
  obtain ⟨-, -, -, -, hn⟩ := hx
  simp only at hn
  generalize hD : IntKind.i64.wrap (n - at_) = D
  have hDr := wrap_i64_range (n - at_)
  rw [hD] at hDr
  have hN : IntKind.i64.wrap (D.tdiv 4) = D.tdiv 4 := IntWalk.i64_quo' D 4 ⟨hDr.1, hDr.2, by decide⟩
  generalize hN2 : D.tdiv 4 = N at hN
  have hNN : asmN 3 n at_ = n := by
    unfold asmN
    rw [if_neg (by decide)]
  generalize hm : IntKind.u32.wrap n = m
  have hmm : m = asmN 3 n at_ % 4294967296 := by rw [hNN, ← hm, u32_wrap]
  have hm0 : 0 ≤ m := by rw [hmm]; exact Int.emod_nonneg _ (by decide)
  have hm1 : m < 4294967296 := by rw [hmm]; exact Int.emod_lt_of_pos _ (by decide)
  have er : asm ⟨3, a, b, c, n⟩ at_ = orW .u32 (orW .u32 (orW .u32 (orW .u32 (0) (3 * 16777216)) (a % 256 * 65536)) (b % 256 * 256)) (c % 256) := by
    unfold asm asmL
    simp only [← hmm]
    simp
  rw [er]
  repeat (first
    | (refine OT.fetch rfl (fun i_ ho_ => ?_)
       first
        | refine OT.move ho_ rfl rfl rfl ?_
        | refine OT.assign ho_ rfl rfl rfl ?_
        | refine OT.un ho_ rfl rfl ?_
        | refine OT.pickT ho_ rfl rfl rfl rfl ?_
        | refine OT.pickF ho_ rfl rfl rfl rfl ?_
        | refine OT.extract ho_ rfl rfl rfl rfl ?_
        | refine OT.not ho_ rfl rfl rfl ?_
        | refine OT.faddr ho_ rfl rfl (by first | exact us31 | exact us59) (by decide) rfl ?_
        | refine OT.ld ho_ rfl rfl (by first | exact ga3 | exact ga4 | exact ga5 | exact ga9 | exact ga22) rfl rfl (by first | exact trivial | exact .inr (.inl ⟨rfl, fun b hb => by cases hb; decide⟩) | exact Side.pass rfl) rfl ?_
        | refine OT.arW D ho_ rfl rfl rfl (fun _ _ => aBin_subW hD) rfl ?_
        | refine OT.arW N ho_ rfl rfl rfl (fun _ _ => aBin_quoW (by decide) (by rw [hN2]; exact hN)) rfl ?_
        | refine OT.convW m ho_ rfl rfl u3 u56 hm rfl ?_
        | refine OT.convW (a % 256) ho_ rfl rfl u3 u5 u8_wrap rfl ?_
        | refine OT.convW (b % 256) ho_ rfl rfl u3 u5 u8_wrap rfl ?_
        | refine OT.convW (c % 256) ho_ rfl rfl u3 u5 u8_wrap rfl ?_
        | refine OT.convI ho_ rfl rfl u3 u22 (IntWalk.u32_in _ (by omega)) rfl ?_
        | refine OT.convI ho_ rfl rfl u5 u22 (IntWalk.u32_in _ (by omega)) rfl ?_
        | refine OT.shl 16777216 ho_ rfl rfl rfl (by decide) (by decide) (by decide) (IntWalk.u32_in _ (by omega)) rfl ?_
        | refine OT.shl 65536 ho_ rfl rfl rfl (by decide) (by decide) (by decide) (IntWalk.u32_in _ (by omega)) rfl ?_
        | refine OT.shl 256 ho_ rfl rfl rfl (by decide) (by decide) (by decide) (IntWalk.u32_in _ (by omega)) rfl ?_
        | refine OT.orW ho_ rfl rfl rfl rfl ?_
        | refine OT.call1D (orc_at _ _) ho_ rfl rfl (iF F28) (Side.pass rfl) rfl ?_
        | refine OT.cmpT ho_ rfl rfl rfl rfl (by first | (simp only [cmpP]; done) | (simp only [cmpP]; omega)) rfl ?_
        | refine OT.cmpF ho_ rfl rfl rfl rfl (by first | (simp only [cmpP]; done) | (simp only [cmpP]; omega)) rfl ?_
        | refine OT.add ho_ rfl rfl rfl (by first | exact IntWalk.i64_in _ (by omega) | exact IntWalk.u8_in _ (by omega) | exact IntWalk.u32_in _ (by omega) | exact IntWalk.u16_in _ (by omega) | exact IntWalk.i32_in _ (by omega)) rfl ?_
        | refine OT.sub ho_ rfl rfl rfl (by first | exact IntWalk.i64_in _ (by omega) | exact IntWalk.u8_in _ (by omega) | exact IntWalk.u32_in _ (by omega) | exact IntWalk.u16_in _ (by omega) | exact IntWalk.i32_in _ (by omega)) rfl ?_
        | refine OT.mul ho_ rfl rfl rfl (by first | exact IntWalk.i64_in _ (by omega) | exact IntWalk.u8_in _ (by omega) | exact IntWalk.u32_in _ (by omega) | exact IntWalk.u16_in _ (by omega) | exact IntWalk.i32_in _ (by omega)) rfl ?_
        | refine OT.quo ho_ rfl rfl rfl (by omega) (by omega) (by first | exact IntWalk.i64_in _ (by omega) | exact IntWalk.u8_in _ (by omega) | exact IntWalk.u32_in _ (by omega) | exact IntWalk.u16_in _ (by omega) | exact IntWalk.i32_in _ (by omega)) rfl ?_
        | refine OT.rem ho_ rfl rfl rfl (by omega) (by omega) rfl ?_
        | refine OT.box _ ho_ rfl rfl rfl (Nat.le_of_ble_eq_true (by rfl)) (by first | exact trivial | exact .inr (.inl ⟨rfl, fun b hb => by cases hb; decide⟩) | exact Side.pass rfl) rfl ?_
        | refine OT.alloc _ ho_ rfl (by first | exact z31 | exact z59 | exact z61) rfl rfl (Nat.le_of_ble_eq_true (by rfl)) (by first | exact trivial | exact .inr (.inl ⟨rfl, fun b hb => by cases hb; decide⟩) | exact Side.pass rfl) rfl ?_
        | refine OT.ldA ho_ rfl rfl (by first | exact ga31 | exact ga59 | exact ga61 | exact ga24) (by first | exact sz3 | exact sz5 | exact sz22 | exact sz31 | exact sz59 | exact sz61 | exact sz24) rfl (Nat.le_of_ble_eq_true (by rfl)) rfl (by first | exact trivial | exact .inr (.inl ⟨rfl, fun b hb => by cases hb; decide⟩) | exact Side.pass rfl) rfl ?_
        | refine OT.st _ ho_ rfl rfl rfl (by first | exact sz3 | exact sz5 | exact sz22 | exact sz31 | exact sz59 | exact sz61 | exact sz24) rfl (by rfl) rfl (by decide) (Nat.le_of_ble_eq_true (by rfl)) rfl (Nat.le_of_ble_eq_true (by rfl)) rfl (by first | exact trivial | exact .inr (.inl ⟨rfl, fun b hb => by cases hb; decide⟩) | exact Side.pass rfl) ?_
        | refine OT.iaddrA ho_ rfl rfl rfl (by first | exact u60 | exact u61 | exact u24) (by first | exact sz3 | exact sz5 | exact sz22 | exact sz31 | exact sz59 | exact sz61 | exact sz24) (by omega) (by omega) rfl ?_
        | refine OT.buildV ho_ rfl rfl (by first | exact bld31 _ _ _ _ _ | exact bld31b _ _) rfl ?_
        | refine OT.mkF ho_ rfl rfl rfl rfl ?_
        | refine OT.maxQ _ ho_ rfl rfl rfl rfl rfl ?_
        | refine OT.minQ _ ho_ rfl rfl rfl rfl rfl ?_
        | refine OT.convI ho_ rfl rfl (by first | exact u3 | exact u5 | exact u22 | exact u56 | exact u21 | exact u25 | exact u33 | exact u42 | exact u2) (by first | exact u3 | exact u5 | exact u22 | exact u56 | exact u21 | exact u25 | exact u33 | exact u42 | exact u2) (by first | exact IntWalk.i64_in _ (by omega) | exact IntWalk.u8_in _ (by omega) | exact IntWalk.u32_in _ (by omega) | exact IntWalk.u16_in _ (by omega) | exact IntWalk.i32_in _ (by omega)) rfl ?_
       clear ho_ i_)
    | refine Tr.drawH cx [0, 30, 31] (fun H => .call 28 #[.int .u32 m, .int .i64 0] H) (fun H => .value (.int .i64 (0)) H) (lowE0 hm0 hm1 _) (by decide +kernel) ?_
    | refine OT.nil ?_
    | refine Tr.region cx ?_
    | refine Tr.draw cx [] noEv (Valid.none _) (by decide +kernel) ?_
    | refine Tr.cond_true cx rfl ?_
    | refine Tr.cond_false cx rfl ?_
    | refine Tr.seq cx ?_
    | refine Tr.block cx ?_
    | refine Tr.ret cx ?_
    | refine Tr.skip cx ?_
    | refine Tr.exit cx ?_)
  exact ⟨_, _, rfl, rfl, by rfl⟩
theorem assemble4 {a b c n at_ : Int} (hx : I5.Fits ⟨4, a, b, c, n⟩) (ha : 0 ≤ at_ ∧ at_ ≤ 65540) : ∃ v H2, EvS Tryd.prog (.call 25 #[inst 4 a b c n, .int .i64 at_] H0) (.value v H2) ∧ v = .int .u32 (asm ⟨4, a, b, c, n⟩ at_) := by
  refine EvS.call cx F25 (fn := Tryd.f25) rfl ⟨by simp [Tryd.f25], by simp⟩ ?_
  obtain ⟨-, -, -, -, hn⟩ := hx
  simp only at hn
  generalize hD : IntKind.i64.wrap (n - at_) = D
  have hDr := wrap_i64_range (n - at_)
  rw [hD] at hDr
  have hN : IntKind.i64.wrap (D.tdiv 4) = D.tdiv 4 := IntWalk.i64_quo' D 4 ⟨hDr.1, hDr.2, by decide⟩
  generalize hN2 : D.tdiv 4 = N at hN
  have hNN : asmN 4 n at_ = n := by
    unfold asmN
    rw [if_neg (by decide)]
  generalize hm : IntKind.u32.wrap n = m
  have hmm : m = asmN 4 n at_ % 4294967296 := by rw [hNN, ← hm, u32_wrap]
  have hm0 : 0 ≤ m := by rw [hmm]; exact Int.emod_nonneg _ (by decide)
  have hm1 : m < 4294967296 := by rw [hmm]; exact Int.emod_lt_of_pos _ (by decide)
  have er : asm ⟨4, a, b, c, n⟩ at_ = orW .u32 (orW .u32 (orW .u32 (orW .u32 (0) (4 * 16777216)) (a % 256 * 65536)) (b % 256 * 256)) (c % 256) := by
    unfold asm asmL
    simp only [← hmm]
    simp
  rw [er]
  repeat (first
    | (refine OT.fetch rfl (fun i_ ho_ => ?_)
       first
        | refine OT.move ho_ rfl rfl rfl ?_
        | refine OT.assign ho_ rfl rfl rfl ?_
        | refine OT.un ho_ rfl rfl ?_
        | refine OT.pickT ho_ rfl rfl rfl rfl ?_
        | refine OT.pickF ho_ rfl rfl rfl rfl ?_
        | refine OT.extract ho_ rfl rfl rfl rfl ?_
        | refine OT.not ho_ rfl rfl rfl ?_
        | refine OT.faddr ho_ rfl rfl (by first | exact us31 | exact us59) (by decide) rfl ?_
        | refine OT.ld ho_ rfl rfl (by first | exact ga3 | exact ga4 | exact ga5 | exact ga9 | exact ga22) rfl rfl (by first | exact trivial | exact .inr (.inl ⟨rfl, fun b hb => by cases hb; decide⟩) | exact Side.pass rfl) rfl ?_
        | refine OT.arW D ho_ rfl rfl rfl (fun _ _ => aBin_subW hD) rfl ?_
        | refine OT.arW N ho_ rfl rfl rfl (fun _ _ => aBin_quoW (by decide) (by rw [hN2]; exact hN)) rfl ?_
        | refine OT.convW m ho_ rfl rfl u3 u56 hm rfl ?_
        | refine OT.convW (a % 256) ho_ rfl rfl u3 u5 u8_wrap rfl ?_
        | refine OT.convW (b % 256) ho_ rfl rfl u3 u5 u8_wrap rfl ?_
        | refine OT.convW (c % 256) ho_ rfl rfl u3 u5 u8_wrap rfl ?_
        | refine OT.convI ho_ rfl rfl u3 u22 (IntWalk.u32_in _ (by omega)) rfl ?_
        | refine OT.convI ho_ rfl rfl u5 u22 (IntWalk.u32_in _ (by omega)) rfl ?_
        | refine OT.shl 16777216 ho_ rfl rfl rfl (by decide) (by decide) (by decide) (IntWalk.u32_in _ (by omega)) rfl ?_
        | refine OT.shl 65536 ho_ rfl rfl rfl (by decide) (by decide) (by decide) (IntWalk.u32_in _ (by omega)) rfl ?_
        | refine OT.shl 256 ho_ rfl rfl rfl (by decide) (by decide) (by decide) (IntWalk.u32_in _ (by omega)) rfl ?_
        | refine OT.orW ho_ rfl rfl rfl rfl ?_
        | refine OT.call1D (orc_at _ _) ho_ rfl rfl (iF F28) (Side.pass rfl) rfl ?_
        | refine OT.cmpT ho_ rfl rfl rfl rfl (by first | (simp only [cmpP]; done) | (simp only [cmpP]; omega)) rfl ?_
        | refine OT.cmpF ho_ rfl rfl rfl rfl (by first | (simp only [cmpP]; done) | (simp only [cmpP]; omega)) rfl ?_
        | refine OT.add ho_ rfl rfl rfl (by first | exact IntWalk.i64_in _ (by omega) | exact IntWalk.u8_in _ (by omega) | exact IntWalk.u32_in _ (by omega) | exact IntWalk.u16_in _ (by omega) | exact IntWalk.i32_in _ (by omega)) rfl ?_
        | refine OT.sub ho_ rfl rfl rfl (by first | exact IntWalk.i64_in _ (by omega) | exact IntWalk.u8_in _ (by omega) | exact IntWalk.u32_in _ (by omega) | exact IntWalk.u16_in _ (by omega) | exact IntWalk.i32_in _ (by omega)) rfl ?_
        | refine OT.mul ho_ rfl rfl rfl (by first | exact IntWalk.i64_in _ (by omega) | exact IntWalk.u8_in _ (by omega) | exact IntWalk.u32_in _ (by omega) | exact IntWalk.u16_in _ (by omega) | exact IntWalk.i32_in _ (by omega)) rfl ?_
        | refine OT.quo ho_ rfl rfl rfl (by omega) (by omega) (by first | exact IntWalk.i64_in _ (by omega) | exact IntWalk.u8_in _ (by omega) | exact IntWalk.u32_in _ (by omega) | exact IntWalk.u16_in _ (by omega) | exact IntWalk.i32_in _ (by omega)) rfl ?_
        | refine OT.rem ho_ rfl rfl rfl (by omega) (by omega) rfl ?_
        | refine OT.box _ ho_ rfl rfl rfl (Nat.le_of_ble_eq_true (by rfl)) (by first | exact trivial | exact .inr (.inl ⟨rfl, fun b hb => by cases hb; decide⟩) | exact Side.pass rfl) rfl ?_
        | refine OT.alloc _ ho_ rfl (by first | exact z31 | exact z59 | exact z61) rfl rfl (Nat.le_of_ble_eq_true (by rfl)) (by first | exact trivial | exact .inr (.inl ⟨rfl, fun b hb => by cases hb; decide⟩) | exact Side.pass rfl) rfl ?_
        | refine OT.ldA ho_ rfl rfl (by first | exact ga31 | exact ga59 | exact ga61 | exact ga24) (by first | exact sz3 | exact sz5 | exact sz22 | exact sz31 | exact sz59 | exact sz61 | exact sz24) rfl (Nat.le_of_ble_eq_true (by rfl)) rfl (by first | exact trivial | exact .inr (.inl ⟨rfl, fun b hb => by cases hb; decide⟩) | exact Side.pass rfl) rfl ?_
        | refine OT.st _ ho_ rfl rfl rfl (by first | exact sz3 | exact sz5 | exact sz22 | exact sz31 | exact sz59 | exact sz61 | exact sz24) rfl (by rfl) rfl (by decide) (Nat.le_of_ble_eq_true (by rfl)) rfl (Nat.le_of_ble_eq_true (by rfl)) rfl (by first | exact trivial | exact .inr (.inl ⟨rfl, fun b hb => by cases hb; decide⟩) | exact Side.pass rfl) ?_
        | refine OT.iaddrA ho_ rfl rfl rfl (by first | exact u60 | exact u61 | exact u24) (by first | exact sz3 | exact sz5 | exact sz22 | exact sz31 | exact sz59 | exact sz61 | exact sz24) (by omega) (by omega) rfl ?_
        | refine OT.buildV ho_ rfl rfl (by first | exact bld31 _ _ _ _ _ | exact bld31b _ _) rfl ?_
        | refine OT.mkF ho_ rfl rfl rfl rfl ?_
        | refine OT.maxQ _ ho_ rfl rfl rfl rfl rfl ?_
        | refine OT.minQ _ ho_ rfl rfl rfl rfl rfl ?_
        | refine OT.convI ho_ rfl rfl (by first | exact u3 | exact u5 | exact u22 | exact u56 | exact u21 | exact u25 | exact u33 | exact u42 | exact u2) (by first | exact u3 | exact u5 | exact u22 | exact u56 | exact u21 | exact u25 | exact u33 | exact u42 | exact u2) (by first | exact IntWalk.i64_in _ (by omega) | exact IntWalk.u8_in _ (by omega) | exact IntWalk.u32_in _ (by omega) | exact IntWalk.u16_in _ (by omega) | exact IntWalk.i32_in _ (by omega)) rfl ?_
       clear ho_ i_)
    | refine Tr.drawH cx [0, 30, 31] (fun H => .call 28 #[.int .u32 m, .int .i64 0] H) (fun H => .value (.int .i64 (0)) H) (lowE0 hm0 hm1 _) (by decide +kernel) ?_
    | refine OT.nil ?_
    | refine Tr.region cx ?_
    | refine Tr.draw cx [] noEv (Valid.none _) (by decide +kernel) ?_
    | refine Tr.cond_true cx rfl ?_
    | refine Tr.cond_false cx rfl ?_
    | refine Tr.seq cx ?_
    | refine Tr.block cx ?_
    | refine Tr.ret cx ?_
    | refine Tr.skip cx ?_
    | refine Tr.exit cx ?_)
  exact ⟨_, _, rfl, rfl, by rfl⟩
theorem assemble5 {a b c n at_ : Int} (hx : I5.Fits ⟨5, a, b, c, n⟩) (ha : 0 ≤ at_ ∧ at_ ≤ 65540) : ∃ v H2, EvS Tryd.prog (.call 25 #[inst 5 a b c n, .int .i64 at_] H0) (.value v H2) ∧ v = .int .u32 (asm ⟨5, a, b, c, n⟩ at_) := by
  refine EvS.call cx F25 (fn := Tryd.f25) rfl ⟨by simp [Tryd.f25], by simp⟩ ?_
  obtain ⟨-, -, -, -, hn⟩ := hx
  simp only at hn
  generalize hD : IntKind.i64.wrap (n - at_) = D
  have hDr := wrap_i64_range (n - at_)
  rw [hD] at hDr
  have hN : IntKind.i64.wrap (D.tdiv 4) = D.tdiv 4 := IntWalk.i64_quo' D 4 ⟨hDr.1, hDr.2, by decide⟩
  generalize hN2 : D.tdiv 4 = N at hN
  have hNN : asmN 5 n at_ = N := by
    unfold asmN
    rw [if_pos (by decide), hD, hN2]
  generalize hm : IntKind.u32.wrap N = m
  have hmm : m = asmN 5 n at_ % 4294967296 := by rw [hNN, ← hm, u32_wrap]
  have hm0 : 0 ≤ m := by rw [hmm]; exact Int.emod_nonneg _ (by decide)
  have hm1 : m < 4294967296 := by rw [hmm]; exact Int.emod_lt_of_pos _ (by decide)
  have er : asm ⟨5, a, b, c, n⟩ at_ = orW .u32 (orW .u32 (orW .u32 (orW .u32 (m % 16777216) (5 * 16777216)) (a % 256 * 65536)) (b % 256 * 256)) (c % 256) := by
    unfold asm asmL
    simp only [← hmm]
    simp
  rw [er]
  repeat (first
    | (refine OT.fetch rfl (fun i_ ho_ => ?_)
       first
        | refine OT.move ho_ rfl rfl rfl ?_
        | refine OT.assign ho_ rfl rfl rfl ?_
        | refine OT.un ho_ rfl rfl ?_
        | refine OT.pickT ho_ rfl rfl rfl rfl ?_
        | refine OT.pickF ho_ rfl rfl rfl rfl ?_
        | refine OT.extract ho_ rfl rfl rfl rfl ?_
        | refine OT.not ho_ rfl rfl rfl ?_
        | refine OT.faddr ho_ rfl rfl (by first | exact us31 | exact us59) (by decide) rfl ?_
        | refine OT.ld ho_ rfl rfl (by first | exact ga3 | exact ga4 | exact ga5 | exact ga9 | exact ga22) rfl rfl (by first | exact trivial | exact .inr (.inl ⟨rfl, fun b hb => by cases hb; decide⟩) | exact Side.pass rfl) rfl ?_
        | refine OT.arW D ho_ rfl rfl rfl (fun _ _ => aBin_subW hD) rfl ?_
        | refine OT.arW N ho_ rfl rfl rfl (fun _ _ => aBin_quoW (by decide) (by rw [hN2]; exact hN)) rfl ?_
        | refine OT.convW m ho_ rfl rfl u3 u56 hm rfl ?_
        | refine OT.convW (a % 256) ho_ rfl rfl u3 u5 u8_wrap rfl ?_
        | refine OT.convW (b % 256) ho_ rfl rfl u3 u5 u8_wrap rfl ?_
        | refine OT.convW (c % 256) ho_ rfl rfl u3 u5 u8_wrap rfl ?_
        | refine OT.convI ho_ rfl rfl u3 u22 (IntWalk.u32_in _ (by omega)) rfl ?_
        | refine OT.convI ho_ rfl rfl u5 u22 (IntWalk.u32_in _ (by omega)) rfl ?_
        | refine OT.shl 16777216 ho_ rfl rfl rfl (by decide) (by decide) (by decide) (IntWalk.u32_in _ (by omega)) rfl ?_
        | refine OT.shl 65536 ho_ rfl rfl rfl (by decide) (by decide) (by decide) (IntWalk.u32_in _ (by omega)) rfl ?_
        | refine OT.shl 256 ho_ rfl rfl rfl (by decide) (by decide) (by decide) (IntWalk.u32_in _ (by omega)) rfl ?_
        | refine OT.orW ho_ rfl rfl rfl rfl ?_
        | refine OT.call1D (orc_at _ _) ho_ rfl rfl (iF F28) (Side.pass rfl) rfl ?_
        | refine OT.cmpT ho_ rfl rfl rfl rfl (by first | (simp only [cmpP]; done) | (simp only [cmpP]; omega)) rfl ?_
        | refine OT.cmpF ho_ rfl rfl rfl rfl (by first | (simp only [cmpP]; done) | (simp only [cmpP]; omega)) rfl ?_
        | refine OT.add ho_ rfl rfl rfl (by first | exact IntWalk.i64_in _ (by omega) | exact IntWalk.u8_in _ (by omega) | exact IntWalk.u32_in _ (by omega) | exact IntWalk.u16_in _ (by omega) | exact IntWalk.i32_in _ (by omega)) rfl ?_
        | refine OT.sub ho_ rfl rfl rfl (by first | exact IntWalk.i64_in _ (by omega) | exact IntWalk.u8_in _ (by omega) | exact IntWalk.u32_in _ (by omega) | exact IntWalk.u16_in _ (by omega) | exact IntWalk.i32_in _ (by omega)) rfl ?_
        | refine OT.mul ho_ rfl rfl rfl (by first | exact IntWalk.i64_in _ (by omega) | exact IntWalk.u8_in _ (by omega) | exact IntWalk.u32_in _ (by omega) | exact IntWalk.u16_in _ (by omega) | exact IntWalk.i32_in _ (by omega)) rfl ?_
        | refine OT.quo ho_ rfl rfl rfl (by omega) (by omega) (by first | exact IntWalk.i64_in _ (by omega) | exact IntWalk.u8_in _ (by omega) | exact IntWalk.u32_in _ (by omega) | exact IntWalk.u16_in _ (by omega) | exact IntWalk.i32_in _ (by omega)) rfl ?_
        | refine OT.rem ho_ rfl rfl rfl (by omega) (by omega) rfl ?_
        | refine OT.box _ ho_ rfl rfl rfl (Nat.le_of_ble_eq_true (by rfl)) (by first | exact trivial | exact .inr (.inl ⟨rfl, fun b hb => by cases hb; decide⟩) | exact Side.pass rfl) rfl ?_
        | refine OT.alloc _ ho_ rfl (by first | exact z31 | exact z59 | exact z61) rfl rfl (Nat.le_of_ble_eq_true (by rfl)) (by first | exact trivial | exact .inr (.inl ⟨rfl, fun b hb => by cases hb; decide⟩) | exact Side.pass rfl) rfl ?_
        | refine OT.ldA ho_ rfl rfl (by first | exact ga31 | exact ga59 | exact ga61 | exact ga24) (by first | exact sz3 | exact sz5 | exact sz22 | exact sz31 | exact sz59 | exact sz61 | exact sz24) rfl (Nat.le_of_ble_eq_true (by rfl)) rfl (by first | exact trivial | exact .inr (.inl ⟨rfl, fun b hb => by cases hb; decide⟩) | exact Side.pass rfl) rfl ?_
        | refine OT.st _ ho_ rfl rfl rfl (by first | exact sz3 | exact sz5 | exact sz22 | exact sz31 | exact sz59 | exact sz61 | exact sz24) rfl (by rfl) rfl (by decide) (Nat.le_of_ble_eq_true (by rfl)) rfl (Nat.le_of_ble_eq_true (by rfl)) rfl (by first | exact trivial | exact .inr (.inl ⟨rfl, fun b hb => by cases hb; decide⟩) | exact Side.pass rfl) ?_
        | refine OT.iaddrA ho_ rfl rfl rfl (by first | exact u60 | exact u61 | exact u24) (by first | exact sz3 | exact sz5 | exact sz22 | exact sz31 | exact sz59 | exact sz61 | exact sz24) (by omega) (by omega) rfl ?_
        | refine OT.buildV ho_ rfl rfl (by first | exact bld31 _ _ _ _ _ | exact bld31b _ _) rfl ?_
        | refine OT.mkF ho_ rfl rfl rfl rfl ?_
        | refine OT.maxQ _ ho_ rfl rfl rfl rfl rfl ?_
        | refine OT.minQ _ ho_ rfl rfl rfl rfl rfl ?_
        | refine OT.convI ho_ rfl rfl (by first | exact u3 | exact u5 | exact u22 | exact u56 | exact u21 | exact u25 | exact u33 | exact u42 | exact u2) (by first | exact u3 | exact u5 | exact u22 | exact u56 | exact u21 | exact u25 | exact u33 | exact u42 | exact u2) (by first | exact IntWalk.i64_in _ (by omega) | exact IntWalk.u8_in _ (by omega) | exact IntWalk.u32_in _ (by omega) | exact IntWalk.u16_in _ (by omega) | exact IntWalk.i32_in _ (by omega)) rfl ?_
       clear ho_ i_)
    | refine Tr.drawH cx [0, 30, 31] (fun H => .call 28 #[.int .u32 m, .int .i64 24] H) (fun H => .value (.int .i64 (m % 16777216)) H) (lowE24 hm0 hm1 _) (by decide +kernel) ?_
    | refine OT.nil ?_
    | refine Tr.region cx ?_
    | refine Tr.draw cx [] noEv (Valid.none _) (by decide +kernel) ?_
    | refine Tr.cond_true cx rfl ?_
    | refine Tr.cond_false cx rfl ?_
    | refine Tr.seq cx ?_
    | refine Tr.block cx ?_
    | refine Tr.ret cx ?_
    | refine Tr.skip cx ?_
    | refine Tr.exit cx ?_)
  exact ⟨_, _, rfl, rfl, by rfl⟩
theorem assemble6 {a b c n at_ : Int} (hx : I5.Fits ⟨6, a, b, c, n⟩) (ha : 0 ≤ at_ ∧ at_ ≤ 65540) : ∃ v H2, EvS Tryd.prog (.call 25 #[inst 6 a b c n, .int .i64 at_] H0) (.value v H2) ∧ v = .int .u32 (asm ⟨6, a, b, c, n⟩ at_) := by
  refine EvS.call cx F25 (fn := Tryd.f25) rfl ⟨by simp [Tryd.f25], by simp⟩ ?_
  obtain ⟨-, -, -, -, hn⟩ := hx
  simp only at hn
  generalize hD : IntKind.i64.wrap (n - at_) = D
  have hDr := wrap_i64_range (n - at_)
  rw [hD] at hDr
  have hN : IntKind.i64.wrap (D.tdiv 4) = D.tdiv 4 := IntWalk.i64_quo' D 4 ⟨hDr.1, hDr.2, by decide⟩
  generalize hN2 : D.tdiv 4 = N at hN
  have hNN : asmN 6 n at_ = N := by
    unfold asmN
    rw [if_pos (by decide), hD, hN2]
  generalize hm : IntKind.u32.wrap N = m
  have hmm : m = asmN 6 n at_ % 4294967296 := by rw [hNN, ← hm, u32_wrap]
  have hm0 : 0 ≤ m := by rw [hmm]; exact Int.emod_nonneg _ (by decide)
  have hm1 : m < 4294967296 := by rw [hmm]; exact Int.emod_lt_of_pos _ (by decide)
  have er : asm ⟨6, a, b, c, n⟩ at_ = orW .u32 (orW .u32 (orW .u32 (orW .u32 (m % 16777216) (6 * 16777216)) (a % 256 * 65536)) (b % 256 * 256)) (c % 256) := by
    unfold asm asmL
    simp only [← hmm]
    simp
  rw [er]
  repeat (first
    | (refine OT.fetch rfl (fun i_ ho_ => ?_)
       first
        | refine OT.move ho_ rfl rfl rfl ?_
        | refine OT.assign ho_ rfl rfl rfl ?_
        | refine OT.un ho_ rfl rfl ?_
        | refine OT.pickT ho_ rfl rfl rfl rfl ?_
        | refine OT.pickF ho_ rfl rfl rfl rfl ?_
        | refine OT.extract ho_ rfl rfl rfl rfl ?_
        | refine OT.not ho_ rfl rfl rfl ?_
        | refine OT.faddr ho_ rfl rfl (by first | exact us31 | exact us59) (by decide) rfl ?_
        | refine OT.ld ho_ rfl rfl (by first | exact ga3 | exact ga4 | exact ga5 | exact ga9 | exact ga22) rfl rfl (by first | exact trivial | exact .inr (.inl ⟨rfl, fun b hb => by cases hb; decide⟩) | exact Side.pass rfl) rfl ?_
        | refine OT.arW D ho_ rfl rfl rfl (fun _ _ => aBin_subW hD) rfl ?_
        | refine OT.arW N ho_ rfl rfl rfl (fun _ _ => aBin_quoW (by decide) (by rw [hN2]; exact hN)) rfl ?_
        | refine OT.convW m ho_ rfl rfl u3 u56 hm rfl ?_
        | refine OT.convW (a % 256) ho_ rfl rfl u3 u5 u8_wrap rfl ?_
        | refine OT.convW (b % 256) ho_ rfl rfl u3 u5 u8_wrap rfl ?_
        | refine OT.convW (c % 256) ho_ rfl rfl u3 u5 u8_wrap rfl ?_
        | refine OT.convI ho_ rfl rfl u3 u22 (IntWalk.u32_in _ (by omega)) rfl ?_
        | refine OT.convI ho_ rfl rfl u5 u22 (IntWalk.u32_in _ (by omega)) rfl ?_
        | refine OT.shl 16777216 ho_ rfl rfl rfl (by decide) (by decide) (by decide) (IntWalk.u32_in _ (by omega)) rfl ?_
        | refine OT.shl 65536 ho_ rfl rfl rfl (by decide) (by decide) (by decide) (IntWalk.u32_in _ (by omega)) rfl ?_
        | refine OT.shl 256 ho_ rfl rfl rfl (by decide) (by decide) (by decide) (IntWalk.u32_in _ (by omega)) rfl ?_
        | refine OT.orW ho_ rfl rfl rfl rfl ?_
        | refine OT.call1D (orc_at _ _) ho_ rfl rfl (iF F28) (Side.pass rfl) rfl ?_
        | refine OT.cmpT ho_ rfl rfl rfl rfl (by first | (simp only [cmpP]; done) | (simp only [cmpP]; omega)) rfl ?_
        | refine OT.cmpF ho_ rfl rfl rfl rfl (by first | (simp only [cmpP]; done) | (simp only [cmpP]; omega)) rfl ?_
        | refine OT.add ho_ rfl rfl rfl (by first | exact IntWalk.i64_in _ (by omega) | exact IntWalk.u8_in _ (by omega) | exact IntWalk.u32_in _ (by omega) | exact IntWalk.u16_in _ (by omega) | exact IntWalk.i32_in _ (by omega)) rfl ?_
        | refine OT.sub ho_ rfl rfl rfl (by first | exact IntWalk.i64_in _ (by omega) | exact IntWalk.u8_in _ (by omega) | exact IntWalk.u32_in _ (by omega) | exact IntWalk.u16_in _ (by omega) | exact IntWalk.i32_in _ (by omega)) rfl ?_
        | refine OT.mul ho_ rfl rfl rfl (by first | exact IntWalk.i64_in _ (by omega) | exact IntWalk.u8_in _ (by omega) | exact IntWalk.u32_in _ (by omega) | exact IntWalk.u16_in _ (by omega) | exact IntWalk.i32_in _ (by omega)) rfl ?_
        | refine OT.quo ho_ rfl rfl rfl (by omega) (by omega) (by first | exact IntWalk.i64_in _ (by omega) | exact IntWalk.u8_in _ (by omega) | exact IntWalk.u32_in _ (by omega) | exact IntWalk.u16_in _ (by omega) | exact IntWalk.i32_in _ (by omega)) rfl ?_
        | refine OT.rem ho_ rfl rfl rfl (by omega) (by omega) rfl ?_
        | refine OT.box _ ho_ rfl rfl rfl (Nat.le_of_ble_eq_true (by rfl)) (by first | exact trivial | exact .inr (.inl ⟨rfl, fun b hb => by cases hb; decide⟩) | exact Side.pass rfl) rfl ?_
        | refine OT.alloc _ ho_ rfl (by first | exact z31 | exact z59 | exact z61) rfl rfl (Nat.le_of_ble_eq_true (by rfl)) (by first | exact trivial | exact .inr (.inl ⟨rfl, fun b hb => by cases hb; decide⟩) | exact Side.pass rfl) rfl ?_
        | refine OT.ldA ho_ rfl rfl (by first | exact ga31 | exact ga59 | exact ga61 | exact ga24) (by first | exact sz3 | exact sz5 | exact sz22 | exact sz31 | exact sz59 | exact sz61 | exact sz24) rfl (Nat.le_of_ble_eq_true (by rfl)) rfl (by first | exact trivial | exact .inr (.inl ⟨rfl, fun b hb => by cases hb; decide⟩) | exact Side.pass rfl) rfl ?_
        | refine OT.st _ ho_ rfl rfl rfl (by first | exact sz3 | exact sz5 | exact sz22 | exact sz31 | exact sz59 | exact sz61 | exact sz24) rfl (by rfl) rfl (by decide) (Nat.le_of_ble_eq_true (by rfl)) rfl (Nat.le_of_ble_eq_true (by rfl)) rfl (by first | exact trivial | exact .inr (.inl ⟨rfl, fun b hb => by cases hb; decide⟩) | exact Side.pass rfl) ?_
        | refine OT.iaddrA ho_ rfl rfl rfl (by first | exact u60 | exact u61 | exact u24) (by first | exact sz3 | exact sz5 | exact sz22 | exact sz31 | exact sz59 | exact sz61 | exact sz24) (by omega) (by omega) rfl ?_
        | refine OT.buildV ho_ rfl rfl (by first | exact bld31 _ _ _ _ _ | exact bld31b _ _) rfl ?_
        | refine OT.mkF ho_ rfl rfl rfl rfl ?_
        | refine OT.maxQ _ ho_ rfl rfl rfl rfl rfl ?_
        | refine OT.minQ _ ho_ rfl rfl rfl rfl rfl ?_
        | refine OT.convI ho_ rfl rfl (by first | exact u3 | exact u5 | exact u22 | exact u56 | exact u21 | exact u25 | exact u33 | exact u42 | exact u2) (by first | exact u3 | exact u5 | exact u22 | exact u56 | exact u21 | exact u25 | exact u33 | exact u42 | exact u2) (by first | exact IntWalk.i64_in _ (by omega) | exact IntWalk.u8_in _ (by omega) | exact IntWalk.u32_in _ (by omega) | exact IntWalk.u16_in _ (by omega) | exact IntWalk.i32_in _ (by omega)) rfl ?_
       clear ho_ i_)
    | refine Tr.drawH cx [0, 30, 31] (fun H => .call 28 #[.int .u32 m, .int .i64 24] H) (fun H => .value (.int .i64 (m % 16777216)) H) (lowE24 hm0 hm1 _) (by decide +kernel) ?_
    | refine OT.nil ?_
    | refine Tr.region cx ?_
    | refine Tr.draw cx [] noEv (Valid.none _) (by decide +kernel) ?_
    | refine Tr.cond_true cx rfl ?_
    | refine Tr.cond_false cx rfl ?_
    | refine Tr.seq cx ?_
    | refine Tr.block cx ?_
    | refine Tr.ret cx ?_
    | refine Tr.skip cx ?_
    | refine Tr.exit cx ?_)
  exact ⟨_, _, rfl, rfl, by rfl⟩
theorem assemble7 {a b c n at_ : Int} (hx : I5.Fits ⟨7, a, b, c, n⟩) (ha : 0 ≤ at_ ∧ at_ ≤ 65540) : ∃ v H2, EvS Tryd.prog (.call 25 #[inst 7 a b c n, .int .i64 at_] H0) (.value v H2) ∧ v = .int .u32 (asm ⟨7, a, b, c, n⟩ at_) := by
  refine EvS.call cx F25 (fn := Tryd.f25) rfl ⟨by simp [Tryd.f25], by simp⟩ ?_
  obtain ⟨-, -, -, -, hn⟩ := hx
  simp only at hn
  generalize hD : IntKind.i64.wrap (n - at_) = D
  have hDr := wrap_i64_range (n - at_)
  rw [hD] at hDr
  have hN : IntKind.i64.wrap (D.tdiv 4) = D.tdiv 4 := IntWalk.i64_quo' D 4 ⟨hDr.1, hDr.2, by decide⟩
  generalize hN2 : D.tdiv 4 = N at hN
  have hNN : asmN 7 n at_ = N := by
    unfold asmN
    rw [if_pos (by decide), hD, hN2]
  generalize hm : IntKind.u32.wrap N = m
  have hmm : m = asmN 7 n at_ % 4294967296 := by rw [hNN, ← hm, u32_wrap]
  have hm0 : 0 ≤ m := by rw [hmm]; exact Int.emod_nonneg _ (by decide)
  have hm1 : m < 4294967296 := by rw [hmm]; exact Int.emod_lt_of_pos _ (by decide)
  have er : asm ⟨7, a, b, c, n⟩ at_ = orW .u32 (orW .u32 (orW .u32 (orW .u32 (m % 65536) (7 * 16777216)) (a % 256 * 65536)) (b % 256 * 256)) (c % 256) := by
    unfold asm asmL
    simp only [← hmm]
    simp
  rw [er]
  repeat (first
    | (refine OT.fetch rfl (fun i_ ho_ => ?_)
       first
        | refine OT.move ho_ rfl rfl rfl ?_
        | refine OT.assign ho_ rfl rfl rfl ?_
        | refine OT.un ho_ rfl rfl ?_
        | refine OT.pickT ho_ rfl rfl rfl rfl ?_
        | refine OT.pickF ho_ rfl rfl rfl rfl ?_
        | refine OT.extract ho_ rfl rfl rfl rfl ?_
        | refine OT.not ho_ rfl rfl rfl ?_
        | refine OT.faddr ho_ rfl rfl (by first | exact us31 | exact us59) (by decide) rfl ?_
        | refine OT.ld ho_ rfl rfl (by first | exact ga3 | exact ga4 | exact ga5 | exact ga9 | exact ga22) rfl rfl (by first | exact trivial | exact .inr (.inl ⟨rfl, fun b hb => by cases hb; decide⟩) | exact Side.pass rfl) rfl ?_
        | refine OT.arW D ho_ rfl rfl rfl (fun _ _ => aBin_subW hD) rfl ?_
        | refine OT.arW N ho_ rfl rfl rfl (fun _ _ => aBin_quoW (by decide) (by rw [hN2]; exact hN)) rfl ?_
        | refine OT.convW m ho_ rfl rfl u3 u56 hm rfl ?_
        | refine OT.convW (a % 256) ho_ rfl rfl u3 u5 u8_wrap rfl ?_
        | refine OT.convW (b % 256) ho_ rfl rfl u3 u5 u8_wrap rfl ?_
        | refine OT.convW (c % 256) ho_ rfl rfl u3 u5 u8_wrap rfl ?_
        | refine OT.convI ho_ rfl rfl u3 u22 (IntWalk.u32_in _ (by omega)) rfl ?_
        | refine OT.convI ho_ rfl rfl u5 u22 (IntWalk.u32_in _ (by omega)) rfl ?_
        | refine OT.shl 16777216 ho_ rfl rfl rfl (by decide) (by decide) (by decide) (IntWalk.u32_in _ (by omega)) rfl ?_
        | refine OT.shl 65536 ho_ rfl rfl rfl (by decide) (by decide) (by decide) (IntWalk.u32_in _ (by omega)) rfl ?_
        | refine OT.shl 256 ho_ rfl rfl rfl (by decide) (by decide) (by decide) (IntWalk.u32_in _ (by omega)) rfl ?_
        | refine OT.orW ho_ rfl rfl rfl rfl ?_
        | refine OT.call1D (orc_at _ _) ho_ rfl rfl (iF F28) (Side.pass rfl) rfl ?_
        | refine OT.cmpT ho_ rfl rfl rfl rfl (by first | (simp only [cmpP]; done) | (simp only [cmpP]; omega)) rfl ?_
        | refine OT.cmpF ho_ rfl rfl rfl rfl (by first | (simp only [cmpP]; done) | (simp only [cmpP]; omega)) rfl ?_
        | refine OT.add ho_ rfl rfl rfl (by first | exact IntWalk.i64_in _ (by omega) | exact IntWalk.u8_in _ (by omega) | exact IntWalk.u32_in _ (by omega) | exact IntWalk.u16_in _ (by omega) | exact IntWalk.i32_in _ (by omega)) rfl ?_
        | refine OT.sub ho_ rfl rfl rfl (by first | exact IntWalk.i64_in _ (by omega) | exact IntWalk.u8_in _ (by omega) | exact IntWalk.u32_in _ (by omega) | exact IntWalk.u16_in _ (by omega) | exact IntWalk.i32_in _ (by omega)) rfl ?_
        | refine OT.mul ho_ rfl rfl rfl (by first | exact IntWalk.i64_in _ (by omega) | exact IntWalk.u8_in _ (by omega) | exact IntWalk.u32_in _ (by omega) | exact IntWalk.u16_in _ (by omega) | exact IntWalk.i32_in _ (by omega)) rfl ?_
        | refine OT.quo ho_ rfl rfl rfl (by omega) (by omega) (by first | exact IntWalk.i64_in _ (by omega) | exact IntWalk.u8_in _ (by omega) | exact IntWalk.u32_in _ (by omega) | exact IntWalk.u16_in _ (by omega) | exact IntWalk.i32_in _ (by omega)) rfl ?_
        | refine OT.rem ho_ rfl rfl rfl (by omega) (by omega) rfl ?_
        | refine OT.box _ ho_ rfl rfl rfl (Nat.le_of_ble_eq_true (by rfl)) (by first | exact trivial | exact .inr (.inl ⟨rfl, fun b hb => by cases hb; decide⟩) | exact Side.pass rfl) rfl ?_
        | refine OT.alloc _ ho_ rfl (by first | exact z31 | exact z59 | exact z61) rfl rfl (Nat.le_of_ble_eq_true (by rfl)) (by first | exact trivial | exact .inr (.inl ⟨rfl, fun b hb => by cases hb; decide⟩) | exact Side.pass rfl) rfl ?_
        | refine OT.ldA ho_ rfl rfl (by first | exact ga31 | exact ga59 | exact ga61 | exact ga24) (by first | exact sz3 | exact sz5 | exact sz22 | exact sz31 | exact sz59 | exact sz61 | exact sz24) rfl (Nat.le_of_ble_eq_true (by rfl)) rfl (by first | exact trivial | exact .inr (.inl ⟨rfl, fun b hb => by cases hb; decide⟩) | exact Side.pass rfl) rfl ?_
        | refine OT.st _ ho_ rfl rfl rfl (by first | exact sz3 | exact sz5 | exact sz22 | exact sz31 | exact sz59 | exact sz61 | exact sz24) rfl (by rfl) rfl (by decide) (Nat.le_of_ble_eq_true (by rfl)) rfl (Nat.le_of_ble_eq_true (by rfl)) rfl (by first | exact trivial | exact .inr (.inl ⟨rfl, fun b hb => by cases hb; decide⟩) | exact Side.pass rfl) ?_
        | refine OT.iaddrA ho_ rfl rfl rfl (by first | exact u60 | exact u61 | exact u24) (by first | exact sz3 | exact sz5 | exact sz22 | exact sz31 | exact sz59 | exact sz61 | exact sz24) (by omega) (by omega) rfl ?_
        | refine OT.buildV ho_ rfl rfl (by first | exact bld31 _ _ _ _ _ | exact bld31b _ _) rfl ?_
        | refine OT.mkF ho_ rfl rfl rfl rfl ?_
        | refine OT.maxQ _ ho_ rfl rfl rfl rfl rfl ?_
        | refine OT.minQ _ ho_ rfl rfl rfl rfl rfl ?_
        | refine OT.convI ho_ rfl rfl (by first | exact u3 | exact u5 | exact u22 | exact u56 | exact u21 | exact u25 | exact u33 | exact u42 | exact u2) (by first | exact u3 | exact u5 | exact u22 | exact u56 | exact u21 | exact u25 | exact u33 | exact u42 | exact u2) (by first | exact IntWalk.i64_in _ (by omega) | exact IntWalk.u8_in _ (by omega) | exact IntWalk.u32_in _ (by omega) | exact IntWalk.u16_in _ (by omega) | exact IntWalk.i32_in _ (by omega)) rfl ?_
       clear ho_ i_)
    | refine Tr.drawH cx [0, 30, 31] (fun H => .call 28 #[.int .u32 m, .int .i64 16] H) (fun H => .value (.int .i64 (m % 65536)) H) (lowE16 hm0 hm1 _) (by decide +kernel) ?_
    | refine OT.nil ?_
    | refine Tr.region cx ?_
    | refine Tr.draw cx [] noEv (Valid.none _) (by decide +kernel) ?_
    | refine Tr.cond_true cx rfl ?_
    | refine Tr.cond_false cx rfl ?_
    | refine Tr.seq cx ?_
    | refine Tr.block cx ?_
    | refine Tr.ret cx ?_
    | refine Tr.skip cx ?_
    | refine Tr.exit cx ?_)
  exact ⟨_, _, rfl, rfl, by rfl⟩
theorem assemble8 {a b c n at_ : Int} (hx : I5.Fits ⟨8, a, b, c, n⟩) (ha : 0 ≤ at_ ∧ at_ ≤ 65540) : ∃ v H2, EvS Tryd.prog (.call 25 #[inst 8 a b c n, .int .i64 at_] H0) (.value v H2) ∧ v = .int .u32 (asm ⟨8, a, b, c, n⟩ at_) := by
  refine EvS.call cx F25 (fn := Tryd.f25) rfl ⟨by simp [Tryd.f25], by simp⟩ ?_
  obtain ⟨-, -, -, -, hn⟩ := hx
  simp only at hn
  generalize hD : IntKind.i64.wrap (n - at_) = D
  have hDr := wrap_i64_range (n - at_)
  rw [hD] at hDr
  have hN : IntKind.i64.wrap (D.tdiv 4) = D.tdiv 4 := IntWalk.i64_quo' D 4 ⟨hDr.1, hDr.2, by decide⟩
  generalize hN2 : D.tdiv 4 = N at hN
  have hNN : asmN 8 n at_ = N := by
    unfold asmN
    rw [if_pos (by decide), hD, hN2]
  generalize hm : IntKind.u32.wrap N = m
  have hmm : m = asmN 8 n at_ % 4294967296 := by rw [hNN, ← hm, u32_wrap]
  have hm0 : 0 ≤ m := by rw [hmm]; exact Int.emod_nonneg _ (by decide)
  have hm1 : m < 4294967296 := by rw [hmm]; exact Int.emod_lt_of_pos _ (by decide)
  have er : asm ⟨8, a, b, c, n⟩ at_ = orW .u32 (orW .u32 (orW .u32 (orW .u32 (m % 65536) (8 * 16777216)) (a % 256 * 65536)) (b % 256 * 256)) (c % 256) := by
    unfold asm asmL
    simp only [← hmm]
    simp
  rw [er]
  repeat (first
    | (refine OT.fetch rfl (fun i_ ho_ => ?_)
       first
        | refine OT.move ho_ rfl rfl rfl ?_
        | refine OT.assign ho_ rfl rfl rfl ?_
        | refine OT.un ho_ rfl rfl ?_
        | refine OT.pickT ho_ rfl rfl rfl rfl ?_
        | refine OT.pickF ho_ rfl rfl rfl rfl ?_
        | refine OT.extract ho_ rfl rfl rfl rfl ?_
        | refine OT.not ho_ rfl rfl rfl ?_
        | refine OT.faddr ho_ rfl rfl (by first | exact us31 | exact us59) (by decide) rfl ?_
        | refine OT.ld ho_ rfl rfl (by first | exact ga3 | exact ga4 | exact ga5 | exact ga9 | exact ga22) rfl rfl (by first | exact trivial | exact .inr (.inl ⟨rfl, fun b hb => by cases hb; decide⟩) | exact Side.pass rfl) rfl ?_
        | refine OT.arW D ho_ rfl rfl rfl (fun _ _ => aBin_subW hD) rfl ?_
        | refine OT.arW N ho_ rfl rfl rfl (fun _ _ => aBin_quoW (by decide) (by rw [hN2]; exact hN)) rfl ?_
        | refine OT.convW m ho_ rfl rfl u3 u56 hm rfl ?_
        | refine OT.convW (a % 256) ho_ rfl rfl u3 u5 u8_wrap rfl ?_
        | refine OT.convW (b % 256) ho_ rfl rfl u3 u5 u8_wrap rfl ?_
        | refine OT.convW (c % 256) ho_ rfl rfl u3 u5 u8_wrap rfl ?_
        | refine OT.convI ho_ rfl rfl u3 u22 (IntWalk.u32_in _ (by omega)) rfl ?_
        | refine OT.convI ho_ rfl rfl u5 u22 (IntWalk.u32_in _ (by omega)) rfl ?_
        | refine OT.shl 16777216 ho_ rfl rfl rfl (by decide) (by decide) (by decide) (IntWalk.u32_in _ (by omega)) rfl ?_
        | refine OT.shl 65536 ho_ rfl rfl rfl (by decide) (by decide) (by decide) (IntWalk.u32_in _ (by omega)) rfl ?_
        | refine OT.shl 256 ho_ rfl rfl rfl (by decide) (by decide) (by decide) (IntWalk.u32_in _ (by omega)) rfl ?_
        | refine OT.orW ho_ rfl rfl rfl rfl ?_
        | refine OT.call1D (orc_at _ _) ho_ rfl rfl (iF F28) (Side.pass rfl) rfl ?_
        | refine OT.cmpT ho_ rfl rfl rfl rfl (by first | (simp only [cmpP]; done) | (simp only [cmpP]; omega)) rfl ?_
        | refine OT.cmpF ho_ rfl rfl rfl rfl (by first | (simp only [cmpP]; done) | (simp only [cmpP]; omega)) rfl ?_
        | refine OT.add ho_ rfl rfl rfl (by first | exact IntWalk.i64_in _ (by omega) | exact IntWalk.u8_in _ (by omega) | exact IntWalk.u32_in _ (by omega) | exact IntWalk.u16_in _ (by omega) | exact IntWalk.i32_in _ (by omega)) rfl ?_
        | refine OT.sub ho_ rfl rfl rfl (by first | exact IntWalk.i64_in _ (by omega) | exact IntWalk.u8_in _ (by omega) | exact IntWalk.u32_in _ (by omega) | exact IntWalk.u16_in _ (by omega) | exact IntWalk.i32_in _ (by omega)) rfl ?_
        | refine OT.mul ho_ rfl rfl rfl (by first | exact IntWalk.i64_in _ (by omega) | exact IntWalk.u8_in _ (by omega) | exact IntWalk.u32_in _ (by omega) | exact IntWalk.u16_in _ (by omega) | exact IntWalk.i32_in _ (by omega)) rfl ?_
        | refine OT.quo ho_ rfl rfl rfl (by omega) (by omega) (by first | exact IntWalk.i64_in _ (by omega) | exact IntWalk.u8_in _ (by omega) | exact IntWalk.u32_in _ (by omega) | exact IntWalk.u16_in _ (by omega) | exact IntWalk.i32_in _ (by omega)) rfl ?_
        | refine OT.rem ho_ rfl rfl rfl (by omega) (by omega) rfl ?_
        | refine OT.box _ ho_ rfl rfl rfl (Nat.le_of_ble_eq_true (by rfl)) (by first | exact trivial | exact .inr (.inl ⟨rfl, fun b hb => by cases hb; decide⟩) | exact Side.pass rfl) rfl ?_
        | refine OT.alloc _ ho_ rfl (by first | exact z31 | exact z59 | exact z61) rfl rfl (Nat.le_of_ble_eq_true (by rfl)) (by first | exact trivial | exact .inr (.inl ⟨rfl, fun b hb => by cases hb; decide⟩) | exact Side.pass rfl) rfl ?_
        | refine OT.ldA ho_ rfl rfl (by first | exact ga31 | exact ga59 | exact ga61 | exact ga24) (by first | exact sz3 | exact sz5 | exact sz22 | exact sz31 | exact sz59 | exact sz61 | exact sz24) rfl (Nat.le_of_ble_eq_true (by rfl)) rfl (by first | exact trivial | exact .inr (.inl ⟨rfl, fun b hb => by cases hb; decide⟩) | exact Side.pass rfl) rfl ?_
        | refine OT.st _ ho_ rfl rfl rfl (by first | exact sz3 | exact sz5 | exact sz22 | exact sz31 | exact sz59 | exact sz61 | exact sz24) rfl (by rfl) rfl (by decide) (Nat.le_of_ble_eq_true (by rfl)) rfl (Nat.le_of_ble_eq_true (by rfl)) rfl (by first | exact trivial | exact .inr (.inl ⟨rfl, fun b hb => by cases hb; decide⟩) | exact Side.pass rfl) ?_
        | refine OT.iaddrA ho_ rfl rfl rfl (by first | exact u60 | exact u61 | exact u24) (by first | exact sz3 | exact sz5 | exact sz22 | exact sz31 | exact sz59 | exact sz61 | exact sz24) (by omega) (by omega) rfl ?_
        | refine OT.buildV ho_ rfl rfl (by first | exact bld31 _ _ _ _ _ | exact bld31b _ _) rfl ?_
        | refine OT.mkF ho_ rfl rfl rfl rfl ?_
        | refine OT.maxQ _ ho_ rfl rfl rfl rfl rfl ?_
        | refine OT.minQ _ ho_ rfl rfl rfl rfl rfl ?_
        | refine OT.convI ho_ rfl rfl (by first | exact u3 | exact u5 | exact u22 | exact u56 | exact u21 | exact u25 | exact u33 | exact u42 | exact u2) (by first | exact u3 | exact u5 | exact u22 | exact u56 | exact u21 | exact u25 | exact u33 | exact u42 | exact u2) (by first | exact IntWalk.i64_in _ (by omega) | exact IntWalk.u8_in _ (by omega) | exact IntWalk.u32_in _ (by omega) | exact IntWalk.u16_in _ (by omega) | exact IntWalk.i32_in _ (by omega)) rfl ?_
       clear ho_ i_)
    | refine Tr.drawH cx [0, 30, 31] (fun H => .call 28 #[.int .u32 m, .int .i64 16] H) (fun H => .value (.int .i64 (m % 65536)) H) (lowE16 hm0 hm1 _) (by decide +kernel) ?_
    | refine OT.nil ?_
    | refine Tr.region cx ?_
    | refine Tr.draw cx [] noEv (Valid.none _) (by decide +kernel) ?_
    | refine Tr.cond_true cx rfl ?_
    | refine Tr.cond_false cx rfl ?_
    | refine Tr.seq cx ?_
    | refine Tr.block cx ?_
    | refine Tr.ret cx ?_
    | refine Tr.skip cx ?_
    | refine Tr.exit cx ?_)
  exact ⟨_, _, rfl, rfl, by rfl⟩
end Go.Proofs.YtljpjeipgdeioaaDoor
