/-
  A part of the proof: what a piece of the program gives; conditions: those of each theorem.
-/
import Derived.Test.YtljpjeipgdeioaaDoorS6
set_option linter.unusedVariables false
namespace Go.Proofs.YtljpjeipgdeioaaDoor
open Ax
set_option maxHeartbeats 8000000
theorem orW_u32 (a b : Int) : 0 ≤ orW .u32 a b ∧ orW .u32 a b < 4294967296 := by unfold orW; rw [u32_wrap]; omega
theorem asm_range (x : I5) (at_ : Int) : 0 ≤ asm x at_ ∧ asm x at_ < 4294967296 := orW_u32 _ _
theorem assemble_ev {x : I5} {at_ : Int} (hx : x.Fits) (ho : 0 ≤ x.o ∧ x.o ≤ 8) (ha : 0 ≤ at_ ∧ at_ ≤ 65540) {H : AHeap} (hL : Lay G H) : EvS Tryd.prog (.call 25 #[x.val, .int .i64 at_] H) (.value (.int .u32 (asm x at_)) H) := by
  have : ∃ v H2, EvS Tryd.prog (.call 25 #[x.val, .int .i64 at_] H0) (.value v H2) ∧ v = .int .u32 (asm x at_) := by
    obtain ⟨o, a, b, c, n⟩ := x
    simp only at ho
    have hc : o = 0 ∨ o = 1 ∨ o = 2 ∨ o = 3 ∨ o = 4 ∨ o = 5 ∨ o = 6 ∨ o = 7 ∨ o = 8 := by omega
    rcases hc with rfl | rfl | rfl | rfl | rfl | rfl | rfl | rfl | rfl
    · exact assemble0 hx ha
    · exact assemble1 hx ha
    · exact assemble2 hx ha
    · exact assemble3 hx ha
    · exact assemble4 hx ha
    · exact assemble5 hx ha
    · exact assemble6 hx ha
    · exact assemble7 hx ha
    · exact assemble8 hx ha
  obtain ⟨v, H2, h, rfl⟩ := this
  exact EvS.frame hG rfl rfl h hL
/-- What a word is. -/
def decI (w at_ : Int) : I5 := decO (opS (w / 16777216 % 256) (w / 65536 % 256) (w / 256 % 256) (w % 256)) w (w / 65536 % 256) (w / 256 % 256) (w % 256) at_
theorem dec_ev {w at_ : Int} (h0 : 0 ≤ w) (h1 : w < 4294967296) (ha : 0 ≤ at_ ∧ at_ ≤ 65540) {H : AHeap} (hL : Lay G H) : EvS Tryd.prog (.call 13 #[.int .u32 w, .int .i64 at_] H) (.value (decI w at_).val H) := decode_ev (wd w h0 h1) ha hL
theorem u31 : ∃ fields, pureRun Tryd.prog (underlying 31) = some (.struct fields) ∧ intFields Tryd.prog .i64 fields.toList 0 = true ∧ fields.size = 5 := by
  have h : (match pureRun Tryd.prog (underlying 31) with | some (.struct fields) => intFields Tryd.prog .i64 fields.toList 0 && fields.size == 5 | _ => false) = true := by decide +kernel
  split at h
  · rename_i fields hu
    simp only [Bool.and_eq_true, beq_iff_eq] at h
    exact ⟨fields, hu, h.1, h.2⟩
  · cases h
theorem st31 : Tryd.prog.stoodInHeld 31 = false := by decide +kernel
theorem eg31 : Tryd.prog.eqGuardType Tryd.prog.depth 31 = false := by decide +kernel
theorem I5.ext_list (x y : I5) : [x.o, x.a, x.b, x.c, x.n] = [y.o, y.a, y.b, y.c, y.n] ↔ x = y := by
  obtain ⟨o, a, b, c, n⟩ := x
  obtain ⟨o', a', b', c', n'⟩ := y
  simp
theorem eq31 {xo yo : Operand} (x y : I5) : aBin Tryd.prog .eql 31 xo yo x.val y.val = some (.bool (decide (x = y))) := by
  obtain ⟨fields, hu, hf, hn⟩ := u31
  have := aBin_eqS (xo := xo) (yo := yo) (X := [x.o, x.a, x.b, x.c, x.n]) (Y := [y.o, y.a, y.b, y.c, y.n]) hu hf st31 eg31 hn hn
  simp only [I5.ext_list] at this
  exact this
theorem ne31 {xo yo : Operand} (x y : I5) : aBin Tryd.prog .neq 31 xo yo x.val y.val = some (.bool (!decide (x = y))) := by
  obtain ⟨fields, hu, hf, hn⟩ := u31
  have := aBin_neS (xo := xo) (yo := yo) (X := [x.o, x.a, x.b, x.c, x.n]) (Y := [y.o, y.a, y.b, y.c, y.n]) hu hf st31 eg31 hn hn
  simp only [I5.ext_list] at this
  exact this
theorem ne31T {xo yo : Operand} {x y : I5} (h : x ≠ y) : aBin Tryd.prog .neq 31 xo yo x.val y.val = some (.bool true) := by rw [ne31]; simp [h]
theorem ne31F {xo yo : Operand} {x y : I5} (h : x = y) : aBin Tryd.prog .neq 31 xo yo x.val y.val = some (.bool false) := by rw [ne31]; simp [h]
def encOK (x : I5) (at_ : Int) : Prop := 0 ≤ x.o ∧ x.o ≤ 8 ∧ decI (asm x at_) at_ = x
instance (x : I5) (at_ : Int) : Decidable (encOK x at_) := by unfold encOK; infer_instance
def encV (x : I5) (at_ : Int) : Value := if encOK x at_ then .tuple #[.int .u32 (asm x at_), .int .i64 0] else .tuple #[.int .u32 0, .int .i64 20]
theorem encode_ev0 {o a b c n at_ : Int} (hx : I5.Fits ⟨o, a, b, c, n⟩) (ha : 0 ≤ at_ ∧ at_ ≤ 65540) : ∃ v H2, EvS Tryd.prog (.call 14 #[inst o a b c n, .int .i64 at_] H0) (.value v H2) ∧ v = encV ⟨o, a, b, c, n⟩ at_ := by
  refine EvS.call cx F14 (fn := Tryd.f14) rfl ⟨by simp [Tryd.f14], by simp⟩ ?_
  by_cases h0 : o < 0
  · have er : encV ⟨o, a, b, c, n⟩ at_ = .tuple #[.int .u32 0, .int .i64 20] := if_neg (fun h => by obtain ⟨h1, _⟩ := h; simp only at h1; omega)
    rw [er]
    repeat (first
    | (refine OT.fetch rfl (fun i_ ho_ => ?_)
       first
        | refine OT.move ho_ rfl rfl rfl ?_
        | refine OT.assign ho_ rfl rfl rfl ?_
        | refine OT.un ho_ rfl rfl ?_
        | refine OT.pickT ho_ rfl rfl rfl rfl ?_
        | refine OT.pickF ho_ rfl rfl rfl rfl ?_
        | refine OT.extract ho_ rfl rfl rfl rfl ?_
        | refine OT.not ho_ rfl rfl rfl ?_
        | refine OT.faddr ho_ rfl rfl (by first | exact us31 | exact us59) (by decide) rfl ?_
        | refine OT.ld ho_ rfl rfl (by first | exact ga3 | exact ga4 | exact ga5 | exact ga9 | exact ga22) rfl rfl (by first | exact trivial | exact .inr (.inl ⟨rfl, fun b hb => by cases hb; decide⟩) | exact Side.pass rfl) rfl ?_
        | refine OT.cmpT ho_ rfl rfl rfl rfl (by first | (simp only [cmpP]; done) | (simp only [cmpP]; omega)) rfl ?_
        | refine OT.cmpF ho_ rfl rfl rfl rfl (by first | (simp only [cmpP]; done) | (simp only [cmpP]; omega)) rfl ?_
        | refine OT.add ho_ rfl rfl rfl (by first | exact IntWalk.i64_in _ (by omega) | exact IntWalk.u8_in _ (by omega) | exact IntWalk.u32_in _ (by omega) | exact IntWalk.u16_in _ (by omega) | exact IntWalk.i32_in _ (by omega)) rfl ?_
        | refine OT.sub ho_ rfl rfl rfl (by first | exact IntWalk.i64_in _ (by omega) | exact IntWalk.u8_in _ (by omega) | exact IntWalk.u32_in _ (by omega) | exact IntWalk.u16_in _ (by omega) | exact IntWalk.i32_in _ (by omega)) rfl ?_
        | refine OT.mul ho_ rfl rfl rfl (by first | exact IntWalk.i64_in _ (by omega) | exact IntWalk.u8_in _ (by omega) | exact IntWalk.u32_in _ (by omega) | exact IntWalk.u16_in _ (by omega) | exact IntWalk.i32_in _ (by omega)) rfl ?_
        | refine OT.quo ho_ rfl rfl rfl (by omega) (by omega) (by first | exact IntWalk.i64_in _ (by omega) | exact IntWalk.u8_in _ (by omega) | exact IntWalk.u32_in _ (by omega) | exact IntWalk.u16_in _ (by omega) | exact IntWalk.i32_in _ (by omega)) rfl ?_
        | refine OT.rem ho_ rfl rfl rfl (by omega) (by omega) rfl ?_
        | refine OT.box _ ho_ rfl rfl rfl (Nat.le_of_ble_eq_true (by rfl)) (by first | exact trivial | exact .inr (.inl ⟨rfl, fun b hb => by cases hb; decide⟩) | exact Side.pass rfl) rfl ?_
        | refine OT.alloc _ ho_ rfl (by first | exact z31 | exact z59 | exact z61) rfl rfl (Nat.le_of_ble_eq_true (by rfl)) (by first | exact trivial | exact .inr (.inl ⟨rfl, fun b hb => by cases hb; decide⟩) | exact Side.pass rfl) rfl ?_
        | refine OT.ldA ho_ rfl rfl (by first | exact ga31 | exact ga59 | exact ga61 | exact ga24) (by first | exact sz3 | exact sz5 | exact sz22 | exact sz31 | exact sz59 | exact sz61 | exact sz24) rfl (Nat.le_of_ble_eq_true (by rfl)) rfl (by first | exact trivial | exact .inr (.inl ⟨rfl, fun b hb => by cases hb; decide⟩) | exact Side.pass rfl) rfl ?_
        | refine OT.st _ ho_ rfl rfl rfl (by first | exact sz3 | exact sz5 | exact sz22 | exact sz31 | exact sz59 | exact sz61 | exact sz24) rfl (by rfl) rfl (by decide) (Nat.le_of_ble_eq_true (by rfl)) rfl (Nat.le_of_ble_eq_true (by rfl)) rfl (by first | exact trivial | exact .inr (.inl ⟨rfl, fun b hb => by cases hb; decide⟩) | exact Side.pass rfl) ?_
        | refine OT.iaddrA ho_ rfl rfl rfl (by first | exact u60 | exact u61 | exact u24) (by first | exact sz3 | exact sz5 | exact sz22 | exact sz31 | exact sz59 | exact sz61 | exact sz24) (by omega) (by omega) rfl ?_
        | refine OT.buildV ho_ rfl rfl (by first | exact bld31 _ _ _ _ _ | exact bld31b _ _) rfl ?_
        | refine OT.mkF ho_ rfl rfl rfl rfl ?_
        | refine OT.maxQ _ ho_ rfl rfl rfl rfl rfl ?_
        | refine OT.minQ _ ho_ rfl rfl rfl rfl rfl ?_
        | refine OT.convI ho_ rfl rfl (by first | exact u3 | exact u5 | exact u22 | exact u56 | exact u21 | exact u25 | exact u33 | exact u42 | exact u2) (by first | exact u3 | exact u5 | exact u22 | exact u56 | exact u21 | exact u25 | exact u33 | exact u42 | exact u2) (by first | exact IntWalk.i64_in _ (by omega) | exact IntWalk.u8_in _ (by omega) | exact IntWalk.u32_in _ (by omega) | exact IntWalk.u16_in _ (by omega) | exact IntWalk.i32_in _ (by omega)) rfl ?_
       clear ho_ i_)
    | refine OT.nil ?_
    | refine Tr.region cx ?_
    | refine Tr.draw cx [] noEv (Valid.none _) (by decide +kernel) ?_
    | refine Tr.cond_true cx rfl ?_
    | refine Tr.cond_false cx rfl ?_
    | refine Tr.seq cx ?_
    | refine Tr.block cx ?_
    | refine Tr.ret cx ?_
    | refine Tr.skip cx ?_
    | refine Tr.exit cx ?_)
    exact ⟨_, _, rfl, rfl, by rfl⟩
  · by_cases h9 : 9 ≤ o
    · have er : encV ⟨o, a, b, c, n⟩ at_ = .tuple #[.int .u32 0, .int .i64 20] := if_neg (fun h => by obtain ⟨_, h1, _⟩ := h; simp only at h1; omega)
      rw [er]
      repeat (first
    | (refine OT.fetch rfl (fun i_ ho_ => ?_)
       first
        | refine OT.move ho_ rfl rfl rfl ?_
        | refine OT.assign ho_ rfl rfl rfl ?_
        | refine OT.un ho_ rfl rfl ?_
        | refine OT.pickT ho_ rfl rfl rfl rfl ?_
        | refine OT.pickF ho_ rfl rfl rfl rfl ?_
        | refine OT.extract ho_ rfl rfl rfl rfl ?_
        | refine OT.not ho_ rfl rfl rfl ?_
        | refine OT.faddr ho_ rfl rfl (by first | exact us31 | exact us59) (by decide) rfl ?_
        | refine OT.ld ho_ rfl rfl (by first | exact ga3 | exact ga4 | exact ga5 | exact ga9 | exact ga22) rfl rfl (by first | exact trivial | exact .inr (.inl ⟨rfl, fun b hb => by cases hb; decide⟩) | exact Side.pass rfl) rfl ?_
        | refine OT.cmpT ho_ rfl rfl rfl rfl (by first | (simp only [cmpP]; done) | (simp only [cmpP]; omega)) rfl ?_
        | refine OT.cmpF ho_ rfl rfl rfl rfl (by first | (simp only [cmpP]; done) | (simp only [cmpP]; omega)) rfl ?_
        | refine OT.add ho_ rfl rfl rfl (by first | exact IntWalk.i64_in _ (by omega) | exact IntWalk.u8_in _ (by omega) | exact IntWalk.u32_in _ (by omega) | exact IntWalk.u16_in _ (by omega) | exact IntWalk.i32_in _ (by omega)) rfl ?_
        | refine OT.sub ho_ rfl rfl rfl (by first | exact IntWalk.i64_in _ (by omega) | exact IntWalk.u8_in _ (by omega) | exact IntWalk.u32_in _ (by omega) | exact IntWalk.u16_in _ (by omega) | exact IntWalk.i32_in _ (by omega)) rfl ?_
        | refine OT.mul ho_ rfl rfl rfl (by first | exact IntWalk.i64_in _ (by omega) | exact IntWalk.u8_in _ (by omega) | exact IntWalk.u32_in _ (by omega) | exact IntWalk.u16_in _ (by omega) | exact IntWalk.i32_in _ (by omega)) rfl ?_
        | refine OT.quo ho_ rfl rfl rfl (by omega) (by omega) (by first | exact IntWalk.i64_in _ (by omega) | exact IntWalk.u8_in _ (by omega) | exact IntWalk.u32_in _ (by omega) | exact IntWalk.u16_in _ (by omega) | exact IntWalk.i32_in _ (by omega)) rfl ?_
        | refine OT.rem ho_ rfl rfl rfl (by omega) (by omega) rfl ?_
        | refine OT.box _ ho_ rfl rfl rfl (Nat.le_of_ble_eq_true (by rfl)) (by first | exact trivial | exact .inr (.inl ⟨rfl, fun b hb => by cases hb; decide⟩) | exact Side.pass rfl) rfl ?_
        | refine OT.alloc _ ho_ rfl (by first | exact z31 | exact z59 | exact z61) rfl rfl (Nat.le_of_ble_eq_true (by rfl)) (by first | exact trivial | exact .inr (.inl ⟨rfl, fun b hb => by cases hb; decide⟩) | exact Side.pass rfl) rfl ?_
        | refine OT.ldA ho_ rfl rfl (by first | exact ga31 | exact ga59 | exact ga61 | exact ga24) (by first | exact sz3 | exact sz5 | exact sz22 | exact sz31 | exact sz59 | exact sz61 | exact sz24) rfl (Nat.le_of_ble_eq_true (by rfl)) rfl (by first | exact trivial | exact .inr (.inl ⟨rfl, fun b hb => by cases hb; decide⟩) | exact Side.pass rfl) rfl ?_
        | refine OT.st _ ho_ rfl rfl rfl (by first | exact sz3 | exact sz5 | exact sz22 | exact sz31 | exact sz59 | exact sz61 | exact sz24) rfl (by rfl) rfl (by decide) (Nat.le_of_ble_eq_true (by rfl)) rfl (Nat.le_of_ble_eq_true (by rfl)) rfl (by first | exact trivial | exact .inr (.inl ⟨rfl, fun b hb => by cases hb; decide⟩) | exact Side.pass rfl) ?_
        | refine OT.iaddrA ho_ rfl rfl rfl (by first | exact u60 | exact u61 | exact u24) (by first | exact sz3 | exact sz5 | exact sz22 | exact sz31 | exact sz59 | exact sz61 | exact sz24) (by omega) (by omega) rfl ?_
        | refine OT.buildV ho_ rfl rfl (by first | exact bld31 _ _ _ _ _ | exact bld31b _ _) rfl ?_
        | refine OT.mkF ho_ rfl rfl rfl rfl ?_
        | refine OT.maxQ _ ho_ rfl rfl rfl rfl rfl ?_
        | refine OT.minQ _ ho_ rfl rfl rfl rfl rfl ?_
        | refine OT.convI ho_ rfl rfl (by first | exact u3 | exact u5 | exact u22 | exact u56 | exact u21 | exact u25 | exact u33 | exact u42 | exact u2) (by first | exact u3 | exact u5 | exact u22 | exact u56 | exact u21 | exact u25 | exact u33 | exact u42 | exact u2) (by first | exact IntWalk.i64_in _ (by omega) | exact IntWalk.u8_in _ (by omega) | exact IntWalk.u32_in _ (by omega) | exact IntWalk.u16_in _ (by omega) | exact IntWalk.i32_in _ (by omega)) rfl ?_
       clear ho_ i_)
    | refine OT.nil ?_
    | refine Tr.region cx ?_
    | refine Tr.draw cx [] noEv (Valid.none _) (by decide +kernel) ?_
    | refine Tr.cond_true cx rfl ?_
    | refine Tr.cond_false cx rfl ?_
    | refine Tr.seq cx ?_
    | refine Tr.block cx ?_
    | refine Tr.ret cx ?_
    | refine Tr.skip cx ?_
    | refine Tr.exit cx ?_)
      exact ⟨_, _, rfl, rfl, by rfl⟩
    · have hA : ∀ {H}, Lay G H → EvS Tryd.prog (.call 25 #[inst o a b c n, .int .i64 at_] H) (.value (.int .u32 (asm ⟨o, a, b, c, n⟩ at_)) H) := fun hL => assemble_ev hx ⟨by simp only; omega, by simp only; omega⟩ ha hL
      have hr := asm_range ⟨o, a, b, c, n⟩ at_
      have hD : ∀ {H}, Lay G H → EvS Tryd.prog (.call 13 #[.int .u32 (asm ⟨o, a, b, c, n⟩ at_), .int .i64 at_] H) (.value (decI (asm ⟨o, a, b, c, n⟩ at_) at_).val H) := fun hL => dec_ev hr.1 hr.2 ha hL
      have he : encV ⟨o, a, b, c, n⟩ at_ = if decI (asm ⟨o, a, b, c, n⟩ at_) at_ = ⟨o, a, b, c, n⟩ then .tuple #[.int .u32 (asm ⟨o, a, b, c, n⟩ at_), .int .i64 0] else .tuple #[.int .u32 0, .int .i64 20] := by
        unfold encV
        by_cases hq : decI (asm ⟨o, a, b, c, n⟩ at_) at_ = ⟨o, a, b, c, n⟩
        · rw [if_pos hq, if_pos ⟨by simp only; omega, by simp only; omega, hq⟩]
        · rw [if_neg hq, if_neg (fun h => hq h.2.2)]
      rw [he]
      clear he
      generalize asm ⟨o, a, b, c, n⟩ at_ = w at hA hr hD
      generalize decI w at_ = D at hD
      by_cases hq : D = ⟨o, a, b, c, n⟩
      · rw [if_pos hq]
        repeat (first
    | (refine OT.fetch rfl (fun i_ ho_ => ?_)
       first
        | refine OT.move ho_ rfl rfl rfl ?_
        | refine OT.assign ho_ rfl rfl rfl ?_
        | refine OT.un ho_ rfl rfl ?_
        | refine OT.pickT ho_ rfl rfl rfl rfl ?_
        | refine OT.pickF ho_ rfl rfl rfl rfl ?_
        | refine OT.extract ho_ rfl rfl rfl rfl ?_
        | refine OT.not ho_ rfl rfl rfl ?_
        | refine OT.faddr ho_ rfl rfl (by first | exact us31 | exact us59) (by decide) rfl ?_
        | refine OT.ld ho_ rfl rfl (by first | exact ga3 | exact ga4 | exact ga5 | exact ga9 | exact ga22) rfl rfl (by first | exact trivial | exact .inr (.inl ⟨rfl, fun b hb => by cases hb; decide⟩) | exact Side.pass rfl) rfl ?_
        | refine OT.call1 (hA (lay_of (Nat.le_of_ble_eq_true (by rfl)) (by rfl))) ho_ rfl rfl (iF F25) rfl ?_
        | refine OT.call1D (orc_at _ _) ho_ rfl rfl (iF F13) (Side.pass rfl) rfl ?_
        | refine OT.bin ho_ rfl rfl rfl (ne31F hq) rfl ?_
        | refine OT.cmpT ho_ rfl rfl rfl rfl (by first | (simp only [cmpP]; done) | (simp only [cmpP]; omega)) rfl ?_
        | refine OT.cmpF ho_ rfl rfl rfl rfl (by first | (simp only [cmpP]; done) | (simp only [cmpP]; omega)) rfl ?_
        | refine OT.add ho_ rfl rfl rfl (by first | exact IntWalk.i64_in _ (by omega) | exact IntWalk.u8_in _ (by omega) | exact IntWalk.u32_in _ (by omega) | exact IntWalk.u16_in _ (by omega) | exact IntWalk.i32_in _ (by omega)) rfl ?_
        | refine OT.sub ho_ rfl rfl rfl (by first | exact IntWalk.i64_in _ (by omega) | exact IntWalk.u8_in _ (by omega) | exact IntWalk.u32_in _ (by omega) | exact IntWalk.u16_in _ (by omega) | exact IntWalk.i32_in _ (by omega)) rfl ?_
        | refine OT.mul ho_ rfl rfl rfl (by first | exact IntWalk.i64_in _ (by omega) | exact IntWalk.u8_in _ (by omega) | exact IntWalk.u32_in _ (by omega) | exact IntWalk.u16_in _ (by omega) | exact IntWalk.i32_in _ (by omega)) rfl ?_
        | refine OT.quo ho_ rfl rfl rfl (by omega) (by omega) (by first | exact IntWalk.i64_in _ (by omega) | exact IntWalk.u8_in _ (by omega) | exact IntWalk.u32_in _ (by omega) | exact IntWalk.u16_in _ (by omega) | exact IntWalk.i32_in _ (by omega)) rfl ?_
        | refine OT.rem ho_ rfl rfl rfl (by omega) (by omega) rfl ?_
        | refine OT.box _ ho_ rfl rfl rfl (Nat.le_of_ble_eq_true (by rfl)) (by first | exact trivial | exact .inr (.inl ⟨rfl, fun b hb => by cases hb; decide⟩) | exact Side.pass rfl) rfl ?_
        | refine OT.alloc _ ho_ rfl (by first | exact z31 | exact z59 | exact z61) rfl rfl (Nat.le_of_ble_eq_true (by rfl)) (by first | exact trivial | exact .inr (.inl ⟨rfl, fun b hb => by cases hb; decide⟩) | exact Side.pass rfl) rfl ?_
        | refine OT.ldA ho_ rfl rfl (by first | exact ga31 | exact ga59 | exact ga61 | exact ga24) (by first | exact sz3 | exact sz5 | exact sz22 | exact sz31 | exact sz59 | exact sz61 | exact sz24) rfl (Nat.le_of_ble_eq_true (by rfl)) rfl (by first | exact trivial | exact .inr (.inl ⟨rfl, fun b hb => by cases hb; decide⟩) | exact Side.pass rfl) rfl ?_
        | refine OT.st _ ho_ rfl rfl rfl (by first | exact sz3 | exact sz5 | exact sz22 | exact sz31 | exact sz59 | exact sz61 | exact sz24) rfl (by rfl) rfl (by decide) (Nat.le_of_ble_eq_true (by rfl)) rfl (Nat.le_of_ble_eq_true (by rfl)) rfl (by first | exact trivial | exact .inr (.inl ⟨rfl, fun b hb => by cases hb; decide⟩) | exact Side.pass rfl) ?_
        | refine OT.iaddrA ho_ rfl rfl rfl (by first | exact u60 | exact u61 | exact u24) (by first | exact sz3 | exact sz5 | exact sz22 | exact sz31 | exact sz59 | exact sz61 | exact sz24) (by omega) (by omega) rfl ?_
        | refine OT.buildV ho_ rfl rfl (by first | exact bld31 _ _ _ _ _ | exact bld31b _ _) rfl ?_
        | refine OT.mkF ho_ rfl rfl rfl rfl ?_
        | refine OT.maxQ _ ho_ rfl rfl rfl rfl rfl ?_
        | refine OT.minQ _ ho_ rfl rfl rfl rfl rfl ?_
        | refine OT.convI ho_ rfl rfl (by first | exact u3 | exact u5 | exact u22 | exact u56 | exact u21 | exact u25 | exact u33 | exact u42 | exact u2) (by first | exact u3 | exact u5 | exact u22 | exact u56 | exact u21 | exact u25 | exact u33 | exact u42 | exact u2) (by first | exact IntWalk.i64_in _ (by omega) | exact IntWalk.u8_in _ (by omega) | exact IntWalk.u32_in _ (by omega) | exact IntWalk.u16_in _ (by omega) | exact IntWalk.i32_in _ (by omega)) rfl ?_
       clear ho_ i_)
    | refine Tr.drawH cx [0, 30, 31] (fun H => .call 13 #[.int .u32 w, .int .i64 at_] H) (fun H => .value D.val H) (hD (lay_of (Nat.le_of_ble_eq_true (by rfl)) (by rfl))) (by decide +kernel) ?_
    | refine OT.nil ?_
    | refine Tr.region cx ?_
    | refine Tr.draw cx [] noEv (Valid.none _) (by decide +kernel) ?_
    | refine Tr.cond_true cx rfl ?_
    | refine Tr.cond_false cx rfl ?_
    | refine Tr.seq cx ?_
    | refine Tr.block cx ?_
    | refine Tr.ret cx ?_
    | refine Tr.skip cx ?_
    | refine Tr.exit cx ?_)
        exact ⟨_, _, rfl, rfl, by rfl⟩
      · rw [if_neg hq]
        repeat (first
    | (refine OT.fetch rfl (fun i_ ho_ => ?_)
       first
        | refine OT.move ho_ rfl rfl rfl ?_
        | refine OT.assign ho_ rfl rfl rfl ?_
        | refine OT.un ho_ rfl rfl ?_
        | refine OT.pickT ho_ rfl rfl rfl rfl ?_
        | refine OT.pickF ho_ rfl rfl rfl rfl ?_
        | refine OT.extract ho_ rfl rfl rfl rfl ?_
        | refine OT.not ho_ rfl rfl rfl ?_
        | refine OT.faddr ho_ rfl rfl (by first | exact us31 | exact us59) (by decide) rfl ?_
        | refine OT.ld ho_ rfl rfl (by first | exact ga3 | exact ga4 | exact ga5 | exact ga9 | exact ga22) rfl rfl (by first | exact trivial | exact .inr (.inl ⟨rfl, fun b hb => by cases hb; decide⟩) | exact Side.pass rfl) rfl ?_
        | refine OT.call1 (hA (lay_of (Nat.le_of_ble_eq_true (by rfl)) (by rfl))) ho_ rfl rfl (iF F25) rfl ?_
        | refine OT.call1D (orc_at _ _) ho_ rfl rfl (iF F13) (Side.pass rfl) rfl ?_
        | refine OT.bin ho_ rfl rfl rfl (ne31T hq) rfl ?_
        | refine OT.cmpT ho_ rfl rfl rfl rfl (by first | (simp only [cmpP]; done) | (simp only [cmpP]; omega)) rfl ?_
        | refine OT.cmpF ho_ rfl rfl rfl rfl (by first | (simp only [cmpP]; done) | (simp only [cmpP]; omega)) rfl ?_
        | refine OT.add ho_ rfl rfl rfl (by first | exact IntWalk.i64_in _ (by omega) | exact IntWalk.u8_in _ (by omega) | exact IntWalk.u32_in _ (by omega) | exact IntWalk.u16_in _ (by omega) | exact IntWalk.i32_in _ (by omega)) rfl ?_
        | refine OT.sub ho_ rfl rfl rfl (by first | exact IntWalk.i64_in _ (by omega) | exact IntWalk.u8_in _ (by omega) | exact IntWalk.u32_in _ (by omega) | exact IntWalk.u16_in _ (by omega) | exact IntWalk.i32_in _ (by omega)) rfl ?_
        | refine OT.mul ho_ rfl rfl rfl (by first | exact IntWalk.i64_in _ (by omega) | exact IntWalk.u8_in _ (by omega) | exact IntWalk.u32_in _ (by omega) | exact IntWalk.u16_in _ (by omega) | exact IntWalk.i32_in _ (by omega)) rfl ?_
        | refine OT.quo ho_ rfl rfl rfl (by omega) (by omega) (by first | exact IntWalk.i64_in _ (by omega) | exact IntWalk.u8_in _ (by omega) | exact IntWalk.u32_in _ (by omega) | exact IntWalk.u16_in _ (by omega) | exact IntWalk.i32_in _ (by omega)) rfl ?_
        | refine OT.rem ho_ rfl rfl rfl (by omega) (by omega) rfl ?_
        | refine OT.box _ ho_ rfl rfl rfl (Nat.le_of_ble_eq_true (by rfl)) (by first | exact trivial | exact .inr (.inl ⟨rfl, fun b hb => by cases hb; decide⟩) | exact Side.pass rfl) rfl ?_
        | refine OT.alloc _ ho_ rfl (by first | exact z31 | exact z59 | exact z61) rfl rfl (Nat.le_of_ble_eq_true (by rfl)) (by first | exact trivial | exact .inr (.inl ⟨rfl, fun b hb => by cases hb; decide⟩) | exact Side.pass rfl) rfl ?_
        | refine OT.ldA ho_ rfl rfl (by first | exact ga31 | exact ga59 | exact ga61 | exact ga24) (by first | exact sz3 | exact sz5 | exact sz22 | exact sz31 | exact sz59 | exact sz61 | exact sz24) rfl (Nat.le_of_ble_eq_true (by rfl)) rfl (by first | exact trivial | exact .inr (.inl ⟨rfl, fun b hb => by cases hb; decide⟩) | exact Side.pass rfl) rfl ?_
        | refine OT.st _ ho_ rfl rfl rfl (by first | exact sz3 | exact sz5 | exact sz22 | exact sz31 | exact sz59 | exact sz61 | exact sz24) rfl (by rfl) rfl (by decide) (Nat.le_of_ble_eq_true (by rfl)) rfl (Nat.le_of_ble_eq_true (by rfl)) rfl (by first | exact trivial | exact .inr (.inl ⟨rfl, fun b hb => by cases hb; decide⟩) | exact Side.pass rfl) ?_
        | refine OT.iaddrA ho_ rfl rfl rfl (by first | exact u60 | exact u61 | exact u24) (by first | exact sz3 | exact sz5 | exact sz22 | exact sz31 | exact sz59 | exact sz61 | exact sz24) (by omega) (by omega) rfl ?_
        | refine OT.buildV ho_ rfl rfl (by first | exact bld31 _ _ _ _ _ | exact bld31b _ _) rfl ?_
        | refine OT.mkF ho_ rfl rfl rfl rfl ?_
        | refine OT.maxQ _ ho_ rfl rfl rfl rfl rfl ?_
        | refine OT.minQ _ ho_ rfl rfl rfl rfl rfl ?_
        | refine OT.convI ho_ rfl rfl (by first | exact u3 | exact u5 | exact u22 | exact u56 | exact u21 | exact u25 | exact u33 | exact u42 | exact u2) (by first | exact u3 | exact u5 | exact u22 | exact u56 | exact u21 | exact u25 | exact u33 | exact u42 | exact u2) (by first | exact IntWalk.i64_in _ (by omega) | exact IntWalk.u8_in _ (by omega) | exact IntWalk.u32_in _ (by omega) | exact IntWalk.u16_in _ (by omega) | exact IntWalk.i32_in _ (by omega)) rfl ?_
       clear ho_ i_)
    | refine Tr.drawH cx [0, 30, 31] (fun H => .call 13 #[.int .u32 w, .int .i64 at_] H) (fun H => .value D.val H) (hD (lay_of (Nat.le_of_ble_eq_true (by rfl)) (by rfl))) (by decide +kernel) ?_
    | refine OT.nil ?_
    | refine Tr.region cx ?_
    | refine Tr.draw cx [] noEv (Valid.none _) (by decide +kernel) ?_
    | refine Tr.cond_true cx rfl ?_
    | refine Tr.cond_false cx rfl ?_
    | refine Tr.seq cx ?_
    | refine Tr.block cx ?_
    | refine Tr.ret cx ?_
    | refine Tr.skip cx ?_
    | refine Tr.exit cx ?_)
        exact ⟨_, _, rfl, rfl, by rfl⟩
theorem encV_flat (x : I5) (at_ : Int) : flat (encV x at_) = true := by unfold encV; split <;> rfl
theorem encode_ev {x : I5} {at_ : Int} (hx : x.Fits) (ha : 0 ≤ at_ ∧ at_ ≤ 65540) {H : AHeap} (hL : Lay G H) : EvS Tryd.prog (.call 14 #[x.val, .int .i64 at_] H) (.value (encV x at_) H) := by
  obtain ⟨o, a, b, c, n⟩ := x
  obtain ⟨v, H2, h, rfl⟩ := encode_ev0 hx ha
  exact EvS.frame hG rfl (encV_flat _ _) h hL
end Go.Proofs.YtljpjeipgdeioaaDoor
