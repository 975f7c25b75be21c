/-
  A part of the proof: what the run over an abstract memory gives; conditions: those of each theorem.
-/
import Derived.Test.YtpfenodmchhglaaBase1



namespace Go.Proofs.Ytpfenodmchhglaa
open Ax
/-- The value of a hexadecimal digit. -/
def hv (c : Int) : Option Int := if 48 ≤ c ∧ c ≤ 57 then some (c - 48) else if 97 ≤ c ∧ c ≤ 102 then some (c - 87) else none
def hvV : Option Int → Value
  | some n => .tuple #[.int .u8 n, .bool true]
  | none => .tuple #[.int .u8 0, .bool false]
set_option maxHeartbeats 2000000 in
theorem hexValue_any (c : Int) (h0 : 0 ≤ c) (h1 : c ≤ 255) (H : AHeap) : ∃ v H2, EvS Try.prog (.call 44 #[.int .u8 c] H) (.value v H2) ∧ (v = hvV (hv c) ∧ H2 = H) := by
  refine EvS.call cx F44 (fn := Try.f44) rfl ⟨by simp [Try.f44], by simp⟩ ?_
  by_cases a : 48 ≤ c
  · by_cases b : c ≤ 57
    · have e : hv c = some (c - 48) := by unfold hv; rw [if_pos ⟨a, b⟩]
      repeat (first
    | refine OT.move rfl rfl rfl rfl ?_
    | refine OT.assign rfl rfl rfl rfl ?_
    | refine OT.un rfl rfl rfl ?_
    | refine OT.pickT rfl rfl rfl rfl rfl ?_
    | refine OT.pickF rfl rfl rfl rfl rfl ?_
    | refine OT.lenS rfl rfl rfl u27 rfl ?_
    | refine OT.lenN rfl rfl rfl u27 rfl ?_
    | refine OT.lenT rfl rfl rfl u9 rfl ?_
    | refine OT.extract rfl rfl rfl rfl rfl ?_
    | refine OT.not rfl rfl rfl rfl ?_
    | refine OT.cmpT rfl rfl rfl rfl rfl (by simp only [cmpP]; omega) rfl ?_
    | refine OT.cmpF rfl rfl rfl rfl rfl (by simp only [cmpP]; omega) rfl ?_
    | refine OT.add rfl rfl rfl rfl (by first | exact IntWalk.i64_in _ (by omega) | exact IntWalk.u8_in _ (by omega)) rfl ?_
    | refine OT.sub rfl rfl rfl rfl (by first | exact IntWalk.i64_in _ (by omega) | exact IntWalk.u8_in _ (by omega)) rfl ?_
    | refine OT.mul rfl rfl rfl rfl (by first | exact IntWalk.i64_in _ (by omega) | exact IntWalk.u8_in _ (by omega)) rfl ?_
    | refine OT.quo rfl rfl rfl rfl (by omega) (by omega) (by first | exact IntWalk.i64_in _ (by omega) | exact IntWalk.u8_in _ (by omega)) rfl ?_
    | refine OT.rem rfl rfl rfl rfl (by omega) (by omega) rfl ?_
    | refine OT.nil ?_
    | refine Tr.region cx ?_
    | refine Tr.draw cx [] noEv (Valid.none _) (by decide +kernel) ?_
    | refine Tr.cond_true cx rfl ?_
    | refine Tr.cond_false cx rfl ?_
    | refine Tr.seq cx ?_
    | refine Tr.block cx ?_
    | refine Tr.ret cx ?_
    | refine Tr.skip cx ?_
    | refine Tr.exit cx ?_)
      exact ⟨_, _, rfl, rfl, by rw [e]; rfl, rfl⟩
    · by_cases d : 97 ≤ c ∧ c ≤ 102
      · obtain ⟨d1, d2⟩ := d
        have e : hv c = some (c - 97 + 10) := by unfold hv; rw [if_neg (by omega), if_pos ⟨d1, d2⟩]; congr 1; omega
        repeat (first
    | refine OT.move rfl rfl rfl rfl ?_
    | refine OT.assign rfl rfl rfl rfl ?_
    | refine OT.un rfl rfl rfl ?_
    | refine OT.pickT rfl rfl rfl rfl rfl ?_
    | refine OT.pickF rfl rfl rfl rfl rfl ?_
    | refine OT.lenS rfl rfl rfl u27 rfl ?_
    | refine OT.lenN rfl rfl rfl u27 rfl ?_
    | refine OT.lenT rfl rfl rfl u9 rfl ?_
    | refine OT.extract rfl rfl rfl rfl rfl ?_
    | refine OT.not rfl rfl rfl rfl ?_
    | refine OT.cmpT rfl rfl rfl rfl rfl (by simp only [cmpP]; omega) rfl ?_
    | refine OT.cmpF rfl rfl rfl rfl rfl (by simp only [cmpP]; omega) rfl ?_
    | refine OT.add rfl rfl rfl rfl (by first | exact IntWalk.i64_in _ (by omega) | exact IntWalk.u8_in _ (by omega)) rfl ?_
    | refine OT.sub rfl rfl rfl rfl (by first | exact IntWalk.i64_in _ (by omega) | exact IntWalk.u8_in _ (by omega)) rfl ?_
    | refine OT.mul rfl rfl rfl rfl (by first | exact IntWalk.i64_in _ (by omega) | exact IntWalk.u8_in _ (by omega)) rfl ?_
    | refine OT.quo rfl rfl rfl rfl (by omega) (by omega) (by first | exact IntWalk.i64_in _ (by omega) | exact IntWalk.u8_in _ (by omega)) rfl ?_
    | refine OT.rem rfl rfl rfl rfl (by omega) (by omega) rfl ?_
    | refine OT.nil ?_
    | refine Tr.region cx ?_
    | refine Tr.draw cx [] noEv (Valid.none _) (by decide +kernel) ?_
    | refine Tr.cond_true cx rfl ?_
    | refine Tr.cond_false cx rfl ?_
    | refine Tr.seq cx ?_
    | refine Tr.block cx ?_
    | refine Tr.ret cx ?_
    | refine Tr.skip cx ?_
    | refine Tr.exit cx ?_)
        exact ⟨_, _, rfl, rfl, by rw [e]; rfl, rfl⟩
      · have e : hv c = none := by unfold hv; rw [if_neg (by omega), if_neg d]
        by_cases d1 : 97 ≤ c
        · have d2 : ¬ c ≤ 102 := by omega
          repeat (first
    | refine OT.move rfl rfl rfl rfl ?_
    | refine OT.assign rfl rfl rfl rfl ?_
    | refine OT.un rfl rfl rfl ?_
    | refine OT.pickT rfl rfl rfl rfl rfl ?_
    | refine OT.pickF rfl rfl rfl rfl rfl ?_
    | refine OT.lenS rfl rfl rfl u27 rfl ?_
    | refine OT.lenN rfl rfl rfl u27 rfl ?_
    | refine OT.lenT rfl rfl rfl u9 rfl ?_
    | refine OT.extract rfl rfl rfl rfl rfl ?_
    | refine OT.not rfl rfl rfl rfl ?_
    | refine OT.cmpT rfl rfl rfl rfl rfl (by simp only [cmpP]; omega) rfl ?_
    | refine OT.cmpF rfl rfl rfl rfl rfl (by simp only [cmpP]; omega) rfl ?_
    | refine OT.add rfl rfl rfl rfl (by first | exact IntWalk.i64_in _ (by omega) | exact IntWalk.u8_in _ (by omega)) rfl ?_
    | refine OT.sub rfl rfl rfl rfl (by first | exact IntWalk.i64_in _ (by omega) | exact IntWalk.u8_in _ (by omega)) rfl ?_
    | refine OT.mul rfl rfl rfl rfl (by first | exact IntWalk.i64_in _ (by omega) | exact IntWalk.u8_in _ (by omega)) rfl ?_
    | refine OT.quo rfl rfl rfl rfl (by omega) (by omega) (by first | exact IntWalk.i64_in _ (by omega) | exact IntWalk.u8_in _ (by omega)) rfl ?_
    | refine OT.rem rfl rfl rfl rfl (by omega) (by omega) rfl ?_
    | refine OT.nil ?_
    | refine Tr.region cx ?_
    | refine Tr.draw cx [] noEv (Valid.none _) (by decide +kernel) ?_
    | refine Tr.cond_true cx rfl ?_
    | refine Tr.cond_false cx rfl ?_
    | refine Tr.seq cx ?_
    | refine Tr.block cx ?_
    | refine Tr.ret cx ?_
    | refine Tr.skip cx ?_
    | refine Tr.exit cx ?_)
          exact ⟨_, _, rfl, rfl, by rw [e]; rfl, rfl⟩
        · repeat (first
    | refine OT.move rfl rfl rfl rfl ?_
    | refine OT.assign rfl rfl rfl rfl ?_
    | refine OT.un rfl rfl rfl ?_
    | refine OT.pickT rfl rfl rfl rfl rfl ?_
    | refine OT.pickF rfl rfl rfl rfl rfl ?_
    | refine OT.lenS rfl rfl rfl u27 rfl ?_
    | refine OT.lenN rfl rfl rfl u27 rfl ?_
    | refine OT.lenT rfl rfl rfl u9 rfl ?_
    | refine OT.extract rfl rfl rfl rfl rfl ?_
    | refine OT.not rfl rfl rfl rfl ?_
    | refine OT.cmpT rfl rfl rfl rfl rfl (by simp only [cmpP]; omega) rfl ?_
    | refine OT.cmpF rfl rfl rfl rfl rfl (by simp only [cmpP]; omega) rfl ?_
    | refine OT.add rfl rfl rfl rfl (by first | exact IntWalk.i64_in _ (by omega) | exact IntWalk.u8_in _ (by omega)) rfl ?_
    | refine OT.sub rfl rfl rfl rfl (by first | exact IntWalk.i64_in _ (by omega) | exact IntWalk.u8_in _ (by omega)) rfl ?_
    | refine OT.mul rfl rfl rfl rfl (by first | exact IntWalk.i64_in _ (by omega) | exact IntWalk.u8_in _ (by omega)) rfl ?_
    | refine OT.quo rfl rfl rfl rfl (by omega) (by omega) (by first | exact IntWalk.i64_in _ (by omega) | exact IntWalk.u8_in _ (by omega)) rfl ?_
    | refine OT.rem rfl rfl rfl rfl (by omega) (by omega) rfl ?_
    | refine OT.nil ?_
    | refine Tr.region cx ?_
    | refine Tr.draw cx [] noEv (Valid.none _) (by decide +kernel) ?_
    | refine Tr.cond_true cx rfl ?_
    | refine Tr.cond_false cx rfl ?_
    | refine Tr.seq cx ?_
    | refine Tr.block cx ?_
    | refine Tr.ret cx ?_
    | refine Tr.skip cx ?_
    | refine Tr.exit cx ?_)
          exact ⟨_, _, rfl, rfl, by rw [e]; rfl, rfl⟩
  · have e : hv c = none := by unfold hv; rw [if_neg (by omega), if_neg (by omega)]
    have d1 : ¬ 97 ≤ c := by omega
    repeat (first
    | refine OT.move rfl rfl rfl rfl ?_
    | refine OT.assign rfl rfl rfl rfl ?_
    | refine OT.un rfl rfl rfl ?_
    | refine OT.pickT rfl rfl rfl rfl rfl ?_
    | refine OT.pickF rfl rfl rfl rfl rfl ?_
    | refine OT.lenS rfl rfl rfl u27 rfl ?_
    | refine OT.lenN rfl rfl rfl u27 rfl ?_
    | refine OT.lenT rfl rfl rfl u9 rfl ?_
    | refine OT.extract rfl rfl rfl rfl rfl ?_
    | refine OT.not rfl rfl rfl rfl ?_
    | refine OT.cmpT rfl rfl rfl rfl rfl (by simp only [cmpP]; omega) rfl ?_
    | refine OT.cmpF rfl rfl rfl rfl rfl (by simp only [cmpP]; omega) rfl ?_
    | refine OT.add rfl rfl rfl rfl (by first | exact IntWalk.i64_in _ (by omega) | exact IntWalk.u8_in _ (by omega)) rfl ?_
    | refine OT.sub rfl rfl rfl rfl (by first | exact IntWalk.i64_in _ (by omega) | exact IntWalk.u8_in _ (by omega)) rfl ?_
    | refine OT.mul rfl rfl rfl rfl (by first | exact IntWalk.i64_in _ (by omega) | exact IntWalk.u8_in _ (by omega)) rfl ?_
    | refine OT.quo rfl rfl rfl rfl (by omega) (by omega) (by first | exact IntWalk.i64_in _ (by omega) | exact IntWalk.u8_in _ (by omega)) rfl ?_
    | refine OT.rem rfl rfl rfl rfl (by omega) (by omega) rfl ?_
    | refine OT.nil ?_
    | refine Tr.region cx ?_
    | refine Tr.draw cx [] noEv (Valid.none _) (by decide +kernel) ?_
    | refine Tr.cond_true cx rfl ?_
    | refine Tr.cond_false cx rfl ?_
    | refine Tr.seq cx ?_
    | refine Tr.block cx ?_
    | refine Tr.ret cx ?_
    | refine Tr.skip cx ?_
    | refine Tr.exit cx ?_)
    exact ⟨_, _, rfl, rfl, by rw [e]; rfl, rfl⟩
end Go.Proofs.Ytpfenodmchhglaa
