/-
  A part of the proof: what the run over an abstract memory gives; conditions: those of each theorem.
-/
import Derived.Test.YtpfenodmchhglaaT14
import Derived.Test.YtpfenodmchhglaaT15
import Derived.Test.YtpfenodmchhglaaA35
namespace Go.Proofs.Ytpfenodmchhglaa
open Ax
set_option maxRecDepth 100000 in
theorem sanity_runs : Ax.givesV (Ax.eval Try.prog FF 400 (.call 10 #[] ⟨0, .nil⟩)) (.bool true) = true := by decide +kernel
theorem sanity_ev (H : AHeap) : EvS Try.prog (.call 10 #[] H) (.value (.bool true) H) := by
  have h := sanity_runs
  unfold givesV at h
  split at h
  · rename_i r H2 he
    simp only [Bool.and_eq_true] at h
    have hr := eqV_eq _ _ h.1
    subst hr
    exact EvS.frame rfl rfl (Valid.eval cx 400 _ _ he) H
  · cases h
theorem F10 : (FF 10).isSome = true := by decide +kernel
/-- A slice of bytes as it comes in: nil, or with a known capacity. -/
inductive InB (H : AHeap) : Value → List UInt8 → Prop
  | nil : InB H (.slice none 0 0) []
  | empty : InB H emptySlice []
  | mk {b off c : Nat} {s l : List UInt8} {e : TypeId} {k : Nat} (hb : H.t.get b = some (.cells (s.map bv) e k)) (hl : off + l.length ≤ s.length) (hs : (s.drop off).take l.length = l) (hn : b < H.next) (hc : l.length ≤ c) (hco : c ≠ openCap) : InB H (.slice (some ⟨b, off, none⟩) l.length c) l
theorem InB.sl {H : AHeap} {v : Value} {l : List UInt8} (h : InB H v l) : SlB H v l := by
  cases h with
  | nil => exact .nil
  | empty => exact .empty
  | mk hb hl hs hn hc hco => exact .mk hb hl hs hn
theorem limited_any {H : AHeap} {v : Value} {bs : List UInt8} (hv : InB H v bs) (hn : bs.length < 2 ^ 64) :
    ∃ r H2, EvS Try.prog (.call 12 #[v, .int .i64 100] H) (.value r H2) ∧ (SlB H r (bs.take 100) ∧ H2 = H) := by
  have hvs := hv.sl
  refine EvS.call cx F12 (fn := Try.f12) rfl ⟨by simp [Try.f12], by simp⟩ ?_
  by_cases h : 100 < bs.length
  · cases hv with
    | nil => simp at h
    | empty => simp at h
    | @mk b off c s _ e k hb hl hs hn hc hco =>
      repeat (first
    | refine OT.move rfl rfl rfl rfl ?_
    | refine OT.assign rfl rfl rfl rfl ?_
    | refine OT.un rfl rfl rfl ?_
    | refine OT.pickT rfl rfl rfl rfl rfl ?_
    | refine OT.pickF rfl rfl rfl rfl rfl ?_
    | refine OT.lenS rfl rfl rfl u27 rfl ?_
    | refine OT.lenN rfl rfl rfl u27 rfl ?_
    | refine OT.lenT rfl rfl rfl u9 rfl ?_
    | refine OT.extract rfl rfl rfl rfl rfl ?_
    | refine OT.not rfl rfl rfl rfl ?_
    | refine OT.cutS rfl rfl rfl rfl u27 s5 hco (by omega) (by omega) (by exact trivial) rfl ?_
    | refine OT.cmpT rfl rfl rfl rfl rfl (by simp only [cmpP]; omega) rfl ?_
    | refine OT.cmpF rfl rfl rfl rfl rfl (by simp only [cmpP]; omega) rfl ?_
    | refine OT.add rfl rfl rfl rfl (by first | exact IntWalk.i64_in _ (by omega) | exact IntWalk.u8_in _ (by omega)) rfl ?_
    | refine OT.sub rfl rfl rfl rfl (by first | exact IntWalk.i64_in _ (by omega) | exact IntWalk.u8_in _ (by omega)) rfl ?_
    | refine OT.mul rfl rfl rfl rfl (by first | exact IntWalk.i64_in _ (by omega) | exact IntWalk.u8_in _ (by omega)) rfl ?_
    | refine OT.quo rfl rfl rfl rfl (by omega) (by omega) (by first | exact IntWalk.i64_in _ (by omega) | exact IntWalk.u8_in _ (by omega)) rfl ?_
    | refine OT.rem rfl rfl rfl rfl (by omega) (by omega) rfl ?_
    | refine OT.nil ?_
    | refine Tr.region cx ?_
    | refine Tr.draw cx [] noEv (Valid.none _) (by decide +kernel) ?_
    | refine Tr.cond_true cx rfl ?_
    | refine Tr.cond_false cx rfl ?_
    | refine Tr.seq cx ?_
    | refine Tr.block cx ?_
    | refine Tr.ret cx ?_
    | refine Tr.skip cx ?_
    | refine Tr.exit cx ?_)
      refine ⟨_, _, rfl, rfl, ?_, rfl⟩
      have := SlB.mk (H := H) (l := bs.take 100) (off := off) (c := c) hb (by rw [List.length_take]; omega) (by rw [List.length_take, Nat.min_eq_left (by omega)]; conv => rhs; rw [← hs, List.take_take, Nat.min_eq_left (by omega)]) hn
      rw [List.length_take, Nat.min_eq_left (by omega)] at this
      exact this
  · repeat (first
    | refine OT.move rfl rfl rfl rfl ?_
    | refine OT.assign rfl rfl rfl rfl ?_
    | refine OT.un rfl rfl rfl ?_
    | refine OT.pickT rfl rfl rfl rfl rfl ?_
    | refine OT.pickF rfl rfl rfl rfl rfl ?_
    | refine OT.lenS rfl rfl rfl u27 rfl ?_
    | refine OT.lenN rfl rfl rfl u27 rfl ?_
    | refine OT.lenT rfl rfl rfl u9 rfl ?_
    | refine OT.extract rfl rfl rfl rfl rfl ?_
    | refine OT.not rfl rfl rfl rfl ?_
    | refine OT.lenB hvs rfl rfl rfl u27 rfl ?_
    | refine OT.cmpT rfl rfl rfl rfl rfl (by simp only [cmpP]; omega) rfl ?_
    | refine OT.cmpF rfl rfl rfl rfl rfl (by simp only [cmpP]; omega) rfl ?_
    | refine OT.add rfl rfl rfl rfl (by first | exact IntWalk.i64_in _ (by omega) | exact IntWalk.u8_in _ (by omega)) rfl ?_
    | refine OT.sub rfl rfl rfl rfl (by first | exact IntWalk.i64_in _ (by omega) | exact IntWalk.u8_in _ (by omega)) rfl ?_
    | refine OT.mul rfl rfl rfl rfl (by first | exact IntWalk.i64_in _ (by omega) | exact IntWalk.u8_in _ (by omega)) rfl ?_
    | refine OT.quo rfl rfl rfl rfl (by omega) (by omega) (by first | exact IntWalk.i64_in _ (by omega) | exact IntWalk.u8_in _ (by omega)) rfl ?_
    | refine OT.rem rfl rfl rfl rfl (by omega) (by omega) rfl ?_
    | refine OT.nil ?_
    | refine Tr.region cx ?_
    | refine Tr.draw cx [] noEv (Valid.none _) (by decide +kernel) ?_
    | refine Tr.cond_true cx rfl ?_
    | refine Tr.cond_false cx rfl ?_
    | refine Tr.seq cx ?_
    | refine Tr.block cx ?_
    | refine Tr.ret cx ?_
    | refine Tr.skip cx ?_
    | refine Tr.exit cx ?_)
    refine ⟨_, _, rfl, rfl, ?_, rfl⟩
    rw [List.take_of_length_le (by omega)]
    exact hvs
end Go.Proofs.Ytpfenodmchhglaa
