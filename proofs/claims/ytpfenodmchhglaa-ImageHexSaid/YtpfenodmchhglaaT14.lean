/-
  A part of the proof: what the run over an abstract memory gives; conditions: those of each theorem.
-/
import Derived.Test.YtpfenodmchhglaaBase1
namespace Go.Proofs.Ytpfenodmchhglaa
open Ax
theorem put_bytes {a : List UInt8} {m k : Nat} {x y : UInt8} (hk : a.length = k) : ((a ++ (List.replicate (m + 2) 0)).take k ++ (([x, y].drop 0).take 2) ++ (a ++ List.replicate (m + 2) 0).drop (k + 2)) = a ++ [x, y] ++ List.replicate m 0 := by
  subst hk
  rw [List.take_left, ← List.drop_drop, List.drop_left]
  simp
set_option maxHeartbeats 1000000 in
theorem hex_any {H : AHeap} {v : Value} {bs : List UInt8} (hv : SlB H v bs) (hn : bs.length < 2 ^ 20) (hN : H.next + bs.length + 1 < maxIds) :
    ∃ r H2, EvS Try.prog (.call 28 #[v] H) (.value r H2) ∧ (r = bstr (hexL bs) ∧ Keep H H2 (1 + bs.length)) := by
  obtain ⟨inf, B27⟩ := b27
  have hN' : H.next < maxIds := by omega
  -- what the loop keeps
  let I : Nat → AS → Prop := fun j s => j ≤ bs.length ∧ s.defs = [] ∧
    Sub (T.set 20 (T.set 20 (T.set 20 (T.set 20 .nil 12 (.int .i64 j)) 11 (.int .i64 bs.length)) 10 v) 3 (.slice (some ⟨H.next, 0, none⟩) (2 * j) (2 * bs.length))) s.env ∧
    Keep H s.H (1 + j) ∧ H.next < s.H.next ∧ s.H.t.get H.next = some (.cells ((hexL (bs.take j) ++ List.replicate (2 * (bs.length - j)) 0).map bv) 5 0)
  refine EvS.call cx F28 (fn := Try.f28) rfl ⟨by simp [Try.f28], by simp⟩ ?_
  repeat (first
    | refine OT.move rfl rfl rfl rfl ?_
    | refine OT.assign rfl rfl rfl rfl ?_
    | refine OT.un rfl rfl rfl ?_
    | refine OT.pickT rfl rfl rfl rfl rfl ?_
    | refine OT.pickF rfl rfl rfl rfl rfl ?_
    | refine OT.lenS rfl rfl rfl u27 rfl ?_
    | refine OT.lenN rfl rfl rfl u27 rfl ?_
    | refine OT.lenT rfl rfl rfl u9 rfl ?_
    | refine OT.extract rfl rfl rfl rfl rfl ?_
    | refine OT.not rfl rfl rfl rfl ?_
    | refine OT.lenB hv rfl rfl rfl u27 rfl ?_
    | refine OT.makeB rfl rfl rfl rfl B27 (by omega) (by omega) (by omega) hN' (by exact trivial) rfl ?_
    | refine OT.cmpT rfl rfl rfl rfl rfl (by simp only [cmpP]; omega) rfl ?_
    | refine OT.cmpF rfl rfl rfl rfl rfl (by simp only [cmpP]; omega) rfl ?_
    | refine OT.add rfl rfl rfl rfl (by first | exact IntWalk.i64_in _ (by omega) | exact IntWalk.u8_in _ (by omega)) rfl ?_
    | refine OT.sub rfl rfl rfl rfl (by first | exact IntWalk.i64_in _ (by omega) | exact IntWalk.u8_in _ (by omega)) rfl ?_
    | refine OT.mul rfl rfl rfl rfl (by first | exact IntWalk.i64_in _ (by omega) | exact IntWalk.u8_in _ (by omega)) rfl ?_
    | refine OT.quo rfl rfl rfl rfl (by omega) (by omega) (by first | exact IntWalk.i64_in _ (by omega) | exact IntWalk.u8_in _ (by omega)) rfl ?_
    | refine OT.rem rfl rfl rfl rfl (by omega) (by omega) rfl ?_
    | refine OT.nil ?_
    | refine Tr.region cx ?_
    | refine Tr.draw cx [] noEv (Valid.none _) (by decide +kernel) ?_
    | refine Tr.cond_true cx rfl ?_
    | refine Tr.cond_false cx rfl ?_
    | refine Tr.seq cx ?_
    | refine Tr.block cx ?_
    | refine Tr.ret cx ?_
    | refine Tr.skip cx ?_
    | refine Tr.exit cx ?_)
  refine Tr.loop cx I (fun j => bs.length - j) 0 ?_ ?_
  · refine ⟨Nat.zero_le _, rfl, ?_, ?_, ?_, ?_⟩
    · refine .set (by omega) rfl ?_ (.set (by omega) rfl ?_ (.set (by omega) rfl ?_ (.set (by omega) rfl ?_ .nil)))
      · rfl
      · rfl
      · rfl
      · rfl
    · exact ⟨by simp [AHeap.add], by simp [AHeap.add], fun i hi => AHeap.get_add_other (by omega)⟩
    · simp [AHeap.add]
    · rw [AHeap.get_add hN']
      rfl
  · rintro j ⟨E, defs, H1⟩ ⟨hj, hdefs, hsub, hkeep, hlt, hout⟩
    simp only at hdefs hkeep hlt hout hsub
    subst hdefs
    refine Tr.sub hsub ?_
    by_cases hjn : j < bs.length
    · have hN1 : H1.next < maxIds := by have := hkeep.most; omega
      have hbm : H.next < maxIds := hN'
      generalize hx0 : bs[j] = x0
      have hx256 : x0.toNat < 256 := x0.toNat_lt
      cases hv with
      | nil => simp at hjn
      | empty => simp at hjn
      | @mk b off c s l e k hb hl hs hbn =>
        have hb1 : H1.t.get b = some (.cells (s.map bv) e k) := by rw [hkeep.old _ hbn]; exact hb
        have hout' : ∀ x, (H1.add x).t.get H.next = some (.cells ((hexL (bs.take j) ++ List.replicate (2 * (bs.length - j)) 0).map bv) 5 0) := fun x => by rw [AHeap.get_add_other (by omega)]; exact hout
        have hload : s[off + j]? = some x0 := by rw [← hx0]; exact SlB.at hs hjn
        repeat (first
    | refine OT.move rfl rfl rfl rfl ?_
    | refine OT.assign rfl rfl rfl rfl ?_
    | refine OT.un rfl rfl rfl ?_
    | refine OT.pickT rfl rfl rfl rfl rfl ?_
    | refine OT.pickF rfl rfl rfl rfl rfl ?_
    | refine OT.lenS rfl rfl rfl u27 rfl ?_
    | refine OT.lenN rfl rfl rfl u27 rfl ?_
    | refine OT.lenT rfl rfl rfl u9 rfl ?_
    | refine OT.extract rfl rfl rfl rfl rfl ?_
    | refine OT.not rfl rfl rfl rfl ?_
    | refine OT.indexAddr rfl rfl rfl rfl u27 s5 (by omega) (by omega) rfl ?_
    | refine OT.loadX x0 rfl rfl rfl hb1 a5 (by simpa using hload) (by exact trivial) rfl ?_
    | refine OT.shr 16 rfl rfl rfl rfl (by omega) (by decide) (by decide) rfl ?_
    | refine OT.mask 4 16 rfl rfl rfl rfl rfl (by decide) (by omega) (by have : (2:Int) ^ IntKind.u8.bits = 256 := (by decide); omega) (by decide) (IntWalk.u8_in _ (by omega)) rfl ?_
    | refine OT.indexT (s := digits) rfl rfl rfl rfl u9 (by omega) (by simp only [digits, List.length_cons, List.length_nil]; omega) rfl ?_
    | refine OT.litB rfl rfl rfl rfl B27 hN1 (by exact .inr (.inr ⟨rfl, rfl, by simp⟩)) rfl ?_
    | refine OT.roomB rfl rfl rfl rfl B27 (hout' _) (AHeap.get_add hN1) (by decide) hbm (by unfold openCap; omega) (by decide) (by omega) (by simp only [List.length_append, hexL_length, List.length_take, List.length_replicate]; omega) (by simp) rfl (by exact .inr (.inr ⟨rfl, rfl, by simp⟩)) rfl ?_
    | refine OT.cmpT rfl rfl rfl rfl rfl (by simp only [cmpP]; omega) rfl ?_
    | refine OT.cmpF rfl rfl rfl rfl rfl (by simp only [cmpP]; omega) rfl ?_
    | refine OT.add rfl rfl rfl rfl (by first | exact IntWalk.i64_in _ (by omega) | exact IntWalk.u8_in _ (by omega)) rfl ?_
    | refine OT.sub rfl rfl rfl rfl (by first | exact IntWalk.i64_in _ (by omega) | exact IntWalk.u8_in _ (by omega)) rfl ?_
    | refine OT.mul rfl rfl rfl rfl (by first | exact IntWalk.i64_in _ (by omega) | exact IntWalk.u8_in _ (by omega)) rfl ?_
    | refine OT.quo rfl rfl rfl rfl (by omega) (by omega) (by first | exact IntWalk.i64_in _ (by omega) | exact IntWalk.u8_in _ (by omega)) rfl ?_
    | refine OT.rem rfl rfl rfl rfl (by omega) (by omega) rfl ?_
    | refine OT.nil ?_
    | refine Tr.region cx ?_
    | refine Tr.draw cx [] noEv (Valid.none _) (by decide +kernel) ?_
    | refine Tr.cond_true cx rfl ?_
    | refine Tr.cond_false cx rfl ?_
    | refine Tr.seq cx ?_
    | refine Tr.block cx ?_
    | refine Tr.ret cx ?_
    | refine Tr.skip cx ?_
    | refine Tr.exit cx ?_)
        refine ⟨j + 1, ⟨hjn, rfl, ?_, ?_, ?_, ?_⟩, by omega⟩
        · refine .set (by omega) rfl ?_ (.set (by omega) rfl ?_ (.set (by omega) rfl ?_ (.set (by omega) rfl ?_ .nil)))
          · rfl
          · rfl
          · rfl
          · simp
        · refine ⟨by have := hkeep.le; simp only [AHeap.put, AHeap.add]; omega, by have := hkeep.most; simp only [AHeap.put, AHeap.add]; omega, fun i hi => ?_⟩
          rw [AHeap.get_put_other (by omega), AHeap.get_add_other (by omega), hkeep.old i hi]
        · simp only [AHeap.put, AHeap.add]; omega
        · rw [AHeap.get_put hbm, hexL_succ hjn, hx0]
          rw [show 2 * (bs.length - j) = 2 * (bs.length - (j + 1)) + 2 by omega, Nat.zero_add, put_bytes (by rw [hexL_length, List.length_take]; omega)]
          rw [show ((x0.toNat : Int) / 16).toNat = x0.toNat / 16 by omega, show ((x0.toNat : Int) % 16).toNat = x0.toNat % 16 by omega]
          rfl
    · have hjj : j = bs.length := by omega
      subst hjj
      repeat (first
    | refine OT.move rfl rfl rfl rfl ?_
    | refine OT.assign rfl rfl rfl rfl ?_
    | refine OT.un rfl rfl rfl ?_
    | refine OT.pickT rfl rfl rfl rfl rfl ?_
    | refine OT.pickF rfl rfl rfl rfl rfl ?_
    | refine OT.lenS rfl rfl rfl u27 rfl ?_
    | refine OT.lenN rfl rfl rfl u27 rfl ?_
    | refine OT.lenT rfl rfl rfl u9 rfl ?_
    | refine OT.extract rfl rfl rfl rfl rfl ?_
    | refine OT.not rfl rfl rfl rfl ?_
    | refine OT.toText rfl rfl rfl B27 u9 hout (by simp [hexL_length]) (by exact trivial) rfl ?_
    | refine OT.cmpT rfl rfl rfl rfl rfl (by simp only [cmpP]; omega) rfl ?_
    | refine OT.cmpF rfl rfl rfl rfl rfl (by simp only [cmpP]; omega) rfl ?_
    | refine OT.add rfl rfl rfl rfl (by first | exact IntWalk.i64_in _ (by omega) | exact IntWalk.u8_in _ (by omega)) rfl ?_
    | refine OT.sub rfl rfl rfl rfl (by first | exact IntWalk.i64_in _ (by omega) | exact IntWalk.u8_in _ (by omega)) rfl ?_
    | refine OT.mul rfl rfl rfl rfl (by first | exact IntWalk.i64_in _ (by omega) | exact IntWalk.u8_in _ (by omega)) rfl ?_
    | refine OT.quo rfl rfl rfl rfl (by omega) (by omega) (by first | exact IntWalk.i64_in _ (by omega) | exact IntWalk.u8_in _ (by omega)) rfl ?_
    | refine OT.rem rfl rfl rfl rfl (by omega) (by omega) rfl ?_
    | refine OT.nil ?_
    | refine Tr.region cx ?_
    | refine Tr.draw cx [] noEv (Valid.none _) (by decide +kernel) ?_
    | refine Tr.cond_true cx rfl ?_
    | refine Tr.cond_false cx rfl ?_
    | refine Tr.seq cx ?_
    | refine Tr.block cx ?_
    | refine Tr.ret cx ?_
    | refine Tr.skip cx ?_
    | refine Tr.exit cx ?_)
      refine ⟨_, _, rfl, rfl, ?_, hkeep.le, by have := hkeep.most; omega, hkeep.old⟩
      simp only [resOf, Nat.sub_self, Nat.mul_zero, List.replicate_zero, List.append_nil, List.take_length, List.drop_zero]
      rw [List.take_of_length_le (by rw [hexL_length]; omega)]
end Go.Proofs.Ytpfenodmchhglaa
