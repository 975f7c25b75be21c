/-
  A part of the proof: what the run over an abstract memory gives; conditions: those of each theorem.
-/
import Derived.Test.YtpfenodmchhglaaT13
namespace Go.Proofs.Ytpfenodmchhglaa
open Ax
theorem hv_ev (c : UInt8) (H : AHeap) : EvS Try.prog (.call 44 #[bv c] H) (.value (hvV (hv c.toNat)) H) := by
  obtain ⟨v, H2, he, rfl, rfl⟩ := hexValue_any c.toNat (by omega) (by have := c.toNat_lt; omega) H
  exact he
theorem hv_dig (x : Nat) (hx : x < 16) : hv ((dig x).toNat : Int) = some (x : Int) := by
  have : ∀ x, x < 16 → hv ((dig x).toNat : Int) = some (x : Int) := by decide +kernel
  exact this x hx
theorem hv_some {c : UInt8} {n : Int} (h : hv (c.toNat : Int) = some n) : 0 ≤ n ∧ n < 16 ∧ dig n.toNat = c := by
  have key : ∀ k : Nat, k < 256 → (match hv (k : Int) with | some n => decide (0 ≤ n ∧ n < 16 ∧ dig n.toNat = UInt8.ofNat k) | none => true) = true := by decide +kernel
  have := key c.toNat c.toNat_lt
  rw [h] at this
  simpa using this
theorem hexL_hv {l : List UInt8} : ∀ c ∈ hexL l, ∃ n, hv (c.toNat : Int) = some n := by
  intro c hc
  simp only [hexL, List.mem_flatMap, List.mem_cons, List.not_mem_nil, or_false] at hc
  obtain ⟨a, _, hc⟩ := hc
  have := a.toNat_lt
  rcases hc with rfl | rfl
  · exact ⟨_, hv_dig _ (by omega)⟩
  · exact ⟨_, hv_dig _ (by omega)⟩
theorem put_byte {a : List UInt8} {m k : Nat} {x : UInt8} (hk : a.length = k) : ((a ++ (List.replicate (m + 1) 0)).take k ++ (([x].drop 0).take 1) ++ (a ++ List.replicate (m + 1) 0).drop (k + 1)) = a ++ [x] ++ List.replicate m 0 := by
  subst hk
  rw [List.take_left, ← List.drop_drop, List.drop_left]
  simp
set_option maxHeartbeats 2000000 in
theorem bytes_any {H : AHeap} {s : List UInt8} (hn : s.length < 2 ^ 20) (hN : H.next + s.length + 1 < maxIds) :
    ∃ r H2, EvS Try.prog (.call 19 #[bstr s] H) (.value r H2) ∧ (Keep H H2 (1 + s.length) ∧
      ((∃ out v, s = hexL out ∧ SlB H2 v out ∧ r = .tuple #[v, .int .i64 0]) ∨ ((∀ out, s ≠ hexL out) ∧ r = .tuple #[.slice none 0 0, .int .i64 3]))) := by
  obtain ⟨inf, B27⟩ := b27
  have hN' : H.next < maxIds := by omega
  refine EvS.call cx F19 (fn := Try.f19) rfl ⟨by simp [Try.f19], by simp⟩ ?_
  by_cases hodd : s.length % 2 ≠ 0
  · repeat (first
    | refine OT.move rfl rfl rfl rfl ?_
    | refine OT.assign rfl rfl rfl rfl ?_
    | refine OT.un rfl rfl rfl ?_
    | refine OT.pickT rfl rfl rfl rfl rfl ?_
    | refine OT.pickF rfl rfl rfl rfl rfl ?_
    | refine OT.lenS rfl rfl rfl u27 rfl ?_
    | refine OT.lenN rfl rfl rfl u27 rfl ?_
    | refine OT.lenT rfl rfl rfl u9 rfl ?_
    | refine OT.extract rfl rfl rfl rfl rfl ?_
    | refine OT.not rfl rfl rfl rfl ?_
    | refine OT.cmpT rfl rfl rfl rfl rfl (by simp only [cmpP]; omega) rfl ?_
    | refine OT.cmpF rfl rfl rfl rfl rfl (by simp only [cmpP]; omega) rfl ?_
    | refine OT.add rfl rfl rfl rfl (by first | exact IntWalk.i64_in _ (by omega) | exact IntWalk.u8_in _ (by omega)) rfl ?_
    | refine OT.sub rfl rfl rfl rfl (by first | exact IntWalk.i64_in _ (by omega) | exact IntWalk.u8_in _ (by omega)) rfl ?_
    | refine OT.mul rfl rfl rfl rfl (by first | exact IntWalk.i64_in _ (by omega) | exact IntWalk.u8_in _ (by omega)) rfl ?_
    | refine OT.quo rfl rfl rfl rfl (by omega) (by omega) (by first | exact IntWalk.i64_in _ (by omega) | exact IntWalk.u8_in _ (by omega)) rfl ?_
    | refine OT.rem rfl rfl rfl rfl (by omega) (by omega) rfl ?_
    | refine OT.nil ?_
    | refine Tr.region cx ?_
    | refine Tr.draw cx [] noEv (Valid.none _) (by decide +kernel) ?_
    | refine Tr.cond_true cx rfl ?_
    | refine Tr.cond_false cx rfl ?_
    | refine Tr.seq cx ?_
    | refine Tr.block cx ?_
    | refine Tr.ret cx ?_
    | refine Tr.skip cx ?_
    | refine Tr.exit cx ?_)
    refine ⟨_, _, rfl, rfl, Keep.refl _ _, .inr ⟨fun out e => ?_, rfl⟩⟩
    rw [e, hexL_length] at hodd; omega
  obtain ⟨m, hm⟩ : ∃ m, s.length = 2 * m := ⟨s.length / 2, by omega⟩
  let I : Nat → AS → Prop := fun j s1 => j ≤ m ∧ s1.defs = [] ∧
    Sub (T.set 20 (T.set 20 (T.set 20 .nil 5 (.int .i64 (2 * j : Nat))) 4 (.slice (some ⟨H.next, 0, none⟩) j m)) 0 (bstr s)) s1.env ∧
    Keep H s1.H (1 + j) ∧ H.next < s1.H.next ∧ ∃ out : List UInt8, out.length = j ∧ s.take (2 * j) = hexL out ∧ s1.H.t.get H.next = some (.cells ((out ++ List.replicate (m - j) 0).map bv) 5 0)
  repeat (first
    | refine OT.move rfl rfl rfl rfl ?_
    | refine OT.assign rfl rfl rfl rfl ?_
    | refine OT.un rfl rfl rfl ?_
    | refine OT.pickT rfl rfl rfl rfl rfl ?_
    | refine OT.pickF rfl rfl rfl rfl rfl ?_
    | refine OT.lenS rfl rfl rfl u27 rfl ?_
    | refine OT.lenN rfl rfl rfl u27 rfl ?_
    | refine OT.lenT rfl rfl rfl u9 rfl ?_
    | refine OT.extract rfl rfl rfl rfl rfl ?_
    | refine OT.not rfl rfl rfl rfl ?_
    | refine OT.makeB rfl rfl rfl rfl B27 (by omega) (by omega) (by omega) hN' (by exact trivial) rfl ?_
    | refine OT.cmpT rfl rfl rfl rfl rfl (by simp only [cmpP]; omega) rfl ?_
    | refine OT.cmpF rfl rfl rfl rfl rfl (by simp only [cmpP]; omega) rfl ?_
    | refine OT.add rfl rfl rfl rfl (by first | exact IntWalk.i64_in _ (by omega) | exact IntWalk.u8_in _ (by omega)) rfl ?_
    | refine OT.sub rfl rfl rfl rfl (by first | exact IntWalk.i64_in _ (by omega) | exact IntWalk.u8_in _ (by omega)) rfl ?_
    | refine OT.mul rfl rfl rfl rfl (by first | exact IntWalk.i64_in _ (by omega) | exact IntWalk.u8_in _ (by omega)) rfl ?_
    | refine OT.quo rfl rfl rfl rfl (by omega) (by omega) (by first | exact IntWalk.i64_in _ (by omega) | exact IntWalk.u8_in _ (by omega)) rfl ?_
    | refine OT.rem rfl rfl rfl rfl (by omega) (by omega) rfl ?_
    | refine OT.nil ?_
    | refine Tr.region cx ?_
    | refine Tr.draw cx [] noEv (Valid.none _) (by decide +kernel) ?_
    | refine Tr.cond_true cx rfl ?_
    | refine Tr.cond_false cx rfl ?_
    | refine Tr.seq cx ?_
    | refine Tr.block cx ?_
    | refine Tr.ret cx ?_
    | refine Tr.skip cx ?_
    | refine Tr.exit cx ?_)
  refine Tr.loop cx I (fun j => m - j) 0 ?_ ?_
  · refine ⟨Nat.zero_le _, rfl, ?_, ?_, ?_, [], rfl, rfl, ?_⟩
    · refine .set (by omega) rfl ?_ (.set (by omega) rfl ?_ (.set (by omega) rfl ?_ .nil))
      · rfl
      · simp only [Int.toNat_zero]; congr 1; omega
      · rfl
    · exact ⟨by simp [AHeap.add], by simp [AHeap.add], fun i hi => AHeap.get_add_other (by omega)⟩
    · simp [AHeap.add]
    · rw [AHeap.get_add hN']
      rw [show ((s.length : Int) / 2).toNat = m by omega]
      rfl
  · rintro j ⟨E, defs, H1⟩ ⟨hj, hdefs, hsub, hkeep, hlt, out, hol, hoe, hout⟩
    simp only at hdefs hkeep hlt hout hsub
    subst hdefs
    refine Tr.sub hsub ?_
    have hN1 : H1.next < maxIds := by have := hkeep.most; omega
    by_cases hjn : j < m
    · obtain ⟨c1, hc1⟩ : ∃ c, s[2 * j]? = some c := ⟨_, List.getElem?_eq_getElem (by omega)⟩
      obtain ⟨c2, hc2⟩ : ∃ c, s[2 * j + 1]? = some c := ⟨_, List.getElem?_eq_getElem (by omega)⟩
      have he1 := hv_ev c1 H1
      have he2 := hv_ev c2 H1
      have hbad : ∀ c, c ∈ s → hv (c.toNat : Int) = none → ∀ out, s ≠ hexL out := by
        rintro c hc hnone out rfl
        obtain ⟨n, h⟩ := hexL_hv c hc
        rw [h] at hnone; cases hnone
      have hfin : ∀ out, s ≠ hexL out → True := fun _ _ => trivial
      have hF44 : (FF 44).isSome = true := by rw [F44]; rfl
      have hr1 : s[((2 * j : Nat) : Int).toNat]? = some c1 := by rw [Int.toNat_natCast]; exact hc1
      have hr2 : s[(((2 * j : Nat) : Int) + 1).toNat]? = some c2 := by rw [show (((2 * j : Nat) : Int) + 1).toNat = 2 * j + 1 by omega]; exact hc2
      cases e1 : hv (c1.toNat : Int) with
      | none =>
        rw [e1] at he1
        cases e2 : hv (c2.toNat : Int) with
        | none =>
          rw [e2] at he2
          repeat (first
    | refine OT.move rfl rfl rfl rfl ?_
    | refine OT.assign rfl rfl rfl rfl ?_
    | refine OT.un rfl rfl rfl ?_
    | refine OT.pickT rfl rfl rfl rfl rfl ?_
    | refine OT.pickF rfl rfl rfl rfl rfl ?_
    | refine OT.lenS rfl rfl rfl u27 rfl ?_
    | refine OT.lenN rfl rfl rfl u27 rfl ?_
    | refine OT.lenT rfl rfl rfl u9 rfl ?_
    | refine OT.extract rfl rfl rfl rfl rfl ?_
    | refine OT.not rfl rfl rfl rfl ?_
    | refine OT.indexX c1 rfl rfl rfl rfl u9 (by omega) hr1 rfl ?_
    | refine OT.indexX c2 rfl rfl rfl rfl u9 (by omega) hr2 rfl ?_
    | refine OT.call1 he1 rfl rfl rfl hF44 rfl ?_
    | refine OT.call1 he2 rfl rfl rfl hF44 rfl ?_
    | refine OT.cmpT rfl rfl rfl rfl rfl (by simp only [cmpP]; omega) rfl ?_
    | refine OT.cmpF rfl rfl rfl rfl rfl (by simp only [cmpP]; omega) rfl ?_
    | refine OT.add rfl rfl rfl rfl (by first | exact IntWalk.i64_in _ (by omega) | exact IntWalk.u8_in _ (by omega)) rfl ?_
    | refine OT.sub rfl rfl rfl rfl (by first | exact IntWalk.i64_in _ (by omega) | exact IntWalk.u8_in _ (by omega)) rfl ?_
    | refine OT.mul rfl rfl rfl rfl (by first | exact IntWalk.i64_in _ (by omega) | exact IntWalk.u8_in _ (by omega)) rfl ?_
    | refine OT.quo rfl rfl rfl rfl (by omega) (by omega) (by first | exact IntWalk.i64_in _ (by omega) | exact IntWalk.u8_in _ (by omega)) rfl ?_
    | refine OT.rem rfl rfl rfl rfl (by omega) (by omega) rfl ?_
    | refine OT.nil ?_
    | refine Tr.region cx ?_
    | refine Tr.draw cx [] noEv (Valid.none _) (by decide +kernel) ?_
    | refine Tr.cond_true cx rfl ?_
    | refine Tr.cond_false cx rfl ?_
    | refine Tr.seq cx ?_
    | refine Tr.block cx ?_
    | refine Tr.ret cx ?_
    | refine Tr.skip cx ?_
    | refine Tr.exit cx ?_)
          exact ⟨_, _, rfl, rfl, ⟨hkeep.le, by have := hkeep.most; simp only; omega, hkeep.old⟩, .inr ⟨hbad c1 (List.mem_of_getElem? hc1) e1, rfl⟩⟩
        | some n2 =>
          rw [e2] at he2
          repeat (first
    | refine OT.move rfl rfl rfl rfl ?_
    | refine OT.assign rfl rfl rfl rfl ?_
    | refine OT.un rfl rfl rfl ?_
    | refine OT.pickT rfl rfl rfl rfl rfl ?_
    | refine OT.pickF rfl rfl rfl rfl rfl ?_
    | refine OT.lenS rfl rfl rfl u27 rfl ?_
    | refine OT.lenN rfl rfl rfl u27 rfl ?_
    | refine OT.lenT rfl rfl rfl u9 rfl ?_
    | refine OT.extract rfl rfl rfl rfl rfl ?_
    | refine OT.not rfl rfl rfl rfl ?_
    | refine OT.indexX c1 rfl rfl rfl rfl u9 (by omega) hr1 rfl ?_
    | refine OT.indexX c2 rfl rfl rfl rfl u9 (by omega) hr2 rfl ?_
    | refine OT.call1 he1 rfl rfl rfl hF44 rfl ?_
    | refine OT.call1 he2 rfl rfl rfl hF44 rfl ?_
    | refine OT.cmpT rfl rfl rfl rfl rfl (by simp only [cmpP]; omega) rfl ?_
    | refine OT.cmpF rfl rfl rfl rfl rfl (by simp only [cmpP]; omega) rfl ?_
    | refine OT.add rfl rfl rfl rfl (by first | exact IntWalk.i64_in _ (by omega) | exact IntWalk.u8_in _ (by omega)) rfl ?_
    | refine OT.sub rfl rfl rfl rfl (by first | exact IntWalk.i64_in _ (by omega) | exact IntWalk.u8_in _ (by omega)) rfl ?_
    | refine OT.mul rfl rfl rfl rfl (by first | exact IntWalk.i64_in _ (by omega) | exact IntWalk.u8_in _ (by omega)) rfl ?_
    | refine OT.quo rfl rfl rfl rfl (by omega) (by omega) (by first | exact IntWalk.i64_in _ (by omega) | exact IntWalk.u8_in _ (by omega)) rfl ?_
    | refine OT.rem rfl rfl rfl rfl (by omega) (by omega) rfl ?_
    | refine OT.nil ?_
    | refine Tr.region cx ?_
    | refine Tr.draw cx [] noEv (Valid.none _) (by decide +kernel) ?_
    | refine Tr.cond_true cx rfl ?_
    | refine Tr.cond_false cx rfl ?_
    | refine Tr.seq cx ?_
    | refine Tr.block cx ?_
    | refine Tr.ret cx ?_
    | refine Tr.skip cx ?_
    | refine Tr.exit cx ?_)
          exact ⟨_, _, rfl, rfl, ⟨hkeep.le, by have := hkeep.most; simp only; omega, hkeep.old⟩, .inr ⟨hbad c1 (List.mem_of_getElem? hc1) e1, rfl⟩⟩
      | some n1 =>
        rw [e1] at he1
        cases e2 : hv (c2.toNat : Int) with
        | none =>
          rw [e2] at he2
          repeat (first
    | refine OT.move rfl rfl rfl rfl ?_
    | refine OT.assign rfl rfl rfl rfl ?_
    | refine OT.un rfl rfl rfl ?_
    | refine OT.pickT rfl rfl rfl rfl rfl ?_
    | refine OT.pickF rfl rfl rfl rfl rfl ?_
    | refine OT.lenS rfl rfl rfl u27 rfl ?_
    | refine OT.lenN rfl rfl rfl u27 rfl ?_
    | refine OT.lenT rfl rfl rfl u9 rfl ?_
    | refine OT.extract rfl rfl rfl rfl rfl ?_
    | refine OT.not rfl rfl rfl rfl ?_
    | refine OT.indexX c1 rfl rfl rfl rfl u9 (by omega) hr1 rfl ?_
    | refine OT.indexX c2 rfl rfl rfl rfl u9 (by omega) hr2 rfl ?_
    | refine OT.call1 he1 rfl rfl rfl hF44 rfl ?_
    | refine OT.call1 he2 rfl rfl rfl hF44 rfl ?_
    | refine OT.cmpT rfl rfl rfl rfl rfl (by simp only [cmpP]; omega) rfl ?_
    | refine OT.cmpF rfl rfl rfl rfl rfl (by simp only [cmpP]; omega) rfl ?_
    | refine OT.add rfl rfl rfl rfl (by first | exact IntWalk.i64_in _ (by omega) | exact IntWalk.u8_in _ (by omega)) rfl ?_
    | refine OT.sub rfl rfl rfl rfl (by first | exact IntWalk.i64_in _ (by omega) | exact IntWalk.u8_in _ (by omega)) rfl ?_
    | refine OT.mul rfl rfl rfl rfl (by first | exact IntWalk.i64_in _ (by omega) | exact IntWalk.u8_in _ (by omega)) rfl ?_
    | refine OT.quo rfl rfl rfl rfl (by omega) (by omega) (by first | exact IntWalk.i64_in _ (by omega) | exact IntWalk.u8_in _ (by omega)) rfl ?_
    | refine OT.rem rfl rfl rfl rfl (by omega) (by omega) rfl ?_
    | refine OT.nil ?_
    | refine Tr.region cx ?_
    | refine Tr.draw cx [] noEv (Valid.none _) (by decide +kernel) ?_
    | refine Tr.cond_true cx rfl ?_
    | refine Tr.cond_false cx rfl ?_
    | refine Tr.seq cx ?_
    | refine Tr.block cx ?_
    | refine Tr.ret cx ?_
    | refine Tr.skip cx ?_
    | refine Tr.exit cx ?_)
          exact ⟨_, _, rfl, rfl, ⟨hkeep.le, by have := hkeep.most; simp only; omega, hkeep.old⟩, .inr ⟨hbad c2 (List.mem_of_getElem? hc2) e2, rfl⟩⟩
        | some n2 =>
          rw [e2] at he2
          obtain ⟨p0, p1, p2⟩ := hv_some e1
          obtain ⟨q0, q1, q2⟩ := hv_some e2
          obtain ⟨b0, hb0⟩ : ∃ b : UInt8, n1 * 16 + n2 = (b.toNat : Int) := ⟨UInt8.ofNat (n1 * 16 + n2).toNat, by rw [UInt8.toNat_ofNat']; omega⟩
          have hout' : ∀ x, (H1.add x).t.get H.next = some (.cells ((out ++ List.replicate (m - j) 0).map bv) 5 0) := fun x => by rw [AHeap.get_add_other (by omega)]; exact hout
          repeat (first
    | refine OT.move rfl rfl rfl rfl ?_
    | refine OT.assign rfl rfl rfl rfl ?_
    | refine OT.un rfl rfl rfl ?_
    | refine OT.pickT rfl rfl rfl rfl rfl ?_
    | refine OT.pickF rfl rfl rfl rfl rfl ?_
    | refine OT.lenS rfl rfl rfl u27 rfl ?_
    | refine OT.lenN rfl rfl rfl u27 rfl ?_
    | refine OT.lenT rfl rfl rfl u9 rfl ?_
    | refine OT.extract rfl rfl rfl rfl rfl ?_
    | refine OT.not rfl rfl rfl rfl ?_
    | refine OT.indexX c1 rfl rfl rfl rfl u9 (by omega) hr1 rfl ?_
    | refine OT.indexX c2 rfl rfl rfl rfl u9 (by omega) hr2 rfl ?_
    | refine OT.call1 he1 rfl rfl rfl hF44 rfl ?_
    | refine OT.call1 he2 rfl rfl rfl hF44 rfl ?_
    | refine OT.shl 16 rfl rfl rfl rfl (by omega) (by decide) (by decide) (IntWalk.u8_in _ (by omega)) rfl ?_
    | refine OT.orA 4 rfl rfl rfl rfl (by omega) (by have : (2:Int) ^ IntKind.u8.bits = 256 := (by decide); omega) (by omega) (by omega) (by omega) (IntWalk.u8_in _ (by omega)) rfl ?_
    | refine OT.lit1 (b0 := b0) rfl rfl (by exact congrArg (fun z => some (Value.int .u8 z)) hb0) B27 hN1 (by exact trivial) rfl ?_
    | refine OT.roomB rfl rfl rfl rfl B27 (hout' _) (AHeap.get_add hN1) (by decide) hN' (by unfold openCap; omega) (by decide) (by omega) (by simp only [List.length_append, List.length_replicate]; omega) (by simp) rfl (by exact trivial) rfl ?_
    | refine OT.cmpT rfl rfl rfl rfl rfl (by simp only [cmpP]; omega) rfl ?_
    | refine OT.cmpF rfl rfl rfl rfl rfl (by simp only [cmpP]; omega) rfl ?_
    | refine OT.add rfl rfl rfl rfl (by first | exact IntWalk.i64_in _ (by omega) | exact IntWalk.u8_in _ (by omega)) rfl ?_
    | refine OT.sub rfl rfl rfl rfl (by first | exact IntWalk.i64_in _ (by omega) | exact IntWalk.u8_in _ (by omega)) rfl ?_
    | refine OT.mul rfl rfl rfl rfl (by first | exact IntWalk.i64_in _ (by omega) | exact IntWalk.u8_in _ (by omega)) rfl ?_
    | refine OT.quo rfl rfl rfl rfl (by omega) (by omega) (by first | exact IntWalk.i64_in _ (by omega) | exact IntWalk.u8_in _ (by omega)) rfl ?_
    | refine OT.rem rfl rfl rfl rfl (by omega) (by omega) rfl ?_
    | refine OT.nil ?_
    | refine Tr.region cx ?_
    | refine Tr.draw cx [] noEv (Valid.none _) (by decide +kernel) ?_
    | refine Tr.cond_true cx rfl ?_
    | refine Tr.cond_false cx rfl ?_
    | refine Tr.seq cx ?_
    | refine Tr.block cx ?_
    | refine Tr.ret cx ?_
    | refine Tr.skip cx ?_
    | refine Tr.exit cx ?_)
          refine ⟨j + 1, ⟨hjn, rfl, ?_, ?_, ?_, out ++ [b0], by simp [hol], ?_, ?_⟩, by omega⟩
          · refine .set (by omega) rfl ?_ (.set (by omega) rfl ?_ (.set (by omega) rfl ?_ .nil))
            · rfl
            · rfl
            · exact congrArg (Value.int .i64) (by omega)
          · refine ⟨by have := hkeep.le; simp only [AHeap.put, AHeap.add]; omega, by have := hkeep.most; simp only [AHeap.put, AHeap.add]; omega, fun i hi => ?_⟩
            rw [AHeap.get_put_other (by omega), AHeap.get_add_other (by omega), hkeep.old i hi]
          · simp only [AHeap.put, AHeap.add]; omega
          · rw [show 2 * (j + 1) = 2 * j + 1 + 1 by omega, List.take_add_one, List.take_add_one, hc1, hc2, hoe]
            simp only [Option.toList, hexL, List.flatMap_append, List.flatMap_cons, List.flatMap_nil, List.append_assoc, List.append_nil]
            rw [show b0.toNat / 16 = n1.toNat by omega, show b0.toNat % 16 = n2.toNat by omega, p2, q2]
            rfl
          · rw [AHeap.get_put hN']
            rw [show m - j = (m - (j + 1)) + 1 by omega, Nat.zero_add, put_byte hol]
    · have hjj : j = m := by omega
      subst hjj
      repeat (first
    | refine OT.move rfl rfl rfl rfl ?_
    | refine OT.assign rfl rfl rfl rfl ?_
    | refine OT.un rfl rfl rfl ?_
    | refine OT.pickT rfl rfl rfl rfl rfl ?_
    | refine OT.pickF rfl rfl rfl rfl rfl ?_
    | refine OT.lenS rfl rfl rfl u27 rfl ?_
    | refine OT.lenN rfl rfl rfl u27 rfl ?_
    | refine OT.lenT rfl rfl rfl u9 rfl ?_
    | refine OT.extract rfl rfl rfl rfl rfl ?_
    | refine OT.not rfl rfl rfl rfl ?_
    | refine OT.cmpT rfl rfl rfl rfl rfl (by simp only [cmpP]; omega) rfl ?_
    | refine OT.cmpF rfl rfl rfl rfl rfl (by simp only [cmpP]; omega) rfl ?_
    | refine OT.add rfl rfl rfl rfl (by first | exact IntWalk.i64_in _ (by omega) | exact IntWalk.u8_in _ (by omega)) rfl ?_
    | refine OT.sub rfl rfl rfl rfl (by first | exact IntWalk.i64_in _ (by omega) | exact IntWalk.u8_in _ (by omega)) rfl ?_
    | refine OT.mul rfl rfl rfl rfl (by first | exact IntWalk.i64_in _ (by omega) | exact IntWalk.u8_in _ (by omega)) rfl ?_
    | refine OT.quo rfl rfl rfl rfl (by omega) (by omega) (by first | exact IntWalk.i64_in _ (by omega) | exact IntWalk.u8_in _ (by omega)) rfl ?_
    | refine OT.rem rfl rfl rfl rfl (by omega) (by omega) rfl ?_
    | refine OT.nil ?_
    | refine Tr.region cx ?_
    | refine Tr.draw cx [] noEv (Valid.none _) (by decide +kernel) ?_
    | refine Tr.cond_true cx rfl ?_
    | refine Tr.cond_false cx rfl ?_
    | refine Tr.seq cx ?_
    | refine Tr.block cx ?_
    | refine Tr.ret cx ?_
    | refine Tr.skip cx ?_
    | refine Tr.exit cx ?_)
      refine ⟨_, _, rfl, rfl, ⟨hkeep.le, by have := hkeep.most; simp only; omega, hkeep.old⟩, .inl ⟨out, _, ?_, ?_, rfl⟩⟩
      · rw [← hoe, List.take_of_length_le (by omega)]
      · have := SlB.mk (H := H1) (c := j) (l := out) (b := H.next) (off := 0) hout (by simp [hol]) (by simp) hlt
        rw [hol] at this
        exact this
end Go.Proofs.Ytpfenodmchhglaa
