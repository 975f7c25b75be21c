/-
  A part of the proof: what the run over an abstract memory gives; conditions: those of each theorem.
-/
import Derived.Test.YtpfenodmchhglaaT17
namespace Go.Proofs.Ytpfenodmchhglaa
open Ax
set_option maxHeartbeats 4000000 in
theorem law_any {H : AHeap} {v : Value} {bs : List UInt8} {at_ c : UInt8} (hv : InB H v bs) (hn : bs.length < 2 ^ 64) (hN : H.next + 2000 < maxIds) :
    ∃ r H2, EvS Try.prog (.call 9 #[v, bv at_, bv c] H) (.value r H2) ∧ r = .bool true := by
  obtain ⟨inf, B27⟩ := b27
  have he10 := sanity_ev H
  obtain ⟨x, H0, hel, hx, hH0⟩ := limited_any hv hn
  rw [hH0] at hel
  have hl100 : (bs.take 100).length ≤ 100 := by rw [List.length_take]; omega
  generalize bs.take 100 = xs at hx hl100
  obtain ⟨_, H1, heh, rfl, k1⟩ := hex_any hx (by omega) (by omega)
  have hlen := hexL_length xs
  have n1 := k1.most
  obtain ⟨_, H2, heb, k2, hr⟩ := bytes_any (H := H1) (s := hexL xs) (by omega) (by omega)
  have n2 := k2.most
  have hr : ∃ out y r, hexL xs = hexL out ∧ SlB H2 y out ∧ r = Value.tuple #[y, .int .i64 0] ∧ EvS Try.prog (.call 19 #[bstr (hexL xs)] H1) (.value r H2) := by
    rcases hr with ⟨out, y, ho, hy, hr⟩ | ⟨hbad, _⟩
    · exact ⟨out, y, _, ho, hy, hr, heb⟩
    · exact absurd rfl (hbad xs)
  clear heb
  obtain ⟨out, y, _, ho, hy, rfl, heb⟩ := hr
  have hout := hexL_inj ho
  subst hout
  have hx2 : SlB H2 x xs := (hx.keep k1).keep k2
  obtain ⟨_, H3, heb2, k3, hr⟩ := bytes_any (H := H2) (s := hexL xs ++ [48]) (by rw [List.length_append, hlen]; simp; omega) (by rw [List.length_append, hlen]; simp; omega)
  have n3 := k3.most
  rw [List.length_append, hlen, List.length_cons, List.length_nil] at n3
  rcases hr with ⟨out, y', ho2, hy', rfl⟩ | ⟨_, rfl⟩
  · have := congrArg List.length ho2
    rw [List.length_append, hlen, hexL_length] at this
    simp at this; omega
  have hF10 := F10
  have hF12 : (FF 12).isSome = true := by rw [F12]; rfl
  have hF28 : (FF 28).isSome = true := by rw [F28]; rfl
  have hF19 : (FF 19).isSome = true := by rw [F19]; rfl
  have hat := at_.toNat_lt
  have hc256 := c.toNat_lt
  have hN3 : H3.next < maxIds := by omega
  have hex : ∃ r H2, EvS Try.prog (.call 9 #[v, bv at_, bv c] H) (.value r H2) ∧ r = .bool true := by
    refine EvS.call (R := fun r H2 => r = .bool true) cx F9 (fn := Try.f9) rfl ⟨by simp [Try.f9], by simp⟩ ?_
    by_cases hz : xs.length = 0
    · repeat (first
    | refine OT.move rfl rfl rfl rfl ?_
    | refine OT.assign rfl rfl rfl rfl ?_
    | refine OT.un rfl rfl rfl ?_
    | refine OT.pickT rfl rfl rfl rfl rfl ?_
    | refine OT.pickF rfl rfl rfl rfl rfl ?_
    | refine OT.lenS rfl rfl rfl u27 rfl ?_
    | refine OT.lenN rfl rfl rfl u27 rfl ?_
    | refine OT.lenT rfl rfl rfl u9 rfl ?_
    | refine OT.extract rfl rfl rfl rfl rfl ?_
    | refine OT.not rfl rfl rfl rfl ?_
    | refine OT.call1 he10 rfl rfl rfl hF10 rfl ?_
    | refine OT.call1 hel rfl rfl rfl hF12 rfl ?_
    | refine OT.call1 heh rfl rfl rfl hF28 rfl ?_
    | refine OT.call1 heb rfl rfl rfl hF19 rfl ?_
    | refine OT.call1 heb2 rfl rfl rfl hF19 rfl ?_
    | refine OT.lenB hx rfl rfl rfl u27 rfl ?_
    | refine OT.toTextB hx2 rfl rfl rfl B27 u9 (by exact trivial) rfl ?_
    | refine OT.toTextB hy rfl rfl rfl B27 u9 (by exact trivial) rfl ?_
    | refine OT.bin rfl rfl rfl rfl (aBin_neTF rfl) rfl ?_
    | refine OT.bin rfl rfl rfl rfl (aBin_cat (b := [48]) (by simp only [List.length_cons, List.length_nil]; omega)) rfl ?_
    | refine OT.cmpT rfl rfl rfl rfl rfl (by first | (simp only [cmpP]; done) | (simp only [cmpP]; omega)) rfl ?_
    | refine OT.cmpF rfl rfl rfl rfl rfl (by first | (simp only [cmpP]; done) | (simp only [cmpP]; omega)) rfl ?_
    | refine OT.add rfl rfl rfl rfl (by first | exact IntWalk.i64_in _ (by omega) | exact IntWalk.u8_in _ (by omega)) rfl ?_
    | refine OT.sub rfl rfl rfl rfl (by first | exact IntWalk.i64_in _ (by omega) | exact IntWalk.u8_in _ (by omega)) rfl ?_
    | refine OT.mul rfl rfl rfl rfl (by first | exact IntWalk.i64_in _ (by omega) | exact IntWalk.u8_in _ (by omega)) rfl ?_
    | refine OT.quo rfl rfl rfl rfl (by omega) (by omega) (by first | exact IntWalk.i64_in _ (by omega) | exact IntWalk.u8_in _ (by omega)) rfl ?_
    | refine OT.rem rfl rfl rfl rfl (by omega) (by omega) rfl ?_
    | refine OT.nil ?_
    | refine Tr.region cx ?_
    | refine Tr.draw cx [] noEv (Valid.none _) (by decide +kernel) ?_
    | refine Tr.cond_true cx rfl ?_
    | refine Tr.cond_false cx rfl ?_
    | refine Tr.seq cx ?_
    | refine Tr.block cx ?_
    | refine Tr.ret cx ?_
    | refine Tr.skip cx ?_
    | refine Tr.exit cx ?_)
      exact ⟨_, _, rfl, rfl, rfl⟩
    · have hj0 : 0 ≤ (at_.toNat : Int) % ((hexL xs).length : Int) := Int.emod_nonneg _ (by omega)
      have hj1 : (at_.toNat : Int) % ((hexL xs).length : Int) < ((hexL xs).length : Int) := Int.emod_lt_of_pos _ (by omega)
      repeat (first
    | refine OT.move rfl rfl rfl rfl ?_
    | refine OT.assign rfl rfl rfl rfl ?_
    | refine OT.un rfl rfl rfl ?_
    | refine OT.pickT rfl rfl rfl rfl rfl ?_
    | refine OT.pickF rfl rfl rfl rfl rfl ?_
    | refine OT.lenS rfl rfl rfl u27 rfl ?_
    | refine OT.lenN rfl rfl rfl u27 rfl ?_
    | refine OT.lenT rfl rfl rfl u9 rfl ?_
    | refine OT.extract rfl rfl rfl rfl rfl ?_
    | refine OT.not rfl rfl rfl rfl ?_
    | refine OT.call1 he10 rfl rfl rfl hF10 rfl ?_
    | refine OT.call1 hel rfl rfl rfl hF12 rfl ?_
    | refine OT.call1 heh rfl rfl rfl hF28 rfl ?_
    | refine OT.call1 heb rfl rfl rfl hF19 rfl ?_
    | refine OT.call1 heb2 rfl rfl rfl hF19 rfl ?_
    | refine OT.lenB hx rfl rfl rfl u27 rfl ?_
    | refine OT.toTextB hx2 rfl rfl rfl B27 u9 (by exact trivial) rfl ?_
    | refine OT.toTextB hy rfl rfl rfl B27 u9 (by exact trivial) rfl ?_
    | refine OT.bin rfl rfl rfl rfl (aBin_neTF rfl) rfl ?_
    | refine OT.bin rfl rfl rfl rfl (aBin_cat (b := [48]) (by simp only [List.length_cons, List.length_nil]; omega)) rfl ?_
    | refine OT.convI rfl rfl rfl u5 u3 (IntWalk.i64_in _ (by omega)) (by exact trivial) rfl ?_
    | refine OT.cutT rfl rfl rfl rfl u9 hj0 (by omega) (by exact .inr (.inl ⟨rfl, fun b h => by cases (show (none : Option Nat) = some b from h)⟩)) rfl ?_
    | refine OT.lit1 (b0 := c) rfl rfl rfl B27 hN3 (by exact .inr (.inr ⟨rfl, rfl, by simp⟩)) rfl ?_
    | refine OT.toText rfl rfl rfl B27 u9 (AHeap.get_add hN3) (by simp) (by exact .inr (.inr ⟨rfl, rfl, by simp⟩)) rfl ?_
    | refine OT.tailT rfl rfl rfl rfl u9 (by omega) (by omega) (by exact .inr (.inl ⟨rfl, fun b h => by cases (show (none : Option Nat) = some b from h)⟩)) rfl ?_
    | refine OT.bin rfl rfl rfl rfl (aBin_cat (by simp only [List.length_append, List.length_cons, List.length_nil, List.length_take, List.length_drop]; omega)) rfl ?_
    | refine OT.cmpT rfl rfl rfl rfl rfl (by first | (simp only [cmpP]; done) | (simp only [cmpP]; omega)) rfl ?_
    | refine OT.cmpF rfl rfl rfl rfl rfl (by first | (simp only [cmpP]; done) | (simp only [cmpP]; omega)) rfl ?_
    | refine OT.add rfl rfl rfl rfl (by first | exact IntWalk.i64_in _ (by omega) | exact IntWalk.u8_in _ (by omega)) rfl ?_
    | refine OT.sub rfl rfl rfl rfl (by first | exact IntWalk.i64_in _ (by omega) | exact IntWalk.u8_in _ (by omega)) rfl ?_
    | refine OT.mul rfl rfl rfl rfl (by first | exact IntWalk.i64_in _ (by omega) | exact IntWalk.u8_in _ (by omega)) rfl ?_
    | refine OT.quo rfl rfl rfl rfl (by omega) (by omega) (by first | exact IntWalk.i64_in _ (by omega) | exact IntWalk.u8_in _ (by omega)) rfl ?_
    | refine OT.rem rfl rfl rfl rfl (by omega) (by omega) rfl ?_
    | refine OT.nil ?_
    | refine Tr.region cx ?_
    | refine Tr.draw cx [] noEv (Valid.none _) (by decide +kernel) ?_
    | refine Tr.cond_true cx rfl ?_
    | refine Tr.cond_false cx rfl ?_
    | refine Tr.seq cx ?_
    | refine Tr.block cx ?_
    | refine Tr.ret cx ?_
    | refine Tr.skip cx ?_
    | refine Tr.exit cx ?_)
      have hb1 : ((hexL xs).take ((at_.toNat : Int) % ((hexL xs).length : Int)).toNat ++ ([c].drop 0).take 1 ++ (hexL xs).drop ((at_.toNat : Int) % ((hexL xs).length : Int) + 1).toNat).length ≤ 500 := by
        simp only [List.length_append, List.length_take, List.length_drop, List.length_cons, List.length_nil]; omega
      have hA : (H3.add (.cells ([c].map bv) 5 0)).next = H3.next + 1 := rfl
      obtain ⟨_, H5, he3, k5, hr⟩ := bytes_any (H := H3.add (.cells ([c].map bv) 5 0)) (s := (hexL xs).take ((at_.toNat : Int) % ((hexL xs).length : Int)).toNat ++ ([c].drop 0).take 1 ++ (hexL xs).drop ((at_.toNat : Int) % ((hexL xs).length : Int) + 1).toNat) (by omega) (by rw [hA]; omega)
      have hoth : (hexL xs).take ((at_.toNat : Int) % ((hexL xs).length : Int)).toNat ++ ([c].drop 0).take 1 ++ (hexL xs).drop ((at_.toNat : Int) % ((hexL xs).length : Int) + 1).toNat =
          (hexL xs).take ((at_.toNat : Int) % ((hexL xs).length : Int)).toNat ++ [c] ++ (hexL xs).drop (((at_.toNat : Int) % ((hexL xs).length : Int)).toNat + 1) := by
        rw [show ((at_.toNat : Int) % ((hexL xs).length : Int) + 1).toNat = ((at_.toNat : Int) % ((hexL xs).length : Int)).toNat + 1 by omega]
        rfl
      have hi : ((at_.toNat : Int) % ((hexL xs).length : Int)).toNat < (hexL xs).length := by omega
      have n5 := k5.most
      rw [hA] at n5
      rcases hr with ⟨out3, z, ho3, hz3, rfl⟩ | ⟨hbad3, rfl⟩
      · have hd : isDig c := (other_hex hi).1 ⟨out3, by rw [← hoth]; exact ho3⟩
        have hl3 : 2 * out3.length ≤ 500 := by rw [← hexL_length, ← ho3]; exact hb1
        obtain ⟨_, H6, he6, rfl, k6⟩ := hex_any hz3 (by omega) (by omega)
        unfold isDig at hd
        rcases hd with ⟨d1, d2⟩ | ⟨d1, d2⟩
        · repeat (first
    | refine OT.move rfl rfl rfl rfl ?_
    | refine OT.assign rfl rfl rfl rfl ?_
    | refine OT.un rfl rfl rfl ?_
    | refine OT.pickT rfl rfl rfl rfl rfl ?_
    | refine OT.pickF rfl rfl rfl rfl rfl ?_
    | refine OT.lenS rfl rfl rfl u27 rfl ?_
    | refine OT.lenN rfl rfl rfl u27 rfl ?_
    | refine OT.lenT rfl rfl rfl u9 rfl ?_
    | refine OT.extract rfl rfl rfl rfl rfl ?_
    | refine OT.not rfl rfl rfl rfl ?_
    | refine OT.call1 he3 rfl rfl rfl hF19 rfl ?_
    | refine OT.call1 he6 rfl rfl rfl hF28 rfl ?_
    | refine OT.bin rfl rfl rfl rfl (eqB _ _) rfl ?_
    | refine OT.bin rfl rfl rfl rfl (aBin_eqTT ho3.symm) rfl ?_
    | refine OT.cmpT rfl rfl rfl rfl rfl (by first | (simp only [cmpP]; done) | (simp only [cmpP]; omega)) rfl ?_
    | refine OT.cmpF rfl rfl rfl rfl rfl (by first | (simp only [cmpP]; done) | (simp only [cmpP]; omega)) rfl ?_
    | refine OT.add rfl rfl rfl rfl (by first | exact IntWalk.i64_in _ (by omega) | exact IntWalk.u8_in _ (by omega)) rfl ?_
    | refine OT.sub rfl rfl rfl rfl (by first | exact IntWalk.i64_in _ (by omega) | exact IntWalk.u8_in _ (by omega)) rfl ?_
    | refine OT.mul rfl rfl rfl rfl (by first | exact IntWalk.i64_in _ (by omega) | exact IntWalk.u8_in _ (by omega)) rfl ?_
    | refine OT.quo rfl rfl rfl rfl (by omega) (by omega) (by first | exact IntWalk.i64_in _ (by omega) | exact IntWalk.u8_in _ (by omega)) rfl ?_
    | refine OT.rem rfl rfl rfl rfl (by omega) (by omega) rfl ?_
    | refine OT.nil ?_
    | refine Tr.region cx ?_
    | refine Tr.draw cx [] noEv (Valid.none _) (by decide +kernel) ?_
    | refine Tr.cond_true cx rfl ?_
    | refine Tr.cond_false cx rfl ?_
    | refine Tr.seq cx ?_
    | refine Tr.block cx ?_
    | refine Tr.ret cx ?_
    | refine Tr.skip cx ?_
    | refine Tr.exit cx ?_)
          exact ⟨_, _, rfl, rfl, rfl⟩
        · have d3 : ¬ (c.toNat : Int) ≤ 57 := by omega
          repeat (first
    | refine OT.move rfl rfl rfl rfl ?_
    | refine OT.assign rfl rfl rfl rfl ?_
    | refine OT.un rfl rfl rfl ?_
    | refine OT.pickT rfl rfl rfl rfl rfl ?_
    | refine OT.pickF rfl rfl rfl rfl rfl ?_
    | refine OT.lenS rfl rfl rfl u27 rfl ?_
    | refine OT.lenN rfl rfl rfl u27 rfl ?_
    | refine OT.lenT rfl rfl rfl u9 rfl ?_
    | refine OT.extract rfl rfl rfl rfl rfl ?_
    | refine OT.not rfl rfl rfl rfl ?_
    | refine OT.call1 he3 rfl rfl rfl hF19 rfl ?_
    | refine OT.call1 he6 rfl rfl rfl hF28 rfl ?_
    | refine OT.bin rfl rfl rfl rfl (eqB _ _) rfl ?_
    | refine OT.bin rfl rfl rfl rfl (aBin_eqTT ho3.symm) rfl ?_
    | refine OT.cmpT rfl rfl rfl rfl rfl (by first | (simp only [cmpP]; done) | (simp only [cmpP]; omega)) rfl ?_
    | refine OT.cmpF rfl rfl rfl rfl rfl (by first | (simp only [cmpP]; done) | (simp only [cmpP]; omega)) rfl ?_
    | refine OT.add rfl rfl rfl rfl (by first | exact IntWalk.i64_in _ (by omega) | exact IntWalk.u8_in _ (by omega)) rfl ?_
    | refine OT.sub rfl rfl rfl rfl (by first | exact IntWalk.i64_in _ (by omega) | exact IntWalk.u8_in _ (by omega)) rfl ?_
    | refine OT.mul rfl rfl rfl rfl (by first | exact IntWalk.i64_in _ (by omega) | exact IntWalk.u8_in _ (by omega)) rfl ?_
    | refine OT.quo rfl rfl rfl rfl (by omega) (by omega) (by first | exact IntWalk.i64_in _ (by omega) | exact IntWalk.u8_in _ (by omega)) rfl ?_
    | refine OT.rem rfl rfl rfl rfl (by omega) (by omega) rfl ?_
    | refine OT.nil ?_
    | refine Tr.region cx ?_
    | refine Tr.draw cx [] noEv (Valid.none _) (by decide +kernel) ?_
    | refine Tr.cond_true cx rfl ?_
    | refine Tr.cond_false cx rfl ?_
    | refine Tr.seq cx ?_
    | refine Tr.block cx ?_
    | refine Tr.ret cx ?_
    | refine Tr.skip cx ?_
    | refine Tr.exit cx ?_)
          exact ⟨_, _, rfl, rfl, rfl⟩
      · have hd : ¬ isDig c := fun h => by
          obtain ⟨out, ho⟩ := (other_hex hi).2 h
          exact hbad3 out (hoth.trans ho)
        unfold isDig at hd
        have h3 : (c.toNat : Int) < 48 ∨ (57 < (c.toNat : Int) ∧ (c.toNat : Int) < 97) ∨ 102 < (c.toNat : Int) := by omega
        rcases h3 with d1 | ⟨d1, d2⟩ | d1
        · repeat (first
    | refine OT.move rfl rfl rfl rfl ?_
    | refine OT.assign rfl rfl rfl rfl ?_
    | refine OT.un rfl rfl rfl ?_
    | refine OT.pickT rfl rfl rfl rfl rfl ?_
    | refine OT.pickF rfl rfl rfl rfl rfl ?_
    | refine OT.lenS rfl rfl rfl u27 rfl ?_
    | refine OT.lenN rfl rfl rfl u27 rfl ?_
    | refine OT.lenT rfl rfl rfl u9 rfl ?_
    | refine OT.extract rfl rfl rfl rfl rfl ?_
    | refine OT.not rfl rfl rfl rfl ?_
    | refine OT.call1 he3 rfl rfl rfl hF19 rfl ?_
    | refine OT.bin rfl rfl rfl rfl (eqB _ _) rfl ?_
    | refine OT.cmpT rfl rfl rfl rfl rfl (by first | (simp only [cmpP]; done) | (simp only [cmpP]; omega)) rfl ?_
    | refine OT.cmpF rfl rfl rfl rfl rfl (by first | (simp only [cmpP]; done) | (simp only [cmpP]; omega)) rfl ?_
    | refine OT.add rfl rfl rfl rfl (by first | exact IntWalk.i64_in _ (by omega) | exact IntWalk.u8_in _ (by omega)) rfl ?_
    | refine OT.sub rfl rfl rfl rfl (by first | exact IntWalk.i64_in _ (by omega) | exact IntWalk.u8_in _ (by omega)) rfl ?_
    | refine OT.mul rfl rfl rfl rfl (by first | exact IntWalk.i64_in _ (by omega) | exact IntWalk.u8_in _ (by omega)) rfl ?_
    | refine OT.quo rfl rfl rfl rfl (by omega) (by omega) (by first | exact IntWalk.i64_in _ (by omega) | exact IntWalk.u8_in _ (by omega)) rfl ?_
    | refine OT.rem rfl rfl rfl rfl (by omega) (by omega) rfl ?_
    | refine OT.nil ?_
    | refine Tr.region cx ?_
    | refine Tr.draw cx [] noEv (Valid.none _) (by decide +kernel) ?_
    | refine Tr.cond_true cx rfl ?_
    | refine Tr.cond_false cx rfl ?_
    | refine Tr.seq cx ?_
    | refine Tr.block cx ?_
    | refine Tr.ret cx ?_
    | refine Tr.skip cx ?_
    | refine Tr.exit cx ?_)
          exact ⟨_, _, rfl, rfl, rfl⟩
        · repeat (first
    | refine OT.move rfl rfl rfl rfl ?_
    | refine OT.assign rfl rfl rfl rfl ?_
    | refine OT.un rfl rfl rfl ?_
    | refine OT.pickT rfl rfl rfl rfl rfl ?_
    | refine OT.pickF rfl rfl rfl rfl rfl ?_
    | refine OT.lenS rfl rfl rfl u27 rfl ?_
    | refine OT.lenN rfl rfl rfl u27 rfl ?_
    | refine OT.lenT rfl rfl rfl u9 rfl ?_
    | refine OT.extract rfl rfl rfl rfl rfl ?_
    | refine OT.not rfl rfl rfl rfl ?_
    | refine OT.call1 he3 rfl rfl rfl hF19 rfl ?_
    | refine OT.bin rfl rfl rfl rfl (eqB _ _) rfl ?_
    | refine OT.cmpT rfl rfl rfl rfl rfl (by first | (simp only [cmpP]; done) | (simp only [cmpP]; omega)) rfl ?_
    | refine OT.cmpF rfl rfl rfl rfl rfl (by first | (simp only [cmpP]; done) | (simp only [cmpP]; omega)) rfl ?_
    | refine OT.add rfl rfl rfl rfl (by first | exact IntWalk.i64_in _ (by omega) | exact IntWalk.u8_in _ (by omega)) rfl ?_
    | refine OT.sub rfl rfl rfl rfl (by first | exact IntWalk.i64_in _ (by omega) | exact IntWalk.u8_in _ (by omega)) rfl ?_
    | refine OT.mul rfl rfl rfl rfl (by first | exact IntWalk.i64_in _ (by omega) | exact IntWalk.u8_in _ (by omega)) rfl ?_
    | refine OT.quo rfl rfl rfl rfl (by omega) (by omega) (by first | exact IntWalk.i64_in _ (by omega) | exact IntWalk.u8_in _ (by omega)) rfl ?_
    | refine OT.rem rfl rfl rfl rfl (by omega) (by omega) rfl ?_
    | refine OT.nil ?_
    | refine Tr.region cx ?_
    | refine Tr.draw cx [] noEv (Valid.none _) (by decide +kernel) ?_
    | refine Tr.cond_true cx rfl ?_
    | refine Tr.cond_false cx rfl ?_
    | refine Tr.seq cx ?_
    | refine Tr.block cx ?_
    | refine Tr.ret cx ?_
    | refine Tr.skip cx ?_
    | refine Tr.exit cx ?_)
          exact ⟨_, _, rfl, rfl, rfl⟩
        · repeat (first
    | refine OT.move rfl rfl rfl rfl ?_
    | refine OT.assign rfl rfl rfl rfl ?_
    | refine OT.un rfl rfl rfl ?_
    | refine OT.pickT rfl rfl rfl rfl rfl ?_
    | refine OT.pickF rfl rfl rfl rfl rfl ?_
    | refine OT.lenS rfl rfl rfl u27 rfl ?_
    | refine OT.lenN rfl rfl rfl u27 rfl ?_
    | refine OT.lenT rfl rfl rfl u9 rfl ?_
    | refine OT.extract rfl rfl rfl rfl rfl ?_
    | refine OT.not rfl rfl rfl rfl ?_
    | refine OT.call1 he3 rfl rfl rfl hF19 rfl ?_
    | refine OT.bin rfl rfl rfl rfl (eqB _ _) rfl ?_
    | refine OT.cmpT rfl rfl rfl rfl rfl (by first | (simp only [cmpP]; done) | (simp only [cmpP]; omega)) rfl ?_
    | refine OT.cmpF rfl rfl rfl rfl rfl (by first | (simp only [cmpP]; done) | (simp only [cmpP]; omega)) rfl ?_
    | refine OT.add rfl rfl rfl rfl (by first | exact IntWalk.i64_in _ (by omega) | exact IntWalk.u8_in _ (by omega)) rfl ?_
    | refine OT.sub rfl rfl rfl rfl (by first | exact IntWalk.i64_in _ (by omega) | exact IntWalk.u8_in _ (by omega)) rfl ?_
    | refine OT.mul rfl rfl rfl rfl (by first | exact IntWalk.i64_in _ (by omega) | exact IntWalk.u8_in _ (by omega)) rfl ?_
    | refine OT.quo rfl rfl rfl rfl (by omega) (by omega) (by first | exact IntWalk.i64_in _ (by omega) | exact IntWalk.u8_in _ (by omega)) rfl ?_
    | refine OT.rem rfl rfl rfl rfl (by omega) (by omega) rfl ?_
    | refine OT.nil ?_
    | refine Tr.region cx ?_
    | refine Tr.draw cx [] noEv (Valid.none _) (by decide +kernel) ?_
    | refine Tr.cond_true cx rfl ?_
    | refine Tr.cond_false cx rfl ?_
    | refine Tr.seq cx ?_
    | refine Tr.block cx ?_
    | refine Tr.ret cx ?_
    | refine Tr.skip cx ?_
    | refine Tr.exit cx ?_)
          exact ⟨_, _, rfl, rfl, rfl⟩
  exact hex
end Go.Proofs.Ytpfenodmchhglaa
