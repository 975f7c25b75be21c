/-
  A part of the proof: what a piece of the program gives; conditions: those of each theorem.
-/
import Derived.Test.YtljpjeipgdeioaaDoorL11
import Derived.Test.YtljpjeipgdeioaaDoorA41
set_option linter.unusedVariables false
namespace Go.Proofs.YtljpjeipgdeioaaDoor
open Ax
set_option maxHeartbeats 16000000
theorem xorW_toNat (a b : Int) : xorW .u32 a b = (((BitVec.ofInt 32 a) ^^^ (BitVec.ofInt 32 b)).toNat : Int) := by
  unfold xorW
  rw [u32_wrap]
  have := ((BitVec.ofInt 32 a) ^^^ (BitVec.ofInt 32 b)).isLt
  show ((((BitVec.ofInt 32 a) ^^^ (BitVec.ofInt 32 b)).toNat : Nat) : Int) % 4294967296 = _
  omega
theorem xor_range (a b : Int) : 0 ≤ xorW .u32 a b ∧ xorW .u32 a b < 4294967296 := by
  rw [xorW_toNat]
  have := ((BitVec.ofInt 32 a) ^^^ (BitVec.ofInt 32 b)).isLt
  omega
theorem xor_ne {a b : Int} (h0 : 0 ≤ a) (h1 : a < 4294967296) (b0 : 0 < b) (b1 : b < 4294967296) : xorW .u32 a b ≠ a := by
  intro h
  rw [xorW_toNat] at h
  have e : ((BitVec.ofInt 32 a) ^^^ (BitVec.ofInt 32 b)) = BitVec.ofInt 32 a := by
    apply BitVec.eq_of_toNat_eq
    obtain ⟨a, rfl⟩ : ∃ x : Nat, a = x := ⟨a.toNat, by omega⟩
    have : (BitVec.ofInt 32 (a : Int)).toNat = a := ofInt_toNat (by omega)
    omega
  have e2 : BitVec.ofInt 32 b = 0#32 := by
    have : BitVec.ofInt 32 a ^^^ (BitVec.ofInt 32 a ^^^ BitVec.ofInt 32 b) = BitVec.ofInt 32 a ^^^ BitVec.ofInt 32 a := congrArg (BitVec.ofInt 32 a ^^^ ·) e
    rw [← BitVec.xor_assoc, BitVec.xor_self, BitVec.zero_xor] at this
    exact this
  obtain ⟨b, rfl⟩ : ∃ x : Nat, b = x := ⟨b.toNat, by omega⟩
  have : (BitVec.ofInt 32 (b : Int)).toNat = b := ofInt_toNat (by omega)
  rw [e2] at this
  simp at this
  omega
theorem bit_range {k : Int} (h0 : 0 ≤ k) (h1 : k < 32) : 0 < IntKind.u32.wrap (1 * 2 ^ k.toNat) ∧ IntKind.u32.wrap (1 * 2 ^ k.toNat) < 4294967296 := by
  rw [u32_wrap]
  obtain ⟨n, rfl⟩ : ∃ x : Nat, k = x := ⟨k.toNat, by omega⟩
  have hn : n < 32 := by omega
  have : (2 : Int) ^ (n : Int).toNat = ((2 ^ n : Nat) : Int) := by simp
  rw [this]
  have h2 : 0 < 2 ^ n := Nat.two_pow_pos n
  have h3 : 2 ^ n < 2 ^ 32 := Nat.pow_lt_pow_right (by decide) hn
  omega
theorem word_facts {u at_ : Int} (h0 : 0 ≤ u) (h1 : u < 4294967296) (p0 : 0 ≤ at_) (p1 : at_ ≤ 65536) (p2 : at_ % 4 = 0) : ∃ o a b c n, (∀ {H}, Lay G H → EvS Tryd.prog (.call 13 #[.int .u32 u, .int .i64 at_] H) (.value (inst o a b c n) H)) ∧
    (∀ {H}, Lay G H → EvS Tryd.prog (.call 14 #[inst o a b c n, .int .i64 at_] H) (.value (.tuple #[.int .u32 u, .int .i64 0]) H)) ∧ (∀ {H}, Lay G H → EvS Tryd.prog (.call 15 #[inst o a b c n] H) (.value (.bool true) H)) ∧
    ∀ k : Int, 0 ≤ k → k < 32 → ∃ D : I5, D ≠ ⟨o, a, b, c, n⟩ ∧ ∀ {H}, Lay G H → EvS Tryd.prog (.call 13 #[.int .u32 (xorW .u32 u (IntKind.u32.wrap (1 * 2 ^ k.toNat))), .int .i64 at_] H) (.value D.val H) := by
  have hD : ∀ {H}, Lay G H → EvS Tryd.prog (.call 13 #[.int .u32 u, .int .i64 at_] H) (.value (decI u at_).val H) := fun hL => dec_ev h0 h1 ⟨p0, by omega⟩ hL
  have hy := ok_dec h0 h1 at_
  have hform := form_dec h0 h1 at_
  have hinj : ∀ w', 0 ≤ w' → w' < 4294967296 → w' ≠ u → decI w' at_ ≠ decI u at_ := fun w' a b hne h => hne (dec_inj a b h0 h1 h)
  generalize decI u at_ = y at hD hy hform hinj
  obtain ⟨o, a, b, c, n⟩ := y
  have hq := enc_iff.2 hy
  have hf : I5.Fits ⟨o, a, b, c, n⟩ := (hy.small ⟨p0, by omega⟩).fits
  refine ⟨o, a, b, c, n, hD, ?_, ?_, ?_⟩
  · intro H hL
    have := encode_ev hf ⟨p0, by omega⟩ hL (at_ := at_)
    rwa [encV_T hq, asm_form hy, hform] at this
  · intro H hL
    have := valid_ev hf hL
    rwa [valid_of ⟨p0, p1⟩ p2 hq] at this
  · intro k k0 k1
    have hb := bit_range k0 k1
    have hr := xor_range u (IntKind.u32.wrap (1 * 2 ^ k.toNat))
    exact ⟨_, hinj _ hr.1 hr.2 (xor_ne h0 h1 hb.1 hb.2), fun hL => dec_ev hr.1 hr.2 ⟨p0, by omega⟩ hL⟩
end Go.Proofs.YtljpjeipgdeioaaDoor
