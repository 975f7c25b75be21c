/-
  A part of the proof: what the run over an abstract memory gives; conditions: those of each theorem.
-/
import Derived.Test.YtpfenodmchhglaaT16
namespace Go.Proofs.Ytpfenodmchhglaa
open Ax
theorem hex_of : ∀ (m : Nat) (l : List UInt8), l.length = 2 * m → (∀ c ∈ l, ∃ n, hv (c.toNat : Int) = some n) → ∃ out, l = hexL out
  | 0, l, h, _ => ⟨[], List.eq_nil_of_length_eq_zero (by omega)⟩
  | m + 1, [], h, _ => by simp at h
  | m + 1, [a], h, _ => by simp at h; omega
  | m + 1, a :: b :: l, h, k => by
    obtain ⟨out, ho⟩ := hex_of m l (by simp at h; omega) fun c hc => k c (by simp [hc])
    obtain ⟨x, hx⟩ := k a (by simp)
    obtain ⟨y, hy⟩ := k b (by simp)
    obtain ⟨p0, p1, p2⟩ := hv_some hx
    obtain ⟨q0, q1, q2⟩ := hv_some hy
    obtain ⟨b0, hb0⟩ : ∃ b : UInt8, x * 16 + y = (b.toNat : Int) := ⟨UInt8.ofNat (x * 16 + y).toNat, by rw [UInt8.toNat_ofNat']; omega⟩
    refine ⟨b0 :: out, ?_⟩
    simp only [hexL, List.flatMap_cons]
    rw [show b0.toNat / 16 = x.toNat by omega, show b0.toNat % 16 = y.toNat by omega, p2, q2]
    rw [show out.flatMap (fun c => [dig (c.toNat / 16), dig (c.toNat % 16)]) = l from ho.symm]
    rfl
theorem hexL_inj : ∀ {a b : List UInt8}, hexL a = hexL b → a = b
  | [], [], _ => rfl
  | [], _ :: _, h => by simp [hexL] at h
  | _ :: _, [], h => by simp [hexL] at h
  | x :: a, y :: b, h => by
    simp only [hexL, List.flatMap_cons, List.cons_append, List.nil_append, List.cons.injEq] at h
    obtain ⟨h1, h2, h3⟩ := h
    have hx := x.toNat_lt
    have hy := y.toNat_lt
    have e1 := hv_dig (x.toNat / 16) (by omega)
    have e2 := hv_dig (x.toNat % 16) (by omega)
    rw [h1, hv_dig _ (by omega)] at e1
    rw [h2, hv_dig _ (by omega)] at e2
    simp only [Option.some.injEq] at e1 e2
    rw [hexL_inj h3, show x = y from UInt8.toNat_inj.1 (by omega)]
def isDig (c : UInt8) : Prop := 48 ≤ (c.toNat : Int) ∧ (c.toNat : Int) ≤ 57 ∨ 97 ≤ (c.toNat : Int) ∧ (c.toNat : Int) ≤ 102
theorem hv_isDig (c : UInt8) : (∃ n, hv (c.toNat : Int) = some n) ↔ isDig c := by
  unfold hv isDig
  constructor
  · rintro ⟨n, h⟩
    split at h
    · exact .inl ‹_›
    · split at h
      · exact .inr ‹_›
      · cases h
  · intro h
    by_cases h1 : 48 ≤ (c.toNat : Int) ∧ (c.toNat : Int) ≤ 57
    · exact ⟨_, if_pos h1⟩
    · rw [if_neg h1]
      rcases h with h | h
      · exact absurd h h1
      · exact ⟨_, if_pos h⟩
/-- One sign replaced. -/
theorem other_hex {bs : List UInt8} {i : Nat} {c : UInt8} (hi : i < (hexL bs).length) : (∃ out, (hexL bs).take i ++ [c] ++ (hexL bs).drop (i + 1) = hexL out) ↔ isDig c := by
  rw [← hv_isDig]
  constructor
  · rintro ⟨out, h⟩
    exact hexL_hv (l := out) c (by rw [← h]; simp)
  · rintro hc
    refine hex_of bs.length _ ?_ ?_
    · have := hexL_length bs
      simp only [List.length_append, List.length_take, List.length_drop, List.length_cons, List.length_nil]; omega
    · intro x hx
      simp only [List.mem_append, List.mem_singleton] at hx
      rcases hx with (hx | rfl) | hx
      · exact hexL_hv x (List.mem_of_mem_take hx)
      · exact hc
      · exact hexL_hv x (List.mem_of_mem_drop hx)
theorem eqB (a b : Bool) : aBin Try.prog .eql 4 (.tmp 97) (.tmp 98) (.bool a) (.bool b) = some (.bool (a == b)) := by
  cases a <;> cases b <;> kernel_rfl
theorem u5 : pureRun Try.prog (underlying 5) = some (.int .u8) := by kernel_rfl
theorem u3 : pureRun Try.prog (underlying 3) = some (.int .i64) := by kernel_rfl
end Go.Proofs.Ytpfenodmchhglaa
