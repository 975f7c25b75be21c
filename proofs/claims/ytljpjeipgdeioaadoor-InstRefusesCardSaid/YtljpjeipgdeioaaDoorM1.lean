/-
  A part of the proof: what a piece of the program gives; conditions: those of each theorem.
-/
import Derived.Test.YtljpjeipgdeioaaDoorS8
set_option linter.unusedVariables false
namespace Go.Proofs.YtljpjeipgdeioaaDoor
open Ax
/-- What can be encoded at a place. -/
inductive OkI (at_ : Int) : I5 → Prop
  | data {n} (h0 : 0 ≤ n) (h1 : n < 4294967296) (h : opS (n / 16777216 % 256) (n / 65536 % 256) (n / 256 % 256) (n % 256) = 0) : OkI at_ ⟨0, 0, 0, 0, n⟩
  | regs {o a b c} (ho : o = 1 ∨ o = 3 ∨ o = 4) (ha : 0 ≤ a ∧ a ≤ 15) (hb : 0 ≤ b ∧ b ≤ 15) (hc : 0 ≤ c ∧ c ≤ 15) : OkI at_ ⟨o, a, b, c, 0⟩
  | set {a n} (ha : 0 ≤ a ∧ a ≤ 15) (hn : 0 ≤ n ∧ n < 65536) : OkI at_ ⟨2, a, 0, 0, n⟩
  | jump {o d} (ho : o = 5 ∨ o = 6) (hd : -8388608 ≤ d ∧ d < 8388608) : OkI at_ ⟨o, 0, 0, 0, at_ + 4 * d⟩
  | branch {a d} (ha : 0 ≤ a ∧ a ≤ 15) (hd : -32768 ≤ d ∧ d < 32768) : OkI at_ ⟨7, a, 0, 0, at_ + 4 * d⟩
  | pool {a d} (ha : 0 ≤ a ∧ a ≤ 15) (hd : 0 ≤ d ∧ d < 65536) : OkI at_ ⟨8, a, 0, 0, at_ + 4 * d⟩
theorem sgn24 {n : Int} (h0 : 0 ≤ n) (h1 : n < 16777216) : -8388608 ≤ sgn n 16777216 ∧ sgn n 16777216 < 8388608 := by unfold sgn; split <;> omega
theorem sgn16 {n : Int} (h0 : 0 ≤ n) (h1 : n < 65536) : -32768 ≤ sgn n 65536 ∧ sgn n 65536 < 32768 := by unfold sgn; split <;> omega
/-- Bytes by what the kind says. -/
inductive OpC (b0 b1 b2 b3 : Int) : Int → Prop
  | data (h : opS b0 b1 b2 b3 = 0) : OpC b0 b1 b2 b3 0
  | regs {o} (ho : o = 1 ∨ o = 3 ∨ o = 4) (e : b0 = o) (h1 : b1 ≤ 15) (h2 : b2 ≤ 15) (h3 : b3 ≤ 15) : OpC b0 b1 b2 b3 o
  | set (e : b0 = 2) (h1 : b1 ≤ 15) : OpC b0 b1 b2 b3 2
  | jump {o} (ho : o = 5 ∨ o = 6) (e : b0 = o) : OpC b0 b1 b2 b3 o
  | branch (e : b0 = 7) (h1 : b1 ≤ 15) : OpC b0 b1 b2 b3 7
  | pool (e : b0 = 8) (h1 : b1 ≤ 15) : OpC b0 b1 b2 b3 8
theorem opC {b0 b1 b2 b3 : Int} (h0 : 0 ≤ b0) : OpC b0 b1 b2 b3 (opS b0 b1 b2 b3) := by
  by_cases hz : opS b0 b1 b2 b3 = 0
  · rw [hz]; exact .data hz
  · by_cases h9 : 9 ≤ b0
    · exact absurd (by unfold opS; rw [if_pos h9]) hz
    · by_cases h3 : b0 = 1 ∨ b0 = 3 ∨ b0 = 4
      · by_cases hr : b1 ≤ 15 ∧ b2 ≤ 15 ∧ b3 ≤ 15
        · have : opS b0 b1 b2 b3 = b0 := by unfold opS; rw [if_neg h9, if_pos h3, if_pos hr]
          rw [this]; exact .regs h3 rfl hr.1 hr.2.1 hr.2.2
        · exact absurd (by unfold opS; rw [if_neg h9, if_pos h3, if_neg hr]) hz
      · by_cases h1 : b0 = 2 ∨ b0 = 7 ∨ b0 = 8
        · by_cases hr : b1 ≤ 15
          · have : opS b0 b1 b2 b3 = b0 := by unfold opS; rw [if_neg h9, if_neg h3, if_pos h1, if_pos hr]
            rw [this]
            rcases h1 with h1 | h1 | h1
            · rw [h1]; exact .set rfl hr
            · rw [h1]; exact .branch rfl hr
            · rw [h1]; exact .pool rfl hr
          · exact absurd (by unfold opS; rw [if_neg h9, if_neg h3, if_pos h1, if_neg hr]) hz
        · have : opS b0 b1 b2 b3 = b0 := by unfold opS; rw [if_neg h9, if_neg h3, if_neg h1]
          rw [this]; rw [this] at hz
          exact .jump (by omega) rfl
/-- What a word is, can be encoded. -/
theorem ok_dec {w : Int} (h0 : 0 ≤ w) (h1 : w < 4294967296) (at_ : Int) : OkI at_ (decI w at_) := by
  unfold decI
  have hw := wd w h0 h1
  generalize hb0 : w / 16777216 % 256 = b0 at hw
  generalize hb1 : w / 65536 % 256 = b1 at hw
  generalize hb2 : w / 256 % 256 = b2 at hw
  generalize hb3 : w % 256 = b3 at hw
  have hc := opC (b1 := b1) (b2 := b2) (b3 := b3) hw.h0.1
  have hr1 := hw.h1
  have hr2 := hw.h2
  have hr3 := hw.h3
  generalize ho : opS b0 b1 b2 b3 = o at hc
  cases hc with
  | data h =>
    refine .data h0 h1 ?_
    rw [hb0, hb1, hb2, hb3]; exact ho
  | regs ho' e x1 x2 x3 =>
    have : decO o w b1 b2 b3 at_ = ⟨o, b1, b2, b3, 0⟩ := by unfold decO; rw [if_neg (by omega), if_pos ho']
    rw [this]; exact .regs ho' ⟨hr1.1, x1⟩ ⟨hr2.1, x2⟩ ⟨hr3.1, x3⟩
  | set e x1 => exact .set ⟨hr1.1, x1⟩ ⟨Int.emod_nonneg _ (by decide), Int.emod_lt_of_pos _ (by decide)⟩
  | jump ho' e =>
    have : decO o w b1 b2 b3 at_ = ⟨o, 0, 0, 0, at_ + 4 * sgn (w % 16777216) 16777216⟩ := by unfold decO; rw [if_neg (by omega), if_neg (by omega), if_neg (by omega), if_pos ho']
    rw [this]; exact .jump ho' (sgn24 (Int.emod_nonneg _ (by decide)) (Int.emod_lt_of_pos _ (by decide)))
  | branch e x1 => exact .branch ⟨hr1.1, x1⟩ (sgn16 (Int.emod_nonneg _ (by decide)) (Int.emod_lt_of_pos _ (by decide)))
  | pool e x1 => exact .pool ⟨hr1.1, x1⟩ ⟨Int.emod_nonneg _ (by decide), Int.emod_lt_of_pos _ (by decide)⟩
theorem orA (m : Nat) {a b : Int} (h0 : 0 ≤ a) (h1 : a + b < 4294967296) (h2 : a % 2 ^ m = 0) (h3 : 0 ≤ b) (h4 : b < 2 ^ m) : orW .u32 a b = a + b :=
  orW_add m h0 (by simpa [IntKind.bits] using h1) h2 h3 h4 (IntWalk.u32_in _ (by omega))
theorem orB (m : Nat) {a b : Int} (h0 : 0 ≤ b) (h1 : a + b < 4294967296) (h2 : b % 2 ^ m = 0) (h3 : 0 ≤ a) (h4 : a < 2 ^ m) : orW .u32 a b = a + b := by
  rw [orW_comm, orA m h0 (by omega) h2 h3 h4]; omega
theorem or0 {a : Int} (h0 : 0 ≤ a) (h1 : a < 4294967296) : orW .u32 a 0 = a := by
  have := orA 0 (a := a) (b := 0) h0 (by omega) (by simp) (by omega) (by simp)
  simpa using this
end Go.Proofs.YtljpjeipgdeioaaDoor
