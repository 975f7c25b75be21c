/-
  A part of the proof: what a piece of the program gives; conditions: those of each theorem.
-/
import Derived.Test.YtljpjeipgdeioaaDoorM2
set_option linter.unusedVariables false
namespace Go.Proofs.YtljpjeipgdeioaaDoor
open Ax
theorem OkI.o_range {x : I5} {at_ : Int} (h : OkI at_ x) : 0 ≤ x.o ∧ x.o ≤ 8 := by
  cases h <;> simp only <;> omega
theorem enc_iff {x : I5} {at_ : Int} : encOK x at_ ↔ OkI at_ x := by
  constructor
  · rintro ⟨_, _, h⟩
    have hr := asm_range x at_
    rw [← h]
    exact ok_dec hr.1 hr.2 at_
  · intro h
    exact ⟨h.o_range.1, h.o_range.2, by rw [asm_form h, dec_form h]⟩
/-- A word is the word of what it is. -/
theorem form_dec {w : Int} (h0 : 0 ≤ w) (h1 : w < 4294967296) (at_ : Int) : form (decI w at_) at_ = w := by
  have hw := wd w h0 h1
  unfold decI
  generalize w / 16777216 % 256 = b0 at hw
  generalize w / 65536 % 256 = b1 at hw
  generalize w / 256 % 256 = b2 at hw
  generalize w % 256 = b3 at hw
  have hc := opC (b1 := b1) (b2 := b2) (b3 := b3) hw.h0.1
  obtain ⟨e, r0, r1, r2, r3⟩ := hw
  generalize opS b0 b1 b2 b3 = o at hc
  cases hc with
  | data h => rfl
  | regs ho e0 x1 x2 x3 =>
    have : decO o w b1 b2 b3 at_ = ⟨o, b1, b2, b3, 0⟩ := by unfold decO; rw [if_neg (by omega), if_pos ho]
    rw [this]
    simp only [form]
    rw [if_neg (by omega), if_pos ho]; omega
  | set e0 x1 =>
    have : decO 2 w b1 b2 b3 at_ = ⟨2, b1, 0, 0, w % 65536⟩ := rfl
    rw [this]
    simp only [form]
    rw [if_neg (by decide), if_neg (by decide), if_pos trivial]; omega
  | jump ho e0 =>
    have : decO o w b1 b2 b3 at_ = ⟨o, 0, 0, 0, at_ + 4 * sgn (w % 16777216) 16777216⟩ := by unfold decO; rw [if_neg (by omega), if_neg (by omega), if_neg (by omega), if_pos ho]
    rw [this]
    simp only [form]
    rw [if_neg (by omega), if_neg (by omega), if_neg (by omega), if_pos ho]
    unfold sgn; split <;> omega
  | branch e0 x1 =>
    have : decO 7 w b1 b2 b3 at_ = ⟨7, b1, 0, 0, at_ + 4 * sgn (w % 65536) 65536⟩ := rfl
    rw [this]
    simp only [form]
    rw [if_neg (by decide), if_neg (by decide), if_neg (by decide), if_neg (by decide)]
    unfold sgn; split <;> omega
  | pool e0 x1 =>
    have : decO 8 w b1 b2 b3 at_ = ⟨8, b1, 0, 0, at_ + 4 * (w % 65536)⟩ := rfl
    rw [this]
    simp only [form]
    rw [if_neg (by decide), if_neg (by decide), if_neg (by decide), if_neg (by decide)]
    omega
theorem dec_inj {w w' at_ : Int} (h0 : 0 ≤ w) (h1 : w < 4294967296) (h0' : 0 ≤ w') (h1' : w' < 4294967296) (h : decI w at_ = decI w' at_) : w = w' := by
  rw [← form_dec h0 h1 at_, h, form_dec h0' h1' at_]
theorem near_mod (n : Int) : near n % 4 = 0 := by unfold near; omega
/-- What can be encoded somewhere can be encoded near its target. -/
theorem ok_near {x : I5} {at_ : Int} (ha : 0 ≤ at_ ∧ at_ ≤ 65536) (hm : at_ % 4 = 0) (h : OkI at_ x) : OkI (near x.n) x := by
  cases h with
  | data h0 h1 h => exact .data h0 h1 h
  | regs ho ha hb hc => exact .regs ho ha hb hc
  | set ha hn => exact .set ha hn
  | @jump o d ho hd =>
    simp only
    have := OkI.jump (at_ := near (at_ + 4 * d)) (o := o) (d := (at_ + 4 * d - near (at_ + 4 * d)) / 4) ho (by unfold near; omega)
    rwa [show near (at_ + 4 * d) + 4 * ((at_ + 4 * d - near (at_ + 4 * d)) / 4) = at_ + 4 * d by have := near_mod (at_ + 4 * d); omega] at this
  | @branch a d hq hd =>
    simp only
    have := OkI.branch (at_ := near (at_ + 4 * d)) (a := a) (d := (at_ + 4 * d - near (at_ + 4 * d)) / 4) hq (by unfold near; omega)
    rwa [show near (at_ + 4 * d) + 4 * ((at_ + 4 * d - near (at_ + 4 * d)) / 4) = at_ + 4 * d by have := near_mod (at_ + 4 * d); omega] at this
  | @pool a d hq hd =>
    simp only
    have := OkI.pool (at_ := near (at_ + 4 * d)) (a := a) (d := (at_ + 4 * d - near (at_ + 4 * d)) / 4) hq (by unfold near; omega)
    rwa [show near (at_ + 4 * d) + 4 * ((at_ + 4 * d - near (at_ + 4 * d)) / 4) = at_ + 4 * d by have := near_mod (at_ + 4 * d); omega] at this
theorem valid_of {x : I5} {at_ : Int} (ha : 0 ≤ at_ ∧ at_ ≤ 65536) (hm : at_ % 4 = 0) (h : encOK x at_) : validS x = true := by
  unfold validS
  exact decide_eq_true (enc_iff.2 (ok_near ha hm (enc_iff.1 h)))
theorem I5.Fits.mk' {x : I5} (ho : 0 ≤ x.o ∧ x.o ≤ 70000) (ha : -70000 ≤ x.a ∧ x.a ≤ 70000) (hb : -70000 ≤ x.b ∧ x.b ≤ 70000) (hc : -70000 ≤ x.c ∧ x.c ≤ 70000) (hn : -5000000000 ≤ x.n ∧ x.n ≤ 5000000000) : x.Fits :=
  ⟨by omega, by omega, by omega, by omega, by omega⟩
structure Small (x : I5) : Prop where
  o : 0 ≤ x.o ∧ x.o ≤ 70000
  a : -70000 ≤ x.a ∧ x.a ≤ 70000
  b : -70000 ≤ x.b ∧ x.b ≤ 70000
  c : -70000 ≤ x.c ∧ x.c ≤ 70000
  n : -5000000000 ≤ x.n ∧ x.n ≤ 5000000000
theorem Small.fits {x : I5} (h : Small x) : x.Fits := .mk' h.o h.a h.b h.c h.n
theorem OkI.small {x : I5} {at_ : Int} (ha : 0 ≤ at_ ∧ at_ ≤ 65540) (h : OkI at_ x) : Small x := by
  cases h <;> refine ⟨?_, ?_, ?_, ?_, ?_⟩ <;> simp only <;> omega
end Go.Proofs.YtljpjeipgdeioaaDoor
