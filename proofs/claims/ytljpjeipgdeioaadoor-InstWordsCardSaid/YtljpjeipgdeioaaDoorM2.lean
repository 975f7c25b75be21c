/-
  A part of the proof: what a piece of the program gives; conditions: those of each theorem.
-/
import Derived.Test.YtljpjeipgdeioaaDoorM1
set_option linter.unusedVariables false
namespace Go.Proofs.YtljpjeipgdeioaaDoor
open Ax
theorem orW_toNat (a b : Int) : orW .u32 a b = (((BitVec.ofInt 32 a) ||| (BitVec.ofInt 32 b)).toNat : Int) := by
  unfold orW
  rw [u32_wrap]
  have := ((BitVec.ofInt 32 a) ||| (BitVec.ofInt 32 b)).isLt
  show ((((BitVec.ofInt 32 a) ||| (BitVec.ofInt 32 b)).toNat : Nat) : Int) % 4294967296 = _
  omega
theorem orW_assoc (a b c : Int) : orW .u32 (orW .u32 a b) c = orW .u32 a (orW .u32 b c) := by
  rw [orW_toNat (orW .u32 a b), orW_toNat a (orW .u32 b c), orW_toNat a b, orW_toNat b c]
  have h : ∀ x : BitVec 32, BitVec.ofInt 32 (x.toNat : Int) = x := fun x => by
    rw [BitVec.ofInt_natCast, BitVec.ofNat_toNat, BitVec.setWidth_eq]
  rw [h, h, BitVec.or_assoc]
theorem asm_eq (x : I5) (at_ : Int) : asm x at_ = orW .u32 (asmL x.o x.n at_) (orW .u32 (x.o * 16777216) (orW .u32 (x.a % 256 * 65536) (orW .u32 (x.b % 256 * 256) (x.c % 256)))) := by
  unfold asm; rw [orW_assoc, orW_assoc, orW_assoc]
theorem or00 : orW .u32 0 0 = 0 := or0 (by decide) (by decide)
theorem asmN_at {o d at_ : Int} (ho : 5 ≤ o) (hd : -16777216 ≤ d ∧ d ≤ 16777216) : asmN o (at_ + 4 * d) at_ = d := by
  unfold asmN
  rw [if_pos ho, show at_ + 4 * d - at_ = 4 * d by omega, IntWalk.i64_in _ (by omega), Int.mul_tdiv_cancel_left _ (by decide)]
/-- The word of an instruction. -/
def form (x : I5) (at_ : Int) : Int :=
  if x.o = 0 then x.n
  else if x.o = 1 ∨ x.o = 3 ∨ x.o = 4 then x.o * 16777216 + (x.a * 65536 + (x.b * 256 + x.c))
  else if x.o = 2 then x.n + (2 * 16777216 + x.a * 65536)
  else if x.o = 5 ∨ x.o = 6 then (x.n - at_) / 4 % 16777216 + x.o * 16777216
  else (x.n - at_) / 4 % 65536 + (x.o * 16777216 + x.a * 65536)
theorem asm_form {x : I5} {at_ : Int} (h : OkI at_ x) : asm x at_ = form x at_ := by
  rw [asm_eq]
  cases h with
  | @data n h0 h1 h =>
    simp only [asmL, asmN, form]
    rw [show (0 : Int) * 16777216 = 0 from rfl, show (0 : Int) % 256 * 65536 = 0 from rfl, show (0 : Int) % 256 * 256 = 0 from rfl, show (0 : Int) % 256 = 0 from rfl, or00, or00, or00]
    simp only [if_true, show ¬ (5 : Int) ≤ 0 by decide, if_false]
    rw [Int.emod_eq_of_lt h0 h1, or0 h0 h1]
  | @regs o a b c ho ha hb hc =>
    have hl : asmL o 0 at_ = 0 := by
      unfold asmL asmN; simp only
      rw [if_neg (by omega), if_neg (by omega), if_neg (by omega)]
    simp only [hl, form]
    rw [if_neg (by omega), if_pos ho, show a % 256 = a by omega, Int.emod_eq_of_lt (by omega : 0 ≤ b) (by omega), Int.emod_eq_of_lt (by omega : 0 ≤ c) (by omega)]
    rw [orA 8 (a := b * 256) (by omega) (by omega) (by omega) (by omega) (by omega)]
    rw [orA 16 (a := a * 65536) (by omega) (by omega) (by omega) (by omega) (by omega)]
    rw [orA 24 (a := o * 16777216) (by omega) (by omega) (by omega) (by omega) (by omega)]
    rw [orW_comm, or0 (by omega) (by omega)]
  | @set a n ha hn =>
    have hl : asmL 2 n at_ = n := by
      have hN : asmN 2 n at_ = n := if_neg (by decide)
      unfold asmL; simp only [hN]
      rw [if_neg (by decide), if_neg (by decide), if_pos (by decide)]; omega
    simp only [hl, form]
    rw [if_neg (by omega), if_neg (by omega), if_pos trivial, show a % 256 = a by omega]
    rw [show (0 : Int) % 256 * 256 = 0 from rfl, show (0 : Int) % 256 = 0 from rfl, or00, or0 (a := a * 65536) (by omega) (by omega)]
    rw [orA 24 (a := 2 * 16777216) (b := a * 65536) (by decide) (by omega) (by decide) (by omega) (by omega)]
    rw [orB 16 (b := 2 * 16777216 + a * 65536) (by omega) (by omega) (by omega) (by omega) (by omega)]
  | @jump o d ho hd =>
    have hl : asmL o (at_ + 4 * d) at_ = d % 16777216 := by
      unfold asmL; simp only
      rw [asmN_at (by omega) (by omega), if_neg (by omega), if_pos ho]; omega
    simp only [hl, form]
    rw [if_neg (by omega), if_neg (by omega), if_neg (by omega), if_pos ho, show (at_ + 4 * d - at_) / 4 = d by omega]
    rw [show (0 : Int) % 256 * 65536 = 0 from rfl, show (0 : Int) % 256 * 256 = 0 from rfl, show (0 : Int) % 256 = 0 from rfl, or00, or00, or0 (a := o * 16777216) (by omega) (by omega)]
    rw [orB 24 (b := o * 16777216) (by omega) (by omega) (by omega) (by omega) (by omega)]
  | @branch a d ha hd =>
    have hl : asmL 7 (at_ + 4 * d) at_ = d % 65536 := by
      unfold asmL; simp only
      rw [asmN_at (by omega) (by omega), if_neg (by decide), if_neg (by decide), if_pos (by decide)]; omega
    simp only [hl, form]
    rw [if_neg (by omega), if_neg (by omega), if_neg (by omega), if_neg (by omega), show (at_ + 4 * d - at_) / 4 = d by omega, show a % 256 = a by omega]
    rw [show (0 : Int) % 256 * 256 = 0 from rfl, show (0 : Int) % 256 = 0 from rfl, or00, or0 (a := a * 65536) (by omega) (by omega)]
    rw [orA 24 (a := 7 * 16777216) (b := a * 65536) (by decide) (by omega) (by decide) (by omega) (by omega)]
    rw [orB 16 (b := 7 * 16777216 + a * 65536) (by omega) (by omega) (by omega) (by omega) (by omega)]
  | @pool a d ha hd =>
    have hl : asmL 8 (at_ + 4 * d) at_ = d % 65536 := by
      unfold asmL; simp only
      rw [asmN_at (by omega) (by omega), if_neg (by decide), if_neg (by decide), if_pos (by decide)]; omega
    simp only [hl, form]
    rw [if_neg (by omega), if_neg (by omega), if_neg (by omega), if_neg (by omega), show (at_ + 4 * d - at_) / 4 = d by omega, show a % 256 = a by omega]
    rw [show (0 : Int) % 256 * 256 = 0 from rfl, show (0 : Int) % 256 = 0 from rfl, or00, or0 (a := a * 65536) (by omega) (by omega)]
    rw [orA 24 (a := 8 * 16777216) (b := a * 65536) (by decide) (by omega) (by decide) (by omega) (by omega)]
    rw [orB 16 (b := 8 * 16777216 + a * 65536) (by omega) (by omega) (by omega) (by omega) (by omega)]
theorem dec_at {w b0 b1 b2 b3 at_ : Int} (h0 : w / 16777216 % 256 = b0) (h1 : w / 65536 % 256 = b1) (h2 : w / 256 % 256 = b2) (h3 : w % 256 = b3) : decI w at_ = decO (opS b0 b1 b2 b3) w b1 b2 b3 at_ := by
  unfold decI; rw [h0, h1, h2, h3]
theorem dec_form {x : I5} {at_ : Int} (h : OkI at_ x) : decI (form x at_) at_ = x := by
  cases h with
  | @data n h0 h1 h =>
    simp only [form, if_true]
    unfold decI
    rw [h]
    rfl
  | @regs o a b c ho ha hb hc =>
    simp only [form]
    rw [if_neg (by omega), if_pos ho]
    rw [dec_at (b0 := o) (b1 := a) (b2 := b) (b3 := c) (by omega) (by omega) (by omega) (by omega)]
    rw [show opS o a b c = o by unfold opS; rw [if_neg (by omega), if_pos ho, if_pos ⟨ha.2, hb.2, hc.2⟩]]
    unfold decO
    rw [if_neg (by omega), if_pos ho]
  | @set a n ha hn =>
    simp only [form]
    rw [if_neg (by omega), if_neg (by omega), if_pos trivial]
    rw [dec_at (b0 := 2) (b1 := a) (b2 := n / 256 % 256) (b3 := n % 256) (by omega) (by omega) (by omega) (by omega)]
    rw [show opS 2 a (n / 256 % 256) (n % 256) = 2 by unfold opS; rw [if_neg (by omega), if_neg (by omega), if_pos (by omega), if_pos ha.2]]
    unfold decO
    rw [if_neg (by omega), if_neg (by omega), if_pos rfl, show (n + (2 * 16777216 + a * 65536)) % 65536 = n by omega]
  | @jump o d ho hd =>
    simp only [form]
    rw [if_neg (by omega), if_neg (by omega), if_neg (by omega), if_pos ho, show (at_ + 4 * d - at_) / 4 = d by omega]
    rw [dec_at (b0 := o) (b1 := d / 65536 % 256) (b2 := d / 256 % 256) (b3 := d % 256) (by omega) (by omega) (by omega) (by omega)]
    rw [show opS o (d / 65536 % 256) (d / 256 % 256) (d % 256) = o by unfold opS; rw [if_neg (by omega), if_neg (by omega), if_neg (by omega)]]
    unfold decO
    rw [if_neg (by omega), if_neg (by omega), if_neg (by omega), if_pos ho, show (d % 16777216 + o * 16777216) % 16777216 = d % 16777216 by omega]
    rw [show sgn (d % 16777216) 16777216 = d by unfold sgn; split <;> omega]
  | @branch a d ha hd =>
    simp only [form]
    rw [if_neg (by omega), if_neg (by omega), if_neg (by omega), if_neg (by omega), show (at_ + 4 * d - at_) / 4 = d by omega]
    rw [dec_at (b0 := 7) (b1 := a) (b2 := d / 256 % 256) (b3 := d % 256) (by omega) (by omega) (by omega) (by omega)]
    rw [show opS 7 a (d / 256 % 256) (d % 256) = 7 by unfold opS; rw [if_neg (by omega), if_neg (by omega), if_pos (by omega), if_pos ha.2]]
    unfold decO
    rw [if_neg (by omega), if_neg (by omega), if_neg (by omega), if_neg (by omega), if_pos rfl, show (d % 65536 + (7 * 16777216 + a * 65536)) % 65536 = d % 65536 by omega]
    rw [show sgn (d % 65536) 65536 = d by unfold sgn; split <;> omega]
  | @pool a d ha hd =>
    simp only [form]
    rw [if_neg (by omega), if_neg (by omega), if_neg (by omega), if_neg (by omega), show (at_ + 4 * d - at_) / 4 = d by omega]
    rw [dec_at (b0 := 8) (b1 := a) (b2 := d / 256 % 256) (b3 := d % 256) (by omega) (by omega) (by omega) (by omega)]
    rw [show opS 8 a (d / 256 % 256) (d % 256) = 8 by unfold opS; rw [if_neg (by omega), if_neg (by omega), if_pos (by omega), if_pos ha.2]]
    unfold decO
    rw [if_neg (by omega), if_neg (by omega), if_neg (by omega), if_neg (by omega), if_neg (by omega), show (d % 65536 + (8 * 16777216 + a * 65536)) % 65536 = d % 65536 by omega]
    rw [show d % 65536 = d by omega]
end Go.Proofs.YtljpjeipgdeioaaDoor
