/-
  A part of the proof: what a piece of the program gives; conditions: those of each theorem.
-/
import Derived.Test.YtfkbegcinagkmaaDoorV1
import Derived.Test.YtfkbegcinagkmaaDoorHD
set_option linter.unusedVariables false
namespace Go.Proofs.YtfkbegcinagkmaaDoor
open Go.Px Go.Ax
theorem cx0 : CxOK Tryd.prog tt G0 [] := CxOK.nil ty mixed
theorem div_bounds {w p m : Int} (h0 : 0 ≤ w) (h1 : w < m) (hp : 0 < p) : 0 ≤ w / p ∧ w / p < m :=
  ⟨Int.ediv_nonneg h0 (by omega), Int.lt_of_le_of_lt (Int.ediv_le_self _ h0) h1⟩
def octV (w i : Int) : Int := w / 2 ^ (24 - 8 * i).toNat % 256
def preOct (w i : Int) : Prop := (0 ≤ w ∧ w < 4294967296) ∧ 0 ≤ i ∧ i < 4
def ctOctet : Ctr := ⟨[.int .u32, .int .i64], fun x => preOct x.1 x.2.1, fun x => [.int .i64 (octV x.1 x.2.1)], fun _ => []⟩
theorem octet_held : Held Tryd.prog G0 23 ctOctet := by
  refine Held.run cx0 (fn := Tryd.f23) rfl rfl ⟨by decide, by decide⟩ ?_
  rintro ⟨w, i, ⟨⟩⟩ ⟨hw, hi⟩
  simp only at hw hi
  refine (vc_octet w i _ _).mpr ?_
  rw [IntWalk.i64_in (8 * i) (by omega), IntWalk.i64_in (24 - 8 * i) (by omega)]
  have hm : min (24 - 8 * i).toNat IntKind.u32.bits = (24 - 8 * i).toNat := Nat.min_eq_left (by simp only [IntKind.bits]; omega)
  have hp : (0 : Int) < 2 ^ (24 - 8 * i).toNat := Int.pow_pos (by decide)
  rw [hm, Int.fdiv_eq_ediv_of_nonneg _ (by omega), IntKind.wrap_u8, IntWalk.i64_in (w / 2 ^ (24 - 8 * i).toNat % 256) (by omega)]
  exact ⟨by omega, QC.flat rfl rfl rfl⟩
def lowV (w b : Int) : Int := w * 2 ^ (32 - b).toNat % 4294967296 / 2 ^ (32 - b).toNat
def lowSV (w b : Int) : Int := IntKind.i32.wrap (w * 2 ^ (32 - b).toNat % 4294967296) / 2 ^ (32 - b).toNat
def preLow (w b : Int) : Prop := (0 ≤ w ∧ w < 4294967296) ∧ 0 ≤ b ∧ b ≤ 32
def ctLow : Ctr := ⟨[.int .u32, .int .i64], fun x => preLow x.1 x.2.1, fun x => [.int .i64 (lowV x.1 x.2.1)], fun _ => []⟩
def ctLowS : Ctr := ⟨[.int .u32, .int .i64], fun x => preLow x.1 x.2.1, fun x => [.int .i64 (lowSV x.1 x.2.1)], fun _ => []⟩
theorem low_held : Held Tryd.prog G0 28 ctLow := by
  refine Held.run cx0 (fn := Tryd.f28) rfl rfl ⟨by decide, by decide⟩ ?_
  rintro ⟨w, b, ⟨⟩⟩ ⟨hw, hb⟩
  simp only at hw hb
  refine (vc_low w b _ _).mpr ?_
  rw [IntWalk.i64_in (32 - b) (by omega)]
  have hm : min (32 - b).toNat IntKind.u32.bits = (32 - b).toNat := Nat.min_eq_left (by simp only [IntKind.bits]; omega)
  have hp : (0 : Int) < 2 ^ (32 - b).toNat := Int.pow_pos (by decide)
  have hd := div_bounds (w := w * 2 ^ (32 - b).toNat % 4294967296) (m := 4294967296) (by omega) (by omega) hp
  rw [hm, IntKind.wrap_u32, Int.fdiv_eq_ediv_of_nonneg _ (by omega), IntWalk.i64_in _ ⟨by omega, by omega⟩]
  exact ⟨by omega, by omega, QC.flat rfl rfl rfl⟩
theorem lowS_range (x p : Int) (hp : 0 < p) : -2147483648 ≤ IntKind.i32.wrap x / p ∧ IntKind.i32.wrap x / p ≤ 2147483647 := by
  rw [IntKind.wrap_i32]
  generalize hy : (x + 2147483648) % 4294967296 - 2147483648 = y
  have h1 : -2147483648 ≤ y ∧ y ≤ 2147483647 := by omega
  constructor
  · refine (Int.le_ediv_iff_mul_le hp).2 ?_
    have : (2147483648 : Int) * 1 ≤ 2147483648 * p := Int.mul_le_mul_of_nonneg_left (by omega) (by omega)
    omega
  · by_cases h0 : 0 ≤ y
    · exact Int.le_trans (Int.ediv_le_self _ h0) h1.2
    · have := Int.ediv_neg_of_neg_of_pos (a := y) (by omega) hp
      omega
theorem lowS_held : Held Tryd.prog G0 29 ctLowS := by
  refine Held.run cx0 (fn := Tryd.f29) rfl rfl ⟨by decide, by decide⟩ ?_
  rintro ⟨w, b, ⟨⟩⟩ ⟨hw, hb⟩
  simp only at hw hb
  refine (vc_lowS w b _ _).mpr ?_
  rw [IntWalk.i64_in (32 - b) (by omega)]
  have hm : min (32 - b).toNat IntKind.u32.bits = (32 - b).toNat := Nat.min_eq_left (by simp only [IntKind.bits]; omega)
  have hm2 : min (32 - b).toNat IntKind.i32.bits = (32 - b).toNat := Nat.min_eq_left (by simp only [IntKind.bits]; omega)
  have hp : (0 : Int) < 2 ^ (32 - b).toNat := Int.pow_pos (by decide)
  have hd := lowS_range (w * 2 ^ (32 - b).toNat % 4294967296) _ hp
  rw [hm, hm2, IntKind.wrap_u32, Int.fdiv_eq_ediv_of_nonneg _ (by omega), IntWalk.i64_in _ ⟨by omega, by omega⟩]
  exact ⟨by omega, by omega, QC.flat rfl rfl rfl⟩
def C1 : CV := [(29, ctLowS), (28, ctLow), (23, ctOctet)]
theorem cx1 : CxOK Tryd.prog tt G0 C1 := ((cx0.cons octet_held (fn := Tryd.f23) rfl rfl rfl).cons low_held (fn := Tryd.f28) rfl rfl rfl).cons lowS_held (fn := Tryd.f29) rfl rfl rfl
end Go.Proofs.YtfkbegcinagkmaaDoor
