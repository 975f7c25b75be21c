/-
  What the program has: its functions and types, closed facts; no conditions.
-/
import Derived.Test.YtpfenodmchhglaaA34
import Derived.Test.YtpfenodmchhglaaProg
import Derived.KernelRfl
import Derived.IntWalk
namespace Go.Proofs.Ytpfenodmchhglaa
open Ax
noncomputable abbrev FF := fnsOf Try.prog 3 58
set_option maxRecDepth 100000 in
theorem fns_ok : Ax.fnsOK Try.prog 3 58 = true := by decide +kernel
theorem mixed : Try.prog.follows .mixedOrders = true := by decide +kernel
theorem cx : Cx Try.prog FF := Cx.of_ok fns_ok mixed
theorem F44 : FF 44 = some Try.f44 := by kernel_rfl
theorem F28 : FF 28 = some Try.f28 := by kernel_rfl
theorem F19 : FF 19 = some Try.f19 := by kernel_rfl
theorem F12 : FF 12 = some Try.f12 := by kernel_rfl
theorem F9 : FF 9 = some Try.f9 := by kernel_rfl
theorem u27 : pureRun Try.prog (underlying 27) = some (.slice 5) := by kernel_rfl
theorem u9 : pureRun Try.prog (underlying 9) = some .string := by kernel_rfl
theorem a5 : pureRun Try.prog (isAgg 5) = some false := by kernel_rfl
theorem s5 : pureRun Try.prog (sizeOf 5) = some 1 := by kernel_rfl
theorem b27 : ∃ inf, ByteSl Try.prog 27 5 inf := ByteSl.of_ok (by decide +kernel)
def digits : List UInt8 := [48, 49, 50, 51, 52, 53, 54, 55, 56, 57, 97, 98, 99, 100, 101, 102]
def dig (x : Nat) : UInt8 := digits.getD x 0
def hexL (l : List UInt8) : List UInt8 := l.flatMap fun c => [dig (c.toNat / 16), dig (c.toNat % 16)]
theorem hexL_length (l : List UInt8) : (hexL l).length = 2 * l.length := by
  induction l with
  | nil => rfl
  | cons a l ih => simp only [hexL, List.flatMap_cons, List.length_append, List.length_cons, List.length_nil] at ih ⊢; omega
theorem hexL_succ {l : List UInt8} {j : Nat} (hj : j < l.length) : hexL (l.take (j + 1)) = hexL (l.take j) ++ [dig (l[j].toNat / 16), dig (l[j].toNat % 16)] := by
  unfold hexL
  rw [List.take_add_one, List.getElem?_eq_getElem hj, List.flatMap_append]
  rfl
end Go.Proofs.Ytpfenodmchhglaa
