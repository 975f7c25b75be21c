/-
  A part of the proof: what a piece of the program gives; conditions: those of each theorem.
-/
import Derived.Test.YtljpjeipgdeioaaDoorL8
set_option linter.unusedVariables false
namespace Go.Proofs.YtljpjeipgdeioaaDoor
open Ax
set_option maxHeartbeats 16000000
/-- The same word at another place. -/
def mv (y : I5) (d : Int) : I5 := if 5 ≤ y.o then ⟨y.o, y.a, y.b, y.c, y.n + d⟩ else y
theorem dec_mv (w p q : Int) : decI w q = mv (decI w p) (q - p) := by
  unfold decI
  generalize w / 16777216 % 256 = b0
  generalize w / 65536 % 256 = b1
  generalize w / 256 % 256 = b2
  generalize w % 256 = b3
  generalize opS b0 b1 b2 b3 = o
  unfold decO
  by_cases c0 : o = 0
  · rw [if_pos c0, if_pos c0]; rfl
  · rw [if_neg c0, if_neg c0]
    by_cases c1 : o = 1 ∨ o = 3 ∨ o = 4
    · rw [if_pos c1, if_pos c1]; unfold mv; rw [if_neg (by simp only; omega)]
    · rw [if_neg c1, if_neg c1]
      by_cases c2 : o = 2
      · rw [if_pos c2, if_pos c2]; rfl
      · rw [if_neg c2, if_neg c2]
        by_cases c5 : o = 5 ∨ o = 6
        · rw [if_pos c5, if_pos c5]; unfold mv; rw [if_pos (by simp only; omega)]; congr 1; show _ = p + 4 * _ + (q - p); omega
        · rw [if_neg c5, if_neg c5]
          by_cases c7 : o = 7
          · rw [if_pos c7, if_pos c7]; unfold mv; rw [if_pos (by simp only; omega)]; congr 1; show _ = p + 4 * _ + (q - p); omega
          · rw [if_neg c7, if_neg c7]; unfold mv; rw [if_pos (by simp only; omega)]; congr 1; show _ = p + 4 * _ + (q - p); omega
theorem OkI.n_small {x : I5} {at_ : Int} (ha : 0 ≤ at_ ∧ at_ ≤ 65540) (h : OkI at_ x) : -5000000000 ≤ x.n ∧ x.n ≤ 5000000000 := (h.small ha).n
end Go.Proofs.YtljpjeipgdeioaaDoor
