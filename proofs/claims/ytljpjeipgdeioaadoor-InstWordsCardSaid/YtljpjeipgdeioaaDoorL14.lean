/-
  A part of the proof: what a piece of the program gives; conditions: those of each theorem.
-/
import Derived.Test.YtljpjeipgdeioaaDoorL13
set_option linter.unusedVariables false
namespace Go.Proofs.YtljpjeipgdeioaaDoor
open Ax
theorem u32_wf {n : Int} (h : (Lit.int .u32 n).wf = true) : 0 ≤ n ∧ n < 4294967296 := by
  have := Go.bounds_u32 h; omega
theorem instWords_all (w : Int) (hw : (Lit.int .u32 w).wf = true) (l : List Int) (hl : l.length = 4) (hx : ∀ n ∈ l, (Lit.int .u8 n).wf = true) (n : Int) (hn : (Lit.int .u16 n).wf = true) :
    ∃ v H2, EvS Tryd.prog (.call 3 #[.int .u32 w, .agg (l.map (Value.int .u8)).toArray, .int .u16 n] H0) (.value v H2) ∧ v = .bool true := by
  obtain ⟨a, b, c, d, rfl⟩ := four hl
  exact instWords_ev (u32_wf hw).1 (u32_wf hw).2 (u8_wf (hx a (by simp))) (u8_wf (hx b (by simp))) (u8_wf (hx c (by simp))) (u8_wf (hx d (by simp))) (u16_wf hn).1 (u16_wf hn).2
end Go.Proofs.YtljpjeipgdeioaaDoor
