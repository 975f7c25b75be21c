/-
  A part of the proof: what a piece of the program gives; conditions: those of each theorem.
-/
import Derived.Test.YtljpjeipgdeioaaDoorL90
import Derived.Test.YtljpjeipgdeioaaDoorL91
import Derived.Test.YtljpjeipgdeioaaDoorL92
import Derived.Test.YtljpjeipgdeioaaDoorL93
set_option linter.unusedVariables false
namespace Go.Proofs.YtljpjeipgdeioaaDoor
open Ax
theorem i16_wf {n : Int} (h : (Lit.int .i16 n).wf = true) : -32768 ≤ n ∧ n ≤ 32767 := Go.bounds_i16 h
theorem instRefuses_all (l : List Int) (hl : l.length = 4) (hw : ∀ n ∈ l, (Lit.int .u8 n).wf = true) (n : Int) (hn : (Lit.int .u16 n).wf = true) (q : List Int) (hq : q.length = 2) (hv : ∀ n ∈ q, (Lit.int .i16 n).wf = true) :
    ∃ v H2, EvS Tryd.prog (.call 7 #[.agg (l.map (Value.int .u8)).toArray, .int .u16 n, .agg (q.map (Value.int .i16)).toArray] H0) (.value v H2) ∧ v = .bool true := by
  obtain ⟨a, b, c, d, rfl⟩ := four hl
  obtain ⟨e, f, rfl⟩ := two hq
  have wa := u8_wf (hw a (by simp))
  have wb := u8_wf (hw b (by simp))
  have wc := u8_wf (hw c (by simp))
  have wd := u8_wf (hw d (by simp))
  have we := i16_wf (hv e (by simp))
  have wf := i16_wf (hv f (by simp))
  have wn := u16_wf hn
  have hc : e % 65536 % 4 = 0 ∨ e % 65536 % 4 = 1 ∨ e % 65536 % 4 = 2 ∨ e % 65536 % 4 = 3 := by omega
  rcases hc with h | h | h | h
  · exact refuses0 wa wb wc wd wn.1 wn.2 we wf h
  · exact refuses1 wa wb wc wd wn.1 wn.2 we wf h
  · exact refuses2 wa wb wc wd wn.1 wn.2 we wf h
  · exact refuses3 wa wb wc wd wn.1 wn.2 we wf h
end Go.Proofs.YtljpjeipgdeioaaDoor
