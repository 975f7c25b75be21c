/-
  A part of the proof: what the run over an abstract memory gives; conditions: those of each theorem.
-/
import Derived.Test.YtpfenodmchhglaaA25
namespace Go.Ax
/-- The functions from lo to hi, as the program has them. -/
def fnsOf (P : Program) (lo hi : Nat) : FuncId → Option Func := fun f => if lo ≤ f ∧ f ≤ hi then P.funcs[f]? else none
def fnsOK (P : Program) (lo hi : Nat) : Bool := (List.range (hi + 1)).all fun f => decide (f < lo) || match P.funcs[f]? with
  | some fn => !(fn.name == "runtime.NumGoroutine") && fn.body.isSome
  | none => false
theorem callFunc_enter {P : Program} {f : FuncId} {fn : Func} (hf : P.funcs[f]? = some fn) (hn : (fn.name == "runtime.NumGoroutine") = false) (hb : fn.body.isSome = true) (args : Array Value) (w : World) :
    (callFunc f args).run P w = .ok (.enter f args) w := by
  have hn' : ¬ fn.name = "runtime.NumGoroutine" := by simpa using hn
  have hb' : ¬ fn.body = none := by cases h : fn.body <;> simp_all
  simp [callFunc, hf, hn', hb']
theorem fnsOf_get {P : Program} {lo hi : Nat} (f : FuncId) (fn : Func) (h : fnsOf P lo hi f = some fn) : P.funcs[f]? = some fn := by
  unfold fnsOf at h; split at h
  · exact h
  · cases h
theorem fnsOf_enter {P : Program} {lo hi : Nat} (hok : fnsOK P lo hi = true) (f : FuncId) (fn : Func) (h : fnsOf P lo hi f = some fn) (args : Array Value) (w : World) : (callFunc f args).run P w = .ok (.enter f args) w := by
  have hg := fnsOf_get f fn h
  unfold fnsOf at h
  split at h
  · rename_i hc
    have := (List.all_eq_true.1 hok) f (List.mem_range.2 (Nat.lt_succ_of_le hc.2))
    rw [hg] at this
    simp only [Bool.or_eq_true, decide_eq_true_eq, Bool.and_eq_true, Bool.not_eq_true'] at this
    rcases this with h1 | ⟨h1, h2⟩
    · exact absurd h1 (Nat.not_lt.2 hc.1)
    · exact callFunc_enter hg h1 h2 args w
  · cases h
def givesV : Option Res → Value → Bool
  | some (.value r _), v => eqV r v && flat v
  | _, _ => false
/-- A CALL THAT THE EVALUATOR CARRIES OUT, its outcome asked of the kernel. -/
theorem calls_by_eval {P : Program} (lo hi k : Nat) (hok : fnsOK P lo hi = true) (hmix : P.follows .mixedOrders = true) {f : FuncId} {args : Array Value} {v : Value} (hargs : flatA args = true)
    (h : givesV (eval P (fnsOf P lo hi) k (.call f args ⟨0, .nil⟩)) v = true) (w : World) : Calls P f args w fun e w' => e = .returned v ∧ RowKit.Below w.heap.size w w' := by
  unfold givesV at h
  split at h
  · rename_i r H he
    simp only [Bool.and_eq_true] at h
    have := eqV_eq _ _ h.1
    subst this
    exact calls_of_eval fnsOf_get (fnsOf_enter hok) hmix hargs h.2 he w
  · cases h
end Go.Ax
