/-
  A part of the proof: what the run over an abstract memory gives; conditions: those of each theorem.
-/
import Derived.Test.YtpfenodmchhglaaA9
namespace Go.Ax
section
variable {P : Program} {base : Prot} {M : Map} {H H' : AHeap} {w : World}
def aLenOf : Value → Option Nat
  | .slice _ n _ => some n
  | .string s => some s.size
  | _ => none
def aFirst (H : AHeap) (size n : Nat) : Value → Option (List Value)
  | .slice (some b) _ _ => if n * size = 0 then some [] else if b.spot = some 7 then none else aCells H b (n * size)
  | .slice none _ _ => some []
  | .string s => some ((s.extract 0 n).data.map fun b => Value.int .u8 b.toNat).toList
  | _ => none
theorem aLenOf_sound {x x' : Value} {n : Nat} (h : aLenOf x = some n) (hx : VR M x x') : (Builtin.lenOf x').run P w = .ok n w := by
  cases x with
  | slice a l c =>
    simp only [aLenOf, Option.some.injEq] at h; subst h
    cases a with
    | none => simp only [VR] at hx; subst hx; rfl
    | some a =>
      simp only [VR] at hx
      split at hx
      · obtain ⟨rfl, _, a', c', rfl⟩ := hx; rfl
      · obtain ⟨b, _, rfl⟩ := hx; rfl
  | string s => simp only [aLenOf, Option.some.injEq] at h; simp only [VR] at hx; subst hx h; rfl
  | _ => simp [aLenOf] at h
theorem flatL_bytes (l : List UInt8) : flatL (l.map fun b => Value.int .u8 b.toNat) = true := by
  induction l with
  | nil => rfl
  | cons b l ih => simp only [List.map_cons, flatL, ih, Bool.and_true]; rfl
theorem aFirst_sound (h : Rel base M H w) {size n : Nat} {x x' : Value} {l : List Value} (hf : aFirst H size n x = some l) (hx : VR M x x') :
    ∃ l', (∀ w1 : World, w1.heap = w.heap → (Builtin.firstCells size n x').run P w1 = .ok l'.toArray w1) ∧ VRL M l l' := by
  cases x with
  | slice a len c =>
    cases a with
    | none => simp only [VR] at hx; subst hx; simp only [aFirst, Option.some.injEq] at hf; subst hf; exact ⟨[], fun _ _ => rfl, .nil⟩
    | some a =>
      simp only [aFirst] at hf
      simp only [VR] at hx
      split at hf
      · rename_i h0; cases hf
        refine ⟨[], fun w1 _ => ?_, .nil⟩
        split at hx
        · obtain ⟨_, _, a', c', rfl⟩ := hx; simp [Builtin.firstCells, h0, loadCells, loadCellsFrom]
        · obtain ⟨b, _, rfl⟩ := hx; simp [Builtin.firstCells, h0, loadCells, loadCellsFrom]
      · split at hf
        · cases hf
        · rename_i h7
          rw [if_neg h7] at hx
          obtain ⟨b, hb, rfl⟩ := hx
          obtain ⟨l', hr, hv, _⟩ := loadCells_sound' (P := P) h hf hb
          exact ⟨l', fun w1 hw1 => by simp [Builtin.firstCells, hr w1 hw1], hv⟩
  | string s =>
    simp only [VR] at hx; subst hx
    simp only [aFirst, Option.some.injEq] at hf; subst hf
    refine ⟨_, fun _ _ => rfl, VRL.self ?_⟩
    simp only [Array.toList_map]
    exact flatL_bytes _
  | _ => simp [aFirst] at hf
/-- The parts of an append that do not hang on the memory. -/
structure AppT where
  elem : TypeId
  size : Nat
  bytes : Nat
  zero : Array Value
def isIntD : TypeDesc → Bool
  | .slice _ => false
  | .string => false
  | _ => true
theorem notInt {d : TypeDesc} (h : isIntD d = false) : (∃ e, d = .slice e) ∨ d = .string := by cases d <;> simp [isIntD] at h ⊢
def aAppT (P : Program) (ts : Array TypeId) : Option AppT :=
  match ts[0]?, ts[1]? with
  | some t0, some t1 =>
    match pureRun P (underlying t0), pureRun P (underlying t1) with
    | some (.slice elem), some d1 =>
      match isIntD d1, pureRun P (typeInfo elem), pureRun P (zeroValue elem) with
      | false, some i, some z => if z.cells.size = i.size ∧ 0 < i.size then some ⟨elem, i.size, i.bytes, z.cells⟩ else none
      | _, _, _ => none
    | _, _ => none
  | _, _ => none
theorem aAppT_parts {ts : Array TypeId} {T : AppT} (hT : aAppT P ts = some T) : ∃ t0 t1 d1 i z, ts[0]? = some t0 ∧ ts[1]? = some t1 ∧ pureRun P (underlying t0) = some (.slice T.elem) ∧ pureRun P (underlying t1) = some d1 ∧ isIntD d1 = false ∧
    pureRun P (typeInfo T.elem) = some i ∧ i.size = T.size ∧ i.bytes = T.bytes ∧ pureRun P (zeroValue T.elem) = some z ∧ z.cells = T.zero ∧ T.zero.size = T.size ∧ 0 < T.size := by
  unfold aAppT at hT
  split at hT
  · rename_i t0 t1 h0 h1
    split at hT
    · rename_i elem d1 hu0 hu1
      split at hT
      · rename_i i z hd hi hz
        split at hT
        · rename_i hc; cases hT
          exact ⟨t0, t1, d1, i, z, h0, h1, hu0, hu1, hd, hi, rfl, rfl, hz, rfl, hc.1, hc.2⟩
        · cases hT
      · cases hT
    · cases hT
  · cases hT
theorem run_append_room {ts : Array TypeId} {t : TypeId} {T : AppT} (hT : aAppT P ts = some T) {b : Option Addr} {sLen sCap n : Nat} {x : Value} {new : Array Value} {w' : World}
    (hn : (Builtin.lenOf x).run P w = .ok n w) (hnew : (Builtin.firstCells T.size n x).run P w = .ok new w) (hroom : sLen + n ≤ sCap)
    (hst : match b with | some a => (storeCells (a.add (sLen * T.size)) new.toList).run P w = .ok () w' | none => w' = w) :
    (Builtin.append_ ts t #[.slice b sLen sCap, x]).run P w = .ok (.slice b (sLen + n) sCap) w' := by
  obtain ⟨t0, t1, d1, i, z, h0, h1, hu0, hu1, hd, hi, hsz, hby, hz, hzc, hzs, hpos⟩ := aAppT_parts hT
  have hs : (sizeOf T.elem).run P w = .ok T.size w := by simp [sizeOf, pureRun_run hi, hsz]
  rcases notInt hd with ⟨e, rfl⟩ | rfl
  all_goals
   simp only [Builtin.append_, h0, h1, List.getElem?_toArray, List.getElem?_cons_zero, List.getElem?_cons_succ, Sem.run_bind, pureRun_run hu0, pureRun_run hu1, hs, Result.andThen_ok, Sem.run_pure]
   simp only [Bool.false_eq_true, if_false, Sem.run_bind, hn, Result.andThen_ok, Bool.not_false, if_true, Sem.run_ite, if_pos hroom, hnew]
   cases b with
   | none => simp only at hst; subst hst; simp
   | some a => simp only at hst; simp [hst]
theorem run_append_grow {ts : Array TypeId} {t : TypeId} {T : AppT} (hT : aAppT P ts = some T) {b : Option Addr} {sLen sCap n : Nat} {x : Value} {new old : Array Value}
    (hn : (Builtin.lenOf x).run P w = .ok n w) (hnew : ∀ w1 : World, w1.heap = w.heap → (Builtin.firstCells T.size n x).run P w1 = .ok new w1) (hold : ∀ w1 : World, w1.heap = w.heap → (Builtin.firstCells T.size sLen (.slice b sLen sCap)).run P w1 = .ok old w1)
    (hroom : ¬ sLen + n ≤ sCap) (hmax : sLen + n < 2 ^ 40) (hfit : Builtin.nextslicecap (sLen + n) sCap * T.bytes ≤ 2 ^ 48) :
    ∃ newCap w1, sLen + n ≤ newCap ∧ w1.heap = w.heap ∧ w1.os = w.os ∧ w1.tape = w.tape ∧ w1.output = w.output ∧
      (Builtin.append_ ts t #[.slice b sLen sCap, x]).run P w = ((newRow T.elem (old ++ new ++ Builtin.zeroCells T.zero (newCap - (sLen + n)))).run P w1).andThen fun a w2 => .ok (.slice (some a) (sLen + n) newCap) w2 := by
  obtain ⟨t0, t1, d1, i, z, h0, h1, hu0, hu1, hd, hi, hsz, hby, hz, hzc, hzs, hpos⟩ := aAppT_parts hT
  have hs : ∀ w1, (sizeOf T.elem).run P w1 = .ok T.size w1 := fun w1 => by simp [sizeOf, pureRun_run hi, hsz]
  refine ⟨(Question.appendCap (sLen + n) sCap T.elem).cut (w.tape w.drawn (Question.appendCap (sLen + n) sCap T.elem)), { w with drawn := w.drawn + 1 }, ?_, rfl, rfl, rfl, rfl, ?_⟩
  · simp [Question.cut]
  · rw [← hby] at hfit
    have hnofit : ¬ (Builtin.nextslicecap (sLen + n) sCap * i.bytes > 2 ^ 48) := by omega
    have hsmall : ¬ (((sLen + n : Nat) : Int) > IntKind.i64.max) := by
      have : IntKind.i64.max = 9223372036854775807 := by decide
      rw [this]; omega
    rcases notInt hd with ⟨e, rfl⟩ | rfl
    all_goals
     simp only [Builtin.append_, h0, h1, List.getElem?_toArray, List.getElem?_cons_zero, List.getElem?_cons_succ, Sem.run_bind, pureRun_run hu0, pureRun_run hu1, hs, Result.andThen_ok, Sem.run_pure]
     simp only [Bool.false_eq_true, if_false, Sem.run_bind, hn, Result.andThen_ok, Bool.not_false, if_true, Sem.run_ite, if_neg hroom, pureRun_run hi, hsmall, false_and, if_false, hnofit, run_choose, Question.forced, run_askRoom, pureRun_run hz]
     rw [hold { w with drawn := w.drawn + 1 } rfl]
     simp only [Result.andThen_ok]
     rw [hnew { w with drawn := w.drawn + 1 } rfl]
     simp [Result.andThen_ok, hzc]
end
end Go.Ax
