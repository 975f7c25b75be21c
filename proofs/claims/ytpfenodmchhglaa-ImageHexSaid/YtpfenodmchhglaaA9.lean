/-
  A part of the proof: what the run over an abstract memory gives; conditions: those of each theorem.
-/
import Derived.Test.YtpfenodmchhglaaA8
namespace Go.Ax
section
variable {P : Program} {base : Prot} {M : Map} {H H' : AHeap} {w : World}
/-- The address of a slice's element, of an array's. -/
def aIndexAddr (P : Program) (t : TypeId) : Value → Value → Option Value
  | .slice (some a) len _, .int _ i =>
    match pureRun P (underlying t) with
    | some (.slice elem) =>
      match pureRun P (sizeOf elem) with
      | some size => if 0 ≤ i ∧ i < len ∧ a.spot = none then some (.pointer (some (a.add (i.toNat * size)))) else none
      | none => none
    | _ => none
  | .pointer (some a), .int _ i =>
    match pureRun P (underlying t) with
    | some (.array len elem) =>
      match pureRun P (sizeOf elem) with
      | some size => if 0 ≤ i ∧ i < len ∧ a.spot = none then some (.pointer (some (a.add (i.toNat * size)))) else none
      | none => none
    | _ => none
  | _, _ => none
theorem VR.pointer_add {b : BI} {a : Addr} (hb : M[a.block]? = some b) (hs : a.spot = none) (n : Nat) : VR M (.pointer (some (a.add n))) (.pointer (some ((b.ad a).add n))) := by
  obtain ⟨bk, off, spot⟩ := a
  simp only at hs hb; subst hs
  simp only [add_none, VR]
  exact ⟨b, hb, by simp [Addr.add, Nat.add_right_comm]⟩
theorem indexAddr_sound (h : Rel base M H w) {t : TypeId} {x x' i i' v : Value} (hs : aIndexAddr P t x i = some v) (hx : VR M x x') (hi : VR M i i') : Snd P base M w (Instr.indexAt t x' i') v H := by
  unfold aIndexAddr at hs
  split at hs
  · rename_i a len cap k n
    simp only [VR] at hi; subst hi
    split at hs
    · rename_i elem hu
      split at hs
      · rename_i size hsz
        split at hs
        · rename_i hc; cases hs
          simp only [VR] at hx
          rw [if_neg (by rw [hc.2.2]; simp)] at hx
          obtain ⟨b, hb, rfl⟩ := hx
          refine Snd.still h ?_ (VR.pointer_add hb hc.2.2 _)
          simp [Instr.indexAt, asIntOf, pureRun_run hu, pureRun_run hsz, hc.1, hc.2.1]
        · cases hs
      · cases hs
    · cases hs
  · rename_i a k n
    simp only [VR] at hi hx; subst hi
    obtain ⟨b, hb, rfl⟩ := hx
    split at hs
    · rename_i len elem hu
      split at hs
      · rename_i size hsz
        split at hs
        · rename_i hc; cases hs
          refine Snd.still h ?_ (VR.pointer_add hb hc.2.2 _)
          simp [Instr.indexAt, Instr.sureAddr, asIntOf, pureRun_run hu, pureRun_run hsz, hc.1, hc.2.1]
        · cases hs
      · cases hs
    · cases hs
  · cases hs
def aFieldAddr (P : Program) (s : TypeId) (f : Nat) : Value → Option Value
  | .pointer (some a) =>
    match pureRun P (underlying s) with
    | some (.struct fields) =>
      match fields[f]? with
      | some fd => match pureRun P (sizeOf fd.type) with
        | some n => if n ≠ 0 ∧ a.spot = none then some (.pointer (some (a.add fd.offset))) else none
        | none => none
      | none => none
    | _ => none
  | _ => none
theorem fieldAddr_sound (h : Rel base M H w) {s : TypeId} {f : Nat} {x x' v : Value} (hs : aFieldAddr P s f x = some v) (hx : VR M x x') : Snd P base M w (Instr.fieldAt s x' f) v H := by
  unfold aFieldAddr at hs
  split at hs
  · rename_i a
    simp only [VR] at hx
    obtain ⟨b, hb, rfl⟩ := hx
    split at hs
    · rename_i fields hu
      split at hs
      · rename_i fd hf
        split at hs
        · rename_i n hn
          split at hs
          · rename_i hc; cases hs
            refine Snd.still h ?_ (VR.pointer_add hb hc.2 _)
            simp [Instr.fieldAt, Instr.sureAddr, pureRun_run hu, hf, fieldPlace, pureRun_run hn, hc.1]
          · cases hs
        · cases hs
      · cases hs
    · cases hs
  · cases hs
/-- A part of a value in cells. -/
def aPart (P : Program) (t : TypeId) (cs : Array Value) (off : Nat) : Option Value :=
  match pureRun P (isAgg t) with
  | some true => match pureRun P (sizeOf t) with
    | some n => some (.agg (cs.extract off (off + n)))
    | none => none
  | some false => cs[off]?
  | none => none
theorem part_sound {t : TypeId} {cs cs' : Array Value} {off : Nat} {v : Value} (hs : aPart P t cs off = some v) (hc : VRL M cs.toList cs'.toList) : ∃ r, (part t cs' off).run P w = .ok r w ∧ VR M v r := by
  unfold aPart at hs
  split at hs
  · rename_i ha
    split at hs
    · rename_i n hn; cases hs
      refine ⟨.agg (cs'.extract off (off + n)), by simp [part, pureRun_run ha, pureRun_run hn], ?_⟩
      simp only [VR]
      refine ⟨_, VRA.iff.2 ?_, rfl⟩
      simp only [Array.toList_extract, List.extract_eq_take_drop]
      exact (hc.drop _).take _
    · cases hs
  · rename_i ha
    obtain ⟨v', hv, hr⟩ := hc.get off v (by simpa using hs)
    have hv : cs'[off]? = some v' := by simpa using hv
    exact ⟨v', by simp [part, pureRun_run ha, hv], hr⟩
  · cases hs
def aField (P : Program) (t : TypeId) (f : Nat) : Value → Option Value
  | .agg cs => match pureRun P (underlying t) with
    | some (.struct fields) => match fields[f]? with
      | some fd => aPart P fd.type cs fd.offset
      | none => none
    | _ => none
  | _ => none
theorem field_sound (h : Rel base M H w) {t : TypeId} {f : Nat} {x x' v : Value} (hs : aField P t f x = some v) (hx : VR M x x') : Snd P base M w (Instr.field t x' f) v H := by
  unfold aField at hs
  split at hs
  · rename_i cs
    simp only [VR] at hx
    obtain ⟨cs', hc, rfl⟩ := hx
    split at hs
    · rename_i fields hu
      split at hs
      · rename_i fd hf
        obtain ⟨r, hr, hv⟩ := part_sound (w := w) hs (VRA.iff.1 hc)
        exact Snd.still h (by simp [Instr.field, pureRun_run hu, hf, asAgg, hr]) hv
      · cases hs
    · cases hs
  · cases hs
def aIndex (P : Program) (t : TypeId) (x i : Value) : Option Value :=
  match x, i with
  | .agg cs, .int _ n =>
    match pureRun P (underlying t) with
    | some (.array len elem) =>
      match pureRun P (sizeOf elem) with
      | some size => if 0 ≤ n ∧ n < len then aPart P elem cs (n.toNat * size) else none
      | none => none
    | _ => none
  | .string s, .int k n => match pureRun P (Instr.index t (.string s) (.int k n)) with
    | some v => if flat v then some v else none
    | none => none
  | _, _ => none
theorem index_sound (h : Rel base M H w) {t : TypeId} {x x' i i' v : Value} (hs : aIndex P t x i = some v) (hx : VR M x x') (hi : VR M i i') : Snd P base M w (Instr.index t x' i') v H := by
  unfold aIndex at hs
  split at hs
  · rename_i cs k n
    simp only [VR] at hx hi; subst hi
    obtain ⟨cs', hc, rfl⟩ := hx
    split at hs
    · rename_i len elem hu
      split at hs
      · rename_i size hsz
        split at hs
        · rename_i hb
          obtain ⟨r, hr, hv⟩ := part_sound (w := w) hs (VRA.iff.1 hc)
          exact Snd.still h (by simp [Instr.index, asIntOf, pureRun_run hu, pureRun_run hsz, hb, hr]) hv
        · cases hs
      · cases hs
    · cases hs
  · rename_i s k n
    simp only [VR] at hx hi; subst hi hx
    split at hs
    · rename_i v0 hv0
      split at hs
      · rename_i hf; cases hs
        exact Snd.still h (pureRun_run hv0 w) (VR.self hf)
      · cases hs
    · cases hs
  · cases hs
/-- The number of bytes or elements. -/
def aLen (P : Program) (ts : Array TypeId) (t : TypeId) (args : Array Value) : Option Value :=
  match args with
  | ⟨[.slice (some _) n _]⟩ => match ts[0]? with
    | some t0 => match pureRun P (underlying t0) with
      | some (.slice _) => some (goInt n)
      | _ => none
    | none => none
  | ⟨[x]⟩ => if flat x then match pureRun P (Builtin.len_ ts t ⟨[x]⟩) with
    | some v => if flat v then some v else none
    | none => none else none
  | _ => none
theorem len_sound (h : Rel base M H w) {ts : Array TypeId} {t : TypeId} {args args' : Array Value} {v : Value} (hs : aLen P ts t args = some v) (hx : VRL M args.toList args'.toList) : Snd P base M w (Builtin.len_ ts t args') v H := by
  unfold aLen at hs
  split at hs
  · rename_i a n c
    obtain ⟨x', l', hx1, hx2, he⟩ := hx.cases
    rw [hx2.nil_cases] at he
    have hargs : args' = #[x'] := by cases args'; simp at he; subst he; rfl
    subst hargs
    split at hs
    · rename_i t0 ht0
      split at hs
      · rename_i e hu; cases hs
        simp only [VR] at hx1
        have : ∃ a' c', x' = .slice a' n c' := by
          split at hx1
          · obtain ⟨rfl, _, a', c', rfl⟩ := hx1; exact ⟨_, _, rfl⟩
          · obtain ⟨b, _, rfl⟩ := hx1; exact ⟨_, _, rfl⟩
        obtain ⟨a', c', rfl⟩ := this
        exact Snd.still h (by simp [Builtin.len_, ht0, pureRun_run hu]) (VR.self rfl)
      · cases hs
    · cases hs
  · rename_i x _
    split at hs
    · rename_i hf
      obtain ⟨x', l', hx1, hx2, he⟩ := hx.cases
      rw [hx2.nil_cases] at he
      have hargs : args' = #[x'] := by cases args'; simp at he; subst he; rfl
      subst hargs
      split at hs
      · rename_i v0 hv0
        split at hs
        · rename_i hfv; cases hs
          rw [(VR.flat_iff _ hf _).1 hx1]
          exact Snd.still h (pureRun_run hv0 w) (VR.self hfv)
        · cases hs
      · cases hs
    · cases hs
  · cases hs
end
end Go.Ax
