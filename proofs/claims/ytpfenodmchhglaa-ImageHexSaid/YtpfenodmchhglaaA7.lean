/-
  A part of the proof: what the run over an abstract memory gives; conditions: those of each theorem.
-/
import Derived.Test.YtpfenodmchhglaaA6
namespace Go.Ax
theorem pureRun_bind {α β : Type} {P : Program} (x : Sem α) (f : α → Sem β) : pureRun P (x >>= f) = (pureRun P x).bind fun a => pureRun P (f a) := by
  show pureRun P (x.bind f) = _
  induction x with
  | pure a => rfl
  | program k ih => simp only [Sem.bind, pureRun]; exact ih _
  | mark m k ih => simp only [Sem.bind, pureRun]; exact ih
  | _ => rfl
theorem pureRun_pure {α : Type} {P : Program} (a : α) : pureRun P (pure a : Sem α) = some a := rfl
theorem pureRun_ite {α : Type} {P : Program} (c : Prop) [Decidable c] (x y : Sem α) : pureRun P (if c then x else y) = if c then pureRun P x else pureRun P y := by split <;> rfl
theorem pureRun_stuck {α : Type} {P : Program} (s : String) : pureRun P (stuck s : Sem α) = none := rfl
theorem pureRun_unsupported {α : Type} {P : Program} (s : Unsupported) : pureRun P (unsupported s : Sem α) = none := rfl
theorem pureRun_program {P : Program} : pureRun P program = some P := rfl
theorem pureRun_choose {P : Program} (q : Question) : pureRun P (choose q) = none := rfl
theorem pureRun_runtimePanic {α : Type} {P : Program} (e : RuntimeError) : pureRun P (runtimePanic e : Sem α) = none := by
  unfold runtimePanic
  rw [pureRun_bind, pureRun_program]
  simp only [Option.bind_some]
  cases e with
  | typeAssertion i c a m =>
    simp only
    rw [pureRun_bind]
    cases h : pureRun P (elemOf P.rt.typeAssertionError) with
    | none => rfl
    | some t =>
      simp only [Option.bind_some]
      rw [pureRun_bind]
      rfl
  | panicNil =>
    simp only
    rw [pureRun_bind]
    cases h : pureRun P (elemOf P.rt.panicNilError) with
    | none => rfl
    | some t =>
      simp only [Option.bind_some]
      rw [pureRun_bind]
      rfl
  | _ => rfl
theorem pureRun_map {α β : Type} {P : Program} (x : Sem α) (f : α → β) : pureRun P (Functor.map f x) = (pureRun P x).map f := by
  rw [map_eq_pure_bind, pureRun_bind]
  cases pureRun P x <;> rfl
theorem pureRun_boundsPanic {α : Type} {P : Program} (k : IntKind) (x y : Int) (c : BoundsCode) : pureRun P (boundsPanic k x y c : Sem α) = none := by
  unfold boundsPanic
  simp only [pureRun_ite, pureRun_bind, pureRun_map, pureRun_choose, pureRun_pure, pureRun_runtimePanic]
  split <;> rfl
theorem sliceBound_pure {P : Program} {x : Value} {y : Nat} {c : BoundsCode} {n : Nat} (h : pureRun P (Instr.sliceBound x y c) = some n) : ∃ k i, x = .int k i ∧ 0 ≤ i ∧ i ≤ y ∧ n = i.toNat := by
  unfold Instr.sliceBound at h
  rw [pureRun_bind] at h
  cases x with
  | int k i =>
    simp only [asIntOf, pureRun_pure, Option.bind_some, pureRun_ite] at h
    split at h
    · rename_i hc; cases h; exact ⟨k, i, rfl, hc.1, hc.2, rfl⟩
    · rw [pureRun_boundsPanic] at h; cases h
  | pointer a => cases a <;> simp [asIntOf, pureRun_stuck, pureRun_unsupported] at h
  | _ => simp [asIntOf, pureRun_stuck] at h
theorem sliceBound_run {P : Program} {w : World} {k : IntKind} {i : Int} {y : Nat} {c : BoundsCode} (h0 : 0 ≤ i) (h1 : i ≤ y) : (Instr.sliceBound (.int k i) y c).run P w = .ok i.toNat w := by
  simp [Instr.sliceBound, asIntOf, h0, h1]
/-- The bounds of a slice expression at a capacity that is at least the length: within the length they are the same. -/
theorem sliceBounds_none {P : Program} {w : World} {len cap l h m : Nat} {lo hi : Option Value} (hb : pureRun P (Instr.sliceBounds true len len lo hi none) = some (l, h, m)) (hc : len ≤ cap) :
    (Instr.sliceBounds true len cap lo hi none).run P w = .ok (l, h, cap) w ∧ l ≤ h ∧ h ≤ len := by
  cases hi <;> cases lo <;> simp only [Instr.sliceBounds, pureRun_bind, pureRun_pure, Option.bind_some, Option.bind_eq_some_iff, Option.some.injEq, Prod.mk.injEq] at hb
  · obtain ⟨rfl, rfl, rfl⟩ := hb
    exact ⟨by simp [Instr.sliceBounds], by omega, by omega⟩
  · obtain ⟨n, hn, rfl, rfl, rfl⟩ := hb
    obtain ⟨k, i, rfl, h0, h1, rfl⟩ := sliceBound_pure hn
    exact ⟨by simp [Instr.sliceBounds, sliceBound_run h0 h1], by omega, by omega⟩
  · obtain ⟨q, hq, rfl, rfl, rfl⟩ := hb
    obtain ⟨kx, ix, rfl, hx0, hx1, rfl⟩ := sliceBound_pure hq
    have hx2 : ix ≤ (cap : Int) := by omega
    exact ⟨by simp [Instr.sliceBounds, sliceBound_run hx0 hx2], by omega, by omega⟩
  · obtain ⟨q, hq, n, hn, rfl, rfl, rfl⟩ := hb
    obtain ⟨kx, ix, rfl, hx0, hx1, rfl⟩ := sliceBound_pure hq
    obtain ⟨k, i, rfl, h0, h1, rfl⟩ := sliceBound_pure hn
    have hx2 : ix ≤ (cap : Int) := by omega
    exact ⟨by simp [Instr.sliceBounds, sliceBound_run hx0 hx2, sliceBound_run h0 h1], by omega, by omega⟩
theorem sliceBounds_some {P : Program} {w : World} {len cap l h m : Nat} {lo hi : Option Value} {x : Value} (hb : pureRun P (Instr.sliceBounds true len len lo hi (some x)) = some (l, h, m)) (hc : len ≤ cap) :
    (Instr.sliceBounds true len cap lo hi (some x)).run P w = .ok (l, h, m) w ∧ l ≤ h ∧ h ≤ m ∧ m ≤ len := by
  cases hi with
  | none =>
    simp only [Instr.sliceBounds, pureRun_bind, pureRun_stuck, Option.bind_none, Option.bind_eq_some_iff] at hb
    obtain ⟨_, _, hb⟩ := hb; cases hb
  | some y =>
    cases lo <;> simp only [Instr.sliceBounds, pureRun_bind, pureRun_pure, Option.bind_some, Option.bind_eq_some_iff, Option.some.injEq, Prod.mk.injEq] at hb
    · obtain ⟨q, hq, n, hn, rfl, rfl, rfl⟩ := hb
      obtain ⟨kx, ix, rfl, hx0, hx1, rfl⟩ := sliceBound_pure hq
      obtain ⟨k, i, rfl, h0, h1, rfl⟩ := sliceBound_pure hn
      have hx2 : ix ≤ (cap : Int) := by omega
      exact ⟨by simp [Instr.sliceBounds, sliceBound_run hx0 hx2, sliceBound_run h0 h1], by omega, by omega, by omega⟩
    · obtain ⟨q, hq, n, hn, r, hr, rfl, rfl, rfl⟩ := hb
      obtain ⟨kx, ix, rfl, hx0, hx1, rfl⟩ := sliceBound_pure hq
      obtain ⟨k, i, rfl, h0, h1, rfl⟩ := sliceBound_pure hn
      obtain ⟨kr, ir, rfl, hr0, hr1, rfl⟩ := sliceBound_pure hr
      have hx2 : ix ≤ (cap : Int) := by omega
      exact ⟨by simp [Instr.sliceBounds, sliceBound_run hx0 hx2, sliceBound_run h0 h1, sliceBound_run hr0 hr1], by omega, by omega, by omega⟩
/-- An empty slice of which no more is known. -/
def emptySlice : Value := .slice (some ⟨0, 0, some 7⟩) 0 0
theorem VR.emptySlice {M : Map} (a : Addr) (c : Nat) : VR M Ax.emptySlice (.slice (some a) 0 c) := by
  simp only [Ax.emptySlice, VR]
  rw [if_pos trivial]
  exact ⟨trivial, trivial, a, c, rfl⟩
section
variable {P : Program} {base : Prot} {M : Map} {H H' : AHeap} {w : World}
theorem open_cap (h : Rel base M H w) {a : Addr} {b : BI} {vs : List Value} {e : TypeId} {k len : Nat} (hb : M[a.block]? = some b) (hx : H.t.get a.block = some (.cells vs e k)) (hk : 10 ≤ k) (hd : a.off % (k - 10) = 0)
    (hl : a.off + len * (k - 10) ≤ vs.length) : len ≤ capOf b a openCap ∧ b.sz = k - 10 ∧ a.off + capOf b a openCap * (k - 10) = b.tot * b.sz ∧ (∀ n, capOf b { a with off := a.off + n * (k - 10) } openCap = capOf b a openCap - n) := by
  obtain ⟨c, lo, hi, hc, hv, _, h1, hsh0⟩ := h.blk _ _ _ hb hx
  obtain ⟨h2, h3, h4⟩ := h1 hk
  have hlen := hv.length
  have hsh : b.sh = 0 := (hsh0 (by omega)).1
  simp only [hsh, List.drop_zero, List.length_take, Array.length_toList] at hlen
  have hsz : b.sz = k - 10 := by omega
  rw [← hsz] at hd hl ⊢
  have hcs : vs.length ≤ c.size := by omega
  generalize hz : b.sz = z at *
  obtain ⟨q, hq⟩ : ∃ q, a.off = q * z := ⟨a.off / z, by have := Nat.div_add_mod a.off z; rw [hd, Nat.mul_comm] at this; omega⟩
  have hdiv : a.off / z = q := by rw [hq]; exact Nat.mul_div_cancel _ h4
  have hql : q + len ≤ b.tot := by
    have : (q + len) * z ≤ b.tot * z := by rw [Nat.add_mul, ← hq, ← h2]; omega
    exact Nat.le_of_mul_le_mul_right this h4
  simp only [capOf, if_true, hz, hdiv]
  refine ⟨by omega, trivial, ?_, fun n => ?_⟩
  · rw [hq, ← Nat.add_mul]; congr 1; omega
  · have : (a.off + n * z) / z = q + n := by rw [hq, ← Nat.add_mul]; exact Nat.mul_div_cancel _ h4
    rw [this]; omega
def aSlice (P : Program) (H : AHeap) (t : TypeId) (x : Value) (lo hi mx : Option Value) : Option Value :=
  match x with
  | .slice (some a) len cap =>
    match pureRun P (underlying t), mx with
    | some (.slice elem), none =>
      if a.spot = some 7 then
        match pureRun P (Instr.sliceBounds true 0 0 lo hi none), pureRun P (sizeOf elem) with
        | some _, some _ => some emptySlice
        | _, _ => none
      else if cap = openCap then
        match H.t.get a.block, pureRun P (sizeOf elem), pureRun P (Instr.sliceBounds true len len lo hi none) with
        | some (.cells vs _ k), some size, some (l, h, _) =>
          if k = 10 + size ∧ a.off % size = 0 ∧ a.off + len * size ≤ vs.length ∧ a.spot = none then
            if l = len then some emptySlice else some (.slice (some (a.add (l * size))) (h - l) openCap)
          else none
        | _, _, _ => none
      else
        match pureRun P (sizeOf elem), pureRun P (Instr.sliceBounds true len cap lo hi none) with
        | some size, some (l, h, m) => if a.spot = none ∧ m - l ≠ openCap then some (.slice (some (if m = l then a else a.add (l * size))) (h - l) (m - l)) else none
        | _, _ => none
    | some (.slice elem), some v =>
      if a.spot = some 7 then none
      else if cap = openCap then
        match H.t.get a.block, pureRun P (sizeOf elem), pureRun P (Instr.sliceBounds true len len lo hi (some v)) with
        | some (.cells vs _ k), some size, some (l, h, m) =>
          if k = 10 + size ∧ a.off % size = 0 ∧ a.off + len * size ≤ vs.length ∧ a.spot = none ∧ m - l ≠ openCap then some (.slice (some (if m = l then a else a.add (l * size))) (h - l) (m - l)) else none
        | _, _, _ => none
      else
        match pureRun P (sizeOf elem), pureRun P (Instr.sliceBounds true len cap lo hi (some v)) with
        | some size, some (l, h, m) => if a.spot = none ∧ m - l ≠ openCap then some (.slice (some (if m = l then a else a.add (l * size))) (h - l) (m - l)) else none
        | _, _ => none
    | _, _ => none
  | .pointer (some a) =>
    match pureRun P (underlying t) with
    | some (.array n elem) =>
      match pureRun P (sizeOf elem), pureRun P (Instr.sliceBounds false n n lo hi mx) with
      | some size, some (l, h, m) => if a.spot = none ∧ m - l ≠ openCap then some (.slice (some (if m = l then a else a.add (l * size))) (h - l) (m - l)) else none
      | _, _ => none
    | _ => none
  | x => match pureRun P (Instr.sliceAt t x lo hi mx) with
    | some v => if flat x ∧ flat v then some v else none
    | none => none
theorem VR.slice_at {b : BI} {a : Addr} (hb : M[a.block]? = some b) (hs : a.spot = none) (l n c : Nat) (hc : c ≠ openCap) (p : Prop) [Decidable p] :
    VR M (.slice (some (if p then a else a.add l)) n c) (.slice (some (if p then (b.ad a) else (b.ad a).add l)) n c) := by
  obtain ⟨bk, off, spot⟩ := a
  simp only at hs hb; subst hs
  simp only [VR, add_none]
  split
  · rw [if_neg (by simp)]; exact ⟨b, hb, by simp [capOf, hc]⟩
  · rw [if_neg (by simp)]; exact ⟨b, hb, by simp [capOf, hc, Addr.add, Nat.add_right_comm]⟩
end
end Go.Ax
