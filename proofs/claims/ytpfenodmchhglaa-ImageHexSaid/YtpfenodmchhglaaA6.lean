/-
  A part of the proof: what the run over an abstract memory gives; conditions: those of each theorem.
-/
import Derived.Test.YtpfenodmchhglaaA5
import Derived.IntWalk
namespace Go.Ax
section
variable {P : Program} {base : Prot} {M : Map} {H H' : AHeap} {w : World}
/-- A new slice, all its cells known. -/
def aNewSlice (H : AHeap) (e : TypeId) (vs : List Value) (l c : Nat) : Option (Value × AHeap) :=
  if H.next < maxIds ∧ c ≠ openCap then some (.slice (some ⟨H.next, 0, none⟩) l c, H.add (.cells vs e 0)) else none
theorem newSlice_sound (h : Rel base M H w) {e : TypeId} {vs : List Value} {c' : Array Value} {l c : Nat} {p : Value} (hn : aNewSlice H e vs l c = some (p, H')) (hv : VRL M vs c'.toList) :
    ∃ M' w' a, (newRow e c').run P w = .ok a w' ∧ Ext M M' ∧ VR M' p (.slice (some a) l c) ∧ Rel base M' H' w' ∧ Below base w w' := by
  simp only [aNewSlice] at hn
  split at hn
  · rename_i hid
    cases hn
    obtain ⟨w', b, hr, hrel, hbel, hb⟩ := newRow_sound (P := P) h hid.1 e hv
    refine ⟨_, w', _, hr, Ext.snoc M b, ?_, hrel, hbel⟩
    simp only [VR]
    rw [if_neg (by simp)]
    exact ⟨b, hb, by simp [capOf, hid.2]⟩
  · cases hn
theorem map_range_flat {z : Array Value} (hz : flatL z.toList = true) (n : Nat) (h0 : n = 0 ∨ 0 < z.size) : flatL ((Array.range n).map (z[· % z.size]!)).toList = true := by
  have key : ∀ (l : List Nat), (∀ i ∈ l, 0 < z.size) → flatL (l.map (z[· % z.size]!)) = true := by
    intro l
    induction l with
    | nil => intro _; rfl
    | cons i l ih =>
      intro hl
      simp only [List.map_cons, flatL, Bool.and_eq_true]
      refine ⟨?_, ih fun j hj => hl j (List.mem_cons_of_mem _ hj)⟩
      have hlt := Nat.mod_lt i (hl i (List.mem_cons_self ..))
      rw [getElem!_pos z _ hlt]
      exact flatL_mem hz _ (by simp)
  rw [Array.toList_map]
  refine key _ fun i hi => ?_
  rcases h0 with rfl | h0
  · simp at hi
  · exact h0
def aBuildSlice (P : Program) (H : AHeap) (t : TypeId) (len : Nat) (parts : Array (Nat × Value)) : Option (Value × AHeap) :=
  match pureRun P (underlying t) with
  | some (.slice elem) =>
    match pureRun P (sizeOf elem), pureRun P (zeroValue elem) with
    | some size, some z =>
      if ¬ len * size > 2 ^ 24 ∧ flatL z.cells.toList = true ∧ (len * size = 0 ∨ 0 < z.cells.size) then
        match Instr.fill (fun i => some (i * size, size)) ((Array.range (len * size)).map (z.cells[· % z.cells.size]!)) parts.toList with
        | some cells => aNewSlice H elem cells.toList len len
        | none => none
      else none
    | _, _ => none
  | _ => none
theorem buildSlice_sound (h : Rel base M H w) {t : TypeId} {len : Nat} {parts parts' : Array (Nat × Value)} {v : Value} (hb : aBuildSlice P H t len parts = some (v, H')) (hp : PartsR M parts.toList parts'.toList) :
    Snd P base M w (Instr.buildSlice t len parts') v H' := by
  unfold aBuildSlice at hb
  split at hb
  · rename_i elem hu
    split at hb
    · rename_i size z hs hz
      split at hb
      · rename_i hf
        obtain ⟨hbig, hf, hf0⟩ := hf
        split at hb
        · rename_i cells hfill
          obtain ⟨out', ho', hv⟩ := fill_sound (M := M) _ _ _ _ _ _ hp (VRL.self (map_range_flat hf (len * size) hf0)) hfill
          obtain ⟨M', w', a, hr, he, hvv, hrel, hbel⟩ := newSlice_sound (P := P) h hb hv
          refine ⟨M', w', _, ?_, he, hvv, hrel, hbel⟩
          simp only [Instr.buildSlice, Sem.run_bind, pureRun_run hu, pureRun_run hs, Result.andThen_ok, Sem.run_ite, if_neg hbig, Sem.run_pure]
          by_cases h0 : len * size = 0
          · rw [if_pos h0]
            simp only [h0] at ho' ⊢
            have e : (Array.range 0).map (z.cells[· % z.cells.size]!) = (Array.range 0).map ((#[] : Array Value)[· % (#[] : Array Value).size]!) := by simp
            rw [e] at ho'
            rw [ho']
            simp [hr]
          · rw [if_neg h0]
            simp only [pureRun_run hz, Result.andThen_ok]
            rw [ho']
            simp [hr]
        · cases hb
      · cases hb
    · cases hb
  · cases hb
def aMakeSlice (P : Program) (H : AHeap) (t : TypeId) : Value → Value → Option (Value × AHeap)
  | .int _ l, .int _ c =>
    match pureRun P (underlying t) with
    | some (.slice elem) =>
      match pureRun P (typeInfo elem), pureRun P (sizeOf elem), pureRun P (zeroValue elem) with
      | some i, some size, some z =>
        if 0 ≤ l ∧ l ≤ c ∧ c < 2 ^ 24 ∧ i.bytes * c ≤ 2 ^ 48 ∧ flatL z.cells.toList = true ∧ 0 < z.cells.size then
          aNewSlice H elem ((Array.range (c.toNat * size)).map (z.cells[· % z.cells.size]!)).toList l.toNat c.toNat
        else none
      | _, _, _ => none
    | _ => none
  | _, _ => none
theorem makeSlice_sound (h : Rel base M H w) {t : TypeId} {x y x' y' : Value} {v : Value} (hm : aMakeSlice P H t x y = some (v, H')) (hx : VR M x x') (hy : VR M y y') :
    Snd P base M w (Instr.makeSlice t x' y') v H' := by
  unfold aMakeSlice at hm
  split at hm
  · rename_i _ l _ c
    simp only [VR] at hx hy
    subst hx hy
    split at hm
    · rename_i elem hu
      split at hm
      · rename_i i size z hi hs hz
        split at hm
        · rename_i hc
          obtain ⟨h0, h1, h2, h3, hf, hzs⟩ := hc
          have wl : IntKind.i64.wrap l = l := by rw [IntKind.wrap_i64]; omega
          have wc : IntKind.i64.wrap c = c := by rw [IntKind.wrap_i64]; omega
          obtain ⟨M', w', a, hr, he, hvv, hrel, hbel⟩ := newSlice_sound (P := P) (l := l.toNat) (c := c.toNat) h hm (VRL.self (map_range_flat hf _ (.inr hzs)))
          refine ⟨M', w', _, ?_, he, hvv, hrel, hbel⟩
          have e0 : (((decide (c < 0) || decide (↑i.bytes * c > 2 ^ 48)) || decide (l < 0)) || decide (l > c)) = false := by
            simp; omega
          simp only [Instr.makeSlice, Sem.run_bind, pureRun_run hu, Result.andThen_ok, asInt, asIntOf, Sem.run_pure, pureRun_run hi, wl, wc, e0, Bool.false_eq_true, if_false, run_askRoom, pureRun_run hs, Sem.run_ite]
          by_cases hn : c.toNat * size = 0
          · rw [if_pos hn]
            rw [hn] at hr
            have e : (Array.range 0).map (z.cells[· % z.cells.size]!) = (Array.range 0).map ((#[] : Array Value)[· % (#[] : Array Value).size]!) := by simp
            rw [e] at hr
            rw [hn, hr]
            simp
          · rw [if_neg hn]
            simp only [pureRun_run hz, Result.andThen_ok]
            rw [hr]
            simp
        · cases hm
      · cases hm
    · cases hm
  · cases hm
end
end Go.Ax
