/-
  A part of the proof: what the run over an abstract memory gives; conditions: those of each theorem.
-/
import Derived.Test.YtpfenodmchhglaaA3
import Derived.Laws.Cells
namespace Go.Ax
/-- The world w' is w with block g turned. -/
structure Turned (g : Nat) (w w' : World) : Prop where
  os : w'.os = w.os
  tape : w'.tape = w.tape
  output : w'.output = w.output
  size : w'.heap.size = w.heap.size
  other : ∀ k, k ≠ g → w'.heap[k]? = w.heap[k]?
theorem Turned.refl (g : Nat) (w : World) : Turned g w w := ⟨rfl, rfl, rfl, rfl, fun _ _ => rfl⟩
theorem Turned.trans {g : Nat} {a b c : World} (h : Turned g a b) (k : Turned g b c) : Turned g a c :=
  ⟨k.os.trans h.os, k.tape.trans h.tape, k.output.trans h.output, k.size.trans h.size, fun i hi => (k.other i hi).trans (h.other i hi)⟩
theorem Turned.below {g : Nat} {base : Prot} {w w' : World} (h : Turned g w w') (hb : ¬ base g) : Below base w w' :=
  ⟨h.os, h.tape, h.output, by rw [h.size]; exact Nat.le_refl _, fun k hk => h.other k (fun e => hb (e ▸ hk))⟩
theorem below_push {base : Prot} {w : World} (hb : ∀ k, base k → k < w.heap.size) (o : Obj) : Below base w { w with heap := w.heap.push o } :=
  ⟨rfl, rfl, rfl, by simp, fun k hk => heap_push_old w o (hb k hk)⟩
theorem add_none (b o n : Nat) : (⟨b, o, none⟩ : Addr).add n = ⟨b, o + n, none⟩ := by
  unfold Addr.add; split <;> simp_all
theorem cell_of_heap {w : World} {g o : Nat} {c : Array Value} {e : TypeId} {f : Nat × Nat} (h : w.heap[g]? = some (.cells c e f)) : w.cell? ⟨g, o, none⟩ = c[o]? := by
  simp [World.cell?, h]
theorem frozen_of_heap {w : World} {g o : Nat} {c : Array Value} {e : TypeId} {lo hi : Nat} (h : w.heap[g]? = some (.cells c e (lo, hi))) : w.frozen? ⟨g, o, none⟩ = (decide (lo ≤ o) && decide (o < hi)) := by
  simp [World.frozen?, h]
theorem setCell_heap {w : World} {g o : Nat} {c : Array Value} {e : TypeId} {f : Nat × Nat} (v : Value) (h : w.heap[g]? = some (.cells c e f)) :
    (w.setCell ⟨g, o, none⟩ v).heap[g]? = some (.cells (c.setIfInBounds o v) e f) := by
  obtain ⟨hl, he⟩ := Array.getElem?_eq_some_iff.1 h
  simp only [World.setCell, Array.getElem?_modify, h, if_true]
  simp
theorem setCell_turned (w : World) (g o : Nat) (v : Value) : Turned g w (w.setCell ⟨g, o, none⟩ v) :=
  ⟨rfl, rfl, rfl, by simp [World.setCell], fun k hk => RowKit.Below.heap_setCell w _ v k hk⟩
theorem set_take_drop (l : List Value) (o : Nat) (v : Value) (h : o < l.length) : l.set o v = l.take o ++ [v] ++ l.drop (o + 1) := by
  rw [List.set_eq_take_append_cons_drop, if_pos h]; simp
theorem run_storeCells {P : Program} {g o : Nat} {e : TypeId} {lo hi : Nat} : ∀ (vs : List Value) (i : Nat) (c : Array Value) (w : World), w.heap[g]? = some (.cells c e (lo, hi)) → o + i + vs.length ≤ c.size →
    (lo = hi ∨ c.size ≤ lo) → (∀ v ∈ vs, v.oneCell' = true) →
    ∃ w' c', (storeCells ⟨g, o, none⟩ vs i).run P w = .ok () w' ∧ w'.heap[g]? = some (.cells c' e (lo, hi)) ∧ c'.toList = c.toList.take (o + i) ++ vs ++ c.toList.drop (o + i + vs.length) ∧ Turned g w w'
  | [], i, c, w, hg, hl, hf, h1 => ⟨w, c, rfl, hg, by simp, Turned.refl _ _⟩
  | v :: vs, i, c, w, hg, hl, hf, h1 => by
    simp only [List.length_cons] at hl
    have hlt : o + i < c.size := by omega
    have hcell : w.cell? ⟨g, o + i, none⟩ = some c[o + i] := by rw [cell_of_heap hg]; simp [hlt]
    have hfr : w.frozen? ⟨g, o + i, none⟩ = false := by
      rw [frozen_of_heap hg]; simp; omega
    have hs := setCell_heap (o := o + i) v hg
    obtain ⟨w', c', hr, hg', hc', ht⟩ := run_storeCells (P := P) (o := o) vs (i + 1) _ _ hs (by simp; omega) (by simpa using hf) (fun x hx => h1 x (List.mem_cons_of_mem _ hx))
    refine ⟨w', c', ?_, hg', ?_, (setCell_turned w g (o + i) v).trans ht⟩
    · unfold storeCells
      rw [Sem.run_bind, add_none, run_store P w _ v _ (h1 v (List.mem_cons_self ..)), hcell]
      simp only [hfr, Bool.false_eq_true, if_false, Result.andThen_ok]
      exact hr
    · rw [hc']
      simp only [Array.toList_setIfInBounds]
      have hlt' : o + i < c.toList.length := by simpa using hlt
      have h0 : (c.toList.take (o + i)).length = o + i := by rw [List.length_take, Array.length_toList]; omega
      rw [set_take_drop _ _ _ hlt']
      have t1 : List.take (o + (i + 1)) (List.take (o + i) c.toList ++ [v] ++ List.drop (o + i + 1) c.toList) = List.take (o + i) c.toList ++ [v] := by
        rw [List.take_append_of_le_length (by simp only [List.length_append, List.length_cons, List.length_nil, h0]; omega), List.take_of_length_le (by simp only [List.length_append, List.length_cons, List.length_nil, h0]; omega)]
      have t2 : List.drop (o + (i + 1) + vs.length) (List.take (o + i) c.toList ++ [v] ++ List.drop (o + i + 1) c.toList) = List.drop (o + i + (v :: vs).length) c.toList := by
        rw [List.drop_append, List.drop_eq_nil_of_le (by simp only [List.length_append, List.length_cons, List.length_nil, h0]; omega), List.nil_append, List.drop_drop]
        congr 1
        simp only [List.length_append, List.length_cons, List.length_nil, h0]; omega
      rw [t1, t2]; simp
def aCells (H : AHeap) (a : Addr) (n : Nat) : Option (List Value) :=
  match a.spot, H.t.get a.block with
  | none, some (.cells vs _ _) => if a.off + n ≤ vs.length then some ((vs.drop a.off).take n) else none
  | _, _ => none
theorem loadCells_sound' {P : Program} {base : Prot} {M : Map} {H : AHeap} {w : World} (h : Rel base M H w) {a : Addr} {n : Nat} {l : List Value} (hl : aCells H a n = some l) {b : BI} (hb : M[a.block]? = some b) :
    ∃ l', (∀ w1 : World, w1.heap = w.heap → (loadCells (b.ad a) n).run P w1 = .ok l'.toArray w1) ∧ VRL M l l' ∧ l.length = n := by
  unfold aCells at hl
  split at hl
  · rename_i vs e k hs hx
    split at hl
    · rename_i hle
      cases hl
      obtain ⟨c, lo, hi, hc, hv, _⟩ := h.blk _ _ _ hb hx
      have hlen := hv.length
      simp only [List.length_take, List.length_drop, Array.length_toList] at hlen
      refine ⟨(c.toList.drop (b.sh + a.off)).take n, fun w1 hw1 => ?_, ?_, by simp; omega⟩
      · have := run_loadCells_list (P := P) (w := w1) (b.ad a) ((c.toList.drop (b.sh + a.off)).take n) (fun j v hj => ?_)
        · rw [show ((c.toList.drop (b.sh + a.off)).take n).length = n by simp; omega] at this
          exact this
        · obtain ⟨bk, off, spot⟩ := a
          simp only at hs; subst hs
          simp only [BI.ad]
          rw [add_none, cell_of_heap (by rw [hw1]; exact hc)]
          rw [List.getElem?_take] at hj
          split at hj
          · rw [show off + b.sh + j = b.sh + off + j from by omega]; simpa using hj
          · cases hj
      · have h1 := (hv.drop a.off).take n
        rw [List.drop_take, List.take_take, Nat.min_eq_left (by omega), List.drop_drop] at h1
        exact h1
    · cases hl
  · cases hl
theorem loadCells_sound {P : Program} {base : Prot} {M : Map} {H : AHeap} {w : World} (h : Rel base M H w) {a : Addr} {n : Nat} {l : List Value} (hl : aCells H a n = some l) {b : BI} (hb : M[a.block]? = some b) :
    ∃ l', (loadCells (b.ad a) n).run P w = .ok l'.toArray w ∧ VRL M l l' ∧ l.length = n :=
  let ⟨l', h1, h2⟩ := loadCells_sound' (P := P) h hl hb
  ⟨l', h1 w rfl, h2⟩
def aStore (H : AHeap) (a : Addr) (new : List Value) : Option AHeap :=
  match a.spot, H.t.get a.block with
  | none, some (.cells vs e k) => if k ≠ 2 ∧ a.off + new.length ≤ vs.length ∧ new.all (·.oneCell') = true ∧ a.block < maxIds then some (H.put a.block (.cells (vs.take a.off ++ new ++ vs.drop (a.off + new.length)) e k)) else none
  | _, _ => none
theorem VRL.one {M : Map} : ∀ {l r : List Value}, VRL M l r → l.all (·.oneCell') = true → ∀ v ∈ r, v.oneCell' = true
  | [], _, h, _, v, hv => by rw [h.nil_cases] at hv; simp at hv
  | x :: l, _, h, k, v, hv => by
    obtain ⟨v', l', hx, hl, rfl⟩ := h.cases
    simp only [List.all_cons, Bool.and_eq_true] at k
    rcases List.mem_cons.1 hv with rfl | hv
    · exact hx.oneCell k.1
    · exact VRL.one hl k.2 v hv
theorem storeCells_sound {P : Program} {base : Prot} {M : Map} {H H' : AHeap} {w : World} (h : Rel base M H w) {a : Addr} {new new' : List Value} (hs : aStore H a new = some H') {b : BI} (hb : M[a.block]? = some b) (hn : VRL M new new') :
    ∃ w', (storeCells (b.ad a) new').run P w = .ok () w' ∧ Rel base M H' w' ∧ Below base w w' := by
  unfold aStore at hs
  split at hs
  · rename_i vs e k hsp hx
    split at hs
    · rename_i hc
      obtain ⟨hk, hle, hone, hid⟩ := hc
      cases hs
      obtain ⟨c, lo, hi, hc, hv, h0, h1, h2⟩ := h.blk _ _ _ hb hx
      obtain ⟨hsh, hbb, hfr⟩ := h2 hk
      simp only [hsh, List.drop_zero, BI.ad, Nat.add_zero] at hv ⊢
      have hlen := hv.length
      simp only [List.length_take, Array.length_toList] at hlen
      have hnl := hn.length
      obtain ⟨bk, off, spot⟩ := a
      simp only at hsp; subst hsp
      simp only at hb hx hle hid hlen ⊢
      obtain ⟨w', c', hr, hg', hc', ht⟩ := run_storeCells (P := P) (g := b.real) (o := off) new' 0 c w hc (by omega) hfr (hn.one hone)
      have hsz : c'.size = c.size := by
        have := congrArg List.length hc'
        simp at this; omega
      refine ⟨w', hr, h.put hb hx rfl hid ht.size ht.other ⟨c', lo, hi, hg', ?_, fun hk => ?_, fun hk => ?_, fun _ => ⟨hsh, hbb, by rw [hsz]; exact hfr⟩⟩, ht.below hbb⟩
      · simp only [hsh, List.drop_zero]
        have hl2 : (vs.take off ++ new ++ vs.drop (off + new.length)).length = vs.length := by simp; omega
        rw [hl2, hc']
        have e1 : List.take vs.length (c.toList.take (off + 0) ++ new' ++ c.toList.drop (off + 0 + new'.length)) = (c.toList.take vs.length).take off ++ new' ++ (c.toList.take vs.length).drop (off + new.length) := by
          have h0 : (c.toList.take (off + 0)).length = off := by simp; omega
          rw [List.take_append, List.take_of_length_le (by simp only [List.length_append, h0]; omega), List.take_take, Nat.min_eq_left (by omega), Nat.add_zero, List.drop_take]
          congr 1
          rw [hnl]
          congr 1
          simp only [List.length_append, List.length_take, Array.length_toList]; omega
        rw [e1]
        exact ((hv.take off).append hn).append (hv.drop _)
      · rw [hsz, h0 hk]; simp; omega
      · rw [hsz]; exact h1 hk
    · cases hs
  · cases hs
/-- A new row of cells, all known. -/
theorem newRow_sound {P : Program} {base : Prot} {M : Map} {H : AHeap} {w : World} (h : Rel base M H w) (hid : H.next < maxIds) {vs : List Value} {c : Array Value} (e : TypeId) (hv : VRL M vs c.toList) :
    ∃ w' b, (newRow e c).run P w = .ok (b.ad ⟨H.next, 0, none⟩) w' ∧ Rel base (M ++ [b]) (H.add (.cells vs e 0)) w' ∧ Below base w w' ∧ (M ++ [b])[H.next]? = some b := by
  refine ⟨{ w with heap := w.heap.push (.cells c e) }, { real := w.heap.size }, by simp [newRow], ?_, below_push h.base_le _, ?_⟩
  · refine h.add rfl hid ⟨c, 0, 0, heap_push_new w _, ?_, fun _ => ?_, fun hk => absurd hk (by decide), fun _ => ⟨rfl, h.fresh, .inl rfl⟩⟩
    · simp only [List.drop_zero]; rw [List.take_of_length_le (by rw [hv.length]; exact Nat.le_refl _)]; exact hv.mono (Ext.snoc M _)
    · have := hv.length; simpa using this
  · rw [← h.len]; exact get_snoc M _
end Go.Ax
