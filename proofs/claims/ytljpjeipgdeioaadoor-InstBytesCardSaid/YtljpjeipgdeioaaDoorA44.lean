/-
  A part of the proof: what a piece of the program gives; conditions: those of each theorem.
-/
import Derived.Test.YtljpjeipgdeioaaDoorA43
import Derived.Test.YtljpjeipgdeioaaDoorGE
set_option linter.unusedVariables false
namespace Go.Ax
/-- A slice of integers that came in, as the frame tells it. -/
def RowK (k : IntKind) (w : World) (a : Option Addr) (len cap : Nat) (zs : List Int) : Prop :=
  (a = none ∧ len = 0 ∧ cap = 0 ∧ zs = []) ∨
  ∃ x, a = some x ∧ len ≤ cap ∧ cap ≤ maxLen ∧ zs.length = cap ∧ (∀ i, i < zs.length → w.cell? (x.add i) = some (.int k (zs.getD i 0))) ∧ ∀ n ∈ zs, (Lit.int k n).wf = true
structure ROnly (H : AHeap) : Prop where
  ro : ∀ i x, H.t.get i = some x → x.ro = true
theorem ROnly.add {H : AHeap} (h : ROnly H) (hid : H.next < maxIds) (vs : List Value) (e : TypeId) : ROnly (H.add (.cells vs e 2)) := ⟨fun i x hx => by
  by_cases e1 : i = H.next
  · subst e1; rw [AHeap.get_add hid] at hx; cases hx; rfl
  · rw [AHeap.get_add_other e1] at hx; exact h.ro i x hx⟩
theorem flatL_ints (k : IntKind) : ∀ (l : List Int), flatL (l.map (Value.int k)) = true
  | [] => rfl
  | a :: l => by simp [flatL, flat, flatL_ints k l]
/-- One argument more, as the run knows it. -/
theorem row_in {k : IntKind} {w : World} {M : Map} {H : AHeap} (hrel : Rel (fun k => k < w.heap.size) M H w) (hro : ROnly H) (hid : H.next < maxIds) {a : Option Addr} {len cap : Nat} {zs : List Int} (h : RowK k w a len cap zs) :
    ∃ (M' : Map) (H' : AHeap) (v : Value) (l : List Int), Ext M M' ∧ Rel (fun k => k < w.heap.size) M' H' w ∧ ROnly H' ∧ Keep H H' 1 ∧ VR M' v (.slice a len cap) ∧ InS H' v (l.map (Value.int k)) ∧ l.length < 2 ^ 63 ∧ ∀ n ∈ l, (Lit.int k n).wf = true := by
  rcases h with ⟨rfl, rfl, rfl, rfl⟩ | ⟨x, rfl, hl, hm, hz, hcell, hwz⟩
  · exact ⟨M, H, .slice none 0 0, [], Ext.refl M, hrel, hro, Keep.refl _ _, VR.self rfl, .nil, by decide, fun n hn => by cases hn⟩
  · by_cases h0 : cap = 0
    · subst h0
      obtain rfl : len = 0 := by omega
      exact ⟨M, H, emptySlice, [], Ext.refl M, hrel, hro, Keep.refl _ _, VR.emptySlice _ _, .empty, by decide, fun n hn => by cases hn⟩
    · obtain ⟨b, off, spot⟩ := x
      have hc0 := hcell 0 (by omega)
      have hspot : spot = none := by simpa [Addr.add] using World.cell?_spot hc0
      subst hspot
      have hadd : ∀ i, (⟨b, off, none⟩ : Addr).add i = ⟨b, off + i, none⟩ := fun i => add_none ..
      simp only [hadd, World.cell?] at hcell hc0
      cases hb : w.heap[b]? with
      | none => rw [hb] at hc0; simp at hc0
      | some o =>
        cases o with
        | cells c e f =>
          simp only [hb, Option.isSome_none, Bool.false_eq_true, if_false] at hcell
          have hmax : maxLen < 2 ^ 63 := by decide
          have htl : (zs.take len).length = len := by rw [List.length_take]; omega
          have hcells : (c.toList.drop off).take (zs.map (Value.int k)).length = zs.map (Value.int k) := by
            apply List.ext_getElem?
            intro i
            rw [List.getElem?_take]
            simp only [List.length_map]
            by_cases hi : i < zs.length
            · rw [if_pos hi, List.getElem?_drop]
              have := hcell i hi
              rw [← Array.getElem?_toList] at this
              rw [this, List.getElem?_map, List.getElem?_eq_getElem hi]
              simp [hi]
            · rw [if_neg hi, List.getElem?_eq_none (by simp; omega)]
          refine ⟨M ++ [{ real := b, sh := off }], H.add (.cells (zs.map (Value.int k)) e 2), .slice (some ⟨H.next, 0, none⟩) ((zs.take len).map (Value.int k)).length cap, zs.take len, Ext.snoc M _, Rel.read hrel hro.ro hid hb ?_, hro.add hid _ _, ?_, ?_, ?_, by rw [htl]; omega, fun n hn => hwz n (List.mem_of_mem_take hn)⟩
          · rw [hcells]; exact VRL.self (flatL_ints k zs)
          · exact ⟨by simp [AHeap.add], by simp [AHeap.add], fun i hi => AHeap.get_add_other (by omega)⟩
          · simp only [VR]
            rw [if_neg (by simp)]
            refine ⟨_, by rw [← hrel.len]; exact get_snoc M _, ?_⟩
            rw [List.length_map, htl]
            simp only [capOf]
            rw [if_neg (by unfold openCap; omega)]
            simp
          · refine .mk (s := zs.map (Value.int k)) (AHeap.get_add hid) (by rw [List.length_map, htl, List.length_map]; omega) ?_ (by simp [AHeap.add]) (by rw [List.length_map, htl]; omega) (by unfold openCap; omega) (by omega)
            rw [List.drop_zero, List.length_map, htl, ← List.map_take]
        | _ => rw [hb] at hc0; simp at hc0
end Go.Ax
