/-
  A part of the proof: what the run over an abstract memory gives; conditions: those of each theorem.
-/
import Derived.Test.YtpfenodmchhglaaT18
import Derived.Test.YtpfenodmchhglaaA36
import Derived.Test.YtpfenodmchhglaaRows
namespace Go.Proofs.Ytpfenodmchhglaa
open Ax
/-- What came in, as the run knows it. -/
theorem bytes_in {w : World} {a : Option Addr} {len cap : Nat} {zs : List Int}
    (h : (a = none ∧ len = 0 ∧ cap = 0 ∧ zs = []) ∨ ∃ x, a = some x ∧ len ≤ cap ∧ cap ≤ maxLen ∧ zs.length = cap ∧ (∀ i, i < zs.length → w.cell? (x.add i) = some (.int .u8 (zs.getD i 0))) ∧ ∀ n ∈ zs, (Lit.int .u8 n).wf = true) :
    ∃ M H v bs, VR M v (.slice a len cap) ∧ Rel (fun k => k < w.heap.size) M H w ∧ InB H v bs ∧ bs.length < 2 ^ 64 ∧ H.next ≤ 1 := by
  rcases h with ⟨rfl, rfl, rfl, rfl⟩ | ⟨x, rfl, hl, hm, hz, hcell, hwz⟩
  · exact ⟨[], ⟨0, .nil⟩, .slice none 0 0, [], VR.self rfl, Rel.empty, .nil, by decide, Nat.zero_le _⟩
  · by_cases h0 : cap = 0
    · subst h0
      obtain rfl : len = 0 := by omega
      exact ⟨[], ⟨0, .nil⟩, emptySlice, [], VR.emptySlice _ _, Rel.empty, .empty, by decide, Nat.zero_le _⟩
    · obtain ⟨b, off, spot⟩ := x
      have hc0 := hcell 0 (by omega)
      have hspot : spot = none := by simpa [Addr.add] using World.cell?_spot hc0
      subst hspot
      have hadd : ∀ i, (⟨b, off, none⟩ : Addr).add i = ⟨b, off + i, none⟩ := fun i => add_none ..
      simp only [hadd, World.cell?] at hcell hc0
      cases hb : w.heap[b]? with
      | none => rw [hb] at hc0; simp at hc0
      | some o =>
        cases o with
        | cells c e f =>
          simp only [hb, Option.isSome_none, Bool.false_eq_true, if_false] at hcell
          obtain ⟨bs, hbs⟩ := bytes_of hwz
          have hbl : bs.length = cap := by have := congrArg List.length hbs; simp at this; omega
          have hmax : maxLen < 2 ^ 64 := by decide
          refine ⟨[{ real := b, sh := off }], (⟨0, .nil⟩ : AHeap).add (.cells (bs.map bv) e 2), .slice (some ⟨0, 0, none⟩) (bs.take len).length cap, bs.take len, ?_, Rel.read hb ?_, ?_, ?_, by simp [AHeap.add]⟩
          · simp only [VR]
            rw [if_neg (by simp)]
            refine ⟨_, rfl, ?_⟩
            rw [List.length_take, Nat.min_eq_left (by omega)]
            simp only [capOf]
            rw [if_neg (by unfold openCap; omega)]
            simp
          · have : (c.toList.drop off).take (bs.map bv).length = bs.map bv := by
              apply List.ext_getElem?
              intro i
              rw [List.getElem?_take, ← hbs]
              simp only [List.length_map]
              by_cases hi : i < zs.length
              · rw [if_pos hi, List.getElem?_drop]
                have := hcell i hi
                rw [← Array.getElem?_toList] at this
                rw [this, List.getElem?_map, List.getElem?_eq_getElem hi]
                simp [hi]
              · rw [if_neg hi, List.getElem?_eq_none (by simp; omega)]
            rw [this]
            exact VRL.self (flatL_bv bs)
          · refine .mk (s := bs) (AHeap.get_add (H := ⟨0, .nil⟩) (by decide)) (by rw [List.length_take]; omega) ?_ (by simp [AHeap.add]) (by rw [List.length_take]; omega) (by unfold openCap; omega)
            rw [List.length_take, Nat.min_eq_left (by omega), List.drop_zero]
          · rw [List.length_take]; omega
        | _ => rw [hb] at hc0; simp at hc0
theorem imageHex_walk (a0 : Option Addr) (len0 cap0 : Nat) (z0 : List Int) (a1 : Int) (a2 : Int) (w : World)
    (w0 : (a0 = none ∧ len0 = 0 ∧ cap0 = 0 ∧ z0 = []) ∨ ∃ x, a0 = some x ∧ len0 ≤ cap0 ∧ cap0 ≤ maxLen ∧ z0.length = cap0 ∧ (∀ i, i < z0.length → w.cell? (x.add i) = some (.int .u8 (z0.getD i 0))) ∧ ∀ n ∈ z0, (Lit.int .u8 n).wf = true)
    (w1 : (Lit.int .u8 a1).wf = true) (w2 : (Lit.int .u8 a2).wf = true) :
    Calls Try.prog 9 #[.slice a0 len0 cap0, .int .u8 a1, .int .u8 a2] w fun e w' => e = .returned (.bool true) ∧ RowKit.Below w.heap.size w w' := by
  obtain ⟨M, H, v, bs, hvr, hrel, hin, hlen, hnext⟩ := bytes_in w0
  obtain ⟨b1, hb1⟩ := byte_of w1
  obtain ⟨b2, hb2⟩ := byte_of w2
  obtain ⟨r, H2, he, rfl⟩ := law_any (at_ := b1) (c := b2) hin hlen (by unfold maxIds; omega)
  rw [hb1, hb2]
  exact calls_of_ev rfl he (VRA.iff.2 (.cons hvr (.cons (VR.self rfl) (.cons (VR.self rfl) .nil)))) hrel
end Go.Proofs.Ytpfenodmchhglaa
