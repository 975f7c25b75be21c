/-
  A part of the proof: what the run over an abstract memory gives; conditions: those of each theorem.
-/
import Derived.Test.YtpfenodmchhglaaA35
import Derived.OpenShut
namespace Go.Ax
/-- A call that is known for every memory, as a contract over one world. -/
theorem calls_of_ev {P : Program} {f : FuncId} {args args' : Array Value} {v : Value} {M : Map} {H H2 : AHeap} (hv : flat v = true) (he : EvS P (.call f args H) (.value v H2)) {w : World} (hargs : VRA M args args') (hrel : Rel (fun k => k < w.heap.size) M H w) :
    Calls P f args' w fun e w' => e = .returned v ∧ RowKit.Below w.heap.size w w' := by
  intro cs
  obtain ⟨M', w', v', fr', _, hvv, _, hbel, hst, hfn, hlv⟩ := he (fun k => k < w.heap.size) M args' w cs hargs hrel
  rw [(VR.flat_iff v hv v').1 hvv] at hlv
  exact ⟨.returned v, w', fr', ⟨rfl, hbel.os, hbel.tape, hbel.output, hbel.size, hbel.block⟩, hst, hfn, hlv⟩
theorem Rel.empty {w : World} : Rel (fun k => k < w.heap.size) [] ⟨0, .nil⟩ w :=
  ⟨rfl, fun _ hk => hk, fun i x hx => by simp [T.get] at hx, fun i b hb => by simp at hb, fun i b x hb => by simp at hb, fun i j bi bj xi xj hb => by simp at hb⟩
theorem byte_of {n : Int} (h : (Lit.int .u8 n).wf = true) : ∃ b : UInt8, Value.int .u8 n = bv b := by
  obtain ⟨h0, h1⟩ := Go.bounds_u8 h
  exact ⟨UInt8.ofNat n.toNat, by unfold bv; rw [UInt8.toNat_ofNat']; congr 1; omega⟩
theorem bytes_of : ∀ {zs : List Int}, (∀ n ∈ zs, (Lit.int .u8 n).wf = true) → ∃ bs : List UInt8, zs.map (Value.int .u8) = bs.map bv
  | [], _ => ⟨[], rfl⟩
  | n :: zs, h => by
    obtain ⟨b, hb⟩ := byte_of (h n (by simp))
    obtain ⟨bs, hbs⟩ := bytes_of (zs := zs) fun n hn => h n (by simp [hn])
    exact ⟨b :: bs, by simp [hb, hbs]⟩
/-- One block, only to be read. -/
theorem Rel.read {w : World} {b off : Nat} {c : Array Value} {e : TypeId} {f : Nat × Nat} {vs : List Value} (hb : w.heap[b]? = some (.cells c e f)) (hv : VRL [{ real := b, sh := off }] vs ((c.toList.drop off).take vs.length)) :
    Rel (fun k => k < w.heap.size) [{ real := b, sh := off }] ((⟨0, .nil⟩ : AHeap).add (.cells vs e 2)) w := by
  have hg : ((⟨0, .nil⟩ : AHeap).add (.cells vs e 2)).t.get 0 = some (.cells vs e 2) := AHeap.get_add (H := ⟨0, .nil⟩) (by decide)
  have ho : ∀ i, i ≠ 0 → ((⟨0, .nil⟩ : AHeap).add (.cells vs e 2)).t.get i = none := fun i hi => by
    rw [AHeap.get_add_other (H := ⟨0, .nil⟩) hi]; cases i <;> rfl
  obtain ⟨lo, hi⟩ := f
  refine ⟨rfl, fun _ h => h, fun i x h => ?_, fun i b' h => ?_, fun i b' x h hx => ?_, fun i j bi bj xi xj h1 h2 _ _ _ _ _ => ?_⟩
  · by_cases e0 : i = 0
    · subst e0; simp [AHeap.add]
    · rw [ho i e0] at h; cases h
  · cases i with
    | zero => simp at h; subst h; exact (Array.getElem?_eq_some_iff.1 hb).1
    | succ i => simp at h
  · cases i with
    | zero =>
      simp at h; subst h
      rw [hg] at hx; cases hx
      exact ⟨c, lo, hi, hb, hv, fun h => absurd h (by decide), fun h => absurd h (by decide), fun h => absurd rfl h⟩
    | succ i => simp at h
  · have e1 : i = 0 := by have := (List.getElem?_eq_some_iff.1 h1).1; simp at this; omega
    have e2 : j = 0 := by have := (List.getElem?_eq_some_iff.1 h2).1; simp at this; omega
    rw [e1, e2]
end Go.Ax
