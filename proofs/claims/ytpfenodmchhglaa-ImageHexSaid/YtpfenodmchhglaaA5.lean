/-
  A part of the proof: what the run over an abstract memory gives; conditions: those of each theorem.
-/
import Derived.Test.YtpfenodmchhglaaA4
namespace Go.Ax
/-- A program of the model's that touches no memory and asks nothing. -/
def pureRun {α : Type} (P : Program) : Sem α → Option α
  | .pure a => some a
  | .program k => pureRun P (k P)
  | .mark _ k => pureRun P k
  | _ => none
theorem pureRun_run {α : Type} {P : Program} {s : Sem α} {a : α} (h : pureRun P s = some a) (w : World) : s.run P w = .ok a w := by
  induction s with
  | pure b => simp [pureRun] at h; subst h; rfl
  | program k ih => simp only [pureRun] at h; exact ih _ h
  | mark m k ih => simp only [pureRun] at h; exact ih h
  | _ => simp [pureRun] at h
/-- What a step of the run is worth: the model's program, in every world that fits, gives a value that fits. -/
def Snd (P : Program) (base : Prot) (M : Map) (w : World) (s : Sem Value) (v : Value) (H' : AHeap) : Prop :=
  ∃ M' w' r, s.run P w = .ok r w' ∧ Ext M M' ∧ VR M' v r ∧ Rel base M' H' w' ∧ Below base w w'
theorem Snd.still {P : Program} {base : Prot} {M : Map} {w : World} {s : Sem Value} {v r : Value} {H : AHeap} (h : Rel base M H w) (hr : s.run P w = .ok r w) (hv : VR M v r) : Snd P base M w s v H :=
  ⟨M, w, r, hr, Ext.refl _, hv, h, Below.refl _ _⟩
section
variable {P : Program} {base : Prot} {M : Map} {H H' : AHeap} {w : World}
def aLoad (P : Program) (H : AHeap) (t : TypeId) : Value → Option Value
  | .pointer (some a) =>
    match pureRun P (isAgg t), pureRun P (sizeOf t) with
    | some true, some n => (aCells H a n).map fun l => .agg l.toArray
    | some false, _ => match aCells H a 1 with | some [x] => some x | _ => none
    | _, _ => none
  | _ => none
theorem run_load_of_loadCells {a : Addr} {x : Value} (h : (loadCells a 1).run P w = .ok #[x] w) : (load a).run P w = .ok x w := by
  unfold loadCells loadCellsFrom at h
  have h0 : a.add 0 = a := by simp [Addr.add]
  rw [h0] at h
  simp only [Sem.run_bind] at h
  cases hr : (load a).run P w with
  | halt e w1 => rw [hr] at h; cases h
  | ok v w1 => rw [hr] at h; simp [loadCellsFrom] at h; obtain ⟨rfl, rfl⟩ := h; rfl
theorem loadVar_sound (h : Rel base M H w) {t : TypeId} {v : Value} {a : Addr} (hl : aLoad P H t (.pointer (some a)) = some v) {b : BI} (hb : M[a.block]? = some b) :
    ∃ r, (loadVar t (b.ad a)).run P w = .ok r w ∧ VR M v r := by
  simp only [aLoad] at hl
  split at hl
  · rename_i n h1 h2
    rw [Option.map_eq_some_iff] at hl
    obtain ⟨l, hl, rfl⟩ := hl
    obtain ⟨l', hr, hv, _⟩ := loadCells_sound (P := P) h hl hb
    refine ⟨.agg l'.toArray, ?_, ?_⟩
    · simp [loadVar, pureRun_run h1, pureRun_run h2, hr]
    · simp only [VR]; exact ⟨_, VRA.iff.2 (by simpa using hv), rfl⟩
  · rename_i _ h1
    split at hl
    · rename_i x hx
      cases hl
      obtain ⟨l', hr, hv, _⟩ := loadCells_sound (P := P) h hx hb
      obtain ⟨x', l2, hxx, hl2, rfl⟩ := hv.cases
      rw [hl2.nil_cases] at hr
      refine ⟨x', ?_, hxx⟩
      have := run_load_of_loadCells hr
      simp only [loadVar, Sem.run_bind, pureRun_run h1, Result.andThen_ok, Bool.false_eq_true, if_false]
      exact this
    · cases hl
  · cases hl
theorem load_sound (h : Rel base M H w) {t : TypeId} {p p' v : Value} (hl : aLoad P H t p = some v) (hp : VR M p p') : Snd P base M w (Instr.loadAt t p') v H := by
  cases p with
  | pointer a =>
    cases a with
    | none => simp [aLoad] at hl
    | some a =>
      simp only [VR] at hp
      obtain ⟨b, hb, rfl⟩ := hp
      obtain ⟨r, hr, hv⟩ := loadVar_sound h hl hb
      refine Snd.still h ?_ hv
      simp [Instr.loadAt, Instr.sureAddr, hr]
  | _ => simp [aLoad] at hl
def aStoreVar (P : Program) (H : AHeap) (t : TypeId) : Value → Value → Option AHeap
  | .pointer (some a), v => match pureRun P (sizeOf t) with
    | some n => if v.cells.size = n then aStore H a v.cells.toList else none
    | none => none
  | _, _ => none
theorem store_sound (h : Rel base M H w) {t : TypeId} {p p' v v' : Value} (hs : aStoreVar P H t p v = some H') (hp : VR M p p') (hv : VR M v v') :
    ∃ w', (Instr.storeAt t p' v').run P w = .ok () w' ∧ Rel base M H' w' ∧ Below base w w' := by
  cases p with
  | pointer a =>
    cases a with
    | none => simp [aStoreVar] at hs
    | some a =>
      simp only [VR] at hp
      obtain ⟨b, hb, rfl⟩ := hp
      simp only [aStoreVar] at hs
      split at hs
      · rename_i n hn
        split at hs
        · rename_i hsz
          have hc := hv.cells
          obtain ⟨w', hr, hrel, hbel⟩ := storeCells_sound (P := P) h hs hb hc
          refine ⟨w', ?_, hrel, hbel⟩
          have : v'.cells.size = n := by have := hc.length; simp at this; omega
          simp [Instr.storeAt, Instr.sureAddr, storeVar, pureRun_run hn, this, hr]
        · cases hs
      · cases hs
  | _ => simp [aStoreVar] at hs
/-- A new row under a pointer. -/
def aNew (H : AHeap) (e : TypeId) (vs : List Value) : Option (Value × AHeap) :=
  if H.next < maxIds then some (.pointer (some ⟨H.next, 0, none⟩), H.add (.cells vs e 0)) else none
theorem newVar_sound (h : Rel base M H w) {e : TypeId} {v v' p : Value} (hn : aNew H e v.cells.toList = some (p, H')) (hv : VR M v v') :
    ∃ M' w' a, (newVar e v').run P w = .ok a w' ∧ Ext M M' ∧ VR M' p (.pointer (some a)) ∧ Rel base M' H' w' ∧ Below base w w' := by
  simp only [aNew] at hn
  split at hn
  · rename_i hid
    cases hn
    obtain ⟨w', b, hr, hrel, hbel, hb⟩ := newRow_sound (P := P) h hid e hv.cells
    exact ⟨_, w', _, hr, Ext.snoc M b, by simp only [VR]; exact ⟨b, hb, rfl⟩, hrel, hbel⟩
  · cases hn
def aAlloc (P : Program) (H : AHeap) (e : TypeId) : Option (Value × AHeap) :=
  match pureRun P (zeroValue e) with
  | some z => if flat z then aNew H e z.cells.toList else none
  | none => none
theorem alloc_sound (h : Rel base M H w) {e : TypeId} {p : Value} (hn : aAlloc P H e = some (p, H')) : Snd P base M w (Instr.alloc e true (.tuple #[])) p H' := by
  unfold aAlloc at hn
  split at hn
  · rename_i z hz
    split at hn
    · rename_i hf
      obtain ⟨M', w', a, hr, he, hv, hrel, hb⟩ := newVar_sound (P := P) h hn (VR.self hf)
      exact ⟨M', w', _, by simp [Instr.alloc, pureRun_run hz, hr], he, hv, hrel, hb⟩
    · cases hn
  · cases hn
theorem box_sound (h : Rel base M H w) {e : TypeId} {v v' p : Value} (hn : aNew H e v.cells.toList = some (p, H')) (hv : VR M v v') : Snd P base M w (Instr.box e v') p H' := by
  obtain ⟨M', w', a, hr, he, hv, hrel, hb⟩ := newVar_sound (P := P) h hn hv
  exact ⟨M', w', _, by simp [Instr.box, hr], he, hv, hrel, hb⟩
/-- Parts by place. -/
def PartsR (M : Map) : List (Nat × Value) → List (Nat × Value) → Prop
  | [], r => r = []
  | (i, v) :: l, r => ∃ v' l', VR M v v' ∧ PartsR M l l' ∧ r = (i, v') :: l'
theorem foldl_place (off : Nat) : ∀ (xs xs' : List Value) (k : Nat) (cs cs' : Array Value), VRL M xs xs' → VRL M cs.toList cs'.toList →
    VRL M ((xs.zipIdx k).foldl (fun cs (c, j) => cs.setIfInBounds (off + j) c) cs).toList ((xs'.zipIdx k).foldl (fun cs (c, j) => cs.setIfInBounds (off + j) c) cs').toList
  | [], _, _, _, _, h, hc => by rw [h.nil_cases]; simpa using hc
  | x :: xs, _, k, cs, cs', h, hc => by
    obtain ⟨x', l', hx, hl, rfl⟩ := h.cases
    simp only [List.zipIdx_cons, List.foldl_cons]
    exact foldl_place off xs l' (k + 1) _ _ hl (by simpa using hc.set (off + k) hx)
theorem fill_sound (place : Nat → Option (Nat × Nat)) : ∀ (parts parts' : List (Nat × Value)) (cs cs' out : Array Value), PartsR M parts parts' → VRL M cs.toList cs'.toList → Instr.fill place cs parts = some out →
    ∃ out', Instr.fill place cs' parts' = some out' ∧ VRL M out.toList out'.toList
  | [], _, cs, cs', out, hp, hc, ho => by simp only [PartsR] at hp; subst hp; simp only [Instr.fill, Option.some.injEq] at ho ⊢; subst ho; exact ⟨cs', rfl, hc⟩
  | (i, v) :: l, _, cs, cs', out, hp, hc, ho => by
    simp only [PartsR] at hp
    obtain ⟨v', l', hv, hl, rfl⟩ := hp
    simp only [Instr.fill] at ho ⊢
    have hcl := hv.cells.length
    have hsl := hc.length
    simp only [Array.length_toList] at hcl hsl
    cases hpl : place i with
    | none => rw [hpl] at ho; cases ho
    | some os =>
      obtain ⟨off, size⟩ := os
      rw [hpl] at ho
      simp only at ho ⊢
      rw [hcl, hsl]
      split at ho
      · cases ho
      · rename_i hcond
        rw [if_neg hcond]
        have := foldl_place (M := M) off _ _ 0 cs cs' hv.cells hc
        refine fill_sound place l l' _ _ out hl ?_ ho
        rw [← Array.foldl_toList, ← Array.foldl_toList, Array.toList_zipIdx, Array.toList_zipIdx]
        exact this
def aBuild (P : Program) (t : TypeId) (parts : Array (Nat × Value)) : Option Value :=
  match pureRun P (zeroValue t) with
  | some z =>
    if flat z then
      match pureRun P (underlying t) with
      | some (.struct fields) =>
        match pureRun P (fields.mapM fun f => do pure (f.offset, ← sizeOf f.type)) with
        | some places => (Instr.fill (places[·]?) z.cells parts.toList).map .agg
        | none => none
      | some (.array _ elem) =>
        match pureRun P (sizeOf elem) with
        | some size => (Instr.fill (fun i => some (i * size, size)) z.cells parts.toList).map .agg
        | none => none
      | _ => none
    else none
  | none => none
theorem build_sound (h : Rel base M H w) {t : TypeId} {parts parts' : Array (Nat × Value)} {v : Value} (hb : aBuild P t parts = some v) (hp : PartsR M parts.toList parts'.toList) : Snd P base M w (Instr.build t parts') v H := by
  unfold aBuild at hb
  split at hb
  · rename_i z hz
    split at hb
    · rename_i hf
      have hzz := (VR.self (M := M) hf).cells
      split at hb
      · rename_i fields hu
        split at hb
        · rename_i places hpl
          rw [Option.map_eq_some_iff] at hb
          obtain ⟨out, ho, rfl⟩ := hb
          obtain ⟨out', ho', hv⟩ := fill_sound _ _ _ _ _ _ hp hzz ho
          refine Snd.still h (r := .agg out') ?_ (by simp only [VR]; exact ⟨_, VRA.iff.2 hv, rfl⟩)
          simp only [Instr.build, Sem.run_bind, pureRun_run hz, pureRun_run hu, Result.andThen_ok, pureRun_run hpl]
          rw [ho']; rfl
        · cases hb
      · rename_i n elem hu
        split at hb
        · rename_i size hsz
          rw [Option.map_eq_some_iff] at hb
          obtain ⟨out, ho, rfl⟩ := hb
          obtain ⟨out', ho', hv⟩ := fill_sound _ _ _ _ _ _ hp hzz ho
          refine Snd.still h (r := .agg out') ?_ (by simp only [VR]; exact ⟨_, VRA.iff.2 hv, rfl⟩)
          simp only [Instr.build, Sem.run_bind, pureRun_run hz, pureRun_run hu, Result.andThen_ok, pureRun_run hsz]
          rw [ho']; rfl
        · cases hb
      · cases hb
    · cases hb
  · cases hb
end
end Go.Ax
