/-
  A part of the proof: what the run over an abstract memory gives; conditions: those of each theorem.
-/
import Derived.Test.YtpfenodmchhglaaA2
namespace Go.Ax
/-- The blocks that stay as they are. -/
abbrev Prot := Nat → Prop
structure Below (B : Prot) (w w' : World) : Prop where
  os : w'.os = w.os
  tape : w'.tape = w.tape
  output : w'.output = w.output
  size : w.heap.size ≤ w'.heap.size
  block : ∀ k, B k → w'.heap[k]? = w.heap[k]?
theorem Below.refl (B : Prot) (w : World) : Below B w w := ⟨rfl, rfl, rfl, Nat.le_refl _, fun _ _ => rfl⟩
theorem Below.trans {B : Prot} {a b c : World} (h : Below B a b) (k : Below B b c) : Below B a c :=
  ⟨k.os.trans h.os, k.tape.trans h.tape, k.output.trans h.output, Nat.le_trans h.size k.size, fun i hi => (k.block i hi).trans (h.block i hi)⟩
/-- What the run knows of a block. k: 0 its own, all cells known; 2 only to be read; 10 + the cells of an element: its own, of unknown capacity. -/
inductive ABlk where
  | cells (vs : List Value) (e : TypeId) (k : Nat)
  | iter (s : ByteArray) (pos : Nat)
  | loop (L : Loop) (E : T Value) (n : Nat)
  | deferred (live : Bool)
  | dead
structure AHeap where
  next : Nat
  t : T ABlk
def ABlk.live : ABlk → Bool
  | .dead => false
  | _ => true
/-- The slots of a frame: of those that the run knows. -/
def ER (M : Map) (n : Nat) (E : T Value) (tm : Array Value) : Prop := tm.size = n ∧ ∀ (t : Nat) (v : Value), E.get t = some v → ∃ r, tm[t]? = some r ∧ VR M v r
theorem ER.mono {M M' : Map} (h : Ext M M') {n : Nat} {E : T Value} {tm : Array Value} (k : ER M n E tm) : ER M' n E tm :=
  ⟨k.1, fun t v e => let ⟨r, hr, hv⟩ := k.2 t v e; ⟨r, hr, VR.mono h v r hv⟩⟩
def LoopR (M : Map) (L : Loop) (E : T Value) (n : Nat) (L' : Loop) : Prop :=
  L'.state = L.state ∧ L'.pending = L.pending ∧ L'.fn = L.fn ∧ L'.params = L.params ∧ L'.assign = L.assign ∧ L'.body = L.body ∧ ER M n E L'.tmps ∧ ∃ b, M[L.defers]? = some b ∧ L'.defers = b.real
def BlkR (M : Map) (base : Prot) (b : BI) (w : World) : ABlk → Prop
  | .cells vs e k => ∃ c lo hi, w.heap[b.real]? = some (.cells c e (lo, hi)) ∧ VRL M vs ((c.toList.drop b.sh).take vs.length) ∧
      (k = 0 → c.size = vs.length) ∧ (10 ≤ k → c.size = b.tot * b.sz ∧ b.sz + 10 = k ∧ 0 < b.sz) ∧ (k ≠ 2 → b.sh = 0 ∧ ¬ base b.real ∧ (lo = hi ∨ c.size ≤ lo))
  | .iter s p => ¬ base b.real ∧ w.heap[b.real]? = some (.stringIter s p) ∧ b.sh = 0
  | .loop L E n => ¬ base b.real ∧ ∃ L', w.heap[b.real]? = some (.loop L') ∧ LoopR M L E n L'
  | .deferred live => ¬ base b.real ∧ w.heap[b.real]? = some (.deferred (if live then some [] else none))
  | .dead => True
structure Rel (base : Prot) (M : Map) (H : AHeap) (w : World) : Prop where
  len : M.length = H.next
  base_le : ∀ k, base k → k < w.heap.size
  dom : ∀ i x, H.t.get i = some x → i < H.next
  lt : ∀ (i : Nat) (b : BI), M[i]? = some b → b.real < w.heap.size
  blk : ∀ (i : Nat) (b : BI) x, M[i]? = some b → H.t.get i = some x → BlkR M base b w x
  inj : ∀ (i j : Nat) (bi bj : BI) (xi xj : ABlk), M[i]? = some bi → M[j]? = some bj → H.t.get i = some xi → H.t.get j = some xj → xi.live = true → xj.live = true → bi.real = bj.real → i = j
theorem Rel.fresh {base : Prot} {M : Map} {H : AHeap} {w : World} (h : Rel base M H w) : ¬ base w.heap.size := fun hk => Nat.lt_irrefl _ (h.base_le _ hk)
theorem LoopR.mono {M M' : Map} (h : Ext M M') {L L' : Loop} {E : T Value} {n : Nat} (k : LoopR M L E n L') : LoopR M' L E n L' := by
  obtain ⟨a1, a2, a3, a4, a5, a6, a7, b, hb, e⟩ := k
  exact ⟨a1, a2, a3, a4, a5, a6, a7.mono h, b, h _ _ hb, e⟩
/-- A block's relation asks of the world nothing but that block. -/
theorem BlkR.keep {M M' : Map} {base : Prot} {b : BI} {w w' : World} {x : ABlk} (h : Ext M M') (k : BlkR M base b w x) (hw : w'.heap[b.real]? = w.heap[b.real]?) : BlkR M' base b w' x := by
  cases x with
  | cells vs e kk => obtain ⟨c, lo, hi, hc, hv, r⟩ := k; exact ⟨c, lo, hi, hw.trans hc, VRL.mono h _ _ hv, r⟩
  | iter s p => exact ⟨k.1, hw.trans k.2.1, k.2.2⟩
  | loop L E n => obtain ⟨hb, L', hl, hr⟩ := k; exact ⟨hb, L', hw.trans hl, hr.mono h⟩
  | deferred l => exact ⟨k.1, hw.trans k.2⟩
  | dead => trivial
theorem BlkR.dead_of {M : Map} {base : Prot} {b : BI} {w : World} {x : ABlk} (h : x.live = false) : BlkR M base b w x := by
  cases x <;> simp [ABlk.live] at h
  trivial
def maxIds : Nat := 2 ^ 39
/-- A new block. -/
def AHeap.add (H : AHeap) (x : ABlk) : AHeap := { next := H.next + 1, t := T.set 40 H.t H.next x }
def AHeap.put (H : AHeap) (i : Nat) (x : ABlk) : AHeap := { H with t := T.set 40 H.t i x }
theorem AHeap.get_add {H : AHeap} {x : ABlk} (h : H.next < maxIds) : (H.add x).t.get H.next = some x := T.get_set_same 40 _ _ _ (by simp only [maxIds] at h; omega)
theorem AHeap.get_add_other {H : AHeap} {x : ABlk} {i : Nat} (h : i ≠ H.next) : (H.add x).t.get i = H.t.get i := T.get_set_other 40 _ _ _ _ h
theorem AHeap.get_put {H : AHeap} {i : Nat} {x : ABlk} (h : i < maxIds) : (H.put i x).t.get i = some x := T.get_set_same 40 _ _ _ (by simp only [maxIds] at h; omega)
theorem AHeap.get_put_other {H : AHeap} {i j : Nat} {x : ABlk} (h : j ≠ i) : (H.put i x).t.get j = H.t.get j := T.get_set_other 40 _ _ _ _ h
theorem heap_push_old (w : World) (o : Obj) {k : Nat} (h : k < w.heap.size) : ({ w with heap := w.heap.push o } : World).heap[k]? = w.heap[k]? := by
  show (w.heap.push o)[k]? = _
  rw [Array.getElem?_push, if_neg (by omega)]
theorem heap_push_new (w : World) (o : Obj) : ({ w with heap := w.heap.push o } : World).heap[w.heap.size]? = some o := by
  show (w.heap.push o)[w.heap.size]? = _
  simp
theorem get_snoc (M : Map) (b : BI) : (M ++ [b])[M.length]? = some b := by simp
theorem get_snoc_cases {M : Map} {b c : BI} {i : Nat} (h : (M ++ [b])[i]? = some c) : (i < M.length ∧ M[i]? = some c) ∨ (i = M.length ∧ c = b) := by
  rcases Nat.lt_or_ge i M.length with hl | hl
  · left; rw [List.getElem?_append_left hl] at h; exact ⟨hl, h⟩
  · right
    rw [List.getElem?_append_right hl] at h
    have : i - M.length = 0 := by
      rcases Nat.eq_zero_or_pos (i - M.length) with h0 | h0
      · exact h0
      · rw [List.getElem?_eq_none (by simp; omega)] at h; cases h
    rw [this] at h; simp at h; exact ⟨by omega, h.symm⟩
/-- A NEW BLOCK in both. -/
theorem Rel.add {base : Prot} {M : Map} {H : AHeap} {w : World} (h : Rel base M H w) {x : ABlk} {o : Obj} {b : BI} (hb : b.real = w.heap.size) (hid : H.next < maxIds)
    (hx : BlkR (M ++ [b]) base b { w with heap := w.heap.push o } x) : Rel base (M ++ [b]) (H.add x) { w with heap := w.heap.push o } where
  len := by simp [h.len, AHeap.add]
  base_le := fun k hk => by have := h.base_le k hk; simp; omega
  dom := fun i y hy => by
    by_cases e : i = H.next
    · subst e; simp [AHeap.add]
    · rw [AHeap.get_add_other e] at hy; have := h.dom i y hy; simp [AHeap.add]; omega
  lt := fun i c hc => by
    rcases get_snoc_cases hc with ⟨_, hc⟩ | ⟨_, rfl⟩
    · have := h.lt i c hc; simp; omega
    · simp [hb]
  blk := fun i c y hc hy => by
    rcases get_snoc_cases hc with ⟨hl, hc⟩ | ⟨rfl, rfl⟩
    · rw [AHeap.get_add_other (by rw [← h.len]; omega)] at hy
      exact (h.blk i c y hc hy).keep (Ext.snoc M b) (heap_push_old w o (h.lt i c hc))
    · rw [h.len, AHeap.get_add hid] at hy; cases hy; exact hx
  inj := fun i j bi bj xi xj hi hj hxi hxj li lj e => by
    rcases get_snoc_cases hi with ⟨hli, hi'⟩ | ⟨rfl, rfl⟩ <;> rcases get_snoc_cases hj with ⟨hlj, hj'⟩ | ⟨rfl, rfl⟩
    · rw [AHeap.get_add_other (by rw [← h.len]; omega)] at hxi hxj
      exact h.inj i j bi bj xi xj hi' hj' hxi hxj li lj e
    · have := h.lt i bi hi'; omega
    · have := h.lt j bj hj'; omega
    · rfl
/-- ONE BLOCK TURNED in both. -/
theorem Rel.put {base : Prot} {M : Map} {H : AHeap} {w w' : World} (h : Rel base M H w) {i : Nat} {b : BI} {x y : ABlk} (hb : M[i]? = some b) (hx : H.t.get i = some x) (hl : x.live = true)
    (hid : i < maxIds) (hsz : w'.heap.size = w.heap.size) (hoth : ∀ k, k ≠ b.real → w'.heap[k]? = w.heap[k]?) (hy : BlkR M base b w' y) : Rel base M (H.put i y) w' where
  len := h.len
  base_le := fun k hk => by have := h.base_le k hk; omega
  dom := fun j z hz => by
    by_cases e : j = i
    · subst e; exact h.dom _ _ hx
    · rw [AHeap.get_put_other e] at hz; exact h.dom j z hz
  lt := fun j c hc => by have := h.lt j c hc; omega
  blk := fun j c z hc hz => by
    by_cases e : j = i
    · subst e; rw [AHeap.get_put hid] at hz; cases hz; rw [hb] at hc; cases hc; exact hy
    · rw [AHeap.get_put_other e] at hz
      by_cases lz : z.live = true
      · refine (h.blk j c z hc hz).keep (Ext.refl M) (hoth _ fun er => e (h.inj j i c b z x hc hb hz hx lz hl er))
      · exact BlkR.dead_of (by simpa using lz)
  inj := fun j k bj bk xj xk hj hk hxj hxk lj lk e => by
    have fix : ∀ (j : Nat) (xj : ABlk), (H.put i y).t.get j = some xj → xj.live = true → ∃ z, H.t.get j = some z ∧ z.live = true := by
      intro j xj hxj lj
      by_cases e : j = i
      · subst e; exact ⟨x, hx, hl⟩
      · rw [AHeap.get_put_other e] at hxj; exact ⟨xj, hxj, lj⟩
    obtain ⟨zj, hzj, lzj⟩ := fix j xj hxj lj
    obtain ⟨zk, hzk, lzk⟩ := fix k xk hxk lk
    exact h.inj j k bj bk zj zk hj hk hzj hzk lzj lzk e
/-- A block is forgotten. -/
theorem Rel.kill {base : Prot} {M : Map} {H : AHeap} {w : World} (h : Rel base M H w) {i : Nat} {b : BI} {x : ABlk} (hb : M[i]? = some b) (hx : H.t.get i = some x) (hl : x.live = true) (hid : i < maxIds) :
    Rel base M (H.put i .dead) w := h.put hb hx hl hid rfl (fun _ _ => rfl) trivial
/-- A FORGOTTEN BLOCK's PLACE UNDER A NEW NUMBER (an append in place). -/
theorem Rel.again {base : Prot} {M : Map} {H : AHeap} {w w' : World} (h : Rel base M H w) {i : Nat} {b b' : BI} {x y : ABlk} (hb : M[i]? = some b) (hx : H.t.get i = some x) (hl : x.live = true)
    (hid : H.next < maxIds) (hr : b'.real = b.real) (hsz : w'.heap.size = w.heap.size) (hoth : ∀ k, k ≠ b.real → w'.heap[k]? = w.heap[k]?) (hy : BlkR (M ++ [b']) base b' w' y) :
    Rel base (M ++ [b']) ((H.put i .dead).add y) w' := by
  have hi : i < H.next := h.dom _ _ hx
  have h1 : Rel base M (H.put i .dead) w' := h.put hb hx hl (by omega) hsz hoth trivial
  have hnext : (H.put i .dead).next = H.next := rfl
  refine ⟨by simp [h.len, AHeap.add, AHeap.put], h1.base_le, fun j z hz => ?_, fun j c hc => ?_, fun j c z hc hz => ?_, fun j k bj bk xj xk hj hk hxj hxk lj lk e => ?_⟩
  · by_cases e : j = H.next
    · subst e; simp [AHeap.add, AHeap.put]
    · rw [AHeap.get_add_other (by rw [hnext]; exact e)] at hz; have := h1.dom j z hz; simp [AHeap.add] at *; omega
  · rcases get_snoc_cases hc with ⟨_, hc⟩ | ⟨_, rfl⟩
    · exact h1.lt j c hc
    · rw [hr]; exact h1.lt i b hb
  · rcases get_snoc_cases hc with ⟨hlj, hc⟩ | ⟨rfl, rfl⟩
    · rw [AHeap.get_add_other (by rw [hnext, ← h.len]; omega)] at hz
      exact (h1.blk j c z hc hz).keep (Ext.snoc M _) rfl
    · have := AHeap.get_add (H := H.put i .dead) (x := y) (by rw [hnext]; exact hid)
      rw [hnext, ← h.len] at this; rw [this] at hz; cases hz; exact hy
  · have old : ∀ (j : Nat) (bj : BI) (xj : ABlk), j < M.length → M[j]? = some bj → ((H.put i .dead).add y).t.get j = some xj → xj.live = true → bj.real ≠ b.real := by
      intro j bj xj hlj hj hxj lj er
      rw [AHeap.get_add_other (by rw [hnext, ← h.len]; omega)] at hxj
      by_cases ei : j = i
      · subst ei; rw [AHeap.get_put (by omega)] at hxj; cases hxj; simp [ABlk.live] at lj
      · rw [AHeap.get_put_other ei] at hxj
        exact ei (h.inj j i bj b xj x hj hb hxj hx lj hl er)
    rcases get_snoc_cases hj with ⟨hlj, hj'⟩ | ⟨rfl, rfl⟩ <;> rcases get_snoc_cases hk with ⟨hlk, hk'⟩ | ⟨rfl, rfl⟩
    · rw [AHeap.get_add_other (by rw [hnext, ← h.len]; omega)] at hxj hxk
      exact h1.inj j k bj bk xj xk hj' hk' hxj hxk lj lk e
    · exact absurd (e.trans hr) (old j bj xj hlj hj' hxj lj)
    · exact absurd (e.symm.trans hr) (old k bk xk hlk hk' hxk lk)
    · rfl
end Go.Ax
