/-
  A part of the proof: what the run over an abstract memory gives; conditions: those of each theorem.
-/
import Derived.Test.YtpfenodmchhglaaA11
namespace Go.Ax
section
variable {P : Program} {base : Prot} {M : Map} {H H' : AHeap} {w : World}
def aCopy (P : Program) (H : AHeap) (ts : Array TypeId) (d x : Value) : Option (Value × AHeap) :=
  match ts[0]?, d with
  | some t0, .slice b dLen _ =>
    match pureRun P (underlying t0), aLenOf x with
    | some (.slice elem), some m =>
      match pureRun P (sizeOf elem) with
      | some size =>
        match aFirst H size (Nat.min m dLen) x with
        | some cells =>
          if cells = [] then some (goInt (Nat.min m dLen), H)
          else match b with
            | some a => if a.spot = none then match aStore H a cells with
              | some H' => some (goInt (Nat.min m dLen), H')
              | none => none
              else none
            | none => none
        | none => none
      | none => none
    | _, _ => none
  | _, _ => none
theorem copy_sound (h : Rel base M H w) {ts : Array TypeId} {t : TypeId} {d x v : Value} {args' : Array Value} (ha : aCopy P H ts d x = some (v, H')) (hargs : VRL M [d, x] args'.toList) :
    Snd P base M w (Builtin.copy_ ts t args') v H' := by
  obtain ⟨d', x', rfl, hd, hx⟩ := args_two hargs
  unfold aCopy at ha
  split at ha
  · rename_i t0 b dLen c h0
    split at ha
    · rename_i elem m hu hm
      split at ha
      · rename_i size hs
        split at ha
        · rename_i cells hcells
          obtain ⟨new', hr, hv⟩ := aFirst_sound (P := P) h hcells hx
          have hr := hr w rfl
          have hmr := aLenOf_sound (P := P) (w := w) hm hx
          split at ha
          · rename_i hnil; cases ha; subst hnil
            rw [hv.nil_cases] at hr
            have : ∃ b' c', d' = .slice b' dLen c' := by
              cases b with
              | none => simp only [VR] at hd; subst hd; exact ⟨_, _, rfl⟩
              | some a =>
                simp only [VR] at hd; split at hd
                · obtain ⟨rfl, _, a', c', rfl⟩ := hd; exact ⟨_, _, rfl⟩
                · obtain ⟨b', _, rfl⟩ := hd; exact ⟨_, _, rfl⟩
            obtain ⟨b', c', rfl⟩ := this
            refine Snd.still h (r := goInt (Nat.min m dLen)) ?_ (VR.self rfl)
            cases b' <;> simp [Builtin.copy_, h0, pureRun_run hu, hmr, pureRun_run hs, hr, storeCells]
          · split at ha
            · rename_i a
              split at ha
              · rename_i hsp
                simp only [VR] at hd
                rw [if_neg (by rw [hsp]; simp)] at hd
                obtain ⟨b', hb, rfl⟩ := hd
                split at ha
                · rename_i H2 hst; cases ha
                  obtain ⟨w', hr2, hrel, hbel⟩ := storeCells_sound (P := P) h hst hb hv
                  refine ⟨M, w', goInt (Nat.min m dLen), ?_, Ext.refl M, VR.self rfl, hrel, hbel⟩
                  simp [Builtin.copy_, h0, pureRun_run hu, hmr, pureRun_run hs, hr, hr2]
                · cases ha
              · cases ha
            · cases ha
        · cases ha
      · cases ha
    · cases ha
  · cases ha
/-- What bytesToString and runesToString make of the cells. -/
def bytesOf (cells : Array Value) : Sem Value := do
  let mut s := ByteArray.empty
  for c in cells do
    let .int .u8 n := c | stuck "bytesToString: byte expected"
    s := s.push (UInt8.ofNat n.toNat)
  pure (.string s)
theorem bytesToString_eq (a : Addr) (len c : Nat) : Conv.bytesToString (.slice (some a) len c) = loadCells a len >>= bytesOf := rfl
def runesOf (cells : Array Value) : Sem Value := do
  let mut s := ByteArray.empty
  for c in cells do
    let .int .i32 n := c | stuck "runesToString: rune expected"
    s := s ++ Utf8.encode n
  pure (.string s)
theorem runesToString_eq (a : Addr) (len c : Nat) : Conv.runesToString (.slice (some a) len c) = loadCells a len >>= runesOf := rfl
def aConvert (P : Program) (H : AHeap) (src dst : TypeId) (x : Value) : Option (Value × AHeap) :=
  match x with
  | .slice (some a) len _c =>
    match pureRun P (underlying src), pureRun P (underlying dst) with
    | some (.slice e), some .string =>
      match pureRun P (underlying e), (if len = 0 then some [] else if a.spot = none then aCells H a len else none) with
      | some (.int .u8), some l => if flatL l then match pureRun P (bytesOf l.toArray) with
        | some v => if flat v then some (v, H) else none
        | none => none else none
      | some (.int .i32), some l => if flatL l then match pureRun P (runesOf l.toArray) with
        | some v => if flat v then some (v, H) else none
        | none => none else none
      | _, _ => none
    | some (.slice _), some (.slice e) =>
      match src == dst, pureRun P (underlying e), H.t.get a.block with
      | true, some (.int .u8), some (.cells _vs _e' k) => if a.spot = none ∧ k ≠ 2 ∧ a.block < maxIds then some (x, H) else none
      | _, _, _ => none
    | _, _ => none
  | .string s =>
    match pureRun P (underlying src), pureRun P (underlying dst) with
    | some _, some (.slice e) => match pureRun P (underlying e) with
      | some (.int .u8) => if H.next < maxIds ∧ s.size < 2 ^ 40 then
          some (.slice (some ⟨H.next, 0, none⟩) s.size openCap, H.add (.cells (s.data.toList.map fun b => Value.int .u8 b.toNat) e 11)) else none
      | some (.int .i32) => if H.next < maxIds ∧ (Conv.runesFrom s s.size 0 #[]).size < 2 ^ 40 ∧ flatL (Conv.runesFrom s s.size 0 #[]).toList = true then
          some (.slice (some ⟨H.next, 0, none⟩) (Conv.runesFrom s s.size 0 #[]).size openCap, H.add (.cells (Conv.runesFrom s s.size 0 #[]).toList e 11)) else none
      | _ => none
    | _, some _ => match pureRun P (convert src dst (.string s)) with
      | some v => if flat v then some (v, H) else none
      | none => none
    | _, none => none
  | x => match pureRun P (convert src dst x) with
    | some v => if flat x ∧ flat v then some (v, H) else none
    | none => none
theorem freeze_turned (w : World) (g o n : Nat) : Turned g w (w.freeze ⟨g, o, none⟩ n) := by
  unfold World.freeze
  split
  · exact Turned.refl _ _
  · exact ⟨rfl, rfl, rfl, by simp, fun k hk => by simp only [Array.getElem?_modify]; rw [if_neg (by omega)]⟩
theorem freeze_heap {w : World} {g : Nat} {c : Array Value} {e : TypeId} {lo hi : Nat} (h : w.heap[g]? = some (.cells c e (lo, hi))) (hf : lo = hi ∨ c.size ≤ lo) :
    ∃ lo' hi', (w.freeze ⟨g, c.size, none⟩ 1).heap[g]? = some (.cells c e (lo', hi')) ∧ (lo' = hi' ∨ c.size ≤ lo') := by
  unfold World.freeze
  rw [if_neg (by omega)]
  simp only [Array.getElem?_modify, h, if_true, Option.map_some]
  by_cases e1 : lo = hi
  · subst e1; exact ⟨c.size, c.size + 1, by simp, .inr (Nat.le_refl _)⟩
  · rcases hf with h1 | h1
    · exact absurd h1 e1
    · have : (lo == hi) = false := by simp [e1]
      refine ⟨min lo c.size, max hi (c.size + 1), by simp [e1], .inr (by omega)⟩
theorem run_markStringish {w : World} {g o : Nat} {c : Array Value} {e : TypeId} {f : Nat × Nat} (h : w.heap[g]? = some (.cells c e f)) : (markStringish ⟨g, o, none⟩).run P w = .ok () (w.freeze ⟨g, c.size, none⟩ 1) := by
  simp [markStringish, World.shape?, h]
theorem openNew_sound (h : Rel base M H w) (hid : H.next < maxIds) {l : List Value} (hf : flatL l = true) (e : TypeId) (cap : Nat) (hc : l.length ≤ cap) (_hs : l.length < 2 ^ 40) (z : Value) :
    ∃ b, b.real = w.heap.size ∧ b.sh = 0 ∧ Rel base (M ++ [b]) (H.add (.cells l e 11)) { w with heap := w.heap.push (.cells (l.toArray ++ Array.replicate (cap - l.length) z) e) } ∧ (M ++ [b])[H.next]? = some b ∧ capOf b ⟨H.next, 0, none⟩ openCap = cap := by
  refine ⟨{ real := w.heap.size, tot := cap, sz := 1 }, rfl, rfl, ?_, by rw [← h.len]; exact get_snoc M _, by simp [capOf]⟩
  refine h.add rfl hid ⟨_, 0, 0, heap_push_new w _, ?_, fun hk => absurd hk (by omega), fun _ => ⟨by simp; omega, rfl, Nat.one_pos⟩, fun _ => ⟨rfl, h.fresh, .inl rfl⟩⟩
  rw [List.drop_zero, Array.toList_append, List.take_append_of_le_length (by simp), List.take_of_length_le (by simp)]
  exact VRL.self hf
theorem Snd.congr {s1 s2 : Sem Value} {v : Value} (e : s1.run P w = s2.run P w) (h : Snd P base M w s2 v H) : Snd P base M w s1 v H :=
  let ⟨M', w', r, hr, rest⟩ := h
  ⟨M', w', r, e.trans hr, rest⟩
theorem toString_sound (h : Rel base M H w) {a : Addr} {len c : Nat} {x' : Value} (hx : VR M (.slice (some a) len c) x') (mk : Value → Sem Value) (of : Array Value → Sem Value) {l : List Value} (hmk : ∀ a len c, mk (.slice (some a) len c) = loadCells a len >>= of)
    (hl : (if len = 0 then some [] else if a.spot = none then aCells H a len else none) = some l) (hf : flatL l = true) {v : Value} (hv : pureRun P (of l.toArray) = some v) (hfv : flat v = true) : Snd P base M w (mk x') v H := by
  simp only [VR] at hx
  split at hl
  · rename_i h0; cases hl
    subst h0
    have : ∃ a' c', x' = .slice (some a') 0 c' := by
      split at hx
      · obtain ⟨_, _, a', c', rfl⟩ := hx; exact ⟨_, _, rfl⟩
      · obtain ⟨b, _, rfl⟩ := hx; exact ⟨_, _, rfl⟩
    obtain ⟨a', c', rfl⟩ := this
    refine Snd.still h ?_ (VR.self hfv)
    rw [hmk]
    simp only [Sem.run_bind]
    have : (loadCells a' 0).run P w = .ok #[] w := rfl
    rw [this]
    exact pureRun_run hv w
  · split at hl
    · rename_i hsp
      rw [if_neg (by rw [hsp]; simp)] at hx
      obtain ⟨b, hb, rfl⟩ := hx
      obtain ⟨l', hr, hvv, _⟩ := loadCells_sound (P := P) h hl hb
      rw [(VRL.flat_iff l hf l').1 hvv] at hr
      refine Snd.still h ?_ (VR.self hfv)
      rw [hmk]
      simp only [Sem.run_bind]
      rw [hr]
      exact pureRun_run hv w
    · cases hl
theorem Rel.freeze (h : Rel base M H w) {i : Nat} {b : BI} {vs : List Value} {e : TypeId} {k : Nat} (hb : M[i]? = some b) (hget : H.t.get i = some (.cells vs e k)) (hk : k ≠ 2) (hid : i < maxIds) :
    ∃ c : Array Value, ∃ f, w.heap[b.real]? = some (.cells c e f) ∧ Rel base M H (w.freeze ⟨b.real, c.size, none⟩ 1) ∧ Below base w (w.freeze ⟨b.real, c.size, none⟩ 1) := by
  obtain ⟨cc, lo, hi, hcell, hv, h0, h1, h2⟩ := h.blk _ _ _ hb hget
  obtain ⟨hsh, hbb, hfr⟩ := h2 hk
  obtain ⟨lo', hi', hcell', hfr'⟩ := freeze_heap hcell hfr
  have ht := freeze_turned w b.real cc.size 1
  have hrel := h.put (y := .cells vs e k) hb hget rfl hid ht.size ht.other ⟨cc, lo', hi', hcell', hv, h0, h1, fun _ => ⟨hsh, hbb, hfr'⟩⟩
  refine ⟨cc, _, hcell, ⟨hrel.len, hrel.base_le, h.dom, hrel.lt, fun j c x hc hx => ?_, h.inj⟩, ht.below hbb⟩
  by_cases e1 : j = i
  · subst e1; rw [hget] at hx; cases hx
    exact hrel.blk _ _ _ hc (AHeap.get_put hid)
  · exact hrel.blk _ _ _ hc (by rw [AHeap.get_put_other e1]; exact hx)
theorem convert_sound (h : Rel base M H w) {src dst : TypeId} {x x' v : Value} (ha : aConvert P H src dst x = some (v, H')) (hx : VR M x x') : Snd P base M w (convert src dst x') v H' := by
  unfold aConvert at ha
  split at ha
  · rename_i a len c
    have hx0 := hx
    simp only [VR] at hx
    have hx' : ∃ a' c', x' = .slice (some a') len c' := by
      split at hx
      · obtain ⟨rfl, _, a', c', rfl⟩ := hx; exact ⟨_, _, rfl⟩
      · obtain ⟨b, _, rfl⟩ := hx; exact ⟨_, _, rfl⟩
    split at ha
    · rename_i e hs hd
      split at ha
      · rename_i l hu hl
        split at ha
        · rename_i hf
          split at ha
          · rename_i v0 hv0
            split at ha
            · rename_i hfv; cases ha
              refine Snd.congr ?_ (toString_sound (P := P) h hx0 Conv.bytesToString bytesOf bytesToString_eq hl hf hv0 hfv)
              obtain ⟨a', c', rfl⟩ := hx'
              simp [convert, pureRun_run hs, pureRun_run hd, pureRun_run hu]
            · cases ha
          · cases ha
        · cases ha
      · rename_i l hu hl
        split at ha
        · rename_i hf
          split at ha
          · rename_i v0 hv0
            split at ha
            · rename_i hfv; cases ha
              refine Snd.congr ?_ (toString_sound (P := P) h hx0 Conv.runesToString runesOf runesToString_eq hl hf hv0 hfv)
              obtain ⟨a', c', rfl⟩ := hx'
              simp [convert, pureRun_run hs, pureRun_run hd, pureRun_run hu]
            · cases ha
          · cases ha
        · cases ha
      · cases ha
    · rename_i e0 e hs hd
      split at ha
      · rename_i vs e' k heq hu hget
        split at ha
        · rename_i hc; cases ha
          obtain ⟨hsp, hk, hid⟩ := hc
          rw [if_neg (by rw [hsp]; simp)] at hx
          obtain ⟨b, hb, rfl⟩ := hx
          obtain ⟨bk, off, spot⟩ := a
          simp only at hsp hb hget hid; subst hsp
          obtain ⟨cc, f, hcell, hrel, hbel⟩ := h.freeze hb hget hk hid
          exact ⟨M, _, _, by simp [convert, pureRun_run hs, pureRun_run hd, heq, pureRun_run hu, run_markStringish hcell], Ext.refl M, hx0, hrel, hbel⟩
        · cases ha
      · cases ha
    · cases ha
  · rename_i s
    simp only [VR] at hx; subst hx
    split at ha
    · rename_i d1 e hus hd
      have below1 : ∀ {w1 : World}, w1.heap = w.heap → w1.os = w.os → w1.tape = w.tape → w1.output = w.output → Below base w w1 :=
            fun e1 e2 e3 e4 => ⟨e2, e3, e4, by rw [e1]; exact Nat.le_refl _, fun k _ => by rw [e1]⟩
      split at ha
      · rename_i hu
        split at ha
        · rename_i hc; cases ha
          have hsz : (s.data.toList.map fun b => Value.int .u8 b.toNat).length = s.size := by simp
          have hge : s.size ≤ (Question.appendCap s.size 0 e).cut (w.tape w.drawn (Question.appendCap s.size 0 e)) := by simp [Question.cut]
          obtain ⟨b, hbr, hsh, hrel, hbm, hcap⟩ := openNew_sound (h.of_heap (w' := { w with drawn := w.drawn + 1 }) rfl) hc.1 (flatL_bytes s.data.toList) e _ (by rw [hsz]; exact hge) (by rw [hsz]; exact hc.2) (.int .u8 0)
          rw [hsz] at hrel
          obtain ⟨cc, f, hcell, hrel2, hbel⟩ := hrel.freeze hbm (AHeap.get_add hc.1) (by decide) hc.1
          have hbelow := (below1 (w1 := { w with drawn := w.drawn + 1 }) rfl rfl rfl rfl).trans ((below_push (w := { w with drawn := w.drawn + 1 }) h.base_le _).trans hbel)
          refine ⟨_, _, .slice (some ⟨b.real, 0, none⟩) s.size ((Question.appendCap s.size 0 e).cut (w.tape w.drawn (Question.appendCap s.size 0 e))), ?_, Ext.snoc M b, ?_, hrel2, hbelow⟩
          · have e1 : ((s.data.map fun b => Value.int .u8 (b.toNat : Int)) ++ Array.replicate ((Question.appendCap s.size 0 e).cut (w.tape w.drawn (Question.appendCap s.size 0 e)) - s.size) (.int .u8 0)) =
              ((s.data.toList.map fun b => Value.int .u8 b.toNat).toArray ++ Array.replicate ((Question.appendCap s.size 0 e).cut (w.tape w.drawn (Question.appendCap s.size 0 e)) - s.size) (.int .u8 0)) := by
                congr 1
                apply Array.ext'; simp
            have hms := run_markStringish (P := P) (o := 0) hcell
            simp only [hbr] at hms ⊢
            simp only [convert, Sem.run_bind, pureRun_run hd, pureRun_run hus, Result.andThen_ok, pureRun_run hu, Conv.stringToBytes, run_choose, Question.forced, Bool.false_eq_true, if_false, newRow, run_newObj, Sem.run_pure]
            rw [e1]
            rw [hms]
            rfl
          · simp only [VR]; rw [if_neg (by simp)]; exact ⟨b, hbm, by rw [hcap]; simp [BI.ad, hsh]⟩
        · cases ha
      · rename_i hu
        split at ha
        · rename_i hc; cases ha
          generalize hel : Conv.runesFrom s s.size 0 #[] = elems at *
          have hge : elems.toList.length ≤ (Question.appendCap elems.size 0 e).cut (w.tape w.drawn (Question.appendCap elems.size 0 e)) := by simp [Question.cut]
          obtain ⟨b, hbr, hsh, hrel, hbm, hcap⟩ := openNew_sound (h.of_heap (w' := { w with drawn := w.drawn + 1 }) rfl) hc.1 hc.2.2 e _ hge (by simpa using hc.2.1) (.int .i32 0)
          simp only [Array.length_toList] at hrel
          have hbelow := (below1 (w1 := { w with drawn := w.drawn + 1 }) rfl rfl rfl rfl).trans (below_push (w := { w with drawn := w.drawn + 1 }) h.base_le (.cells (elems.toList.toArray ++ Array.replicate ((Question.appendCap elems.size 0 e).cut (w.tape w.drawn (Question.appendCap elems.size 0 e)) - elems.size) (.int .i32 0)) e))
          refine ⟨_, _, .slice (some ⟨b.real, 0, none⟩) elems.size ((Question.appendCap elems.size 0 e).cut (w.tape w.drawn (Question.appendCap elems.size 0 e))), ?_, Ext.snoc M b, ?_, hrel, hbelow⟩
          · simp only [hbr]
            simp only [convert, Sem.run_bind, pureRun_run hd, pureRun_run hus, Result.andThen_ok, pureRun_run hu, Conv.stringToRunes, hel, run_choose, Question.forced, Bool.false_eq_true, if_false, newRow, run_newObj, Sem.run_pure]
          · simp only [VR]; rw [if_neg (by simp)]; exact ⟨b, hbm, by rw [hcap]; simp [BI.ad, hsh]⟩
        · cases ha
      · cases ha
    · split at ha
      · rename_i v0 hv0
        split at ha
        · rename_i hf; cases ha
          exact Snd.still h (pureRun_run hv0 w) (VR.self hf)
        · cases ha
      · cases ha
    · cases ha
  · split at ha
    · rename_i v0 hv0
      split at ha
      · rename_i hf; cases ha
        rw [(VR.flat_iff _ hf.1 _).1 hx]
        exact Snd.still h (pureRun_run hv0 w) (VR.self hf.2)
      · cases ha
    · cases ha
/-- A range over a string. -/
def aRange (P : Program) (H : AHeap) (t : TypeId) : Value → Option (Value × AHeap)
  | .string s => match pureRun P (underlying t) with
    | some .string => if H.next < maxIds then some (.pointer (some ⟨H.next, 0, none⟩), H.add (.iter s 0)) else none
    | _ => none
  | _ => none
theorem range_sound (h : Rel base M H w) {t : TypeId} {x x' v : Value} (ha : aRange P H t x = some (v, H')) (hx : VR M x x') : Snd P base M w (Instr.range t x') v H' := by
  unfold aRange at ha
  split at ha
  · rename_i s
    simp only [VR] at hx; subst hx
    split at ha
    · rename_i hu
      split at ha
      · rename_i hid; cases ha
        have hrel := h.add (x := .iter s 0) (o := .stringIter s 0) (b := { real := w.heap.size }) rfl hid ⟨h.fresh, heap_push_new w _, rfl⟩
        refine ⟨_, _, .pointer (some ⟨w.heap.size, 0, none⟩), ?_, Ext.snoc M _, ?_, hrel, below_push h.base_le _⟩
        · simp [Instr.range, pureRun_run hu]
        · simp only [VR]; exact ⟨_, by rw [← h.len]; exact get_snoc M _, rfl⟩
      · cases ha
    · cases ha
  · cases ha
def aNext (H : AHeap) (isString : Bool) : Value → Option (Value × AHeap)
  | .pointer (some ⟨r, 0, _⟩) =>
    match H.t.get r, isString with
    | some (.iter s pos), true =>
      if r < maxIds then
        if pos < s.size then
          some (.tuple #[.bool true, goInt pos, .int .i32 (Utf8.decode s pos).1], H.put r (.iter s (pos + (Utf8.decode s pos).2)))
        else some (.tuple #[.bool false], H)
      else none
    | _, _ => none
  | _ => none
theorem run_getObj {r : Nat} {o : Obj} (h : w.heap[r]? = some o) (hc : ∀ c e f, o ≠ .cells c e f) : (getObj r).run P w = .ok o w := by
  cases o with
  | cells c e f => exact absurd rfl (hc c e f)
  | _ => simp [getObj, Sem.run, h]
theorem run_setObj {r : Nat} {o o' : Obj} (h : w.heap[r]? = some o) (hc : ∀ c e f, o ≠ .cells c e f) : (setObj r o').run P w = .ok () { w with heap := w.heap.setIfInBounds r o' } := by
  cases o with
  | cells c e f => exact absurd rfl (hc c e f)
  | _ => simp [setObj, Sem.run, h]
theorem setObj_turned (w : World) (g : Nat) (o : Obj) : Turned g w { w with heap := w.heap.setIfInBounds g o } :=
  ⟨rfl, rfl, rfl, by simp, fun k hk => by simp only; rw [Array.getElem?_setIfInBounds_ne (by omega)]⟩
theorem setObj_heap {w : World} {g : Nat} (o : Obj) (h : g < w.heap.size) : ({ w with heap := w.heap.setIfInBounds g o } : World).heap[g]? = some o := by
  simp [h]
theorem next_sound (h : Rel base M H w) {s : Bool} {t : TypeId} {x x' v : Value} (ha : aNext H s x = some (v, H')) (hx : VR M x x') : Snd P base M w (Instr.next x' s t) v H' := by
  unfold aNext at ha
  split at ha
  · rename_i r sp
    simp only [VR] at hx
    obtain ⟨b, hb, rfl⟩ := hx
    split at ha
    · rename_i str pos hget
      split at ha
      · rename_i hid
        obtain ⟨hbb, hcell, hsh⟩ := h.blk _ _ _ hb hget
        have had : b.ad ⟨r, 0, sp⟩ = ⟨b.real, 0, sp⟩ := by simp [BI.ad, hsh]
        rw [had]
        have hlt := h.lt _ _ hb
        split at ha
        · rename_i hp; cases ha
          have ht := setObj_turned w b.real (.stringIter str (pos + (Utf8.decode str pos).2))
          refine ⟨M, _, _, ?_, Ext.refl M, VR.self rfl, h.put hb hget rfl hid ht.size ht.other ⟨hbb, setObj_heap _ hlt, hsh⟩, ht.below hbb⟩
          simp [Instr.next, run_getObj hcell (by simp), run_setObj hcell (by simp), hp]
        · rename_i hp; cases ha
          refine Snd.still h ?_ (VR.self rfl)
          simp [Instr.next, run_getObj hcell (by simp), hp]
      · cases ha
    · cases ha
  · cases ha
end
end Go.Ax
