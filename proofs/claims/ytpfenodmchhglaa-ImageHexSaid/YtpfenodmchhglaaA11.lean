/-
  A part of the proof: what the run over an abstract memory gives; conditions: those of each theorem.
-/
import Derived.Test.YtpfenodmchhglaaA10
namespace Go.Ax
section
variable {P : Program} {base : Prot} {M : Map} {H H' : AHeap} {w : World}
/-- The relation asks of a world its blocks alone. -/
theorem Rel.of_heap {w' : World} (h : Rel base M H w) (hw : w'.heap = w.heap) : Rel base M H w' where
  len := h.len
  base_le := by rw [hw]; exact h.base_le
  dom := h.dom
  lt := fun i b hb => by rw [hw]; exact h.lt i b hb
  blk := fun i b x hb hx => (h.blk i b x hb hx).keep (Ext.refl M) (by rw [hw])
  inj := h.inj
theorem size_zeroCells (z : Array Value) (n : Nat) : (Builtin.zeroCells z n).size = n * z.size := by simp [Builtin.zeroCells]
/-- What append makes anew: at a capacity that is not known. -/
theorem grown_sound (h : Rel base M H w) (hid : H.next < maxIds) {T : AppT} (hz : T.zero.size = T.size) (hpos : 0 < T.size) {l l' : List Value} (hv : VRL M l l') {need newCap : Nat} (hl : l.length = need * T.size) (hn : need ≤ newCap) :
    ∃ w' b, (newRow T.elem (l'.toArray ++ Builtin.zeroCells T.zero (newCap - need))).run P w = .ok (b.ad ⟨H.next, 0, none⟩) w' ∧ Rel base (M ++ [b]) (H.add (.cells l T.elem (10 + T.size))) w' ∧ Below base w w' ∧
      (M ++ [b])[H.next]? = some b ∧ capOf b ⟨H.next, 0, none⟩ openCap = newCap := by
  have hvl := hv.length
  have hsz : (l'.toArray ++ Builtin.zeroCells T.zero (newCap - need)).size = newCap * T.size := by
    simp only [Array.size_append, List.size_toArray, size_zeroCells, hz, hvl, hl, ← Nat.add_mul]
    congr 1; omega
  refine ⟨{ w with heap := w.heap.push (.cells (l'.toArray ++ Builtin.zeroCells T.zero (newCap - need)) T.elem) }, { real := w.heap.size, tot := newCap, sz := T.size }, by simp [newRow], ?_, below_push h.base_le _, ?_, ?_⟩
  · refine h.add rfl hid ⟨_, 0, 0, heap_push_new w _, ?_, fun hk => absurd hk (by omega), fun hk => ⟨hsz, by simp; omega, hpos⟩, fun _ => ⟨rfl, h.fresh, .inl rfl⟩⟩
    rw [List.drop_zero, Array.toList_append, List.take_append_of_le_length (by simp [hvl]), List.take_of_length_le (by simp [hvl])]
    exact hv.mono (Ext.snoc M _)
  · rw [← h.len]; exact get_snoc M _
  · simp [capOf]
def aAppend (P : Program) (H : AHeap) (ts : Array TypeId) (s x : Value) : Option (Value × AHeap) :=
  match aAppT P ts, aLenOf x with
  | some T, some n =>
    match aFirst H T.size n x with
    | some new =>
      if ¬ new.length = n * T.size then none else
      match s with
      | .slice none len cap =>
        if len + n ≤ cap ∨ cap = openCap then (if len + n ≤ cap ∧ n = 0 then some (s, H) else none)
        else if len = 0 ∧ len + n < 2 ^ 40 ∧ Builtin.nextslicecap (len + n) cap * T.bytes ≤ 2 ^ 48 ∧ H.next < maxIds then
          some (.slice (some ⟨H.next, 0, none⟩) (len + n) openCap, H.add (.cells new T.elem (10 + T.size)))
        else none
      | .slice (some a) len cap =>
        if n = 0 ∧ a.spot ≠ some 7 then (if cap = openCap then
            match H.t.get a.block with
            | some (.cells vs _ k) => if k = 10 + T.size ∧ a.off % T.size = 0 ∧ a.off + len * T.size ≤ vs.length then some (s, H) else none
            | _ => none
          else if len ≤ cap then some (s, H) else none)
        else if a.spot ≠ none then none
        else if cap = openCap then
          match H.t.get a.block with
          | some (.cells vs e k) =>
            if k = 10 + T.size ∧ a.off = 0 ∧ len * T.size ≤ vs.length ∧ e = T.elem ∧ len + n < 2 ^ 40 ∧ 2 * (len + n) * T.bytes ≤ 2 ^ 48 ∧ H.next < maxIds ∧ new.all (·.oneCell') = true then
              some (.slice (some ⟨H.next, 0, none⟩) (len + n) openCap, (H.put a.block .dead).add (.cells (vs.take (len * T.size) ++ new) T.elem (10 + T.size)))
            else none
          | _ => none
        else if len + n ≤ cap then
          match aStore H (a.add (len * T.size)) new with
          | some H' => some (.slice (some a) (len + n) cap, H')
          | none => none
        else
          match aCells H a (len * T.size) with
          | some old =>
            if len + n < 2 ^ 40 ∧ Builtin.nextslicecap (len + n) cap * T.bytes ≤ 2 ^ 48 ∧ H.next < maxIds then
              some (.slice (some ⟨H.next, 0, none⟩) (len + n) openCap, H.add (.cells (old ++ new) T.elem (10 + T.size)))
            else none
          | none => none
      | _ => none
    | none => none
  | _, _ => none
theorem growBy_le (n : Nat) : ∀ (r c : Nat), 256 ≤ c → c ≤ 2 * n → Builtin.growBy n r c ≤ 2 * n
  | 0, c, _, h => h
  | r + 1, c, hc, h => by
    unfold Builtin.growBy
    split
    · exact h
    · exact growBy_le n r _ (by omega) (by omega)
theorem nextslicecap_le {n c : Nat} (h : c < n) : Builtin.nextslicecap n c ≤ 2 * n := by
  unfold Builtin.nextslicecap
  split
  · omega
  · split
    · omega
    · exact growBy_le n 4 c (by omega) (by omega)
theorem args_two {args' : Array Value} {s x : Value} (h : VRL M [s, x] args'.toList) : ∃ s' x', args' = #[s', x'] ∧ VR M s s' ∧ VR M x x' := by
  obtain ⟨s', l', hs, h2, he⟩ := h.cases
  obtain ⟨x', l2, hx, h3, rfl⟩ := h2.cases
  rw [h3.nil_cases] at he
  exact ⟨s', x', by cases args'; simp at he; subst he; rfl, hs, hx⟩
theorem append_sound (h : Rel base M H w) {ts : Array TypeId} {t : TypeId} {s x v : Value} {args' : Array Value} (ha : aAppend P H ts s x = some (v, H')) (hargs : VRL M [s, x] args'.toList) :
    Snd P base M w (Builtin.append_ ts t args') v H' := by
  obtain ⟨s', x', rfl, hs, hx⟩ := args_two hargs
  unfold aAppend at ha
  split at ha
  · rename_i T n hT hn
    have hnr := fun w1 => aLenOf_sound (P := P) (w := w1) hn hx
    split at ha
    · rename_i new hnew
      obtain ⟨new', hnewr', hnewv⟩ := aFirst_sound (P := P) h hnew hx
      have hnewr := hnewr' w rfl
      obtain ⟨_, _, _, _, _, _, _, _, _, _, _, _, _, _, _, hzs, hpos⟩ := aAppT_parts hT
      split at ha
      · cases ha
      · rename_i hlen
        simp only [Decidable.not_not] at hlen
        have hnl := hnewv.length
        split at ha
        · rename_i len cap
          simp only [VR] at hs; subst hs
          split at ha
          · split at ha
            · rename_i hc; cases ha
              obtain ⟨h1, rfl⟩ := hc
              refine Snd.still h (run_append_room hT (hnr w) hnewr h1 rfl) (VR.self rfl)
            · cases ha
          · rename_i hnc
            split at ha
            · rename_i hc; cases ha
              obtain ⟨rfl, hmax, hfit, hid⟩ := hc
              obtain ⟨newCap, w1, hge, e1, e2, e3, e4, hr⟩ := run_append_grow (P := P) (t := t) (b := none) (old := #[]) hT (hnr w) hnewr' (fun w1 _ => rfl) (by omega) hmax hfit
              obtain ⟨w', b, hrow, hrel, hbel, hb, hcap⟩ := grown_sound (P := P) (h.of_heap e1) hid hzs hpos hnewv (need := 0 + n) (newCap := newCap) (by rw [hlen]; simp) hge
              refine ⟨M ++ [b], w', .slice (some (b.ad ⟨H.next, 0, none⟩)) (0 + n) newCap, ?_, Ext.snoc M b, ?_, hrel, Below.trans ⟨e2, e3, e4, by rw [e1]; exact Nat.le_refl _, fun k _ => by rw [e1]⟩ hbel⟩
              · rw [hr]; simp only [Array.empty_append]; rw [hrow]; rfl
              · simp only [VR]; rw [if_neg (by simp)]; exact ⟨b, hb, by rw [hcap]⟩
            · cases ha
        · rename_i a len cap
          simp only [VR] at hs
          have below1 : ∀ {w1 : World}, w1.heap = w.heap → w1.os = w.os → w1.tape = w.tape → w1.output = w.output → Below base w w1 :=
            fun e1 e2 e3 e4 => ⟨e2, e3, e4, by rw [e1]; exact Nat.le_refl _, fun k _ => by rw [e1]⟩
          split at ha
          · -- nothing is appended
            rename_i hc
            obtain ⟨rfl, h7⟩ := hc
            have hnil : new = [] := List.eq_nil_of_length_eq_zero (by rw [hlen]; simp)
            subst hnil
            rw [hnewv.nil_cases] at hnewr
            rw [if_neg h7] at hs
            obtain ⟨b, hb, rfl⟩ := hs
            have key : len ≤ capOf b a cap → Snd P base M w (Builtin.append_ ts t #[.slice (some (b.ad a)) len (capOf b a cap), x']) (.slice (some a) len cap) H := fun hle => by
              refine Snd.still h (run_append_room hT (hnr w) hnewr (by omega) ?_) ?_
              · simp [storeCells]
              · simp only [VR]; rw [if_neg h7]; exact ⟨b, hb, rfl⟩
            split at ha
            · rename_i ho; subst ho
              split at ha
              · rename_i vs e k hget
                split at ha
                · rename_i hc; cases ha
                  obtain ⟨rfl, hd, hle⟩ := hc
                  obtain ⟨o1, _⟩ := open_cap h hb hget (by omega) (by simpa using hd) (by simpa using hle)
                  exact key o1
                · cases ha
              · cases ha
            · rename_i ho
              split at ha
              · rename_i hle; cases ha
                exact key (by simp [capOf, ho, hle])
              · cases ha
          · split at ha
            · cases ha
            · rename_i hsp
              simp only [ne_eq, Decidable.not_not] at hsp
              rw [if_neg (by rw [hsp]; simp)] at hs
              obtain ⟨b, hb, rfl⟩ := hs
              obtain ⟨bk, off, spot⟩ := a
              simp only at hsp hb; subst hsp
              split at ha
              · -- the capacity is not known
                rename_i ho; subst ho
                split at ha
                · rename_i vs e k hget
                  split at ha
                  · rename_i hc; cases ha
                    obtain ⟨rfl, hoff, hle, rfl, hmax, hfit, hid, hone⟩ := hc
                    simp only at hget hoff; subst hoff
                    obtain ⟨o1, o2, o3, o4⟩ := open_cap (a := ⟨bk, 0, none⟩) h hb hget (by omega) (by simp) (by simpa using hle)
                    simp only [Nat.add_sub_cancel_left, Nat.zero_add] at o2 o3
                    obtain ⟨c, lo, hi, hcell, hv, _, h1, h2⟩ := h.blk _ _ _ hb hget
                    obtain ⟨hcs, _, _⟩ := h1 (by omega)
                    obtain ⟨hsh, hbb, hfr⟩ := h2 (by omega)
                    have had : ∀ o, b.ad ⟨bk, o, none⟩ = ⟨b.real, o, none⟩ := fun o => by simp [BI.ad, hsh]
                    simp only [hsh, List.drop_zero] at hv
                    simp only [had] at *
                    have hbk : bk < H.next := h.dom _ _ hget
                    generalize hcap : capOf b ⟨bk, 0, none⟩ openCap = cap' at *
                    by_cases hroom : len + n ≤ cap'
                    · -- in place
                      have hst := run_storeCells (P := P) (g := b.real) (o := len * T.size) new' 0 c w hcell (by rw [hnl, hlen, hcs, ← o3, Nat.add_zero, ← Nat.add_mul]; exact Nat.mul_le_mul_right _ hroom) hfr (hnewv.one hone)
                      obtain ⟨w', c', hr, hg', hc', ht⟩ := hst
                      have hsz : c'.size = c.size := by
                        have e0 := congrArg List.length hc'
                        have : len * T.size + n * T.size ≤ c.size := by rw [hcs, ← o3, ← Nat.add_mul]; exact Nat.mul_le_mul_right _ hroom
                        simp only [Nat.add_zero, List.length_append, List.length_take, List.length_drop, Array.length_toList] at e0
                        omega
                      have hclen : len * T.size ≤ c.size := by rw [hcs, ← o3]; exact Nat.mul_le_mul_right _ o1
                      refine ⟨M ++ [{ b with real := b.real }], w', .slice (some ⟨b.real, 0, none⟩) (len + n) cap', ?_, Ext.snoc M _, ?_, ?_, ht.below hbb⟩
                      · refine run_append_room hT (hnr w) hnewr hroom ?_
                        simp only [add_none, Nat.zero_add]
                        exact hr
                      · simp only [VR]; rw [if_neg (by simp)]
                        refine ⟨b, by rw [← h.len]; exact get_snoc M _, ?_⟩
                        have : capOf b ⟨H.next, 0, none⟩ openCap = cap' := by rw [← hcap]; rfl
                        rw [this]; simp [BI.ad, hsh]
                      · refine h.again hb hget rfl hid rfl ht.size ht.other ⟨c', lo, hi, hg', ?_, fun hk => absurd hk (by omega), fun hk => ⟨by rw [hsz]; exact hcs, by omega, by omega⟩, fun _ => ⟨hsh, hbb, by rw [hsz]; exact hfr⟩⟩
                        have hl2 : (vs.take (len * T.size) ++ new).length = len * T.size + n * T.size := by rw [List.length_append, List.length_take, hlen]; omega
                        have hl3 : (c.toList.take (len * T.size + 0) ++ new').length = len * T.size + n * T.size := by
                          rw [List.length_append, List.length_take, hnl, hlen, Array.length_toList]; omega
                        have e1 : List.take (len * T.size + n * T.size) (c.toList.take (len * T.size + 0) ++ new' ++ c.toList.drop (len * T.size + 0 + new'.length)) = c.toList.take (len * T.size + 0) ++ new' := by
                          rw [← hl3]; exact List.take_left
                        rw [hsh, List.drop_zero, hl2, hc', e1]
                        refine (VRL.append ?_ hnewv).mono (Ext.snoc M _)
                        have := hv.take (len * T.size)
                        rw [List.take_take, Nat.min_eq_left hle] at this
                        simpa using this
                    · -- a new row
                      have hlt : cap' < len + n := by omega
                      have hfit' : Builtin.nextslicecap (len + n) cap' * T.bytes ≤ 2 ^ 48 :=
                        Nat.le_trans (Nat.mul_le_mul_right _ (nextslicecap_le hlt)) hfit
                      have holdc : aCells H ⟨bk, 0, none⟩ (len * T.size) = some ((vs.drop 0).take (len * T.size)) := by
                        simp only [aCells, hget]
                        rw [if_pos (by omega)]
                      obtain ⟨old', hold', holdv, _⟩ := loadCells_sound' (P := P) h holdc hb
                      have hk := h.kill hb hget rfl (by omega)
                      obtain ⟨newCap, w1, hge, e1, e2, e3, e4, hr⟩ := run_append_grow (P := P) (t := t) (b := some ⟨b.real, 0, none⟩) (sLen := len) (sCap := cap') (old := old'.toArray) hT (hnr w) hnewr' (fun w1 hw1 => by simpa [Builtin.firstCells, BI.ad, hsh] using hold' w1 hw1) hroom hmax hfit'
                      have hvv : VRL M (vs.take (len * T.size) ++ new) (old' ++ new') := by simpa using holdv.append hnewv
                      obtain ⟨w', b2, hrow, hrel, hbel, hb2, hcap2⟩ := grown_sound (P := P) (hk.of_heap e1) (by simpa [AHeap.put] using hid) hzs hpos hvv (need := len + n) (newCap := newCap) (by rw [List.length_append, List.length_take, hlen, Nat.add_mul]; omega) hge
                      refine ⟨M ++ [b2], w', .slice (some (b2.ad ⟨H.next, 0, none⟩)) (len + n) newCap, ?_, Ext.snoc M b2, ?_, hrel, (below1 e1 e2 e3 e4).trans hbel⟩
                      · rw [hr]
                        simp only [List.append_toArray] at hrow ⊢
                        rw [hrow]; rfl
                      · simp only [VR]; rw [if_neg (by simp)]
                        exact ⟨b2, hb2, by rw [← hcap2]; rfl⟩
                  · cases ha
                · cases ha
              · rename_i ho
                have hcap : capOf b ⟨bk, off, none⟩ cap = cap := by simp [capOf, ho]
                rw [hcap]
                split at ha
                · -- in place, the capacity known
                  rename_i hroom
                  split at ha
                  · rename_i H2 hst; cases ha
                    obtain ⟨w', hr, hrel, hbel⟩ := storeCells_sound (P := P) h hst (b := b) (by rw [add_none]; exact hb) hnewv
                    refine ⟨M, w', .slice (some (b.ad ⟨bk, off, none⟩)) (len + n) cap, ?_, Ext.refl M, ?_, hrel, hbel⟩
                    · refine run_append_room hT (hnr w) hnewr hroom ?_
                      simp only [BI.ad, add_none, Nat.add_right_comm] at hr ⊢
                      exact hr
                    · simp only [VR]; rw [if_neg (by simp)]; exact ⟨b, hb, by simp [capOf, ho]⟩
                  · cases ha
                · rename_i hroom
                  split at ha
                  · rename_i old hold
                    split at ha
                    · rename_i hc; cases ha
                      obtain ⟨hmax, hfit, hid⟩ := hc
                      obtain ⟨old', hold', holdv, holdl⟩ := loadCells_sound' (P := P) h hold hb
                      obtain ⟨newCap, w1, hge, e1, e2, e3, e4, hr⟩ := run_append_grow (P := P) (t := t) (b := some (b.ad ⟨bk, off, none⟩)) (sLen := len) (sCap := cap) (old := old'.toArray) hT (hnr w) hnewr' (fun w1 hw1 => by simpa [Builtin.firstCells] using hold' w1 hw1) hroom hmax hfit
                      obtain ⟨w', b2, hrow, hrel, hbel, hb2, hcap2⟩ := grown_sound (P := P) (h.of_heap e1) hid hzs hpos (holdv.append hnewv) (need := len + n) (newCap := newCap) (by rw [List.length_append, holdl, hlen, Nat.add_mul]) hge
                      refine ⟨M ++ [b2], w', .slice (some (b2.ad ⟨H.next, 0, none⟩)) (len + n) newCap, ?_, Ext.snoc M b2, ?_, hrel, (below1 e1 e2 e3 e4).trans hbel⟩
                      · rw [hr]
                        simp only [List.append_toArray] at hrow ⊢
                        rw [hrow]; rfl
                      · simp only [VR]; rw [if_neg (by simp)]
                        exact ⟨b2, hb2, by rw [← hcap2]⟩
                    · cases ha
                  · cases ha
        · cases ha
    · cases ha
  · cases ha
end
end Go.Ax
