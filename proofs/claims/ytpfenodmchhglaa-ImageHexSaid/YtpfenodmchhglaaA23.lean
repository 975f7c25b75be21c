/-
  A part of the proof: what the run over an abstract memory gives; conditions: those of each theorem.
-/
import Derived.Test.YtpfenodmchhglaaA22
namespace Go.Ax
section
variable {P : Program} {F : FuncId → Option Func} {ev : Req → Option Res} {base : Prot}
theorem run_getLoop {w : World} {l : Nat} {L : Loop} (h : w.heap[l]? = some (.loop L)) : (Instr.getLoop l).run P w = .ok L w := by
  simp [Instr.getLoop, run_getObj h (by simp)]
theorem run_endLoop {w : World} {l : Nat} {L : Loop} (h : w.heap[l]? = some (.loop L)) (hs : (L.state == .busy) = false) :
    (Instr.endLoop l).run P w = .ok L.pending { w with heap := w.heap.setIfInBounds l (.loop { L with state := .exhausted }) } := by
  have hs' : ¬ L.state = .busy := by simpa using hs
  simp [Instr.endLoop, run_getLoop h, hs', run_setObj h (by simp)]
theorem run_enterLoop_none {w : World} (fn : FuncId) (tmps : Array Value) (ps : Array Tmp) (assign body : Code) :
    (Instr.enterLoop fn tmps ps assign body none).run P w = .ok (w.heap.size + 1, [{ target := .collected w.heap.size, args := #[] }])
      { w with heap := (w.heap.push (.deferred (some []))).push (.loop { state := .ready, pending := none, fn, tmps, params := ps, assign, body, defers := w.heap.size }) } := by
  simp [Instr.enterLoop]
  rfl
theorem run_enterLoop_some {w : World} {l : Nat} {L : Loop} (h : w.heap[l]? = some (.loop L)) (fn : FuncId) (tmps : Array Value) (ps : Array Tmp) (assign body : Code) :
    (Instr.enterLoop fn tmps ps assign body (some l)).run P w = .ok (w.heap.size, []) { w with heap := w.heap.push (.loop { state := .ready, pending := none, fn, tmps, params := ps, assign, body, defers := L.defers }) } := by
  simp [Instr.enterLoop, run_getLoop h]
/-- The loop, once its record lies there: the iterator's call, and what stands behind it. -/
theorem loop_sound (_hF : ∀ f fn, F f = some fn → ∀ args w, (callFunc f args).run P w = .ok (.enter f args) w) (hev : ∀ r res, ev r = some res → SndReq P base r res)
    {fs : FrS} {s s' : AS} {g : FuncId} {first captured : Array Value} {d : Nat} {H1 H3 : AHeap} {defs : List Nat} {ps : Array Tmp} {assign body : Code} {e : AExit} {v : Value} {L : Loop} {E : T Value} {n : Nat}
    (hid : H1.next < maxIds)
    (hcall : ev (.call g (first ++ #[.func (.yield H1.next) #[] #[]] ++ captured) (H1.add (.loop { state := .ready, pending := none, fn := fs.fn, tmps := #[], params := ps, assign, body, defers := d } s.env fs.n))) = some (.value v H3))
    (hget : H3.t.get H1.next = some (.loop L E n)) (hbusy : (L.state == .busy) = false) (hex : exitOf L.pending = some e)
    (hs' : s' = { s with defs := defs, H := H3.put H1.next (.loop { L with state := .exhausted } E n) })
    {M : Map} {b : Frame} {a : Act} {k : List Item} {cs : List Frame} {w w1 : World} {first' captured' : Array Value} {mark : List Deferred} {rd : Nat}
    (hfr : FrOK M fs b) (her : ER M fs.n s.env a.tmps) (hrel : Rel base M H1 w1) (hdr : DR M defs (mark ++ a.defers)) (hb0 : Below base w w1) (hx : VRA M first first') (hy : VRA M captured captured')
    (hrd : ∃ bd, M[d]? = some bd ∧ rd = bd.real) {w2 : World} (hw2 : w2 = { w1 with heap := w1.heap.push (.loop { state := .ready, pending := none, fn := b.fn, tmps := a.tmps, params := ps, assign, body, defers := rd }) })
    {m : Machine} (hm : step P m = .next (lone (Frame.enter P g (first' ++ #[.func (.yield w1.heap.size) #[] #[]] ++ captured') .normal) (Fr b { a with defers := mark ++ a.defers } (.inRangeFunc w1.heap.size :: k) :: cs) w2)) :
    ∃ M' a' w', Ext M M' ∧ SR base M' fs.n s' a' w' ∧ Below base w w' ∧ Arr P m b k cs e a' w' := by
  subst hs' hw2
  obtain ⟨bd, hbd, rfl⟩ := hrd
  have hrel2 := hrel.add (b := { real := w1.heap.size }) (x := .loop { state := .ready, pending := none, fn := fs.fn, tmps := #[], params := ps, assign, body, defers := d } s.env fs.n)
    (o := .loop { state := .ready, pending := none, fn := b.fn, tmps := a.tmps, params := ps, assign, body, defers := bd.real }) rfl hid
    ⟨hrel.fresh, _, heap_push_new w1 _, rfl, rfl, hfr.1, rfl, rfl, rfl, her.mono (Ext.snoc M _), bd, Ext.snoc M _ _ _ hbd, rfl⟩
  have hl : (M ++ [({ real := w1.heap.size } : BI)])[H1.next]? = some { real := w1.heap.size } := by rw [← hrel.len]; exact get_snoc M _
  have hargs : VRA (M ++ [({ real := w1.heap.size } : BI)]) (first ++ #[.func (.yield H1.next) #[] #[]] ++ captured) (first' ++ #[.func (.yield w1.heap.size) #[] #[]] ++ captured') := by
    have h1 := VRA.mono (Ext.snoc M { real := w1.heap.size }) _ _ hx
    have h2 := VRA.mono (Ext.snoc M { real := w1.heap.size }) _ _ hy
    rw [VRA.iff] at h1 h2 ⊢
    simp only [Array.toList_append]
    refine (h1.append (.cons ?_ .nil)).append h2
    simp only [VR]
    exact ⟨_, #[], #[], ⟨_, hl, rfl⟩, VRA.iff.2 .nil, VRA.iff.2 .nil, rfl⟩
  obtain ⟨M', w', v', fr', hext, hv, hrel3, hbel, hst, hfn, hlv⟩ := hev _ _ hcall _ _ _ (Fr b { a with defers := mark ++ a.defers } (.inRangeFunc w1.heap.size :: k) :: cs) hargs hrel2
  have hl' := hext _ _ hl
  obtain ⟨hbb, L', hcell, q1, q2, q3, q4, q5, q6, q7, bq, q8, q9⟩ := hrel3.blk _ _ _ hl' hget
  simp only at hcell hbb
  have hlt := hrel3.lt _ _ hl'
  simp only at hlt
  have hend := run_endLoop (P := P) hcell (by rw [q1]; exact hbusy)
  have ht := setObj_turned w' w1.heap.size (.loop { L' with state := .exhausted })
  have hrel4 := hrel3.put (y := .loop { L with state := .exhausted } E n) hl' hget rfl hid ht.size ht.other ⟨hbb, { L' with state := .exhausted }, setObj_heap _ hlt, rfl, q2, q3, q4, q5, q6, q7, bq, q8, q9⟩
  have hM : Ext M M' := (Ext.snoc M _).trans hext
  have hfin : (Fr b { a with defers := mark ++ a.defers } (.inRangeFunc w1.heap.size :: k)).finish v' = Fr b { a with defers := mark ++ a.defers } (.endRangeFunc w1.heap.size :: k) := rfl
  have hsteps : Steps P m (lone (Fr b { a with defers := mark ++ a.defers } ((L'.pending.map Item.code).toList ++ k)) cs { w' with heap := w'.heap.setIfInBounds w1.heap.size (.loop { L' with state := .exhausted }) }) := by
    refine .head hm (hst.trans (.head (m₁ := lone (Fr b { a with defers := mark ++ a.defers } (.endRangeFunc w1.heap.size :: k)) cs w') ?_ (.one (st_endRangeFunc hend))))
    rw [step_leave_returned hlv, hfin]
  refine ⟨M', { a with defers := mark ++ a.defers }, _, hM, ⟨her.mono hM, hdr.mono hM, hrel4⟩, hb0.trans ((below_push hrel.base_le _).trans (hbel.trans (ht.below hbb))), ?_⟩
  have hj : (L'.pending.map Item.code).toList = (L.pending.map Item.code).toList := by rw [q2]
  rw [hj] at hsteps
  cases hp : L.pending with
  | none => rw [hp] at hex hsteps; cases hex; exact hsteps
  | some c =>
    rw [hp] at hex hsteps
    cases c <;> simp only [exitOf] at hex <;> first | (cases hex; done) | (cases hex)
    · exact ⟨k, hsteps, rfl⟩
    · exact ⟨k, hsteps, rfl⟩
    · exact ⟨k, hsteps⟩
theorem codeStep_sound (hF : ∀ f fn, F f = some fn → ∀ args w, (callFunc f args).run P w = .ok (.enter f args) w) (hmix : P.follows .mixedOrders = true) (hev : ∀ r res, ev r = some res → SndReq P base r res)
    {fs : FrS} {c : Code} {s : AS} {res : Res} (h : codeStep P F ev fs c s = some res) : SndReq P base (.code fs c s) res := by
  have hF' : ∀ f, (fun f => (F f).isSome) f = true → ∀ args w, (callFunc f args).run P w = .ok (.enter f args) w := by
    intro f hf
    obtain ⟨fn, hfn⟩ := Option.isSome_iff_exists.1 hf
    exact hF f fn hfn
  cases c with
  | skip => cases h; intro M b a k cs w hfr hsr; exact ⟨M, a, w, Ext.refl M, hsr, Below.refl _ _, .one st_skip⟩
  | label l => cases h; intro M b a k cs w hfr hsr; exact ⟨M, a, w, Ext.refl M, hsr, Below.refl _ _, .one st_label⟩
  | exit id => cases h; intro M b a k cs w hfr hsr; exact ⟨M, a, w, Ext.refl M, hsr, Below.refl _ _, k, .refl _ _, rfl⟩
  | goto l => cases h; intro M b a k cs w hfr hsr; exact ⟨M, a, w, Ext.refl M, hsr, Below.refl _ _, k, .refl _ _, rfl⟩
  | ret => cases h; intro M b a k cs w hfr hsr; exact ⟨M, a, w, Ext.refl M, hsr, Below.refl _ _, k, .refl _ _⟩
  | refuse why => cases h
  | seq x y =>
    simp only [codeStep] at h
    split at h
    · rename_i s1 hx
      have h1 := hev _ _ hx
      have h2 := hev _ _ h
      cases res with
      | value v H => exact h2.elim
      | exit e s' =>
        intro M b a k cs w hfr hsr
        obtain ⟨M1, a1, w1, x1, x2, x3, x4⟩ := h1 M b a (.code y :: k) cs w hfr hsr
        obtain ⟨M2, a2, w2, y1, y2, y3, y4⟩ := h2 M1 b a1 k cs w1 (hfr.mono x1) x2
        exact ⟨M2, a2, w2, x1.trans y1, y2, x3.trans y3, .of_steps (.head st_seq x4) y4⟩
    · rename_i hne
      have h1 := hev _ _ h
      cases res with
      | value v H => exact h1.elim
      | exit e s' =>
        intro M b a k cs w hfr hsr
        obtain ⟨M1, a1, w1, x1, x2, x3, x4⟩ := h1 M b a (.code y :: k) cs w hfr hsr
        exact ⟨M1, a1, w1, x1, x2, x3, .of_steps (.one st_seq) (.pass (x := .code y) rfl (fun e0 => by subst e0; exact hne _ h) x4)⟩
  | cond c x y =>
    simp only [codeStep] at h
    split at h
    · rename_i t hc
      have h1 := hev _ _ h
      cases res with
      | value v H => exact h1.elim
      | exit e s' =>
        intro M b a k cs w hfr hsr
        have hv := aEval_sound hsr.er c _ hc
        simp only [VR] at hv
        obtain ⟨M1, a1, w1, x1, x2, x3, x4⟩ := h1 M b a k cs w hfr hsr
        exact ⟨M1, a1, w1, x1, x2, x3, .of_steps (.one (st_cond hv)) x4⟩
    · cases h
  | block id c =>
    simp only [codeStep] at h
    split at h
    · rename_i id' s1 hc
      have h1 := hev _ _ hc
      split at h
      · rename_i hid; cases h
        intro M b a k cs w hfr hsr
        obtain ⟨M1, a1, w1, x1, x2, x3, k0, x4, x5⟩ := h1 M b a (.inBlock id :: k) cs w hfr hsr
        exact ⟨M1, a1, w1, x1, x2, x3, .head st_block (x4.trans (.one (st_exit (by rw [x5]; simp [exitTo, hid]))))⟩
      · rename_i hid; cases h
        intro M b a k cs w hfr hsr
        obtain ⟨M1, a1, w1, x1, x2, x3, k0, x4, x5⟩ := h1 M b a (.inBlock id :: k) cs w hfr hsr
        refine ⟨M1, a1, w1, x1, x2, x3, k0, .head st_block x4, ?_⟩
        rw [x5]
        have : (id == id') = false := by simp; exact fun e => hid e.symm
        simp [exitTo, this]
    · rename_i hne
      have h1 := hev _ _ h
      cases res with
      | value v H => exact h1.elim
      | exit e s' =>
        intro M b a k cs w hfr hsr
        obtain ⟨M1, a1, w1, x1, x2, x3, x4⟩ := h1 M b a (.inBlock id :: k) cs w hfr hsr
        refine ⟨M1, a1, w1, x1, x2, x3, .of_steps (.one st_block) ?_⟩
        cases e with
        | normal => exact x4.trans (.one st_inBlock)
        | exit id' => exact absurd h (hne _ _)
        | goto l => obtain ⟨k0, y1, y2⟩ := x4; exact ⟨k0, y1, by rw [y2]; simp [gotoIn]⟩
        | ret => exact x4
  | loop c =>
    simp only [codeStep] at h
    split at h
    · rename_i s1 hc
      have h1 := hev _ _ hc
      have h2 := hev _ _ h
      cases res with
      | value v H => exact h2.elim
      | exit e s' =>
        intro M b a k cs w hfr hsr
        obtain ⟨M1, a1, w1, x1, x2, x3, x4⟩ := h1 M b a (.inLoop c :: k) cs w hfr hsr
        obtain ⟨M2, a2, w2, y1, y2, y3, y4⟩ := h2 M1 b a1 k cs w1 (hfr.mono x1) x2
        exact ⟨M2, a2, w2, x1.trans y1, y2, x3.trans y3, .of_steps (.head st_loop x4) y4⟩
    · rename_i hne
      have h1 := hev _ _ h
      cases res with
      | value v H => exact h1.elim
      | exit e s' =>
        intro M b a k cs w hfr hsr
        obtain ⟨M1, a1, w1, x1, x2, x3, x4⟩ := h1 M b a (.inLoop c :: k) cs w hfr hsr
        exact ⟨M1, a1, w1, x1, x2, x3, .of_steps (.one st_loop) (.pass (x := .inLoop c) rfl (fun e0 => by subst e0; exact hne _ h) x4)⟩
  | scope c =>
    simp only [codeStep] at h
    have h1 := hev _ _ h
    cases res with
    | value v H => exact h1.elim
    | exit e s' =>
      intro M b a k cs w hfr hsr
      obtain ⟨M1, a1, w1, x1, x2, x3, x4⟩ := h1 M b a k cs w hfr hsr
      exact ⟨M1, a1, w1, x1, x2, x3, .of_steps (.one st_scope) x4⟩
  | region id ops draw =>
    cases draw with
    | false =>
      simp only [codeStep] at h
      rw [Option.map_eq_some_iff] at h
      obtain ⟨⟨E', H'⟩, hr, h⟩ := h
      cases h
      intro M b a k cs w hfr hsr
      obtain ⟨M1, a1, w1, x1, x2, x3, x4, x5, x6⟩ := opsRun_sound hF' hev _ hr hsr.er hsr.rel b k cs
      exact ⟨M1, a1, w1, x1, ⟨x2, by rw [x3]; exact hsr.dr.mono x1, x4⟩, x5, .head st_region x6⟩
    | true =>
      simp only [codeStep] at h
      rw [Option.map_eq_some_iff] at h
      obtain ⟨⟨E', H'⟩, hr, h⟩ := h
      cases h
      intro M b a k cs w hfr hsr
      have hsched := schedule_sound hmix (w.tape w.drawn (.order b.fn id)) hr
      obtain ⟨M1, a1, w1, x1, x2, x3, x4, x5, x6⟩ := opsRun_sound hF' hev _ hsched hsr.er (hsr.rel.of_heap (w' := { w with drawn := w.drawn + 1 }) rfl) b k cs
      exact ⟨M1, a1, w1, x1, ⟨x2, by rw [x3]; exact hsr.dr.mono x1, x4⟩, (show Below base w { w with drawn := w.drawn + 1 } from ⟨rfl, rfl, rfl, Nat.le_refl _, fun _ _ => rfl⟩).trans x5, .head st_region_draw x6⟩
  | rangeFunc f ps assign body =>
    simp only [codeStep] at h
    split at h
    · rename_i g first captured hf
      split at h
      · rename_i hg
        obtain ⟨fn, hfn⟩ := Option.isSome_iff_exists.1 hg
        split at h
        · -- no round around
          rename_i hrd
          split at h
          · rename_i hid0
            split at h
            · rename_i hid1
              split at h
              · rename_i v H3 hcall
                split at h
                · rename_i L E n hget
                  split at h
                  · cases h
                  · rename_i hbusy
                    split at h
                    · rename_i e hex
                      cases h
                      intro M b a k cs w hfr hsr
                      have hv := aEval_sound hsr.er f _ hf
                      simp only [VR] at hv
                      obtain ⟨fn', x', y', hfn', hx, hy, hv⟩ := hv
                      simp only [FnR] at hfn'; subst hfn'
                      have hb0 : b.roundOf = none := by have := hfr.2.2; rw [hrd] at this; exact this
                      have hrel1 := hsr.rel.add (b := { real := w.heap.size }) (x := .deferred true) (o := .deferred (some [])) rfl hid0 ⟨hsr.rel.fresh, heap_push_new w _⟩
                      have hext1 := Ext.snoc M ({ real := w.heap.size } : BI)
                      have hd : (M ++ [({ real := w.heap.size } : BI)])[s.H.next]? = some { real := w.heap.size } := by rw [← hsr.rel.len]; exact get_snoc M _
                      have hen := run_enterLoop_none (P := P) (w := w) b.fn a.tmps ps assign body
                      rw [← hb0] at hen
                      have hst := st_rangeFunc (cs := cs) (k := k) hen hv (hF g fn hfn)
                      have hsz : ({ w with heap := w.heap.push (.deferred (some [])) } : World).heap.size = w.heap.size + 1 := by simp
                      obtain ⟨M', a', w', z1, z2, z3, z4⟩ := loop_sound (defs := s.H.next :: s.defs) hF hev hid1 hcall hget (by simpa using hbusy) hex rfl (M := M ++ [({ real := w.heap.size } : BI)]) (b := b) (a := a) (k := k) (cs := cs) (w := w) (w1 := { w with heap := w.heap.push (.deferred (some [])) })
                        (first' := x') (captured' := y') (mark := [{ target := .collected w.heap.size, args := #[] }]) (rd := w.heap.size)
                        (hfr.mono hext1) (hsr.er.mono hext1) hrel1 ⟨_, a.defers, hd, rfl, hsr.dr.mono hext1⟩ (below_push hsr.rel.base_le _) (VRA.mono hext1 _ _ hx) (VRA.mono hext1 _ _ hy) ⟨_, hd, rfl⟩ rfl (by rw [hsz]; exact hst)
                      exact ⟨M', a', w', hext1.trans z1, z2, z3, z4⟩
                    · cases h
                · cases h
              · cases h
            · cases h
          · cases h
        · rename_i l hrd
          split at h
          · rename_i L0 E0 n0 hget0
            split at h
            · rename_i hid1
              split at h
              · rename_i v H3 hcall
                split at h
                · rename_i L E n hget
                  split at h
                  · cases h
                  · rename_i hbusy
                    split at h
                    · rename_i e hex
                      cases h
                      intro M b a k cs w hfr hsr
                      have hv := aEval_sound hsr.er f _ hf
                      simp only [VR] at hv
                      obtain ⟨fn', x', y', hfn', hx, hy, hv⟩ := hv
                      simp only [FnR] at hfn'; subst hfn'
                      have hb0 := hfr.2.2
                      rw [hrd] at hb0
                      obtain ⟨bl, hbl, hb0⟩ := hb0
                      obtain ⟨_, L', hcell, _, _, _, _, _, _, _, bd, hbd, hde⟩ := hsr.rel.blk _ _ _ hbl hget0
                      have hen := run_enterLoop_some (P := P) hcell b.fn a.tmps ps assign body
                      rw [← hb0] at hen
                      have hst := st_rangeFunc (cs := cs) (k := k) hen hv (hF g fn hfn)
                      exact loop_sound (defs := s.defs) hF hev hid1 hcall hget (by simpa using hbusy) hex rfl (mark := []) (rd := L'.defers) hfr hsr.er hsr.rel hsr.dr (Below.refl _ _) hx hy ⟨bd, hbd, hde⟩ rfl hst
                    · cases h
                · cases h
              · cases h
            · cases h
          · cases h
      · cases h
    · cases h
end
end Go.Ax
