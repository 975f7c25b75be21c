/-
  A part of the proof: what the run over an abstract memory gives; conditions: those of each theorem.
-/
import Derived.Test.YtpfenodmchhglaaA7
namespace Go.Ax
section
variable {P : Program} {base : Prot} {M : Map} {H H' : AHeap} {w : World}
theorem slice_sound (h : Rel base M H w) {t : TypeId} {x x' v : Value} {lo hi mx lo' hi' mx' : Option Value} (hs : aSlice P H t x lo hi mx = some v) (hx : VR M x x')
    (hlo : lo' = lo) (hhi : hi' = hi) (hmx : mx' = mx) : Snd P base M w (Instr.sliceAt t x' lo' hi' mx') v H := by
  subst hlo hhi hmx
  have flatc : ∀ {x}, (match pureRun P (Instr.sliceAt t x lo' hi' mx') with | some v => if flat x ∧ flat v then some v else none | none => none) = some v → VR M x x' → Snd P base M w (Instr.sliceAt t x' lo' hi' mx') v H := by
    intro x hs hx
    split at hs
    · rename_i v0 hv0
      split at hs
      · rename_i hf; cases hs
        rw [(VR.flat_iff _ hf.1 _).1 hx]
        exact Snd.still h (pureRun_run hv0 w) (VR.self hf.2)
      · cases hs
    · cases hs
  unfold aSlice at hs
  split at hs
  · rename_i a len cap
    simp only [VR] at hx
    split at hs
    · -- no max
      rename_i elem hu
      have hu' := pureRun_run hu w
      split at hs
      · -- an empty slice
        rename_i h7
        rw [if_pos h7] at hx
        obtain ⟨rfl, rfl, a', c', rfl⟩ := hx
        split at hs
        · rename_i lhm size hb hso
          obtain ⟨l, hh, m⟩ := lhm
          cases hs
          obtain ⟨hr, h1, h2⟩ := sliceBounds_none (w := w) hb (Nat.zero_le c')
          have hl0 : l = 0 := by omega
          have hh0 : hh = 0 := by omega
          subst hl0 hh0
          refine Snd.still h (r := .slice (some (if c' = 0 then a' else a'.add (0 * size))) (0 - 0) (c' - 0)) ?_ (by simpa using VR.emptySlice _ _)
          simp only [Instr.sliceAt, Instr.slice, Sem.run_bind, hu', Result.andThen_ok, hr, pureRun_run hso, Sem.run_pure]
          congr 2
          split <;> rfl
        · cases hs
      · rename_i h7
        rw [if_neg h7] at hx
        obtain ⟨b, hb0, rfl⟩ := hx
        split at hs
        · -- open
          rename_i hopen; subst hopen
          split at hs
          · rename_i vs e k size l hh m hget hsize hb
            split at hs
            · rename_i hc
              obtain ⟨rfl, hd, hle, hsp⟩ := hc
              obtain ⟨o1, o2, o3, o4⟩ := open_cap h hb0 hget (by omega) (by simpa using hd) (by simpa using hle)
              simp only [Nat.add_sub_cancel_left] at o2 o3 o4
              obtain ⟨hr, h1, h2⟩ := sliceBounds_none (w := w) hb o1
              have hrun : (Instr.sliceAt t (.slice (some (b.ad a)) len (capOf b a openCap)) lo' hi' none).run P w =
                  .ok (.slice (if capOf b a openCap = l then some (b.ad a) else some ((b.ad a).add (l * size))) (hh - l) (capOf b a openCap - l)) w := by
                simp [Instr.sliceAt, Instr.slice, hu', hr, pureRun_run hsize]
              split at hs
              · rename_i hl; cases hs
                refine Snd.still h hrun ?_
                have : hh - l = 0 := by omega
                rw [this]
                split <;> exact VR.emptySlice _ _
              · rename_i hl; cases hs
                refine Snd.still h hrun ?_
                rw [if_neg (by omega)]
                obtain ⟨bk, off, spot⟩ := a
                simp only at hsp hb0; subst hsp
                simp only [add_none, VR]
                rw [if_neg (by simp)]
                refine ⟨b, hb0, ?_⟩
                have := o4 l
                simp only at this
                rw [show capOf b ⟨bk, off + l * size, none⟩ openCap = capOf b ⟨bk, off, none⟩ openCap - l from this]
                simp only [BI.ad, add_none, Nat.add_right_comm]
            · cases hs
          · cases hs
        · -- closed
          rename_i hopen
          split at hs
          · rename_i size l hh m hsize hb
            split at hs
            · rename_i hc; cases hs
              have hr := pureRun_run hb w
              refine Snd.still h (r := .slice (some (if m = l then (b.ad a) else (b.ad a).add (l * size))) (hh - l) (m - l)) ?_ (VR.slice_at hb0 hc.1 _ _ _ hc.2 _)
              have hcap : capOf b a cap = cap := by simp [capOf, hopen]
              rw [hcap]
              simp only [Instr.sliceAt, Instr.slice, Sem.run_bind, hu', Result.andThen_ok, hr, pureRun_run hsize, Sem.run_pure]
              split <;> rfl
            · cases hs
          · cases hs
    · -- with max
      rename_i mv elem hu
      have hu' := pureRun_run hu w
      split at hs
      · cases hs
      · rename_i h7
        rw [if_neg h7] at hx
        obtain ⟨b, hb0, rfl⟩ := hx
        split at hs
        · rename_i hopen; subst hopen
          split at hs
          · rename_i vs e k size l hh m hget hsize hb
            split at hs
            · rename_i hc
              obtain ⟨rfl, hd, hle, hsp, hno⟩ := hc
              obtain ⟨o1, o2, o3, o4⟩ := open_cap h hb0 hget (by omega) (by simpa using hd) (by simpa using hle)
              obtain ⟨hr, h1, h2, h3⟩ := sliceBounds_some (w := w) hb o1
              cases hs
              refine Snd.still h (r := .slice (some (if m = l then (b.ad a) else (b.ad a).add (l * size))) (hh - l) (m - l)) ?_ (VR.slice_at hb0 hsp _ _ _ hno _)
              simp only [Instr.sliceAt, Instr.slice, Sem.run_bind, hu', Result.andThen_ok, hr, pureRun_run hsize, Sem.run_pure]
              split <;> rfl
            · cases hs
          · cases hs
        · rename_i hopen
          split at hs
          · rename_i size l hh m hsize hb
            split at hs
            · rename_i hc; cases hs
              have hr := pureRun_run hb w
              refine Snd.still h (r := .slice (some (if m = l then (b.ad a) else (b.ad a).add (l * size))) (hh - l) (m - l)) ?_ (VR.slice_at hb0 hc.1 _ _ _ hc.2 _)
              have hcap : capOf b a cap = cap := by simp [capOf, hopen]
              rw [hcap]
              simp only [Instr.sliceAt, Instr.slice, Sem.run_bind, hu', Result.andThen_ok, hr, pureRun_run hsize, Sem.run_pure]
              split <;> rfl
            · cases hs
          · cases hs
    · cases hs
  · rename_i a
    simp only [VR] at hx
    obtain ⟨b, hb0, rfl⟩ := hx
    split at hs
    · rename_i n elem hu
      have hu' := pureRun_run hu w
      split at hs
      · rename_i size l hh m hsize hb
        split at hs
        · rename_i hc; cases hs
          have hr := pureRun_run hb w
          refine Snd.still h (r := .slice (some (if m = l then (b.ad a) else (b.ad a).add (l * size))) (hh - l) (m - l)) ?_ (VR.slice_at hb0 hc.1 _ _ _ hc.2 _)
          simp [Instr.sliceAt, Instr.sureAddr, hu', hr, pureRun_run hsize]
        · cases hs
      · cases hs
    · cases hs
  · exact flatc hs hx
end
end Go.Ax
