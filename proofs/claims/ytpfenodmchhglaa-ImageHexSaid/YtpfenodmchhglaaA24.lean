/-
  A part of the proof: what the run over an abstract memory gives; conditions: those of each theorem.
-/
import Derived.Test.YtpfenodmchhglaaA23
namespace Go.Ax
section
variable {P : Program} {F : FuncId → Option Func} {base : Prot}
theorem setArgs_get : ∀ (l : List Value) (k : Nat) (E : T Value) (t : Nat) (u : Value), k + l.length < 500000 → (setArgs k l E).get t = some u → (∃ i, t = k + i ∧ l[i]? = some u) ∨ (E.get t = some u)
  | [], _, _, _, _, _, h => .inr h
  | v :: l, k, E, t, u, hk, h => by
    simp only [setArgs] at h
    simp only [List.length_cons] at hk
    rcases setArgs_get l (k + 1) _ t u (by omega) h with ⟨i, rfl, hi⟩ | h
    · exact .inl ⟨i + 1, by omega, by simpa using hi⟩
    · by_cases e : t = k
      · subst e
        rw [T.get_set_same 20 _ _ _ (by have : (2 : Nat) ^ 20 = 1048576 := by decide
                                        omega)] at h
        cases h
        exact .inl ⟨0, by omega, rfl⟩
      · rw [T.get_set_other _ _ _ _ _ e] at h
        exact .inr h
theorem enter_er {M : Map} {args args' : Array Value} (h : VRA M args args') {n : Nat} (hn : args.size ≤ n) (hs : args.size < 1000) : ER M n (setArgs 0 args.toList .nil) (args' ++ Array.replicate (n - args'.size) undef) := by
  rw [VRA.iff] at h
  have hl := h.length
  simp only [Array.length_toList] at hl
  refine ⟨by simp; omega, fun t u hu => ?_⟩
  rcases setArgs_get _ _ _ _ _ (by simp; omega) hu with ⟨i, rfl, hi⟩ | hu
  · obtain ⟨r, hr, hv⟩ := h.get i u hi
    refine ⟨r, ?_, hv⟩
    have hr' : args'[i]? = some r := by simpa using hr
    have : i < args'.size := (Array.getElem?_eq_some_iff.1 hr').1
    rw [Array.getElem?_append_left (by omega)]
    simpa using hr'
  · simp [T.get] at hu
theorem run_takeDeferred {w : World} {r : Nat} (h : w.heap[r]? = some (.deferred (some []))) : (Instr.takeDeferred r).run P w = .ok [] { w with heap := w.heap.setIfInBounds r (.deferred none) } := by
  simp [Instr.takeDeferred, run_getObj h (by simp), run_setObj h (by simp)]
theorem takeAll_sound {M : Map} {b : Frame} {k : List Item} {cs : List Frame} : ∀ (ds : List Nat) (H H2 : AHeap) (a : Act) (w : World), takeAll H ds = some H2 → DR M ds a.defers → Rel base M H w →
    ∃ w', Rel base M H2 w' ∧ Below base w w' ∧ Steps P (lone { Fr b a k with mode := .returning } cs w) (lone { Fr b { a with defers := [] } k with mode := .returning } cs w')
  | [], H, H2, a, w, h, hd, hrel => by
    cases h
    obtain ⟨tm, df⟩ := a
    simp only [DR] at hd; subst hd
    exact ⟨w, hrel, Below.refl _ _, .refl _ _⟩
  | d :: ds, H, H2, a, w, h, hd, hrel => by
    simp only [takeAll] at h
    split at h
    · rename_i hget
      split at h
      · rename_i hid
        obtain ⟨bi, ds', hb, e, hd⟩ := hd
        obtain ⟨hbb, hcell⟩ := hrel.blk _ _ _ hb hget
        have hlt := hrel.lt _ _ hb
        have ht := setObj_turned w bi.real (.deferred none)
        have hrel2 := hrel.put (y := .deferred false) hb hget rfl hid ht.size ht.other ⟨hbb, setObj_heap _ hlt⟩
        obtain ⟨tm, df⟩ := a
        simp only at e; subst e
        obtain ⟨w', r1, r2, r3⟩ := takeAll_sound (b := b) (k := k) (cs := cs) ds _ H2 { tmps := tm, defers := ds' } _ h hd hrel2
        exact ⟨w', r1, (ht.below hbb).trans r2, .head (st_collected (a := { tmps := tm, defers := [] }) (run_takeDeferred hcell)) r3⟩
      · cases h
    · cases h
def resG (tm : Array Value) : ResultVar → Sem Value
  | .tmp t => pure (tm.getD t undef)
  | .cell a t => do loadVar t (← asAddr (tm.getD a undef))
theorem results_eq (fn : Func) (tm : Array Value) : results fn tm = (do let vs ← fn.results.mapM (resG tm); pure (if h : vs.size = 1 then vs[0] else .tuple vs)) := by
  unfold results
  congr 2
theorem results_list {M : Map} {H : AHeap} {w : World} {E : T Value} {n : Nat} {tm : Array Value} (her : ER M n E tm) (hrel : Rel base M H w) : ∀ (rs : List ResultVar) (vs : List Value), allSome (rs.map (resVal P E H)) = some vs →
    ∃ vs', (rs.mapM (resG tm)).run P w = .ok vs' w ∧ VRL M vs vs'
  | [], vs, h => by simp only [List.map_nil, allSome, Option.some.injEq] at h; subst h; exact ⟨[], rfl, .nil⟩
  | r :: rs, vs, h => by
    simp only [List.map_cons] at h
    cases hr : resVal P E H r with
    | none => rw [hr] at h; cases h
    | some v =>
      rw [hr] at h
      simp only [allSome, Option.map_eq_some_iff] at h
      obtain ⟨vs2, h2, rfl⟩ := h
      obtain ⟨vs', hr', hv'⟩ := results_list her hrel rs vs2 h2
      have one : ∃ v', (resG tm r).run P w = .ok v' w ∧ VR M v v' := by
        cases r with
        | tmp t =>
          obtain ⟨x, hx, hvx⟩ := her.2 t v hr
          exact ⟨x, by simp [resG, Array.getD_eq_getD_getElem?, hx], hvx⟩
        | cell a t =>
          simp only [resVal] at hr
          split at hr
          · rename_i p hp
            obtain ⟨x, hx, hvx⟩ := her.2 a p hp
            cases p with
            | pointer q =>
              cases q with
              | none => simp [aLoad] at hr
              | some q =>
                simp only [VR] at hvx
                obtain ⟨bi, hb, rfl⟩ := hvx
                obtain ⟨y, hy, hvy⟩ := loadVar_sound (P := P) hrel hr hb
                exact ⟨y, by simp [resG, Array.getD_eq_getD_getElem?, hx, asAddr, hy], hvy⟩
            | _ => simp [aLoad] at hr
          · cases hr
      obtain ⟨v', h1, h3⟩ := one
      refine ⟨v' :: vs', ?_, .cons h3 hv'⟩
      rw [List.mapM_cons]
      simp only [Sem.run_bind]
      rw [h1]
      simp only [Result.andThen_ok]
      rw [hr']
      rfl
theorem results_sound {M : Map} {H : AHeap} {w : World} {E : T Value} {n : Nat} {tm : Array Value} (her : ER M n E tm) (hrel : Rel base M H w) {fn : Func} {vs : List Value} (h : allSome (fn.results.toList.map (resVal P E H)) = some vs) :
    ∃ v', (results fn tm).run P w = .ok v' w ∧ VR M (resOf vs) v' := by
  obtain ⟨vs', hr, hv⟩ := results_list (P := P) her hrel _ _ h
  refine ⟨if h : vs'.toArray.size = 1 then vs'.toArray[0] else .tuple vs'.toArray, ?_, ?_⟩
  · rw [results_eq, Array.mapM_eq_mapM_toList]
    simp only [Sem.run_bind, Sem.run_map]
    rw [hr]
    rfl
  · match vs, vs', hv with
    | [], [], hv => simp only [resOf]; simp [VR, VRA, VRL]
    | [v], [v'], hv => obtain ⟨x, l, hx, _, e⟩ := hv.cases; cases e; simpa [resOf] using hx
    | v :: u :: l, v' :: u' :: l', hv =>
      simp only [resOf]
      have : ¬ (v' :: u' :: l').toArray.size = 1 := by simp
      rw [dif_neg this]
      simp only [VR]
      exact ⟨_, VRA.iff.2 (by simpa using hv), rfl⟩
    | [], v' :: l', hv => have := hv.length; simp at this
    | [v], [], hv => have := hv.length; simp at this
    | [v], v' :: u' :: l', hv => have := hv.length; simp at this
    | v :: u :: l, [], hv => have := hv.length; simp at this
    | v :: u :: l, [v'], hv => have := hv.length; simp at this
theorem putParams_sound {M : Map} {n : Nat} : ∀ (ps : List Tmp) (vs vs' : List Value) (E E' : T Value) (tm : Array Value), putParams ps vs n E = some E' → VRL M vs vs' → ER M n E tm →
    ER M n E' ((ps.zip vs').foldl (fun tmps (t, a) => tmps.setIfInBounds t a) tm)
  | [], [], vs', E, E', tm, h, hv, her => by cases h; rw [hv.nil_cases]; exact her
  | p :: ps, v :: vs, vs', E, E', tm, h, hv, her => by
    obtain ⟨v', l', hx, hl, rfl⟩ := hv.cases
    simp only [putParams] at h
    rw [Option.bind_eq_some_iff] at h
    obtain ⟨E1, h1, h⟩ := h
    have := (putE_sound (a := { tmps := tm, defers := [] }) her h1 hx).1
    simp only [List.zip_cons_cons, List.foldl_cons]
    exact putParams_sound ps vs l' E1 E' _ h hl this
  | [], _ :: _, _, _, _, _, h, _, _ => by cases h
  | _ :: _, [], _, _, _, _, h, _, _ => by cases h
theorem run_yield {w : World} {l : Nat} {L : Loop} {args : Array Value} (h : w.heap[l]? = some (.loop L)) (hs : args.size = L.params.size) :
    (Instr.yield l args).run P w = .ok (.round l L.fn ((L.params.zip args).foldl (fun tmps (t, a) => tmps.setIfInBounds t a) L.tmps) L.assign L.body) w := by
  simp [Instr.yield, run_getLoop h, hs]
theorem run_beginRound {w : World} {l : Nat} {L : Loop} (h : w.heap[l]? = some (.loop L)) (hs : L.state = .ready) :
    (Instr.beginRound l).run P w = .ok () { w with heap := w.heap.setIfInBounds l (.loop { L with state := .busy }) } := by
  simp [Instr.beginRound, run_getLoop h, run_setObj h (by simp), hs]
theorem run_endRound {w : World} {l : Nat} {L : Loop} (jump : Option Code) (h : w.heap[l]? = some (.loop L)) :
    (Instr.endRound l jump).run P w = .ok (.bool jump.isNone) { w with heap := w.heap.setIfInBounds l (.loop { L with state := if jump.isNone then .ready else .done, pending := jump }) } := by
  simp [Instr.endRound, run_getLoop h, run_setObj h (by simp)]
end
end Go.Ax
