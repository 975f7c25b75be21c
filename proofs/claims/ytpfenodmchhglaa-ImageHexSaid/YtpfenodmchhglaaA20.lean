/-
  A part of the proof: what the run over an abstract memory gives; conditions: those of each theorem.
-/
import Derived.Test.YtpfenodmchhglaaA19
namespace Go.Ax
section
variable {P : Program} {F : FuncId → Bool} {ev : Req → Option Res} {ops : Array Oper} {n : Nat}
def unl (k : Nat) (listed : Array Bool) : List Nat := (List.range k).filter fun i => !listed.getD i true
theorem getD_set {listed : Array Bool} {i j : Nat} (hi : i < listed.size) (d : Bool) : (listed.setIfInBounds i true).getD j d = if j = i then true else listed.getD j d := by
  simp only [Array.getD_eq_getD_getElem?, Array.getElem?_setIfInBounds]
  by_cases h : j = i
  · subst h; simp [hi]
  · rw [if_neg (by omega), if_neg h]
theorem unl_split {listed : Array Bool} {i : Nat} (hm : i ∈ unl ops.size listed) (hsz : listed.size = ops.size) :
    ∃ c1 c2, unl ops.size listed = c1 ++ i :: c2 ∧ (∀ j ∈ c1, j < i ∧ listed.getD j true = false) ∧ unl ops.size (listed.setIfInBounds i true) = c1 ++ c2 := by
  obtain ⟨c1, c2, he⟩ := List.append_of_mem hm
  have hp : (unl ops.size listed).Pairwise (· < ·) := (List.pairwise_lt_range).filter _
  rw [he, List.pairwise_append] at hp
  obtain ⟨_, hp2, hp3⟩ := hp
  have hlt : i < listed.size := by
    have := List.mem_filter.1 hm
    simpa [hsz] using this.1
  refine ⟨c1, c2, he, fun j hj => ⟨hp3 j hj i (List.mem_cons_self ..), ?_⟩, ?_⟩
  · have : j ∈ unl ops.size listed := by rw [he]; exact List.mem_append_left _ hj
    simpa using (List.mem_filter.1 this).2
  · have e1 : unl ops.size (listed.setIfInBounds i true) = (unl ops.size listed).filter fun j => !(decide (j = i)) := by
      unfold unl
      rw [List.filter_filter]
      refine List.filter_congr fun j _ => ?_
      rw [getD_set hlt]
      by_cases h : j = i
      · simp [h]
      · simp [h]
    rw [e1, he, List.filter_append, List.filter_cons]
    have f1 : c1.filter (fun j => !(decide (j = i))) = c1 := List.filter_eq_self.2 fun j hj => by
      have := hp3 j hj i (List.mem_cons_self ..); simp; omega
    have f2 : c2.filter (fun j => !(decide (j = i))) = c2 := List.filter_eq_self.2 fun j hj => by
      have := (List.pairwise_cons.1 hp2).1 j hj; simp; omega
    rw [f1, f2]; simp
theorem mem_ready {listed : Array Bool} {i : Nat} : i ∈ Region.ready .any ops listed ↔ i < ops.size ∧ listed.getD i true = false ∧ ∃ o, ops[i]? = some o ∧ ∀ e ∈ o.after, Region.binds .any e = true → listed.getD e.on false = true := by
  unfold Region.ready
  simp only [List.mem_filter, List.mem_range, Bool.and_eq_true, Bool.not_eq_true']
  constructor
  · rintro ⟨h1, h2, h3⟩
    have ho : ops[i]? = some ops[i] := by simp [h1]
    rw [ho] at h3
    simp only [Option.map_some, Option.getD_some, Array.all_eq_true_iff_forall_mem] at h3
    refine ⟨h1, h2, _, ho, fun e he hb => ?_⟩
    have := h3 e he
    simpa [hb] using this
  · rintro ⟨h1, h2, o, ho, h3⟩
    refine ⟨h1, h2, ?_⟩
    rw [ho]
    simp only [Option.map_some, Option.getD_some, Array.all_eq_true_iff_forall_mem]
    intro e he
    by_cases hb : Region.binds .any e = true
    · simp [h3 e he hb]
    · simp [hb]
theorem drawOK_at (h : drawOK ops = true) {i : Nat} (hi : i < ops.size) : ∃ o, ops[i]? = some o ∧ (∀ e ∈ o.after, Region.binds .any e = true → e.on < i) ∧ ∀ j, j < i → ∃ oj, ops[j]? = some oj ∧ (swapOK ops oj o = true ∨ reach ops 12 i j = true) := by
  unfold drawOK at h
  rw [List.all_eq_true] at h
  have := h i (by simpa using hi)
  have ho : ops[i]? = some ops[i] := by simp [hi]
  rw [ho] at this
  simp only [Bool.and_eq_true, List.all_eq_true] at this
  refine ⟨_, ho, fun e he hb => ?_, fun j hj => ?_⟩
  · have := this.1 e (by simpa using he)
    simpa [hb] using this
  · have := this.2 j (by simpa using hj)
    cases hoj : ops[j]? with
    | none => rw [hoj] at this; cases this
    | some oj => rw [hoj] at this; exact ⟨oj, rfl, by simpa using this⟩
theorem Closed.set {listed : Array Bool} (hsz : listed.size = ops.size) (hc : Closed ops listed) {i : Nat} (hr : i ∈ Region.ready .any ops listed) : Closed ops (listed.setIfInBounds i true) := by
  obtain ⟨h1, h2, o, ho, h3⟩ := mem_ready.1 hr
  have hlt : i < listed.size := by omega
  intro k ok hk hl e he hb hks
  rw [getD_set hlt] at hl ⊢
  by_cases hki : k = i
  · subst hki
    rw [ho] at hk; cases hk
    rw [h3 e he hb]; simp
  · rw [if_neg hki] at hl
    rw [hc k ok hk hl e he hb hks]; simp
theorem go_sound {L : List Nat} (hd : drawOK ops = true) : ∀ (fuel t : Nat) (listed : Array Bool) (x y : T Value × AHeap), listed.size = ops.size → Closed ops listed → (unl ops.size listed).length ≤ fuel →
    opsRunL P F ev L n ops (unl ops.size listed) x = some y → opsRunL P F ev L n ops (Region.linearise.go .any ops fuel t listed []) x = some y
  | 0, t, listed, x, y, hsz, hc, hf, h => by
    have : unl ops.size listed = [] := List.eq_nil_of_length_eq_zero (by omega)
    rw [this] at h
    simpa [Region.linearise.go] using h
  | fuel + 1, t, listed, x, y, hsz, hc, hf, h => by
    simp only [Region.linearise.go]
    change opsRunL P F ev L n ops (match (Region.ready .any ops listed)[t % (Region.ready .any ops listed).length]? with
      | some i => Region.linearise.go .any ops fuel (t / (Region.ready .any ops listed).length) (listed.setIfInBounds i true) [i]
      | none => [].reverse) x = some y
    cases hi : (Region.ready .any ops listed)[t % (Region.ready .any ops listed).length]? with
    | none =>
      have hnil : Region.ready .any ops listed = [] := by
        cases hr : Region.ready .any ops listed with
        | nil => rfl
        | cons x xs =>
          rw [hr] at hi
          have hlt : t % (x :: xs).length < (x :: xs).length := Nat.mod_lt _ (by simp)
          simp at hi
          simp at hlt
          omega
      have : unl ops.size listed = [] := by
        cases hu : unl ops.size listed with
        | nil => rfl
        | cons i l =>
          exfalso
          have hm : i ∈ unl ops.size listed := by rw [hu]; exact List.mem_cons_self ..
          have hm' := List.mem_filter.1 hm
          have hlt : i < ops.size := by simpa using hm'.1
          obtain ⟨o, ho, he, _⟩ := drawOK_at hd hlt
          have hp : (unl ops.size listed).Pairwise (· < ·) := (List.pairwise_lt_range).filter _
          rw [hu] at hp
          have : i ∈ Region.ready .any ops listed := mem_ready.2 ⟨hlt, by simpa using hm'.2, o, ho, fun e hee hb => by
            have hei := he e hee hb
            cases hle : listed.getD e.on false with
            | true => rfl
            | false =>
              exfalso
              have hmem : e.on ∈ unl ops.size listed := by
                refine List.mem_filter.2 ⟨by simp; omega, ?_⟩
                rw [Array.getD_eq_getD_getElem?] at hle ⊢
                have : e.on < listed.size := by omega
                simp [this] at hle ⊢
                exact hle
              rw [hu] at hmem
              rcases List.mem_cons.1 hmem with e1 | e1
              · omega
              · have := (List.pairwise_cons.1 hp).1 _ e1; omega⟩
          rw [hnil] at this; cases this
      rw [this] at h
      simpa using h
    | some i =>
      simp only []
      have hr : i ∈ Region.ready .any ops listed := List.mem_of_getElem? hi
      obtain ⟨h1, h2, o, ho, h3⟩ := mem_ready.1 hr
      have hm : i ∈ unl ops.size listed := List.mem_filter.2 ⟨by simpa using h1, by simpa using h2⟩
      obtain ⟨c1, c2, he, hlt, he2⟩ := unl_split hm hsz
      rw [linearise_go_acc, List.reverse_singleton, List.singleton_append]
      have hfront : opsRunL P F ev L n ops (i :: (c1 ++ c2)) x = some y := by
        have e3 : c1 ++ i :: c2 = (c1 ++ [i]) ++ c2 := by simp
        rw [he, e3, opsRunL_append, Option.bind_eq_some_iff] at h
        obtain ⟨z, hz, h⟩ := h
        have hz' := opsRunL_front ho c1 x z (fun j hj => by
          obtain ⟨hji, hjl⟩ := hlt j hj
          obtain ⟨o', ho', _, hall⟩ := drawOK_at hd h1
          rw [ho] at ho'; cases ho'
          obtain ⟨oj, hoj, hk⟩ := hall j hji
          rcases hk with hk | hk
          · exact ⟨oj, hoj, hk⟩
          · have := reach_listed hsz hc 12 i j o ho h3 hk
            exfalso
            rw [Array.getD_eq_getD_getElem?] at this hjl
            have hjs : j < listed.size := by omega
            simp [hjs] at this hjl
            rw [this] at hjl; cases hjl) hz
        have e4 : i :: (c1 ++ c2) = (i :: c1) ++ c2 := by simp
        rw [e4, opsRunL_append, hz']
        exact h
      simp only [opsRunL] at hfront ⊢
      rw [Option.bind_eq_some_iff] at hfront ⊢
      obtain ⟨z, hz, hfront⟩ := hfront
      refine ⟨z, hz, go_sound hd fuel _ _ z y (by simpa using hsz) (hc.set hsz hr) ?_ (by rw [he2]; exact hfront)⟩
      have := congrArg List.length he
      rw [he2]
      simp at this ⊢
      omega
/-- The run in the text's order, and with it the blocks that were read, and the memory before and behind each operation that may have turned it. -/
def opsCol (P : Program) (F : FuncId → Bool) (ev : Req → Option Res) (n : Nat) (ops : Array Oper) : List Nat → T Value × AHeap → Option ((T Value × AHeap) × List Nat × List (AHeap × AHeap))
  | [], x => some (x, [], [])
  | i :: l, x => match ops[i]?, opStep P F ev n ops i x with
    | some o, some x1 => match opsCol P F ev n ops l x1 with
      | some (y, bs, hs) => some (y,
          (if readOp o.op then (match aWanted ops o x.1 with | some true => (readBlk (aEval x.1) o).toList | _ => []) else []) ++ bs,
          if pureOp o.op || readOp o.op then hs else (x.2, x1.2) :: hs)
      | none => none
    | _, _ => none
def opsDraw (P : Program) (F : FuncId → Bool) (ev : Req → Option Res) (n : Nat) (ops : Array Oper) (x : T Value × AHeap) : Option (T Value × AHeap) :=
  if drawOK ops then
    match opsCol P F ev n ops (List.range ops.size) x with
    | some (y, bs, hs) => if bs.all fun b => hs.all fun h => sameBlk h.1 h.2 b then some y else none
    | none => none
  else none
theorem opsCol_runL {L : List Nat} : ∀ (l : List Nat) (x y : T Value × AHeap) (bs : List Nat) (hs : List (AHeap × AHeap)), opsCol P F ev n ops l x = some (y, bs, hs) → (∀ b ∈ bs, b ∈ L) → (∀ h ∈ hs, ∀ b ∈ L, sameBlk h.1 h.2 b = true) →
    opsRunL P F ev L n ops l x = some y
  | [], x, y, bs, hs, h, _, _ => by simp only [opsCol, Option.some.injEq, Prod.mk.injEq] at h; simp only [opsRunL]; rw [h.1]
  | i :: l, x, y, bs, hs, h, hb, hh => by
    simp only [opsCol] at h
    split at h
    · rename_i o x1 ho hx
      split at h
      · rename_i y' bs' hs' hcol
        simp only [Option.some.injEq, Prod.mk.injEq] at h
        obtain ⟨rfl, rfl, rfl⟩ := h
        have hh' : ∀ h ∈ hs', ∀ b ∈ L, sameBlk h.1 h.2 b = true := by
          intro h hm
          split at hh
          · exact hh h hm
          · exact hh h (List.mem_cons_of_mem _ hm)
        have ih := opsCol_runL l x1 y' bs' hs' hcol (fun b hm => hb b (List.mem_append_right _ hm)) hh'
        simp only [opsRunL]
        have hstep : opStepL P F ev L n ops i x = some x1 := by
          unfold opStep at hx
          rw [ho] at hx
          simp only at hx
          rw [Option.bind_eq_some_iff] at hx
          obtain ⟨⟨v, H1⟩, he, hx⟩ := hx
          rw [Option.map_eq_some_iff] at hx
          obtain ⟨E1, hp, rfl⟩ := hx
          unfold opStepL
          rw [ho]
          simp only
          have : opEffL P F ev L ops o x.1 x.2 = some (v, H1) := by
            unfold opEffL
            rw [he]
            simp only
            by_cases hpu : pureOp o.op = true
            · simp [hpu]
            · by_cases hr : readOp o.op = true
              · simp only [hpu, hr, if_false, if_true, Bool.false_eq_true]
                split
                · rename_i hw
                  split
                  · rename_i b hrb
                    have : b ∈ L := hb b (List.mem_append_left _ (by rw [if_pos hr, hw]; simp [hrb]))
                    simp [this]
                  · rfl
                · rfl
              · simp only [hpu, hr, if_false, Bool.false_eq_true]
                rw [if_neg (by simp [hpu, hr])] at hh
                rw [if_pos fun b hm => sameBlk_eq (hh (x.2, H1) (List.mem_cons_self ..) b hm)]
          rw [this]
          simp [hp]
        rw [hstep]
        exact ih
      · cases h
    · cases h
theorem schedule_sound (hm : P.follows .mixedOrders = true) (t : Nat) {x y : T Value × AHeap} (h : opsDraw P F ev n ops x = some y) :
    opsRun P F ev n ops (Region.schedule (P.follows .mixedOrders) ops t) x = some y := by
  unfold opsDraw at h
  split at h
  · rename_i hd
    split at h
    · rename_i y' bs hs hcol
      split at h
      · rename_i hall; cases h
        have hrun : opsRunL P F ev bs n ops (List.range ops.size) x = some y := opsCol_runL _ _ _ _ _ hcol (fun b hb => hb) (fun h hm b hb => by
          rw [List.all_eq_true] at hall
          exact (List.all_eq_true.1 (hall b hb)) h hm)
        simp only [Region.schedule, hm, Bool.true_or, if_true, Region.linearise]
        have hu : unl ops.size (Array.replicate ops.size false) = List.range ops.size := by
          unfold unl
          refine List.filter_eq_self.2 fun i hi => ?_
          have : i < ops.size := by simpa using hi
          simp [this]
        refine opsRunL_run _ _ _ (go_sound hd _ _ _ x y (by simp) (fun i o ho hl e he hb hi => ?_) (by rw [hu]; simp) (by rw [hu]; exact hrun))
        simp [hi] at hl
      · cases h
    · cases h
  · cases h
theorem schedule_soundL (hm : P.follows .mixedOrders = true) (t : Nat) {L : List Nat} {x y : T Value × AHeap} (hd : drawOK ops = true) (h : opsRunL P F ev L n ops (List.range ops.size) x = some y) :
    opsRun P F ev n ops (Region.schedule (P.follows .mixedOrders) ops t) x = some y := by
  simp only [Region.schedule, hm, Bool.true_or, if_true, Region.linearise]
  have hu : unl ops.size (Array.replicate ops.size false) = List.range ops.size := by
    unfold unl
    refine List.filter_eq_self.2 fun i hi => ?_
    have : i < ops.size := by simpa using hi
    simp [this]
  refine opsRunL_run _ _ _ (go_sound hd _ _ _ x y (by simp) (fun i o ho hl e he hb hi => ?_) (by rw [hu]; simp) (by rw [hu]; exact h))
  simp [hi] at hl
end
end Go.Ax
