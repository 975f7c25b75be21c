/-
  A part of the proof: what the run over an abstract memory gives; conditions: those of each theorem.
-/
import Derived.Test.YtpfenodmchhglaaA17b
namespace Go.Ax
section
variable {P : Program} {F : FuncId → Bool} {ev : Req → Option Res} {ops : Array Oper} {n : Nat}
/-- Two sets of slots say the same of what an operation looks at. -/
def Agree (ops : Array Oper) (o : Oper) (E E' : T Value) : Prop := ∀ d ∈ o.looksAt ops, E.get d = E'.get d
theorem opEff_congr {o : Oper} {E E' : T Value} {H : AHeap} (h : Agree ops o E E') : opEff P F ev ops o E H = opEff P F ev ops o E' H := by
  have hw : aWanted ops o E = aWanted ops o E' := by
    unfold aWanted
    cases hg : o.guard with
    | none => rfl
    | some jw =>
      obtain ⟨j, want⟩ := jw
      simp only
      congr 1
      unfold aYield
      cases hd : (ops[j]?).bind (·.dst) with
      | none => rfl
      | some d =>
        simp only
        rw [h d (by simp [Oper.looksAt, hg, hd])]
  have ha : aOp P F (aEval E) H o = aOp P F (aEval E') H o := by
    refine aOp_congr fun x hx => ?_
    cases x with
    | tmp t => exact h t (by simp only [Oper.looksAt]; exact List.mem_append_left _ (List.mem_filterMap.2 ⟨.tmp t, by simpa using hx, rfl⟩))
    | _ => rfl
  unfold opEff
  rw [hw, ha]
/-- What an operation gives, where the blocks L stay as they are. -/
noncomputable def opEffL (P : Program) (F : FuncId → Bool) (ev : Req → Option Res) (L : List Nat) (ops : Array Oper) (o : Oper) (E : T Value) (H : AHeap) : Option (Value × AHeap) :=
  match opEff P F ev ops o E H with
  | none => none
  | some (v, H') =>
    if pureOp o.op then some (v, H')
    else if readOp o.op then
      match aWanted ops o E with
      | some true => match readBlk (aEval E) o with
        | some b => if L.contains b then some (v, H') else none
        | none => some (v, H')
      | _ => some (v, H')
    else by classical exact if ∀ b ∈ L, H'.t.get b = H.t.get b then some (v, H') else none
theorem Agree.wanted {o : Oper} {E E' : T Value} (h : Agree ops o E E') : aWanted ops o E = aWanted ops o E' := by
  unfold aWanted
  cases hg : o.guard with
  | none => rfl
  | some jw =>
    obtain ⟨j, want⟩ := jw
    simp only
    congr 1
    unfold aYield
    cases hd : (ops[j]?).bind (·.dst) with
    | none => rfl
    | some d =>
      simp only
      rw [h d (by simp [Oper.looksAt, hg, hd])]
theorem Agree.eval {o : Oper} {E E' : T Value} (h : Agree ops o E E') {x : Operand} (hx : x ∈ o.op.operands) : aEval E x = aEval E' x := by
  cases x with
  | tmp t => exact h t (by simp only [Oper.looksAt]; exact List.mem_append_left _ (List.mem_filterMap.2 ⟨.tmp t, by simpa using hx, rfl⟩))
  | _ => rfl
theorem opEffL_congr {L : List Nat} {o : Oper} {E E' : T Value} {H : AHeap} (h : Agree ops o E E') : opEffL P F ev L ops o E H = opEffL P F ev L ops o E' H := by
  have hb : readBlk (aEval E) o = readBlk (aEval E') o := by
    have he : ∀ x ∈ o.op.operands, aEval E x = aEval E' x := fun x hx => h.eval hx
    obtain ⟨dst, op, type, pos, after, guard⟩ := o
    cases op <;> simp only [readBlk]
    case load t a => rw [he a (by simp [Op.operands])]
    case slice t x lo hi mx => rw [he x (by simp [Op.operands])]
  unfold opEffL
  rw [opEff_congr h, h.wanted, hb]
theorem opEffL_eff {L : List Nat} {o : Oper} {E : T Value} {H : AHeap} {r : Value × AHeap} (h : opEffL P F ev L ops o E H = some r) : opEff P F ev ops o E H = some r := by
  unfold opEffL at h
  split at h
  · cases h
  · rename_i v H' he
    rw [he]
    split at h
    · exact h
    · split at h
      · split at h
        · split at h
          · split at h
            · exact h
            · cases h
          · exact h
        · exact h
      · split at h
        · exact h
        · cases h
theorem opEff_pure {o : Oper} {E : T Value} {H H' : AHeap} {v : Value} (hp : pureOp o.op = true) (h : opEff P F ev ops o E H = some (v, H')) : H' = H ∧ ∀ H2, opEff P F ev ops o E H2 = some (v, H2) := by
  unfold opEff at h ⊢
  cases hw : aWanted ops o E with
  | none => rw [hw] at h; cases h
  | some b =>
    rw [hw] at h
    cases b with
    | false => cases h; exact ⟨rfl, fun _ => rfl⟩
    | true =>
      simp only at h ⊢
      cases ha : aOp P F (aEval E) H o with
      | none => rw [ha] at h; cases h
      | some r =>
        obtain ⟨r, H1⟩ := r
        obtain ⟨v0, rfl, rfl, hall⟩ := pureOp_spec hp ha
        rw [ha] at h
        cases h
        exact ⟨rfl, fun H2 => by rw [hall H2]⟩
theorem opEffL_pure {L : List Nat} {o : Oper} {E : T Value} {H H' : AHeap} {v : Value} (hp : pureOp o.op = true) (h : opEffL P F ev L ops o E H = some (v, H')) : H' = H ∧ ∀ H2, opEffL P F ev L ops o E H2 = some (v, H2) := by
  obtain ⟨h1, h2⟩ := opEff_pure hp (opEffL_eff h)
  exact ⟨h1, fun H2 => by unfold opEffL; rw [h2 H2]; simp [hp]⟩
theorem pure_not_read {o : Op} (h : readOp o = true) : pureOp o = false := by cases o <;> simp_all [readOp, pureOp]
theorem opEffL_read {L : List Nat} {o : Oper} {E : T Value} {H H' : AHeap} {v : Value} (hp : readOp o.op = true) (h : opEffL P F ev L ops o E H = some (v, H')) :
    H' = H ∧ ∀ H2 : AHeap, (∀ b ∈ L, H2.t.get b = H.t.get b) → opEffL P F ev L ops o E H2 = some (v, H2) := by
  have he := opEffL_eff h
  have hnp := pure_not_read hp
  unfold opEff at he
  cases hw : aWanted ops o E with
  | none => rw [hw] at he; cases he
  | some b =>
    rw [hw] at he
    cases b with
    | false =>
      cases he
      refine ⟨rfl, fun H2 _ => ?_⟩
      unfold opEffL opEff
      rw [hw]
      simp [hnp, hp]
    | true =>
      simp only at he
      cases ha : aOp P F (aEval E) H o with
      | none => rw [ha] at he; cases he
      | some r =>
        obtain ⟨r, H1⟩ := r
        obtain ⟨v0, rfl, rfl⟩ := readOp_spec hp ha
        rw [ha] at he
        cases he
        refine ⟨rfl, fun H2 hs => ?_⟩
        have hL : ∀ b, readBlk (aEval E) o = some b → b ∈ L := by
          intro b hb
          unfold opEffL opEff at h
          rw [hw] at h
          simp only [ha, hnp, hp, hb, Bool.false_eq_true, if_false, if_true] at h
          split at h
          · rename_i hc; simpa using hc
          · cases h
        obtain ⟨v1, hv1, h2⟩ := readOp_local (H2 := H2) hp ha fun b hb => hs b (hL b hb)
        cases hv1
        unfold opEffL opEff
        rw [hw]
        simp only [h2, hnp, hp, Bool.false_eq_true, if_false, if_true]
        cases hb : readBlk (aEval E) o with
        | none => rfl
        | some b => simp [hL b hb]
theorem opEffL_other {L : List Nat} {o : Oper} {E : T Value} {H H' : AHeap} {v : Value} (hp : pureOp o.op = false) (hr : readOp o.op = false) (h : opEffL P F ev L ops o E H = some (v, H')) : ∀ b ∈ L, H'.t.get b = H.t.get b := by
  have he := opEffL_eff h
  unfold opEffL at h
  rw [he] at h
  simp only [hp, hr, Bool.false_eq_true, if_false] at h
  split at h
  · rename_i hall
    exact hall
  · cases h
theorem putE_get {dst : Option Tmp} {v : Value} {E E' : T Value} (h : putE n dst v E = some E') {d : Nat} (hd : dst ≠ some d) : E'.get d = E.get d := by
  cases dst with
  | none => cases h; rfl
  | some t =>
    simp only [putE] at h
    split at h
    · cases h; exact T.get_set_other _ _ _ _ _ (fun e => hd (by rw [e]))
    · cases h
theorem putE_some {dst : Option Tmp} {v : Value} {E E' : T Value} (h : putE n dst v E = some E') (E2 : T Value) : ∃ E3, putE n dst v E2 = some E3 := by
  cases dst with
  | none => exact ⟨E2, rfl⟩
  | some t =>
    simp only [putE] at h ⊢
    split at h
    · rename_i hc; exact ⟨_, by rw [if_pos hc]⟩
    · cases h
theorem putE_comm {d1 d2 : Option Tmp} {v1 v2 : Value} {E E1 E2 E3 : T Value} (h1 : putE n d1 v1 E = some E1) (h2 : putE n d2 v2 E1 = some E2) (h3 : putE n d2 v2 E = some E3) (hne : ∀ d, d1 = some d → d2 ≠ some d) : putE n d1 v1 E3 = some E2 := by
  cases d1 with
  | none => cases h1; rw [h2] at h3; cases h3; rfl
  | some a =>
    cases d2 with
    | none => cases h3; cases h2; exact h1
    | some b =>
      simp only [putE] at h1 h2 h3 ⊢
      split at h1
      · rename_i hc1
        cases h1
        split at h2
        · cases h2
          rename_i hc2
          rw [if_pos hc2] at h3
          cases h3
          rw [if_pos hc1, T.set_comm _ _ _ _ _ _ (fun e => hne a rfl (by rw [e]))]
        · cases h2
      · cases h1
/-- Two operations that may change places. -/
def swapOK (ops : Array Oper) (x y : Oper) : Bool := x.apart ops y && (pureOp x.op || pureOp y.op || readOp x.op || readOp y.op)
noncomputable def opStepL (P : Program) (F : FuncId → Bool) (ev : Req → Option Res) (L : List Nat) (n : Nat) (ops : Array Oper) (i : Nat) (x : T Value × AHeap) : Option (T Value × AHeap) :=
  match ops[i]? with
  | none => none
  | some o => (opEffL P F ev L ops o x.1 x.2).bind fun r => (putE n o.dst r.1 x.1).map fun E => (E, r.2)
noncomputable def opsRunL (P : Program) (F : FuncId → Bool) (ev : Req → Option Res) (L : List Nat) (n : Nat) (ops : Array Oper) : List Nat → T Value × AHeap → Option (T Value × AHeap)
  | [], x => some x
  | i :: l, x => (opStepL P F ev L n ops i x).bind (opsRunL P F ev L n ops l)
theorem opStepL_step {L : List Nat} {i : Nat} {x y : T Value × AHeap} (h : opStepL P F ev L n ops i x = some y) : opStep P F ev n ops i x = some y := by
  unfold opStepL at h
  unfold opStep
  cases ho : ops[i]? with
  | none => rw [ho] at h; cases h
  | some o =>
    rw [ho] at h
    simp only at h ⊢
    rw [Option.bind_eq_some_iff] at h
    obtain ⟨r, hr, h⟩ := h
    rw [opEffL_eff hr]
    exact h
theorem opsRunL_run {L : List Nat} : ∀ (l : List Nat) (x y : T Value × AHeap), opsRunL P F ev L n ops l x = some y → opsRun P F ev n ops l x = some y
  | [], _, _, h => h
  | i :: l, x, y, h => by
    simp only [opsRunL] at h
    simp only [opsRun]
    rw [Option.bind_eq_some_iff] at h ⊢
    obtain ⟨z, hz, h⟩ := h
    exact ⟨z, opStepL_step hz, opsRunL_run l z y h⟩
theorem opStepL_swap {L : List Nat} {i j : Nat} {oi oj : Oper} (hi : ops[i]? = some oi) (hj : ops[j]? = some oj) (hs : swapOK ops oj oi = true) {x x1 x2 : T Value × AHeap}
    (h1 : opStepL P F ev L n ops j x = some x1) (h2 : opStepL P F ev L n ops i x1 = some x2) : ∃ x3, opStepL P F ev L n ops i x = some x3 ∧ opStepL P F ev L n ops j x3 = some x2 := by
  simp only [swapOK, Bool.and_eq_true, Bool.or_eq_true] at hs
  obtain ⟨hap, hk⟩ := hs
  obtain ⟨a1, a2, a3⟩ := Oper.apart_spec hap
  obtain ⟨E, H⟩ := x
  simp only [opStepL, hi, hj] at h1 h2 ⊢
  rw [Option.bind_eq_some_iff] at h1
  obtain ⟨⟨vj, Hj⟩, hej, h1⟩ := h1
  rw [Option.map_eq_some_iff] at h1
  obtain ⟨E1, hpj, rfl⟩ := h1
  rw [Option.bind_eq_some_iff] at h2
  obtain ⟨⟨vi, Hi⟩, hei, h2⟩ := h2
  rw [Option.map_eq_some_iff] at h2
  obtain ⟨E2, hpi, rfl⟩ := h2
  simp only at hej hei hpj hpi
  have agi : Agree ops oi E1 E := fun d hd => putE_get hpj fun e => a1 d e hd
  rw [opEffL_congr agi] at hei
  obtain ⟨E3, hp3⟩ := putE_some hpi E
  have agj : Agree ops oj E3 E := fun d hd => putE_get hp3 fun e => a3 d e hd
  have hfin : putE n oj.dst vj E3 = some E2 := putE_comm hpj hpi hp3 a2
  have keeps : ∀ {o : Oper} {E : T Value} {H H' : AHeap} {v : Value}, opEffL P F ev L ops o E H = some (v, H') → ∀ b ∈ L, H'.t.get b = H.t.get b := by
    intro o E H H' v h b hb
    by_cases hp : pureOp o.op = true
    · rw [(opEffL_pure hp h).1]
    · by_cases hr : readOp o.op = true
      · rw [(opEffL_read hr h).1]
      · exact opEffL_other (by simpa using hp) (by simpa using hr) h b hb
  -- where one of them leaves the memory and gives the same over what the other leaves
  have caseJ : Hj = H → (∀ H2 : AHeap, (∀ b ∈ L, H2.t.get b = H.t.get b) → opEffL P F ev L ops oj E H2 = some (vj, H2)) → ∃ x3, (opEffL P F ev L ops oi E H).bind (fun r => (putE n oi.dst r.1 E).map fun E => (E, r.2)) = some x3 ∧
      (opEffL P F ev L ops oj x3.1 x3.2).bind (fun r => (putE n oj.dst r.1 x3.1).map fun E => (E, r.2)) = some (E2, Hi) := by
    rintro rfl hall
    refine ⟨(E3, Hi), by rw [hei]; simp [hp3], ?_⟩
    simp only
    rw [opEffL_congr agj, hall Hi (keeps hei)]
    simp [hfin]
  have caseI : Hi = Hj → opEffL P F ev L ops oi E H = some (vi, H) → ∃ x3, (opEffL P F ev L ops oi E H).bind (fun r => (putE n oi.dst r.1 E).map fun E => (E, r.2)) = some x3 ∧
      (opEffL P F ev L ops oj x3.1 x3.2).bind (fun r => (putE n oj.dst r.1 x3.1).map fun E => (E, r.2)) = some (E2, Hi) := by
    rintro rfl hall
    refine ⟨(E3, H), by rw [hall]; simp [hp3], ?_⟩
    simp only
    rw [opEffL_congr agj, hej]
    simp [hfin]
  rcases hk with ((hk | hk) | hk) | hk
  · obtain ⟨e, hall⟩ := opEffL_pure hk hej
    exact caseJ e fun H2 _ => hall H2
  · obtain ⟨e, hall⟩ := opEffL_pure hk hei
    exact caseI e (hall H)
  · obtain ⟨e, hall⟩ := opEffL_read hk hej
    exact caseJ e hall
  · obtain ⟨e, hall⟩ := opEffL_read hk hei
    exact caseI e (hall H fun b hb => (keeps hej b hb).symm)
theorem opsRunL_append {L : List Nat} (l l2 : List Nat) (x : T Value × AHeap) : opsRunL P F ev L n ops (l ++ l2) x = (opsRunL P F ev L n ops l x).bind (opsRunL P F ev L n ops l2) := by
  induction l generalizing x with
  | nil => rfl
  | cons i l ih =>
    simp only [List.cons_append, opsRunL]
    cases opStepL P F ev L n ops i x with
    | none => rfl
    | some y => simp only [Option.bind_some]; exact ih y
/-- An operation that may change places with all before it comes first. -/
theorem opsRunL_front {L : List Nat} {i : Nat} {oi : Oper} (hi : ops[i]? = some oi) : ∀ (l : List Nat) (x y : T Value × AHeap), (∀ j ∈ l, ∃ oj, ops[j]? = some oj ∧ swapOK ops oj oi = true) →
    opsRunL P F ev L n ops (l ++ [i]) x = some y → opsRunL P F ev L n ops (i :: l) x = some y
  | [], x, y, _, h => h
  | j :: l, x, y, hl, h => by
    simp only [List.cons_append, opsRunL] at h
    rw [Option.bind_eq_some_iff] at h
    obtain ⟨x1, h1, h⟩ := h
    have h' := opsRunL_front hi l x1 y (fun k hk => hl k (List.mem_cons_of_mem _ hk)) h
    simp only [opsRunL] at h'
    rw [Option.bind_eq_some_iff] at h'
    obtain ⟨x2, h2, h'⟩ := h'
    obtain ⟨oj, hj, hs⟩ := hl j (List.mem_cons_self ..)
    obtain ⟨x3, h3, h4⟩ := opStepL_swap hi hj hs h1 h2
    simp only [opsRunL]
    rw [h3]
    simp only [Option.bind_some]
    rw [h4]
    exact h'
/-- What an operation must wait for, by steps. -/
def reach (ops : Array Oper) : Nat → Nat → Nat → Bool
  | 0, _, _ => false
  | f + 1, i, j => match ops[i]? with
    | some o => o.after.toList.any fun e => Region.binds .any e && (e.on == j || reach ops f e.on j)
    | none => false
def drawOK (ops : Array Oper) : Bool :=
  (List.range ops.size).all fun i => match ops[i]? with
    | some oi => (oi.after.toList.all fun e => !Region.binds .any e || decide (e.on < i)) &&
        (List.range i).all fun j => match ops[j]? with
          | some oj => swapOK ops oj oi || reach ops 12 i j
          | none => false
    | none => false
def Closed (ops : Array Oper) (listed : Array Bool) : Prop :=
  ∀ i o, ops[i]? = some o → listed.getD i true = true → ∀ e ∈ o.after, Region.binds .any e = true → i < ops.size → listed.getD e.on false = true
theorem reach_listed {listed : Array Bool} (hsz : listed.size = ops.size) (hc : Closed ops listed) : ∀ (f i j : Nat) (o : Oper), ops[i]? = some o → (∀ e ∈ o.after, Region.binds .any e = true → listed.getD e.on false = true) → reach ops f i j = true → listed.getD j false = true
  | 0, i, j, o, _, _, h => by simp [reach] at h
  | f + 1, i, j, o, ho, hr, h => by
    simp only [reach, ho, List.any_eq_true, Bool.and_eq_true, Bool.or_eq_true, beq_iff_eq] at h
    obtain ⟨e, he, hb, h⟩ := h
    have hl := hr e (by simpa using he) hb
    rcases h with rfl | h
    · exact hl
    · have hlt : e.on < ops.size := by
        rw [Array.getD_eq_getD_getElem?] at hl
        rcases Nat.lt_or_ge e.on listed.size with h1 | h1
        · omega
        · simp [Array.getElem?_eq_none h1] at hl
      have ho' : ops[e.on]? = some ops[e.on] := by simp [hlt]
      refine reach_listed hsz hc f e.on j _ ho' (fun e' he' hb' => ?_) h
      refine hc e.on _ ho' ?_ e' he' hb' hlt
      rw [Array.getD_eq_getD_getElem?] at hl ⊢
      have : e.on < listed.size := by omega
      simp [this] at hl ⊢
      exact hl
end
end Go.Ax
