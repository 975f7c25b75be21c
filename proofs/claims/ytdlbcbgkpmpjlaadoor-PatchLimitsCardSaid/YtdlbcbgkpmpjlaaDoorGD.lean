/-
  A part of the proof: a run over an abstract memory, its soundness and its rules; each theorem says its conditions.
-/
import Derived.Test.YtdlbcbgkpmpjlaaDoorGB
import Derived.Test.YtdlbcbgkpmpjlaaDoorGC
import Derived.Laws.Strings
import Derived.OpenShut
set_option linter.unusedVariables false
set_option linter.unusedSimpArgs false
namespace Go.Ax
section
variable {P : Program} {F : FuncId → Bool} {ev : Req → Option Res} {ops : Array Oper} {n : Nat}
/-- A call of a function by its name or by a value. -/
def callOp : Op → Bool
  | .call c => match c.callee with
    | .value _ => true
    | _ => false
  | _ => false
/-- Operations that leave the memory as it is. -/
def stillOp (P : Program) (o : Op) : Bool := pureOp P o || readOp o || callOp o
/-- What an operation gives, where the memory keeps what Inv says: those that leave the memory give the same over every such memory. -/
noncomputable def opEffC (P : Program) (F : FuncId → Bool) (ev : Req → Option Res) (Inv : AHeap → Prop) (ops : Array Oper) (o : Oper) (E : T Value) (H : AHeap) : Option (Value × AHeap) := by
  classical exact match opEff P F ev ops o E H with
  | none => none
  | some (v, H') =>
    if stillOp P o.op then (if H' = H ∧ ∀ H2, Inv H2 → opEff P F ev ops o E H2 = some (v, H2) then some (v, H') else none)
    else if (Inv H → Inv H') then some (v, H') else none
theorem opEffC_congr {Inv : AHeap → Prop} {o : Oper} {E E' : T Value} {H : AHeap} (h : Agree ops o E E') : opEffC P F ev Inv ops o E H = opEffC P F ev Inv ops o E' H := by
  have this : opEff P F ev ops o E = opEff P F ev ops o E' := funext fun H2 => opEff_congr h
  unfold opEffC
  rw [this]
theorem opEffC_eff {Inv : AHeap → Prop} {o : Oper} {E : T Value} {H : AHeap} {r : Value × AHeap} (h : opEffC P F ev Inv ops o E H = some r) : opEff P F ev ops o E H = some r := by
  unfold opEffC at h
  split at h
  · cases h
  · rename_i v H' he
    rw [he]
    split at h
    · split at h
      · exact h
      · cases h
    · split at h
      · exact h
      · cases h
theorem opEffC_still {Inv : AHeap → Prop} {o : Oper} {E : T Value} {H H' : AHeap} {v : Value} (hs : stillOp P o.op = true) (h : opEffC P F ev Inv ops o E H = some (v, H')) : H' = H ∧ ∀ H2, Inv H2 → opEffC P F ev Inv ops o E H2 = some (v, H2) := by
  have he := opEffC_eff h
  unfold opEffC at h
  rw [he] at h
  simp only [hs, if_true] at h
  split at h
  · rename_i hc
    refine ⟨hc.1, fun H2 h2 => ?_⟩
    unfold opEffC
    rw [hc.2 H2 h2]
    simp only [hs, if_true]
    rw [if_pos ⟨rfl, hc.2⟩]
  · cases h
theorem opEffC_inv {Inv : AHeap → Prop} {o : Oper} {E : T Value} {H H' : AHeap} {v : Value} (hi : Inv H) (h : opEffC P F ev Inv ops o E H = some (v, H')) : Inv H' := by
  by_cases hs : stillOp P o.op = true
  · rw [(opEffC_still hs h).1]; exact hi
  · have he := opEffC_eff h
    unfold opEffC at h
    rw [he] at h
    simp only [hs, if_false, Bool.false_eq_true] at h
    split at h
    · rename_i hc; exact hc hi
    · cases h
def swapC (P : Program) (ops : Array Oper) (x y : Oper) : Bool := x.apart ops y && (stillOp P x.op || stillOp P y.op)
noncomputable def opStepC (P : Program) (F : FuncId → Bool) (ev : Req → Option Res) (Inv : AHeap → Prop) (n : Nat) (ops : Array Oper) (i : Nat) (x : T Value × AHeap) : Option (T Value × AHeap) :=
  match ops[i]? with
  | none => none
  | some o => (opEffC P F ev Inv ops o x.1 x.2).bind fun r => (putE n o.dst r.1 x.1).map fun E => (E, r.2)
noncomputable def opsRunC (P : Program) (F : FuncId → Bool) (ev : Req → Option Res) (Inv : AHeap → Prop) (n : Nat) (ops : Array Oper) : List Nat → T Value × AHeap → Option (T Value × AHeap)
  | [], x => some x
  | i :: l, x => (opStepC P F ev Inv n ops i x).bind (opsRunC P F ev Inv n ops l)
theorem opStepC_inv {Inv : AHeap → Prop} {i : Nat} {x y : T Value × AHeap} (hi : Inv x.2) (h : opStepC P F ev Inv n ops i x = some y) : Inv y.2 := by
  unfold opStepC at h
  split at h
  · cases h
  · rw [Option.bind_eq_some_iff] at h
    obtain ⟨⟨v, H'⟩, hr, h⟩ := h
    rw [Option.map_eq_some_iff] at h
    obtain ⟨E1, _, rfl⟩ := h
    exact opEffC_inv hi hr
theorem opStepC_swap {Inv : AHeap → Prop} {i j : Nat} {oi oj : Oper} (hi : ops[i]? = some oi) (hj : ops[j]? = some oj) (hs : swapC P ops oj oi = true) {x x1 x2 : T Value × AHeap} (hI : Inv x.2)
    (h1 : opStepC P F ev Inv n ops j x = some x1) (h2 : opStepC P F ev Inv n ops i x1 = some x2) : ∃ x3, opStepC P F ev Inv n ops i x = some x3 ∧ opStepC P F ev Inv n ops j x3 = some x2 := by
  simp only [swapC, Bool.and_eq_true, Bool.or_eq_true] at hs
  obtain ⟨hap, hk⟩ := hs
  obtain ⟨a1, a2, a3⟩ := Oper.apart_spec hap
  obtain ⟨E, H⟩ := x
  simp only [opStepC, hi, hj] at h1 h2 ⊢
  rw [Option.bind_eq_some_iff] at h1
  obtain ⟨⟨vj, Hj⟩, hej, h1⟩ := h1
  rw [Option.map_eq_some_iff] at h1
  obtain ⟨E1, hpj, rfl⟩ := h1
  rw [Option.bind_eq_some_iff] at h2
  obtain ⟨⟨vi, Hi⟩, hei, h2⟩ := h2
  rw [Option.map_eq_some_iff] at h2
  obtain ⟨E2, hpi, rfl⟩ := h2
  simp only at hej hei hpj hpi hI
  have agi : Agree ops oi E1 E := fun d hd => putE_get hpj fun e => a1 d e hd
  rw [opEffC_congr agi] at hei
  obtain ⟨E3, hp3⟩ := putE_some hpi E
  have agj : Agree ops oj E3 E := fun d hd => putE_get hp3 fun e => a3 d e hd
  have hfin : putE n oj.dst vj E3 = some E2 := putE_comm hpj hpi hp3 a2
  rcases hk with hk | hk
  · obtain ⟨e, hall⟩ := opEffC_still hk hej
    subst e
    refine ⟨(E3, Hi), by rw [hei]; simp [hp3], ?_⟩
    simp only
    rw [opEffC_congr agj, hall Hi (opEffC_inv hI hei)]
    simp [hfin]
  · obtain ⟨e, hall⟩ := opEffC_still hk hei
    subst e
    refine ⟨(E3, H), by rw [hall H hI]; simp [hp3], ?_⟩
    simp only
    rw [opEffC_congr agj, hej]
    simp [hfin]
theorem opStepC_step {Inv : AHeap → Prop} {i : Nat} {x y : T Value × AHeap} (h : opStepC P F ev Inv n ops i x = some y) : opStep P F ev n ops i x = some y := by
  unfold opStepC at h
  unfold opStep
  cases ho : ops[i]? with
  | none => rw [ho] at h; cases h
  | some o =>
    rw [ho] at h
    simp only at h ⊢
    rw [Option.bind_eq_some_iff] at h
    obtain ⟨r, hr, h⟩ := h
    rw [opEffC_eff hr]
    exact h
theorem opsRunC_run {Inv : AHeap → Prop} : ∀ (l : List Nat) (x y : T Value × AHeap), opsRunC P F ev Inv n ops l x = some y → opsRun P F ev n ops l x = some y
  | [], _, _, h => h
  | i :: l, x, y, h => by
    simp only [opsRunC] at h
    simp only [opsRun]
    rw [Option.bind_eq_some_iff] at h ⊢
    obtain ⟨z, hz, h⟩ := h
    exact ⟨z, opStepC_step hz, opsRunC_run l z y h⟩
theorem opsRunC_append {Inv : AHeap → Prop} (l l2 : List Nat) (x : T Value × AHeap) : opsRunC P F ev Inv n ops (l ++ l2) x = (opsRunC P F ev Inv n ops l x).bind (opsRunC P F ev Inv n ops l2) := by
  induction l generalizing x with
  | nil => rfl
  | cons i l ih =>
    simp only [List.cons_append, opsRunC]
    cases opStepC P F ev Inv n ops i x with
    | none => rfl
    | some y => simp only [Option.bind_some]; exact ih y
/-- An operation that may change places with all before it comes first. -/
theorem opsRunC_front {Inv : AHeap → Prop} {i : Nat} {oi : Oper} (hi : ops[i]? = some oi) : ∀ (l : List Nat) (x y : T Value × AHeap), Inv x.2 → (∀ j ∈ l, ∃ oj, ops[j]? = some oj ∧ swapC P ops oj oi = true) →
    opsRunC P F ev Inv n ops (l ++ [i]) x = some y → opsRunC P F ev Inv n ops (i :: l) x = some y
  | [], x, y, _, _, h => h
  | j :: l, x, y, hI, hl, h => by
    simp only [List.cons_append, opsRunC] at h
    rw [Option.bind_eq_some_iff] at h
    obtain ⟨x1, h1, h⟩ := h
    have h' := opsRunC_front hi l x1 y (opStepC_inv hI h1) (fun k hk => hl k (List.mem_cons_of_mem _ hk)) h
    simp only [opsRunC] at h'
    rw [Option.bind_eq_some_iff] at h'
    obtain ⟨x2, h2, h'⟩ := h'
    obtain ⟨oj, hj, hs⟩ := hl j (List.mem_cons_self ..)
    obtain ⟨x3, h3, h4⟩ := opStepC_swap hi hj hs hI h1 h2
    simp only [opsRunC]
    rw [h3]
    simp only [Option.bind_some]
    rw [h4]
    exact h'
def drawC (P : Program) (ops : Array Oper) : Bool :=
  (List.range ops.size).all fun i => match ops[i]? with
    | some oi => (oi.after.toList.all fun e => !Region.binds .any e || decide (e.on < i)) &&
        (List.range i).all fun j => match ops[j]? with
          | some oj => swapC P ops oj oi || reach ops 12 i j
          | none => false
    | none => false
theorem drawC_at (h : drawC P ops = true) {i : Nat} (hi : i < ops.size) : ∃ o, ops[i]? = some o ∧ (∀ e ∈ o.after, Region.binds .any e = true → e.on < i) ∧ ∀ j, j < i → ∃ oj, ops[j]? = some oj ∧ (swapC P ops oj o = true ∨ reach ops 12 i j = true) := by
  unfold drawC at h
  rw [List.all_eq_true] at h
  have := h i (by simpa using hi)
  have ho : ops[i]? = some ops[i] := by simp [hi]
  rw [ho] at this
  simp only [Bool.and_eq_true, List.all_eq_true] at this
  refine ⟨_, ho, fun e he hb => ?_, fun j hj => ?_⟩
  · have := this.1 e (by simpa using he)
    simpa [hb] using this
  · have := this.2 j (by simpa using hj)
    cases hoj : ops[j]? with
    | none => rw [hoj] at this; cases this
    | some oj => rw [hoj] at this; exact ⟨oj, rfl, by simpa using this⟩
theorem go_soundC {Inv : AHeap → Prop} (hd : drawC P ops = true) : ∀ (fuel t : Nat) (listed : Array Bool) (x y : T Value × AHeap), Inv x.2 → listed.size = ops.size → Closed ops listed → (unl ops.size listed).length ≤ fuel →
    opsRunC P F ev Inv n ops (unl ops.size listed) x = some y → opsRunC P F ev Inv n ops (Region.linearise.go .any ops fuel t listed []) x = some y
  | 0, t, listed, x, y, hI, hsz, hc, hf, h => by
    have : unl ops.size listed = [] := List.eq_nil_of_length_eq_zero (by omega)
    rw [this] at h
    simpa [Region.linearise.go] using h
  | fuel + 1, t, listed, x, y, hI, hsz, hc, hf, h => by
    simp only [Region.linearise.go]
    change opsRunC P F ev Inv n ops (match (Region.ready .any ops listed)[t % (Region.ready .any ops listed).length]? with
      | some i => Region.linearise.go .any ops fuel (t / (Region.ready .any ops listed).length) (listed.setIfInBounds i true) [i]
      | none => [].reverse) x = some y
    cases hi : (Region.ready .any ops listed)[t % (Region.ready .any ops listed).length]? with
    | none =>
      have hnil : Region.ready .any ops listed = [] := by
        cases hr : Region.ready .any ops listed with
        | nil => rfl
        | cons x xs =>
          rw [hr] at hi
          have hlt : t % (x :: xs).length < (x :: xs).length := Nat.mod_lt _ (by simp)
          simp at hi
          simp at hlt
          omega
      have : unl ops.size listed = [] := by
        cases hu : unl ops.size listed with
        | nil => rfl
        | cons i l =>
          exfalso
          have hm : i ∈ unl ops.size listed := by rw [hu]; exact List.mem_cons_self ..
          have hm' := List.mem_filter.1 hm
          have hlt : i < ops.size := by simpa using hm'.1
          obtain ⟨o, ho, he, _⟩ := drawC_at hd hlt
          have hp : (unl ops.size listed).Pairwise (· < ·) := (List.pairwise_lt_range).filter _
          rw [hu] at hp
          have : i ∈ Region.ready .any ops listed := mem_ready.2 ⟨hlt, by simpa using hm'.2, o, ho, fun e hee hb => by
            have hei := he e hee hb
            cases hle : listed.getD e.on false with
            | true => rfl
            | false =>
              exfalso
              have hmem : e.on ∈ unl ops.size listed := by
                refine List.mem_filter.2 ⟨by simp; omega, ?_⟩
                rw [Array.getD_eq_getD_getElem?] at hle ⊢
                have : e.on < listed.size := by omega
                simp [this] at hle ⊢
                exact hle
              rw [hu] at hmem
              rcases List.mem_cons.1 hmem with e1 | e1
              · omega
              · have := (List.pairwise_cons.1 hp).1 _ e1; omega⟩
          rw [hnil] at this; cases this
      rw [this] at h
      simpa using h
    | some i =>
      simp only []
      have hr : i ∈ Region.ready .any ops listed := List.mem_of_getElem? hi
      obtain ⟨h1, h2, o, ho, h3⟩ := mem_ready.1 hr
      have hm : i ∈ unl ops.size listed := List.mem_filter.2 ⟨by simpa using h1, by simpa using h2⟩
      obtain ⟨c1, c2, he, hlt, he2⟩ := unl_split hm hsz
      rw [linearise_go_acc, List.reverse_singleton, List.singleton_append]
      have hfront : opsRunC P F ev Inv n ops (i :: (c1 ++ c2)) x = some y := by
        have e3 : c1 ++ i :: c2 = (c1 ++ [i]) ++ c2 := by simp
        rw [he, e3, opsRunC_append, Option.bind_eq_some_iff] at h
        obtain ⟨z, hz, h⟩ := h
        have hz' := opsRunC_front ho c1 x z hI (fun j hj => by
          obtain ⟨hji, hjl⟩ := hlt j hj
          obtain ⟨o', ho', _, hall⟩ := drawC_at hd h1
          rw [ho] at ho'; cases ho'
          obtain ⟨oj, hoj, hk⟩ := hall j hji
          rcases hk with hk | hk
          · exact ⟨oj, hoj, hk⟩
          · have := reach_listed hsz hc 12 i j o ho h3 hk
            exfalso
            rw [Array.getD_eq_getD_getElem?] at this hjl
            have hjs : j < listed.size := by omega
            simp [hjs] at this hjl
            rw [this] at hjl; cases hjl) hz
        have e4 : i :: (c1 ++ c2) = (i :: c1) ++ c2 := by simp
        rw [e4, opsRunC_append, hz']
        exact h
      simp only [opsRunC] at hfront ⊢
      rw [Option.bind_eq_some_iff] at hfront ⊢
      obtain ⟨z, hz, hfront⟩ := hfront
      refine ⟨z, hz, go_soundC hd fuel _ _ z y (opStepC_inv hI hz) (by simpa using hsz) (hc.set hsz hr) ?_ (by rw [he2]; exact hfront)⟩
      have := congrArg List.length he
      rw [he2]
      simp at this ⊢
      omega
theorem schedule_soundC (hm : P.follows .mixedOrders = true) (t : Nat) {Inv : AHeap → Prop} {x y : T Value × AHeap} (hI : Inv x.2) (hd : drawC P ops = true) (h : opsRunC P F ev Inv n ops (List.range ops.size) x = some y) :
    opsRun P F ev n ops (Region.schedule (P.follows .mixedOrders) ops t) x = some y := by
  simp only [Region.schedule, hm, Bool.true_or, if_true, Region.linearise]
  have hu : unl ops.size (Array.replicate ops.size false) = List.range ops.size := by
    unfold unl
    refine List.filter_eq_self.2 fun i hi => ?_
    have : i < ops.size := by simpa using hi
    simp [this]
  refine opsRunC_run _ _ _ (go_soundC hd _ _ _ x y hI (by simp) (fun i o ho hl e he hb hi => ?_) (by rw [hu]; simp) (by rw [hu]; exact h))
  simp [hi] at hl
end
end Go.Ax
namespace Go.Ax
/-- What a program must be for the run: its functions as F gives them, mixed orders. -/
structure Cx (P : Program) (F : FuncId → Option Func) : Prop where
  get : ∀ f fn, F f = some fn → P.funcs[f]? = some fn
  enter : ∀ f fn, F f = some fn → ∀ args w, (callFunc f args).run P w = .ok (.enter f args) w
  mix : P.follows .mixedOrders = true
theorem Cx.of_ok {P : Program} {lo hi : Nat} (hok : fnsOK P lo hi = true) (hmix : P.follows .mixedOrders = true) : Cx P (fnsOf P lo hi) := ⟨fnsOf_get, fnsOf_enter hok, hmix⟩
/-- A REQUEST THAT IS ANSWERED SO, in every world. -/
def EvS (P : Program) (r : Req) (res : Res) : Prop := ∀ base, SndReq P base r res
def Valid (P : Program) (ev : Req → Option Res) : Prop := ∀ r res, ev r = some res → EvS P r res
abbrev noEv : Req → Option Res := fun _ => none
theorem Valid.none (P : Program) : Valid P noEv := fun _ _ h => by cases h
theorem Valid.eval {P : Program} {F : FuncId → Option Func} (hx : Cx P F) (k : Nat) : Valid P (eval P F k) := fun r res h _base => eval_sound hx.get hx.enter hx.mix k r res h
/-- An answer that satisfies Q. -/
def Tr (P : Program) (r : Req) (Q : Res → Prop) : Prop := ∃ res, EvS P r res ∧ Q res
theorem Tr.mono {P : Program} {r : Req} {Q Q' : Res → Prop} (h : Tr P r Q) (k : ∀ res, Q res → Q' res) : Tr P r Q' := let ⟨res, h1, h2⟩ := h; ⟨res, h1, k _ h2⟩
section
variable {P : Program} {F : FuncId → Option Func} {fs : FrS} {Q : Res → Prop}
theorem EvS.code (hx : Cx P F) {ev : Req → Option Res} (hev : Valid P ev) {c : Code} {s : AS} {res : Res} (h : codeStep P F ev fs c s = some res) : EvS P (.code fs c s) res :=
  fun base => codeStep_sound hx.enter hx.mix (fun r res h => hev r res h base) h
/-- Known answers to one request, as an oracle. -/
noncomputable def orc (r0 : Req) (res : Res) : Req → Option Res := fun r => by
  classical exact if r = r0 then some res else none
theorem orc_at (r : Req) (res : Res) : orc r res r = some res := by simp [orc]
theorem Valid.orc {r0 : Req} {res : Res} (h : EvS P r0 res) : Valid P (orc r0 res) := by
  intro r res' hr
  unfold Ax.orc at hr
  split at hr
  · rename_i e; cases hr; rw [e]; exact h
  · cases hr
/-- How a code goes on, by how what stands before it was left. -/
def Then (K : AS → Prop) (Q : Res → Prop) : Res → Prop
  | .exit .normal s => K s
  | .exit e s => Q (.exit e s)
  | .value _ _ => False
theorem EvS.seq {a b : Code} {s s1 : AS} {res : Res} (h1 : EvS P (.code fs a s) (.exit .normal s1)) (h2 : EvS P (.code fs b s1) res) : EvS P (.code fs (.seq a b) s) res := by
  intro base
  have h1 := h1 base
  have h2 := h2 base
  cases res with
  | value v H => exact h2.elim
  | exit e s' =>
    intro M b a k cs w hfr hsr
    obtain ⟨M1, a1, w1, x1, x2, x3, x4⟩ := h1 M b a (.code _ :: k) cs w hfr hsr
    obtain ⟨M2, a2, w2, y1, y2, y3, y4⟩ := h2 M1 b a1 k cs w1 (hfr.mono x1) x2
    exact ⟨M2, a2, w2, x1.trans y1, y2, x3.trans y3, .of_steps (.head st_seq x4) y4⟩
theorem Tr.seq (hx : Cx P F) {a b : Code} {s : AS} (h : Tr P (.code fs a s) (Then (fun s1 => Tr P (.code fs b s1) Q) Q)) : Tr P (.code fs (.seq a b) s) Q := by
  obtain ⟨res, he, hq⟩ := h
  cases res with
  | value v H => exact hq.elim
  | exit e s1 =>
    cases e with
    | normal =>
      obtain ⟨res2, he2, hq2⟩ := hq
      exact ⟨res2, he.seq he2, hq2⟩
    | exit id =>
      refine ⟨_, EvS.code hx (Valid.orc he) ?_, hq⟩
      simp only [codeStep, orc_at]
    | goto id =>
      refine ⟨_, EvS.code hx (Valid.orc he) ?_, hq⟩
      simp only [codeStep, orc_at]
    | ret =>
      refine ⟨_, EvS.code hx (Valid.orc he) ?_, hq⟩
      simp only [codeStep, orc_at]
theorem Tr.skip (hx : Cx P F) {s : AS} (h : Q (.exit .normal s)) : Tr P (.code fs .skip s) Q := ⟨_, EvS.code hx (Valid.none P) rfl, h⟩
theorem Tr.ret (hx : Cx P F) {s : AS} (h : Q (.exit .ret s)) : Tr P (.code fs .ret s) Q := ⟨_, EvS.code hx (Valid.none P) rfl, h⟩
theorem Tr.exit (hx : Cx P F) {s : AS} {id : Nat} (h : Q (.exit (.exit id) s)) : Tr P (.code fs (.exit id) s) Q := ⟨_, EvS.code hx (Valid.none P) rfl, h⟩
theorem Tr.cond_true (hx : Cx P F) {c : Operand} {a b : Code} {s : AS} (hc : aEval s.env c = some (.bool true)) (h : Tr P (.code fs a s) Q) : Tr P (.code fs (.cond c a b) s) Q := by
  obtain ⟨res, he, hq⟩ := h
  exact ⟨res, EvS.code hx (Valid.orc he) (by simp only [codeStep, hc, if_true, orc_at]), hq⟩
theorem Tr.cond_false (hx : Cx P F) {c : Operand} {a b : Code} {s : AS} (hc : aEval s.env c = some (.bool false)) (h : Tr P (.code fs b s) Q) : Tr P (.code fs (.cond c a b) s) Q := by
  obtain ⟨res, he, hq⟩ := h
  exact ⟨res, EvS.code hx (Valid.orc he) (by simp only [codeStep, hc, Bool.false_eq_true, if_false, orc_at]), hq⟩
def InBlock (id : Nat) (Q : Res → Prop) : Res → Prop
  | .exit (.exit id') s => if id' = id then Q (.exit .normal s) else Q (.exit (.exit id') s)
  | r => Q r
theorem Tr.block (hx : Cx P F) {id : Nat} {c : Code} {s : AS} (h : Tr P (.code fs c s) (InBlock id Q)) : Tr P (.code fs (.block id c) s) Q := by
  obtain ⟨res, he, hq⟩ := h
  cases res with
  | value v H => exact (he fun _ => False).elim
  | exit e s1 =>
    cases e with
    | exit id' =>
      simp only [InBlock] at hq
      split at hq
      · rename_i hid
        exact ⟨_, EvS.code hx (Valid.orc he) (by simp only [codeStep, orc_at]; rw [if_pos hid]), hq⟩
      · rename_i hid
        exact ⟨_, EvS.code hx (Valid.orc he) (by simp only [codeStep, orc_at]; rw [if_neg hid]), hq⟩
    | normal => exact ⟨_, EvS.code hx (Valid.orc he) (by simp only [codeStep, orc_at]), hq⟩
    | goto l => exact ⟨_, EvS.code hx (Valid.orc he) (by simp only [codeStep, orc_at]), hq⟩
    | ret => exact ⟨_, EvS.code hx (Valid.orc he) (by simp only [codeStep, orc_at]), hq⟩
/-- The loop from within: a round, and again. -/
theorem EvS.again_of_loop {c : Code} {s : AS} {res : Res} (_h : ∀ s1, EvS P (.code fs c s) (.exit .normal s1) → EvS P (.again fs c s1) res → True) : True := trivial
theorem EvS.again_next {c : Code} {s s1 : AS} {res : Res} (h1 : EvS P (.code fs c s) (.exit .normal s1)) (h2 : EvS P (.again fs c s1) res) : EvS P (.again fs c s) res := by
  intro base
  have h1 := h1 base
  have h2 := h2 base
  cases res with
  | value v H => exact h2.elim
  | exit e s' =>
    intro M b a k cs w hfr hsr
    obtain ⟨M1, a1, w1, x1, x2, x3, x4⟩ := h1 M b a (.inLoop c :: k) cs w hfr hsr
    obtain ⟨M2, a2, w2, y1, y2, y3, y4⟩ := h2 M1 b a1 k cs w1 (hfr.mono x1) x2
    exact ⟨M2, a2, w2, x1.trans y1, y2, x3.trans y3, .of_steps (.head st_inLoop x4) y4⟩
theorem EvS.again_end {c : Code} {s s1 : AS} {e : AExit} (he : e ≠ .normal) (h1 : EvS P (.code fs c s) (.exit e s1)) : EvS P (.again fs c s) (.exit e s1) := by
  intro base
  have h1 := h1 base
  intro M b a k cs w hfr hsr
  obtain ⟨M1, a1, w1, x1, x2, x3, x4⟩ := h1 M b a (.inLoop c :: k) cs w hfr hsr
  exact ⟨M1, a1, w1, x1, x2, x3, .of_steps (.one st_inLoop) (.pass (x := .inLoop c) rfl he x4)⟩
/-- A LOOP, by what holds at each round's head and a measure. -/
theorem Tr.loop (hx : Cx P F) {α : Type} {c : Code} {s : AS} (I : α → AS → Prop) (μ : α → Nat) (x0 : α) (h0 : I x0 s)
    (round : ∀ x s, I x s → Tr P (.code fs c s) (Then (fun s1 => ∃ y, I y s1 ∧ μ y < μ x) Q)) : Tr P (.code fs (.loop c) s) Q := by
  have again : ∀ n x s, μ x = n → I x s → Tr P (.again fs c s) Q := by
    intro n
    induction n using Nat.strongRecOn with
    | _ n ih =>
      intro x s hn hI
      obtain ⟨res, he, hq⟩ := round x s hI
      cases res with
      | value v H => exact hq.elim
      | exit e s1 =>
        cases e with
        | normal =>
          obtain ⟨y, hy, hlt⟩ := hq
          obtain ⟨res2, he2, hq2⟩ := ih (μ y) (hn ▸ hlt) y s1 rfl hy
          exact ⟨res2, he.again_next he2, hq2⟩
        | exit id => exact ⟨_, EvS.again_end (by simp) he, hq⟩
        | goto id => exact ⟨_, EvS.again_end (by simp) he, hq⟩
        | ret => exact ⟨_, EvS.again_end (by simp) he, hq⟩
  obtain ⟨res, he, hq⟩ := round x0 s h0
  cases res with
  | value v H => exact hq.elim
  | exit e s1 =>
    cases e with
    | normal =>
      obtain ⟨y, hy, hlt⟩ := hq
      obtain ⟨res2, he2, hq2⟩ := again _ y s1 rfl hy
      refine ⟨res2, ?_, hq2⟩
      intro base
      have h1 := he base
      have h2 := he2 base
      cases res2 with
      | value v H => exact h2.elim
      | exit e s' =>
        intro M b a k cs w hfr hsr
        obtain ⟨M1, a1, w1, x1, x2, x3, x4⟩ := h1 M b a (.inLoop c :: k) cs w hfr hsr
        obtain ⟨M2, a2, w2, y1, y2, y3, y4⟩ := h2 M1 b a1 k cs w1 (hfr.mono x1) x2
        exact ⟨M2, a2, w2, x1.trans y1, y2, x3.trans y3, .of_steps (.head st_loop x4) y4⟩
    | exit id => exact ⟨_, EvS.code hx (Valid.orc he) (by simp only [codeStep, orc_at]), hq⟩
    | goto id => exact ⟨_, EvS.code hx (Valid.orc he) (by simp only [codeStep, orc_at]), hq⟩
    | ret => exact ⟨_, EvS.code hx (Valid.orc he) (by simp only [codeStep, orc_at]), hq⟩
/-- The slots of one tree stand in another. -/
def Sub (E E' : T Value) : Prop := ∀ (t : Nat) (v : Value), E.get t = some v → E'.get t = some v
theorem ER.sub {M : Map} {n : Nat} {E E' : T Value} {tm : Array Value} (h : Sub E E') (k : ER M n E' tm) : ER M n E tm := ⟨k.1, fun t v e => k.2 t v (h t v e)⟩
theorem Tr.sub {E E' : T Value} {defs : List Nat} {H : AHeap} {c : Code} (h : Sub E E') (k : Tr P (.code fs c ⟨E, defs, H⟩) Q) : Tr P (.code fs c ⟨E', defs, H⟩) Q := by
  obtain ⟨res, he, hq⟩ := k
  refine ⟨res, fun base => ?_, hq⟩
  have he := he base
  cases res with
  | value v H => exact he.elim
  | exit e s' => exact fun M b a k cs w hfr hsr => he M b a k cs w hfr ⟨hsr.er.sub h, hsr.dr, hsr.rel⟩
/-- How a region's operations stand: in their order, or in any that the schedule draws (then with the blocks that they read). -/
inductive Md (P : Program) where
  | str
  | drw (ev : Req → Option Res) (hev : Valid P ev) (L : List Nat)
  | clm (ev : Req → Option Res) (hev : Valid P ev) (Inv : AHeap → Prop)
/-- A list of operations. -/
def StepS (P : Program) (F : FuncId → Option Func) (md : Md P) (n : Nat) (ops : Array Oper) (i : Nat) (x y : T Value × AHeap) : Prop :=
  match md with
  | .str => ∃ ev, Valid P ev ∧ opStep P (fun f => (F f).isSome) ev n ops i x = some y
  | .drw ev _ L => opStepL P (fun f => (F f).isSome) ev L n ops i x = some y
  | .clm ev _ Inv => opStepC P (fun f => (F f).isSome) ev Inv n ops i x = some y
def OpsS (P : Program) (F : FuncId → Option Func) (md : Md P) (n : Nat) (ops : Array Oper) : List Nat → T Value × AHeap → T Value × AHeap → Prop
  | [], x, y => x = y
  | i :: l, x, y => ∃ z, StepS P F md n ops i x z ∧ OpsS P F md n ops l z y
def OT (P : Program) (F : FuncId → Option Func) (md : Md P) (n : Nat) (ops : Array Oper) (l : List Nat) (E : T Value) (H : AHeap) (Q : T Value → AHeap → Prop) : Prop := ∃ y, OpsS P F md n ops l (E, H) y ∧ Q y.1 y.2
theorem OT.nil {md : Md P} {n : Nat} {ops : Array Oper} {E : T Value} {H : AHeap} {Q : T Value → AHeap → Prop} (h : Q E H) : OT P F md n ops [] E H Q := ⟨_, rfl, h⟩
theorem OpsS.sound {base : Prot} (hx : Cx P F) {n : Nat} {ops : Array Oper} : ∀ (l : List Nat) {E E' : T Value} {H H' : AHeap}, OpsS P F .str n ops l (E, H) (E', H') → ∀ {M : Map} {a : Act} {w : World}, ER M n E a.tmps → Rel base M H w → ∀ (b : Frame) (k : List Item) (cs : List Frame),
    ∃ M' a' w', Ext M M' ∧ ER M' n E' a'.tmps ∧ a'.defers = a.defers ∧ Rel base M' H' w' ∧ Below base w w' ∧ Steps P (lone (Fr b a (.inRegion ops l :: k)) cs w) (lone (Fr b a' k) cs w')
  | [], E, E', H, H', h, M, a, w, her, hrel, b, k, cs => by
    cases h
    exact ⟨M, a, w, Ext.refl M, her, rfl, hrel, Below.refl _ _, .one st_region_end⟩
  | i :: l, E, E', H, H', h, M, a, w, her, hrel, b, k, cs => by
    obtain ⟨⟨E1, H1⟩, ⟨ev, hev, h1⟩, h⟩ := h
    have hF' : ∀ f, (fun f => (F f).isSome) f = true → ∀ args w, (callFunc f args).run P w = .ok (.enter f args) w := by
      intro f hf
      obtain ⟨fn, hfn⟩ := Option.isSome_iff_exists.1 hf
      exact hx.enter f fn hfn
    obtain ⟨M1, a1, w1, x1, x2, x3, x4, x5, x6⟩ := opStep_sound hF' (fun r res h => hev r res h base) (rest := l) h1 her hrel b k cs
    obtain ⟨M2, a2, w2, y1, y2, y3, y4, y5, y6⟩ := OpsS.sound hx l h x2 x4 b k cs
    exact ⟨M2, a2, w2, x1.trans y1, y2, y3.trans x3, y4, x5.trans y5, x6.trans y6⟩
theorem OpsS.runL {ev : Req → Option Res} {hev : Valid P ev} {L : List Nat} {n : Nat} {ops : Array Oper} : ∀ (l : List Nat) {x y : T Value × AHeap}, OpsS P F (.drw ev hev L) n ops l x y → opsRunL P (fun f => (F f).isSome) ev L n ops l x = some y
  | [], x, y, h => by cases h; rfl
  | i :: l, x, y, h => by
    obtain ⟨z, h1, h⟩ := h
    simp only [opsRunL]
    rw [show opStepL P (fun f => (F f).isSome) ev L n ops i x = some z from h1]
    exact OpsS.runL l h
theorem OpsS.runC {ev : Req → Option Res} {hev : Valid P ev} {Inv : AHeap → Prop} {n : Nat} {ops : Array Oper} : ∀ (l : List Nat) {x y : T Value × AHeap}, OpsS P F (.clm ev hev Inv) n ops l x y → opsRunC P (fun f => (F f).isSome) ev Inv n ops l x = some y
  | [], x, y, h => by cases h; rfl
  | i :: l, x, y, h => by
    obtain ⟨z, h1, h⟩ := h
    simp only [opsRunC]
    rw [show opStepC P (fun f => (F f).isSome) ev Inv n ops i x = some z from h1]
    exact OpsS.runC l h
theorem Tr.region (hx : Cx P F) {id : Nat} {ops : Array Oper} {E : T Value} {defs : List Nat} {H : AHeap} (h : OT P F .str fs.n ops (List.range ops.size) E H fun E' H' => Q (.exit .normal ⟨E', defs, H'⟩)) : Tr P (.code fs (.region id ops false) ⟨E, defs, H⟩) Q := by
  obtain ⟨⟨E', H'⟩, ho, hq⟩ := h
  refine ⟨_, fun base => ?_, hq⟩
  intro M b a k cs w hfr hsr
  obtain ⟨M1, a1, w1, x1, x2, x3, x4, x5, x6⟩ := OpsS.sound hx _ ho hsr.er hsr.rel b k cs
  exact ⟨M1, a1, w1, x1, ⟨x2, by rw [x3]; exact hsr.dr.mono x1, x4⟩, x5, .head st_region x6⟩
/-- A region that draws its order: the blocks L are read in it, ev answers its calls. -/
theorem Tr.draw (hx : Cx P F) (L : List Nat) (ev : Req → Option Res) (hev : Valid P ev) {id : Nat} {ops : Array Oper} {E : T Value} {defs : List Nat} {H : AHeap} (hd : drawOK P ops = true)
    (h : OT P F (.drw ev hev L) fs.n ops (List.range ops.size) E H fun E' H' => Q (.exit .normal ⟨E', defs, H'⟩)) : Tr P (.code fs (.region id ops true) ⟨E, defs, H⟩) Q := by
  obtain ⟨⟨E', H'⟩, ho, hq⟩ := h
  refine ⟨_, fun base => ?_, hq⟩
  have hF' : ∀ f, (fun f => (F f).isSome) f = true → ∀ args w, (callFunc f args).run P w = .ok (.enter f args) w := by
    intro f hf
    obtain ⟨fn, hfn⟩ := Option.isSome_iff_exists.1 hf
    exact hx.enter f fn hfn
  intro M b a k cs w hfr hsr
  have hsched := schedule_soundL hx.mix (w.tape w.drawn (.order b.fn id)) hd (ho.runL _)
  obtain ⟨M1, a1, w1, x1, x2, x3, x4, x5, x6⟩ := opsRun_sound hF' (fun r res h => hev r res h base) _ hsched hsr.er (hsr.rel.of_heap (w' := { w with drawn := w.drawn + 1 }) rfl) b k cs
  exact ⟨M1, a1, w1, x1, ⟨x2, by rw [x3]; exact hsr.dr.mono x1, x4⟩, (show Below base w { w with drawn := w.drawn + 1 } from ⟨rfl, rfl, rfl, Nat.le_refl _, fun _ _ => rfl⟩).trans x5, .head st_region_draw x6⟩
/-- A region that draws its order: its calls leave the memory, and what Inv says stays. -/
theorem Tr.drawC (hx : Cx P F) (Inv : AHeap → Prop) (ev : Req → Option Res) (hev : Valid P ev) {id : Nat} {ops : Array Oper} {E : T Value} {defs : List Nat} {H : AHeap} (hI : Inv H) (hd : drawC P ops = true)
    (h : OT P F (.clm ev hev Inv) fs.n ops (List.range ops.size) E H fun E' H' => Q (.exit .normal ⟨E', defs, H'⟩)) : Tr P (.code fs (.region id ops true) ⟨E, defs, H⟩) Q := by
  obtain ⟨⟨E', H'⟩, ho, hq⟩ := h
  refine ⟨_, fun base => ?_, hq⟩
  have hF' : ∀ f, (fun f => (F f).isSome) f = true → ∀ args w, (callFunc f args).run P w = .ok (.enter f args) w := by
    intro f hf
    obtain ⟨fn, hfn⟩ := Option.isSome_iff_exists.1 hf
    exact hx.enter f fn hfn
  intro M b a k cs w hfr hsr
  have hsched := schedule_soundC hx.mix (w.tape w.drawn (.order b.fn id)) (x := (E, H)) hI hd (ho.runC _)
  obtain ⟨M1, a1, w1, x1, x2, x3, x4, x5, x6⟩ := opsRun_sound hF' (fun r res h => hev r res h base) _ hsched hsr.er (hsr.rel.of_heap (w' := { w with drawn := w.drawn + 1 }) rfl) b k cs
  exact ⟨M1, a1, w1, x1, ⟨x2, by rw [x3]; exact hsr.dr.mono x1, x4⟩, (show Below base w { w with drawn := w.drawn + 1 } from ⟨rfl, rfl, rfl, Nat.le_refl _, fun _ _ => rfl⟩).trans x5, .head st_region_draw x6⟩
/-- What an operation owes in a region that draws its order. -/
def Side (md : Md P) (E : T Value) (o : Oper) (H H' : AHeap) : Prop :=
  match md with
  | .str => True
  | .drw _ _ L => pureOp P o.op = true ∨ (readOp o.op = true ∧ ∀ b, readBlk (aEval E) o = some b → b ∈ L) ∨ (pureOp P o.op = false ∧ readOp o.op = false ∧ ∀ b ∈ L, H'.t.get b = H.t.get b)
  | .clm _ _ Inv => pureOp P o.op = true ∨ (readOp o.op = true ∧ ∀ b, readBlk (aEval E) o = some b → ∀ H2, Inv H2 → H2.t.get b = H.t.get b) ∨ (stillOp P o.op = false ∧ (Inv H → Inv H'))
theorem Side.pure {md : Md P} {E : T Value} {o : Oper} {H H' : AHeap} (h : pureOp P o.op = true) : Side md E o H H' := by
  cases md with
  | str => trivial
  | drw ev hev L => exact .inl h
  | clm ev hev Inv => exact .inl h
theorem opEffC_side {F : FuncId → Bool} {ev : Req → Option Res} {hev : Valid P ev} {Inv : AHeap → Prop} {ops : Array Oper} {o : Oper} {E : T Value} {H H' : AHeap} {v : Value} (h : opEff P F ev ops o E H = some (v, H')) (hs : Side (.clm ev hev Inv) E o H H') : opEffC P F ev Inv ops o E H = some (v, H') := by
  rcases hs with hs | ⟨hs, hb⟩ | ⟨h1, h2⟩
  · obtain ⟨e, hall⟩ := opEff_pure hs h
    unfold opEffC
    rw [h]
    simp only [stillOp, hs, Bool.true_or, if_true]
    rw [if_pos ⟨e, fun H2 _ => hall H2⟩]
  · have key : H' = H ∧ ∀ H2, Inv H2 → opEff P F ev ops o E H2 = some (v, H2) := by
      unfold opEff at h
      cases hw : aWanted ops o E with
      | none => rw [hw] at h; cases h
      | some b =>
        rw [hw] at h
        cases b with
        | false => cases h; exact ⟨rfl, fun H2 _ => by unfold opEff; rw [hw]⟩
        | true =>
          simp only at h
          cases ha : aOp P F (aEval E) H o with
          | none => rw [ha] at h; cases h
          | some r =>
            obtain ⟨r, H1⟩ := r
            obtain ⟨v0, rfl, rfl⟩ := readOp_spec hs ha
            rw [ha] at h
            cases h
            refine ⟨rfl, fun H2 h2 => ?_⟩
            obtain ⟨v1, hv1, h3⟩ := readOp_local (H2 := H2) hs ha fun b hbb => hb b hbb H2 h2
            cases hv1
            unfold opEff
            rw [hw]
            simp only [h3]
    unfold opEffC
    rw [h]
    simp only [stillOp, hs, Bool.or_true, Bool.true_or, if_true]
    rw [if_pos key]
  · unfold opEffC
    rw [h]
    simp only [h1, Bool.false_eq_true, if_false]
    rw [if_pos h2]
theorem opEffL_side {F : FuncId → Bool} {ev : Req → Option Res} {hev : Valid P ev} {L : List Nat} {ops : Array Oper} {o : Oper} {E : T Value} {H H' : AHeap} {v : Value} (h : opEff P F ev ops o E H = some (v, H')) (hs : Side (.drw ev hev L) E o H H') : opEffL P F ev L ops o E H = some (v, H') := by
  unfold opEffL
  rw [h]
  simp only
  rcases hs with hs | ⟨hs, hb⟩ | ⟨h1, h2, hb⟩
  · rw [if_pos hs]
  · rw [if_neg (by rw [pure_not_read (P := P) hs]; simp), if_pos hs]
    split
    · split
      · rename_i b hbb
        rw [if_pos (by simpa using hb b hbb)]
      · rfl
    · rfl
  · rw [if_neg (by rw [h1]; simp), if_neg (by rw [h2]; simp), if_pos hb]
theorem OT.eff {md : Md P} {n : Nat} {ops : Array Oper} {i : Nat} {l : List Nat} {E E' : T Value} {H H' : AHeap} {Q : T Value → AHeap → Prop} {o : Oper} {v : Value} (ho : ops[i]? = some o)
    (he : ∀ ev, opEff P (fun f => (F f).isSome) ev ops o E H = some (v, H')) (hs : Side md E o H H') (hp : putE n o.dst v E = some E') (k : OT P F md n ops l E' H' Q) : OT P F md n ops (i :: l) E H Q := by
  obtain ⟨y, hy, hq⟩ := k
  refine ⟨y, ⟨(E', H'), ?_, hy⟩, hq⟩
  cases md with
  | str => exact ⟨noEv, Valid.none P, by simp [opStep, ho, he, hp]⟩
  | drw ev hev L => show opStepL _ _ _ _ _ _ _ _ = _; simp [opStepL, ho, opEffL_side (he ev) hs, hp]
  | clm ev hev Inv => show opStepC _ _ _ _ _ _ _ _ = _; simp [opStepC, ho, opEffC_side (he ev) hs, hp]
theorem OT.val {md : Md P} {n : Nat} {ops : Array Oper} {i : Nat} {l : List Nat} {E E' : T Value} {H H' : AHeap} {Q : T Value → AHeap → Prop} {o : Oper} {v : Value} (ho : ops[i]? = some o) (hw : aWanted ops o E = some true)
    (ha : aOp P (fun f => (F f).isSome) (aEval E) H o = some (.val v, H')) (hs : Side md E o H H') (hp : putE n o.dst v E = some E') (k : OT P F md n ops l E' H' Q) : OT P F md n ops (i :: l) E H Q :=
  OT.eff ho (fun ev => by simp [opEff, hw, ha]) hs hp k
theorem OT.void {md : Md P} {n : Nat} {ops : Array Oper} {i : Nat} {l : List Nat} {E E' : T Value} {H H' : AHeap} {Q : T Value → AHeap → Prop} {o : Oper} (ho : ops[i]? = some o) (hw : aWanted ops o E = some true)
    (ha : aOp P (fun f => (F f).isSome) (aEval E) H o = some (.skip, H')) (hs : Side md E o H H') (hp : putE n o.dst undef E = some E') (k : OT P F md n ops l E' H' Q) : OT P F md n ops (i :: l) E H Q :=
  OT.eff ho (fun ev => by simp [opEff, hw, ha]) hs hp k
theorem Side.pass {ev : Req → Option Res} {hev : Valid P ev} {L : List Nat} {E : T Value} {o : Oper} {H : AHeap} (h : readOp o.op = false) : Side (.drw ev hev L) E o H H := by
  by_cases hp : pureOp P o.op = true
  · exact .inl hp
  · exact .inr (.inr ⟨by simpa using hp, h, fun _ _ => rfl⟩)
theorem OT.pass {md : Md P} {n : Nat} {ops : Array Oper} {i : Nat} {l : List Nat} {E E' : T Value} {H : AHeap} {Q : T Value → AHeap → Prop} {o : Oper} (ho : ops[i]? = some o) (hw : aWanted ops o E = some false)
    (hp : putE n o.dst undef E = some E') (k : OT P F md n ops l E' H Q) : OT P F md n ops (i :: l) E H Q := by
  obtain ⟨y, hy, hq⟩ := k
  refine ⟨y, ⟨(E', H), ?_, hy⟩, hq⟩
  have he : ∀ ev, opEff P (fun f => (F f).isSome) ev ops o E H = some (undef, H) := fun ev => by simp [opEff, hw]
  cases md with
  | str => exact ⟨noEv, Valid.none P, by simp [opStep, ho, he, hp]⟩
  | drw ev hev L =>
    show opStepL _ _ _ _ _ _ _ _ = _
    have : opEffL P (fun f => (F f).isSome) ev L ops o E H = some (undef, H) := by
      unfold opEffL
      rw [he]
      simp only [hw]
      split
      · rfl
      · split
        · rfl
        · simp
    simp [opStepL, ho, this, hp]
  | clm ev hev Inv =>
    show opStepC _ _ _ _ _ _ _ _ = _
    have : opEffC P (fun f => (F f).isSome) ev Inv ops o E H = some (undef, H) := by
      have hall : ∀ H2, opEff P (fun f => (F f).isSome) ev ops o E H2 = some (undef, H2) := fun H2 => by simp [opEff, hw]
      unfold opEffC
      rw [he]
      simp only
      split
      · rw [if_pos ⟨rfl, fun H2 _ => hall H2⟩]
      · rw [if_pos fun h => h]
    simp [opStepC, ho, this, hp]
/-- A call, by what is known of it. -/
theorem OT.call {n : Nat} {ops : Array Oper} {i : Nat} {l : List Nat} {E : T Value} {H H1 : AHeap} {Q : T Value → AHeap → Prop} {o : Oper} {f : FuncId} {args : Array Value} {R : Value → AHeap → Prop} (ho : ops[i]? = some o) (hw : aWanted ops o E = some true)
    (ha : aOp P (fun f => (F f).isSome) (aEval E) H o = some (.enter f args, H1)) (hc : ∃ v H2, EvS P (.call f args H1) (.value v H2) ∧ R v H2)
    (k : ∀ v H2, R v H2 → ∃ E', putE n o.dst v E = some E' ∧ OT P F .str n ops l E' H2 Q) : OT P F .str n ops (i :: l) E H Q := by
  obtain ⟨v, H2, he, hr⟩ := hc
  obtain ⟨E', hp, y, hy, hq⟩ := k v H2 hr
  exact ⟨y, ⟨(E', H2), ⟨Ax.orc _ _, Valid.orc he, by simp [opStep, ho, opEff, hw, ha, orc_at, hp]⟩, hy⟩, hq⟩
/-- A call in a region that draws its order. -/
theorem OT.callD {ev : Req → Option Res} {hev : Valid P ev} {L : List Nat} {n : Nat} {ops : Array Oper} {i : Nat} {l : List Nat} {E E' : T Value} {H H1 H2 : AHeap} {Q : T Value → AHeap → Prop} {o : Oper} {f : FuncId} {args : Array Value} {v : Value} (ho : ops[i]? = some o) (hw : aWanted ops o E = some true)
    (ha : aOp P (fun f => (F f).isSome) (aEval E) H o = some (.enter f args, H1)) (hc : ev (.call f args H1) = some (.value v H2)) (hs : Side (.drw ev hev L) E o H H2)
    (hp : putE n o.dst v E = some E') (k : OT P F (.drw ev hev L) n ops l E' H2 Q) : OT P F (.drw ev hev L) n ops (i :: l) E H Q := by
  obtain ⟨y, hy, hq⟩ := k
  refine ⟨y, ⟨(E', H2), ?_, hy⟩, hq⟩
  show opStepL _ _ _ _ _ _ _ _ = _
  have : opEff P (fun f => (F f).isSome) ev ops o E H = some (v, H2) := by simp [opEff, hw, ha, hc]
  simp [opStepL, ho, opEffL_side this hs, hp]
/-- A call that leaves the memory, in a region that draws its order. -/
theorem OT.callC {ev : Req → Option Res} {hev : Valid P ev} {Inv : AHeap → Prop} {n : Nat} {ops : Array Oper} {i : Nat} {l : List Nat} {E E' : T Value} {H : AHeap} {Q : T Value → AHeap → Prop} {o : Oper} {f : FuncId} {args : Array Value} {v : Value} (ho : ops[i]? = some o) (hw : aWanted ops o E = some true) (hcl : callOp o.op = true)
    (ha : ∀ H, aOp P (fun f => (F f).isSome) (aEval E) H o = some (.enter f args, H)) (hI : Inv H) (hc : ∀ H, Inv H → ev (.call f args H) = some (.value v H))
    (hp : putE n o.dst v E = some E') (k : OT P F (.clm ev hev Inv) n ops l E' H Q) : OT P F (.clm ev hev Inv) n ops (i :: l) E H Q := by
  obtain ⟨y, hy, hq⟩ := k
  refine ⟨y, ⟨(E', H), ?_, hy⟩, hq⟩
  show opStepC _ _ _ _ _ _ _ _ = _
  have hall : ∀ H, Inv H → opEff P (fun f => (F f).isSome) ev ops o E H = some (v, H) := fun H h => by simp [opEff, hw, ha, hc H h]
  have : opEffC P (fun f => (F f).isSome) ev Inv ops o E H = some (v, H) := by
    unfold opEffC
    rw [hall H hI]
    simp only [stillOp, hcl, Bool.or_true, if_true]
    rw [if_pos ⟨rfl, hall⟩]
  simp [opStepC, ho, this, hp]
/-- Known answers to two calls that leave the memory. -/
noncomputable def orcC (Inv : AHeap → Prop) (f1 : FuncId) (a1 : Array Value) (v1 : Value) (f2 : FuncId) (a2 : Array Value) (v2 : Value) : Req → Option Res
  | .call f a H => by
    classical exact if f = f1 ∧ a = a1 ∧ Inv H then some (.value v1 H) else if f = f2 ∧ a = a2 ∧ Inv H then some (.value v2 H) else none
  | _ => none
theorem Valid.orcC {Inv : AHeap → Prop} {f1 f2 : FuncId} {a1 a2 : Array Value} {v1 v2 : Value} (h1 : ∀ H, Inv H → EvS P (.call f1 a1 H) (.value v1 H)) (h2 : ∀ H, Inv H → EvS P (.call f2 a2 H) (.value v2 H)) : Valid P (Ax.orcC Inv f1 a1 v1 f2 a2 v2) := by
  intro r res hr
  cases r with
  | call f a H =>
    simp only [Ax.orcC] at hr
    split at hr
    · rename_i hc; obtain ⟨rfl, rfl, hI⟩ := hc; cases hr; exact h1 H hI
    · split at hr
      · rename_i hc; obtain ⟨rfl, rfl, hI⟩ := hc; cases hr; exact h2 H hI
      · cases hr
  | _ => cases hr
theorem orcC_1 {Inv : AHeap → Prop} {f1 f2 : FuncId} {a1 a2 : Array Value} {v1 v2 : Value} (H : AHeap) (hI : Inv H) : orcC Inv f1 a1 v1 f2 a2 v2 (.call f1 a1 H) = some (.value v1 H) := by simp [orcC, hI]
theorem orcC_2 {Inv : AHeap → Prop} {f1 f2 : FuncId} {a1 a2 : Array Value} {v1 v2 : Value} (hv : f2 = f1 → a2 = a1 → v1 = v2) (H : AHeap) (hI : Inv H) : orcC Inv f1 a1 v1 f2 a2 v2 (.call f2 a2 H) = some (.value v2 H) := by
  simp only [orcC]
  split
  · rename_i hc; rw [hv hc.1 hc.2.1]
  · rw [if_pos ⟨rfl, rfl, hI⟩]
/-- A FUNCTION, by its body. -/
theorem EvS.call (hx : Cx P F) {f : FuncId} {fn : Func} {c : Code} {args : Array Value} {H : AHeap} {R : Value → AHeap → Prop} (hfn : F f = some fn) (hb : fn.body = some c) (hn : args.size ≤ fn.ntmps ∧ args.size < 1000)
    (h : Tr P (.code ⟨f, none, fn.ntmps⟩ c ⟨setArgs 0 args.toList .nil, [], H⟩) (fun | .exit .normal s | .exit .ret s => ∃ H2 vs, takeAll s.H s.defs = some H2 ∧ allSome (fn.results.toList.map (resVal P s.env H2)) = some vs ∧ R (resOf vs) H2 | _ => False)) :
    ∃ v H2, EvS P (.call f args H) (.value v H2) ∧ R v H2 := by
  obtain ⟨res, he, hq⟩ := h
  have key : ∀ {e : AExit} {s : AS}, EvS P (.code ⟨f, none, fn.ntmps⟩ c ⟨setArgs 0 args.toList .nil, [], H⟩) (.exit e s) → (e = .normal ∨ e = .ret) → (∃ H2 vs, takeAll s.H s.defs = some H2 ∧ allSome (fn.results.toList.map (resVal P s.env H2)) = some vs ∧ R (resOf vs) H2) →
      ∃ v H2, EvS P (.call f args H) (.value v H2) ∧ R v H2 := by
    rintro e s hcode he ⟨H2, vs, ht, hvs, hr⟩
    refine ⟨_, H2, fun base => ?_, hr⟩
    intro M args' w cs hargs hrel
    let fb : Frame := { (default : Frame) with fn := f, kind := .normal }
    have hal := (VRA.iff.1 hargs).length
    simp only [Array.length_toList] at hal
    let a0 : Act := { tmps := args' ++ Array.replicate (fn.ntmps - args'.size) undef, defers := [] }
    have henter : Frame.enter P f args' .normal = Fr fb a0 [.code c] := by
      simp [Frame.enter, Fr, fb, a0, hx.get f fn hfn, hb]
      rfl
    have hfr : FrOK M ⟨f, none, fn.ntmps⟩ fb := ⟨rfl, rfl, rfl⟩
    obtain ⟨M1, a1, w1, x1, x2, x3, x4⟩ := (hcode base) M fb a0 [] cs w hfr ⟨enter_er hargs hn.1 hn.2, rfl, hrel⟩
    have hret : ∃ k0, Steps P (lone (Fr fb a0 [.code c]) cs w) (lone { Fr fb a1 k0 with mode := .returning } cs w1) := by
      rcases he with rfl | rfl
      · exact ⟨[], Steps.trans x4 (.one (st_end rfl))⟩
      · obtain ⟨k0, z⟩ := x4
        exact ⟨.code .ret :: k0, z.trans (.one (st_ret rfl))⟩
    obtain ⟨k0, hret⟩ := hret
    obtain ⟨w2, y1, y2, y3⟩ := takeAll_sound (b := fb) (k := k0) (cs := cs) _ _ _ a1 w1 ht x2.dr x2.rel
    obtain ⟨v', hr, hv⟩ := results_sound (P := P) x2.er y1 hvs
    refine ⟨M1, w2, v', { Fr fb { a1 with defers := [] } k0 with mode := .returning }, x1, hv, y1, x3.trans y2, ?_, rfl, rfl, rfl, rfl, fn, hx.get f fn hfn, hr⟩
    rw [henter]
    exact hret.trans y3
  cases res with
  | value v H => exact hq.elim
  | exit e s =>
    cases e with
    | normal => exact key he (.inl rfl) hq
    | ret => exact key he (.inr rfl) hq
    | exit id => exact hq.elim
    | goto l => exact hq.elim
end
end Go.Ax
namespace Go.Ax
section
variable {P : Program} {F : FuncId → Option Func} {md : Md P} {n : Nat} {ops : Array Oper} {i : Nat} {l : List Nat} {E : T Value} {H : AHeap} {Q : T Value → AHeap → Prop}
def slotOK (n d : Nat) : Bool := decide (d < n) && decide (d < 500000)
theorem putE_ok {d : Nat} (h : slotOK n d = true) (v : Value) (E : T Value) : putE n (some d) v E = some (T.set 20 E d v) := by
  simp only [slotOK, Bool.and_eq_true, decide_eq_true_eq] at h
  simp only [putE, h, and_self, if_true]
/-- An operation whose value is known. -/
theorem OT.op {d : Nat} {p : Op} {ty : TypeId} {pos : String} {af : Array Edge} {g : Option (Nat × Bool)} {v : Value} {H' : AHeap} (ho : ops[i]? = some ⟨some d, p, ty, pos, af, g⟩) (hw : aWanted ops ⟨some d, p, ty, pos, af, g⟩ E = some true)
    (ha : aOp P (fun f => (F f).isSome) (aEval E) H ⟨some d, p, ty, pos, af, g⟩ = some (.val v, H')) (hs : Side md E ⟨some d, p, ty, pos, af, g⟩ H H') (hd : slotOK n d = true) (k : OT P F md n ops l (T.set 20 E d v) H' Q) : OT P F md n ops (i :: l) E H Q :=
  OT.val ho hw ha hs (putE_ok hd v E) k
theorem OT.move {d : Nat} {x : Operand} {ty : TypeId} {pos : String} {af : Array Edge} {g : Option (Nat × Bool)} {v : Value} (ho : ops[i]? = some ⟨some d, .move x, ty, pos, af, g⟩) (hw : aWanted ops ⟨some d, .move x, ty, pos, af, g⟩ E = some true)
    (hx : aEval E x = some v) (hd : slotOK n d = true) (k : OT P F md n ops l (T.set 20 E d v) H Q) : OT P F md n ops (i :: l) E H Q := OT.op ho hw (by simp [aOp, hx]) (Side.pure rfl) hd k
theorem OT.assign {d : Nat} {x : Operand} {ty : TypeId} {pos : String} {af : Array Edge} {g : Option (Nat × Bool)} {v : Value} (ho : ops[i]? = some ⟨some d, .assign x, ty, pos, af, g⟩) (hw : aWanted ops ⟨some d, .assign x, ty, pos, af, g⟩ E = some true)
    (hx : aEval E x = some v) (hd : slotOK n d = true) (k : OT P F md n ops l (T.set 20 E d v) H Q) : OT P F md n ops (i :: l) E H Q := OT.op ho hw (by simp [aOp, hx]) (Side.pure rfl) hd k
theorem OT.un {d : Nat} {p : Op} {ty : TypeId} {pos : String} {af : Array Edge} {j : Nat} {t : Bool} (ho : ops[i]? = some ⟨some d, p, ty, pos, af, some (j, t)⟩) (hw : aWanted ops ⟨some d, p, ty, pos, af, some (j, t)⟩ E = some false)
    (hd : slotOK n d = true) (k : OT P F md n ops l (T.set 20 E d undef) H Q) : OT P F md n ops (i :: l) E H Q := OT.pass ho hw (putE_ok hd _ E) k
theorem OT.pickT {d : Nat} {c x y : Operand} {ty : TypeId} {pos : String} {af : Array Edge} {g : Option (Nat × Bool)} {v : Value} (ho : ops[i]? = some ⟨some d, .pick c x y, ty, pos, af, g⟩) (hw : aWanted ops ⟨some d, .pick c x y, ty, pos, af, g⟩ E = some true)
    (hc : aEval E c = some (.bool true)) (hx : aEval E x = some v) (hd : slotOK n d = true) (k : OT P F md n ops l (T.set 20 E d v) H Q) : OT P F md n ops (i :: l) E H Q := OT.op ho hw (by simp [aOp, hc, hx]) (Side.pure rfl) hd k
theorem OT.pickF {d : Nat} {c x y : Operand} {ty : TypeId} {pos : String} {af : Array Edge} {g : Option (Nat × Bool)} {v : Value} (ho : ops[i]? = some ⟨some d, .pick c x y, ty, pos, af, g⟩) (hw : aWanted ops ⟨some d, .pick c x y, ty, pos, af, g⟩ E = some true)
    (hc : aEval E c = some (.bool false)) (hy : aEval E y = some v) (hd : slotOK n d = true) (k : OT P F md n ops l (T.set 20 E d v) H Q) : OT P F md n ops (i :: l) E H Q := OT.op ho hw (by simp [aOp, hc, hy]) (Side.pure rfl) hd k
def isCmp : BinOp → Bool
  | .eql | .neq | .lss | .leq | .gtr | .geq => true
  | _ => false
def cmpP : BinOp → Int → Int → Prop
  | .eql, a, b => a = b
  | .neq, a, b => a ≠ b
  | .lss, a, b => a < b
  | .leq, a, b => a ≤ b
  | .gtr, a, b => b < a
  | .geq, a, b => b ≤ a
  | _, _, _ => False
theorem aBin_cmpT {op : BinOp} {t : TypeId} {xo yo : Operand} {k : IntKind} {a b : Int} (ho : isCmp op = true) (h : cmpP op a b) : aBin P op t xo yo (.int k a) (.int k b) = some (.bool true) := by
  cases op <;> simp [isCmp] at ho <;> simp only [cmpP] at h <;> simp [aBin, flat, eqGuard, binOp, Op.intCmp, pureRun_pure, h]
theorem aBin_cmpF {op : BinOp} {t : TypeId} {xo yo : Operand} {k : IntKind} {a b : Int} (ho : isCmp op = true) (h : ¬ cmpP op a b) : aBin P op t xo yo (.int k a) (.int k b) = some (.bool false) := by
  cases op <;> simp [isCmp] at ho <;> simp only [cmpP] at h <;> simp [aBin, flat, eqGuard, binOp, Op.intCmp, pureRun_pure] <;> first | exact h | omega
theorem OT.cmpT {d : Nat} {op : BinOp} {t yt : TypeId} {x y : Operand} {ty : TypeId} {pos : String} {af : Array Edge} {g : Option (Nat × Bool)} {kd : IntKind} {a b : Int} (ho : ops[i]? = some ⟨some d, .binOp op t x y yt, ty, pos, af, g⟩)
    (hw : aWanted ops ⟨some d, .binOp op t x y yt, ty, pos, af, g⟩ E = some true) (hop : isCmp op = true) (hx : aEval E x = some (.int kd a)) (hy : aEval E y = some (.int kd b)) (hc : cmpP op a b) (hd : slotOK n d = true)
    (k : OT P F md n ops l (T.set 20 E d (.bool true)) H Q) : OT P F md n ops (i :: l) E H Q := OT.op ho hw (by simp [aOp, hx, hy, aBin_cmpT hop hc]) (Side.pure rfl) hd k
theorem OT.cmpF {d : Nat} {op : BinOp} {t yt : TypeId} {x y : Operand} {ty : TypeId} {pos : String} {af : Array Edge} {g : Option (Nat × Bool)} {kd : IntKind} {a b : Int} (ho : ops[i]? = some ⟨some d, .binOp op t x y yt, ty, pos, af, g⟩)
    (hw : aWanted ops ⟨some d, .binOp op t x y yt, ty, pos, af, g⟩ E = some true) (hop : isCmp op = true) (hx : aEval E x = some (.int kd a)) (hy : aEval E y = some (.int kd b)) (hc : ¬ cmpP op a b) (hd : slotOK n d = true)
    (k : OT P F md n ops l (T.set 20 E d (.bool false)) H Q) : OT P F md n ops (i :: l) E H Q := OT.op ho hw (by simp [aOp, hx, hy, aBin_cmpF hop hc]) (Side.pure rfl) hd k
theorem aBin_add {t : TypeId} {xo yo : Operand} {k : IntKind} {a b : Int} : aBin P .add t xo yo (.int k a) (.int k b) = some (.int k (k.wrap (a + b))) := by simp [aBin, flat, eqGuard, binOp, Op.intArith, pureRun_pure]
theorem aBin_sub {t : TypeId} {xo yo : Operand} {k : IntKind} {a b : Int} : aBin P .sub t xo yo (.int k a) (.int k b) = some (.int k (k.wrap (a - b))) := by simp [aBin, flat, eqGuard, binOp, Op.intArith, pureRun_pure]
theorem aBin_mul {t : TypeId} {xo yo : Operand} {k : IntKind} {a b : Int} : aBin P .mul t xo yo (.int k a) (.int k b) = some (.int k (k.wrap (a * b))) := by simp [aBin, flat, eqGuard, binOp, Op.intArith, pureRun_pure]
theorem aBin_quo {t : TypeId} {xo yo : Operand} {k : IntKind} {a b : Int} (hb : b ≠ 0) : aBin P .quo t xo yo (.int k a) (.int k b) = some (.int k (k.wrap (a.tdiv b))) := by simp [aBin, flat, eqGuard, binOp, Op.intDiv, pureRun_pure, hb]
theorem aBin_rem {t : TypeId} {xo yo : Operand} {k : IntKind} {a b : Int} (hb : b ≠ 0) : aBin P .rem t xo yo (.int k a) (.int k b) = some (.int k (a.tmod b)) := by simp [aBin, flat, eqGuard, binOp, Op.intDiv, pureRun_pure, hb]
theorem OT.add {d : Nat} {t yt : TypeId} {x y : Operand} {ty : TypeId} {pos : String} {af : Array Edge} {g : Option (Nat × Bool)} {kd : IntKind} {a b : Int} (ho : ops[i]? = some ⟨some d, .binOp .add t x y yt, ty, pos, af, g⟩)
    (hw : aWanted ops ⟨some d, .binOp .add t x y yt, ty, pos, af, g⟩ E = some true) (hx : aEval E x = some (.int kd a)) (hy : aEval E y = some (.int kd b)) (hc : kd.wrap (a + b) = a + b) (hd : slotOK n d = true)
    (k : OT P F md n ops l (T.set 20 E d (.int kd (a + b))) H Q) : OT P F md n ops (i :: l) E H Q := OT.op ho hw (by simp [aOp, hx, hy, aBin_add, hc]) (Side.pure rfl) hd k
theorem OT.sub {d : Nat} {t yt : TypeId} {x y : Operand} {ty : TypeId} {pos : String} {af : Array Edge} {g : Option (Nat × Bool)} {kd : IntKind} {a b : Int} (ho : ops[i]? = some ⟨some d, .binOp .sub t x y yt, ty, pos, af, g⟩)
    (hw : aWanted ops ⟨some d, .binOp .sub t x y yt, ty, pos, af, g⟩ E = some true) (hx : aEval E x = some (.int kd a)) (hy : aEval E y = some (.int kd b)) (hc : kd.wrap (a - b) = a - b) (hd : slotOK n d = true)
    (k : OT P F md n ops l (T.set 20 E d (.int kd (a - b))) H Q) : OT P F md n ops (i :: l) E H Q := OT.op ho hw (by simp [aOp, hx, hy, aBin_sub, hc]) (Side.pure rfl) hd k
theorem OT.mul {d : Nat} {t yt : TypeId} {x y : Operand} {ty : TypeId} {pos : String} {af : Array Edge} {g : Option (Nat × Bool)} {kd : IntKind} {a b : Int} (ho : ops[i]? = some ⟨some d, .binOp .mul t x y yt, ty, pos, af, g⟩)
    (hw : aWanted ops ⟨some d, .binOp .mul t x y yt, ty, pos, af, g⟩ E = some true) (hx : aEval E x = some (.int kd a)) (hy : aEval E y = some (.int kd b)) (hc : kd.wrap (a * b) = a * b) (hd : slotOK n d = true)
    (k : OT P F md n ops l (T.set 20 E d (.int kd (a * b))) H Q) : OT P F md n ops (i :: l) E H Q := OT.op ho hw (by simp [aOp, hx, hy, aBin_mul, hc]) (Side.pure rfl) hd k
end
end Go.Ax
namespace Go.Ax
/-- A byte; a text. -/
def bv (b : UInt8) : Value := .int .u8 (b.toNat : Int)
def bstr (l : List UInt8) : Value := .string ⟨l.toArray⟩
theorem size_bstr (l : List UInt8) : (⟨l.toArray⟩ : ByteArray).size = l.length := rfl
theorem flatL_bv : ∀ l : List UInt8, flatL (l.map bv) = true
  | [] => rfl
  | _ :: l => by simp only [List.map_cons, flatL, flatL_bv l]; rfl
theorem one_bv (l : List UInt8) : (l.map bv).all (·.oneCell') = true := by simp [List.all_eq_true, bv, Value.oneCell']
theorem bytes_fold {P : Program} {f : Value → ByteArray → Sem (ForInStep ByteArray)} (hf : ∀ (b : UInt8) (s : ByteArray), f (bv b) s = pure (.yield (s.push b))) : ∀ (l : List UInt8) (s : ByteArray), pureRun P (forIn (m := Sem) (l.map bv) s f) = some ⟨(s.data.toList ++ l).toArray⟩
  | [], s => by simp [pureRun_pure]
  | b :: l, s => by
    simp only [List.map_cons, List.forIn_cons, pureRun_bind, hf, pureRun_pure, Option.bind_some]
    rw [bytes_fold hf l]
    congr 2
    simp
theorem bytesOf_bv {P : Program} (l : List UInt8) : pureRun P (bytesOf (l.map bv).toArray) = some (bstr l) := by
  unfold bytesOf
  simp only [List.forIn_toArray, pureRun_bind]
  rw [bytes_fold (fun b s => ?_)]
  · simp [pureRun_pure, bstr]
  · simp [bv]
section
variable {P : Program} {F : FuncId → Option Func} {md : Md P} {n : Nat} {ops : Array Oper} {i : Nat} {l : List Nat} {E : T Value} {H : AHeap} {Q : T Value → AHeap → Prop}
  {d : Nat} {ty : TypeId} {pos : String} {af : Array Edge} {g : Option (Nat × Bool)}
theorem OT.lenS {x : Operand} {t e : TypeId} {a : Addr} {m c : Nat} (ho : ops[i]? = some ⟨some d, .call ⟨.builtin .len, #[x], #[t]⟩, ty, pos, af, g⟩) (hw : aWanted ops ⟨some d, .call ⟨.builtin .len, #[x], #[t]⟩, ty, pos, af, g⟩ E = some true)
    (hx : aEval E x = some (.slice (some a) m c)) (hu : pureRun P (underlying t) = some (.slice e)) (hd : slotOK n d = true) (k : OT P F md n ops l (T.set 20 E d (.int .i64 (m : Int))) H Q) : OT P F md n ops (i :: l) E H Q :=
  OT.op ho hw (by simp [aOp, aCall, aArgs, allSome, hx, aBuiltin, aLen, hu, goInt]) (Side.pure rfl) hd k
theorem OT.lenN {x : Operand} {t e : TypeId} {m c : Nat} (ho : ops[i]? = some ⟨some d, .call ⟨.builtin .len, #[x], #[t]⟩, ty, pos, af, g⟩) (hw : aWanted ops ⟨some d, .call ⟨.builtin .len, #[x], #[t]⟩, ty, pos, af, g⟩ E = some true)
    (hx : aEval E x = some (.slice none m c)) (hu : pureRun P (underlying t) = some (.slice e)) (hd : slotOK n d = true) (k : OT P F md n ops l (T.set 20 E d (.int .i64 (m : Int))) H Q) : OT P F md n ops (i :: l) E H Q :=
  OT.op ho hw (by simp [aOp, aCall, aArgs, allSome, hx, aBuiltin, aLen, hu, goInt, flat, Builtin.len_, pureRun_bind, pureRun_pure]) (Side.pure rfl) hd k
theorem OT.lenT {x : Operand} {t : TypeId} {s : List UInt8} (ho : ops[i]? = some ⟨some d, .call ⟨.builtin .len, #[x], #[t]⟩, ty, pos, af, g⟩) (hw : aWanted ops ⟨some d, .call ⟨.builtin .len, #[x], #[t]⟩, ty, pos, af, g⟩ E = some true)
    (hx : aEval E x = some (bstr s)) (hu : pureRun P (underlying t) = some .string) (hd : slotOK n d = true) (k : OT P F md n ops l (T.set 20 E d (.int .i64 (s.length : Int))) H Q) : OT P F md n ops (i :: l) E H Q :=
  OT.op ho hw (by simp [aOp, aCall, aArgs, allSome, hx, aBuiltin, aLen, hu, goInt, flat, bstr, Builtin.len_, pureRun_bind, pureRun_pure, size_bstr]) (Side.pure rfl) hd k
theorem OT.indexT {x y : Operand} {t : TypeId} {kd : IntKind} {s : List UInt8} {j : Int} (ho : ops[i]? = some ⟨some d, .index t x y, ty, pos, af, g⟩) (hw : aWanted ops ⟨some d, .index t x y, ty, pos, af, g⟩ E = some true)
    (hx : aEval E x = some (bstr s)) (hy : aEval E y = some (.int kd j)) (hu : pureRun P (underlying t) = some .string) (h0 : 0 ≤ j) (h1 : j < s.length) (hd : slotOK n d = true) (k : OT P F md n ops l (T.set 20 E d (bv (s.getD j.toNat 0))) H Q) : OT P F md n ops (i :: l) E H Q := by
  have hlt : j.toNat < s.length := by omega
  have hb : (⟨s.toArray⟩ : ByteArray)[j.toNat]? = some (s.getD j.toNat 0) := by
    rw [getElem?_pos (⟨s.toArray⟩ : ByteArray) j.toNat hlt]
    simp only [Option.some.injEq]
    rw [List.getD_eq_getElem?_getD, List.getElem?_eq_getElem hlt]
    rfl
  refine OT.op ho hw ?_ (Side.pure rfl) hd k
  simp only [aOp, hx, hy, Option.bind_some, bstr, aIndex, Instr.index, asIntOf, pureRun_bind, pureRun_pure, hu, if_pos h0, hb]
  simp [flat, bv]
theorem OT.indexAddr {x y : Operand} {t e : TypeId} {kd : IntKind} {b off m c : Nat} {sz : Nat} {j : Int} (ho : ops[i]? = some ⟨some d, .indexAddr t x y, ty, pos, af, g⟩) (hw : aWanted ops ⟨some d, .indexAddr t x y, ty, pos, af, g⟩ E = some true)
    (hx : aEval E x = some (.slice (some ⟨b, off, none⟩) m c)) (hy : aEval E y = some (.int kd j)) (hu : pureRun P (underlying t) = some (.slice e)) (hz : pureRun P (sizeOf e) = some sz) (h0 : 0 ≤ j) (h1 : j < m) (hd : slotOK n d = true)
    (k : OT P F md n ops l (T.set 20 E d (.pointer (some ⟨b, off + j.toNat * sz, none⟩))) H Q) : OT P F md n ops (i :: l) E H Q :=
  OT.op ho hw (by simp [aOp, hx, hy, aIndexAddr, hu, hz, h0, h1, add_none]) (Side.pure rfl) hd k
/-- A byte is loaded. -/
theorem OT.loadB {x : Operand} {t e : TypeId} {b off : Nat} {s : List UInt8} {kk : Nat} (ho : ops[i]? = some ⟨some d, .load t x, ty, pos, af, g⟩) (hw : aWanted ops ⟨some d, .load t x, ty, pos, af, g⟩ E = some true)
    (hx : aEval E x = some (.pointer (some ⟨b, off, none⟩))) (hb : H.t.get b = some (.cells (s.map bv) e kk)) (ha : pureRun P (isAgg t) = some false) (h1 : off < s.length) (hs : Side md E ⟨some d, .load t x, ty, pos, af, g⟩ H H) (hd : slotOK n d = true)
    (k : OT P F md n ops l (T.set 20 E d (bv (s.getD off 0))) H Q) : OT P F md n ops (i :: l) E H Q := by
  refine OT.op ho hw ?_ hs hd k
  have : ((s.map bv).drop off).take 1 = [bv (s.getD off 0)] := by
    rw [List.drop_eq_getElem_cons (by simpa using h1)]
    simp [h1]
  simp only [aOp, hx, Option.bind_some, aLoad, ha, aCells, hb, List.length_map]
  rw [if_pos (by omega), this]
  rfl
end
end Go.Ax
namespace Go.Ax
section
variable {P : Program} {F : FuncId → Option Func} {md : Md P} {n : Nat} {ops : Array Oper} {i : Nat} {l : List Nat} {E : T Value} {H : AHeap} {Q : T Value → AHeap → Prop}
  {d : Nat} {ty : TypeId} {pos : String} {af : Array Edge} {g : Option (Nat × Bool)}
/-- What is known of a type of slices of bytes. -/
structure ByteSl (P : Program) (t e : TypeId) (inf : TypeInfo) : Prop where
  u : pureRun P (underlying t) = some (.slice e)
  ue : pureRun P (underlying e) = some (.int .u8)
  sz : pureRun P (sizeOf e) = some 1
  ti : pureRun P (typeInfo e) = some inf
  sz1 : inf.size = 1
  by1 : inf.bytes = 1
  z : pureRun P (zeroValue e) = some (.int .u8 0)
theorem range_zero (c : Nat) : ((Array.range c).map ((#[Value.int .u8 0] : Array Value)[· % (#[Value.int .u8 0] : Array Value).size]!)).toList = (List.replicate c (0 : UInt8)).map bv := by
  apply List.ext_getElem
  · simp
  · intro j h1 h2
    simp [bv, Nat.mod_one]
theorem OT.makeB {x y : Operand} {t e : TypeId} {inf : TypeInfo} {k1 k2 : IntKind} {a c : Int} (ho : ops[i]? = some ⟨some d, .makeSlice t x y, ty, pos, af, g⟩) (hw : aWanted ops ⟨some d, .makeSlice t x y, ty, pos, af, g⟩ E = some true)
    (hx : aEval E x = some (.int k1 a)) (hy : aEval E y = some (.int k2 c)) (hu : ByteSl P t e inf) (h0 : 0 ≤ a) (h1 : a ≤ c) (h2 : c < 2 ^ 24) (hn : idOK H.next) (hs : Side md E ⟨some d, .makeSlice t x y, ty, pos, af, g⟩ H (H.add (.cells ((List.replicate c.toNat (0 : UInt8)).map bv) e 0))) (hd : slotOK n d = true)
    (k : OT P F md n ops l (T.set 20 E d (.slice (some ⟨H.next, 0, none⟩) a.toNat c.toNat)) (H.add (.cells ((List.replicate c.toNat (0 : UInt8)).map bv) e 0)) Q) : OT P F md n ops (i :: l) E H Q := by
  refine OT.op ho hw ?_ hs hd k
  have hv : (Value.int IntKind.u8 0).cells = #[.int .u8 0] := rfl
  simp only [aOp, hx, hy, Option.bind_some, aMakeSlice, hu.u, hu.ti, hu.sz, hu.z, hv, hu.by1]
  rw [if_pos ⟨h0, h1, h2, by omega, rfl, by simp⟩, Nat.mul_one, range_zero]
  simp only [aNewSlice]
  rw [if_pos ⟨hn, by unfold openCap; omega⟩]
  rfl
/-- Two bytes (or so) under a new slice. -/
theorem OT.litB {x0 x1 : Operand} {t e : TypeId} {inf : TypeInfo} {b0 b1 : UInt8} (ho : ops[i]? = some ⟨some d, .buildSlice t 2 #[(0, x0), (1, x1)], ty, pos, af, g⟩) (hw : aWanted ops ⟨some d, .buildSlice t 2 #[(0, x0), (1, x1)], ty, pos, af, g⟩ E = some true)
    (h0 : aEval E x0 = some (bv b0)) (h1 : aEval E x1 = some (bv b1)) (hu : ByteSl P t e inf) (hn : idOK H.next) (hs : Side md E ⟨some d, .buildSlice t 2 #[(0, x0), (1, x1)], ty, pos, af, g⟩ H (H.add (.cells ([b0, b1].map bv) e 0))) (hd : slotOK n d = true)
    (k : OT P F md n ops l (T.set 20 E d (.slice (some ⟨H.next, 0, none⟩) 2 2)) (H.add (.cells ([b0, b1].map bv) e 0)) Q) : OT P F md n ops (i :: l) E H Q := by
  refine OT.op ho hw ?_ hs hd k
  have hv : (Value.int IntKind.u8 0).cells = #[.int .u8 0] := rfl
  have hf : Instr.fill (fun i => some (i * 1, 1)) ((Array.range (2 * 1)).map ((#[Value.int .u8 0] : Array Value)[· % (#[Value.int .u8 0] : Array Value).size]!)) [(0, bv b0), (1, bv b1)] = some #[bv b0, bv b1] := by
    rw [show ((Array.range (2 * 1)).map ((#[Value.int .u8 0] : Array Value)[· % (#[Value.int .u8 0] : Array Value).size]!)) = #[bv 0, bv 0] from Array.ext' (range_zero 2)]
    rfl
  simp only [aOp, aParts, List.map_cons, List.map_nil, h0, h1, Option.map_some, allSome, Option.bind_some, aBuildSlice, hu.u, hu.sz, hu.z, hv, hf]
  simp only [aNewSlice]
  rw [if_pos ⟨by omega, rfl, .inr (by simp)⟩, if_pos ⟨hn, by unfold openCap; omega⟩]
  rfl
theorem OT.lit1 {x0 : Operand} {t e : TypeId} {inf : TypeInfo} {b0 : UInt8} (ho : ops[i]? = some ⟨some d, .buildSlice t 1 #[(0, x0)], ty, pos, af, g⟩) (hw : aWanted ops ⟨some d, .buildSlice t 1 #[(0, x0)], ty, pos, af, g⟩ E = some true)
    (h0 : aEval E x0 = some (bv b0)) (hu : ByteSl P t e inf) (hn : idOK H.next) (hs : Side md E ⟨some d, .buildSlice t 1 #[(0, x0)], ty, pos, af, g⟩ H (H.add (.cells ([b0].map bv) e 0))) (hd : slotOK n d = true)
    (k : OT P F md n ops l (T.set 20 E d (.slice (some ⟨H.next, 0, none⟩) 1 1)) (H.add (.cells ([b0].map bv) e 0)) Q) : OT P F md n ops (i :: l) E H Q := by
  refine OT.op ho hw ?_ hs hd k
  have hv : (Value.int IntKind.u8 0).cells = #[.int .u8 0] := rfl
  have hf : Instr.fill (fun i => some (i * 1, 1)) ((Array.range (1 * 1)).map ((#[Value.int .u8 0] : Array Value)[· % (#[Value.int .u8 0] : Array Value).size]!)) [(0, bv b0)] = some #[bv b0] := by
    rw [show ((Array.range (1 * 1)).map ((#[Value.int .u8 0] : Array Value)[· % (#[Value.int .u8 0] : Array Value).size]!)) = #[bv 0] from Array.ext' (range_zero 1)]
    rfl
  simp only [aOp, aParts, List.map_cons, List.map_nil, h0, Option.map_some, allSome, Option.bind_some, aBuildSlice, hu.u, hu.sz, hu.z, hv, hf]
  simp only [aNewSlice]
  rw [if_pos ⟨by omega, rfl, .inr (by simp)⟩, if_pos ⟨hn, by unfold openCap; omega⟩]
  rfl
/-- Bytes appended where there is room. -/
theorem OT.roomB {x y : Operand} {t e e1 e2 : TypeId} {inf : TypeInfo} {b off m c b2 off2 m2 c2 kk k2 : Nat} {s s2 : List UInt8} (ho : ops[i]? = some ⟨some d, .call ⟨.builtin .append, #[x, y], #[t, t]⟩, ty, pos, af, g⟩) (hw : aWanted ops ⟨some d, .call ⟨.builtin .append, #[x, y], #[t, t]⟩, ty, pos, af, g⟩ E = some true)
    (hx : aEval E x = some (.slice (some ⟨b, off, none⟩) m c)) (hy : aEval E y = some (.slice (some ⟨b2, off2, none⟩) m2 c2)) (hu : ByteSl P t e inf) (hb : H.t.get b = some (.cells (s.map bv) e1 kk)) (hb2 : H.t.get b2 = some (.cells (s2.map bv) e2 k2))
    (hk : kk ≠ 2) (hid : idOK b) (hc : c ≠ openCap) (h0 : 0 < m2) (h1 : m + m2 ≤ c) (h2 : off + m + m2 ≤ s.length) (h3 : off2 + m2 ≤ s2.length) {H' : AHeap} (hH : H' = H.put b (.cells ((s.take (off + m) ++ (s2.drop off2).take m2 ++ s.drop (off + m + m2)).map bv) e1 kk))
    (hs : Side md E ⟨some d, .call ⟨.builtin .append, #[x, y], #[t, t]⟩, ty, pos, af, g⟩ H H') (hd : slotOK n d = true)
    (k : OT P F md n ops l (T.set 20 E d (.slice (some ⟨b, off, none⟩) (m + m2) c)) H' Q) : OT P F md n ops (i :: l) E H Q := by
  refine OT.op ho hw ?_ hs hd k
  have hv : (Value.int IntKind.u8 0).cells = #[.int .u8 0] := rfl
  have hT : aAppT P #[t, t] = some ⟨e, 1, 1, #[.int .u8 0]⟩ := by
    simp [aAppT, hu.u, isIntD, hu.ti, hu.z, hv, hu.sz1, hu.by1]
  have hf : aFirst H 1 m2 (.slice (some ⟨b2, off2, none⟩) m2 c2) = some (((s2.drop off2).take m2).map bv) := by
    simp only [aFirst, Nat.mul_one, aCells, hb2, List.length_map]
    rw [if_neg (by omega), if_neg (by simp), if_pos h3]
    simp [List.map_take, List.map_drop]
  have hlen : (((s2.drop off2).take m2).map bv).length = m2 := by simp; omega
  simp only [aOp, aCall, aArgs, List.map_cons, List.map_nil, hx, hy, allSome, Option.bind_some, Option.map_some, aBuiltin, aAppend, hT, aLenOf, hf, Nat.mul_one, hlen]
  rw [if_neg (by simp), if_neg (by simp; omega), if_neg (by simp), if_neg hc, if_pos h1]
  simp only [add_none, aStore, hb, hlen, List.length_map]
  rw [if_pos ⟨hk, h2, one_bv _, hid⟩, hH]
  simp [List.map_take, List.map_drop]
/-- Bytes become a text. -/
theorem OT.toText {x : Operand} {t u e e1 : TypeId} {inf : TypeInfo} {b off m c kk : Nat} {s : List UInt8} (ho : ops[i]? = some ⟨some d, .convert t u x, ty, pos, af, g⟩) (hw : aWanted ops ⟨some d, .convert t u x, ty, pos, af, g⟩ E = some true)
    (hx : aEval E x = some (.slice (some ⟨b, off, none⟩) m c)) (hu : ByteSl P t e inf) (hv : pureRun P (underlying u) = some .string) (hb : H.t.get b = some (.cells (s.map bv) e1 kk)) (h1 : off + m ≤ s.length)
    (hs : Side md E ⟨some d, .convert t u x, ty, pos, af, g⟩ H H) (hd : slotOK n d = true)
    (k : OT P F md n ops l (T.set 20 E d (bstr ((s.drop off).take m))) H Q) : OT P F md n ops (i :: l) E H Q := by
  refine OT.op ho hw ?_ hs hd k
  have hl : (if m = 0 then some [] else aCells H ⟨b, off, none⟩ m) = some (((s.drop off).take m).map bv) := by
    split
    · rename_i h; subst h; simp
    · simp only [aCells, hb, List.length_map]
      rw [if_pos h1]
      simp [List.map_take, List.map_drop]
  simp only [aOp, hx, Option.bind_some, aConvert, intSrc, hu.u, hv, hu.ue, if_true, hl, flatL_bv, bytesOf_bv]
  rfl
/-- A text becomes bytes. -/
theorem OT.toBytes {x : Operand} {t u e : TypeId} {inf : TypeInfo} {s : List UInt8} (ho : ops[i]? = some ⟨some d, .convert u t x, ty, pos, af, g⟩) (hw : aWanted ops ⟨some d, .convert u t x, ty, pos, af, g⟩ E = some true)
    (hx : aEval E x = some (bstr s)) (hu : ByteSl P t e inf) (hv : pureRun P (underlying u) = some .string) (hn : idOK H.next) (hl : s.length < 2 ^ 40)
    (hs : Side md E ⟨some d, .convert u t x, ty, pos, af, g⟩ H (H.add (.cells (s.map bv) e 11))) (hd : slotOK n d = true)
    (k : OT P F md n ops l (T.set 20 E d (.slice (some ⟨H.next, 0, none⟩) s.length openCap)) (H.add (.cells (s.map bv) e 11)) Q) : OT P F md n ops (i :: l) E H Q := by
  refine OT.op ho hw ?_ hs hd k
  simp only [aOp, hx, Option.bind_some, bstr, aConvert, intSrc, hu.u, hv, hu.ue, size_bstr, Bool.false_eq_true, if_false]
  rw [if_pos ⟨hn, hl⟩]
  rfl
end
end Go.Ax
namespace Go.Ax
section
variable {P : Program} {F : FuncId → Option Func} {md : Md P} {n : Nat} {ops : Array Oper} {i : Nat} {l : List Nat} {E : T Value} {H : AHeap} {Q : T Value → AHeap → Prop}
  {d : Nat} {ty : TypeId} {pos : String} {af : Array Edge} {g : Option (Nat × Bool)}
theorem OT.bin {op : BinOp} {t yt : TypeId} {x y : Operand} {a b v : Value} (ho : ops[i]? = some ⟨some d, .binOp op t x y yt, ty, pos, af, g⟩) (hw : aWanted ops ⟨some d, .binOp op t x y yt, ty, pos, af, g⟩ E = some true) (hx : aEval E x = some a) (hy : aEval E y = some b)
    (hb : aBin P op t x y a b = some v) (hd : slotOK n d = true) (k : OT P F md n ops l (T.set 20 E d v) H Q) : OT P F md n ops (i :: l) E H Q := OT.op ho hw (by simp [aOp, hx, hy, hb]) (Side.pure rfl) hd k
theorem aBin_shr {t : TypeId} {xo yo : Operand} {k k2 : IntKind} {a b : Int} (h0 : 0 ≤ b) (h1 : b.toNat ≤ k.bits) : aBin P .shr t xo yo (.int k a) (.int k2 b) = some (.int k (a / 2 ^ b.toNat)) := by
  have e : a.fdiv (2 ^ b.toNat) = a / 2 ^ b.toNat := Int.fdiv_eq_ediv_of_nonneg _ (Int.le_of_lt (Int.pow_pos (by omega)))
  simp [aBin, flat, eqGuard, binOp, Op.shift, pureRun_pure, Int.not_lt.2 h0, Nat.min_eq_left h1, e]
theorem aBin_shl {t : TypeId} {xo yo : Operand} {k k2 : IntKind} {a b : Int} (h0 : 0 ≤ b) (h1 : b.toNat ≤ k.bits) (hc : k.wrap (a * 2 ^ b.toNat) = a * 2 ^ b.toNat) : aBin P .shl t xo yo (.int k a) (.int k2 b) = some (.int k (a * 2 ^ b.toNat)) := by
  simp [aBin, flat, eqGuard, binOp, Op.shift, pureRun_pure, Int.not_lt.2 h0, Nat.min_eq_left h1, hc]
theorem ofInt_toNat {w a : Nat} (h : a < 2 ^ w) : (BitVec.ofInt w (a : Int)).toNat = a := by
  rw [BitVec.toNat_ofInt]
  rw [show ((a : Int) % ((2 ^ w : Nat) : Int)) = ((a % 2 ^ w : Nat) : Int) from rfl, Int.toNat_natCast, Nat.mod_eq_of_lt h]
theorem aBin_mask {t : TypeId} {xo yo : Operand} {k : IntKind} {a : Int} (m : Nat) (h0 : 0 ≤ a) (h1 : a < 2 ^ k.bits) (hm : m ≤ k.bits) (hc : k.wrap (a % 2 ^ m) = a % 2 ^ m) :
    aBin P .and t xo yo (.int k a) (.int k (2 ^ m - 1)) = some (.int k (a % 2 ^ m)) := by
  obtain ⟨a, rfl⟩ : ∃ x : Nat, a = x := ⟨a.toNat, by omega⟩
  have h1' : a < 2 ^ k.bits := by exact_mod_cast h1
  have hp : 0 < 2 ^ m := Nat.two_pow_pos m
  have e2 : ((2 : Int) ^ m - 1) = ((2 ^ m - 1 : Nat) : Int) := by
    rw [Int.natCast_sub (by omega)]; simp
  have h2 : 2 ^ m - 1 < 2 ^ k.bits := by
    have := Nat.pow_le_pow_right (n := 2) (by omega) hm; omega
  have e : (((BitVec.ofInt k.bits (a : Int)) &&& (BitVec.ofInt k.bits ((2 ^ m - 1 : Nat) : Int))).toNat : Int) = (a : Int) % 2 ^ m := by
    rw [BitVec.toNat_and, ofInt_toNat h1', ofInt_toNat h2, Nat.and_two_pow_sub_one_eq_mod]
    simp
  simp only [aBin, flat, eqGuard, binOp, Op.intBits, e2, e, hc]
  simp [pureRun_pure, flat]
theorem aBin_or {t : TypeId} {xo yo : Operand} {k : IntKind} {a b : Int} (m : Nat) (h0 : 0 ≤ a) (h1 : a + b < 2 ^ k.bits) (h2 : a % 2 ^ m = 0) (h3 : 0 ≤ b) (h4 : b < 2 ^ m) (hc : k.wrap (a + b) = a + b) :
    aBin P .or t xo yo (.int k a) (.int k b) = some (.int k (a + b)) := by
  obtain ⟨a, rfl⟩ : ∃ x : Nat, a = x := ⟨a.toNat, by omega⟩
  obtain ⟨b, rfl⟩ : ∃ x : Nat, b = x := ⟨b.toNat, by omega⟩
  have h1' : a + b < 2 ^ k.bits := by exact_mod_cast h1
  have h2' : a % 2 ^ m = 0 := by exact_mod_cast h2
  have h4' : b < 2 ^ m := by exact_mod_cast h4
  have e : (((BitVec.ofInt k.bits (a : Int)) ||| (BitVec.ofInt k.bits (b : Int))).toNat : Int) = (a : Int) + b := by
    rw [BitVec.toNat_or, ofInt_toNat (by omega), ofInt_toNat (by omega)]
    obtain ⟨q, rfl⟩ := Nat.dvd_of_mod_eq_zero h2'
    rw [← Nat.two_pow_add_eq_or_of_lt h4']
    simp
  simp only [aBin, flat, eqGuard, binOp, Op.intBits, e, hc]
  simp [pureRun_pure, flat]
theorem OT.quo {t yt : TypeId} {x y : Operand} {kd : IntKind} {a b : Int} (ho : ops[i]? = some ⟨some d, .binOp .quo t x y yt, ty, pos, af, g⟩)
    (hw : aWanted ops ⟨some d, .binOp .quo t x y yt, ty, pos, af, g⟩ E = some true) (hx : aEval E x = some (.int kd a)) (hy : aEval E y = some (.int kd b)) (h0 : 0 ≤ a) (h1 : 0 < b) (hc : kd.wrap (a / b) = a / b) (hd : slotOK n d = true)
    (k : OT P F md n ops l (T.set 20 E d (.int kd (a / b))) H Q) : OT P F md n ops (i :: l) E H Q := OT.bin ho hw hx hy (by rw [aBin_quo (by omega), Int.tdiv_eq_ediv_of_nonneg h0, hc]) hd k
theorem OT.rem {t yt : TypeId} {x y : Operand} {kd : IntKind} {a b : Int} (ho : ops[i]? = some ⟨some d, .binOp .rem t x y yt, ty, pos, af, g⟩)
    (hw : aWanted ops ⟨some d, .binOp .rem t x y yt, ty, pos, af, g⟩ E = some true) (hx : aEval E x = some (.int kd a)) (hy : aEval E y = some (.int kd b)) (h0 : 0 ≤ a) (h1 : 0 < b) (hd : slotOK n d = true)
    (k : OT P F md n ops l (T.set 20 E d (.int kd (a % b))) H Q) : OT P F md n ops (i :: l) E H Q := OT.bin ho hw hx hy (by rw [aBin_rem (by omega), Int.tmod_eq_emod_of_nonneg h0]) hd k
theorem OT.not {t : TypeId} {x : Operand} {b : Bool} (ho : ops[i]? = some ⟨some d, .unOp .not t x, ty, pos, af, g⟩) (hw : aWanted ops ⟨some d, .unOp .not t x, ty, pos, af, g⟩ E = some true) (hx : aEval E x = some (.bool b)) (hd : slotOK n d = true)
    (k : OT P F md n ops l (T.set 20 E d (.bool (!b))) H Q) : OT P F md n ops (i :: l) E H Q := OT.op ho hw (by simp [aOp, hx, flat, Op.unary, pureRun_pure]) (Side.pure rfl) hd k
theorem OT.extract {x : Operand} {j : Nat} {vs : Array Value} {v : Value} (ho : ops[i]? = some ⟨some d, .extract x j, ty, pos, af, g⟩) (hw : aWanted ops ⟨some d, .extract x j, ty, pos, af, g⟩ E = some true) (hx : aEval E x = some (.tuple vs)) (hv : vs[j]? = some v) (hd : slotOK n d = true)
    (k : OT P F md n ops l (T.set 20 E d v) H Q) : OT P F md n ops (i :: l) E H Q := OT.op ho hw (by simp [aOp, hx, hv]) (Side.pure rfl) hd k
/-- Two texts, one behind the other. -/
theorem aBin_cat {t : TypeId} {xo yo : Operand} {a b : List UInt8} (hl : a.length + b.length < 2 ^ 62) : aBin P .add t xo yo (bstr a) (bstr b) = some (bstr (a ++ b)) := by
  have : (⟨a.toArray⟩ : ByteArray) ++ (⟨b.toArray⟩ : ByteArray) = ⟨(a ++ b).toArray⟩ := by
    apply ByteArray.ext; simp
  have h2 : ¬ ((9223372036854775807 : Int) < ((⟨a.toArray⟩ : ByteArray).size : Int) + ((⟨b.toArray⟩ : ByteArray).size : Int)) := by rw [size_bstr, size_bstr]; omega
  simp [aBin, bstr, flat, eqGuard, binOp, Op.stringOp, pureRun_pure, this, h2]
theorem bstr_inj {a b : List UInt8} : (⟨a.toArray⟩ : ByteArray) = ⟨b.toArray⟩ ↔ a = b := by
  constructor
  · intro h; have := congrArg (fun x : ByteArray => x.data.toList) h; simpa using this
  · rintro rfl; rfl
theorem aBin_eqT {t : TypeId} {xo yo : Operand} {a b : List UInt8} : aBin P .eql t xo yo (bstr a) (bstr b) = some (.bool (decide (a = b))) := by
  simp [aBin, bstr, flat, eqGuard, binOp, Op.stringOp, pureRun_pure, Go.ByteArray.toList_eq]
  exact Bool.beq_eq_decide_eq _ _
end
end Go.Ax
namespace Go.Ax
theorem T.get_nil (t : Nat) : (T.nil : T Value).get t = none := by cases t <;> rfl
theorem Sub.nil {E' : T Value} : Sub .nil E' := fun t v h => by rw [T.get_nil] at h; cases h
theorem Sub.set {E E' : T Value} {d : Nat} {v v' : Value} (hd : d < 2 ^ 19) (h : E'.get d = some v') (hv : v' = v) (k : Sub E E') : Sub (T.set 20 E d v) E' := fun t x hx => by
  by_cases e : t = d
  · subst e
    rw [T.get_set_same 20 _ _ _ (by omega)] at hx
    cases hx; rw [h, hv]
  · rw [T.get_set_other 20 _ _ _ _ e] at hx
    exact k t x hx
def byteSlOK (P : Program) (t e : TypeId) : Bool :=
  (match pureRun P (underlying t) with | some (.slice e') => decide (e' = e) | _ => false) && (match pureRun P (underlying e) with | some (.int .u8) => true | _ => false) && (match pureRun P (sizeOf e) with | some k => decide (k = 1) | _ => false) &&
  (match pureRun P (typeInfo e) with | some i => decide (i.size = 1) && decide (i.bytes = 1) | _ => false) && (match pureRun P (zeroValue e) with | some (.int .u8 z) => decide (z = 0) | _ => false)
theorem ByteSl.of_ok {P : Program} {t e : TypeId} (h : byteSlOK P t e = true) : ∃ inf, ByteSl P t e inf := by
  simp only [byteSlOK, Bool.and_eq_true] at h
  obtain ⟨⟨⟨⟨h1, h2⟩, h3⟩, h4⟩, h5⟩ := h
  split at h1 <;> try (cases h1; done)
  rename_i e1
  split at h2 <;> try (cases h2; done)
  rename_i e2
  split at h3 <;> try (cases h3; done)
  rename_i e3
  split at h4 <;> try (cases h4; done)
  rename_i i e4
  split at h5 <;> try (cases h5; done)
  rename_i e5
  simp only [decide_eq_true_eq, Bool.and_eq_true] at h1 h3 h4 h5
  exact ⟨i, by rw [e1, h1], e2, by rw [e3, h3], e4, h4.1, h4.2, by rw [e5, h5]⟩
section
variable {P : Program} {F : FuncId → Option Func} {md : Md P} {n : Nat} {ops : Array Oper} {i : Nat} {l : List Nat} {E : T Value} {H : AHeap} {Q : T Value → AHeap → Prop}
  {d : Nat} {ty : TypeId} {pos : String} {af : Array Edge} {g : Option (Nat × Bool)}
/-- A byte of a block, by its name. -/
theorem OT.loadX (x0 : UInt8) {x : Operand} {t e : TypeId} {b off : Nat} {s : List UInt8} {kk : Nat} (ho : ops[i]? = some ⟨some d, .load t x, ty, pos, af, g⟩) (hw : aWanted ops ⟨some d, .load t x, ty, pos, af, g⟩ E = some true)
    (hx : aEval E x = some (.pointer (some ⟨b, off, none⟩))) (hb : H.t.get b = some (.cells (s.map bv) e kk)) (ha : pureRun P (isAgg t) = some false) (h1 : s[off]? = some x0) (hs : Side md E ⟨some d, .load t x, ty, pos, af, g⟩ H H) (hd : slotOK n d = true)
    (k : OT P F md n ops l (T.set 20 E d (bv x0)) H Q) : OT P F md n ops (i :: l) E H Q := by
  have hl : off < s.length := (List.getElem?_eq_some_iff.1 h1).1
  refine OT.loadB ho hw hx hb ha hl hs hd ?_
  rw [show s.getD off 0 = x0 by rw [List.getD_eq_getElem?_getD, h1]; rfl]
  exact k
theorem OT.shr (q : Int) {t yt : TypeId} {x y : Operand} {kd k2 : IntKind} {a b : Int} (ho : ops[i]? = some ⟨some d, .binOp .shr t x y yt, ty, pos, af, g⟩)
    (hw : aWanted ops ⟨some d, .binOp .shr t x y yt, ty, pos, af, g⟩ E = some true) (hx : aEval E x = some (.int kd a)) (hy : aEval E y = some (.int k2 b)) (h0 : 0 ≤ b) (h1 : b.toNat ≤ kd.bits) (hq : (2 : Int) ^ b.toNat = q) (hd : slotOK n d = true)
    (k : OT P F md n ops l (T.set 20 E d (.int kd (a / q))) H Q) : OT P F md n ops (i :: l) E H Q := OT.bin ho hw hx hy (by rw [aBin_shr h0 h1, hq]) hd k
theorem OT.shl (q : Int) {t yt : TypeId} {x y : Operand} {kd k2 : IntKind} {a b : Int} (ho : ops[i]? = some ⟨some d, .binOp .shl t x y yt, ty, pos, af, g⟩)
    (hw : aWanted ops ⟨some d, .binOp .shl t x y yt, ty, pos, af, g⟩ E = some true) (hx : aEval E x = some (.int kd a)) (hy : aEval E y = some (.int k2 b)) (h0 : 0 ≤ b) (h1 : b.toNat ≤ kd.bits) (hq : (2 : Int) ^ b.toNat = q) (hc : kd.wrap (a * q) = a * q) (hd : slotOK n d = true)
    (k : OT P F md n ops l (T.set 20 E d (.int kd (a * q))) H Q) : OT P F md n ops (i :: l) E H Q := OT.bin ho hw hx hy (by rw [aBin_shl h0 h1 (by rw [hq, hc]), hq]) hd k
/-- The low m bits. -/
theorem OT.mask (m : Nat) (q : Int) {t yt : TypeId} {x y : Operand} {kd : IntKind} {a b : Int} (ho : ops[i]? = some ⟨some d, .binOp .and t x y yt, ty, pos, af, g⟩)
    (hw : aWanted ops ⟨some d, .binOp .and t x y yt, ty, pos, af, g⟩ E = some true) (hx : aEval E x = some (.int kd a)) (hy : aEval E y = some (.int kd b)) (hb : b = q - 1) (hq : (2 : Int) ^ m = q) (h0 : 0 ≤ a) (h1 : a < 2 ^ kd.bits) (hm : m ≤ kd.bits) (hc : kd.wrap (a % q) = a % q) (hd : slotOK n d = true)
    (k : OT P F md n ops l (T.set 20 E d (.int kd (a % q))) H Q) : OT P F md n ops (i :: l) E H Q := OT.bin ho hw hx hy (by rw [hb, ← hq, aBin_mask m h0 h1 hm (by rw [hq, hc])]) hd k
theorem OT.orA (m : Nat) {t yt : TypeId} {x y : Operand} {kd : IntKind} {a b : Int} (ho : ops[i]? = some ⟨some d, .binOp .or t x y yt, ty, pos, af, g⟩)
    (hw : aWanted ops ⟨some d, .binOp .or t x y yt, ty, pos, af, g⟩ E = some true) (hx : aEval E x = some (.int kd a)) (hy : aEval E y = some (.int kd b)) (h0 : 0 ≤ a) (h1 : a + b < 2 ^ kd.bits) (h2 : a % 2 ^ m = 0) (h3 : 0 ≤ b) (h4 : b < 2 ^ m) (hc : kd.wrap (a + b) = a + b) (hd : slotOK n d = true)
    (k : OT P F md n ops l (T.set 20 E d (.int kd (a + b))) H Q) : OT P F md n ops (i :: l) E H Q := OT.bin ho hw hx hy (aBin_or m h0 h1 h2 h3 h4 hc) hd k
end
/-- What a call keeps: the blocks that were there; it makes at most m more. -/
structure Keep (H H' : AHeap) (m : Nat) : Prop where
  le : H.next ≤ H'.next
  most : H'.next ≤ H.next + m
  old : ∀ i, i < H.next → H'.t.get i = H.t.get i
theorem Keep.refl (H : AHeap) (m : Nat) : Keep H H m := ⟨Nat.le_refl _, by omega, fun _ _ => rfl⟩
theorem Keep.trans {A B C : AHeap} {m k : Nat} (h : Keep A B m) (h2 : Keep B C k) : Keep A C (m + k) :=
  ⟨by have := h.le; have := h2.le; omega, by have := h.most; have := h2.most; omega, fun i hi => by rw [h2.old i (by have := h.le; omega), h.old i hi]⟩
/-- A value that is a slice of these bytes. -/
inductive SlB (H : AHeap) : Value → List UInt8 → Prop
  | nil : SlB H (.slice none 0 0) []
  | empty : SlB H emptySlice []
  | mk {b off c : Nat} {s l : List UInt8} {e : TypeId} {k : Nat} (hb : H.t.get b = some (.cells (s.map bv) e k)) (hl : off + l.length ≤ s.length) (hs : (s.drop off).take l.length = l) (hn : b < H.next) : SlB H (.slice (some ⟨b, off, none⟩) l.length c) l
theorem SlB.keep {H H' : AHeap} {m : Nat} {v : Value} {l : List UInt8} (h : SlB H v l) (k : Keep H H' m) : SlB H' v l := by
  cases h with
  | nil => exact .nil
  | empty => exact .empty
  | mk hb hl hs hn => exact .mk (by rw [k.old _ hn]; exact hb) hl hs (Nat.lt_of_lt_of_le hn k.le)
section
variable {P : Program} {F : FuncId → Option Func} {md : Md P} {n : Nat} {ops : Array Oper} {i : Nat} {l : List Nat} {E : T Value} {H : AHeap} {Q : T Value → AHeap → Prop}
  {d : Nat} {ty : TypeId} {pos : String} {af : Array Edge} {g : Option (Nat × Bool)}
theorem OT.lenB {x : Operand} {t e : TypeId} {H0 : AHeap} {v : Value} {bs : List UInt8} (hv : SlB H0 v bs) (ho : ops[i]? = some ⟨some d, .call ⟨.builtin .len, #[x], #[t]⟩, ty, pos, af, g⟩) (hw : aWanted ops ⟨some d, .call ⟨.builtin .len, #[x], #[t]⟩, ty, pos, af, g⟩ E = some true)
    (hx : aEval E x = some v) (hu : pureRun P (underlying t) = some (.slice e)) (hd : slotOK n d = true) (k : OT P F md n ops l (T.set 20 E d (.int .i64 (bs.length : Int))) H Q) : OT P F md n ops (i :: l) E H Q := by
  cases hv with
  | nil => exact OT.lenN ho hw hx hu hd k
  | empty => exact OT.lenS ho hw hx hu hd k
  | mk => exact OT.lenS ho hw hx hu hd k
end
theorem SlB.at {off : Nat} {s l : List UInt8} (hs : (s.drop off).take l.length = l) {j : Nat} (hj : j < l.length) : s[off + j]? = some l[j] := by
  have : l[j]? = some l[j] := List.getElem?_eq_getElem hj
  rw [← this]
  conv => rhs; rw [← hs]
  rw [List.getElem?_take, if_pos hj, List.getElem?_drop]
end Go.Ax
namespace Go.Ax
section
variable {P : Program} {F : FuncId → Option Func} {md : Md P} {n : Nat} {ops : Array Oper} {i : Nat} {l : List Nat} {E : T Value} {H : AHeap} {Q : T Value → AHeap → Prop}
  {d : Nat} {ty : TypeId} {pos : String} {af : Array Edge} {g : Option (Nat × Bool)}
theorem OT.indexX (x0 : UInt8) {x y : Operand} {t : TypeId} {kd : IntKind} {s : List UInt8} {j : Int} (ho : ops[i]? = some ⟨some d, .index t x y, ty, pos, af, g⟩) (hw : aWanted ops ⟨some d, .index t x y, ty, pos, af, g⟩ E = some true)
    (hx : aEval E x = some (bstr s)) (hy : aEval E y = some (.int kd j)) (hu : pureRun P (underlying t) = some .string) (h0 : 0 ≤ j) (h1 : s[j.toNat]? = some x0) (hd : slotOK n d = true) (k : OT P F md n ops l (T.set 20 E d (bv x0)) H Q) : OT P F md n ops (i :: l) E H Q := by
  have hl : j.toNat < s.length := (List.getElem?_eq_some_iff.1 h1).1
  refine OT.indexT ho hw hx hy hu h0 (by omega) hd ?_
  rw [show s.getD j.toNat 0 = x0 by rw [List.getD_eq_getElem?_getD, h1]; rfl]
  exact k
/-- A call whose answer is known. -/
theorem OT.call1 {xs : Array Operand} {ts : Array TypeId} {f : FuncId} {vs : List Value} {v : Value} {H2 : AHeap} (he : EvS P (.call f vs.toArray H) (.value v H2)) (ho : ops[i]? = some ⟨some d, .call ⟨.value (.func f), xs, ts⟩, ty, pos, af, g⟩) (hw : aWanted ops ⟨some d, .call ⟨.value (.func f), xs, ts⟩, ty, pos, af, g⟩ E = some true)
    (hx : aArgs (aEval E) xs = some vs) (hf : (F f).isSome = true) (hd : slotOK n d = true) (k : OT P F .str n ops l (T.set 20 E d v) H2 Q) : OT P F .str n ops (i :: l) E H Q := by
  refine OT.call (f := f) (args := vs.toArray) (H1 := H) (R := fun v' H' => v' = v ∧ H' = H2) ho hw ?_ ⟨v, H2, he, rfl, rfl⟩ ?_
  · simp [aOp, aCall, hx, aEval, aEnter, hf]
  · rintro v' H' ⟨rfl, rfl⟩
    exact ⟨_, putE_ok hd _ _, k⟩
/-- The same in a region that draws its order. -/
theorem OT.call1D {ev : Req → Option Res} {hev : Valid P ev} {L : List Nat} {xs : Array Operand} {ts : Array TypeId} {f : FuncId} {vs : List Value} {v : Value} {H2 : AHeap} (he : ev (.call f vs.toArray H) = some (.value v H2)) (ho : ops[i]? = some ⟨some d, .call ⟨.value (.func f), xs, ts⟩, ty, pos, af, g⟩) (hw : aWanted ops ⟨some d, .call ⟨.value (.func f), xs, ts⟩, ty, pos, af, g⟩ E = some true)
    (hx : aArgs (aEval E) xs = some vs) (hf : (F f).isSome = true) (hs : Side (.drw ev hev L) E ⟨some d, .call ⟨.value (.func f), xs, ts⟩, ty, pos, af, g⟩ H H2) (hd : slotOK n d = true) (k : OT P F (.drw ev hev L) n ops l (T.set 20 E d v) H2 Q) : OT P F (.drw ev hev L) n ops (i :: l) E H Q :=
  OT.callD ho hw (by simp [aOp, aCall, hx, aEval, aEnter, hf]) he hs (putE_ok hd _ _) k
end
end Go.Ax
namespace Go.Ax
/-- The numbers kept for package-level variables. -/
def M0 : Map := (List.range nglob).map fun g => { real := g }
theorem M0_get {g : Nat} (h : g < nglob) : M0[g]? = some { real := g } := by simp [M0, h]
theorem M0_len : M0.length = nglob := by simp [M0]
/-- What package-level variables hold: plain cells, read alone. -/
def roPlain : ABlk → Bool
  | .cells vs _ k => k == 2 && flatL vs
  | _ => false
structure Glob (G : T ABlk) : Prop where
  lt : ∀ g x, G.get g = some x → g < nglob
  ro : ∀ g x, G.get g = some x → roPlain x = true
/-- A memory that has them. -/
structure Lay (G : T ABlk) (H : AHeap) : Prop where
  le : nglob ≤ H.next
  get : ∀ g x, G.get g = some x → H.t.get g = some x
theorem roPlain_cells {x : ABlk} (h : roPlain x = true) : ∃ vs e, x = .cells vs e 2 ∧ flatL vs = true := by
  cases x with
  | cells vs e k => simp only [roPlain, Bool.and_eq_true, beq_iff_eq] at h; obtain ⟨rfl, h⟩ := h; exact ⟨vs, e, rfl, h⟩
  | _ => simp [roPlain] at h
theorem Glob.start {G : T ABlk} (hG : Glob G) {w : World} (hw : ∀ g vs e, G.get g = some (.cells vs e 2) → ∃ c e2 f, w.heap[g]? = some (.cells c e2 f) ∧ c.toList.take vs.length = vs) : Rel (fun k => k < w.heap.size) M0 ⟨nglob, G⟩ w := by
  refine ⟨M0_len, fun _ h => h, fun i x h => hG.lt i x h, fun i b x hb hx => ?_, fun i b x hb hx => ?_, fun i j bi bj xi xj hi hj hxi hxj li lj lr er => ?_, fun g h => M0_get h⟩
  · obtain ⟨vs, e, rfl, hf⟩ := roPlain_cells (hG.ro i x hx)
    obtain ⟨c, e2, f, hc, _⟩ := hw i vs e hx
    rw [M0_get (hG.lt i _ hx)] at hb; cases hb
    exact (Array.getElem?_eq_some_iff.1 hc).1
  · obtain ⟨vs, e, rfl, hf⟩ := roPlain_cells (hG.ro i x hx)
    obtain ⟨c, e2, ⟨lo, hi⟩, hc, ht⟩ := hw i vs e hx
    rw [M0_get (hG.lt i _ hx)] at hb; cases hb
    exact ⟨c, lo, hi, _, hc, by rw [List.drop_zero, ht]; exact VRL.self hf, fun h => (by cases h), fun h => by omega, fun h => absurd rfl h⟩
  · rw [M0_get (hG.lt i _ hxi)] at hi; cases hi
    rw [M0_get (hG.lt j _ hxj)] at hj; cases hj
    exact er
/-- A CALL WITHOUT ADDRESSES, carried out over the package-level variables alone: over any memory that has them. -/
theorem EvS.frame {P : Program} {G : T ABlk} (hG : Glob G) {f : FuncId} {args : Array Value} {v : Value} {H2 : AHeap} (ha : flatA args = true) (hv : flat v = true) (he : EvS P (.call f args ⟨nglob, G⟩) (.value v H2)) {H : AHeap} (hL : Lay G H) : EvS P (.call f args H) (.value v H) := by
  intro base M args' w cs hargs hrel
  have h0 : Rel (fun k => k < w.heap.size) M0 ⟨nglob, G⟩ w := by
    refine hG.start fun g vs e hg => ?_
    obtain ⟨c, lo, hi, e2, hc, hv, _⟩ := hrel.blk g _ _ (hrel.glob g (hG.lt g _ hg)) (hL.get g _ hg)
    obtain ⟨vs', e', h1, hf⟩ := roPlain_cells (hG.ro g _ hg)
    cases h1
    exact ⟨c, _, _, hc, by rw [List.drop_zero] at hv; exact (VRL.flat_iff vs hf _).1 hv⟩
  have hargs' : VRA M0 args args' := by
    rw [VRA.flat_iff args ha] at hargs ⊢; exact hargs
  obtain ⟨M', w', v', fr', x1, x2, x3, x4, x5⟩ := he (fun k => k < w.heap.size) M0 args' w cs hargs' h0
  rw [VR.flat_iff v hv] at x2
  subst x2
  have keepb : ∀ k, k < w.heap.size → w'.heap[k]? = w.heap[k]? := x4.block
  refine ⟨M, w', v', fr', Ext.refl M, VR.self hv, ⟨hrel.len, fun k hk => Nat.lt_of_lt_of_le (hrel.base_le k hk) x4.size, hrel.dom, fun i b x hb hx => Nat.lt_of_lt_of_le (hrel.lt i b x hb hx) x4.size, fun i b x hb hx => (hrel.blk i b x hb hx).keep (Ext.refl M) (keepb _ (hrel.lt i b x hb hx)), hrel.inj, hrel.glob⟩, ⟨x4.os, x4.tape, x4.output, x4.size, fun k hk => x4.block k (hrel.base_le k hk)⟩, x5⟩
section
variable {P : Program} {F : FuncId → Option Func} {md : Md P} {n : Nat} {ops : Array Oper} {i : Nat} {l : List Nat} {E : T Value} {H : AHeap} {Q : T Value → AHeap → Prop}
  {d : Nat} {ty : TypeId} {pos : String} {af : Array Edge} {g : Option (Nat × Bool)}
/-- Integers of one kind as those of another. -/
theorem OT.convW {x : Operand} {t u : TypeId} {k2 k0 k1 : IntKind} {a : Int} (q : Int) (ho : ops[i]? = some ⟨some d, .convert t u x, ty, pos, af, g⟩) (hw : aWanted ops ⟨some d, .convert t u x, ty, pos, af, g⟩ E = some true)
    (hx : aEval E x = some (.int k0 a)) (hu : pureRun P (underlying t) = some (.int k2)) (hv : pureRun P (underlying u) = some (.int k1)) (hc : k1.wrap a = q) (hd : slotOK n d = true)
    (k : OT P F md n ops l (T.set 20 E d (.int k1 q)) H Q) : OT P F md n ops (i :: l) E H Q := by
  have hi : intSrc P t = true := by simp [intSrc, hu]
  refine OT.op ho hw ?_ (Side.pure hi) hd k
  have : pureRun P (convert t u (.int k0 a)) = some (.int k1 q) := by
    simp [convert, pureRun_bind, pureRun_pure, hu, hv, Conv.intToInt, hc]
  simp [aOp, hx, hi, aConvI, this, flat]
theorem OT.convI {x : Operand} {t u : TypeId} {k2 k0 k1 : IntKind} {a : Int} (ho : ops[i]? = some ⟨some d, .convert t u x, ty, pos, af, g⟩) (hw : aWanted ops ⟨some d, .convert t u x, ty, pos, af, g⟩ E = some true)
    (hx : aEval E x = some (.int k0 a)) (hu : pureRun P (underlying t) = some (.int k2)) (hv : pureRun P (underlying u) = some (.int k1)) (hc : k1.wrap a = a) (hd : slotOK n d = true)
    (k : OT P F md n ops l (T.set 20 E d (.int k1 a)) H Q) : OT P F md n ops (i :: l) E H Q := OT.convW a ho hw hx hu hv hc hd k
theorem OT.toTextB {x : Operand} {t u e : TypeId} {inf : TypeInfo} {v : Value} {bs : List UInt8} (hv0 : SlB H v bs) (ho : ops[i]? = some ⟨some d, .convert t u x, ty, pos, af, g⟩) (hw : aWanted ops ⟨some d, .convert t u x, ty, pos, af, g⟩ E = some true)
    (hx : aEval E x = some v) (hu : ByteSl P t e inf) (hv : pureRun P (underlying u) = some .string)
    (hs : Side md E ⟨some d, .convert t u x, ty, pos, af, g⟩ H H) (hd : slotOK n d = true)
    (k : OT P F md n ops l (T.set 20 E d (bstr bs)) H Q) : OT P F md n ops (i :: l) E H Q := by
  cases hv0 with
  | nil =>
    refine OT.op ho hw ?_ hs hd k
    have : pureRun P (convert t u (.slice none 0 0)) = some (bstr []) := by
      simp [convert, pureRun_bind, pureRun_pure, hu.u, hu.ue, hv, Conv.bytesToString]
      rfl
    simp [aOp, hx, aConvert, intSrc, hu.u, this, flat, bstr]
  | empty =>
    refine OT.op ho hw ?_ hs hd k
    have hb0 : pureRun P (bytesOf (([] : List Value)).toArray) = some (bstr []) := bytesOf_bv []
    simp only [aOp, hx, Option.bind_some, emptySlice, aConvert, intSrc, hu.u, hv, hu.ue, if_true, hb0, flatL]
    rfl
  | mk hb hl hs' hn =>
    refine OT.toText ho hw hx hu hv hb hl hs hd ?_
    rw [hs']; exact k
theorem OT.cutT {x y : Operand} {t : TypeId} {kd : IntKind} {s : List UInt8} {j : Int} (ho : ops[i]? = some ⟨some d, .slice t x none (some y) none, ty, pos, af, g⟩) (hw : aWanted ops ⟨some d, .slice t x none (some y) none, ty, pos, af, g⟩ E = some true)
    (hx : aEval E x = some (bstr s)) (hy : aEval E y = some (.int kd j)) (hu : pureRun P (underlying t) = some .string) (h0 : 0 ≤ j) (h1 : j ≤ s.length) (hs : Side md E ⟨some d, .slice t x none (some y) none, ty, pos, af, g⟩ H H) (hd : slotOK n d = true)
    (k : OT P F md n ops l (T.set 20 E d (bstr (s.take j.toNat))) H Q) : OT P F md n ops (i :: l) E H Q := by
  refine OT.op ho hw ?_ hs hd k
  have hx' : (⟨s.toArray⟩ : ByteArray).extract 0 j.toNat = ⟨(s.take j.toNat).toArray⟩ := by
    apply ByteArray.ext; simp
  have : pureRun P (Instr.sliceAt t (bstr s) none (some (.int kd j)) none) = some (bstr (s.take j.toNat)) := by
    simp [Instr.sliceAt, Instr.slice, hu, bstr, Instr.sliceBounds, Instr.sliceBound, asIntOf, pureRun_bind, pureRun_pure, size_bstr, h0, h1, hx']
  simp only [aOp, hx, hy, Option.bind_some, aOpt, flat, if_true, aSlice, bstr]
  simp only [bstr] at this
  rw [this]
  simp [flat]
theorem OT.tailT {x y : Operand} {t : TypeId} {kd : IntKind} {s : List UInt8} {j : Int} (ho : ops[i]? = some ⟨some d, .slice t x (some y) none none, ty, pos, af, g⟩) (hw : aWanted ops ⟨some d, .slice t x (some y) none none, ty, pos, af, g⟩ E = some true)
    (hx : aEval E x = some (bstr s)) (hy : aEval E y = some (.int kd j)) (hu : pureRun P (underlying t) = some .string) (h0 : 0 ≤ j) (h1 : j ≤ s.length) (hs : Side md E ⟨some d, .slice t x (some y) none none, ty, pos, af, g⟩ H H) (hd : slotOK n d = true)
    (k : OT P F md n ops l (T.set 20 E d (bstr (s.drop j.toNat))) H Q) : OT P F md n ops (i :: l) E H Q := by
  refine OT.op ho hw ?_ hs hd k
  have hx' : (⟨s.toArray⟩ : ByteArray).extract j.toNat s.length = ⟨(s.drop j.toNat).toArray⟩ := by
    apply ByteArray.ext; simp; exact List.take_of_length_le (by simp)
  have : pureRun P (Instr.sliceAt t (bstr s) (some (.int kd j)) none none) = some (bstr (s.drop j.toNat)) := by
    simp [Instr.sliceAt, Instr.slice, hu, bstr, Instr.sliceBounds, Instr.sliceBound, asIntOf, pureRun_bind, pureRun_pure, size_bstr, h0, h1, hx']
  simp only [aOp, hx, hy, Option.bind_some, aOpt, flat, if_true, aSlice, bstr]
  simp only [bstr] at this
  rw [this]
  simp [flat]
/-- The front of a slice whose capacity is known. -/
theorem OT.cutS {x y : Operand} {t e : TypeId} {sz : Nat} {kd : IntKind} {b off m c : Nat} {j : Int} (ho : ops[i]? = some ⟨some d, .slice t x none (some y) none, ty, pos, af, g⟩) (hw : aWanted ops ⟨some d, .slice t x none (some y) none, ty, pos, af, g⟩ E = some true)
    (hx : aEval E x = some (.slice (some ⟨b, off, none⟩) m c)) (hy : aEval E y = some (.int kd j)) (hu : pureRun P (underlying t) = some (.slice e)) (hz : pureRun P (sizeOf e) = some sz) (hc : c ≠ openCap) (h0 : 0 ≤ j) (h1 : j ≤ c) (hs : Side md E ⟨some d, .slice t x none (some y) none, ty, pos, af, g⟩ H H) (hd : slotOK n d = true)
    (k : OT P F md n ops l (T.set 20 E d (.slice (some ⟨b, off, none⟩) j.toNat c)) H Q) : OT P F md n ops (i :: l) E H Q := by
  refine OT.op ho hw ?_ hs hd k
  have hb : pureRun P (Instr.sliceBounds true m c none (some (.int kd j)) none) = some (0, j.toNat, c) := by
    simp [Instr.sliceBounds, Instr.sliceBound, asIntOf, pureRun_pure, h0, h1]
  simp only [aOp, hx, hy, Option.bind_some, aOpt, flat, if_true, aSlice, hu, hz, hb]
  rw [if_neg (by simp), if_neg hc, if_pos ⟨trivial, by simpa using hc⟩]
  simp [add_none]
theorem aBin_neTF {t : TypeId} {xo yo : Operand} {a b : List UInt8} (h : a = b) : aBin P .neq t xo yo (bstr a) (bstr b) = some (.bool false) := by
  subst h
  simp [aBin, bstr, flat, eqGuard, binOp, Op.stringOp, pureRun_pure]
theorem aBin_eqTT {t : TypeId} {xo yo : Operand} {a b : List UInt8} (h : a = b) : aBin P .eql t xo yo (bstr a) (bstr b) = some (.bool true) := by
  subst h
  simp [aBin, bstr, flat, eqGuard, binOp, Op.stringOp, pureRun_pure]
theorem aBin_neT {t : TypeId} {xo yo : Operand} {a b : List UInt8} : aBin P .neq t xo yo (bstr a) (bstr b) = some (.bool (decide (a ≠ b))) := by
  simp [aBin, bstr, flat, eqGuard, binOp, Op.stringOp, pureRun_pure, Go.ByteArray.toList_eq]
  rw [Bool.beq_eq_decide_eq]
end
end Go.Ax
namespace Go.Ax
/-- A call that is known for every memory, as a contract over one world. -/
theorem calls_of_ev {P : Program} {f : FuncId} {args args' : Array Value} {v : Value} {M : Map} {H H2 : AHeap} (hv : flat v = true) (he : EvS P (.call f args H) (.value v H2)) {w : World} (hargs : VRA M args args') (hrel : Rel (fun k => k < w.heap.size) M H w) :
    Calls P f args' w fun e w' => e = .returned v ∧ RowKit.Below w.heap.size w w' := by
  intro cs
  obtain ⟨M', w', v', fr', _, hvv, _, hbel, hst, hfn, hlv⟩ := he (fun k => k < w.heap.size) M args' w cs hargs hrel
  rw [(VR.flat_iff v hv v').1 hvv] at hlv
  exact ⟨.returned v, w', fr', ⟨rfl, hbel.os, hbel.tape, hbel.output, hbel.size, hbel.block⟩, hst, hfn, hlv⟩
theorem byte_of {n : Int} (h : (Lit.int .u8 n).wf = true) : ∃ b : UInt8, Value.int .u8 n = bv b := by
  obtain ⟨h0, h1⟩ := Go.bounds_u8 h
  exact ⟨UInt8.ofNat n.toNat, by unfold bv; rw [UInt8.toNat_ofNat']; congr 1; omega⟩
theorem bytes_of : ∀ {zs : List Int}, (∀ n ∈ zs, (Lit.int .u8 n).wf = true) → ∃ bs : List UInt8, zs.map (Value.int .u8) = bs.map bv
  | [], _ => ⟨[], rfl⟩
  | n :: zs, h => by
    obtain ⟨b, hb⟩ := byte_of (h n (by simp))
    obtain ⟨bs, hbs⟩ := bytes_of (zs := zs) fun n hn => h n (by simp [hn])
    exact ⟨b :: bs, by simp [hb, hbs]⟩
/-- One block more, only to be read. -/
theorem Rel.read {w : World} {M : Map} {H : AHeap} (h : Rel (fun k => k < w.heap.size) M H w) (hr : ∀ i x, H.t.get i = some x → x.ro = true) (hid : idOK H.next) {b off : Nat} {c : Array Value} {e : TypeId} {f : Nat × Nat} {vs : List Value} (hb : w.heap[b]? = some (.cells c e f)) (hv : VRL (M ++ [{ real := b, sh := off }]) vs ((c.toList.drop off).take vs.length)) :
    Rel (fun k => k < w.heap.size) (M ++ [{ real := b, sh := off }]) (H.add (.cells vs e 2)) w where
  len := by simp [h.len, AHeap.add]
  base_le := h.base_le
  dom := fun i y hy => by
    by_cases e : i = H.next
    · subst e; simp [AHeap.add]
    · rw [AHeap.get_add_other e] at hy; have := h.dom i y hy; simp [AHeap.add]; omega
  lt := fun i c x hc hx => by
    rcases get_snoc_cases hc with ⟨hl, hc⟩ | ⟨_, rfl⟩
    · rw [AHeap.get_add_other (by rw [← h.len]; omega)] at hx
      exact h.lt i c x hc hx
    · exact (Array.getElem?_eq_some_iff.1 hb).1
  blk := fun i c y hc hy => by
    rcases get_snoc_cases hc with ⟨hl, hc⟩ | ⟨rfl, rfl⟩
    · rw [AHeap.get_add_other (by rw [← h.len]; omega)] at hy
      exact (h.blk i c y hc hy).keep (Ext.snoc M _) rfl
    · rw [h.len, AHeap.get_add hid] at hy; cases hy
      obtain ⟨lo, hi⟩ := f
      exact ⟨_, lo, hi, _, hb, hv, fun h => (by cases h), fun h => by omega, fun h => absurd rfl h⟩
  inj := fun i j bi bj xi xj hi hj hxi hxj li lj lr er => by
    have ro : ∀ i x, (H.add (.cells vs e 2)).t.get i = some x → x.ro = true := fun i x hx => by
      by_cases e : i = H.next
      · subst e; rw [AHeap.get_add hid] at hx; cases hx; rfl
      · rw [AHeap.get_add_other e] at hx; exact hr i x hx
    rw [ro i xi hxi, ro j xj hxj] at lr; cases lr
  glob := fun g hg => Ext.snoc M _ _ _ (h.glob g hg)
end Go.Ax
