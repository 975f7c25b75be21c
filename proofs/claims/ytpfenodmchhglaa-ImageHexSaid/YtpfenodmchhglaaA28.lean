/-
  A part of the proof: what the run over an abstract memory gives; conditions: those of each theorem.
-/
import Derived.Test.YtpfenodmchhglaaA27
namespace Go.Ax
/-- What a program must be for the run: its functions as F gives them, mixed orders. -/
structure Cx (P : Program) (F : FuncId → Option Func) : Prop where
  get : ∀ f fn, F f = some fn → P.funcs[f]? = some fn
  enter : ∀ f fn, F f = some fn → ∀ args w, (callFunc f args).run P w = .ok (.enter f args) w
  mix : P.follows .mixedOrders = true
theorem Cx.of_ok {P : Program} {lo hi : Nat} (hok : fnsOK P lo hi = true) (hmix : P.follows .mixedOrders = true) : Cx P (fnsOf P lo hi) := ⟨fnsOf_get, fnsOf_enter hok, hmix⟩
/-- A REQUEST THAT IS ANSWERED SO, in every world. -/
def EvS (P : Program) (r : Req) (res : Res) : Prop := ∀ base, SndReq P base r res
def Valid (P : Program) (ev : Req → Option Res) : Prop := ∀ r res, ev r = some res → EvS P r res
abbrev noEv : Req → Option Res := fun _ => none
theorem Valid.none (P : Program) : Valid P noEv := fun _ _ h => by cases h
theorem Valid.eval {P : Program} {F : FuncId → Option Func} (hx : Cx P F) (k : Nat) : Valid P (eval P F k) := fun r res h _base => eval_sound hx.get hx.enter hx.mix k r res h
/-- An answer that satisfies Q. -/
def Tr (P : Program) (r : Req) (Q : Res → Prop) : Prop := ∃ res, EvS P r res ∧ Q res
theorem Tr.mono {P : Program} {r : Req} {Q Q' : Res → Prop} (h : Tr P r Q) (k : ∀ res, Q res → Q' res) : Tr P r Q' := let ⟨res, h1, h2⟩ := h; ⟨res, h1, k _ h2⟩
section
variable {P : Program} {F : FuncId → Option Func} {fs : FrS} {Q : Res → Prop}
theorem EvS.code (hx : Cx P F) {ev : Req → Option Res} (hev : Valid P ev) {c : Code} {s : AS} {res : Res} (h : codeStep P F ev fs c s = some res) : EvS P (.code fs c s) res :=
  fun base => codeStep_sound hx.enter hx.mix (fun r res h => hev r res h base) h
/-- Known answers to one request, as an oracle. -/
noncomputable def orc (r0 : Req) (res : Res) : Req → Option Res := fun r => by
  classical exact if r = r0 then some res else none
theorem orc_at (r : Req) (res : Res) : orc r res r = some res := by simp [orc]
theorem Valid.orc {r0 : Req} {res : Res} (h : EvS P r0 res) : Valid P (orc r0 res) := by
  intro r res' hr
  unfold Ax.orc at hr
  split at hr
  · rename_i e; cases hr; rw [e]; exact h
  · cases hr
/-- How a code goes on, by how what stands before it was left. -/
def Then (K : AS → Prop) (Q : Res → Prop) : Res → Prop
  | .exit .normal s => K s
  | .exit e s => Q (.exit e s)
  | .value _ _ => False
theorem EvS.seq {a b : Code} {s s1 : AS} {res : Res} (h1 : EvS P (.code fs a s) (.exit .normal s1)) (h2 : EvS P (.code fs b s1) res) : EvS P (.code fs (.seq a b) s) res := by
  intro base
  have h1 := h1 base
  have h2 := h2 base
  cases res with
  | value v H => exact h2.elim
  | exit e s' =>
    intro M b a k cs w hfr hsr
    obtain ⟨M1, a1, w1, x1, x2, x3, x4⟩ := h1 M b a (.code _ :: k) cs w hfr hsr
    obtain ⟨M2, a2, w2, y1, y2, y3, y4⟩ := h2 M1 b a1 k cs w1 (hfr.mono x1) x2
    exact ⟨M2, a2, w2, x1.trans y1, y2, x3.trans y3, .of_steps (.head st_seq x4) y4⟩
theorem Tr.seq (hx : Cx P F) {a b : Code} {s : AS} (h : Tr P (.code fs a s) (Then (fun s1 => Tr P (.code fs b s1) Q) Q)) : Tr P (.code fs (.seq a b) s) Q := by
  obtain ⟨res, he, hq⟩ := h
  cases res with
  | value v H => exact hq.elim
  | exit e s1 =>
    cases e with
    | normal =>
      obtain ⟨res2, he2, hq2⟩ := hq
      exact ⟨res2, he.seq he2, hq2⟩
    | exit id =>
      refine ⟨_, EvS.code hx (Valid.orc he) ?_, hq⟩
      simp only [codeStep, orc_at]
    | goto id =>
      refine ⟨_, EvS.code hx (Valid.orc he) ?_, hq⟩
      simp only [codeStep, orc_at]
    | ret =>
      refine ⟨_, EvS.code hx (Valid.orc he) ?_, hq⟩
      simp only [codeStep, orc_at]
theorem Tr.skip (hx : Cx P F) {s : AS} (h : Q (.exit .normal s)) : Tr P (.code fs .skip s) Q := ⟨_, EvS.code hx (Valid.none P) rfl, h⟩
theorem Tr.ret (hx : Cx P F) {s : AS} (h : Q (.exit .ret s)) : Tr P (.code fs .ret s) Q := ⟨_, EvS.code hx (Valid.none P) rfl, h⟩
theorem Tr.exit (hx : Cx P F) {s : AS} {id : Nat} (h : Q (.exit (.exit id) s)) : Tr P (.code fs (.exit id) s) Q := ⟨_, EvS.code hx (Valid.none P) rfl, h⟩
theorem Tr.cond_true (hx : Cx P F) {c : Operand} {a b : Code} {s : AS} (hc : aEval s.env c = some (.bool true)) (h : Tr P (.code fs a s) Q) : Tr P (.code fs (.cond c a b) s) Q := by
  obtain ⟨res, he, hq⟩ := h
  exact ⟨res, EvS.code hx (Valid.orc he) (by simp only [codeStep, hc, if_true, orc_at]), hq⟩
theorem Tr.cond_false (hx : Cx P F) {c : Operand} {a b : Code} {s : AS} (hc : aEval s.env c = some (.bool false)) (h : Tr P (.code fs b s) Q) : Tr P (.code fs (.cond c a b) s) Q := by
  obtain ⟨res, he, hq⟩ := h
  exact ⟨res, EvS.code hx (Valid.orc he) (by simp only [codeStep, hc, Bool.false_eq_true, if_false, orc_at]), hq⟩
def InBlock (id : Nat) (Q : Res → Prop) : Res → Prop
  | .exit (.exit id') s => if id' = id then Q (.exit .normal s) else Q (.exit (.exit id') s)
  | r => Q r
theorem Tr.block (hx : Cx P F) {id : Nat} {c : Code} {s : AS} (h : Tr P (.code fs c s) (InBlock id Q)) : Tr P (.code fs (.block id c) s) Q := by
  obtain ⟨res, he, hq⟩ := h
  cases res with
  | value v H => exact (he fun _ => False).elim
  | exit e s1 =>
    cases e with
    | exit id' =>
      simp only [InBlock] at hq
      split at hq
      · rename_i hid
        exact ⟨_, EvS.code hx (Valid.orc he) (by simp only [codeStep, orc_at]; rw [if_pos hid]), hq⟩
      · rename_i hid
        exact ⟨_, EvS.code hx (Valid.orc he) (by simp only [codeStep, orc_at]; rw [if_neg hid]), hq⟩
    | normal => exact ⟨_, EvS.code hx (Valid.orc he) (by simp only [codeStep, orc_at]), hq⟩
    | goto l => exact ⟨_, EvS.code hx (Valid.orc he) (by simp only [codeStep, orc_at]), hq⟩
    | ret => exact ⟨_, EvS.code hx (Valid.orc he) (by simp only [codeStep, orc_at]), hq⟩
/-- The loop from within: a round, and again. -/
theorem EvS.again_of_loop {c : Code} {s : AS} {res : Res} (_h : ∀ s1, EvS P (.code fs c s) (.exit .normal s1) → EvS P (.again fs c s1) res → True) : True := trivial
theorem EvS.again_next {c : Code} {s s1 : AS} {res : Res} (h1 : EvS P (.code fs c s) (.exit .normal s1)) (h2 : EvS P (.again fs c s1) res) : EvS P (.again fs c s) res := by
  intro base
  have h1 := h1 base
  have h2 := h2 base
  cases res with
  | value v H => exact h2.elim
  | exit e s' =>
    intro M b a k cs w hfr hsr
    obtain ⟨M1, a1, w1, x1, x2, x3, x4⟩ := h1 M b a (.inLoop c :: k) cs w hfr hsr
    obtain ⟨M2, a2, w2, y1, y2, y3, y4⟩ := h2 M1 b a1 k cs w1 (hfr.mono x1) x2
    exact ⟨M2, a2, w2, x1.trans y1, y2, x3.trans y3, .of_steps (.head st_inLoop x4) y4⟩
theorem EvS.again_end {c : Code} {s s1 : AS} {e : AExit} (he : e ≠ .normal) (h1 : EvS P (.code fs c s) (.exit e s1)) : EvS P (.again fs c s) (.exit e s1) := by
  intro base
  have h1 := h1 base
  intro M b a k cs w hfr hsr
  obtain ⟨M1, a1, w1, x1, x2, x3, x4⟩ := h1 M b a (.inLoop c :: k) cs w hfr hsr
  exact ⟨M1, a1, w1, x1, x2, x3, .of_steps (.one st_inLoop) (.pass (x := .inLoop c) rfl he x4)⟩
/-- A LOOP, by what holds at each round's head and a measure. -/
theorem Tr.loop (hx : Cx P F) {α : Type} {c : Code} {s : AS} (I : α → AS → Prop) (μ : α → Nat) (x0 : α) (h0 : I x0 s)
    (round : ∀ x s, I x s → Tr P (.code fs c s) (Then (fun s1 => ∃ y, I y s1 ∧ μ y < μ x) Q)) : Tr P (.code fs (.loop c) s) Q := by
  have again : ∀ n x s, μ x = n → I x s → Tr P (.again fs c s) Q := by
    intro n
    induction n using Nat.strongRecOn with
    | _ n ih =>
      intro x s hn hI
      obtain ⟨res, he, hq⟩ := round x s hI
      cases res with
      | value v H => exact hq.elim
      | exit e s1 =>
        cases e with
        | normal =>
          obtain ⟨y, hy, hlt⟩ := hq
          obtain ⟨res2, he2, hq2⟩ := ih (μ y) (hn ▸ hlt) y s1 rfl hy
          exact ⟨res2, he.again_next he2, hq2⟩
        | exit id => exact ⟨_, EvS.again_end (by simp) he, hq⟩
        | goto id => exact ⟨_, EvS.again_end (by simp) he, hq⟩
        | ret => exact ⟨_, EvS.again_end (by simp) he, hq⟩
  obtain ⟨res, he, hq⟩ := round x0 s h0
  cases res with
  | value v H => exact hq.elim
  | exit e s1 =>
    cases e with
    | normal =>
      obtain ⟨y, hy, hlt⟩ := hq
      obtain ⟨res2, he2, hq2⟩ := again _ y s1 rfl hy
      refine ⟨res2, ?_, hq2⟩
      intro base
      have h1 := he base
      have h2 := he2 base
      cases res2 with
      | value v H => exact h2.elim
      | exit e s' =>
        intro M b a k cs w hfr hsr
        obtain ⟨M1, a1, w1, x1, x2, x3, x4⟩ := h1 M b a (.inLoop c :: k) cs w hfr hsr
        obtain ⟨M2, a2, w2, y1, y2, y3, y4⟩ := h2 M1 b a1 k cs w1 (hfr.mono x1) x2
        exact ⟨M2, a2, w2, x1.trans y1, y2, x3.trans y3, .of_steps (.head st_loop x4) y4⟩
    | exit id => exact ⟨_, EvS.code hx (Valid.orc he) (by simp only [codeStep, orc_at]), hq⟩
    | goto id => exact ⟨_, EvS.code hx (Valid.orc he) (by simp only [codeStep, orc_at]), hq⟩
    | ret => exact ⟨_, EvS.code hx (Valid.orc he) (by simp only [codeStep, orc_at]), hq⟩
/-- The slots of one tree stand in another. -/
def Sub (E E' : T Value) : Prop := ∀ (t : Nat) (v : Value), E.get t = some v → E'.get t = some v
theorem ER.sub {M : Map} {n : Nat} {E E' : T Value} {tm : Array Value} (h : Sub E E') (k : ER M n E' tm) : ER M n E tm := ⟨k.1, fun t v e => k.2 t v (h t v e)⟩
theorem Tr.sub {E E' : T Value} {defs : List Nat} {H : AHeap} {c : Code} (h : Sub E E') (k : Tr P (.code fs c ⟨E, defs, H⟩) Q) : Tr P (.code fs c ⟨E', defs, H⟩) Q := by
  obtain ⟨res, he, hq⟩ := k
  refine ⟨res, fun base => ?_, hq⟩
  have he := he base
  cases res with
  | value v H => exact he.elim
  | exit e s' => exact fun M b a k cs w hfr hsr => he M b a k cs w hfr ⟨hsr.er.sub h, hsr.dr, hsr.rel⟩
/-- How a region's operations stand: in their order, or in any that the schedule draws (then with the blocks that they read). -/
inductive Md (P : Program) where
  | str
  | drw (ev : Req → Option Res) (hev : Valid P ev) (L : List Nat)
/-- A list of operations. -/
def StepS (P : Program) (F : FuncId → Option Func) (md : Md P) (n : Nat) (ops : Array Oper) (i : Nat) (x y : T Value × AHeap) : Prop :=
  match md with
  | .str => ∃ ev, Valid P ev ∧ opStep P (fun f => (F f).isSome) ev n ops i x = some y
  | .drw ev _ L => opStepL P (fun f => (F f).isSome) ev L n ops i x = some y
def OpsS (P : Program) (F : FuncId → Option Func) (md : Md P) (n : Nat) (ops : Array Oper) : List Nat → T Value × AHeap → T Value × AHeap → Prop
  | [], x, y => x = y
  | i :: l, x, y => ∃ z, StepS P F md n ops i x z ∧ OpsS P F md n ops l z y
def OT (P : Program) (F : FuncId → Option Func) (md : Md P) (n : Nat) (ops : Array Oper) (l : List Nat) (E : T Value) (H : AHeap) (Q : T Value → AHeap → Prop) : Prop := ∃ y, OpsS P F md n ops l (E, H) y ∧ Q y.1 y.2
theorem OT.nil {md : Md P} {n : Nat} {ops : Array Oper} {E : T Value} {H : AHeap} {Q : T Value → AHeap → Prop} (h : Q E H) : OT P F md n ops [] E H Q := ⟨_, rfl, h⟩
theorem OpsS.sound {base : Prot} (hx : Cx P F) {n : Nat} {ops : Array Oper} : ∀ (l : List Nat) {E E' : T Value} {H H' : AHeap}, OpsS P F .str n ops l (E, H) (E', H') → ∀ {M : Map} {a : Act} {w : World}, ER M n E a.tmps → Rel base M H w → ∀ (b : Frame) (k : List Item) (cs : List Frame),
    ∃ M' a' w', Ext M M' ∧ ER M' n E' a'.tmps ∧ a'.defers = a.defers ∧ Rel base M' H' w' ∧ Below base w w' ∧ Steps P (lone (Fr b a (.inRegion ops l :: k)) cs w) (lone (Fr b a' k) cs w')
  | [], E, E', H, H', h, M, a, w, her, hrel, b, k, cs => by
    cases h
    exact ⟨M, a, w, Ext.refl M, her, rfl, hrel, Below.refl _ _, .one st_region_end⟩
  | i :: l, E, E', H, H', h, M, a, w, her, hrel, b, k, cs => by
    obtain ⟨⟨E1, H1⟩, ⟨ev, hev, h1⟩, h⟩ := h
    have hF' : ∀ f, (fun f => (F f).isSome) f = true → ∀ args w, (callFunc f args).run P w = .ok (.enter f args) w := by
      intro f hf
      obtain ⟨fn, hfn⟩ := Option.isSome_iff_exists.1 hf
      exact hx.enter f fn hfn
    obtain ⟨M1, a1, w1, x1, x2, x3, x4, x5, x6⟩ := opStep_sound hF' (fun r res h => hev r res h base) (rest := l) h1 her hrel b k cs
    obtain ⟨M2, a2, w2, y1, y2, y3, y4, y5, y6⟩ := OpsS.sound hx l h x2 x4 b k cs
    exact ⟨M2, a2, w2, x1.trans y1, y2, y3.trans x3, y4, x5.trans y5, x6.trans y6⟩
theorem OpsS.runL {ev : Req → Option Res} {hev : Valid P ev} {L : List Nat} {n : Nat} {ops : Array Oper} : ∀ (l : List Nat) {x y : T Value × AHeap}, OpsS P F (.drw ev hev L) n ops l x y → opsRunL P (fun f => (F f).isSome) ev L n ops l x = some y
  | [], x, y, h => by cases h; rfl
  | i :: l, x, y, h => by
    obtain ⟨z, h1, h⟩ := h
    simp only [opsRunL]
    rw [show opStepL P (fun f => (F f).isSome) ev L n ops i x = some z from h1]
    exact OpsS.runL l h
theorem Tr.region (hx : Cx P F) {id : Nat} {ops : Array Oper} {E : T Value} {defs : List Nat} {H : AHeap} (h : OT P F .str fs.n ops (List.range ops.size) E H fun E' H' => Q (.exit .normal ⟨E', defs, H'⟩)) : Tr P (.code fs (.region id ops false) ⟨E, defs, H⟩) Q := by
  obtain ⟨⟨E', H'⟩, ho, hq⟩ := h
  refine ⟨_, fun base => ?_, hq⟩
  intro M b a k cs w hfr hsr
  obtain ⟨M1, a1, w1, x1, x2, x3, x4, x5, x6⟩ := OpsS.sound hx _ ho hsr.er hsr.rel b k cs
  exact ⟨M1, a1, w1, x1, ⟨x2, by rw [x3]; exact hsr.dr.mono x1, x4⟩, x5, .head st_region x6⟩
/-- A region that draws its order: the blocks L are read in it, ev answers its calls. -/
theorem Tr.draw (hx : Cx P F) (L : List Nat) (ev : Req → Option Res) (hev : Valid P ev) {id : Nat} {ops : Array Oper} {E : T Value} {defs : List Nat} {H : AHeap} (hd : drawOK ops = true)
    (h : OT P F (.drw ev hev L) fs.n ops (List.range ops.size) E H fun E' H' => Q (.exit .normal ⟨E', defs, H'⟩)) : Tr P (.code fs (.region id ops true) ⟨E, defs, H⟩) Q := by
  obtain ⟨⟨E', H'⟩, ho, hq⟩ := h
  refine ⟨_, fun base => ?_, hq⟩
  have hF' : ∀ f, (fun f => (F f).isSome) f = true → ∀ args w, (callFunc f args).run P w = .ok (.enter f args) w := by
    intro f hf
    obtain ⟨fn, hfn⟩ := Option.isSome_iff_exists.1 hf
    exact hx.enter f fn hfn
  intro M b a k cs w hfr hsr
  have hsched := schedule_soundL hx.mix (w.tape w.drawn (.order b.fn id)) hd (ho.runL _)
  obtain ⟨M1, a1, w1, x1, x2, x3, x4, x5, x6⟩ := opsRun_sound hF' (fun r res h => hev r res h base) _ hsched hsr.er (hsr.rel.of_heap (w' := { w with drawn := w.drawn + 1 }) rfl) b k cs
  exact ⟨M1, a1, w1, x1, ⟨x2, by rw [x3]; exact hsr.dr.mono x1, x4⟩, (show Below base w { w with drawn := w.drawn + 1 } from ⟨rfl, rfl, rfl, Nat.le_refl _, fun _ _ => rfl⟩).trans x5, .head st_region_draw x6⟩
/-- What an operation owes in a region that draws its order. -/
def Side (md : Md P) (E : T Value) (o : Oper) (H H' : AHeap) : Prop :=
  match md with
  | .str => True
  | .drw _ _ L => pureOp o.op = true ∨ (readOp o.op = true ∧ ∀ b, readBlk (aEval E) o = some b → b ∈ L) ∨ (pureOp o.op = false ∧ readOp o.op = false ∧ ∀ b ∈ L, H'.t.get b = H.t.get b)
theorem Side.pure {md : Md P} {E : T Value} {o : Oper} {H H' : AHeap} (h : pureOp o.op = true) : Side md E o H H' := by
  cases md with
  | str => trivial
  | drw ev hev L => exact .inl h
theorem opEffL_side {F : FuncId → Bool} {ev : Req → Option Res} {hev : Valid P ev} {L : List Nat} {ops : Array Oper} {o : Oper} {E : T Value} {H H' : AHeap} {v : Value} (h : opEff P F ev ops o E H = some (v, H')) (hs : Side (.drw ev hev L) E o H H') : opEffL P F ev L ops o E H = some (v, H') := by
  unfold opEffL
  rw [h]
  simp only
  rcases hs with hs | ⟨hs, hb⟩ | ⟨h1, h2, hb⟩
  · rw [if_pos hs]
  · rw [if_neg (by rw [pure_not_read hs]; simp), if_pos hs]
    split
    · split
      · rename_i b hbb
        rw [if_pos (by simpa using hb b hbb)]
      · rfl
    · rfl
  · rw [if_neg (by rw [h1]; simp), if_neg (by rw [h2]; simp), if_pos hb]
theorem OT.eff {md : Md P} {n : Nat} {ops : Array Oper} {i : Nat} {l : List Nat} {E E' : T Value} {H H' : AHeap} {Q : T Value → AHeap → Prop} {o : Oper} {v : Value} (ho : ops[i]? = some o)
    (he : ∀ ev, opEff P (fun f => (F f).isSome) ev ops o E H = some (v, H')) (hs : Side md E o H H') (hp : putE n o.dst v E = some E') (k : OT P F md n ops l E' H' Q) : OT P F md n ops (i :: l) E H Q := by
  obtain ⟨y, hy, hq⟩ := k
  refine ⟨y, ⟨(E', H'), ?_, hy⟩, hq⟩
  cases md with
  | str => exact ⟨noEv, Valid.none P, by simp [opStep, ho, he, hp]⟩
  | drw ev hev L => show opStepL _ _ _ _ _ _ _ _ = _; simp [opStepL, ho, opEffL_side (he ev) hs, hp]
theorem OT.val {md : Md P} {n : Nat} {ops : Array Oper} {i : Nat} {l : List Nat} {E E' : T Value} {H H' : AHeap} {Q : T Value → AHeap → Prop} {o : Oper} {v : Value} (ho : ops[i]? = some o) (hw : aWanted ops o E = some true)
    (ha : aOp P (fun f => (F f).isSome) (aEval E) H o = some (.val v, H')) (hs : Side md E o H H') (hp : putE n o.dst v E = some E') (k : OT P F md n ops l E' H' Q) : OT P F md n ops (i :: l) E H Q :=
  OT.eff ho (fun ev => by simp [opEff, hw, ha]) hs hp k
theorem OT.void {md : Md P} {n : Nat} {ops : Array Oper} {i : Nat} {l : List Nat} {E E' : T Value} {H H' : AHeap} {Q : T Value → AHeap → Prop} {o : Oper} (ho : ops[i]? = some o) (hw : aWanted ops o E = some true)
    (ha : aOp P (fun f => (F f).isSome) (aEval E) H o = some (.skip, H')) (hs : Side md E o H H') (hp : putE n o.dst undef E = some E') (k : OT P F md n ops l E' H' Q) : OT P F md n ops (i :: l) E H Q :=
  OT.eff ho (fun ev => by simp [opEff, hw, ha]) hs hp k
theorem Side.pass {md : Md P} {E : T Value} {o : Oper} {H : AHeap} (h : readOp o.op = false) : Side md E o H H := by
  cases md with
  | str => trivial
  | drw ev hev L =>
    by_cases hp : pureOp o.op = true
    · exact .inl hp
    · exact .inr (.inr ⟨by simpa using hp, h, fun _ _ => rfl⟩)
theorem OT.pass {md : Md P} {n : Nat} {ops : Array Oper} {i : Nat} {l : List Nat} {E E' : T Value} {H : AHeap} {Q : T Value → AHeap → Prop} {o : Oper} (ho : ops[i]? = some o) (hw : aWanted ops o E = some false)
    (hp : putE n o.dst undef E = some E') (k : OT P F md n ops l E' H Q) : OT P F md n ops (i :: l) E H Q := by
  obtain ⟨y, hy, hq⟩ := k
  refine ⟨y, ⟨(E', H), ?_, hy⟩, hq⟩
  have he : ∀ ev, opEff P (fun f => (F f).isSome) ev ops o E H = some (undef, H) := fun ev => by simp [opEff, hw]
  cases md with
  | str => exact ⟨noEv, Valid.none P, by simp [opStep, ho, he, hp]⟩
  | drw ev hev L =>
    show opStepL _ _ _ _ _ _ _ _ = _
    have : opEffL P (fun f => (F f).isSome) ev L ops o E H = some (undef, H) := by
      unfold opEffL
      rw [he]
      simp only [hw]
      split
      · rfl
      · split
        · rfl
        · simp
    simp [opStepL, ho, this, hp]
/-- A call, by what is known of it. -/
theorem OT.call {n : Nat} {ops : Array Oper} {i : Nat} {l : List Nat} {E : T Value} {H H1 : AHeap} {Q : T Value → AHeap → Prop} {o : Oper} {f : FuncId} {args : Array Value} {R : Value → AHeap → Prop} (ho : ops[i]? = some o) (hw : aWanted ops o E = some true)
    (ha : aOp P (fun f => (F f).isSome) (aEval E) H o = some (.enter f args, H1)) (hc : ∃ v H2, EvS P (.call f args H1) (.value v H2) ∧ R v H2)
    (k : ∀ v H2, R v H2 → ∃ E', putE n o.dst v E = some E' ∧ OT P F .str n ops l E' H2 Q) : OT P F .str n ops (i :: l) E H Q := by
  obtain ⟨v, H2, he, hr⟩ := hc
  obtain ⟨E', hp, y, hy, hq⟩ := k v H2 hr
  exact ⟨y, ⟨(E', H2), ⟨Ax.orc _ _, Valid.orc he, by simp [opStep, ho, opEff, hw, ha, orc_at, hp]⟩, hy⟩, hq⟩
/-- A call in a region that draws its order. -/
theorem OT.callD {ev : Req → Option Res} {hev : Valid P ev} {L : List Nat} {n : Nat} {ops : Array Oper} {i : Nat} {l : List Nat} {E E' : T Value} {H H1 H2 : AHeap} {Q : T Value → AHeap → Prop} {o : Oper} {f : FuncId} {args : Array Value} {v : Value} (ho : ops[i]? = some o) (hw : aWanted ops o E = some true)
    (ha : aOp P (fun f => (F f).isSome) (aEval E) H o = some (.enter f args, H1)) (hc : ev (.call f args H1) = some (.value v H2)) (hs : Side (.drw ev hev L) E o H H2)
    (hp : putE n o.dst v E = some E') (k : OT P F (.drw ev hev L) n ops l E' H2 Q) : OT P F (.drw ev hev L) n ops (i :: l) E H Q := by
  obtain ⟨y, hy, hq⟩ := k
  refine ⟨y, ⟨(E', H2), ?_, hy⟩, hq⟩
  show opStepL _ _ _ _ _ _ _ _ = _
  have : opEff P (fun f => (F f).isSome) ev ops o E H = some (v, H2) := by simp [opEff, hw, ha, hc]
  simp [opStepL, ho, opEffL_side this hs, hp]
/-- A FUNCTION, by its body. -/
theorem EvS.call (hx : Cx P F) {f : FuncId} {fn : Func} {c : Code} {args : Array Value} {H : AHeap} {R : Value → AHeap → Prop} (hfn : F f = some fn) (hb : fn.body = some c) (hn : args.size ≤ fn.ntmps ∧ args.size < 1000)
    (h : Tr P (.code ⟨f, none, fn.ntmps⟩ c ⟨setArgs 0 args.toList .nil, [], H⟩) (fun | .exit .normal s | .exit .ret s => ∃ H2 vs, takeAll s.H s.defs = some H2 ∧ allSome (fn.results.toList.map (resVal P s.env H2)) = some vs ∧ R (resOf vs) H2 | _ => False)) :
    ∃ v H2, EvS P (.call f args H) (.value v H2) ∧ R v H2 := by
  obtain ⟨res, he, hq⟩ := h
  have key : ∀ {e : AExit} {s : AS}, EvS P (.code ⟨f, none, fn.ntmps⟩ c ⟨setArgs 0 args.toList .nil, [], H⟩) (.exit e s) → (e = .normal ∨ e = .ret) → (∃ H2 vs, takeAll s.H s.defs = some H2 ∧ allSome (fn.results.toList.map (resVal P s.env H2)) = some vs ∧ R (resOf vs) H2) →
      ∃ v H2, EvS P (.call f args H) (.value v H2) ∧ R v H2 := by
    rintro e s hcode he ⟨H2, vs, ht, hvs, hr⟩
    refine ⟨_, H2, fun base => ?_, hr⟩
    intro M args' w cs hargs hrel
    let fb : Frame := { (default : Frame) with fn := f, kind := .normal }
    have hal := (VRA.iff.1 hargs).length
    simp only [Array.length_toList] at hal
    let a0 : Act := { tmps := args' ++ Array.replicate (fn.ntmps - args'.size) undef, defers := [] }
    have henter : Frame.enter P f args' .normal = Fr fb a0 [.code c] := by
      simp [Frame.enter, Fr, fb, a0, hx.get f fn hfn, hb]
      rfl
    have hfr : FrOK M ⟨f, none, fn.ntmps⟩ fb := ⟨rfl, rfl, rfl⟩
    obtain ⟨M1, a1, w1, x1, x2, x3, x4⟩ := (hcode base) M fb a0 [] cs w hfr ⟨enter_er hargs hn.1 hn.2, rfl, hrel⟩
    have hret : ∃ k0, Steps P (lone (Fr fb a0 [.code c]) cs w) (lone { Fr fb a1 k0 with mode := .returning } cs w1) := by
      rcases he with rfl | rfl
      · exact ⟨[], Steps.trans x4 (.one (st_end rfl))⟩
      · obtain ⟨k0, z⟩ := x4
        exact ⟨.code .ret :: k0, z.trans (.one (st_ret rfl))⟩
    obtain ⟨k0, hret⟩ := hret
    obtain ⟨w2, y1, y2, y3⟩ := takeAll_sound (b := fb) (k := k0) (cs := cs) _ _ _ a1 w1 ht x2.dr x2.rel
    obtain ⟨v', hr, hv⟩ := results_sound (P := P) x2.er y1 hvs
    refine ⟨M1, w2, v', { Fr fb { a1 with defers := [] } k0 with mode := .returning }, x1, hv, y1, x3.trans y2, ?_, rfl, rfl, rfl, rfl, fn, hx.get f fn hfn, hr⟩
    rw [henter]
    exact hret.trans y3
  cases res with
  | value v H => exact hq.elim
  | exit e s =>
    cases e with
    | normal => exact key he (.inl rfl) hq
    | ret => exact key he (.inr rfl) hq
    | exit id => exact hq.elim
    | goto l => exact hq.elim
end
end Go.Ax
