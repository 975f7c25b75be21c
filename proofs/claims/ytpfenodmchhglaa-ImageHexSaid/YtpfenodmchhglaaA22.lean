/-
  A part of the proof: what the run over an abstract memory gives; conditions: those of each theorem.
-/
import Derived.Test.YtpfenodmchhglaaA21
namespace Go.Ax
def RdR (M : Map) : Option Nat → Option Nat → Prop
  | none, r => r = none
  | some l, r => ∃ b, M[l]? = some b ∧ r = some b.real
theorem RdR.mono {M M' : Map} (h : Ext M M') {x y : Option Nat} (k : RdR M x y) : RdR M' x y := by
  cases x with
  | none => exact k
  | some l => obtain ⟨b, hb, e⟩ := k; exact ⟨b, h _ _ hb, e⟩
def FrOK (M : Map) (fs : FrS) (b : Frame) : Prop := b.fn = fs.fn ∧ b.kind = .normal ∧ RdR M fs.rd b.roundOf
theorem FrOK.mono {M M' : Map} (h : Ext M M') {fs : FrS} {b : Frame} (k : FrOK M fs b) : FrOK M' fs b := ⟨k.1, k.2.1, k.2.2.mono h⟩
def DR (M : Map) : List Nat → List Deferred → Prop
  | [], ds => ds = []
  | i :: l, ds => ∃ b ds', M[i]? = some b ∧ ds = { target := .collected b.real, args := #[] } :: ds' ∧ DR M l ds'
theorem DR.mono {M M' : Map} (h : Ext M M') : ∀ {l : List Nat} {ds : List Deferred}, DR M l ds → DR M' l ds
  | [], _, k => k
  | _ :: _, _, ⟨b, ds', hb, e, k⟩ => ⟨b, ds', h _ _ hb, e, DR.mono h k⟩
structure SR (base : Prot) (M : Map) (n : Nat) (s : AS) (a : Act) (w : World) : Prop where
  er : ER M n s.env a.tmps
  dr : DR M s.defs a.defers
  rel : Rel base M s.H w
/-- Where a code has come, by how it is left. -/
def Arr (P : Program) (m : Machine) (b : Frame) (k : List Item) (cs : List Frame) : AExit → Act → World → Prop
  | .normal, a, w => Steps P m (lone (Fr b a k) cs w)
  | .exit id, a, w => ∃ k0, Steps P m (lone (Fr b a (.code (.exit id) :: k0)) cs w) ∧ exitTo id k0 = exitTo id k
  | .goto l, a, w => ∃ k0, Steps P m (lone (Fr b a (.code (.goto l) :: k0)) cs w) ∧ gotoIn l k0 = gotoIn l k
  | .ret, a, w => ∃ k0, Steps P m (lone (Fr b a (.code .ret :: k0)) cs w)
theorem Arr.of_steps {P : Program} {m m1 : Machine} {b : Frame} {k : List Item} {cs : List Frame} {e : AExit} {a : Act} {w : World} (h : Steps P m m1) (h' : Arr P m1 b k cs e a w) : Arr P m b k cs e a w := by
  cases e with
  | normal => exact h.trans h'
  | exit id => obtain ⟨k0, hs, he⟩ := h'; exact ⟨k0, h.trans hs, he⟩
  | goto l => obtain ⟨k0, hs, he⟩ := h'; exact ⟨k0, h.trans hs, he⟩
  | ret => obtain ⟨k0, hs⟩ := h'; exact ⟨k0, h.trans hs⟩
/-- An item that no exit looks at. -/
def plainI : Item → Bool
  | .inBlock _ | .inScope _ => false
  | _ => true
theorem Arr.pass {P : Program} {m : Machine} {b : Frame} {x : Item} {k : List Item} {cs : List Frame} {e : AExit} {a : Act} {w : World} (hx : plainI x = true) (he : e ≠ .normal) (h : Arr P m b (x :: k) cs e a w) : Arr P m b k cs e a w := by
  cases e with
  | normal => exact absurd rfl he
  | exit id => obtain ⟨k0, hs, hk⟩ := h; exact ⟨k0, hs, hk.trans (by cases x <;> simp_all [exitTo, plainI])⟩
  | goto l => obtain ⟨k0, hs, hk⟩ := h; exact ⟨k0, hs, hk.trans (by cases x <;> simp_all [gotoIn, plainI])⟩
  | ret => exact h
def SndReq (P : Program) (base : Prot) : Req → Res → Prop
  | .code fs c s, .exit e s' => ∀ M b a k cs w, FrOK M fs b → SR base M fs.n s a w → ∃ M' a' w', Ext M M' ∧ SR base M' fs.n s' a' w' ∧ Below base w w' ∧ Arr P (lone (Fr b a (.code c :: k)) cs w) b k cs e a' w'
  | .again fs c s, .exit e s' => ∀ M b a k cs w, FrOK M fs b → SR base M fs.n s a w → ∃ M' a' w', Ext M M' ∧ SR base M' fs.n s' a' w' ∧ Below base w w' ∧ Arr P (lone (Fr b a (.inLoop c :: k)) cs w) b k cs e a' w'
  | .scope fs body rest s, .exit e s' => ∀ M b a k cs w, FrOK M fs b → SR base M fs.n s a w → ∃ M' a' w', Ext M M' ∧ SR base M' fs.n s' a' w' ∧ Below base w w' ∧ Arr P (lone (Fr b a (.code rest :: .inScope body :: k)) cs w) b k cs e a' w'
  | .call f args H, .value v H' => ∀ M args' w cs, VRA M args args' → Rel base M H w → ∃ M' w' v' fr', Ext M M' ∧ VR M' v v' ∧ Rel base M' H' w' ∧ Below base w w' ∧
      Steps P (lone (Frame.enter P f args' .normal) cs w) (lone fr' cs w') ∧ fr'.fn = f ∧ fr'.leaving P w' (.returned v')
  | .round l args H, .value v H' => ∀ M b args' w c cs, M[l]? = some b → VRA M args args' → Rel base M H w → ∃ M' w' v' fn tmps assign body, (Instr.yield b.real args').run P w = .ok (.round b.real fn tmps assign body) w ∧
      Ext M M' ∧ VR M' v v' ∧ Rel base M' H' w' ∧ Below base w w' ∧ Steps P (lone (Frame.round b.real fn tmps assign body .normal) (c :: cs) w) (lone (c.finish v') cs w')
  | _, _ => False
section
variable {P : Program} {F : FuncId → Bool} {ev : Req → Option Res} {ops : Array Oper} {n : Nat} {base : Prot}
theorem aEval_sound {M : Map} {E : T Value} {a : Act} (h : ER M n E a.tmps) (x : Operand) (v : Value) (hv : aEval E x = some v) : VR M v (a.eval x) := by
  cases x with
  | tmp t =>
    obtain ⟨r, hr, hvr⟩ := h.2 t v hv
    simp only [Act.eval, Array.getD_eq_getD_getElem?, hr, Option.getD_some]
    exact hvr
  | const c =>
    simp only [aEval] at hv
    split at hv
    · rename_i hf; cases hv; exact VR.self hf
    · cases hv
  | global g => simp [aEval] at hv
  | func f =>
    simp only [aEval, Option.some.injEq] at hv
    subst hv
    exact VR.self rfl
theorem putE_sound {M : Map} {E E' : T Value} {a : Act} {dst : Option Tmp} {v r : Value} (h : ER M n E a.tmps) (hp : putE n dst v E = some E') (hv : VR M v r) : ER M n E' (a.put dst r).tmps ∧ (a.put dst r).defers = a.defers := by
  cases dst with
  | none => cases hp; exact ⟨h, rfl⟩
  | some d =>
    simp only [putE] at hp
    split at hp
    · rename_i hc; cases hp
      obtain ⟨hc1, hc2⟩ := hc
      refine ⟨⟨by simp [Act.put, h.1], fun t u hu => ?_⟩, rfl⟩
      simp only [Act.put]
      by_cases e : t = d
      · subst e
        rw [T.get_set_same 20 _ _ _ (Nat.lt_trans (Nat.succ_lt_succ hc2) (by decide))] at hu
        cases hu
        refine ⟨r, ?_, hv⟩
        rw [Array.getElem?_setIfInBounds]
        simp [h.1, hc1]
      · rw [T.get_set_other _ _ _ _ _ e] at hu
        obtain ⟨x, hx, hvx⟩ := h.2 t u hu
        refine ⟨x, ?_, hvx⟩
        rw [Array.getElem?_setIfInBounds_ne (fun e' => e e'.symm)]
        exact hx
    · cases hp
theorem aWanted_sound {M : Map} {E : T Value} {a : Act} {o : Oper} {t : Bool} (h : ER M n E a.tmps) (hw : aWanted ops o E = some t) : Region.wanted o (yielded ops a.tmps) = t := by
  unfold aWanted at hw
  unfold Region.wanted
  split at hw
  · rename_i hg; cases hw; rw [hg]
  · rename_i j want hg
    rw [hg]
    simp only
    rw [Option.map_eq_some_iff] at hw
    obtain ⟨y, hy, rfl⟩ := hw
    have : yielded ops a.tmps j = y := by
      unfold aYield at hy
      unfold yielded
      split at hy
      · rename_i d hd
        rw [hd]
        simp only [Option.bind_some]
        split at hy
        · rename_i b hb; cases hy
          obtain ⟨r, hr, hv⟩ := h.2 _ _ hb
          simp only [VR] at hv; subst hv
          rw [hr]
        · rename_i cs hb; cases hy
          obtain ⟨r, hr, hv⟩ := h.2 _ _ hb
          simp only [VR] at hv
          obtain ⟨cs', _, rfl⟩ := hv
          rw [hr]
        · cases hy
      · cases hy
    rw [this]
theorem aOp_not_defer {ρ : Operand → Option Value} {H H' : AHeap} {o : Oper} {r : ANext} (h : aOp P F ρ H o = some (r, H')) (c : Call) : o.op ≠ .defer c := by
  intro e
  simp only [aOp, e] at h
  cases h
theorem opStep_sound (hF : ∀ f, F f = true → ∀ args w, (callFunc f args).run P w = .ok (.enter f args) w) (hev : ∀ r res, ev r = some res → SndReq P base r res)
    {i : Nat} {rest : List Nat} {E E' : T Value} {H H' : AHeap} (h : opStep P F ev n ops i (E, H) = some (E', H')) {M : Map} {a : Act} {w : World} (her : ER M n E a.tmps) (hrel : Rel base M H w) (b : Frame) (k : List Item) (cs : List Frame) :
    ∃ M' a' w', Ext M M' ∧ ER M' n E' a'.tmps ∧ a'.defers = a.defers ∧ Rel base M' H' w' ∧ Below base w w' ∧ Steps P (lone (Fr b a (.inRegion ops (i :: rest) :: k)) cs w) (lone (Fr b a' (.inRegion ops rest :: k)) cs w') := by
  unfold opStep at h
  cases ho : ops[i]? with
  | none => rw [ho] at h; cases h
  | some o =>
    rw [ho] at h
    simp only at h
    rw [Option.bind_eq_some_iff] at h
    obtain ⟨⟨v, H1⟩, he, h⟩ := h
    rw [Option.map_eq_some_iff] at h
    obtain ⟨E1, hp, e⟩ := h
    cases e
    simp only at hp
    unfold opEff at he
    cases hw : aWanted ops o E with
    | none => rw [hw] at he; cases he
    | some t =>
      rw [hw] at he
      have hwr := aWanted_sound her hw
      cases t with
      | false =>
        cases he
        obtain ⟨h1, h2⟩ := putE_sound her hp (VR.self (M := M) (v := undef) rfl)
        refine ⟨M, a.put o.dst undef, w, Ext.refl M, h1, h2, hrel, Below.refl _ _, ?_⟩
        have := st_op_skip (P := P) (b := b) (a := a) (k := k) (cs := cs) (w := w) (ops := ops) (i := i) (rest := rest) (by simp [ho, hwr])
        simp only [ho, Option.bind_some] at this
        exact .one this
      | true =>
        simp only at he
        cases ha : aOp P F (aEval E) H o with
        | none => rw [ha] at he; cases he
        | some r =>
          obtain ⟨r, H2⟩ := r
          rw [ha] at he
          have hnd := aOp_not_defer ha
          have hs := aOp_sound (P := P) hrel hF (aEval_sound her) ha
          cases r with
          | val v0 =>
            cases he
            obtain ⟨M', w', r, hr, hext, hv, hrel', hbel⟩ := hs
            obtain ⟨h1, h2⟩ := putE_sound (her.mono hext) hp hv
            exact ⟨M', _, w', hext, h1, h2, hrel', hbel, .one (st_op ho hwr hnd hr)⟩
          | skip =>
            cases he
            obtain ⟨w', hr, hrel', hbel⟩ := hs
            obtain ⟨h1, h2⟩ := putE_sound her hp (VR.self (M := M) (v := undef) rfl)
            exact ⟨M, _, w', Ext.refl M, h1, h2, hrel', hbel, .one (st_op_void ho hwr hnd hr)⟩
          | enter f args =>
            simp only at he
            obtain ⟨args', hr, hva, hrel'⟩ := hs
            split at he
            · rename_i v0 H3 hc; cases he
              obtain ⟨M', w', v', fr', hext, hv, hrel2, hbel, hst, hfn, hlv⟩ := hev _ _ hc M args' w (Fr b a (.inRegion ops (i :: rest) :: k) :: cs) hva hrel'
              obtain ⟨h1, h2⟩ := putE_sound (her.mono hext) hp hv
              refine ⟨M', a.put o.dst v', w', hext, h1, h2, hrel2, hbel, .head (st_op_enter ho hwr hnd hr) (hst.trans (.one ?_))⟩
              have := step_leave_returned (c := Fr b a (.inRegion ops (i :: rest) :: k)) (cs := cs) hlv
              rw [this, Fr.finish, ho]; rfl
            · cases he
          | yld l args =>
            simp only at he
            obtain ⟨bi, args', hb, hva, hrel', hr⟩ := hs
            split at he
            · rename_i v0 H3 hc; cases he
              obtain ⟨M', w', v', fn, tmps, assign, body, hy, hext, hv, hrel2, hbel, hst⟩ := hev _ _ hc M bi args' w (Fr b a (.inRegion ops (i :: rest) :: k)) cs hb hva hrel'
              obtain ⟨h1, h2⟩ := putE_sound (her.mono hext) hp hv
              refine ⟨M', a.put o.dst v', w', hext, h1, h2, hrel2, hbel, .head (st_op_round ho hwr hnd (hr.trans hy)) ?_⟩
              have : (Fr b a (.inRegion ops (i :: rest) :: k)).finish v' = Fr b (a.put o.dst v') (.inRegion ops rest :: k) := by rw [Fr.finish, ho]; rfl
              rw [this] at hst
              exact hst
            · cases he
theorem opsRun_sound (hF : ∀ f, F f = true → ∀ args w, (callFunc f args).run P w = .ok (.enter f args) w) (hev : ∀ r res, ev r = some res → SndReq P base r res) :
    ∀ (l : List Nat) {E E' : T Value} {H H' : AHeap}, opsRun P F ev n ops l (E, H) = some (E', H') → ∀ {M : Map} {a : Act} {w : World}, ER M n E a.tmps → Rel base M H w → ∀ (b : Frame) (k : List Item) (cs : List Frame),
    ∃ M' a' w', Ext M M' ∧ ER M' n E' a'.tmps ∧ a'.defers = a.defers ∧ Rel base M' H' w' ∧ Below base w w' ∧ Steps P (lone (Fr b a (.inRegion ops l :: k)) cs w) (lone (Fr b a' k) cs w')
  | [], E, E', H, H', h, M, a, w, her, hrel, b, k, cs => by
    cases h
    exact ⟨M, a, w, Ext.refl M, her, rfl, hrel, Below.refl _ _, .one st_region_end⟩
  | i :: l, E, E', H, H', h, M, a, w, her, hrel, b, k, cs => by
    simp only [opsRun] at h
    rw [Option.bind_eq_some_iff] at h
    obtain ⟨⟨E1, H1⟩, h1, h⟩ := h
    obtain ⟨M1, a1, w1, x1, x2, x3, x4, x5, x6⟩ := opStep_sound hF hev (rest := l) h1 her hrel b k cs
    obtain ⟨M2, a2, w2, y1, y2, y3, y4, y5, y6⟩ := opsRun_sound hF hev l h x2 x4 b k cs
    exact ⟨M2, a2, w2, x1.trans y1, y2, y3.trans x3, y4, x5.trans y5, x6.trans y6⟩
end
end Go.Ax
