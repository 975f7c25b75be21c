/-
  A part of the proof: a run over an abstract memory, its soundness and its rules; each theorem says its conditions.
-/
import Derived.Test.YtfkbegcinagkmaaDoorHC
import Derived.Test.YtfkbegcinagkmaaDoorGD
namespace Go.Px
open Ax
def envOf : Nat → (as : List Sh) → DL as → List (Nat × SV)
  | _, [], _ => []
  | k, σ :: as, x => (k, ofD σ x.1) :: envOf (k + 1) as x.2
def entry (as : List Sh) (x : DL as) : PS := ⟨envOf 0 as x, []⟩
mutual
/-- A result, as the contract has it. -/
def Mt (π : Nat → Option Nat) : SV → SV → Prop
  | .win r e id lo n, s => (∃ r' id', s = .win r' e id' lo n ∧ π id = some id' ∧ (r = true → r' = true)) ∨ (s = .nils ∧ π id = none ∧ lo = 0 ∧ n = 0)
  | .agg l, s => ∃ m, s = .agg m ∧ MtL π l m
  | .nils, s => s = .nils
  | .dead, s => s = .dead
  | .int k n, s => s = .int k n
  | .bool b, s => s = .bool b
  | .str l, s => s = .str l
  | .sl e l, s => s = .sl e l ∨ (s = .nils ∧ l = [])
  | .arr n e l, s => s = .arr n e l
  | .ptr _ _, _ => False
  | .elp _ _ _ _, _ => False
  | .aep _ _ _ _ _, _ => False
  | .elv σ x, s => s = .elv σ x
  | .tup _, _ => False
  | .fn _ _ _, _ => False
def MtL (π : Nat → Option Nat) : List SV → List SV → Prop
  | [], m => m = []
  | s :: l, m => ∃ t r, m = t :: r ∧ Mt π s t ∧ MtL π l r
end
def MtR (π : Nat → Option Nat) (blk : List (Nat × LB)) : Nat → List LB → Prop
  | _, [] => True
  | i, lb :: l => ((∃ id, π i = some id ∧ lk blk id = some lb) ∨ (π i = none ∧ ∃ et e, lb = .row et e [] ∧ 0 < e.size)) ∧ MtR π blk (i + 1) l
/-- What a function's end owes. -/
def QC (ct : Ctr) (x : DL ct.args) (rs : List SV) (blk : List (Nat × LB)) : Prop :=
  ∃ π : Nat → Option Nat, MtL π (ct.out x) rs ∧ MtR π blk 0 (ct.rows x) ∧ (∀ i j a, π i = some a → π j = some a → i = j) ∧ (ct.rows x).all isRow = true
section
variable {P : Program} {tt : TT} {G : GV} {C : CV} {Z : Nat → Option ABlk} {ν : Nu} {S : PS} {E : T Value} {H : AHeap}
theorem setArgs_get : ∀ (vs : List Value) (k : Nat) (E : T Value) (t : Nat), k + vs.length < 1000 → (setArgs k vs E).get t = if k ≤ t ∧ t < k + vs.length then vs[t - k]? else E.get t
  | [], k, E, t, _ => by simp only [setArgs, List.length_nil]; rw [if_neg (by omega)]
  | v :: vs, k, E, t, h => by
    simp only [List.length_cons] at h
    simp only [setArgs]
    rw [setArgs_get vs (k + 1) _ t (by omega)]
    by_cases h1 : t = k
    · subst h1
      rw [if_neg (by omega), if_pos (by simp), T.get_set_same 20 _ _ _ (by omega)]
      simp
    · by_cases h2 : k + 1 ≤ t ∧ t < k + 1 + vs.length
      · rw [if_pos h2, if_pos (by simp only [List.length_cons]; omega)]
        rw [show t - k = (t - (k + 1)) + 1 by omega, List.getElem?_cons_succ]
      · rw [if_neg h2, T.get_set_other _ _ _ _ _ h1, if_neg (by simp only [List.length_cons]; omega)]
theorem envOf_get : ∀ (as : List Sh) (x : DL as) (k : Nat) {vs : List Value} {t : Nat} {s : SV}, VArgs Z as x vs → lk (envOf k as x) t = some s → k ≤ t ∧ ∃ v, vs[t - k]? = some v ∧ VS Z ν s v
  | [], x, k, vs, t, s, h, e => by simp [envOf, lk] at e
  | σ :: as, x, k, vs, t, s, ⟨v, w, hv, h1, h2⟩, e => by
    subst hv
    simp only [envOf, lk] at e
    split at e
    · rename_i hk; subst hk; cases e
      exact ⟨Nat.le_refl _, v, by simp, h1 ν⟩
    · obtain ⟨h3, v', h4, h5⟩ := envOf_get as x.2 (k + 1) h2 e
      exact ⟨by omega, v', by rw [show t - k = (t - (k + 1)) + 1 by omega, List.getElem?_cons_succ]; exact h4, h5⟩
theorem VArgs.length : ∀ {as : List Sh} {x : DL as} {vs : List Value}, VArgs Z as x vs → vs.length = as.length
  | [], _, _, h => by simp only [VArgs] at h; subst h; rfl
  | _ :: _, _, _, ⟨v, w, e, _, h2⟩ => by subst e; simp [VArgs.length h2]
mutual
theorem CR.mt {π : Nat → Option Nat} : ∀ (s t : SV) (vs : List Value), Mt π s t → CR Z ν t vs → CR Z (fun i => (π i).bind ν) s vs
  | .win r e id lo n, t, vs, m, h => by
    simp only [Mt] at m
    rcases m with ⟨r', id', rfl, hp, hr⟩ | ⟨rfl, hp, rfl, rfl⟩
    · simp only [CR, WinR, hp, Option.bind_some] at h ⊢
      obtain ⟨v, rfl, h⟩ := h
      refine ⟨v, rfl, ?_⟩
      cases hn : ν id' with
      | none =>
        rw [hn] at h
        simp only at h ⊢
        obtain ⟨h1, h2, h3⟩ := h
        refine ⟨h1, h2, ?_⟩
        rcases h3 with h3 | ⟨h3, h4⟩
        · exact .inl h3
        · cases r with
          | true => rw [hr rfl] at h3; cases h3
          | false => exact .inr ⟨rfl, h4⟩
      | some ni =>
        rw [hn] at h
        simp only at h ⊢
        rcases h with ⟨h1, h2⟩ | h
        · cases r with
          | true => rw [hr rfl] at h1; cases h1
          | false => exact .inl ⟨rfl, h2⟩
        · exact .inr h
    · simp only [CR] at h
      subst h
      simp only [CR, WinR, hp, Option.bind_none]
      exact ⟨_, rfl, trivial, trivial, .inl rfl⟩
  | .agg l, t, vs, m, h => by
    simp only [Mt] at m
    obtain ⟨m', rfl, m⟩ := m
    simp only [CR] at h ⊢
    exact CRL.mt l m' vs m h
  | .nils, t, vs, m, h => by simp only [Mt] at m; subst m; exact h
  | .dead, t, vs, m, h => by simp only [Mt] at m; subst m; exact h
  | .int k n, t, vs, m, h => by simp only [Mt] at m; subst m; exact h
  | .bool b, t, vs, m, h => by simp only [Mt] at m; subst m; exact h
  | .str l, t, vs, m, h => by simp only [Mt] at m; subst m; exact h
  | .sl e l, t, vs, m, h => by
    simp only [Mt] at m
    rcases m with rfl | ⟨rfl, rfl⟩
    · exact h
    · simp only [CR] at h; subst h
      simp only [CR, RV]
      exact ⟨_, rfl, .inl ⟨rfl, .inl rfl⟩⟩
  | .arr n e l, t, vs, m, h => by simp only [Mt] at m; subst m; exact h
  | .elv σ x, t, vs, m, h => by simp only [Mt] at m; subst m; exact h
  | .ptr _ _, _, _, m, _ => by simp only [Mt] at m
  | .elp _ _ _ _, _, _, m, _ => by simp only [Mt] at m
  | .aep _ _ _ _ _, _, _, m, _ => by simp only [Mt] at m
  | .tup _, _, _, m, _ => by simp only [Mt] at m
  | .fn _ _ _, _, _, m, _ => by simp only [Mt] at m
theorem CRL.mt {π : Nat → Option Nat} : ∀ (l m : List SV) (vs : List Value), MtL π l m → CRL Z ν m vs → CRL Z (fun i => (π i).bind ν) l vs
  | [], m, vs, e, h => by simp only [MtL] at e; subst e; exact h
  | s :: l, m, vs, e, h => by
    simp only [MtL] at e
    obtain ⟨t, r, rfl, h1, h2⟩ := e
    simp only [CRL] at h ⊢
    obtain ⟨u, w, e, h3, h4⟩ := h
    exact ⟨u, w, e, CR.mt s t u h1 h3, CRL.mt l r w h2 h4⟩
end
theorem V1.mt {π : Nat → Option Nat} {s t : SV} {v : Value} (m : Mt π s t) (h : V1 Z ν t v) : V1 Z (fun i => (π i).bind ν) s v := by
  cases s with
  | agg l =>
    simp only [Mt] at m
    obtain ⟨m', rfl, m⟩ := m
    obtain ⟨vs, e, h⟩ := h
    exact ⟨vs, e, CRL.mt l m' vs m h⟩
  | arr n e l => simp only [Mt] at m; subst m; exact h
  | win r e id lo n =>
    have ht : CR Z ν t [v] := by
      have m' := m
      simp only [Mt] at m'
      rcases m' with ⟨r', id', rfl, _⟩ | ⟨rfl, _⟩ <;> exact h
    exact CR.mt _ _ _ m ht
  | sl e l =>
    have ht : CR Z ν t [v] := by
      have m' := m
      simp only [Mt] at m'
      rcases m' with rfl | ⟨rfl, _⟩ <;> exact h
    exact CR.mt _ _ _ m ht
  | nils => simp only [Mt] at m; subst m; exact h
  | dead => simp only [Mt] at m; subst m; exact h
  | int k n => simp only [Mt] at m; subst m; exact h
  | bool b => simp only [Mt] at m; subst m; exact h
  | str l => simp only [Mt] at m; subst m; exact h
  | elv σ x => simp only [Mt] at m; subst m; exact h
  | _ => simp only [Mt] at m
theorem Mt.notup {π : Nat → Option Nat} {s t : SV} (m : Mt π s t) : ∀ l, t ≠ .tup l := by
  rintro l rfl
  cases s <;> simp [Mt] at m
theorem V1L.mt {π : Nat → Option Nat} : ∀ {l m : List SV} {vs : List Value}, MtL π l m → VSL Z ν m vs → V1L Z (fun i => (π i).bind ν) l vs
  | [], m, vs, e, h => by simp only [MtL] at e; subst e; exact h
  | s :: l, m, vs, e, h => by
    simp only [MtL] at e
    obtain ⟨t, r, rfl, h1, h2⟩ := e
    simp only [VSL] at h
    obtain ⟨v, w, e, h3, h4⟩ := h
    exact ⟨v, w, e, (h3.v1 h1.notup).mt h1, V1L.mt h2 h4⟩
theorem MtR.get {π : Nat → Option Nat} {blk : List (Nat × LB)} : ∀ {rows : List LB} {k : Nat}, MtR π blk k rows → ∀ i lb, rows[i]? = some lb → (∃ id, π (k + i) = some id ∧ lk blk id = some lb) ∨ (π (k + i) = none ∧ ∃ et e, lb = .row et e [] ∧ 0 < e.size)
  | [], _, _, i, lb, h => by simp at h
  | a :: rows, k, m, i, lb, h => by
    simp only [MtR] at m
    cases i with
    | zero => simp at h; subst h; exact m.1
    | succ i =>
      have := m.2.get i lb (by simpa using h)
      rw [show k + (i + 1) = k + 1 + i by omega]
      exact this
theorem rsOf_sound (ht : TTOK P tt) (hp : PR Z ν S E H) (hg : GZ Z G) : ∀ {res : List ResultVar} {rs : List SV}, rsOf tt G S res = some rs → ∃ vs, allSome (res.map (resVal P E H)) = some vs ∧ VSL Z ν rs vs
  | [], rs, h => by simp only [rsOf, Option.some.injEq] at h; subst h; exact ⟨[], rfl, rfl⟩
  | .tmp t :: l, rs, h => by
    simp only [rsOf] at h
    split at h
    · rename_i s r h1 h2
      cases h
      obtain ⟨v, hv, hs⟩ := hp.env t s h1
      obtain ⟨vs, h3, h4⟩ := rsOf_sound ht hp hg h2
      exact ⟨v :: vs, by simp [allSome, resVal, hv, h3], v, vs, rfl, hs, h4⟩
    · cases h
  | .cell x t :: l, rs, h => by
    simp only [rsOf] at h
    split at h
    · rename_i s r h1 h2
      cases h
      have hlk : ∃ p, pv G S.env (.tmp x) = some p := by
        cases hq : pv G S.env (.tmp x) with
        | none => simp only [pR, hq] at h1; simp at h1
        | some p => exact ⟨p, rfl⟩
      obtain ⟨p, hq⟩ := hlk
      obtain ⟨v, hv, hs⟩ := pv_sound hp hg _ _ hq
      obtain ⟨y, hy, hys⟩ := load_sound ht hp (o := ⟨none, .load t (.tmp x), 0, "", #[], none⟩) rfl hq hs h1 (by simp)
      obtain ⟨vs, h3, h4⟩ := rsOf_sound ht hp hg h2
      simp only [aEval] at hv
      exact ⟨y :: vs, by simp [allSome, resVal, hv, hy, h3], y, vs, rfl, hys, h4⟩
    · cases h
/-- A FUNCTION KEEPS A CONTRACT, if its runs end as that says. -/
theorem Held.of (hx : CxOK P tt G C) {f : FuncId} {fn : Func} {c : Code} {ct : Ctr} (hf : P.funcs[f]? = some fn) (hb : fn.body = some c) (hn : ct.args.length ≤ fn.ntmps ∧ ct.args.length < 1000)
    (h : ∀ x, ct.pre x → Good P tt G f fn.ntmps fn.results.toList (QC ct x) [.code c] (entry ct.args x)) : Held P G f ct := by
  intro x hpre base M args args' w cs Z H hva hzh hg hargs hrel
  have hlen : args.size = ct.args.length := by have := hva.length; simpa using this
  let fb : Frame := { (default : Frame) with fn := f, kind := .normal }
  have hal := (VRA.iff.1 hargs).length
  simp only [Array.length_toList] at hal
  let a0 : Act := { tmps := args' ++ Array.replicate (fn.ntmps - args'.size) undef, defers := [] }
  have henter : Frame.enter P f args' .normal = Fr fb a0 [.code c] := by
    simp [Frame.enter, Fr, fb, a0, hf, hb]
    rfl
  have hfr : FrOK M ⟨f, none, fn.ntmps⟩ fb := ⟨rfl, rfl, rfl⟩
  have her : ER M fn.ntmps (setArgs 0 args.toList .nil) a0.tmps := enter_er hargs (by omega) (by omega)
  have hp : PR Z (fun _ => none) (entry ct.args x) (setArgs 0 args.toList .nil) H := by
    refine ⟨fun t s e => ?_, fun id lb e => by simp [entry, lk] at e, hzh, fun b ⟨id, lb, ni, h1, _⟩ => by simp [entry, lk] at h1, fun i j li lj ni nj h1 => by simp [entry, lk] at h1⟩
    obtain ⟨_, v, h1, h2⟩ := envOf_get (ν := fun _ => none) ct.args x 0 hva e
    refine ⟨v, ?_, h2⟩
    rw [setArgs_get _ _ _ _ (by simp; omega)]
    have hlt := (List.getElem?_eq_some_iff.1 h1).1
    rw [if_pos ⟨Nat.zero_le _, by omega⟩]
    exact h1
  obtain ⟨rs, S', M1, Z', ν', E', H', a1, w1, k0, x1, x2, x3, x4, x5, x6, x7, x8, x9, x10, x11⟩ := h x hpre base M fb a0 cs w Z (fun _ => none) (setArgs 0 args.toList .nil) H hfr her rfl hrel hp hg
  obtain ⟨π, m1, m2, m3, m4⟩ := x2
  have hret : ∃ k1, Steps P (lone (Fr fb a0 [.code c]) cs w) (lone { Fr fb a1 k1 with mode := .returning } cs w1) := by
    rcases x11 with rfl | ⟨k1, rfl⟩
    · exact ⟨[], Steps.trans x10 (.one (st_end rfl))⟩
    · exact ⟨.code .ret :: k1, x10.trans (.one (st_ret rfl))⟩
  obtain ⟨k1, hret⟩ := hret
  obtain ⟨vs, hvs, hvl⟩ := rsOf_sound hx.ty x8 (hg.mono x9.z) x1
  obtain ⟨v', hr, hv⟩ := results_sound (P := P) x4 x6 hvs
  have hown0 : ∀ b, ¬ Own (fun _ => none) (entry ct.args x) b := fun b ⟨id, lb, ni, h1, _⟩ => by simp [entry, lk] at h1
  have hfresh : ∀ b, Own ν' S' b → H.next ≤ b := fun b ho => (x9.own b ho).resolve_left (hown0 b)
  have hblk : ∀ i lb, (ct.rows x)[i]? = some lb → BR Z' (fun i => (π i).bind ν') H' i lb ∧ ∀ ni, (π i).bind ν' = some ni → H.next ≤ ni.b ∧ Z' ni.b = none := by
    intro i lb hl
    have hrow : isRow lb = true := List.all_eq_true.1 m4 lb (List.mem_of_getElem? hl)
    have := m2.get i lb hl
    rw [Nat.zero_add] at this
    rcases this with ⟨id, h1, h2⟩ | ⟨h1, et, e, rfl, h2⟩
    · refine ⟨?_, fun ni hni => ?_⟩
      · have hbr := x8.blk id lb h2
        cases lb with
        | var l => simp [isRow] at hrow
        | row et e xs =>
          simp only [BR, h1, Option.bind_some] at hbr ⊢
          exact hbr
      · rw [h1] at hni
        have ho : Own ν' S' ni.b := ⟨id, lb, ni, h2, hni, rfl⟩
        exact ⟨hfresh _ ho, x8.zo _ ho⟩
    · exact ⟨⟨h2, .inl ⟨by simp [h1], rfl⟩⟩, fun ni hni => by simp [h1] at hni⟩
  refine ⟨Z', fun i => (π i).bind ν', H', M1, w1, v', vs, { Fr fb { a1 with defers := [] } k1 with mode := .returning }, x9.z, fun b hb' => ?_, x8.zh, x9.le, fun b y hy => x9.old b y hy (hrel.dom _ _ hy) (hown0 b), V1L.mt m1 hvl, hblk, ?_, x3, hv, x6, x7, ?_, rfl, rfl, rfl, rfl, fn, hf, hr⟩
  · rcases x9.zn b hb' with h | h | h
    · exact .inl h
    · exact .inr h
    · exact absurd h (hown0 b)
  · intro i j li lj ni nj g1 g2 g3 g4 g5
    have s1 := m2.get i li g1
    have s2 := m2.get j lj g2
    rw [Nat.zero_add] at s1 s2
    rcases s1 with ⟨a, h1, h2⟩ | ⟨h1, _⟩
    · rcases s2 with ⟨b, h3, h4⟩ | ⟨h3, _⟩
      · simp only [h1, h3, Option.bind_some] at g3 g4
        have := x8.inj a b li lj ni nj h2 h4 g3 g4 g5
        subst this
        exact m3 i j a h1 h3
      · simp [h3] at g4
    · simp [h1] at g3
  · rw [henter]
    have e : a1 = { a1 with defers := [] } := by
      cases a1; simp only at x5; subst x5; rfl
    rw [← e]
    exact hret
end
end Go.Px
namespace Go.Px
open Ax
/-- The cells of a shape's zero. -/
def dcells : Sh → List Value
  | .int k => [.int k 0]
  | .bool => [.bool false]
  | .str => [bstr []]
  | .unit => []
  | .pair a b => dcells a ++ dcells b
  | .arr n e => (List.replicate n (dcells e)).flatten
  | .sl _ => [.slice none 0 0]
theorem dcells_ok (Z : Nat → Option ABlk) : ∀ σ : Sh, RV Z σ σ.dflt (dcells σ)
  | .int _ => by simp only [RV, Sh.dflt, dcells]
  | .bool => by simp only [RV, Sh.dflt, dcells]
  | .str => by simp only [RV, Sh.dflt, dcells]
  | .unit => by simp only [RV, dcells]
  | .pair a b => by simp only [RV, Sh.dflt, dcells]; exact ⟨_, _, rfl, dcells_ok Z a, dcells_ok Z b⟩
  | .arr n e => by simp only [RV, Sh.dflt, dcells]; exact ⟨by simp, RVL.rep (dcells_ok Z e) n⟩
  | .sl e => by simp only [RV, Sh.dflt, dcells]; exact ⟨_, rfl, .inl ⟨rfl, .inl rfl⟩⟩
def kindB (P : Program) (t : TypeId) : TK → Bool
  | .int k => match pureRun P (underlying t) with
    | some (.int k') => decide (k = k')
    | _ => false
  | .bool => match pureRun P (underlying t) with
    | some .bool => true
    | _ => false
  | .str => match pureRun P (underlying t) with
    | some .string => true
    | _ => false
  | .slice e => match pureRun P (underlying t) with
    | some (.slice e') => e == e'
    | _ => false
  | .array n e => match pureRun P (underlying t) with
    | some (.array n' e') => n == n' && e == e'
    | _ => false
  | .struct fs => match pureRun P (underlying t) with
    | some (.struct fields) => decide (fields.toList.map (fun f => (f.offset, f.type)) = fs) && match pureRun P (fields.mapM fun f => do pure (f.offset, ← sizeOf f.type)) with
      | some places => match allS (fs.map fun f => (pureRun P (sizeOf f.2)).map fun n => (f.1, n)) with
        | some l => decide (l = places.toList)
        | none => false
      | none => false
    | _ => false
  | .other => true
theorem kindB_ok {P : Program} {t : TypeId} {k : TK} (h : kindB P t k = true) : KOK P t k := by
  cases k <;> simp only [kindB] at h <;> simp only [KOK]
  · split at h
    · rename_i hu; rw [hu]; simp only [decide_eq_true_eq] at h; rw [h]
    · cases h
  · split at h
    · rename_i hu; exact hu
    · cases h
  · split at h
    · rename_i hu; exact hu
    · cases h
  · split at h
    · rename_i hu; rw [hu]; simp only [beq_iff_eq] at h; rw [h]
    · cases h
  · split at h
    · rename_i hu; rw [hu]; simp only [Bool.and_eq_true, beq_iff_eq] at h; rw [h.1, h.2]
    · cases h
  · split at h
    · rename_i fields hu
      simp only [Bool.and_eq_true, decide_eq_true_eq] at h
      obtain ⟨h1, h⟩ := h
      split at h
      · rename_i places hm
        split at h
        · rename_i l hl
          simp only [decide_eq_true_eq] at h
          exact ⟨fields, places, hu, h1, hm, by rw [hl, h]⟩
        · cases h
      · cases h
    · cases h
def tiB (P : Program) (t : TypeId) (i : TI) : Bool :=
  decide (pureRun P (sizeOf t) = some i.size) && decide (pureRun P (isAgg t) = some i.agg) && kindB P t i.kind && (i.agg || decide (i.size = 1)) &&
  (match pureRun P (typeInfo t) with
   | some inf => decide (inf.bytes = i.bytes) && decide (inf.size = i.size)
   | none => false) &&
  (match pureRun P (zeroValue t) with
   | some z => Ax.flat z && eqL z.cells.toList (dcells i.sh) && decide (z.cells.size = i.size)
   | none => false) &&
  (match i.ieq with
   | some k => match pureRun P (underlying t) with
     | some (.struct fields) => intFieldsB P k fields.toList 0 && !P.stoodInHeld t && !P.eqGuardType P.depth t && decide (fields.size = i.size)
     | _ => false
   | none => true)
theorem tiB_ok {P : Program} {t : TypeId} {i : TI} (hz : i.zero = flatD i.sh i.sh.dflt) (h : tiB P t i = true) : TOK P t i := by
  unfold tiB at h
  simp only [Bool.and_eq_true, decide_eq_true_eq, Bool.or_eq_true] at h
  obtain ⟨⟨⟨⟨⟨⟨h1, h2⟩, h3⟩, h4⟩, h5⟩, h6⟩, h7⟩ := h
  refine ⟨h1, h2, kindB_ok h3, fun ha => by rcases h4 with h4 | h4; · rw [ha] at h4; cases h4
                                            · exact h4, ?_, ?_, fun id => by rw [hz]; exact ment_flatD id _ _, ?_⟩
  · split at h5
    · rename_i inf hi
      simp only [Bool.and_eq_true, decide_eq_true_eq] at h5
      exact ⟨inf, hi, h5.1, h5.2⟩
    · cases h5
  · split at h6
    · rename_i z hzz
      simp only [Bool.and_eq_true, decide_eq_true_eq] at h6
      obtain ⟨⟨g1, g2⟩, g3⟩ := h6
      have g2 := eqL_eq _ _ g2
      refine ⟨z, hzz, g1, fun Z ν => ?_, g3, fun _ Z => ?_⟩
      · rw [hz, g2]; exact flatD_sound _ _ (dcells_ok Z _)
      · rw [g2]; exact dcells_ok Z _
    · cases h6
  · intro k hk
    rw [hk] at h7
    simp only at h7
    split at h7
    · rename_i fields hu
      simp only [Bool.and_eq_true, Bool.not_eq_true', decide_eq_true_eq] at h7
      exact ⟨fields, hu, h7.1.1.1, h7.1.1.2, h7.1.2, h7.2⟩
    · cases h7
/-- A type, by its shape. -/
def mkT (size bytes : Nat) (agg : Bool) (kind : TK) (sh : Sh) (ieq : Option IntKind) : TI := ⟨size, bytes, agg, kind, flatD sh sh.dflt, sh, ieq⟩
def ttB (P : Program) : List (Nat × (Nat × Nat × Bool × TK × Sh × Option IntKind)) → Bool
  | [] => true
  | (t, (a, b, c, d, e, f)) :: l => tiB P t (mkT a b c d e f) && ttB P l
def ttOf : List (Nat × (Nat × Nat × Bool × TK × Sh × Option IntKind)) → TT
  | [] => []
  | (t, (a, b, c, d, e, f)) :: l => (t, mkT a b c d e f) :: ttOf l
theorem ttB_ok {P : Program} : ∀ {l : List (Nat × (Nat × Nat × Bool × TK × Sh × Option IntKind))}, ttB P l = true → TTOK P (ttOf l)
  | [], _, t, i, h => by simp [ttOf, lk] at h
  | (a, (b, c, d, e, f, g)) :: l, hb, t, i, h => by
    simp only [ttB, Bool.and_eq_true] at hb
    simp only [ttOf, lk] at h
    split at h
    · rename_i e1; subst e1; cases h
      exact tiB_ok rfl hb.1
    · exact ttB_ok hb.2 t i h
end Go.Px
namespace Go.Px
open Ax
/-- Where the rounds of a function's loops begin. -/
def hds : Code → List Item → List (List Item)
  | .seq a b, k => hds a (.code b :: k) ++ hds b k
  | .cond _ a b, k => hds a k ++ hds b k
  | .block id c, k => hds c (.inBlock id :: k)
  | .scope c, k => hds c (.inScope c :: k)
  | .loop c, k => (.code c :: .inLoop c :: k) :: hds c (.inLoop c :: k)
  | _, _ => []
def bodyOf (fn : Func) : Code := fn.body.getD .skip
def hd (fn : Func) (i : Nat) : List Item := ((hds (bodyOf fn) [])[i]?).getD []
end Go.Px
namespace Go.Px
open Ax
mutual
/-- Plain results: the same before and after. -/
def flatS : SV → Bool
  | .int _ _ | .bool _ | .str _ | .arr _ _ _ | .sl _ _ | .nils | .elv _ _ => true
  | .agg l => flatSL l
  | _ => false
def flatSL : List SV → Bool
  | [] => true
  | s :: l => flatS s && flatSL l
end
mutual
theorem mt_flat (π : Nat → Option Nat) : ∀ s, flatS s = true → Mt π s s
  | .int _ _, _ => by simp [Mt]
  | .bool _, _ => by simp [Mt]
  | .str _, _ => by simp [Mt]
  | .arr _ _ _, _ => by simp [Mt]
  | .sl _ _, _ => by simp [Mt]
  | .nils, _ => by simp [Mt]
  | .elv _ _, _ => by simp [Mt]
  | .agg l, h => by
    simp only [flatS] at h
    simp only [Mt]
    exact ⟨l, rfl, mtL_flat π l h⟩
  | .win _ _ _ _ _, h => by simp [flatS] at h
  | .dead, h => by simp [flatS] at h
  | .ptr _ _, h => by simp [flatS] at h
  | .elp _ _ _ _, h => by simp [flatS] at h
  | .aep _ _ _ _ _, h => by simp [flatS] at h
  | .tup _, h => by simp [flatS] at h
  | .fn _ _ _, h => by simp [flatS] at h
theorem mtL_flat (π : Nat → Option Nat) : ∀ l, flatSL l = true → MtL π l l
  | [], _ => by simp [MtL]
  | s :: l, h => by
    simp only [flatSL, Bool.and_eq_true] at h
    exact ⟨s, l, rfl, mt_flat π s h.1, mtL_flat π l h.2⟩
end
theorem QC.flat {ct : Ctr} {x : DL ct.args} {rs : List SV} {blk : List (Nat × LB)} (h : ct.out x = rs) (hr : ct.rows x = []) (hf : flatSL rs = true) : QC ct x rs blk :=
  ⟨fun _ => none, by rw [h]; exact mtL_flat _ _ hf, by rw [hr]; trivial, fun _ _ _ e => by simp at e, by rw [hr]; rfl⟩
theorem CxOK.nil {P : Program} {tt : TT} {G : GV} (h : TTOK P tt) (hm : P.follows .mixedOrders = true) : CxOK P tt G [] :=
  ⟨h, fun _ _ e => by simp [lk] at e, fun _ _ e => by simp [lk] at e, hm⟩
theorem CxOK.cons {P : Program} {tt : TT} {G : GV} {C : CV} (hx : CxOK P tt G C) {f : FuncId} {fn : Func} {ct : Ctr} (hh : Held P G f ct) (hf : P.funcs[f]? = some fn) (hn : (fn.name == "runtime.NumGoroutine") = false) (hb : fn.body.isSome = true) : CxOK P tt G ((f, ct) :: C) := by
  refine ⟨hx.ty, fun g cg e => ?_, fun g cg e => ?_, hx.mix⟩
  · simp only [lk] at e
    split at e
    · rename_i h; subst h; cases e; exact hh
    · exact hx.held g cg e
  · simp only [lk] at e
    split at e
    · rename_i h; subst h; exact fun args w => callFunc_enter hf hn hb args w
    · exact hx.enter g cg e
/-- A function's contract from the proposition of its run. -/
theorem Held.run {P : Program} {tt : TT} {G : GV} {C : CV} (hx : CxOK P tt G C) {f : FuncId} {fn : Func} {ct : Ctr} (hf : P.funcs[f]? = some fn) (hb : fn.body = some (bodyOf fn)) (hn : ct.args.length ≤ fn.ntmps ∧ ct.args.length < 1000)
    (h : ∀ x, ct.pre x → sy tt G C fn.ntmps fn.results.toList (QC ct x) (Good P tt G f fn.ntmps fn.results.toList (QC ct x)) 1000 [.code (bodyOf fn)] (entry ct.args x)) : Held P G f ct :=
  Held.of hx hf hb hn fun x hp => sy_sound hx _ _ _ (h x hp)
theorem bc_t {A B : Prop} : bc true A B = A := rfl
theorem bc_f {A B : Prop} : bc false A B = B := rfl
theorem bc_of {b : Bool} {A B : Prop} (h1 : b = true → A) (h2 : b = false → B) : bc b A B := by
  cases b
  · exact h2 rfl
  · exact h1 rfl
end Go.Px
namespace Go.Px
open Ax
def allIn {α : Type} (L : List (Nat × α)) : List (Nat × α) → Prop
  | [] => True
  | (t, s) :: l => lk L t = some s ∧ allIn L l
theorem allIn_lk {α : Type} {L : List (Nat × α)} : ∀ l, allIn L l → ∀ t s, lk l t = some s → lk L t = some s
  | [], _, _, _, e => by simp [lk] at e
  | (a, x) :: l, h, t, s, e => by
    simp only [lk] at e
    split at e
    · rename_i q; subst q; cases e; exact h.1
    · exact allIn_lk l h.2 t s e
theorem Good.only {P : Program} {tt : TT} {G : GV} {f : FuncId} {n : Nat} {res : List ResultVar} {Q : List SV → List (Nat × LB) → Prop} {it : List Item} {S S' : PS}
    (h : Good P tt G f n res Q it S') (he : allIn S.env S'.env) (hb : allIn S.blk S'.blk) : Good P tt G f n res Q it S :=
  Good.less (allIn_lk _ he) (allIn_lk _ hb) h
theorem Good.post {P : Program} {tt : TT} {G : GV} {f : FuncId} {n : Nat} {res : List ResultVar} {Q Q' : List SV → List (Nat × LB) → Prop} {it : List Item} {S : PS}
    (h : Good P tt G f n res Q it S) (hq : ∀ rs blk, Q rs blk → Q' rs blk) : Good P tt G f n res Q' it S := by
  intro base M b a cs w Z ν E H h1 h2 h3 h4 h5 h6
  obtain ⟨rs, S', M', Z', ν', E', H', a', w', k0, x1, x2, x3⟩ := h base M b a cs w Z ν E H h1 h2 h3 h4 h5 h6
  exact ⟨rs, S', M', Z', ν', E', H', a', w', k0, x1, hq _ _ x2, x3⟩
end Go.Px
namespace Go.Px
open Ax
/-- A function without arguments, carried out by the evaluator. -/
theorem Held.bool0 {P : Program} {G : GV} (hG : Glob G.raw) {f : FuncId} {b : Bool} {H2 : AHeap} (he : EvS P (.call f #[] ⟨nglob, G.raw⟩) (.value (.bool b) H2)) : Held P G f ⟨[], fun _ => True, fun _ => [.bool b], fun _ => []⟩ := by
  intro x _ base M args args' w cs Z H hva hzh hg hargs hrel
  obtain rfl : args = #[] := by
    have h : args.toList = [] := hva
    simpa using h
  have hL : Lay G.raw H := ⟨by rw [← hrel.len]; exact hrel.glob_le, fun g x e => (hzh g x (hg.2 g x e)).1⟩
  obtain ⟨M', w', v', fr', x1, x2, x3, x4, x5⟩ := EvS.frame hG rfl rfl he hL base M args' w cs hargs hrel
  refine ⟨Z, fun _ => none, H, M', w', v', [.bool b], fr', ZLe.refl _, fun b hb => .inl hb, hzh, Nat.le_refl _, fun _ _ h => h, ⟨_, _, rfl, ?_, rfl⟩, ?_, ?_, x1, x2, x3, x4, x5⟩
  · simp [V1, CR]
  · intro i lb h; simp at h
  · intro i j li lj ni nj h; simp at h
/-- What a contract says of the machine, for a plain answer. -/
theorem calls_of_held {P : Program} {G : GV} {f : FuncId} {ct : Ctr} (hh : Held P G f ct) {x : DL ct.args} (hp : ct.pre x) {b : Bool} (ho : ct.out x = [.bool b]) {args args' : Array Value} {M : Map} {H : AHeap} {w : World} {Z : Nat → Option ABlk}
    (hva : VArgs Z ct.args x args.toList) (hz : ∀ b y, Z b = some y → H.t.get b = some y ∧ isCells y) (hg : GZ Z G) (hargs : VRA M args args') (hrel : Rel (fun k => k < w.heap.size) M H w) :
    Calls P f args' w fun e w' => e = .returned (.bool b) ∧ RowKit.Below w.heap.size w w' := by
  intro cs
  obtain ⟨Z', ν', H', M', w', v', vs, fr', x1, x2, x3, x4, x5, x6, x7, x8, x9, x10, x11, hbel, hst, hfn, hlv⟩ := hh x hp (fun k => k < w.heap.size) M args args' w cs Z H hva hz hg hargs hrel
  rw [ho] at x6
  obtain ⟨v, u, rfl, hv, rfl⟩ := x6
  have hv' : v = .bool b := by simpa [V1, CR] using hv
  subst hv'
  have e : v' = .bool b := (VR.flat_iff (.bool b) rfl v').1 x10
  rw [e] at hlv
  exact ⟨.returned (.bool b), w', fr', ⟨rfl, hbel.os, hbel.tape, hbel.output, hbel.size, hbel.block⟩, hst, hfn, hlv⟩
/-- The cells of plain data. -/
def rvOf : (σ : Sh) → σ.D → List Value
  | .int k, (n : Int) => [.int k n]
  | .bool, (b : Bool) => [.bool b]
  | .str, (l : List UInt8) => [bstr l]
  | .unit, _ => []
  | .pair a b, x => rvOf a x.1 ++ rvOf b x.2
  | .arr _ e, (l : List e.D) => l.flatMap (rvOf e)
  | .sl _, _ => []
def rvOk : (σ : Sh) → σ.D → Prop
  | .int _, _ => True
  | .bool, _ => True
  | .str, _ => True
  | .unit, _ => True
  | .pair a b, x => rvOk a x.1 ∧ rvOk b x.2
  | .arr n e, (l : List e.D) => l.length = n ∧ ∀ x ∈ l, rvOk e x
  | .sl _, _ => False
theorem rvl_flatMap {α : Type} {R : α → List Value → Prop} {f : α → List Value} : ∀ {l : List α}, (∀ x ∈ l, R x (f x)) → RVL R l (l.flatMap f)
  | [], _ => rfl
  | x :: l, h => ⟨f x, l.flatMap f, by simp, h x (by simp), rvl_flatMap fun y hy => h y (by simp [hy])⟩
theorem rv_of {Z : Nat → Option ABlk} : ∀ (σ : Sh) (x : σ.D), rvOk σ x → RV Z σ x (rvOf σ x)
  | .int _, _, _ => rfl
  | .bool, _, _ => rfl
  | .str, _, _ => rfl
  | .unit, _, _ => rfl
  | .pair a b, x, h => ⟨_, _, rfl, rv_of a x.1 h.1, rv_of b x.2 h.2⟩
  | .arr _ e, _, h => ⟨h.1, rvl_flatMap fun x hx => rv_of e x (h.2 x hx)⟩
  | .sl _, _, h => h.elim
end Go.Px
namespace Go.Px
open Ax
theorem rvl_ints {Z : Nat → Option ABlk} (k : IntKind) : ∀ (l : List Int), RVL (fun (x : Int) u => RV Z (.int k) x u) l (l.map (Value.int k))
  | [] => rfl
  | x :: l => ⟨[.int k x], l.map (Value.int k), rfl, rfl, rvl_ints k l⟩
theorem vs_int {Z : Nat → Option ABlk} (k : IntKind) (n : Int) (ν : Nu) : VS Z ν (ofD (.int k) n) (.int k n) := by simp [ofD, VS, V1, CR]
theorem vs_ints {Z : Nat → Option ABlk} (k : IntKind) {n : Nat} {l : List Int} (h : l.length = n) (ν : Nu) : VS Z ν (ofD (.arr n (.int k)) l) (.agg (l.map (Value.int k)).toArray) :=
  ⟨_, rfl, h, rvl_ints k l⟩
end Go.Px
