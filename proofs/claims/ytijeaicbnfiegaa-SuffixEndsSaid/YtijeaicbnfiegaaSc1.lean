/-
  A part of the proof: what a piece of the program gives; conditions: those of each theorem.
-/
import Derived.Test.YtijeaicbnfiegaaSv1
set_option linter.unusedVariables false
namespace Go.Proofs.Ytijeaicbnfiegaa
open Go.Px Go.Ax
/-- Whether a text comes before another one. -/
def lexLt : List Int → List Int → Bool
  | _, [] => false
  | [], _ :: _ => true
  | a :: l, b :: m => if a = b then lexLt l m else decide (a < b)
/-- How much two texts have in common. -/
def lcp : List Int → List Int → Nat
  | a :: l, b :: m => if a = b then lcp l m + 1 else 0
  | _, _ => 0
theorem gt_eq {k : IntKind} {l : List Int} {i : Nat} (h : i < l.length) : gt (Sh.int k) l i = l[i] := by
  show (l[i]?).getD _ = _
  rw [List.getElem?_eq_getElem h]; rfl
theorem dropc {l : List Int} {i : Nat} (h : i < l.length) : l.drop i = l[i] :: l.drop (i + 1) := List.drop_eq_getElem_cons h
def preLim (n : Int) : Prop := 0 ≤ n
def ctLimited : Ctr := ⟨[.sl (.int .u8), .int .i64], fun x => preLim x.2.1, fun x => [.sl (.int .u8) (List.take x.2.1.toNat x.1)], fun _ => []⟩
theorem limited_run (b : List Int) (n : Int) (hp : preLim n) (R : List Item → PS → Prop) : sy tt G0 [] Try.f11.ntmps Try.f11.results.toList (QC ctLimited (b, n, ())) R 1000 [.code (bodyOf Try.f11)] (entry [.sl (.int .u8), .int .i64] (b, n, ())) := by
  unfold preLim at hp
  refine (vc_limited b n _ _).mpr (bc_of (fun h => ?_) (fun h => ?_))
  · have h := of_decide_eq_true h
    exact ⟨hp, by omega, QC.flat rfl rfl rfl⟩
  · have h := of_decide_eq_false h
    refine QC.flat ?_ rfl rfl
    show [SV.sl (.int .u8) (List.take n.toNat b)] = _
    rw [List.take_of_length_le (by omega)]
theorem limited_held : Held Try.prog G0 11 ctLimited := Held.run cx0 (fn := Try.f11) rfl rfl ⟨by decide, by decide⟩ fun x hp => limited_run x.1 x.2.1 hp _
def sfx (b : List Int) (n : Int) : List Int := if n < 0 then [] else b.drop n.toNat
def ctAt : Ctr := ⟨[.sl (.int .u8), .int .i64], fun _ => True, fun x => [.sl (.int .u8) (sfx x.1 x.2.1)], fun _ => []⟩
theorem QC.nils {ct : Ctr} {x : DL ct.args} {e : Sh} {l : List e.D} (h : ct.out x = [.sl e l]) (hl : l = []) (hr : ct.rows x = []) : QC ct x [.nils] [] :=
  ⟨fun _ => none, by rw [h]; exact ⟨_, _, rfl, .inr ⟨rfl, hl⟩, rfl⟩, by rw [hr]; trivial, fun _ _ _ e => by simp at e, by rw [hr]; rfl⟩
theorem at_run (b : List Int) (n : Int) (R : List Item → PS → Prop) : sy tt G0 [] Try.f30.ntmps Try.f30.results.toList (QC ctAt (b, n, ())) R 1000 [.code (bodyOf Try.f30)] (entry [.sl (.int .u8), .int .i64] (b, n, ())) := by
  refine (vc_suffixAt b n _ _).mpr (bc_of (fun h => ?_) (fun h => bc_of (fun h2 => ?_) (fun h2 => ?_)))
  · have h := of_decide_eq_true h
    exact ⟨rfl, QC.nils (e := .int .u8) (l := sfx b n) rfl (by rw [sfx, if_pos h]) rfl⟩
  · have h := of_decide_eq_false h
    have h2 : (b.length : Int) < n := of_decide_eq_true h2
    exact QC.nils (e := .int .u8) (l := sfx b n) rfl (by rw [sfx, if_neg h]; exact List.drop_eq_nil_of_le (by omega)) rfl
  · have h := of_decide_eq_false h
    have h2 : ¬ (b.length : Int) < n := of_decide_eq_false h2
    refine ⟨by omega, by omega, QC.flat ?_ rfl rfl⟩
    show [SV.sl (.int .u8) (sfx b n)] = _
    rw [sfx, if_neg h]
theorem at_held : Held Try.prog G0 30 ctAt := Held.run cx0 (fn := Try.f30) rfl rfl ⟨by decide, by decide⟩ fun x _ => at_run x.1 x.2.1 _
abbrev GD (f : Nat) (fn : Func) (Q : List SV → List (Nat × LB) → Prop) (it : List Item) (S : PS) : Prop := Px.Good Try.prog tt G0 f fn.ntmps fn.results.toList Q it S
theorem less_loop (a b : List Int) (ha : a.length < 2 ^ 62) : ∀ (m i : Nat), a.length - i ≤ m → i ≤ a.length → i ≤ b.length →
    GD 20 Try.f20 (fun rs _ => rs = [.bool (lexLt (a.drop i) (b.drop i))]) (hd Try.f20 0) ⟨[(0, .sl (.int .u8) a), (1, .sl (.int .u8) b), (5, .int .i64 (i : Int))], []⟩ := by
  intro m
  induction m with
  | zero =>
    intro i hm h1 h2
    refine sy_go cx0 (vc_lessL a b i _ _) (bc_of (fun h => ?_) (fun h => ?_))
    · have h := of_decide_eq_true h; omega
    · refine ⟨rfl, ?_⟩
      show [SV.bool _] = [SV.bool _]
      rw [List.drop_eq_nil_of_le (show a.length ≤ i by omega)]
      by_cases hb : i < b.length
      · rw [dropc hb, lexLt, decide_eq_true (by omega)]
      · rw [List.drop_eq_nil_of_le (show b.length ≤ i by omega), lexLt, decide_eq_false (by omega)]
  | succ m ih =>
    intro i hm h1 h2
    refine sy_go cx0 (vc_lessL a b i _ _) (bc_of (fun h => ?_) (fun h => ?_))
    · have h := of_decide_eq_true h
      have hia : i < a.length := by omega
      refine bc_of (fun h3 => ?_) (fun h3 => ?_)
      · have h3 : (i : Int) < b.length := of_decide_eq_true h3
        have hib : i < b.length := by omega
        have g1 : gt (Sh.int .u8) a (i : Int).toNat = a[i] := gt_eq hia
        have g2 : gt (Sh.int .u8) b (i : Int).toNat = b[i] := gt_eq hib
        rw [g1, g2]
        refine ⟨by omega, h, by omega, h3, bc_of (fun h4 => ?_) (fun h4 => ?_)⟩
        · have h4 := of_decide_eq_true h4
          refine ⟨by omega, h, by omega, h3, ?_⟩
          show [SV.bool _] = [SV.bool _]
          rw [dropc hia, dropc hib, lexLt, if_neg h4]
        · have h4 : a[i] = b[i] := by simpa using of_decide_eq_false h4
          have e : lexLt (a.drop i) (b.drop i) = lexLt (a.drop (i + 1)) (b.drop (i + 1)) := by rw [dropc hia, dropc hib, lexLt, if_pos h4]
          rw [e, IntWalk.i64_in ((i : Int) + 1) (by omega)]
          exact (ih (i + 1) (by omega) (by omega) (by omega)).only ⟨rfl, rfl, rfl, trivial⟩ trivial
      · have h3 : ¬ (i : Int) < b.length := of_decide_eq_false h3
        show [SV.bool _] = [SV.bool _]
        rw [List.drop_eq_nil_of_le (show b.length ≤ i by omega), decide_eq_false (by omega)]
        cases a.drop i <;> simp [lexLt]
    · have h := of_decide_eq_false h
      refine ⟨rfl, ?_⟩
      show [SV.bool _] = [SV.bool _]
      rw [List.drop_eq_nil_of_le (show a.length ≤ i by omega)]
      by_cases hb : i < b.length
      · rw [dropc hb, lexLt, decide_eq_true (by omega)]
      · rw [List.drop_eq_nil_of_le (show b.length ≤ i by omega), lexLt, decide_eq_false (by omega)]
def preTwo (a b : Nat) : Prop := a < 2 ^ 62 ∧ b < 2 ^ 62
abbrev slB : Sh := .sl (.int .u8)
def ctLess : Ctr := ⟨[slB, slB], fun x => preTwo (List.length x.1) (List.length x.2.1), fun x => [.bool (lexLt x.1 x.2.1)], fun _ => []⟩
theorem less_run (a b : List Int) (hp : preTwo a.length b.length) : sy tt G0 [] Try.f20.ntmps Try.f20.results.toList (QC ctLess (a, b, ())) (Px.Good Try.prog tt G0 20 Try.f20.ntmps Try.f20.results.toList (QC ctLess (a, b, ()))) 1000 [.code (bodyOf Try.f20)] (entry [slB, slB] (a, b, ())) := by
  refine (vc_less a b _ _).mpr ?_
  exact ((less_loop a b hp.1 _ 0 (Nat.le_refl _) (by omega) (by omega)).post fun rs blk hq => QC.flat (by rw [hq]; rfl) rfl (by rw [hq]; rfl)).only ⟨rfl, rfl, rfl, trivial⟩ trivial
theorem less_held : Held Try.prog G0 20 ctLess := Held.run cx0 (fn := Try.f20) rfl rfl ⟨by decide, by decide⟩ fun x hp => less_run x.1 x.2.1 hp
def ctLcp : Ctr := ⟨[slB, slB], fun x => preTwo (List.length x.1) (List.length x.2.1), fun x => [.int .i64 (lcp x.1 x.2.1 : Nat)], fun _ => []⟩
theorem lcp_nil (a : List Int) : lcp a [] = 0 := by cases a <;> rfl
theorem shared_loop (a b : List Int) (ha : a.length < 2 ^ 62) : ∀ (m i : Nat), a.length - i ≤ m → i ≤ a.length → i ≤ b.length →
    GD 21 Try.f21 (fun rs _ => rs = [.int .i64 ((i + lcp (a.drop i) (b.drop i) : Nat) : Int)]) (hd Try.f21 0) ⟨[(0, .sl (.int .u8) a), (1, .sl (.int .u8) b), (5, .int .i64 (i : Int))], []⟩ := by
  intro m
  induction m with
  | zero =>
    intro i hm h1 h2
    refine sy_go cx0 (vc_sharedL a b i _ _) (bc_of (fun h => ?_) (fun h => ?_))
    · have h := of_decide_eq_true h; omega
    · refine ⟨rfl, rfl, ?_⟩
      show [SV.int _ _] = [SV.int _ _]
      rw [List.drop_eq_nil_of_le (show a.length ≤ i by omega)]
      rfl
  | succ m ih =>
    intro i hm h1 h2
    refine sy_go cx0 (vc_sharedL a b i _ _) (bc_of (fun h => ?_) (fun h => ?_))
    · have h := of_decide_eq_true h
      have hia : i < a.length := by omega
      refine bc_of (fun h3 => ?_) (fun h3 => ?_)
      · have h3 : (i : Int) < b.length := of_decide_eq_true h3
        have hib : i < b.length := by omega
        have g1 : gt (Sh.int .u8) a (i : Int).toNat = a[i] := gt_eq hia
        have g2 : gt (Sh.int .u8) b (i : Int).toNat = b[i] := gt_eq hib
        rw [g1, g2]
        refine ⟨by omega, h, by omega, h3, bc_of (fun h4 => ?_) (fun h4 => ?_)⟩
        · have h4 : a[i] = b[i] := of_decide_eq_true h4
          have e : i + lcp (a.drop i) (b.drop i) = (i + 1) + lcp (a.drop (i + 1)) (b.drop (i + 1)) := by rw [dropc hia, dropc hib, lcp, if_pos h4]; omega
          rw [e, IntWalk.i64_in ((i : Int) + 1) (by omega)]
          exact (ih (i + 1) (by omega) (by omega) (by omega)).only ⟨rfl, rfl, rfl, trivial⟩ trivial
        · have h4 : ¬ a[i] = b[i] := of_decide_eq_false h4
          show [SV.int _ _] = [SV.int _ _]
          rw [dropc hia, dropc hib, lcp, if_neg h4]
          rfl
      · have h3 : ¬ (i : Int) < b.length := of_decide_eq_false h3
        refine ⟨rfl, ?_⟩
        show [SV.int _ _] = [SV.int _ _]
        rw [List.drop_eq_nil_of_le (show b.length ≤ i by omega), lcp_nil]
        rfl
    · have h := of_decide_eq_false h
      refine ⟨rfl, rfl, ?_⟩
      show [SV.int _ _] = [SV.int _ _]
      rw [List.drop_eq_nil_of_le (show a.length ≤ i by omega)]
      rfl
theorem shared_run (a b : List Int) (hp : preTwo a.length b.length) : sy tt G0 [] Try.f21.ntmps Try.f21.results.toList (QC ctLcp (a, b, ())) (Px.Good Try.prog tt G0 21 Try.f21.ntmps Try.f21.results.toList (QC ctLcp (a, b, ()))) 1000 [.code (bodyOf Try.f21)] (entry [slB, slB] (a, b, ())) := by
  refine (vc_shared a b _ _).mpr ?_
  exact ((shared_loop a b hp.1 _ 0 (Nat.le_refl _) (by omega) (by omega)).post fun rs blk hq => QC.flat (by rw [hq, Nat.zero_add]; rfl) rfl (by rw [hq]; rfl)).only ⟨rfl, rfl, rfl, trivial⟩ trivial
theorem shared_held : Held Try.prog G0 21 ctLcp := Held.run cx0 (fn := Try.f21) rfl rfl ⟨by decide, by decide⟩ fun x hp => shared_run x.1 x.2.1 hp
theorem equal_loop (a b : List Int) (ha : a.length < 2 ^ 62) : ∀ (m i : Nat), a.length - i ≤ m → i ≤ a.length → i ≤ b.length →
    GD 29 Try.f29 (fun rs _ => rs = [.int .i64 ((i + lcp (a.drop i) (b.drop i) : Nat) : Int)]) (hd Try.f29 0) ⟨[(0, .sl (.int .u8) a), (1, .sl (.int .u8) b), (5, .int .i64 (i : Int))], []⟩ := by
  intro m
  induction m with
  | zero =>
    intro i hm h1 h2
    refine sy_go cx0 (vc_equalL a b i _ _) (bc_of (fun h => ?_) (fun h => ?_))
    · have h := of_decide_eq_true h; omega
    · refine ⟨rfl, rfl, ?_⟩
      show [SV.int _ _] = [SV.int _ _]
      rw [List.drop_eq_nil_of_le (show a.length ≤ i by omega)]
      rfl
  | succ m ih =>
    intro i hm h1 h2
    refine sy_go cx0 (vc_equalL a b i _ _) (bc_of (fun h => ?_) (fun h => ?_))
    · have h := of_decide_eq_true h
      have hia : i < a.length := by omega
      refine bc_of (fun h3 => ?_) (fun h3 => ?_)
      · have h3 : (i : Int) < b.length := of_decide_eq_true h3
        have hib : i < b.length := by omega
        have g1 : gt (Sh.int .u8) a (i : Int).toNat = a[i] := gt_eq hia
        have g2 : gt (Sh.int .u8) b (i : Int).toNat = b[i] := gt_eq hib
        rw [g1, g2]
        refine ⟨by omega, h, by omega, h3, bc_of (fun h4 => ?_) (fun h4 => ?_)⟩
        · have h4 : a[i] = b[i] := of_decide_eq_true h4
          have e : i + lcp (a.drop i) (b.drop i) = (i + 1) + lcp (a.drop (i + 1)) (b.drop (i + 1)) := by rw [dropc hia, dropc hib, lcp, if_pos h4]; omega
          rw [e, IntWalk.i64_in ((i : Int) + 1) (by omega)]
          exact (ih (i + 1) (by omega) (by omega) (by omega)).only ⟨rfl, rfl, rfl, trivial⟩ trivial
        · have h4 : ¬ a[i] = b[i] := of_decide_eq_false h4
          show [SV.int _ _] = [SV.int _ _]
          rw [dropc hia, dropc hib, lcp, if_neg h4]
          rfl
      · have h3 : ¬ (i : Int) < b.length := of_decide_eq_false h3
        refine ⟨rfl, ?_⟩
        show [SV.int _ _] = [SV.int _ _]
        rw [List.drop_eq_nil_of_le (show b.length ≤ i by omega), lcp_nil]
        rfl
    · have h := of_decide_eq_false h
      refine ⟨rfl, rfl, ?_⟩
      show [SV.int _ _] = [SV.int _ _]
      rw [List.drop_eq_nil_of_le (show a.length ≤ i by omega)]
      rfl
theorem equal_run (a b : List Int) (hp : preTwo a.length b.length) : sy tt G0 [] Try.f29.ntmps Try.f29.results.toList (QC ctLcp (a, b, ())) (Px.Good Try.prog tt G0 29 Try.f29.ntmps Try.f29.results.toList (QC ctLcp (a, b, ()))) 1000 [.code (bodyOf Try.f29)] (entry [slB, slB] (a, b, ())) := by
  refine (vc_equal a b _ _).mpr ?_
  exact ((equal_loop a b hp.1 _ 0 (Nat.le_refl _) (by omega) (by omega)).post fun rs blk hq => QC.flat (by rw [hq, Nat.zero_add]; rfl) rfl (by rw [hq]; rfl)).only ⟨rfl, rfl, rfl, trivial⟩ trivial
theorem equal_held : Held Try.prog G0 29 ctLcp := Held.run cx0 (fn := Try.f29) rfl rfl ⟨by decide, by decide⟩ fun x hp => equal_run x.1 x.2.1 hp
def C1 : CV := [(11, .inl ctLimited), (30, .inl ctAt), (20, .inl ctLess), (21, .inl ctLcp), (29, .inl ctLcp)]
theorem cx1 : CxOK Try.prog tt G0 C1 := ((((cx0.cons equal_held (fn := Try.f29) rfl rfl rfl).cons shared_held (fn := Try.f21) rfl rfl rfl).cons less_held (fn := Try.f20) rfl rfl rfl).cons at_held (fn := Try.f30) rfl rfl rfl).cons limited_held (fn := Try.f11) rfl rfl rfl
end Go.Proofs.Ytijeaicbnfiegaa
