/-
  A part of the proof: what pieces of the program give; conditions: those of each theorem.
-/
import Derived.Test.YtdlbcbgkpmpjlaaDoorQ1
import Derived.KernelRfl
set_option linter.unusedVariables false
set_option linter.unusedSimpArgs false
namespace Go.Proofs.YtdlbcbgkpmpjlaaDoor
open Go.Px Go.Ax
set_option maxRecDepth 100000
attribute [local irreducible] Go.Px.sy Go.Px.syE
/-! Symbols -/
def lenS (l : List OpT) : Int := (l.map fun x => x.2.2.1).sum
theorem chk_ok {m N : Int} : ∀ {l : List OpT} {left i : Int}, (chkF m N l left i).2 = 0 → 0 ≤ left → (∀ x ∈ l, isRB x m = true) ∧ lenS l = left
  | [], left, i, h, h0 => by
    refine ⟨fun x hx => by simp at hx, ?_⟩
    simp only [chkF] at h
    split at h
    · cases h
    · show (0 : Int) = left; omega
  | x :: l, left, i, h, h0 => by
    simp only [chkF] at h
    split at h
    · cases h
    · rename_i h1
      split at h
      · cases h
      · rename_i h2
        have hr : isRB x m = true := by simpa using h1
        have hx := isRB_len hr
        obtain ⟨k1, k2⟩ := chk_ok h (by omega)
        refine ⟨fun y hy => ?_, ?_⟩
        · rcases List.mem_cons.1 hy with rfl | hy
          · exact hr
          · exact k1 y hy
        · simp only [lenS, List.map_cons, List.sum_cons] at k2 ⊢; omega
theorem isRB_kind {x : OpT} {m : Int} (h : isRB x m = true) : (x.1 = 1 ∨ x.1 = 2 ∨ x.1 = 3 ∨ x.1 = 4) ∧ (cntO x.1.toNat x : Int) = x.2.2.1 := by
  have hl := isRB_len h
  unfold isRB kR at h
  simp only [Bool.and_eq_true, decide_eq_true_eq] at h
  obtain ⟨_, _, h⟩ := h
  obtain ⟨k, f, n, b, d⟩ := x
  simp only at h hl ⊢
  split at h
  · rename_i e; subst e; exact ⟨.inl rfl, by show (n.toNat : Int) = n; omega⟩
  · split at h
    · rename_i e; subst e
      simp only [rB, Bool.and_eq_true, decide_eq_true_eq] at h
      exact ⟨.inr (.inl rfl), h.2.2⟩
    · split at h
      · rename_i e; subst e; exact ⟨.inr (.inr (.inl rfl)), by show (n.toNat : Int) = n; omega⟩
      · split at h
        · rename_i e; subst e
          simp only [rB, Bool.and_eq_true, decide_eq_true_eq] at h
          exact ⟨.inr (.inr (.inr rfl)), h.2.2⟩
        · cases h
theorem lenS_cons (x : OpT) (l : List OpT) : lenS (x :: l) = x.2.2.1 + lenS l := by simp only [lenS, List.map_cons, List.sum_cons]
theorem lenS_pos {m : Int} : ∀ {l : List OpT}, (∀ x ∈ l, isRB x m = true) → 0 ≤ lenS l
  | [], _ => Int.le_refl 0
  | x :: l, h => by
    have h1 := isRB_len (h x (by simp))
    have h2 := lenS_pos (l := l) fun y hy => h y (by simp [hy])
    simp only [lenS, List.map_cons, List.sum_cons] at h2 ⊢; omega
def symF : List OpT → List SyT
  | [] => []
  | x :: l => symsO x.1.toNat x ++ symF l
def symV (p : PaT) : List SyT × Int := if (chkV p).2 = 0 then (symF p.2.2.2, 0) else ([], (chkV p).2)
def ctSym : Ctr := ⟨[paS], fun _ => True, fun x => [.win true syS 0 0 (symV x.1).1.length, .int .i64 (symV x.1).2], fun x => [.row 34 syS (symV x.1).1]⟩
abbrev SQ (p : PaT) : List SV → List (Nat × LB) → Prop := QC ctSym (p, ())
theorem chkV_ok {p : PaT} (h : (chkV p).2 = 0) : (∀ x ∈ p.2.2.2, isRB x p.2.1 = true) ∧ lenS p.2.2.2 = p.2.2.1 ∧ (0 ≤ p.2.2.1 ∧ p.2.2.1 ≤ 65536) ∧ p.2.2.2.length ≤ 4096 := by
  unfold chkV at h
  split at h
  · rename_i hg
    have hs : 0 ≤ p.2.2.1 ∧ p.2.2.1 ≤ 65536 := by
      have := hg.2.1
      unfold szB at this
      simpa only [Bool.and_eq_true, decide_eq_true_eq] using this
    obtain ⟨h1, h2⟩ := chk_ok h hs.1
    exact ⟨h1, h2, hs, hg.2.2⟩
  · cases h
theorem sym_loop (li : Bool) (m o : Int) (l : List OpT) (hc : (chkV (li, m, o, l)).2 = 0) : ∀ (k i : Nat) (s : List SyT), l.length - i = k → i ≤ l.length → (s.length : Int) + lenS (l.drop i) ≤ 65536 → s ++ symF (l.drop i) = symF l →
    GD 8 Tryd.f8 (SQ (li, m, o, l)) (hd Tryd.f8 0) ⟨[(1, .ptr 1 0), (6, .win true syS 19 0 s.length), (21, .sl opS l), (22, .int .i64 l.length), (23, .int .i64 (i : Nat))], [(1, .var [.bool li, .int .i64 m, .int .i64 o, .sl opS l]), (19, .row 34 syS s)]⟩ := by
  obtain ⟨hr, hsum, hob, hlen⟩ := chkV_ok hc
  simp only at hr hsum hob hlen
  intro k
  induction k with
  | zero =>
    intro i s hk hi hb hs
    have hi : i = l.length := by omega
    subst hi
    refine sy_sound ex1 _ _ _ ((vc_symsL1 li m o l s _ _ _).mpr ?_)
    rw [decide_eq_false (by omega), bc_f]
    rw [List.drop_length, symF, List.append_nil] at hs
    have hv : symV (li, m, o, l) = (s, 0) := by unfold symV; rw [if_pos hc, hs]
    refine qc_rowI (e := syS) (et := 34) (a := 19) (z := 0) (xs := s) ?_ ?_ rfl rfl rfl
    · show [_, _] = _; rw [hv]
    · show [_] = _; rw [hv]
  | succ k ih =>
    intro i s hk hi hb hs
    have hil : i < l.length := by omega
    have hx := hr l[i] (List.getElem_mem hil)
    have hk2 := isRB_kind hx
    have hl2 := isRB_len hx
    rw [dropc hil] at hb hs
    rw [lenS_cons] at hb
    have hb2 : (s.length : Int) + (l[i].2.2.1 + lenS (l.drop (i + 1))) ≤ 65536 := hb
    have hpos : 0 ≤ lenS (l.drop (i + 1)) := lenS_pos fun y hy => hr y (List.mem_of_mem_drop hy)
    have hcl : (symsO l[i].1.toNat l[i]).length = cntO l[i].1.toNat l[i] := by unfold symsO; exact gen_len _ _ _
    have hpre : preA l[i].1.toNat l[i] s := ⟨by omega, by omega, by omega⟩
    have nx : GD 8 Tryd.f8 (SQ (li, m, o, l)) (hd Tryd.f8 0) ⟨[(1, .ptr 1 0), (6, .win true syS 19 0 (s ++ symsO l[i].1.toNat l[i]).length), (21, .sl opS l), (22, .int .i64 l.length), (23, .int .i64 ((i + 1 : Nat) : Int))], [(1, .var [.bool li, .int .i64 m, .int .i64 o, .sl opS l]), (19, .row 34 syS (s ++ symsO l[i].1.toNat l[i]))]⟩ :=
      ih (i + 1) _ (by omega) (by omega) (by rw [List.length_append]; omega) (by rw [List.append_assoc]; exact hs)
    have wi : IntKind.i64.wrap ((i : Int) + 1) = ((i + 1 : Nat) : Int) := by rw [IntWalk.i64_in _ (by omega)]; omega
    rcases hk2.1 with e | e | e | e
    · rw [e] at hpre nx
      refine sy_sound ex1 _ _ _ ((vc_symsL1 li m o l s i _ _).mpr ?_)
      rw [decide_eq_true (show (i : Int) < (l.length : Int) by omega), bc_t, Int.toNat_natCast, gtO_at hil, wi]
      exact ⟨by omega, by omega, e, rfl, hpre, nx.onlyR [(19, 1122880)] rfl ⟨rfl, rfl, rfl, rfl, rfl, trivial⟩ ⟨rfl, rfl, trivial⟩⟩
    · rw [e] at hpre nx
      refine sy_sound ex2 _ _ _ ((vc_symsL2 li m o l s i _ _).mpr ?_)
      rw [decide_eq_true (show (i : Int) < (l.length : Int) by omega), bc_t, Int.toNat_natCast, gtO_at hil, wi]
      exact ⟨by omega, by omega, e, rfl, hpre, nx.onlyR [(19, 1122880)] rfl ⟨rfl, rfl, rfl, rfl, rfl, trivial⟩ ⟨rfl, rfl, trivial⟩⟩
    · rw [e] at hpre nx
      refine sy_sound ex3 _ _ _ ((vc_symsL3 li m o l s i _ _).mpr ?_)
      rw [decide_eq_true (show (i : Int) < (l.length : Int) by omega), bc_t, Int.toNat_natCast, gtO_at hil, wi]
      exact ⟨by omega, by omega, e, rfl, hpre, nx.onlyR [(19, 1122880)] rfl ⟨rfl, rfl, rfl, rfl, rfl, trivial⟩ ⟨rfl, rfl, trivial⟩⟩
    · rw [e] at hpre nx
      refine sy_sound ex4 _ _ _ ((vc_symsL4 li m o l s i _ _).mpr ?_)
      rw [decide_eq_true (show (i : Int) < (l.length : Int) by omega), bc_t, Int.toNat_natCast, gtO_at hil, wi]
      exact ⟨by omega, by omega, e, rfl, hpre, nx.onlyR [(19, 1122880)] rfl ⟨rfl, rfl, rfl, rfl, rfl, trivial⟩ ⟨rfl, rfl, trivial⟩⟩
theorem sym_held : Held Tryd.prog G0 8 ctSym := by
  refine Held.run cxA (fn := Tryd.f8) rfl rfl ⟨by decide, by decide⟩ ?_
  rintro ⟨⟨li, m, o, l⟩, ⟨⟩⟩ _
  refine (vc_syms li m o l _ _).mpr ⟨trivial, bc_of (fun h => ?_) (fun h => ?_)⟩
  · have h : (chkV (li, m, o, l)).2 ≠ 0 := of_decide_eq_true h
    have hv : symV (li, m, o, l) = ([], (chkV (li, m, o, l)).2) := by unfold symV; rw [if_neg h]
    refine qc_nilI (e := syS) (et := 34) (z := (chkV (li, m, o, l)).2) ?_ ?_ rfl (by decide)
    · show [_, _] = _; rw [hv]; rfl
    · show [_] = _; rw [hv]
  · have h : ¬ (chkV (li, m, o, l)).2 ≠ 0 := of_decide_eq_false h
    have h : (chkV (li, m, o, l)).2 = 0 := by simpa using h
    obtain ⟨hr, hsum, hob, hlen⟩ := chkV_ok h
    simp only at hr hsum hob hlen
    refine ⟨Int.le_refl 0, hob.1, ?_, ?_, ?_⟩
    · exact Int.lt_of_le_of_lt hob.2 (by decide)
    · exact Int.le_trans (Int.mul_le_mul_of_nonneg_left hob.2 (by decide)) (by decide)
    · exact (sym_loop li m o l h _ 0 [] rfl (by omega) (by rw [List.drop_zero, hsum]; simpa using hob.2) rfl).only ⟨rfl, rfl, rfl, rfl, rfl, trivial⟩ ⟨rfl, rfl, trivial⟩
/-! Cost -/
def costF : Int → List OpT → Int
  | s, [] => s
  | s, x :: l => costF (IntKind.i64.wrap (s + cN x.1.toNat x)) l
def k14 (x : OpT) : Prop := x.1 = 1 ∨ x.1 = 2 ∨ x.1 = 3 ∨ x.1 = 4
def ctCost : Ctr := ⟨[paS], fun x => (∀ y ∈ x.1.2.2.2, k14 y) ∧ List.length x.1.2.2.2 < 1099511627776, fun x => [.int .i64 (costF 0 x.1.2.2.2)], fun _ => []⟩
theorem cost_loop (li : Bool) (m o : Int) (l : List OpT) (hr : ∀ y ∈ l, k14 y) (hl : l.length < 1099511627776) : ∀ (k i : Nat) (s : Int), l.length - i = k → i ≤ l.length →
    GD 12 Tryd.f12 (fun rs _ => rs = [.int .i64 (costF s (l.drop i))]) (hd Tryd.f12 0) ⟨[(1, .ptr 1 0), (3, .int .i64 s), (7, .sl opS l), (8, .int .i64 l.length), (9, .int .i64 (i : Nat))], [(1, .var [.bool li, .int .i64 m, .int .i64 o, .sl opS l])]⟩ := by
  intro k
  induction k with
  | zero =>
    intro i s hk hi
    have hi : i = l.length := by omega
    subst hi
    refine sy_sound dx1 _ _ _ ((vc_costL1 li m o l s _ _ _).mpr ?_)
    rw [decide_eq_false (by omega), bc_f, List.drop_length]
    rfl
  | succ k ih =>
    intro i s hk hi
    have hil : i < l.length := by omega
    have hx := hr l[i] (List.getElem_mem hil)
    have nx := ih (i + 1) (IntKind.i64.wrap (s + cN l[i].1.toNat l[i])) (by omega) (by omega)
    rw [dropc hil, costF]
    have wi : IntKind.i64.wrap ((i : Int) + 1) = ((i + 1 : Nat) : Int) := by rw [IntWalk.i64_in _ (by omega)]; omega
    rcases hx with e | e | e | e
    · rw [e] at nx
      rw [e]
      refine sy_sound dx1 _ _ _ ((vc_costL1 li m o l s i _ _).mpr ?_)
      rw [decide_eq_true (show (i : Int) < (l.length : Int) by omega), bc_t, Int.toNat_natCast, gtO_at hil, wi]
      exact ⟨by omega, by omega, e, trivial, nx.only ⟨rfl, rfl, rfl, rfl, rfl, trivial⟩ ⟨rfl, trivial⟩⟩
    · rw [e] at nx
      rw [e]
      refine sy_sound dx2 _ _ _ ((vc_costL2 li m o l s i _ _).mpr ?_)
      rw [decide_eq_true (show (i : Int) < (l.length : Int) by omega), bc_t, Int.toNat_natCast, gtO_at hil, wi]
      exact ⟨by omega, by omega, e, trivial, nx.only ⟨rfl, rfl, rfl, rfl, rfl, trivial⟩ ⟨rfl, trivial⟩⟩
    · rw [e] at nx
      rw [e]
      refine sy_sound dx3 _ _ _ ((vc_costL3 li m o l s i _ _).mpr ?_)
      rw [decide_eq_true (show (i : Int) < (l.length : Int) by omega), bc_t, Int.toNat_natCast, gtO_at hil, wi]
      exact ⟨by omega, by omega, e, trivial, nx.only ⟨rfl, rfl, rfl, rfl, rfl, trivial⟩ ⟨rfl, trivial⟩⟩
    · rw [e] at nx
      rw [e]
      refine sy_sound dx4 _ _ _ ((vc_costL4 li m o l s i _ _).mpr ?_)
      rw [decide_eq_true (show (i : Int) < (l.length : Int) by omega), bc_t, Int.toNat_natCast, gtO_at hil, wi]
      exact ⟨by omega, by omega, e, trivial, nx.only ⟨rfl, rfl, rfl, rfl, rfl, trivial⟩ ⟨rfl, trivial⟩⟩
theorem cost_held : Held Tryd.prog G0 12 ctCost := by
  refine Held.run cxM (fn := Tryd.f12) rfl rfl ⟨by decide, by decide⟩ ?_
  rintro ⟨⟨li, m, o, l⟩, ⟨⟩⟩ hp
  obtain ⟨h1, h2⟩ : (∀ y ∈ l, k14 y) ∧ l.length < 1099511627776 := hp
  refine (vc_cost li m o l _ _).mpr ?_
  exact ((cost_loop li m o l h1 h2 _ 0 0 rfl (by omega)).post fun rs blk hq => QC.flat (by rw [hq]; rfl) rfl (by rw [hq]; rfl)).only ⟨rfl, rfl, rfl, rfl, rfl, trivial⟩ ⟨rfl, trivial⟩
/-! Whole -/
def whV (n : Int) : PaT := (false, n, n, if 0 < n then [((1, 0, n, 0, []) : OpT)] else [])
def ctWh : Ctr := ⟨[iI], fun _ => True, fun x => [paV (whV x.1)], fun _ => []⟩
def ctWh1 : Ctr := ⟨[iI], fun x => 0 < x.1, fun x => [.agg [.bool false, .int .i64 x.1, .int .i64 x.1, .win true opS 0 0 1]], fun x => [.row 28 opS [((1, 0, x.1, 0, []) : OpT)]]⟩
def ctWh0 : Ctr := ⟨[iI], fun x => ¬ 0 < x.1, fun x => [paV (whV x.1)], fun _ => []⟩
theorem wh1_held : Held Tryd.prog G0 13 ctWh1 := by
  refine Held.run cx0 (fn := Tryd.f13) rfl rfl ⟨by decide, by decide⟩ ?_
  rintro ⟨n, ⟨⟩⟩ hp
  replace hp : 0 < n := hp
  refine (vc_whole n _ _).mpr ?_
  rw [decide_eq_true hp, bc_t]
  refine ⟨fun i => if i = 0 then some 11 else none, ?_, ?_, fun i j b h1 h2 => ?_, rfl⟩
  · exact ⟨_, _, rfl, ⟨_, rfl, _, _, rfl, rfl, _, _, rfl, rfl, _, _, rfl, rfl, _, _, rfl, .inl ⟨true, 11, rfl, rfl, fun h => h⟩, rfl⟩, rfl⟩
  · exact ⟨.inl ⟨11, rfl, rfl⟩, trivial⟩
  · simp only at h1 h2
    split at h1
    · split at h2
      · omega
      · cases h2
    · cases h1
theorem wh0_held : Held Tryd.prog G0 13 ctWh0 := by
  refine Held.run cx0 (fn := Tryd.f13) rfl rfl ⟨by decide, by decide⟩ ?_
  rintro ⟨n, ⟨⟩⟩ hp
  replace hp : ¬ 0 < n := hp
  refine (vc_whole n _ _).mpr ?_
  rw [decide_eq_false hp, bc_f]
  refine QC.mt ?_ rfl
  show MtL _ [paV (whV n)] _
  unfold whV
  rw [if_neg hp]
  exact ⟨_, _, rfl, ⟨_, rfl, _, _, rfl, rfl, _, _, rfl, rfl, _, _, rfl, rfl, _, _, rfl, .inr ⟨rfl, rfl⟩, rfl⟩, rfl⟩
theorem wh_held : Held Tryd.prog G0 13 ctWh := fun x _ => by
  by_cases h : 0 < x.1
  · have e := (wh1_held.frz (fun x hp => ⟨by simp [ctWh1, inL, inS], trivial⟩)) x h
    have hv : [paV (whV x.1)] = frzRs 0 (ctWh1.rows x) (ctWh1.out x) := by
      unfold whV; rw [if_pos h]; rfl
    show _
    intro base M args args' w cs Z H h1 h2 h3 h4 h5
    have := e base M args args' w cs Z H h1 h2 h3 h4 h5
    simp only [Ctr.frz, ctWh] at this ⊢
    rw [hv]
    exact this
  · exact wh0_held x h
end Go.Proofs.YtdlbcbgkpmpjlaaDoor
namespace Go.Proofs.YtdlbcbgkpmpjlaaDoor
open Go.Px Go.Ax
set_option maxRecDepth 100000
def CP : CV := [(29, .inl ctRun)]
theorem cxP : CxOK Tryd.prog tt G0 CP := cx0.cons run_held (fn := Tryd.f29) rfl rfl rfl
def CS : CV := [(22, .inl ctSO)]
theorem cxS : CxOK Tryd.prog tt G0 CS := cx0.cons so_held (fn := Tryd.f22) rfl rfl rfl
set_option maxRecDepth 100000
theorem vc_plain (old : List Int) (m : Int) (l : List SyT) (Q : List SV → List (Nat × LB) → Prop) (R : List Item → PS → Prop) : sy tt G0 CP Tryd.f20.ntmps Tryd.f20.results.toList Q R 1000 [.code (bodyOf Tryd.f20)] (entry [.sl uB, iI, .sl syS] (old, m, l, ())) =
    (bc (decide ((↑old.length : Int) ≠ m)) (Q [SV.nils, SV.int IntKind.i64 (61 : Int)] []) (ctRun.pre (old, l, ()) ∧
 Q [SV.win true uB (1057344 : Nat) (0 : Nat) (runV old l).fst.length, SV.int IntKind.i64 (runV old l).snd] [((1057344 : Nat), LB.row (5 : Nat) uB (runV old l).fst)])) := by kernel_rfl
theorem vc_same (li li2 : Bool) (m o m2 o2 : Int) (l l2 : List OpT) (Q : List SV → List (Nat × LB) → Prop) (R : List Item → PS → Prop) : sy tt G0 CS Tryd.f11.ntmps Tryd.f11.results.toList Q R 1000 [.code (bodyOf Tryd.f11)] (entry [paS, paS] ((li, m, o, l), (li2, m2, o2, l2), ())) =
    (bc (!li == li2) (true = true ∧
 true = true ∧
 true = true ∧
 Q [SV.bool false] [((2 : Nat), LB.var [SV.bool li, SV.int IntKind.i64 m, SV.int IntKind.i64 o, SV.sl opS l]), ((3 : Nat), LB.var [SV.bool li2, SV.int IntKind.i64 m2, SV.int IntKind.i64 o2, SV.sl opS l2])]) (bc (bif false then true else decide (m ≠ m2)) (true = true ∧
 true = true ∧
 Q [SV.bool false] [((2 : Nat), LB.var [SV.bool li, SV.int IntKind.i64 m, SV.int IntKind.i64 o, SV.sl opS l]), ((3 : Nat), LB.var [SV.bool li2, SV.int IntKind.i64 m2, SV.int IntKind.i64 o2, SV.sl opS l2])]) (bc (bif false then true else decide (o ≠ o2)) (true = true ∧
 Q [SV.bool false] [((2 : Nat), LB.var [SV.bool li, SV.int IntKind.i64 m, SV.int IntKind.i64 o, SV.sl opS l]), ((3 : Nat), LB.var [SV.bool li2, SV.int IntKind.i64 m2, SV.int IntKind.i64 o2, SV.sl opS l2])]) (bc (bif false then true else decide ((↑l.length : Int) ≠ (↑l2.length : Int))) (Q [SV.bool false] [((2 : Nat), LB.var [SV.bool li, SV.int IntKind.i64 m, SV.int IntKind.i64 o, SV.sl opS l]), ((3 : Nat), LB.var [SV.bool li2, SV.int IntKind.i64 m2, SV.int IntKind.i64 o2, SV.sl opS l2])]) (R (hd Tryd.f11 (0 : Nat)) { env := [((0 : Nat), SV.agg [SV.bool li, SV.int IntKind.i64 m, SV.int IntKind.i64 o, SV.sl opS l]), ((1 : Nat), SV.agg [SV.bool li2, SV.int IntKind.i64 m2, SV.int IntKind.i64 o2, SV.sl opS l2]), ((2 : Nat), SV.ptr (2 : Nat) (0 : Nat)), ((3 : Nat), SV.ptr (3 : Nat) (0 : Nat)), ((4 : Nat), SV.bool false), ((5 : Nat), SV.int IntKind.i64 (0 : Int)), ((6 : Nat), SV.ptr (2 : Nat) (0 : Nat)), ((7 : Nat), SV.bool li), ((8 : Nat), SV.ptr (3 : Nat) (0 : Nat)), ((9 : Nat), SV.bool li2), ((10 : Nat), SV.bool !li == li2), ((11 : Nat), SV.bool false), ((12 : Nat), SV.ptr (2 : Nat) (1 : Nat)), ((13 : Nat), SV.int IntKind.i64 m), ((14 : Nat), SV.ptr (3 : Nat) (1 : Nat)), ((15 : Nat), SV.int IntKind.i64 m2), ((16 : Nat), SV.bool (decide (m ≠ m2))), ((17 : Nat), SV.bool (bif false then true else decide (m ≠ m2))), ((18 : Nat), SV.bool false), ((19 : Nat), SV.ptr (2 : Nat) (2 : Nat)), ((20 : Nat), SV.int IntKind.i64 o), ((21 : Nat), SV.ptr (3 : Nat) (2 : Nat)), ((22 : Nat), SV.int IntKind.i64 o2), ((23 : Nat), SV.bool (decide (o ≠ o2))), ((24 : Nat), SV.bool (bif false then true else decide (o ≠ o2))), ((25 : Nat), SV.bool false), ((26 : Nat), SV.ptr (2 : Nat) (3 : Nat)), ((27 : Nat), SV.sl opS l), ((28 : Nat), SV.int IntKind.i64 (↑l.length : Int)), ((29 : Nat), SV.ptr (3 : Nat) (3 : Nat)), ((30 : Nat), SV.sl opS l2), ((31 : Nat), SV.int IntKind.i64 (↑l2.length : Int)), ((32 : Nat), SV.bool (decide ((↑l.length : Int) ≠ (↑l2.length : Int)))), ((33 : Nat), SV.bool (bif false then true else decide ((↑l.length : Int) ≠ (↑l2.length : Int))))], blk := [((2 : Nat), LB.var [SV.bool li, SV.int IntKind.i64 m, SV.int IntKind.i64 o, SV.sl opS l]), ((3 : Nat), LB.var [SV.bool li2, SV.int IntKind.i64 m2, SV.int IntKind.i64 o2, SV.sl opS l2])] }))))) := by kernel_rfl
theorem vc_sameL (li li2 : Bool) (m o m2 o2 : Int) (l l2 : List OpT) (i : Nat) (Q : List SV → List (Nat × LB) → Prop) (R : List Item → PS → Prop) : sy tt G0 CS Tryd.f11.ntmps Tryd.f11.results.toList Q R 1000 (hd Tryd.f11 0) ⟨[(2, .ptr 2 0), (3, .ptr 3 0), (5, .int .i64 (i : Nat))], [(2, .var [.bool li, .int .i64 m, .int .i64 o, .sl opS l]), (3, .var [.bool li2, .int .i64 m2, .int .i64 o2, .sl opS l2])]⟩ =
    (bc (decide ((↑i : Int) < (↑l.length : Int))) ((0 : Int) ≤ (↑i : Int) ∧
 (↑i : Int) < (↑l.length : Int) ∧
 (0 : Int) ≤ (↑i : Int) ∧
 (↑i : Int) < (↑l2.length : Int) ∧
 ctSO.pre ((gtO l (↑i : Int).toNat), (gtO l2 (↑i : Int).toNat), ()) ∧
 bc (!soB (gtO l (↑i : Int).toNat) (gtO l2 (↑i : Int).toNat)) (Q [SV.bool false] [((2 : Nat), LB.var [SV.bool li, SV.int IntKind.i64 m, SV.int IntKind.i64 o, SV.sl opS l]), ((3 : Nat), LB.var [SV.bool li2, SV.int IntKind.i64 m2, SV.int IntKind.i64 o2, SV.sl opS l2])]) (R (hd Tryd.f11 (0 : Nat)) { env := [((2 : Nat), SV.ptr (2 : Nat) (0 : Nat)), ((3 : Nat), SV.ptr (3 : Nat) (0 : Nat)), ((5 : Nat), SV.int IntKind.i64 (IntKind.i64.wrap ((↑i : Int) + (1 : Int)))), ((34 : Nat), SV.int IntKind.i64 (↑i : Int)), ((35 : Nat), SV.ptr (2 : Nat) (3 : Nat)), ((36 : Nat), SV.sl opS l), ((37 : Nat), SV.int IntKind.i64 (↑l.length : Int)), ((38 : Nat), SV.bool (decide ((↑i : Int) < (↑l.length : Int)))), ((39 : Nat), SV.int IntKind.i64 (↑i : Int)), ((40 : Nat), SV.int IntKind.i64 (IntKind.i64.wrap ((↑i : Int) + (1 : Int)))), ((41 : Nat), SV.ptr (2 : Nat) (3 : Nat)), ((42 : Nat), SV.sl opS l), ((43 : Nat), SV.int IntKind.i64 (↑i : Int)), ((44 : Nat), SV.elv opS (gtO l (↑i : Int).toNat)), ((45 : Nat), SV.agg [SV.int IntKind.i64 (gtO l (↑i : Int).toNat).fst, SV.int IntKind.i64 (gtO l (↑i : Int).toNat).snd.fst, SV.int IntKind.i64 (gtO l (↑i : Int).toNat).snd.snd.fst, SV.int IntKind.u8 (gtO l (↑i : Int).toNat).snd.snd.snd.fst, SV.sl uB (gtO l (↑i : Int).toNat).snd.snd.snd.snd]), ((46 : Nat), SV.ptr (3 : Nat) (3 : Nat)), ((47 : Nat), SV.sl opS l2), ((48 : Nat), SV.int IntKind.i64 (↑i : Int)), ((49 : Nat), SV.elv opS (gtO l2 (↑i : Int).toNat)), ((50 : Nat), SV.agg [SV.int IntKind.i64 (gtO l2 (↑i : Int).toNat).fst, SV.int IntKind.i64 (gtO l2 (↑i : Int).toNat).snd.fst, SV.int IntKind.i64 (gtO l2 (↑i : Int).toNat).snd.snd.fst, SV.int IntKind.u8 (gtO l2 (↑i : Int).toNat).snd.snd.snd.fst, SV.sl uB (gtO l2 (↑i : Int).toNat).snd.snd.snd.snd]), ((51 : Nat), SV.bool (soB (gtO l (↑i : Int).toNat) (gtO l2 (↑i : Int).toNat))), ((52 : Nat), SV.bool !soB (gtO l (↑i : Int).toNat) (gtO l2 (↑i : Int).toNat))], blk := [((2 : Nat), LB.var [SV.bool li, SV.int IntKind.i64 m, SV.int IntKind.i64 o, SV.sl opS l]), ((3 : Nat), LB.var [SV.bool li2, SV.int IntKind.i64 m2, SV.int IntKind.i64 o2, SV.sl opS l2])] })) (Q [SV.bool true] [((2 : Nat), LB.var [SV.bool li, SV.int IntKind.i64 m, SV.int IntKind.i64 o, SV.sl opS l]), ((3 : Nat), LB.var [SV.bool li2, SV.int IntKind.i64 m2, SV.int IntKind.i64 o2, SV.sl opS l2])])) := by kernel_rfl
end Go.Proofs.YtdlbcbgkpmpjlaaDoor
namespace Go.Proofs.YtdlbcbgkpmpjlaaDoor
open Go.Px Go.Ax
set_option maxRecDepth 100000
attribute [local irreducible] Go.Px.sy Go.Px.syE
/-! applyPlain -/
def plV (old : List Int) (m : Int) (l : List SyT) : List Int × Int := if (old.length : Int) = m then runV old l else ([], 61)
def ctPl : Ctr := ⟨[.sl uB, iI, .sl syS], fun x => List.length x.2.2.1 < 16777216, fun x => [.win true uB 0 0 (plV x.1 x.2.1 x.2.2.1).1.length, .int .i64 (plV x.1 x.2.1 x.2.2.1).2], fun x => [.row 5 uB (plV x.1 x.2.1 x.2.2.1).1]⟩
theorem pl_held : Held Tryd.prog G0 20 ctPl := by
  refine Held.run cxP (fn := Tryd.f20) rfl rfl ⟨by decide, by decide⟩ ?_
  rintro ⟨old, m, l, ⟨⟩⟩ hp
  replace hp : l.length < 16777216 := hp
  refine (vc_plain old m l _ _).mpr (bc_of (fun h => ?_) (fun h => ⟨hp, ?_⟩))
  · have h : (old.length : Int) ≠ m := of_decide_eq_true h
    have hv : plV old m l = ([], 61) := if_neg h
    refine qc_nilI (e := uB) (et := 5) (z := 61) ?_ ?_ rfl (by decide)
    · show [_, _] = _; rw [hv]; rfl
    · show [_] = _; rw [hv]
  · have h : ¬ (old.length : Int) ≠ m := of_decide_eq_false h
    have h : (old.length : Int) = m := by simpa using h
    have hv : plV old m l = runV old l := if_pos h
    refine qc_rowI (e := uB) (et := 5) (a := 1057344) (z := (runV old l).2) (xs := (runV old l).1) ?_ ?_ rfl rfl rfl
    · show [_, _] = _; rw [hv]
    · show [_] = _; rw [hv]
theorem symF_len {m : Int} : ∀ {l : List OpT}, (∀ x ∈ l, isRB x m = true) → ((symF l).length : Int) = lenS l
  | [], _ => rfl
  | x :: l, h => by
    have h1 := isRB_kind (h x (by simp))
    have h2 := symF_len (l := l) fun y hy => h y (by simp [hy])
    have hcl : (symsO x.1.toNat x).length = cntO x.1.toNat x := by unfold symsO; exact gen_len _ _ _
    rw [lenS_cons, symF, List.length_append, hcl]; omega
theorem symV_len (p : PaT) : (symV p).1.length < 16777216 := by
  unfold symV
  split
  · rename_i h
    obtain ⟨h1, h2, h3, _⟩ := chkV_ok h
    have := symF_len h1
    have h4 := h3.2
    simp only
    omega
  · show 0 < 16777216
    decide
/-! Same -/
def smL : List OpT → List OpT → Bool
  | [], [] => true
  | x :: l, y :: m => soB x y && smL l m
  | _, _ => false
def smB (p q : PaT) : Bool := (p.1 == q.1) && (decide (p.2.1 = q.2.1) && (decide (p.2.2.1 = q.2.2.1) && (decide (p.2.2.2.length = q.2.2.2.length) && smL p.2.2.2 q.2.2.2)))
def ctSm : Ctr := ⟨[paS, paS], fun x => List.length x.1.2.2.2 < 1099511627776, fun x => [.bool (smB x.1 x.2.1)], fun _ => []⟩
theorem sm_loop (li li2 : Bool) (m o m2 o2 : Int) (l l2 : List OpT) (hl : l.length < 1099511627776) (he : l.length = l2.length) : ∀ (k i : Nat), l.length - i = k → i ≤ l.length →
    GD 11 Tryd.f11 (fun rs _ => rs = [.bool (smL (l.drop i) (l2.drop i))]) (hd Tryd.f11 0) ⟨[(2, .ptr 2 0), (3, .ptr 3 0), (5, .int .i64 (i : Nat))], [(2, .var [.bool li, .int .i64 m, .int .i64 o, .sl opS l]), (3, .var [.bool li2, .int .i64 m2, .int .i64 o2, .sl opS l2])]⟩ := by
  intro k
  induction k with
  | zero =>
    intro i hk hi
    have hi : i = l.length := by omega
    subst hi
    refine sy_sound cxS _ _ _ ((vc_sameL li li2 m o m2 o2 l l2 _ _ _).mpr ?_)
    rw [decide_eq_false (by omega), bc_f, List.drop_length, he, List.drop_length]
    rfl
  | succ k ih =>
    intro i hk hi
    have hx : i < l.length := by omega
    have hy : i < l2.length := by omega
    refine sy_sound cxS _ _ _ ((vc_sameL li li2 m o m2 o2 l l2 i _ _).mpr ?_)
    rw [decide_eq_true (show (i : Int) < (l.length : Int) by omega), bc_t, Int.toNat_natCast, gtO_at hx, gtO_at hy, IntWalk.i64_in ((i : Int) + 1) (by omega), dropc hx, dropc hy, smL]
    refine ⟨by omega, by omega, by omega, by omega, trivial, bc_of (fun h => ?_) (fun h => ?_)⟩
    · have h : soB l[i] l2[i] = false := by simpa using h
      rw [h]; rfl
    · have h : soB l[i] l2[i] = true := by simpa using h
      rw [h]
      exact (ih (i + 1) (by omega) (by omega)).only ⟨rfl, rfl, rfl, trivial⟩ ⟨rfl, rfl, trivial⟩
theorem sm_held : Held Tryd.prog G0 11 ctSm := by
  refine Held.run cxS (fn := Tryd.f11) rfl rfl ⟨by decide, by decide⟩ ?_
  rintro ⟨⟨li, m, o, l⟩, ⟨li2, m2, o2, l2⟩, ⟨⟩⟩ hp
  replace hp : l.length < 1099511627776 := hp
  refine (vc_same li li2 m o m2 o2 l l2 _ _).mpr ?_
  cases e0 : (li == li2)
  · exact ⟨rfl, rfl, rfl, QC.flat (by show [SV.bool (smB _ _)] = _; simp only [smB, e0]; rfl) rfl rfl⟩
  · rw [Bool.not_true, bc_f]
    refine bc_of (fun h => ⟨rfl, rfl, ?_⟩) (fun h => bc_of (fun h2 => ⟨rfl, ?_⟩) (fun h2 => bc_of (fun h3 => ?_) (fun h3 => ?_)))
    · have h : m ≠ m2 := of_decide_eq_true h
      exact QC.flat (by show [SV.bool (smB _ _)] = _; simp only [smB, e0, decide_eq_false h]; rfl) rfl rfl
    · have h2 : o ≠ o2 := of_decide_eq_true h2
      exact QC.flat (by show [SV.bool (smB _ _)] = _; simp only [smB, e0, decide_eq_false h2, Bool.false_and, Bool.and_false]) rfl rfl
    · have h3 : (l.length : Int) ≠ l2.length := of_decide_eq_true h3
      have h3 : ¬ l.length = l2.length := by omega
      exact QC.flat (by show [SV.bool (smB _ _)] = _; simp only [smB, e0, decide_eq_false h3, Bool.false_and, Bool.and_false]) rfl rfl
    · have h : m = m2 := by
        have h : ¬ m ≠ m2 := of_decide_eq_false h
        simpa using h
      have h2 : o = o2 := by
        have h2 : ¬ o ≠ o2 := of_decide_eq_false h2
        simpa using h2
      have h3 : l.length = l2.length := by
        have h3 : ¬ (l.length : Int) ≠ l2.length := of_decide_eq_false h3
        omega
      refine ((sm_loop li li2 m o m2 o2 l l2 hp h3 _ 0 rfl (by omega)).post fun rs blk hq => QC.flat ?_ rfl (by rw [hq]; rfl)).only ⟨rfl, rfl, rfl, trivial⟩ ⟨rfl, rfl, trivial⟩
      rw [hq]
      show [SV.bool (smB _ _)] = _
      simp only [smB, e0, decide_eq_true h, decide_eq_true h2, decide_eq_true h3, Bool.true_and]; rfl
/-! The reference's Whole -/
def rwV (n : Int) : PaT := if n = 0 then (false, 0, 0, []) else (false, n, n, [((1, 0, n, 0, []) : OpT)])
def ctRw : Ctr := ⟨[iI], fun _ => True, fun x => [paV (rwV x.1)], fun _ => []⟩
def ctRw1 : Ctr := ⟨[iI], fun x => x.1 ≠ 0, fun x => [.agg [.bool false, .int .i64 x.1, .int .i64 x.1, .win true opS 0 0 1]], fun x => [.row 28 opS [((1, 0, x.1, 0, []) : OpT)]]⟩
def ctRw0 : Ctr := ⟨[iI], fun x => ¬ x.1 ≠ 0, fun x => [paV (rwV x.1)], fun _ => []⟩
theorem rw1_held : Held Tryd.prog G0 14 ctRw1 := by
  refine Held.run cx0 (fn := Tryd.f14) rfl rfl ⟨by decide, by decide⟩ ?_
  rintro ⟨n, ⟨⟩⟩ hp
  replace hp : n ≠ 0 := hp
  refine (vc_rwhole n _ _).mpr ?_
  rw [decide_eq_false hp, bc_f]
  refine ⟨fun i => if i = 0 then some 10 else none, ?_, ?_, fun i j b h1 h2 => ?_, rfl⟩
  · exact ⟨_, _, rfl, ⟨_, rfl, _, _, rfl, rfl, _, _, rfl, rfl, _, _, rfl, rfl, _, _, rfl, .inl ⟨true, 10, rfl, rfl, fun h => h⟩, rfl⟩, rfl⟩
  · exact ⟨.inl ⟨10, rfl, rfl⟩, trivial⟩
  · simp only at h1 h2
    split at h1
    · split at h2
      · omega
      · cases h2
    · cases h1
theorem rw0_held : Held Tryd.prog G0 14 ctRw0 := by
  refine Held.run cx0 (fn := Tryd.f14) rfl rfl ⟨by decide, by decide⟩ ?_
  rintro ⟨n, ⟨⟩⟩ hp
  replace hp : ¬ n ≠ 0 := hp
  have hp : n = 0 := by simpa using hp
  refine (vc_rwhole n _ _).mpr ?_
  rw [decide_eq_true hp, bc_t]
  refine QC.mt ?_ rfl
  show MtL _ [paV (rwV n)] _
  unfold rwV
  rw [if_pos hp]
  exact ⟨_, _, rfl, ⟨_, rfl, _, _, rfl, rfl, _, _, rfl, rfl, _, _, rfl, rfl, _, _, rfl, .inr ⟨rfl, rfl⟩, rfl⟩, rfl⟩
theorem rw_held : Held Tryd.prog G0 14 ctRw := fun x _ => by
  by_cases h : x.1 ≠ 0
  · have e := (rw1_held.frz (fun x hp => ⟨by simp [ctRw1, inL, inS], trivial⟩)) x h
    have hv : [paV (rwV x.1)] = frzRs 0 (ctRw1.rows x) (ctRw1.out x) := by
      unfold rwV; rw [if_neg h]; rfl
    intro base M args args' w cs Z H h1 h2 h3 h4 h5
    have := e base M args args' w cs Z H h1 h2 h3 h4 h5
    simp only [Ctr.frz, ctRw] at this ⊢
    rw [hv]
    exact this
  · exact rw0_held x h
end Go.Proofs.YtdlbcbgkpmpjlaaDoor
namespace Go.Proofs.YtdlbcbgkpmpjlaaDoor
open Go.Px Go.Ax
set_option maxRecDepth 100000
def CQ : CV := [(20, .inl ctPl), (8, .inl ctSym)]
theorem cxQ : CxOK Tryd.prog tt G0 CQ := (cx0.cons sym_held (fn := Tryd.f8) rfl rfl rfl).cons pl_held (fn := Tryd.f20) rfl rfl rfl
set_option maxRecDepth 100000
theorem vc_apply (old : List Int) (li : Bool) (m o : Int) (l : List OpT) (Q : List SV → List (Nat × LB) → Prop) (R : List Item → PS → Prop) : sy tt G0 CQ Tryd.f7.ntmps Tryd.f7.results.toList Q R 1000 [.code (bodyOf Tryd.f7)] (entry [.sl uB, paS] (old, (li, m, o, l), ())) =
    (ctSym.pre ((li, m, o, l), ()) ∧
 bc (decide ((symV (li, m, o, l)).snd ≠ (0 : Int))) (Q [SV.nils, SV.int IntKind.i64 (symV (li, m, o, l)).snd] [((3 : Nat), LB.var [SV.bool li, SV.int IntKind.i64 m, SV.int IntKind.i64 o, SV.sl opS l]), ((1040960 : Nat), LB.row (34 : Nat) syS (symV (li, m, o, l)).fst)]) (bc li False ((0 : Nat) + (symV (li, m, o, l)).fst.length ≤ (symV (li, m, o, l)).fst.length ∧
 ctPl.pre (old, m, winL syS (0 : Nat) (symV (li, m, o, l)).fst.length (symV (li, m, o, l)).fst, ()) ∧
 Q [SV.win true uB (1118784 : Nat) (0 : Nat) (plV old m (winL syS (0 : Nat) (symV (li, m, o, l)).fst.length (symV (li, m, o, l)).fst)).fst.length, SV.int IntKind.i64 (plV old m (winL syS (0 : Nat) (symV (li, m, o, l)).fst.length (symV (li, m, o, l)).fst)).snd] [((3 : Nat), LB.var [SV.bool li, SV.int IntKind.i64 m, SV.int IntKind.i64 o, SV.sl opS l]), ((1040960 : Nat), LB.row (34 : Nat) syS (symV (li, m, o, l)).fst), ((1118784 : Nat), LB.row (5 : Nat) uB (plV old m (winL syS (0 : Nat) (symV (li, m, o, l)).fst.length (symV (li, m, o, l)).fst)).fst)]))) := by kernel_rfl
end Go.Proofs.YtdlbcbgkpmpjlaaDoor
namespace Go.Proofs.YtdlbcbgkpmpjlaaDoor
open Go.Px Go.Ax
set_option maxRecDepth 100000
attribute [local irreducible] Go.Px.sy Go.Px.syE
def apV (old : List Int) (p : PaT) : List Int × Int := if (symV p).2 = 0 then plV old p.2.1 (symV p).1 else ([], (symV p).2)
def ctAp : Ctr := ⟨[.sl uB, paS], fun x => x.2.1.1 = false, fun x => [.win true uB 0 0 (apV x.1 x.2.1).1.length, .int .i64 (apV x.1 x.2.1).2], fun x => [.row 5 uB (apV x.1 x.2.1).1]⟩
theorem ap_held : Held Tryd.prog G0 7 ctAp := by
  refine Held.run cxQ (fn := Tryd.f7) rfl rfl ⟨by decide, by decide⟩ ?_
  rintro ⟨old, ⟨li, m, o, l⟩, ⟨⟩⟩ hp
  replace hp : li = false := hp
  subst hp
  refine (vc_apply old false m o l _ _).mpr ⟨trivial, bc_of (fun h => ?_) (fun h => ?_)⟩
  · have h : (symV (false, m, o, l)).2 ≠ 0 := of_decide_eq_true h
    have hv : apV old (false, m, o, l) = ([], (symV (false, m, o, l)).2) := if_neg h
    refine qc_nilI (e := uB) (et := 5) (z := (symV (false, m, o, l)).2) ?_ ?_ rfl (by decide)
    · show [_, _] = _; rw [hv]; rfl
    · show [_] = _; rw [hv]
  · have h : ¬ (symV (false, m, o, l)).2 ≠ 0 := of_decide_eq_false h
    have h : (symV (false, m, o, l)).2 = 0 := by simpa using h
    have hv : apV old (false, m, o, l) = plV old m (symV (false, m, o, l)).1 := if_pos h
    have hl := symV_len (false, m, o, l)
    have hw : winL syS 0 (symV (false, m, o, l)).1.length (symV (false, m, o, l)).1 = (symV (false, m, o, l)).1 := winA (e := syS) _
    rw [bc_f, hw]
    refine ⟨Nat.le_of_eq (Nat.zero_add _), hl, ?_⟩
    refine qc_rowI (e := uB) (et := 5) (a := 1118784) (z := (plV old m (symV (false, m, o, l)).1).2) (xs := (plV old m (symV (false, m, o, l)).1).1) ?_ ?_ rfl rfl rfl
    · show [_, _] = _; rw [hv]
    · show [_] = _; rw [hv]
def CN : CV := [(9, .inl ctR2), (10, .inl ctSS), (11, .inl ctSm), (14, .inl ctRw), (13, .inl ctWh), (12, .inl ctCost), (8, .inl ctSym), (7, .inl ctAp), (6, .inl ctOf), (5, .inl ctChk)]
theorem cxN : CxOK Tryd.prog tt G0 CN := (((((((((cx0.cons chk_held (fn := Tryd.f5) rfl rfl rfl).cons of_held (fn := Tryd.f6) rfl rfl rfl).cons ap_held (fn := Tryd.f7) rfl rfl rfl).cons sym_held (fn := Tryd.f8) rfl rfl rfl).cons cost_held (fn := Tryd.f12) rfl rfl rfl).cons wh_held (fn := Tryd.f13) rfl rfl rfl).cons rw_held (fn := Tryd.f14) rfl rfl rfl).cons sm_held (fn := Tryd.f11) rfl rfl rfl).cons ss_held (fn := Tryd.f10) rfl rfl rfl).cons r2_held (fn := Tryd.f9) rfl rfl rfl
end Go.Proofs.YtdlbcbgkpmpjlaaDoor
namespace Go.Proofs.YtdlbcbgkpmpjlaaDoor
open Go.Px Go.Ax
set_option maxRecDepth 100000
set_option maxRecDepth 100000
theorem vc_san  (Q : List SV → List (Nat × LB) → Prop) (R : List Item → PS → Prop) : sy tt G0 CN Tryd.f4.ntmps Tryd.f4.results.toList Q R 1000 [.code (bodyOf Tryd.f4)] (entry [] ()) =
    ((0 : Nat) + (2 : Nat) ≤ (((List.replicate (2 : Nat) uB.dflt).set (0 : Nat) (255 : Int)).set (1 : Nat) (1 : Int)).length ∧
 (0 : Nat) + (2 : Nat) ≤ (((List.replicate (2 : Nat) uB.dflt).set (0 : Nat) (255 : Int)).set (1 : Nat) (1 : Int)).length ∧
 (0 : Nat) + (3 : Nat) ≤ ((((List.replicate (3 : Nat) uB.dflt).set (0 : Nat) (1 : Int)).set (1 : Nat) (2 : Int)).set (2 : Nat) (3 : Int)).length ∧
 (0 : Nat) + (2 : Nat) ≤ (((List.replicate (2 : Nat) opS.dflt).set (0 : Nat) ((1 : Int), (1 : Int), (2 : Int), (0 : Int), [])).set (1 : Nat) ((3 : Int), (0 : Int), (2 : Int), (9 : Int), [])).length ∧
 ctAp.pre (winL uB (0 : Nat) (3 : Nat) ((((List.replicate (3 : Nat) uB.dflt).set (0 : Nat) (1 : Int)).set (1 : Nat) (2 : Int)).set (2 : Nat) (3 : Int)), (false, (3 : Int), (4 : Int), winL opS (0 : Nat) (2 : Nat) (((List.replicate (2 : Nat) opS.dflt).set (0 : Nat) ((1 : Int), (1 : Int), (2 : Int), (0 : Int), [])).set (1 : Nat) ((3 : Int), (0 : Int), (2 : Int), (9 : Int), []))), ()) ∧
 (0 : Nat) + (3 : Nat) ≤ ((((List.replicate (3 : Nat) uB.dflt).set (0 : Nat) (1 : Int)).set (1 : Nat) (2 : Int)).set (2 : Nat) (3 : Int)).length ∧
 (0 : Nat) + (1 : Nat) ≤ ([((2 : Int), (0 : Int), (2 : Int), (0 : Int), winL uB (0 : Nat) (2 : Nat) (((List.replicate (2 : Nat) uB.dflt).set (0 : Nat) (255 : Int)).set (1 : Nat) (1 : Int)))] : List opS.D).length ∧
 ctAp.pre (winL uB (0 : Nat) (3 : Nat) ((((List.replicate (3 : Nat) uB.dflt).set (0 : Nat) (1 : Int)).set (1 : Nat) (2 : Int)).set (2 : Nat) (3 : Int)), (false, (3 : Int), (2 : Int), ([((2 : Int), (0 : Int), (2 : Int), (0 : Int), winL uB (0 : Nat) (2 : Nat) (((List.replicate (2 : Nat) uB.dflt).set (0 : Nat) (255 : Int)).set (1 : Nat) (1 : Int)))] : List opS.D)), ()) ∧
 (0 : Nat) + (2 : Nat) ≤ (((List.replicate (2 : Nat) opS.dflt).set (0 : Nat) ((1 : Int), (1 : Int), (2 : Int), (0 : Int), [])).set (1 : Nat) ((3 : Int), (0 : Int), (2 : Int), (9 : Int), [])).length ∧
 ctSym.pre ((false, (3 : Int), (4 : Int), winL opS (0 : Nat) (2 : Nat) (((List.replicate (2 : Nat) opS.dflt).set (0 : Nat) ((1 : Int), (1 : Int), (2 : Int), (0 : Int), [])).set (1 : Nat) ((3 : Int), (0 : Int), (2 : Int), (9 : Int), []))), ()) ∧
 (0 : Nat) + (1 : Nat) ≤ ([((1 : Int), (2 : Int), (2 : Int), (0 : Int), [])] : List opS.D).length ∧
 ctChk.pre ((false, (3 : Int), (2 : Int), ([((1 : Int), (2 : Int), (2 : Int), (0 : Int), [])] : List opS.D)), ()) ∧
 (0 : Nat) + (1 : Nat) ≤ ([(7 : Int)] : List uB.D).length ∧
 (0 : Nat) + (1 : Nat) ≤ ([(7 : Int)] : List uB.D).length ∧
 (0 : Nat) + (1 : Nat) ≤ ([((4 : Int), (0 : Int), (1 : Int), (0 : Int), ([(7 : Int)] : List uB.D))] : List opS.D).length ∧
 ctChk.pre ((false, (3 : Int), (2 : Int), ([((4 : Int), (0 : Int), (1 : Int), (0 : Int), winL uB (0 : Nat) (1 : Nat) ([(7 : Int)] : List uB.D))] : List opS.D)), ()) ∧
 (0 : Nat) + (4 : Nat) ≤ (((((List.replicate (4 : Nat) syS.dflt).set (0 : Nat) (true, (1 : Int), (0 : Int))).set (1 : Nat) (true, (2 : Int), (0 : Int))).set (2 : Nat) (false, (0 : Int), (9 : Int))).set (3 : Nat) (false, (0 : Int), (9 : Int))).length ∧
 ctOf.pre (winL syS (0 : Nat) (4 : Nat) (((((List.replicate (4 : Nat) syS.dflt).set (0 : Nat) (true, (1 : Int), (0 : Int))).set (1 : Nat) (true, (2 : Int), (0 : Int))).set (2 : Nat) (false, (0 : Int), (9 : Int))).set (3 : Nat) (false, (0 : Int), (9 : Int))), (3 : Int), ()) ∧
 (0 : Int) ≤ (2 : Int) ∧
 (2 : Int) ≤ (↑(3 : Nat) : Int) ∧
 (0 : Nat) + (3 : Nat) ≤ ((((List.replicate (3 : Nat) uB.dflt).set (0 : Nat) (1 : Int)).set (1 : Nat) (2 : Int)).set (2 : Nat) (3 : Int)).length ∧
 (0 : Nat) + (0 : Nat) + (Int.toNat (2 : Int) - (0 : Nat)) ≤ ((((List.replicate (3 : Nat) uB.dflt).set (0 : Nat) (1 : Int)).set (1 : Nat) (2 : Int)).set (2 : Nat) (3 : Int)).length ∧
 (0 : Nat) + (2 : Nat) ≤ (((List.replicate (2 : Nat) opS.dflt).set (0 : Nat) ((1 : Int), (1 : Int), (2 : Int), (0 : Int), [])).set (1 : Nat) ((3 : Int), (0 : Int), (2 : Int), (9 : Int), [])).length ∧
 ctAp.pre (winL uB ((0 : Nat) + (0 : Nat)) (Int.toNat (2 : Int) - (0 : Nat)) ((((List.replicate (3 : Nat) uB.dflt).set (0 : Nat) (1 : Int)).set (1 : Nat) (2 : Int)).set (2 : Nat) (3 : Int)), (false, (3 : Int), (4 : Int), winL opS (0 : Nat) (2 : Nat) (((List.replicate (2 : Nat) opS.dflt).set (0 : Nat) ((1 : Int), (1 : Int), (2 : Int), (0 : Int), [])).set (1 : Nat) ((3 : Int), (0 : Int), (2 : Int), (9 : Int), []))), ()) ∧
 (0 : Nat) + (2 : Nat) ≤ (((List.replicate (2 : Nat) uB.dflt).set (0 : Nat) (9 : Int)).set (1 : Nat) (9 : Int)).length ∧
 (0 : Nat) + (2 : Nat) ≤ (((List.replicate (2 : Nat) uB.dflt).set (0 : Nat) (9 : Int)).set (1 : Nat) (9 : Int)).length ∧
 (0 : Nat) + (apV (winL uB (0 : Nat) (3 : Nat) ((((List.replicate (3 : Nat) uB.dflt).set (0 : Nat) (1 : Int)).set (1 : Nat) (2 : Int)).set (2 : Nat) (3 : Int))) (false, (3 : Int), (4 : Int), winL opS (0 : Nat) (2 : Nat) (((List.replicate (2 : Nat) opS.dflt).set (0 : Nat) ((1 : Int), (1 : Int), (2 : Int), (0 : Int), [])).set (1 : Nat) ((3 : Int), (0 : Int), (2 : Int), (9 : Int), [])))).fst.length ≤ (apV (winL uB (0 : Nat) (3 : Nat) ((((List.replicate (3 : Nat) uB.dflt).set (0 : Nat) (1 : Int)).set (1 : Nat) (2 : Int)).set (2 : Nat) (3 : Int))) (false, (3 : Int), (4 : Int), winL opS (0 : Nat) (2 : Nat) (((List.replicate (2 : Nat) opS.dflt).set (0 : Nat) ((1 : Int), (1 : Int), (2 : Int), (0 : Int), [])).set (1 : Nat) ((3 : Int), (0 : Int), (2 : Int), (9 : Int), [])))).fst.length ∧
 (0 : Nat) + (4 : Nat) ≤ (((((List.replicate (4 : Nat) uB.dflt).set (0 : Nat) (2 : Int)).set (1 : Nat) (3 : Int)).set (2 : Nat) (9 : Int)).set (3 : Nat) (9 : Int)).length ∧
 ctR2.pre (winL uB (0 : Nat) (apV (winL uB (0 : Nat) (3 : Nat) ((((List.replicate (3 : Nat) uB.dflt).set (0 : Nat) (1 : Int)).set (1 : Nat) (2 : Int)).set (2 : Nat) (3 : Int))) (false, (3 : Int), (4 : Int), winL opS (0 : Nat) (2 : Nat) (((List.replicate (2 : Nat) opS.dflt).set (0 : Nat) ((1 : Int), (1 : Int), (2 : Int), (0 : Int), [])).set (1 : Nat) ((3 : Int), (0 : Int), (2 : Int), (9 : Int), [])))).fst.length (apV (winL uB (0 : Nat) (3 : Nat) ((((List.replicate (3 : Nat) uB.dflt).set (0 : Nat) (1 : Int)).set (1 : Nat) (2 : Int)).set (2 : Nat) (3 : Int))) (false, (3 : Int), (4 : Int), winL opS (0 : Nat) (2 : Nat) (((List.replicate (2 : Nat) opS.dflt).set (0 : Nat) ((1 : Int), (1 : Int), (2 : Int), (0 : Int), [])).set (1 : Nat) ((3 : Int), (0 : Int), (2 : Int), (9 : Int), [])))).fst, winL uB (0 : Nat) (4 : Nat) (((((List.replicate (4 : Nat) uB.dflt).set (0 : Nat) (2 : Int)).set (1 : Nat) (3 : Int)).set (2 : Nat) (9 : Int)).set (3 : Nat) (9 : Int)), ()) ∧
 (0 : Nat) + (apV (winL uB (0 : Nat) (3 : Nat) ((((List.replicate (3 : Nat) uB.dflt).set (0 : Nat) (1 : Int)).set (1 : Nat) (2 : Int)).set (2 : Nat) (3 : Int))) (false, (3 : Int), (2 : Int), ([((2 : Int), (0 : Int), (2 : Int), (0 : Int), winL uB (0 : Nat) (2 : Nat) (((List.replicate (2 : Nat) uB.dflt).set (0 : Nat) (255 : Int)).set (1 : Nat) (1 : Int)))] : List opS.D))).fst.length ≤ (apV (winL uB (0 : Nat) (3 : Nat) ((((List.replicate (3 : Nat) uB.dflt).set (0 : Nat) (1 : Int)).set (1 : Nat) (2 : Int)).set (2 : Nat) (3 : Int))) (false, (3 : Int), (2 : Int), ([((2 : Int), (0 : Int), (2 : Int), (0 : Int), winL uB (0 : Nat) (2 : Nat) (((List.replicate (2 : Nat) uB.dflt).set (0 : Nat) (255 : Int)).set (1 : Nat) (1 : Int)))] : List opS.D))).fst.length ∧
 (0 : Nat) + (2 : Nat) ≤ (((List.replicate (2 : Nat) uB.dflt).set (0 : Nat) (0 : Int)).set (1 : Nat) (3 : Int)).length ∧
 ctR2.pre (winL uB (0 : Nat) (apV (winL uB (0 : Nat) (3 : Nat) ((((List.replicate (3 : Nat) uB.dflt).set (0 : Nat) (1 : Int)).set (1 : Nat) (2 : Int)).set (2 : Nat) (3 : Int))) (false, (3 : Int), (2 : Int), ([((2 : Int), (0 : Int), (2 : Int), (0 : Int), winL uB (0 : Nat) (2 : Nat) (((List.replicate (2 : Nat) uB.dflt).set (0 : Nat) (255 : Int)).set (1 : Nat) (1 : Int)))] : List opS.D))).fst.length (apV (winL uB (0 : Nat) (3 : Nat) ((((List.replicate (3 : Nat) uB.dflt).set (0 : Nat) (1 : Int)).set (1 : Nat) (2 : Int)).set (2 : Nat) (3 : Int))) (false, (3 : Int), (2 : Int), ([((2 : Int), (0 : Int), (2 : Int), (0 : Int), winL uB (0 : Nat) (2 : Nat) (((List.replicate (2 : Nat) uB.dflt).set (0 : Nat) (255 : Int)).set (1 : Nat) (1 : Int)))] : List opS.D))).fst, winL uB (0 : Nat) (2 : Nat) (((List.replicate (2 : Nat) uB.dflt).set (0 : Nat) (0 : Int)).set (1 : Nat) (3 : Int)), ()) ∧
 (0 : Nat) + (symV (false, (3 : Int), (4 : Int), winL opS (0 : Nat) (2 : Nat) (((List.replicate (2 : Nat) opS.dflt).set (0 : Nat) ((1 : Int), (1 : Int), (2 : Int), (0 : Int), [])).set (1 : Nat) ((3 : Int), (0 : Int), (2 : Int), (9 : Int), [])))).fst.length ≤ (symV (false, (3 : Int), (4 : Int), winL opS (0 : Nat) (2 : Nat) (((List.replicate (2 : Nat) opS.dflt).set (0 : Nat) ((1 : Int), (1 : Int), (2 : Int), (0 : Int), [])).set (1 : Nat) ((3 : Int), (0 : Int), (2 : Int), (9 : Int), [])))).fst.length ∧
 (0 : Nat) + (4 : Nat) ≤ (((((List.replicate (4 : Nat) syS.dflt).set (0 : Nat) (true, (1 : Int), (0 : Int))).set (1 : Nat) (true, (2 : Int), (0 : Int))).set (2 : Nat) (false, (0 : Int), (9 : Int))).set (3 : Nat) (false, (0 : Int), (9 : Int))).length ∧
 ctSS.pre (winL syS (0 : Nat) (symV (false, (3 : Int), (4 : Int), winL opS (0 : Nat) (2 : Nat) (((List.replicate (2 : Nat) opS.dflt).set (0 : Nat) ((1 : Int), (1 : Int), (2 : Int), (0 : Int), [])).set (1 : Nat) ((3 : Int), (0 : Int), (2 : Int), (9 : Int), [])))).fst.length (symV (false, (3 : Int), (4 : Int), winL opS (0 : Nat) (2 : Nat) (((List.replicate (2 : Nat) opS.dflt).set (0 : Nat) ((1 : Int), (1 : Int), (2 : Int), (0 : Int), [])).set (1 : Nat) ((3 : Int), (0 : Int), (2 : Int), (9 : Int), [])))).fst, winL syS (0 : Nat) (4 : Nat) (((((List.replicate (4 : Nat) syS.dflt).set (0 : Nat) (true, (1 : Int), (0 : Int))).set (1 : Nat) (true, (2 : Int), (0 : Int))).set (2 : Nat) (false, (0 : Int), (9 : Int))).set (3 : Nat) (false, (0 : Int), (9 : Int))), ()) ∧
 (0 : Nat) + (2 : Nat) ≤ (((List.replicate (2 : Nat) opS.dflt).set (0 : Nat) ((1 : Int), (1 : Int), (2 : Int), (0 : Int), [])).set (1 : Nat) ((4 : Int), (0 : Int), (2 : Int), (0 : Int), winL uB (0 : Nat) (2 : Nat) (((List.replicate (2 : Nat) uB.dflt).set (0 : Nat) (9 : Int)).set (1 : Nat) (9 : Int)))).length ∧
 ctSm.pre (((ofV (winL syS (0 : Nat) (4 : Nat) (((((List.replicate (4 : Nat) syS.dflt).set (0 : Nat) (true, (1 : Int), (0 : Int))).set (1 : Nat) (true, (2 : Int), (0 : Int))).set (2 : Nat) (false, (0 : Int), (9 : Int))).set (3 : Nat) (false, (0 : Int), (9 : Int)))) (3 : Int)).fst.fst, (ofV (winL syS (0 : Nat) (4 : Nat) (((((List.replicate (4 : Nat) syS.dflt).set (0 : Nat) (true, (1 : Int), (0 : Int))).set (1 : Nat) (true, (2 : Int), (0 : Int))).set (2 : Nat) (false, (0 : Int), (9 : Int))).set (3 : Nat) (false, (0 : Int), (9 : Int)))) (3 : Int)).fst.snd.fst, (ofV (winL syS (0 : Nat) (4 : Nat) (((((List.replicate (4 : Nat) syS.dflt).set (0 : Nat) (true, (1 : Int), (0 : Int))).set (1 : Nat) (true, (2 : Int), (0 : Int))).set (2 : Nat) (false, (0 : Int), (9 : Int))).set (3 : Nat) (false, (0 : Int), (9 : Int)))) (3 : Int)).fst.snd.snd.fst, (ofV (winL syS (0 : Nat) (4 : Nat) (((((List.replicate (4 : Nat) syS.dflt).set (0 : Nat) (true, (1 : Int), (0 : Int))).set (1 : Nat) (true, (2 : Int), (0 : Int))).set (2 : Nat) (false, (0 : Int), (9 : Int))).set (3 : Nat) (false, (0 : Int), (9 : Int)))) (3 : Int)).fst.snd.snd.snd), (false, (3 : Int), (4 : Int), winL opS (0 : Nat) (2 : Nat) (((List.replicate (2 : Nat) opS.dflt).set (0 : Nat) ((1 : Int), (1 : Int), (2 : Int), (0 : Int), [])).set (1 : Nat) ((4 : Int), (0 : Int), (2 : Int), (0 : Int), winL uB (0 : Nat) (2 : Nat) (((List.replicate (2 : Nat) uB.dflt).set (0 : Nat) (9 : Int)).set (1 : Nat) (9 : Int))))), ()) ∧
 (0 : Nat) + (2 : Nat) ≤ (((List.replicate (2 : Nat) opS.dflt).set (0 : Nat) ((1 : Int), (1 : Int), (2 : Int), (0 : Int), [])).set (1 : Nat) ((3 : Int), (0 : Int), (2 : Int), (9 : Int), [])).length ∧
 ctCost.pre ((false, (3 : Int), (4 : Int), winL opS (0 : Nat) (2 : Nat) (((List.replicate (2 : Nat) opS.dflt).set (0 : Nat) ((1 : Int), (1 : Int), (2 : Int), (0 : Int), [])).set (1 : Nat) ((3 : Int), (0 : Int), (2 : Int), (9 : Int), []))), ()) ∧
 (0 : Nat) + (1 : Nat) ≤ ([((2 : Int), (0 : Int), (2 : Int), (0 : Int), winL uB (0 : Nat) (2 : Nat) (((List.replicate (2 : Nat) uB.dflt).set (0 : Nat) (255 : Int)).set (1 : Nat) (1 : Int)))] : List opS.D).length ∧
 ctCost.pre ((false, (3 : Int), (2 : Int), ([((2 : Int), (0 : Int), (2 : Int), (0 : Int), winL uB (0 : Nat) (2 : Nat) (((List.replicate (2 : Nat) uB.dflt).set (0 : Nat) (255 : Int)).set (1 : Nat) (1 : Int)))] : List opS.D)), ()) ∧
 (0 : Nat) + (2 : Nat) ≤ (((List.replicate (2 : Nat) opS.dflt).set (0 : Nat) ((1 : Int), (1 : Int), (2 : Int), (0 : Int), [])).set (1 : Nat) ((4 : Int), (0 : Int), (2 : Int), (0 : Int), winL uB (0 : Nat) (2 : Nat) (((List.replicate (2 : Nat) uB.dflt).set (0 : Nat) (9 : Int)).set (1 : Nat) (9 : Int)))).length ∧
 ctCost.pre ((false, (3 : Int), (4 : Int), winL opS (0 : Nat) (2 : Nat) (((List.replicate (2 : Nat) opS.dflt).set (0 : Nat) ((1 : Int), (1 : Int), (2 : Int), (0 : Int), [])).set (1 : Nat) ((4 : Int), (0 : Int), (2 : Int), (0 : Int), winL uB (0 : Nat) (2 : Nat) (((List.replicate (2 : Nat) uB.dflt).set (0 : Nat) (9 : Int)).set (1 : Nat) (9 : Int))))), ()) ∧
 ctWh.pre ((3 : Int), ()) ∧
 ctRw.pre ((3 : Int), ()) ∧
 ctSm.pre (((whV (3 : Int)).fst, (whV (3 : Int)).snd.fst, (whV (3 : Int)).snd.snd.fst, (whV (3 : Int)).snd.snd.snd), ((rwV (3 : Int)).fst, (rwV (3 : Int)).snd.fst, (rwV (3 : Int)).snd.snd.fst, (rwV (3 : Int)).snd.snd.snd), ()) ∧
 ctWh.pre ((0 : Int), ()) ∧
 ctSm.pre (((whV (0 : Int)).fst, (whV (0 : Int)).snd.fst, (whV (0 : Int)).snd.snd.fst, (whV (0 : Int)).snd.snd.snd), (false, (0 : Int), (0 : Int), []), ()) ∧
 Q [SV.bool (bif true then smB ((whV (0 : Int)).fst, (whV (0 : Int)).snd.fst, (whV (0 : Int)).snd.snd.fst, (whV (0 : Int)).snd.snd.snd) (false, (0 : Int), (0 : Int), []) else false)] [((2 : Nat), LB.var [SV.bool false, SV.int IntKind.i64 (3 : Int), SV.int IntKind.i64 (4 : Int), SV.win true opS (23 : Nat) (0 : Nat) (2 : Nat)]), ((3 : Nat), LB.var [SV.bool false, SV.int IntKind.i64 (3 : Int), SV.int IntKind.i64 (2 : Int), SV.win true opS (27 : Nat) (0 : Nat) (1 : Nat)]), ((14 : Nat), LB.var [SV.bool (ofV (winL syS (0 : Nat) (4 : Nat) (((((List.replicate (4 : Nat) syS.dflt).set (0 : Nat) (true, (1 : Int), (0 : Int))).set (1 : Nat) (true, (2 : Int), (0 : Int))).set (2 : Nat) (false, (0 : Int), (9 : Int))).set (3 : Nat) (false, (0 : Int), (9 : Int)))) (3 : Int)).fst.fst, SV.int IntKind.i64 (ofV (winL syS (0 : Nat) (4 : Nat) (((((List.replicate (4 : Nat) syS.dflt).set (0 : Nat) (true, (1 : Int), (0 : Int))).set (1 : Nat) (true, (2 : Int), (0 : Int))).set (2 : Nat) (false, (0 : Int), (9 : Int))).set (3 : Nat) (false, (0 : Int), (9 : Int)))) (3 : Int)).fst.snd.fst, SV.int IntKind.i64 (ofV (winL syS (0 : Nat) (4 : Nat) (((((List.replicate (4 : Nat) syS.dflt).set (0 : Nat) (true, (1 : Int), (0 : Int))).set (1 : Nat) (true, (2 : Int), (0 : Int))).set (2 : Nat) (false, (0 : Int), (9 : Int))).set (3 : Nat) (false, (0 : Int), (9 : Int)))) (3 : Int)).fst.snd.snd.fst, SV.sl opS (ofV (winL syS (0 : Nat) (4 : Nat) (((((List.replicate (4 : Nat) syS.dflt).set (0 : Nat) (true, (1 : Int), (0 : Int))).set (1 : Nat) (true, (2 : Int), (0 : Int))).set (2 : Nat) (false, (0 : Int), (9 : Int))).set (3 : Nat) (false, (0 : Int), (9 : Int)))) (3 : Int)).fst.snd.snd.snd]), ((18 : Nat), LB.var [SV.bool false, SV.int IntKind.i64 (3 : Int), SV.int IntKind.i64 (4 : Int), SV.win true opS (80 : Nat) (0 : Nat) (2 : Nat)]), ((20 : Nat), LB.row (5 : Nat) uB ((((List.replicate (3 : Nat) uB.dflt).set (0 : Nat) (1 : Int)).set (1 : Nat) (2 : Int)).set (2 : Nat) (3 : Int))), ((23 : Nat), LB.row (28 : Nat) opS (((List.replicate (2 : Nat) opS.dflt).set (0 : Nat) ((1 : Int), (1 : Int), (2 : Int), (0 : Int), [])).set (1 : Nat) ((3 : Int), (0 : Int), (2 : Int), (9 : Int), []))), ((27 : Nat), LB.row (28 : Nat) opS ([((2 : Int), (0 : Int), (2 : Int), (0 : Int), winL uB (0 : Nat) (2 : Nat) (((List.replicate (2 : Nat) uB.dflt).set (0 : Nat) (255 : Int)).set (1 : Nat) (1 : Int)))] : List opS.D)), ((48 : Nat), LB.row (28 : Nat) opS ([((1 : Int), (2 : Int), (2 : Int), (0 : Int), [])] : List opS.D)), ((56 : Nat), LB.row (28 : Nat) opS ([((4 : Int), (0 : Int), (1 : Int), (0 : Int), ([(7 : Int)] : List uB.D))] : List opS.D)), ((80 : Nat), LB.row (28 : Nat) opS (((List.replicate (2 : Nat) opS.dflt).set (0 : Nat) ((1 : Int), (1 : Int), (2 : Int), (0 : Int), [])).set (1 : Nat) ((4 : Int), (0 : Int), (2 : Int), (0 : Int), winL uB (0 : Nat) (2 : Nat) (((List.replicate (2 : Nat) uB.dflt).set (0 : Nat) (9 : Int)).set (1 : Nat) (9 : Int))))), ((86 : Nat), LB.row (5 : Nat) uB (((((List.replicate (4 : Nat) uB.dflt).set (0 : Nat) (2 : Int)).set (1 : Nat) (3 : Int)).set (2 : Nat) (9 : Int)).set (3 : Nat) (9 : Int))), ((95 : Nat), LB.row (5 : Nat) uB (((List.replicate (2 : Nat) uB.dflt).set (0 : Nat) (0 : Int)).set (1 : Nat) (3 : Int))), ((108 : Nat), LB.row (34 : Nat) syS (((((List.replicate (4 : Nat) syS.dflt).set (0 : Nat) (true, (1 : Int), (0 : Int))).set (1 : Nat) (true, (2 : Int), (0 : Int))).set (2 : Nat) (false, (0 : Int), (9 : Int))).set (3 : Nat) (false, (0 : Int), (9 : Int)))), ((1131072 : Nat), LB.row (5 : Nat) uB (apV (winL uB (0 : Nat) (3 : Nat) ((((List.replicate (3 : Nat) uB.dflt).set (0 : Nat) (1 : Int)).set (1 : Nat) (2 : Int)).set (2 : Nat) (3 : Int))) (false, (3 : Int), (4 : Int), winL opS (0 : Nat) (2 : Nat) (((List.replicate (2 : Nat) opS.dflt).set (0 : Nat) ((1 : Int), (1 : Int), (2 : Int), (0 : Int), [])).set (1 : Nat) ((3 : Int), (0 : Int), (2 : Int), (9 : Int), [])))).fst), ((1155648 : Nat), LB.row (5 : Nat) uB (apV (winL uB (0 : Nat) (3 : Nat) ((((List.replicate (3 : Nat) uB.dflt).set (0 : Nat) (1 : Int)).set (1 : Nat) (2 : Int)).set (2 : Nat) (3 : Int))) (false, (3 : Int), (2 : Int), ([((2 : Int), (0 : Int), (2 : Int), (0 : Int), winL uB (0 : Nat) (2 : Nat) (((List.replicate (2 : Nat) uB.dflt).set (0 : Nat) (255 : Int)).set (1 : Nat) (1 : Int)))] : List opS.D))).fst), ((1176128 : Nat), LB.row (34 : Nat) syS (symV (false, (3 : Int), (4 : Int), winL opS (0 : Nat) (2 : Nat) (((List.replicate (2 : Nat) opS.dflt).set (0 : Nat) ((1 : Int), (1 : Int), (2 : Int), (0 : Int), [])).set (1 : Nat) ((3 : Int), (0 : Int), (2 : Int), (9 : Int), [])))).fst), ((1303104 : Nat), LB.row (5 : Nat) uB (apV (winL uB ((0 : Nat) + (0 : Nat)) (Int.toNat (2 : Int) - (0 : Nat)) ((((List.replicate (3 : Nat) uB.dflt).set (0 : Nat) (1 : Int)).set (1 : Nat) (2 : Int)).set (2 : Nat) (3 : Int))) (false, (3 : Int), (4 : Int), winL opS (0 : Nat) (2 : Nat) (((List.replicate (2 : Nat) opS.dflt).set (0 : Nat) ((1 : Int), (1 : Int), (2 : Int), (0 : Int), [])).set (1 : Nat) ((3 : Int), (0 : Int), (2 : Int), (9 : Int), [])))).fst)]) := by kernel_rfl
end Go.Proofs.YtdlbcbgkpmpjlaaDoor
namespace Go.Proofs.YtdlbcbgkpmpjlaaDoor
open Go.Px Go.Ax
set_option maxRecDepth 100000
attribute [local irreducible] Go.Px.sy Go.Px.syE
def ctSan : Ctr := ⟨[], fun _ => True, fun _ => [.bool true], fun _ => []⟩
instance (x : OpT) : Decidable (k14 x) := by unfold k14; infer_instance
instance (l : List SyT) : Decidable (preMd l) := by unfold preMd; infer_instance
theorem san_run (R : List Item → PS → Prop) : sy tt G0 CN Tryd.f4.ntmps Tryd.f4.results.toList (QC ctSan ()) R 1000 [.code (bodyOf Tryd.f4)] (entry [] ()) := by
  refine (vc_san _ _).mpr ?_
  repeat' first
    | exact trivial
    | decide +kernel
    | refine And.intro ?_ ?_
    | (refine QC.flat ?_ rfl rfl)
    | exact (rfl : _ = false)
    | (show List.length _ < 1099511627776; decide +kernel)
    | (refine congrArg (fun b => [SV.bool b]) ?_; decide +kernel)
theorem san_held : Held Tryd.prog G0 4 ctSan := Held.run cxN (fn := Tryd.f4) rfl rfl ⟨by decide, by decide⟩ fun x _ => san_run _
end Go.Proofs.YtdlbcbgkpmpjlaaDoor
namespace Go.Proofs.YtdlbcbgkpmpjlaaDoor
open Go.Px Go.Ax
set_option maxRecDepth 100000
def CL : CV := (4, .inl ctSan) :: CN
theorem cxL : CxOK Tryd.prog tt G0 CL := cxN.cons san_held (fn := Tryd.f4) rfl rfl rfl
set_option maxRecDepth 100000
theorem vc_lim (n : Int) (Q : List SV → List (Nat × LB) → Prop) (R : List Item → PS → Prop) : sy tt G0 CL Tryd.f3.ntmps Tryd.f3.results.toList Q R 1000 [.code (bodyOf Tryd.f3)] (entry [uB] (n, ())) =
    (ctSan.pre () ∧
 (8 : Int) ≠ (0 : Int) ∧
 bc (decide (n.tmod (8 : Int) ≠ (0 : Int))) (Q [SV.bool true] []) ((8 : Int) ≠ (0 : Int) ∧
 (3 : Int) ≠ (0 : Int) ∧
 R (hd Tryd.f3 (0 : Nat)) { env := [((0 : Nat), SV.int IntKind.u8 n), ((2 : Nat), SV.bool false), ((3 : Nat), SV.bool true), ((4 : Nat), SV.ptr (4 : Nat) (0 : Nat)), ((5 : Nat), SV.int IntKind.i64 (0 : Int)), ((20 : Nat), SV.bool true), ((21 : Nat), SV.int IntKind.u8 n), ((22 : Nat), SV.int IntKind.u8 (n.tmod (8 : Int))), ((23 : Nat), SV.bool (decide (n.tmod (8 : Int) ≠ (0 : Int)))), ((25 : Nat), SV.int IntKind.u8 n), ((26 : Nat), SV.int IntKind.i64 (IntKind.i64.wrap n)), ((27 : Nat), SV.int IntKind.i64 (IntKind.i64.wrap ((IntKind.i64.wrap n).tdiv (8 : Int)))), ((28 : Nat), SV.int IntKind.i64 ((IntKind.i64.wrap ((IntKind.i64.wrap n).tdiv (8 : Int))).tmod (3 : Int))), ((29 : Nat), SV.int IntKind.i64 (IntKind.i64.wrap ((4095 : Int) + (IntKind.i64.wrap ((IntKind.i64.wrap n).tdiv (8 : Int))).tmod (3 : Int)))), ((30 : Nat), SV.agg [SV.bool false, SV.int IntKind.i64 (1 : Int), SV.int IntKind.i64 (IntKind.i64.wrap ((4095 : Int) + (IntKind.i64.wrap ((IntKind.i64.wrap n).tdiv (8 : Int))).tmod (3 : Int))), SV.nils])], blk := [((4 : Nat), LB.var [SV.bool false, SV.int IntKind.i64 (1 : Int), SV.int IntKind.i64 (IntKind.i64.wrap ((4095 : Int) + (IntKind.i64.wrap ((IntKind.i64.wrap n).tdiv (8 : Int))).tmod (3 : Int))), SV.nils])] })) := by kernel_rfl
theorem vc_limA (n u : Int) (Q : List SV → List (Nat × LB) → Prop) (R : List Item → PS → Prop) : sy tt G0 CL Tryd.f3.ntmps Tryd.f3.results.toList Q R 1000 (hd Tryd.f3 0) ⟨[(0, .int .u8 n), (3, .bool true), (4, .ptr 4 0), (5, .int .i64 0)], [(4, .var [.bool false, .int .i64 1, .int .i64 u, .nils])]⟩ =
    (bc (decide ((0 : Int) < u)) ((0 : Nat) + (1 : Nat) ≤ ([((1 : Int), (0 : Int), (1 : Int), (0 : Int), [])] : List opS.D).length ∧
 (([((1 : Int), (0 : Int), (1 : Int), (0 : Int), [])] : List opS.D)).length < (2 : Nat) ^ (30 : Nat) ∧
 (56 : Nat) ≤ (2 : Nat) ^ (10 : Nat) ∧
 R (hd Tryd.f3 (0 : Nat)) { env := [((0 : Nat), SV.int IntKind.u8 n), ((3 : Nat), SV.bool true), ((4 : Nat), SV.ptr (4 : Nat) (0 : Nat)), ((5 : Nat), SV.int IntKind.i64 (IntKind.i64.wrap ((0 : Int) + (1 : Int)))), ((31 : Nat), SV.int IntKind.i64 (0 : Int)), ((32 : Nat), SV.ptr (4 : Nat) (2 : Nat)), ((33 : Nat), SV.int IntKind.i64 u), ((34 : Nat), SV.bool (decide ((0 : Int) < u))), ((35 : Nat), SV.int IntKind.i64 (0 : Int)), ((36 : Nat), SV.int IntKind.i64 (IntKind.i64.wrap ((0 : Int) + (1 : Int)))), ((37 : Nat), SV.ptr (4 : Nat) (3 : Nat)), ((38 : Nat), SV.nils), ((39 : Nat), SV.agg [SV.int IntKind.i64 (1 : Int), SV.int IntKind.i64 (0 : Int), SV.int IntKind.i64 (1 : Int), SV.int IntKind.u8 (0 : Int), SV.nils]), ((40 : Nat), SV.win true opS (40 : Nat) (0 : Nat) (1 : Nat)), ((41 : Nat), SV.win true opS (41 : Nat) (0 : Nat) (1 : Nat)), ((42 : Nat), SV.ptr (4 : Nat) (3 : Nat))], blk := [((4 : Nat), LB.var [SV.bool false, SV.int IntKind.i64 (1 : Int), SV.int IntKind.i64 u, SV.win true opS (41 : Nat) (0 : Nat) (1 : Nat)]), ((40 : Nat), LB.row (28 : Nat) opS ([((1 : Int), (0 : Int), (1 : Int), (0 : Int), [])] : List opS.D)), ((41 : Nat), LB.row (28 : Nat) opS (([((1 : Int), (0 : Int), (1 : Int), (0 : Int), [])] : List opS.D)))] }) (ctChk.pre ((false, (1 : Int), u, []), ()) ∧
 (0 : Nat) + (1 : Nat) ≤ ([((1 : Int), (0 : Int), (65536 : Int), (0 : Int), [])] : List opS.D).length ∧
 ctChk.pre ((false, (65536 : Int), (65536 : Int), ([((1 : Int), (0 : Int), (65536 : Int), (0 : Int), [])] : List opS.D)), ()) ∧
 (0 : Nat) + (1 : Nat) ≤ ([((1 : Int), (0 : Int), (65536 : Int), (0 : Int), [])] : List opS.D).length ∧
 ctChk.pre ((false, IntKind.i64.wrap ((65536 : Int) + (1 : Int)), (65536 : Int), ([((1 : Int), (0 : Int), (65536 : Int), (0 : Int), [])] : List opS.D)), ()) ∧
 (0 : Nat) + (1 : Nat) ≤ ([((3 : Int), (0 : Int), (65537 : Int), (0 : Int), [])] : List opS.D).length ∧
 ctChk.pre ((false, (0 : Int), (65537 : Int), ([((3 : Int), (0 : Int), (65537 : Int), (0 : Int), [])] : List opS.D)), ()) ∧
 (0 : Int) ≤ u ∧
 u ≤ u ∧
 u < (2 : Int) ^ (24 : Nat) ∧
 (↑(24 : Nat) : Int) * u ≤ (2 : Int) ^ (48 : Nat) ∧
 R (hd Tryd.f3 (1 : Nat)) { env := [((0 : Nat), SV.int IntKind.u8 n), ((3 : Nat), SV.bool true), ((4 : Nat), SV.ptr (4 : Nat) (0 : Nat)), ((5 : Nat), SV.int IntKind.i64 (0 : Int)), ((6 : Nat), SV.int IntKind.i64 (chkV (false, (1 : Int), u, [])).fst), ((7 : Nat), SV.int IntKind.i64 (chkV (false, (1 : Int), u, [])).snd), ((8 : Nat), SV.ptr (8 : Nat) (0 : Nat)), ((9 : Nat), SV.int IntKind.i64 (chkV (false, (65536 : Int), (65536 : Int), ([((1 : Int), (0 : Int), (65536 : Int), (0 : Int), [])] : List opS.D))).fst), ((10 : Nat), SV.int IntKind.i64 (chkV (false, (65536 : Int), (65536 : Int), ([((1 : Int), (0 : Int), (65536 : Int), (0 : Int), [])] : List opS.D))).snd), ((11 : Nat), SV.int IntKind.i64 (chkV (false, IntKind.i64.wrap ((65536 : Int) + (1 : Int)), (65536 : Int), ([((1 : Int), (0 : Int), (65536 : Int), (0 : Int), [])] : List opS.D))).fst), ((12 : Nat), SV.int IntKind.i64 (chkV (false, IntKind.i64.wrap ((65536 : Int) + (1 : Int)), (65536 : Int), ([((1 : Int), (0 : Int), (65536 : Int), (0 : Int), [])] : List opS.D))).snd), ((13 : Nat), SV.int IntKind.i64 (chkV (false, (0 : Int), (65537 : Int), ([((3 : Int), (0 : Int), (65537 : Int), (0 : Int), [])] : List opS.D))).fst), ((14 : Nat), SV.int IntKind.i64 (chkV (false, (0 : Int), (65537 : Int), ([((3 : Int), (0 : Int), (65537 : Int), (0 : Int), [])] : List opS.D))).snd), ((15 : Nat), SV.win true syS (74 : Nat) (0 : Nat) u.toNat), ((16 : Nat), SV.int IntKind.i64 (0 : Int)), ((31 : Nat), SV.int IntKind.i64 (0 : Int)), ((32 : Nat), SV.ptr (4 : Nat) (2 : Nat)), ((33 : Nat), SV.int IntKind.i64 u), ((34 : Nat), SV.bool (decide ((0 : Int) < u))), ((43 : Nat), SV.tup [SV.int IntKind.i64 (chkV (false, (1 : Int), u, [])).fst, SV.int IntKind.i64 (chkV (false, (1 : Int), u, [])).snd]), ((44 : Nat), SV.agg [SV.bool false, SV.int IntKind.i64 (1 : Int), SV.int IntKind.i64 u, SV.nils]), ((45 : Nat), SV.tup [SV.int IntKind.i64 (chkV (false, (1 : Int), u, [])).fst, SV.int IntKind.i64 (chkV (false, (1 : Int), u, [])).snd]), ((46 : Nat), SV.int IntKind.i64 (chkV (false, (1 : Int), u, [])).fst), ((47 : Nat), SV.int IntKind.i64 (chkV (false, (1 : Int), u, [])).snd), ((48 : Nat), SV.agg [SV.int IntKind.i64 (1 : Int), SV.int IntKind.i64 (0 : Int), SV.int IntKind.i64 (65536 : Int), SV.int IntKind.u8 (0 : Int), SV.nils]), ((49 : Nat), SV.win true opS (49 : Nat) (0 : Nat) (1 : Nat)), ((50 : Nat), SV.agg [SV.bool false, SV.int IntKind.i64 (65536 : Int), SV.int IntKind.i64 (65536 : Int), SV.win true opS (49 : Nat) (0 : Nat) (1 : Nat)]), ((51 : Nat), SV.tup [SV.int IntKind.i64 (chkV (false, (65536 : Int), (65536 : Int), ([((1 : Int), (0 : Int), (65536 : Int), (0 : Int), [])] : List opS.D))).fst, SV.int IntKind.i64 (chkV (false, (65536 : Int), (65536 : Int), ([((1 : Int), (0 : Int), (65536 : Int), (0 : Int), [])] : List opS.D))).snd]), ((52 : Nat), SV.agg [SV.bool false, SV.int IntKind.i64 (65536 : Int), SV.int IntKind.i64 (65536 : Int), SV.win true opS (49 : Nat) (0 : Nat) (1 : Nat)]), ((53 : Nat), SV.tup [SV.int IntKind.i64 (chkV (false, (65536 : Int), (65536 : Int), ([((1 : Int), (0 : Int), (65536 : Int), (0 : Int), [])] : List opS.D))).fst, SV.int IntKind.i64 (chkV (false, (65536 : Int), (65536 : Int), ([((1 : Int), (0 : Int), (65536 : Int), (0 : Int), [])] : List opS.D))).snd]), ((54 : Nat), SV.int IntKind.i64 (chkV (false, (65536 : Int), (65536 : Int), ([((1 : Int), (0 : Int), (65536 : Int), (0 : Int), [])] : List opS.D))).fst), ((55 : Nat), SV.int IntKind.i64 (chkV (false, (65536 : Int), (65536 : Int), ([((1 : Int), (0 : Int), (65536 : Int), (0 : Int), [])] : List opS.D))).snd), ((56 : Nat), SV.ptr (8 : Nat) (1 : Nat)), ((57 : Nat), SV.int IntKind.i64 (65536 : Int)), ((58 : Nat), SV.int IntKind.i64 (IntKind.i64.wrap ((65536 : Int) + (1 : Int)))), ((59 : Nat), SV.ptr (8 : Nat) (1 : Nat)), ((60 : Nat), SV.tup [SV.int IntKind.i64 (chkV (false, IntKind.i64.wrap ((65536 : Int) + (1 : Int)), (65536 : Int), ([((1 : Int), (0 : Int), (65536 : Int), (0 : Int), [])] : List opS.D))).fst, SV.int IntKind.i64 (chkV (false, IntKind.i64.wrap ((65536 : Int) + (1 : Int)), (65536 : Int), ([((1 : Int), (0 : Int), (65536 : Int), (0 : Int), [])] : List opS.D))).snd]), ((61 : Nat), SV.agg [SV.bool false, SV.int IntKind.i64 (IntKind.i64.wrap ((65536 : Int) + (1 : Int))), SV.int IntKind.i64 (65536 : Int), SV.win true opS (49 : Nat) (0 : Nat) (1 : Nat)]), ((62 : Nat), SV.tup [SV.int IntKind.i64 (chkV (false, IntKind.i64.wrap ((65536 : Int) + (1 : Int)), (65536 : Int), ([((1 : Int), (0 : Int), (65536 : Int), (0 : Int), [])] : List opS.D))).fst, SV.int IntKind.i64 (chkV (false, IntKind.i64.wrap ((65536 : Int) + (1 : Int)), (65536 : Int), ([((1 : Int), (0 : Int), (65536 : Int), (0 : Int), [])] : List opS.D))).snd]), ((63 : Nat), SV.int IntKind.i64 (chkV (false, IntKind.i64.wrap ((65536 : Int) + (1 : Int)), (65536 : Int), ([((1 : Int), (0 : Int), (65536 : Int), (0 : Int), [])] : List opS.D))).fst), ((64 : Nat), SV.int IntKind.i64 (chkV (false, IntKind.i64.wrap ((65536 : Int) + (1 : Int)), (65536 : Int), ([((1 : Int), (0 : Int), (65536 : Int), (0 : Int), [])] : List opS.D))).snd), ((65 : Nat), SV.tup [SV.int IntKind.i64 (chkV (false, (0 : Int), (65537 : Int), ([((3 : Int), (0 : Int), (65537 : Int), (0 : Int), [])] : List opS.D))).fst, SV.int IntKind.i64 (chkV (false, (0 : Int), (65537 : Int), ([((3 : Int), (0 : Int), (65537 : Int), (0 : Int), [])] : List opS.D))).snd]), ((66 : Nat), SV.agg [SV.int IntKind.i64 (3 : Int), SV.int IntKind.i64 (0 : Int), SV.int IntKind.i64 (65537 : Int), SV.int IntKind.u8 (0 : Int), SV.nils]), ((67 : Nat), SV.win true opS (67 : Nat) (0 : Nat) (1 : Nat)), ((68 : Nat), SV.agg [SV.bool false, SV.int IntKind.i64 (0 : Int), SV.int IntKind.i64 (65537 : Int), SV.win true opS (67 : Nat) (0 : Nat) (1 : Nat)]), ((69 : Nat), SV.tup [SV.int IntKind.i64 (chkV (false, (0 : Int), (65537 : Int), ([((3 : Int), (0 : Int), (65537 : Int), (0 : Int), [])] : List opS.D))).fst, SV.int IntKind.i64 (chkV (false, (0 : Int), (65537 : Int), ([((3 : Int), (0 : Int), (65537 : Int), (0 : Int), [])] : List opS.D))).snd]), ((70 : Nat), SV.int IntKind.i64 (chkV (false, (0 : Int), (65537 : Int), ([((3 : Int), (0 : Int), (65537 : Int), (0 : Int), [])] : List opS.D))).fst), ((71 : Nat), SV.int IntKind.i64 (chkV (false, (0 : Int), (65537 : Int), ([((3 : Int), (0 : Int), (65537 : Int), (0 : Int), [])] : List opS.D))).snd), ((72 : Nat), SV.ptr (4 : Nat) (2 : Nat)), ((73 : Nat), SV.int IntKind.i64 u), ((74 : Nat), SV.win true syS (74 : Nat) (0 : Nat) u.toNat)], blk := [((4 : Nat), LB.var [SV.bool false, SV.int IntKind.i64 (1 : Int), SV.int IntKind.i64 u, SV.nils]), ((8 : Nat), LB.var [SV.bool false, SV.int IntKind.i64 (IntKind.i64.wrap ((65536 : Int) + (1 : Int))), SV.int IntKind.i64 (65536 : Int), SV.win true opS (49 : Nat) (0 : Nat) (1 : Nat)]), ((49 : Nat), LB.row (28 : Nat) opS ([((1 : Int), (0 : Int), (65536 : Int), (0 : Int), [])] : List opS.D)), ((67 : Nat), LB.row (28 : Nat) opS ([((3 : Int), (0 : Int), (65537 : Int), (0 : Int), [])] : List opS.D)), ((74 : Nat), LB.row (34 : Nat) syS (List.replicate u.toNat syS.dflt))] })) := by kernel_rfl
theorem vc_limB (n u : Int) (o : List OpT) (i : Nat) (Q : List SV → List (Nat × LB) → Prop) (R : List Item → PS → Prop) : sy tt G0 CL Tryd.f3.ntmps Tryd.f3.results.toList Q R 1000 (hd Tryd.f3 0) ⟨[(0, .int .u8 n), (3, .bool true), (4, .ptr 4 0), (5, .int .i64 (i : Nat))], [(4, .var [.bool false, .int .i64 1, .int .i64 u, .win true opS 38 0 o.length]), (38, .row 28 opS o)]⟩ =
    (bc (decide ((↑i : Int) < u)) ((0 : Nat) + (1 : Nat) ≤ ([((1 : Int), (0 : Int), (1 : Int), (0 : Int), [])] : List opS.D).length ∧
 o.length = o.length ∧
 (0 : Nat) = (0 : Nat) ∧
 o.length + (([((1 : Int), (0 : Int), (1 : Int), (0 : Int), [])] : List opS.D)).length < (2 : Nat) ^ (30 : Nat) ∧
 (56 : Nat) ≤ (2 : Nat) ^ (10 : Nat) ∧
 R (hd Tryd.f3 (0 : Nat)) { env := [((0 : Nat), SV.int IntKind.u8 n), ((3 : Nat), SV.bool true), ((4 : Nat), SV.ptr (4 : Nat) (0 : Nat)), ((5 : Nat), SV.int IntKind.i64 (IntKind.i64.wrap ((↑i : Int) + (1 : Int)))), ((31 : Nat), SV.int IntKind.i64 (↑i : Int)), ((32 : Nat), SV.ptr (4 : Nat) (2 : Nat)), ((33 : Nat), SV.int IntKind.i64 u), ((34 : Nat), SV.bool (decide ((↑i : Int) < u))), ((35 : Nat), SV.int IntKind.i64 (↑i : Int)), ((36 : Nat), SV.int IntKind.i64 (IntKind.i64.wrap ((↑i : Int) + (1 : Int)))), ((37 : Nat), SV.ptr (4 : Nat) (3 : Nat)), ((39 : Nat), SV.agg [SV.int IntKind.i64 (1 : Int), SV.int IntKind.i64 (0 : Int), SV.int IntKind.i64 (1 : Int), SV.int IntKind.u8 (0 : Int), SV.nils]), ((40 : Nat), SV.win true opS (40 : Nat) (0 : Nat) (1 : Nat)), ((41 : Nat), SV.win true opS (41 : Nat) (0 : Nat) (o.length + (([((1 : Int), (0 : Int), (1 : Int), (0 : Int), [])] : List opS.D)).length)), ((42 : Nat), SV.ptr (4 : Nat) (3 : Nat))], blk := [((4 : Nat), LB.var [SV.bool false, SV.int IntKind.i64 (1 : Int), SV.int IntKind.i64 u, SV.win true opS (41 : Nat) (0 : Nat) (o.length + (([((1 : Int), (0 : Int), (1 : Int), (0 : Int), [])] : List opS.D)).length)]), ((40 : Nat), LB.row (28 : Nat) opS ([((1 : Int), (0 : Int), (1 : Int), (0 : Int), [])] : List opS.D)), ((41 : Nat), LB.row (28 : Nat) opS (o ++ ([((1 : Int), (0 : Int), (1 : Int), (0 : Int), [])] : List opS.D)))] }) ((0 : Nat) + o.length ≤ o.length ∧
 ctChk.pre ((false, (1 : Int), u, winL opS (0 : Nat) o.length o), ()) ∧
 (0 : Nat) + (1 : Nat) ≤ ([((1 : Int), (0 : Int), (65536 : Int), (0 : Int), [])] : List opS.D).length ∧
 ctChk.pre ((false, (65536 : Int), (65536 : Int), ([((1 : Int), (0 : Int), (65536 : Int), (0 : Int), [])] : List opS.D)), ()) ∧
 (0 : Nat) + (1 : Nat) ≤ ([((1 : Int), (0 : Int), (65536 : Int), (0 : Int), [])] : List opS.D).length ∧
 ctChk.pre ((false, IntKind.i64.wrap ((65536 : Int) + (1 : Int)), (65536 : Int), ([((1 : Int), (0 : Int), (65536 : Int), (0 : Int), [])] : List opS.D)), ()) ∧
 (0 : Nat) + (1 : Nat) ≤ ([((3 : Int), (0 : Int), (65537 : Int), (0 : Int), [])] : List opS.D).length ∧
 ctChk.pre ((false, (0 : Int), (65537 : Int), ([((3 : Int), (0 : Int), (65537 : Int), (0 : Int), [])] : List opS.D)), ()) ∧
 (0 : Int) ≤ u ∧
 u ≤ u ∧
 u < (2 : Int) ^ (24 : Nat) ∧
 (↑(24 : Nat) : Int) * u ≤ (2 : Int) ^ (48 : Nat) ∧
 R (hd Tryd.f3 (1 : Nat)) { env := [((0 : Nat), SV.int IntKind.u8 n), ((3 : Nat), SV.bool true), ((4 : Nat), SV.ptr (4 : Nat) (0 : Nat)), ((5 : Nat), SV.int IntKind.i64 (↑i : Int)), ((6 : Nat), SV.int IntKind.i64 (chkV (false, (1 : Int), u, winL opS (0 : Nat) o.length o)).fst), ((7 : Nat), SV.int IntKind.i64 (chkV (false, (1 : Int), u, winL opS (0 : Nat) o.length o)).snd), ((8 : Nat), SV.ptr (8 : Nat) (0 : Nat)), ((9 : Nat), SV.int IntKind.i64 (chkV (false, (65536 : Int), (65536 : Int), ([((1 : Int), (0 : Int), (65536 : Int), (0 : Int), [])] : List opS.D))).fst), ((10 : Nat), SV.int IntKind.i64 (chkV (false, (65536 : Int), (65536 : Int), ([((1 : Int), (0 : Int), (65536 : Int), (0 : Int), [])] : List opS.D))).snd), ((11 : Nat), SV.int IntKind.i64 (chkV (false, IntKind.i64.wrap ((65536 : Int) + (1 : Int)), (65536 : Int), ([((1 : Int), (0 : Int), (65536 : Int), (0 : Int), [])] : List opS.D))).fst), ((12 : Nat), SV.int IntKind.i64 (chkV (false, IntKind.i64.wrap ((65536 : Int) + (1 : Int)), (65536 : Int), ([((1 : Int), (0 : Int), (65536 : Int), (0 : Int), [])] : List opS.D))).snd), ((13 : Nat), SV.int IntKind.i64 (chkV (false, (0 : Int), (65537 : Int), ([((3 : Int), (0 : Int), (65537 : Int), (0 : Int), [])] : List opS.D))).fst), ((14 : Nat), SV.int IntKind.i64 (chkV (false, (0 : Int), (65537 : Int), ([((3 : Int), (0 : Int), (65537 : Int), (0 : Int), [])] : List opS.D))).snd), ((15 : Nat), SV.win true syS (74 : Nat) (0 : Nat) u.toNat), ((16 : Nat), SV.int IntKind.i64 (0 : Int)), ((31 : Nat), SV.int IntKind.i64 (↑i : Int)), ((32 : Nat), SV.ptr (4 : Nat) (2 : Nat)), ((33 : Nat), SV.int IntKind.i64 u), ((34 : Nat), SV.bool (decide ((↑i : Int) < u))), ((43 : Nat), SV.tup [SV.int IntKind.i64 (chkV (false, (1 : Int), u, winL opS (0 : Nat) o.length o)).fst, SV.int IntKind.i64 (chkV (false, (1 : Int), u, winL opS (0 : Nat) o.length o)).snd]), ((44 : Nat), SV.agg [SV.bool false, SV.int IntKind.i64 (1 : Int), SV.int IntKind.i64 u, SV.win true opS (38 : Nat) (0 : Nat) o.length]), ((45 : Nat), SV.tup [SV.int IntKind.i64 (chkV (false, (1 : Int), u, winL opS (0 : Nat) o.length o)).fst, SV.int IntKind.i64 (chkV (false, (1 : Int), u, winL opS (0 : Nat) o.length o)).snd]), ((46 : Nat), SV.int IntKind.i64 (chkV (false, (1 : Int), u, winL opS (0 : Nat) o.length o)).fst), ((47 : Nat), SV.int IntKind.i64 (chkV (false, (1 : Int), u, winL opS (0 : Nat) o.length o)).snd), ((48 : Nat), SV.agg [SV.int IntKind.i64 (1 : Int), SV.int IntKind.i64 (0 : Int), SV.int IntKind.i64 (65536 : Int), SV.int IntKind.u8 (0 : Int), SV.nils]), ((49 : Nat), SV.win true opS (49 : Nat) (0 : Nat) (1 : Nat)), ((50 : Nat), SV.agg [SV.bool false, SV.int IntKind.i64 (65536 : Int), SV.int IntKind.i64 (65536 : Int), SV.win true opS (49 : Nat) (0 : Nat) (1 : Nat)]), ((51 : Nat), SV.tup [SV.int IntKind.i64 (chkV (false, (65536 : Int), (65536 : Int), ([((1 : Int), (0 : Int), (65536 : Int), (0 : Int), [])] : List opS.D))).fst, SV.int IntKind.i64 (chkV (false, (65536 : Int), (65536 : Int), ([((1 : Int), (0 : Int), (65536 : Int), (0 : Int), [])] : List opS.D))).snd]), ((52 : Nat), SV.agg [SV.bool false, SV.int IntKind.i64 (65536 : Int), SV.int IntKind.i64 (65536 : Int), SV.win true opS (49 : Nat) (0 : Nat) (1 : Nat)]), ((53 : Nat), SV.tup [SV.int IntKind.i64 (chkV (false, (65536 : Int), (65536 : Int), ([((1 : Int), (0 : Int), (65536 : Int), (0 : Int), [])] : List opS.D))).fst, SV.int IntKind.i64 (chkV (false, (65536 : Int), (65536 : Int), ([((1 : Int), (0 : Int), (65536 : Int), (0 : Int), [])] : List opS.D))).snd]), ((54 : Nat), SV.int IntKind.i64 (chkV (false, (65536 : Int), (65536 : Int), ([((1 : Int), (0 : Int), (65536 : Int), (0 : Int), [])] : List opS.D))).fst), ((55 : Nat), SV.int IntKind.i64 (chkV (false, (65536 : Int), (65536 : Int), ([((1 : Int), (0 : Int), (65536 : Int), (0 : Int), [])] : List opS.D))).snd), ((56 : Nat), SV.ptr (8 : Nat) (1 : Nat)), ((57 : Nat), SV.int IntKind.i64 (65536 : Int)), ((58 : Nat), SV.int IntKind.i64 (IntKind.i64.wrap ((65536 : Int) + (1 : Int)))), ((59 : Nat), SV.ptr (8 : Nat) (1 : Nat)), ((60 : Nat), SV.tup [SV.int IntKind.i64 (chkV (false, IntKind.i64.wrap ((65536 : Int) + (1 : Int)), (65536 : Int), ([((1 : Int), (0 : Int), (65536 : Int), (0 : Int), [])] : List opS.D))).fst, SV.int IntKind.i64 (chkV (false, IntKind.i64.wrap ((65536 : Int) + (1 : Int)), (65536 : Int), ([((1 : Int), (0 : Int), (65536 : Int), (0 : Int), [])] : List opS.D))).snd]), ((61 : Nat), SV.agg [SV.bool false, SV.int IntKind.i64 (IntKind.i64.wrap ((65536 : Int) + (1 : Int))), SV.int IntKind.i64 (65536 : Int), SV.win true opS (49 : Nat) (0 : Nat) (1 : Nat)]), ((62 : Nat), SV.tup [SV.int IntKind.i64 (chkV (false, IntKind.i64.wrap ((65536 : Int) + (1 : Int)), (65536 : Int), ([((1 : Int), (0 : Int), (65536 : Int), (0 : Int), [])] : List opS.D))).fst, SV.int IntKind.i64 (chkV (false, IntKind.i64.wrap ((65536 : Int) + (1 : Int)), (65536 : Int), ([((1 : Int), (0 : Int), (65536 : Int), (0 : Int), [])] : List opS.D))).snd]), ((63 : Nat), SV.int IntKind.i64 (chkV (false, IntKind.i64.wrap ((65536 : Int) + (1 : Int)), (65536 : Int), ([((1 : Int), (0 : Int), (65536 : Int), (0 : Int), [])] : List opS.D))).fst), ((64 : Nat), SV.int IntKind.i64 (chkV (false, IntKind.i64.wrap ((65536 : Int) + (1 : Int)), (65536 : Int), ([((1 : Int), (0 : Int), (65536 : Int), (0 : Int), [])] : List opS.D))).snd), ((65 : Nat), SV.tup [SV.int IntKind.i64 (chkV (false, (0 : Int), (65537 : Int), ([((3 : Int), (0 : Int), (65537 : Int), (0 : Int), [])] : List opS.D))).fst, SV.int IntKind.i64 (chkV (false, (0 : Int), (65537 : Int), ([((3 : Int), (0 : Int), (65537 : Int), (0 : Int), [])] : List opS.D))).snd]), ((66 : Nat), SV.agg [SV.int IntKind.i64 (3 : Int), SV.int IntKind.i64 (0 : Int), SV.int IntKind.i64 (65537 : Int), SV.int IntKind.u8 (0 : Int), SV.nils]), ((67 : Nat), SV.win true opS (67 : Nat) (0 : Nat) (1 : Nat)), ((68 : Nat), SV.agg [SV.bool false, SV.int IntKind.i64 (0 : Int), SV.int IntKind.i64 (65537 : Int), SV.win true opS (67 : Nat) (0 : Nat) (1 : Nat)]), ((69 : Nat), SV.tup [SV.int IntKind.i64 (chkV (false, (0 : Int), (65537 : Int), ([((3 : Int), (0 : Int), (65537 : Int), (0 : Int), [])] : List opS.D))).fst, SV.int IntKind.i64 (chkV (false, (0 : Int), (65537 : Int), ([((3 : Int), (0 : Int), (65537 : Int), (0 : Int), [])] : List opS.D))).snd]), ((70 : Nat), SV.int IntKind.i64 (chkV (false, (0 : Int), (65537 : Int), ([((3 : Int), (0 : Int), (65537 : Int), (0 : Int), [])] : List opS.D))).fst), ((71 : Nat), SV.int IntKind.i64 (chkV (false, (0 : Int), (65537 : Int), ([((3 : Int), (0 : Int), (65537 : Int), (0 : Int), [])] : List opS.D))).snd), ((72 : Nat), SV.ptr (4 : Nat) (2 : Nat)), ((73 : Nat), SV.int IntKind.i64 u), ((74 : Nat), SV.win true syS (74 : Nat) (0 : Nat) u.toNat)], blk := [((4 : Nat), LB.var [SV.bool false, SV.int IntKind.i64 (1 : Int), SV.int IntKind.i64 u, SV.win true opS (38 : Nat) (0 : Nat) o.length]), ((8 : Nat), LB.var [SV.bool false, SV.int IntKind.i64 (IntKind.i64.wrap ((65536 : Int) + (1 : Int))), SV.int IntKind.i64 (65536 : Int), SV.win true opS (49 : Nat) (0 : Nat) (1 : Nat)]), ((38 : Nat), LB.row (28 : Nat) opS o), ((49 : Nat), LB.row (28 : Nat) opS ([((1 : Int), (0 : Int), (65536 : Int), (0 : Int), [])] : List opS.D)), ((67 : Nat), LB.row (28 : Nat) opS ([((3 : Int), (0 : Int), (65537 : Int), (0 : Int), [])] : List opS.D)), ((74 : Nat), LB.row (34 : Nat) syS (List.replicate u.toNat syS.dflt))] })) := by kernel_rfl
theorem vc_limC (k e f a g b h u : Int) (o : List OpT) (s : List SyT) (i : Nat) (Q : List SV → List (Nat × LB) → Prop) (R : List Item → PS → Prop) : sy tt G0 CL Tryd.f3.ntmps Tryd.f3.results.toList Q R 1000 (hd Tryd.f3 1) ⟨[(3, .bool true), (4, .ptr 4 0), (6, .int .i64 k), (7, .int .i64 e), (10, .int .i64 f), (11, .int .i64 a), (12, .int .i64 g), (13, .int .i64 b), (14, .int .i64 h), (15, .win true syS 74 0 s.length), (16, .int .i64 (i : Nat))], [(4, .var [.bool false, .int .i64 1, .int .i64 u, .win true opS 38 0 o.length]), (38, .row 28 opS o), (74, .row 34 syS s)]⟩ =
    (bc (decide ((↑i : Int) < (↑s.length : Int))) ((2 : Int) ≠ (0 : Int) ∧
 (0 : Int) ≤ (↑i : Int) ∧
 (↑i : Int) < (↑s.length : Int) ∧
 (0 : Nat) + (↑i : Int).toNat < s.length ∧
 R (hd Tryd.f3 (1 : Nat)) { env := [((3 : Nat), SV.bool true), ((4 : Nat), SV.ptr (4 : Nat) (0 : Nat)), ((6 : Nat), SV.int IntKind.i64 k), ((7 : Nat), SV.int IntKind.i64 e), ((10 : Nat), SV.int IntKind.i64 f), ((11 : Nat), SV.int IntKind.i64 a), ((12 : Nat), SV.int IntKind.i64 g), ((13 : Nat), SV.int IntKind.i64 b), ((14 : Nat), SV.int IntKind.i64 h), ((15 : Nat), SV.win true syS (74 : Nat) (0 : Nat) s.length), ((16 : Nat), SV.int IntKind.i64 (IntKind.i64.wrap ((↑i : Int) + (1 : Int)))), ((75 : Nat), SV.int IntKind.i64 (↑i : Int)), ((76 : Nat), SV.win true syS (74 : Nat) (0 : Nat) s.length), ((77 : Nat), SV.int IntKind.i64 (↑s.length : Int)), ((78 : Nat), SV.bool (decide ((↑i : Int) < (↑s.length : Int)))), ((79 : Nat), SV.int IntKind.i64 (↑i : Int)), ((80 : Nat), SV.int IntKind.i64 (IntKind.i64.wrap ((↑i : Int) + (1 : Int)))), ((81 : Nat), SV.win true syS (74 : Nat) (0 : Nat) s.length), ((82 : Nat), SV.int IntKind.i64 (↑i : Int)), ((83 : Nat), SV.int IntKind.i64 (↑i : Int)), ((84 : Nat), SV.int IntKind.i64 ((↑i : Int).tmod (2 : Int))), ((85 : Nat), SV.bool (decide ((↑i : Int).tmod (2 : Int) = (1 : Int)))), ((86 : Nat), SV.agg [SV.bool (decide ((↑i : Int).tmod (2 : Int) = (1 : Int))), SV.int IntKind.i64 (0 : Int), SV.int IntKind.u8 (0 : Int)]), ((87 : Nat), SV.elp syS (74 : Nat) ((0 : Nat) + (↑i : Int).toNat) (0 : Nat))], blk := [((4 : Nat), LB.var [SV.bool false, SV.int IntKind.i64 (1 : Int), SV.int IntKind.i64 u, SV.win true opS (38 : Nat) (0 : Nat) o.length]), ((38 : Nat), LB.row (28 : Nat) opS o), ((74 : Nat), LB.row (34 : Nat) syS (s.set ((0 : Nat) + (↑i : Int).toNat) (decide ((↑i : Int).tmod (2 : Int) = (1 : Int)), (0 : Int), (0 : Int))))] }) ((0 : Nat) + s.length ≤ s.length ∧
 (0 : Nat) + s.length ≤ s.length ∧
 (0 : Nat) + s.length ≤ s.length ∧
 ctOf.pre (winL syS (0 : Nat) s.length s, (1 : Int), ()) ∧
 bc (decide (e = (0 : Int)) == decide (u ≤ (4096 : Int))) (bc (decide (u ≤ (4096 : Int))) (true = true ∧
 bc (bif true then decide (f = (0 : Int)) else false) (bc (bif true then decide (a = (-1 : Int)) else false) (bc (bif true then decide (g = (60 : Int)) else false) (bc (bif true then decide (b = (-1 : Int)) else false) (bc (bif true then decide (h = (60 : Int)) else false) (bc (bif true then decide ((ofV (winL syS (0 : Nat) s.length s) (1 : Int)).snd = (0 : Int)) == decide (u ≤ (4096 : Int)) else false) (bc (decide (u ≤ (4096 : Int))) (true = true ∧
 Q [SV.bool true] [((4 : Nat), LB.var [SV.bool false, SV.int IntKind.i64 (1 : Int), SV.int IntKind.i64 u, SV.win true opS (38 : Nat) (0 : Nat) o.length]), ((17 : Nat), LB.var [SV.bool (ofV (winL syS (0 : Nat) s.length s) (1 : Int)).fst.fst, SV.int IntKind.i64 (ofV (winL syS (0 : Nat) s.length s) (1 : Int)).fst.snd.fst, SV.int IntKind.i64 (ofV (winL syS (0 : Nat) s.length s) (1 : Int)).fst.snd.snd.fst, SV.sl opS (ofV (winL syS (0 : Nat) s.length s) (1 : Int)).fst.snd.snd.snd]), ((38 : Nat), LB.row (28 : Nat) opS o)]) (bc (bif true then bif false then true else decide ((ofV (winL syS (0 : Nat) s.length s) (1 : Int)).snd = (2 : Int)) else false) (Q [SV.bool true] [((4 : Nat), LB.var [SV.bool false, SV.int IntKind.i64 (1 : Int), SV.int IntKind.i64 u, SV.win true opS (38 : Nat) (0 : Nat) o.length]), ((17 : Nat), LB.var [SV.bool (ofV (winL syS (0 : Nat) s.length s) (1 : Int)).fst.fst, SV.int IntKind.i64 (ofV (winL syS (0 : Nat) s.length s) (1 : Int)).fst.snd.fst, SV.int IntKind.i64 (ofV (winL syS (0 : Nat) s.length s) (1 : Int)).fst.snd.snd.fst, SV.sl opS (ofV (winL syS (0 : Nat) s.length s) (1 : Int)).fst.snd.snd.snd]), ((38 : Nat), LB.row (28 : Nat) opS o)]) (false = false ∧
 Q [SV.bool false] [((4 : Nat), LB.var [SV.bool false, SV.int IntKind.i64 (1 : Int), SV.int IntKind.i64 u, SV.win true opS (38 : Nat) (0 : Nat) o.length]), ((17 : Nat), LB.var [SV.bool (ofV (winL syS (0 : Nat) s.length s) (1 : Int)).fst.fst, SV.int IntKind.i64 (ofV (winL syS (0 : Nat) s.length s) (1 : Int)).fst.snd.fst, SV.int IntKind.i64 (ofV (winL syS (0 : Nat) s.length s) (1 : Int)).fst.snd.snd.fst, SV.sl opS (ofV (winL syS (0 : Nat) s.length s) (1 : Int)).fst.snd.snd.snd]), ((38 : Nat), LB.row (28 : Nat) opS o)]))) (false = false ∧
 false = false ∧
 Q [SV.bool false] [((4 : Nat), LB.var [SV.bool false, SV.int IntKind.i64 (1 : Int), SV.int IntKind.i64 u, SV.win true opS (38 : Nat) (0 : Nat) o.length]), ((17 : Nat), LB.var [SV.bool (ofV (winL syS (0 : Nat) s.length s) (1 : Int)).fst.fst, SV.int IntKind.i64 (ofV (winL syS (0 : Nat) s.length s) (1 : Int)).fst.snd.fst, SV.int IntKind.i64 (ofV (winL syS (0 : Nat) s.length s) (1 : Int)).fst.snd.snd.fst, SV.sl opS (ofV (winL syS (0 : Nat) s.length s) (1 : Int)).fst.snd.snd.snd]), ((38 : Nat), LB.row (28 : Nat) opS o)])) (false = false ∧
 false = false ∧
 false = false ∧
 Q [SV.bool false] [((4 : Nat), LB.var [SV.bool false, SV.int IntKind.i64 (1 : Int), SV.int IntKind.i64 u, SV.win true opS (38 : Nat) (0 : Nat) o.length]), ((17 : Nat), LB.var [SV.bool (ofV (winL syS (0 : Nat) s.length s) (1 : Int)).fst.fst, SV.int IntKind.i64 (ofV (winL syS (0 : Nat) s.length s) (1 : Int)).fst.snd.fst, SV.int IntKind.i64 (ofV (winL syS (0 : Nat) s.length s) (1 : Int)).fst.snd.snd.fst, SV.sl opS (ofV (winL syS (0 : Nat) s.length s) (1 : Int)).fst.snd.snd.snd]), ((38 : Nat), LB.row (28 : Nat) opS o)])) (false = false ∧
 false = false ∧
 false = false ∧
 false = false ∧
 Q [SV.bool false] [((4 : Nat), LB.var [SV.bool false, SV.int IntKind.i64 (1 : Int), SV.int IntKind.i64 u, SV.win true opS (38 : Nat) (0 : Nat) o.length]), ((17 : Nat), LB.var [SV.bool (ofV (winL syS (0 : Nat) s.length s) (1 : Int)).fst.fst, SV.int IntKind.i64 (ofV (winL syS (0 : Nat) s.length s) (1 : Int)).fst.snd.fst, SV.int IntKind.i64 (ofV (winL syS (0 : Nat) s.length s) (1 : Int)).fst.snd.snd.fst, SV.sl opS (ofV (winL syS (0 : Nat) s.length s) (1 : Int)).fst.snd.snd.snd]), ((38 : Nat), LB.row (28 : Nat) opS o)])) (false = false ∧
 false = false ∧
 false = false ∧
 false = false ∧
 false = false ∧
 Q [SV.bool false] [((4 : Nat), LB.var [SV.bool false, SV.int IntKind.i64 (1 : Int), SV.int IntKind.i64 u, SV.win true opS (38 : Nat) (0 : Nat) o.length]), ((17 : Nat), LB.var [SV.bool (ofV (winL syS (0 : Nat) s.length s) (1 : Int)).fst.fst, SV.int IntKind.i64 (ofV (winL syS (0 : Nat) s.length s) (1 : Int)).fst.snd.fst, SV.int IntKind.i64 (ofV (winL syS (0 : Nat) s.length s) (1 : Int)).fst.snd.snd.fst, SV.sl opS (ofV (winL syS (0 : Nat) s.length s) (1 : Int)).fst.snd.snd.snd]), ((38 : Nat), LB.row (28 : Nat) opS o)])) (false = false ∧
 false = false ∧
 false = false ∧
 false = false ∧
 false = false ∧
 false = false ∧
 Q [SV.bool false] [((4 : Nat), LB.var [SV.bool false, SV.int IntKind.i64 (1 : Int), SV.int IntKind.i64 u, SV.win true opS (38 : Nat) (0 : Nat) o.length]), ((17 : Nat), LB.var [SV.bool (ofV (winL syS (0 : Nat) s.length s) (1 : Int)).fst.fst, SV.int IntKind.i64 (ofV (winL syS (0 : Nat) s.length s) (1 : Int)).fst.snd.fst, SV.int IntKind.i64 (ofV (winL syS (0 : Nat) s.length s) (1 : Int)).fst.snd.snd.fst, SV.sl opS (ofV (winL syS (0 : Nat) s.length s) (1 : Int)).fst.snd.snd.snd]), ((38 : Nat), LB.row (28 : Nat) opS o)])) (false = false ∧
 false = false ∧
 false = false ∧
 false = false ∧
 false = false ∧
 false = false ∧
 false = false ∧
 Q [SV.bool false] [((4 : Nat), LB.var [SV.bool false, SV.int IntKind.i64 (1 : Int), SV.int IntKind.i64 u, SV.win true opS (38 : Nat) (0 : Nat) o.length]), ((17 : Nat), LB.var [SV.bool (ofV (winL syS (0 : Nat) s.length s) (1 : Int)).fst.fst, SV.int IntKind.i64 (ofV (winL syS (0 : Nat) s.length s) (1 : Int)).fst.snd.fst, SV.int IntKind.i64 (ofV (winL syS (0 : Nat) s.length s) (1 : Int)).fst.snd.snd.fst, SV.sl opS (ofV (winL syS (0 : Nat) s.length s) (1 : Int)).fst.snd.snd.snd]), ((38 : Nat), LB.row (28 : Nat) opS o)])) (bc (bif true then bif false then true else decide (k = (-1 : Int)) else false) (bc (bif true then decide (f = (0 : Int)) else false) (bc (bif true then decide (a = (-1 : Int)) else false) (bc (bif true then decide (g = (60 : Int)) else false) (bc (bif true then decide (b = (-1 : Int)) else false) (bc (bif true then decide (h = (60 : Int)) else false) (bc (bif true then decide ((ofV (winL syS (0 : Nat) s.length s) (1 : Int)).snd = (0 : Int)) == decide (u ≤ (4096 : Int)) else false) (bc (decide (u ≤ (4096 : Int))) (true = true ∧
 Q [SV.bool true] [((4 : Nat), LB.var [SV.bool false, SV.int IntKind.i64 (1 : Int), SV.int IntKind.i64 u, SV.win true opS (38 : Nat) (0 : Nat) o.length]), ((17 : Nat), LB.var [SV.bool (ofV (winL syS (0 : Nat) s.length s) (1 : Int)).fst.fst, SV.int IntKind.i64 (ofV (winL syS (0 : Nat) s.length s) (1 : Int)).fst.snd.fst, SV.int IntKind.i64 (ofV (winL syS (0 : Nat) s.length s) (1 : Int)).fst.snd.snd.fst, SV.sl opS (ofV (winL syS (0 : Nat) s.length s) (1 : Int)).fst.snd.snd.snd]), ((38 : Nat), LB.row (28 : Nat) opS o)]) (bc (bif true then bif false then true else decide ((ofV (winL syS (0 : Nat) s.length s) (1 : Int)).snd = (2 : Int)) else false) (Q [SV.bool true] [((4 : Nat), LB.var [SV.bool false, SV.int IntKind.i64 (1 : Int), SV.int IntKind.i64 u, SV.win true opS (38 : Nat) (0 : Nat) o.length]), ((17 : Nat), LB.var [SV.bool (ofV (winL syS (0 : Nat) s.length s) (1 : Int)).fst.fst, SV.int IntKind.i64 (ofV (winL syS (0 : Nat) s.length s) (1 : Int)).fst.snd.fst, SV.int IntKind.i64 (ofV (winL syS (0 : Nat) s.length s) (1 : Int)).fst.snd.snd.fst, SV.sl opS (ofV (winL syS (0 : Nat) s.length s) (1 : Int)).fst.snd.snd.snd]), ((38 : Nat), LB.row (28 : Nat) opS o)]) (false = false ∧
 Q [SV.bool false] [((4 : Nat), LB.var [SV.bool false, SV.int IntKind.i64 (1 : Int), SV.int IntKind.i64 u, SV.win true opS (38 : Nat) (0 : Nat) o.length]), ((17 : Nat), LB.var [SV.bool (ofV (winL syS (0 : Nat) s.length s) (1 : Int)).fst.fst, SV.int IntKind.i64 (ofV (winL syS (0 : Nat) s.length s) (1 : Int)).fst.snd.fst, SV.int IntKind.i64 (ofV (winL syS (0 : Nat) s.length s) (1 : Int)).fst.snd.snd.fst, SV.sl opS (ofV (winL syS (0 : Nat) s.length s) (1 : Int)).fst.snd.snd.snd]), ((38 : Nat), LB.row (28 : Nat) opS o)]))) (false = false ∧
 false = false ∧
 Q [SV.bool false] [((4 : Nat), LB.var [SV.bool false, SV.int IntKind.i64 (1 : Int), SV.int IntKind.i64 u, SV.win true opS (38 : Nat) (0 : Nat) o.length]), ((17 : Nat), LB.var [SV.bool (ofV (winL syS (0 : Nat) s.length s) (1 : Int)).fst.fst, SV.int IntKind.i64 (ofV (winL syS (0 : Nat) s.length s) (1 : Int)).fst.snd.fst, SV.int IntKind.i64 (ofV (winL syS (0 : Nat) s.length s) (1 : Int)).fst.snd.snd.fst, SV.sl opS (ofV (winL syS (0 : Nat) s.length s) (1 : Int)).fst.snd.snd.snd]), ((38 : Nat), LB.row (28 : Nat) opS o)])) (false = false ∧
 false = false ∧
 false = false ∧
 Q [SV.bool false] [((4 : Nat), LB.var [SV.bool false, SV.int IntKind.i64 (1 : Int), SV.int IntKind.i64 u, SV.win true opS (38 : Nat) (0 : Nat) o.length]), ((17 : Nat), LB.var [SV.bool (ofV (winL syS (0 : Nat) s.length s) (1 : Int)).fst.fst, SV.int IntKind.i64 (ofV (winL syS (0 : Nat) s.length s) (1 : Int)).fst.snd.fst, SV.int IntKind.i64 (ofV (winL syS (0 : Nat) s.length s) (1 : Int)).fst.snd.snd.fst, SV.sl opS (ofV (winL syS (0 : Nat) s.length s) (1 : Int)).fst.snd.snd.snd]), ((38 : Nat), LB.row (28 : Nat) opS o)])) (false = false ∧
 false = false ∧
 false = false ∧
 false = false ∧
 Q [SV.bool false] [((4 : Nat), LB.var [SV.bool false, SV.int IntKind.i64 (1 : Int), SV.int IntKind.i64 u, SV.win true opS (38 : Nat) (0 : Nat) o.length]), ((17 : Nat), LB.var [SV.bool (ofV (winL syS (0 : Nat) s.length s) (1 : Int)).fst.fst, SV.int IntKind.i64 (ofV (winL syS (0 : Nat) s.length s) (1 : Int)).fst.snd.fst, SV.int IntKind.i64 (ofV (winL syS (0 : Nat) s.length s) (1 : Int)).fst.snd.snd.fst, SV.sl opS (ofV (winL syS (0 : Nat) s.length s) (1 : Int)).fst.snd.snd.snd]), ((38 : Nat), LB.row (28 : Nat) opS o)])) (false = false ∧
 false = false ∧
 false = false ∧
 false = false ∧
 false = false ∧
 Q [SV.bool false] [((4 : Nat), LB.var [SV.bool false, SV.int IntKind.i64 (1 : Int), SV.int IntKind.i64 u, SV.win true opS (38 : Nat) (0 : Nat) o.length]), ((17 : Nat), LB.var [SV.bool (ofV (winL syS (0 : Nat) s.length s) (1 : Int)).fst.fst, SV.int IntKind.i64 (ofV (winL syS (0 : Nat) s.length s) (1 : Int)).fst.snd.fst, SV.int IntKind.i64 (ofV (winL syS (0 : Nat) s.length s) (1 : Int)).fst.snd.snd.fst, SV.sl opS (ofV (winL syS (0 : Nat) s.length s) (1 : Int)).fst.snd.snd.snd]), ((38 : Nat), LB.row (28 : Nat) opS o)])) (false = false ∧
 false = false ∧
 false = false ∧
 false = false ∧
 false = false ∧
 false = false ∧
 Q [SV.bool false] [((4 : Nat), LB.var [SV.bool false, SV.int IntKind.i64 (1 : Int), SV.int IntKind.i64 u, SV.win true opS (38 : Nat) (0 : Nat) o.length]), ((17 : Nat), LB.var [SV.bool (ofV (winL syS (0 : Nat) s.length s) (1 : Int)).fst.fst, SV.int IntKind.i64 (ofV (winL syS (0 : Nat) s.length s) (1 : Int)).fst.snd.fst, SV.int IntKind.i64 (ofV (winL syS (0 : Nat) s.length s) (1 : Int)).fst.snd.snd.fst, SV.sl opS (ofV (winL syS (0 : Nat) s.length s) (1 : Int)).fst.snd.snd.snd]), ((38 : Nat), LB.row (28 : Nat) opS o)])) (false = false ∧
 false = false ∧
 false = false ∧
 false = false ∧
 false = false ∧
 false = false ∧
 false = false ∧
 Q [SV.bool false] [((4 : Nat), LB.var [SV.bool false, SV.int IntKind.i64 (1 : Int), SV.int IntKind.i64 u, SV.win true opS (38 : Nat) (0 : Nat) o.length]), ((17 : Nat), LB.var [SV.bool (ofV (winL syS (0 : Nat) s.length s) (1 : Int)).fst.fst, SV.int IntKind.i64 (ofV (winL syS (0 : Nat) s.length s) (1 : Int)).fst.snd.fst, SV.int IntKind.i64 (ofV (winL syS (0 : Nat) s.length s) (1 : Int)).fst.snd.snd.fst, SV.sl opS (ofV (winL syS (0 : Nat) s.length s) (1 : Int)).fst.snd.snd.snd]), ((38 : Nat), LB.row (28 : Nat) opS o)])) (false = false ∧
 false = false ∧
 false = false ∧
 false = false ∧
 false = false ∧
 false = false ∧
 false = false ∧
 false = false ∧
 Q [SV.bool false] [((4 : Nat), LB.var [SV.bool false, SV.int IntKind.i64 (1 : Int), SV.int IntKind.i64 u, SV.win true opS (38 : Nat) (0 : Nat) o.length]), ((17 : Nat), LB.var [SV.bool (ofV (winL syS (0 : Nat) s.length s) (1 : Int)).fst.fst, SV.int IntKind.i64 (ofV (winL syS (0 : Nat) s.length s) (1 : Int)).fst.snd.fst, SV.int IntKind.i64 (ofV (winL syS (0 : Nat) s.length s) (1 : Int)).fst.snd.snd.fst, SV.sl opS (ofV (winL syS (0 : Nat) s.length s) (1 : Int)).fst.snd.snd.snd]), ((38 : Nat), LB.row (28 : Nat) opS o)]))) (false = false ∧
 false = false ∧
 false = false ∧
 false = false ∧
 false = false ∧
 false = false ∧
 false = false ∧
 false = false ∧
 false = false ∧
 Q [SV.bool false] [((4 : Nat), LB.var [SV.bool false, SV.int IntKind.i64 (1 : Int), SV.int IntKind.i64 u, SV.win true opS (38 : Nat) (0 : Nat) o.length]), ((17 : Nat), LB.var [SV.bool (ofV (winL syS (0 : Nat) s.length s) (1 : Int)).fst.fst, SV.int IntKind.i64 (ofV (winL syS (0 : Nat) s.length s) (1 : Int)).fst.snd.fst, SV.int IntKind.i64 (ofV (winL syS (0 : Nat) s.length s) (1 : Int)).fst.snd.snd.fst, SV.sl opS (ofV (winL syS (0 : Nat) s.length s) (1 : Int)).fst.snd.snd.snd]), ((38 : Nat), LB.row (28 : Nat) opS o)]))) := by kernel_rfl
end Go.Proofs.YtdlbcbgkpmpjlaaDoor
namespace Go.Proofs.YtdlbcbgkpmpjlaaDoor
open Go.Px Go.Ax
set_option maxRecDepth 100000
attribute [local irreducible] Go.Px.sy Go.Px.syE
def op1 : OpT := (1, 0, 1, 0, [])
theorem op1_ok : isRB op1 1 = true := by decide +kernel
theorem chk_rep (N : Int) : ∀ (k : Nat) (i : Int), chkF 1 N (List.replicate k op1) k i = (N, 0)
  | 0, i => by simp [chkF]
  | k + 1, i => by
    rw [List.replicate_succ, chkF, op1_ok, if_neg (by decide), if_neg (by show ¬ ((k + 1 : Nat) : Int) < 1; omega)]
    have := chk_rep N k (i + 1)
    rw [show ((k + 1 : Nat) : Int) - op1.2.2.1 = (k : Int) by show ((k + 1 : Nat) : Int) - 1 = k; omega]
    exact this
theorem szU {U : Nat} (h : U ≤ 65536) : szB (U : Int) = true := by
  unfold szB
  simp only [Bool.and_eq_true, decide_eq_true_eq]; omega
theorem chk_many {U : Nat} (h : U ≤ 4097) : ((U ≤ 4096 → (chkV (false, 1, (U : Int), List.replicate U op1)).2 = 0) ∧ (¬ U ≤ 4096 → (chkV (false, 1, (U : Int), List.replicate U op1)).1 = -1 ∧ (chkV (false, 1, (U : Int), List.replicate U op1)).2 = 60)) := by
  constructor
  · intro hu
    have : chkV (false, 1, (U : Int), List.replicate U op1) = chkF 1 (List.replicate U op1).length (List.replicate U op1) U 0 := if_pos ⟨(show szB 1 = true by decide), szU (by omega), by show (List.replicate U op1).length ≤ 4096; rw [List.length_replicate]; exact hu⟩
    rw [this, chk_rep]
  · intro hu
    have : chkV (false, 1, (U : Int), List.replicate U op1) = (-1, 60) := if_neg fun q => hu (by have q2 : (List.replicate U op1).length ≤ 4096 := q.2.2; rw [List.length_replicate] at q2; exact q2)
    rw [this]; exact ⟨rfl, rfl⟩
def altY (j : Nat) : SyT := (decide ((j : Int).tmod 2 = 1), 0, 0)
def altL (U : Nat) : List SyT := (List.range U).map altY
theorem altL_len (U : Nat) : (altL U).length = U := by simp [altL]
theorem altL_at {U i : Nat} (h : i < (altL U).length) : (altL U)[i] = altY i := by simp [altL]
theorem alt_go (j : Nat) : goB (altY j) (altY (j + 1)) = false := by
  have h1 : (j : Int).tmod 2 = 1 ↔ j % 2 = 1 := by rw [Int.tmod_eq_emod_of_nonneg (by omega)]; omega
  have h2 : ((j + 1 : Nat) : Int).tmod 2 = 1 ↔ ¬ j % 2 = 1 := by rw [Int.tmod_eq_emod_of_nonneg (by omega)]; omega
  unfold goB altY
  by_cases h : j % 2 = 1
  · have e1 : decide ((j : Int).tmod 2 = 1) = true := decide_eq_true (h1.2 h)
    have e2 : decide (((j + 1 : Nat) : Int).tmod 2 = 1) = false := decide_eq_false fun q => h2.1 q h
    rw [e1, e2]; rfl
  · have e1 : decide ((j : Int).tmod 2 = 1) = false := decide_eq_false fun q => h (h1.1 q)
    have e2 : decide (((j + 1 : Nat) : Int).tmod 2 = 1) = true := decide_eq_true (h2.2 h)
    rw [e1, e2]; rfl
theorem alt_ops (U : Nat) : ∀ (k a i : Nat), 1 ≤ i → i + k = U + 1 → (opsF (altL U) k a i).length = k
  | 0, _, _, _, _ => rfl
  | k + 1, a, i, h1, h2 => by
    rw [cut1 (by
      by_cases h : i = (altL U).length
      · exact .inl h
      · rw [altL_len] at h
        refine .inr ?_
        rw [gtY_at (by rw [altL_len]; omega), gtY_at (by rw [altL_len]; omega), altL_at, altL_at]
        have := alt_go (i - 1)
        rw [show i - 1 + 1 = i by omega] at this
        exact this), List.length_cons, alt_ops U k i (i + 1) (by omega) (by omega)]
theorem alt_all (U : Nat) : (altL U).all (sOK 1) = true := by
  rw [List.all_eq_true]
  intro s hs
  obtain ⟨j, _, rfl⟩ := List.mem_map.1 hs
  unfold sOK altY
  cases decide ((j : Int).tmod 2 = 1) <;> rfl
theorem of_alt {U : Nat} (h0 : 0 < U) (h : U ≤ 4097) : (ofV (altL U) 1).2 = if U ≤ 4096 then 0 else 2 := by
  have hl : (opsL (altL U)).length = U := by
    unfold opsL; rw [altL_len]; exact alt_ops U U 0 1 (by omega) (by omega)
  unfold ofV
  rw [if_pos ⟨(show szB 1 = true by decide), by rw [altL_len]; exact szU (by omega), alt_all U⟩, hl]
  by_cases hu : U ≤ 4096
  · rw [if_neg (by omega), if_pos hu]
  · rw [if_pos (by omega), if_neg hu]
abbrev LQ : List SV → List (Nat × LB) → Prop := fun rs _ => rs = [.bool true]
theorem limC_loop (U : Nat) (h0 : 0 < U) (hU : U ≤ 4097) (k e : Int) (o : List OpT) (he : U ≤ 4096 → e = 0) (hk : ¬ U ≤ 4096 → k = -1 ∧ e = 60) : ∀ (c i : Nat) (s : List SyT), U - i = c → i ≤ U → s.length = U → (∀ j, j < i → s[j]? = some (altY j)) →
    GD 3 Tryd.f3 LQ (hd Tryd.f3 1) ⟨[(3, .bool true), (4, .ptr 4 0), (6, .int .i64 k), (7, .int .i64 e), (10, .int .i64 0), (11, .int .i64 (-1)), (12, .int .i64 60), (13, .int .i64 (-1)), (14, .int .i64 60), (15, .win true syS 74 0 s.length), (16, .int .i64 (i : Nat))], [(4, .var [.bool false, .int .i64 1, .int .i64 U, .win true opS 38 0 o.length]), (38, .row 28 opS o), (74, .row 34 syS s)]⟩ := by
  intro c
  induction c with
  | zero =>
    intro i s hc hi hs hj
    have hi : i = U := by omega
    subst hi
    have hsl : s = altL i := by
      refine List.ext_getElem? fun j => ?_
      by_cases h : j < i
      · rw [hj j h, List.getElem?_eq_getElem (by rw [altL_len]; exact h), altL_at]
      · rw [List.getElem?_eq_none (by omega), List.getElem?_eq_none (by rw [altL_len]; omega)]
    refine sy_sound cxL _ _ _ ((vc_limC k e 0 (-1) 60 (-1) 60 (i : Int) o s i _ _).mpr ?_)
    have hw : winL syS 0 s.length s = s := winA (e := syS) s
    rw [decide_eq_false (show ¬ (i : Int) < (s.length : Int) by omega), bc_f, hw]
    have hr := of_alt h0 hU
    rw [← hsl] at hr
    refine ⟨Nat.le_of_eq (Nat.zero_add _), Nat.le_of_eq (Nat.zero_add _), Nat.le_of_eq (Nat.zero_add _), ⟨(show 0 < s.length by omega), (show s.length < 16777216 by omega)⟩, ?_⟩
    by_cases hu : i ≤ 4096
    · have e1 := he hu
      rw [if_pos hu] at hr
      have hu2 : decide ((i : Int) ≤ 4096) = true := decide_eq_true (by omega)
      subst e1
      rw [hr, hu2]
      exact ⟨rfl, rfl, rfl⟩
    · obtain ⟨e1, e2⟩ := hk hu
      rw [if_neg hu] at hr
      have hu2 : decide ((i : Int) ≤ 4096) = false := decide_eq_false (by omega)
      subst e1; subst e2
      rw [hr, hu2]
      rfl
  | succ c ih =>
    intro i s hc hi hs hj
    refine sy_sound cxL _ _ _ ((vc_limC k e 0 (-1) 60 (-1) 60 (U : Int) o s i _ _).mpr ?_)
    rw [decide_eq_true (show (i : Int) < (s.length : Int) by omega), bc_t, Int.toNat_natCast, IntWalk.i64_in ((i : Int) + 1) (by omega), Nat.zero_add]
    refine ⟨by decide, by omega, by omega, by omega, ?_⟩
    refine (ih (i + 1) (s.set i (altY i)) (by omega) (by omega) (by rw [List.length_set]; exact hs) (fun j h => ?_)).only ⟨rfl, rfl, rfl, rfl, rfl, rfl, rfl, rfl, rfl, by rw [List.length_set]; rfl, rfl, trivial⟩ ⟨rfl, rfl, rfl, trivial⟩
    by_cases hji : j = i
    · subst hji; rw [List.getElem?_set_self (by omega)]
    · rw [List.getElem?_set_ne (by omega)]; exact hj j (by omega)
theorem c1 : chkV (false, (65536 : Int), (65536 : Int), ([((1 : Int), (0 : Int), (65536 : Int), (0 : Int), [])] : List opS.D)) = ((1 : Int), (0 : Int)) := by decide +kernel
theorem c2 : chkV (false, IntKind.i64.wrap ((65536 : Int) + (1 : Int)), (65536 : Int), ([((1 : Int), (0 : Int), (65536 : Int), (0 : Int), [])] : List opS.D)) = ((-1 : Int), (60 : Int)) := by decide +kernel
theorem c3 : chkV (false, (0 : Int), (65537 : Int), ([((3 : Int), (0 : Int), (65537 : Int), (0 : Int), [])] : List opS.D)) = ((-1 : Int), (60 : Int)) := by decide +kernel
theorem limB_loop (n : Int) (U : Nat) (h0 : 0 < U) (hU : U ≤ 4097) : ∀ (c i : Nat), U - i = c → i ≤ U →
    GD 3 Tryd.f3 LQ (hd Tryd.f3 0) ⟨[(0, .int .u8 n), (3, .bool true), (4, .ptr 4 0), (5, .int .i64 (i : Nat))], [(4, .var [.bool false, .int .i64 1, .int .i64 U, .win true opS 38 0 (List.replicate i op1).length]), (38, .row 28 opS (List.replicate i op1))]⟩ := by
  intro c
  induction c with
  | zero =>
    intro i hc hi
    have hi : i = U := by omega
    subst hi
    refine sy_sound cxL _ _ _ ((vc_limB n (i : Int) (List.replicate i op1) i _ _).mpr ?_)
    have hw : winL opS 0 (List.replicate i op1).length (List.replicate i op1) = List.replicate i op1 := winA (e := opS) _
    rw [decide_eq_false (by omega), bc_f, hw, c1, c2, c3]
    obtain ⟨he, hk⟩ := chk_many hU
    refine ⟨Nat.le_of_eq (Nat.zero_add _), trivial, by decide, trivial, by decide, trivial, by decide, trivial, by omega, Int.le_refl _, ?_, ?_, ?_⟩
    · show (i : Int) < 16777216
      omega
    · show (24 : Int) * (i : Int) ≤ 281474976710656
      omega
    · exact (limC_loop i h0 hU _ _ (List.replicate i op1) he hk _ 0 (List.replicate (i : Int).toNat (false, 0, 0)) rfl (by omega) (by rw [List.length_replicate, Int.toNat_natCast]) (fun j h => by omega)).only ⟨rfl, rfl, rfl, rfl, rfl, rfl, rfl, rfl, rfl, by rw [show (List.replicate (i : Int).toNat ((false, 0, 0) : SyT)).length = (i : Int).toNat from List.length_replicate]; rfl, rfl, trivial⟩ ⟨rfl, rfl, rfl, trivial⟩
  | succ c ih =>
    intro i hc hi
    refine sy_sound cxL _ _ _ ((vc_limB n (U : Int) (List.replicate i op1) i _ _).mpr ?_)
    rw [decide_eq_true (show (i : Int) < (U : Int) by omega), bc_t, IntWalk.i64_in ((i : Int) + 1) (by omega)]
    have hr : List.replicate i op1 ++ [op1] = List.replicate (i + 1) op1 := by rw [List.replicate_succ']
    have nx := ih (i + 1) (by omega) (by omega)
    rw [← hr] at nx
    refine ⟨Nat.le_refl 1, rfl, rfl, ?_, by decide, ?_⟩
    · show (List.replicate i op1).length + 1 < 2 ^ 30
      rw [List.length_replicate]; omega
    · exact nx.onlyR [(38, 41)] rfl ⟨rfl, rfl, rfl, rfl, trivial⟩ ⟨by rw [List.length_append]; rfl, rfl, trivial⟩
def preL (n : Int) : Prop := 0 ≤ n ∧ n < 256
def ctLim : Ctr := ⟨[uB], fun x => preL x.1, fun _ => [.bool true], fun _ => []⟩
theorem lim_run (n : Int) (hn : preL n) : sy tt G0 CL Tryd.f3.ntmps Tryd.f3.results.toList (QC ctLim (n, ())) (Px.Good Tryd.prog tt G0 3 Tryd.f3.ntmps Tryd.f3.results.toList (QC ctLim (n, ()))) 1000 [.code (bodyOf Tryd.f3)] (entry [uB] (n, ())) := by
  obtain ⟨n0, n1⟩ := hn
  refine (vc_lim n _ _).mpr ⟨trivial, by decide, bc_of (fun h => QC.flat rfl rfl rfl) (fun h => ⟨by decide, by decide, ?_⟩)⟩
  obtain ⟨U, hU, h1, h2⟩ : ∃ U : Nat, IntKind.i64.wrap (4095 + (IntKind.i64.wrap ((IntKind.i64.wrap n).tdiv 8)).tmod 3) = (U : Int) ∧ 0 < U ∧ U ≤ 4097 := by
    rw [IntWalk.i64_in n (by omega), Int.tdiv_eq_ediv_of_nonneg n0, IntWalk.i64_in (n / 8) (by omega), Int.tmod_eq_emod_of_nonneg (by omega), IntWalk.i64_in _ (by omega)]
    exact ⟨(4095 + n / 8 % 3).toNat, by omega, by omega, by omega⟩
  rw [hU]
  have e : GD 3 Tryd.f3 LQ (hd Tryd.f3 0) ⟨[(0, .int .u8 n), (3, .bool true), (4, .ptr 4 0), (5, .int .i64 0)], [(4, .var [.bool false, .int .i64 1, .int .i64 U, .nils])]⟩ := by
    refine sy_sound cxL _ _ _ ((vc_limA n (U : Int) _ _).mpr ?_)
    rw [decide_eq_true (show (0 : Int) < (U : Int) by omega), bc_t]
    refine ⟨Nat.le_refl 1, (show 1 < 2 ^ 30 by decide), by decide, ?_⟩
    exact (limB_loop n U h1 h2 _ 1 rfl (by omega)).onlyR [(38, 41)] rfl ⟨rfl, rfl, rfl, rfl, trivial⟩ ⟨rfl, rfl, trivial⟩
  exact (e.post fun rs blk hq => QC.flat (by rw [hq]; rfl) rfl (by rw [hq]; rfl)).only ⟨rfl, rfl, rfl, rfl, trivial⟩ ⟨rfl, trivial⟩
theorem lim_ok : Held Tryd.prog G0 3 ctLim := Held.run cxL (fn := Tryd.f3) rfl rfl ⟨by decide, by decide⟩ fun x hp => lim_run x.1 hp
theorem preL_of {n : Int} (h : (Lit.int .u8 n).wf = true) : preL n := by
  have h := Go.bounds_u8 h
  exact ⟨h.1, by show n < 256; omega⟩
end Go.Proofs.YtdlbcbgkpmpjlaaDoor
