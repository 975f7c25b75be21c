/-
  A part of the proof: what pieces of the program give; conditions: those of each theorem.
-/
import Derived.Test.YtikikmhlicoheaaGreatDoorQ1
import Derived.KernelRfl
set_option linter.unusedVariables false
set_option linter.unusedSimpArgs false
namespace Go.Proofs.YtikikmhlicoheaaGreatDoor
open Go.Px Go.Ax
set_option maxRecDepth 100000
attribute [local irreducible] Go.Px.sy Go.Px.syE
def lenS (l : List OpT) : Int := (l.map fun x => x.2.2.1).sum
theorem chk_ok {m N : Int} : ∀ {l : List OpT} {left i : Int}, (chkF m N l left i).2 = 0 → 0 ≤ left → (∀ x ∈ l, isRB x m = true) ∧ lenS l = left
  | [], left, i, h, h0 => by
    refine ⟨fun x hx => by simp at hx, ?_⟩
    simp only [chkF] at h
    split at h
    · cases h
    · show (0 : Int) = left; omega
  | x :: l, left, i, h, h0 => by
    simp only [chkF] at h
    split at h
    · cases h
    · rename_i h1
      split at h
      · cases h
      · rename_i h2
        have hr : isRB x m = true := by simpa using h1
        have hx := isRB_len hr
        obtain ⟨k1, k2⟩ := chk_ok h (by omega)
        refine ⟨fun y hy => ?_, ?_⟩
        · rcases List.mem_cons.1 hy with rfl | hy
          · exact hr
          · exact k1 y hy
        · simp only [lenS, List.map_cons, List.sum_cons] at k2 ⊢; omega
theorem isRB_kind {x : OpT} {m : Int} (h : isRB x m = true) : (x.1 = 1 ∨ x.1 = 2 ∨ x.1 = 3 ∨ x.1 = 4) ∧ (cntO x.1.toNat x : Int) = x.2.2.1 := by
  have hl := isRB_len h
  unfold isRB kR at h
  simp only [Bool.and_eq_true, decide_eq_true_eq] at h
  obtain ⟨_, _, h⟩ := h
  obtain ⟨k, f, n, b, d⟩ := x
  simp only at h hl ⊢
  split at h
  · rename_i e; subst e; exact ⟨.inl rfl, by show (n.toNat : Int) = n; omega⟩
  · split at h
    · rename_i e; subst e
      simp only [rB, Bool.and_eq_true, decide_eq_true_eq] at h
      exact ⟨.inr (.inl rfl), h.2.2⟩
    · split at h
      · rename_i e; subst e; exact ⟨.inr (.inr (.inl rfl)), by show (n.toNat : Int) = n; omega⟩
      · split at h
        · rename_i e; subst e
          simp only [rB, Bool.and_eq_true, decide_eq_true_eq] at h
          exact ⟨.inr (.inr (.inr rfl)), h.2.2⟩
        · cases h
theorem lenS_cons (x : OpT) (l : List OpT) : lenS (x :: l) = x.2.2.1 + lenS l := by simp only [lenS, List.map_cons, List.sum_cons]
theorem lenS_pos {m : Int} : ∀ {l : List OpT}, (∀ x ∈ l, isRB x m = true) → 0 ≤ lenS l
  | [], _ => Int.le_refl 0
  | x :: l, h => by
    have h1 := isRB_len (h x (by simp))
    have h2 := lenS_pos (l := l) fun y hy => h y (by simp [hy])
    simp only [lenS, List.map_cons, List.sum_cons] at h2 ⊢; omega
def symF : List OpT → List SyT
  | [] => []
  | x :: l => symsO x.1.toNat x ++ symF l
def symV (p : PaT) : List SyT × Int := if (chkV p).2 = 0 then (symF p.2.2.2, 0) else ([], (chkV p).2)
def ctSym : Ctr := ⟨[paS], fun _ => True, fun x => [.win true syS 0 0 (symV x.1).1.length, .int .i64 (symV x.1).2], fun x => [.row 60 syS (symV x.1).1]⟩
abbrev SQ (p : PaT) : List SV → List (Nat × LB) → Prop := QC ctSym (p, ())
theorem chkV_ok {p : PaT} (h : (chkV p).2 = 0) : (∀ x ∈ p.2.2.2, isRB x p.2.1 = true) ∧ lenS p.2.2.2 = p.2.2.1 ∧ (0 ≤ p.2.2.1 ∧ p.2.2.1 ≤ 65536) ∧ p.2.2.2.length ≤ 4096 := by
  unfold chkV at h
  split at h
  · rename_i hg
    have hs : 0 ≤ p.2.2.1 ∧ p.2.2.1 ≤ 65536 := by
      have := hg.2.1
      unfold szB at this
      simpa only [Bool.and_eq_true, decide_eq_true_eq] using this
    obtain ⟨h1, h2⟩ := chk_ok h hs.1
    exact ⟨h1, h2, hs, hg.2.2⟩
  · cases h
theorem sym_loop (li : Bool) (m o : Int) (l : List OpT) (hc : (chkV (li, m, o, l)).2 = 0) : ∀ (k i : Nat) (s : List SyT), l.length - i = k → i ≤ l.length → (s.length : Int) + lenS (l.drop i) ≤ 65536 → s ++ symF (l.drop i) = symF l →
    GD 19 Tryz.f19 (SQ (li, m, o, l)) (hd Tryz.f19 0) ⟨[(1, .ptr 1 0), (6, .win true syS 19 0 s.length), (21, .sl opS l), (22, .int .i64 l.length), (23, .int .i64 (i : Nat))], [(1, .var [.bool li, .int .i64 m, .int .i64 o, .sl opS l]), (19, .row 60 syS s)]⟩ := by
  obtain ⟨hr, hsum, hob, hlen⟩ := chkV_ok hc
  simp only at hr hsum hob hlen
  intro k
  induction k with
  | zero =>
    intro i s hk hi hb hs
    have hi : i = l.length := by omega
    subst hi
    refine sy_sound ex1 _ _ _ ((vc_symsL1 li m o l s _ _ _).mpr ?_)
    rw [decide_eq_false (by omega), bc_f]
    rw [List.drop_length, symF, List.append_nil] at hs
    have hv : symV (li, m, o, l) = (s, 0) := by unfold symV; rw [if_pos hc, hs]
    refine qc_rowI (e := syS) (et := 60) (a := 19) (z := 0) (xs := s) ?_ ?_ rfl rfl rfl
    · show [_, _] = _; rw [hv]
    · show [_] = _; rw [hv]
  | succ k ih =>
    intro i s hk hi hb hs
    have hil : i < l.length := by omega
    have hx := hr l[i] (List.getElem_mem hil)
    have hk2 := isRB_kind hx
    have hl2 := isRB_len hx
    rw [dropc hil] at hb hs
    rw [lenS_cons] at hb
    have hb2 : (s.length : Int) + (l[i].2.2.1 + lenS (l.drop (i + 1))) ≤ 65536 := hb
    have hpos : 0 ≤ lenS (l.drop (i + 1)) := lenS_pos fun y hy => hr y (List.mem_of_mem_drop hy)
    have hcl : (symsO l[i].1.toNat l[i]).length = cntO l[i].1.toNat l[i] := by unfold symsO; exact gen_len _ _ _
    have hpre : preA l[i].1.toNat l[i] s := ⟨by omega, by omega, by omega⟩
    have nx : GD 19 Tryz.f19 (SQ (li, m, o, l)) (hd Tryz.f19 0) ⟨[(1, .ptr 1 0), (6, .win true syS 19 0 (s ++ symsO l[i].1.toNat l[i]).length), (21, .sl opS l), (22, .int .i64 l.length), (23, .int .i64 ((i + 1 : Nat) : Int))], [(1, .var [.bool li, .int .i64 m, .int .i64 o, .sl opS l]), (19, .row 60 syS (s ++ symsO l[i].1.toNat l[i]))]⟩ :=
      ih (i + 1) _ (by omega) (by omega) (by rw [List.length_append]; omega) (by rw [List.append_assoc]; exact hs)
    have wi : IntKind.i64.wrap ((i : Int) + 1) = ((i + 1 : Nat) : Int) := by rw [IntWalk.i64_in _ (by omega)]; omega
    rcases hk2.1 with e | e | e | e
    · rw [e] at hpre nx
      refine sy_sound ex1 _ _ _ ((vc_symsL1 li m o l s i _ _).mpr ?_)
      rw [decide_eq_true (show (i : Int) < (l.length : Int) by omega), bc_t, Int.toNat_natCast, gtO_at hil, wi]
      exact ⟨by omega, by omega, e, rfl, hpre, nx.onlyR [(19, 1122880)] rfl ⟨rfl, rfl, rfl, rfl, rfl, trivial⟩ ⟨rfl, rfl, trivial⟩⟩
    · rw [e] at hpre nx
      refine sy_sound ex2 _ _ _ ((vc_symsL2 li m o l s i _ _).mpr ?_)
      rw [decide_eq_true (show (i : Int) < (l.length : Int) by omega), bc_t, Int.toNat_natCast, gtO_at hil, wi]
      exact ⟨by omega, by omega, e, rfl, hpre, nx.onlyR [(19, 1122880)] rfl ⟨rfl, rfl, rfl, rfl, rfl, trivial⟩ ⟨rfl, rfl, trivial⟩⟩
    · rw [e] at hpre nx
      refine sy_sound ex3 _ _ _ ((vc_symsL3 li m o l s i _ _).mpr ?_)
      rw [decide_eq_true (show (i : Int) < (l.length : Int) by omega), bc_t, Int.toNat_natCast, gtO_at hil, wi]
      exact ⟨by omega, by omega, e, rfl, hpre, nx.onlyR [(19, 1122880)] rfl ⟨rfl, rfl, rfl, rfl, rfl, trivial⟩ ⟨rfl, rfl, trivial⟩⟩
    · rw [e] at hpre nx
      refine sy_sound ex4 _ _ _ ((vc_symsL4 li m o l s i _ _).mpr ?_)
      rw [decide_eq_true (show (i : Int) < (l.length : Int) by omega), bc_t, Int.toNat_natCast, gtO_at hil, wi]
      exact ⟨by omega, by omega, e, rfl, hpre, nx.onlyR [(19, 1122880)] rfl ⟨rfl, rfl, rfl, rfl, rfl, trivial⟩ ⟨rfl, rfl, trivial⟩⟩
theorem sym_held : Held Tryz.prog G0 19 ctSym := by
  refine Held.run cxA (fn := Tryz.f19) rfl rfl ⟨by decide, by decide⟩ ?_
  rintro ⟨⟨li, m, o, l⟩, ⟨⟩⟩ _
  refine (vc_syms li m o l _ _).mpr ⟨trivial, bc_of (fun h => ?_) (fun h => ?_)⟩
  · have h : (chkV (li, m, o, l)).2 ≠ 0 := of_decide_eq_true h
    have hv : symV (li, m, o, l) = ([], (chkV (li, m, o, l)).2) := by unfold symV; rw [if_neg h]
    refine qc_nilI (e := syS) (et := 60) (z := (chkV (li, m, o, l)).2) ?_ ?_ rfl (by decide)
    · show [_, _] = _; rw [hv]; rfl
    · show [_] = _; rw [hv]
  · have h : ¬ (chkV (li, m, o, l)).2 ≠ 0 := of_decide_eq_false h
    have h : (chkV (li, m, o, l)).2 = 0 := by simpa using h
    obtain ⟨hr, hsum, hob, hlen⟩ := chkV_ok h
    simp only at hr hsum hob hlen
    refine ⟨Int.le_refl 0, hob.1, ?_, ?_, ?_⟩
    · exact Int.lt_of_le_of_lt hob.2 (by decide)
    · exact Int.le_trans (Int.mul_le_mul_of_nonneg_left hob.2 (by decide)) (by decide)
    · exact (sym_loop li m o l h _ 0 [] rfl (by omega) (by rw [List.drop_zero, hsum]; simpa using hob.2) rfl).only ⟨rfl, rfl, rfl, rfl, rfl, trivial⟩ ⟨rfl, rfl, trivial⟩
def costF : Int → List OpT → Int
  | s, [] => s
  | s, x :: l => costF (IntKind.i64.wrap (s + cN x.1.toNat x)) l
def k14 (x : OpT) : Prop := x.1 = 1 ∨ x.1 = 2 ∨ x.1 = 3 ∨ x.1 = 4
def ctCost : Ctr := ⟨[paS], fun x => (∀ y ∈ x.1.2.2.2, k14 y) ∧ List.length x.1.2.2.2 < 1099511627776, fun x => [.int .i64 (costF 0 x.1.2.2.2)], fun _ => []⟩
theorem cost_loop (li : Bool) (m o : Int) (l : List OpT) (hr : ∀ y ∈ l, k14 y) (hl : l.length < 1099511627776) : ∀ (k i : Nat) (s : Int), l.length - i = k → i ≤ l.length →
    GD 25 Tryz.f25 (fun rs _ => rs = [.int .i64 (costF s (l.drop i))]) (hd Tryz.f25 0) ⟨[(1, .ptr 1 0), (3, .int .i64 s), (7, .sl opS l), (8, .int .i64 l.length), (9, .int .i64 (i : Nat))], [(1, .var [.bool li, .int .i64 m, .int .i64 o, .sl opS l])]⟩ := by
  intro k
  induction k with
  | zero =>
    intro i s hk hi
    have hi : i = l.length := by omega
    subst hi
    refine sy_sound dx1 _ _ _ ((vc_costL1 li m o l s _ _ _).mpr ?_)
    rw [decide_eq_false (by omega), bc_f, List.drop_length]
    rfl
  | succ k ih =>
    intro i s hk hi
    have hil : i < l.length := by omega
    have hx := hr l[i] (List.getElem_mem hil)
    have nx := ih (i + 1) (IntKind.i64.wrap (s + cN l[i].1.toNat l[i])) (by omega) (by omega)
    rw [dropc hil, costF]
    have wi : IntKind.i64.wrap ((i : Int) + 1) = ((i + 1 : Nat) : Int) := by rw [IntWalk.i64_in _ (by omega)]; omega
    rcases hx with e | e | e | e
    · rw [e] at nx
      rw [e]
      refine sy_sound dx1 _ _ _ ((vc_costL1 li m o l s i _ _).mpr ?_)
      rw [decide_eq_true (show (i : Int) < (l.length : Int) by omega), bc_t, Int.toNat_natCast, gtO_at hil, wi]
      exact ⟨by omega, by omega, e, trivial, nx.only ⟨rfl, rfl, rfl, rfl, rfl, trivial⟩ ⟨rfl, trivial⟩⟩
    · rw [e] at nx
      rw [e]
      refine sy_sound dx2 _ _ _ ((vc_costL2 li m o l s i _ _).mpr ?_)
      rw [decide_eq_true (show (i : Int) < (l.length : Int) by omega), bc_t, Int.toNat_natCast, gtO_at hil, wi]
      exact ⟨by omega, by omega, e, trivial, nx.only ⟨rfl, rfl, rfl, rfl, rfl, trivial⟩ ⟨rfl, trivial⟩⟩
    · rw [e] at nx
      rw [e]
      refine sy_sound dx3 _ _ _ ((vc_costL3 li m o l s i _ _).mpr ?_)
      rw [decide_eq_true (show (i : Int) < (l.length : Int) by omega), bc_t, Int.toNat_natCast, gtO_at hil, wi]
      exact ⟨by omega, by omega, e, trivial, nx.only ⟨rfl, rfl, rfl, rfl, rfl, trivial⟩ ⟨rfl, trivial⟩⟩
    · rw [e] at nx
      rw [e]
      refine sy_sound dx4 _ _ _ ((vc_costL4 li m o l s i _ _).mpr ?_)
      rw [decide_eq_true (show (i : Int) < (l.length : Int) by omega), bc_t, Int.toNat_natCast, gtO_at hil, wi]
      exact ⟨by omega, by omega, e, trivial, nx.only ⟨rfl, rfl, rfl, rfl, rfl, trivial⟩ ⟨rfl, trivial⟩⟩
theorem cost_held : Held Tryz.prog G0 25 ctCost := by
  refine Held.run cxM (fn := Tryz.f25) rfl rfl ⟨by decide, by decide⟩ ?_
  rintro ⟨⟨li, m, o, l⟩, ⟨⟩⟩ hp
  obtain ⟨h1, h2⟩ : (∀ y ∈ l, k14 y) ∧ l.length < 1099511627776 := hp
  refine (vc_cost li m o l _ _).mpr ?_
  exact ((cost_loop li m o l h1 h2 _ 0 0 rfl (by omega)).post fun rs blk hq => QC.flat (by rw [hq]; rfl) rfl (by rw [hq]; rfl)).only ⟨rfl, rfl, rfl, rfl, rfl, trivial⟩ ⟨rfl, trivial⟩
def whV (n : Int) : PaT := (false, n, n, if 0 < n then [((1, 0, n, 0, []) : OpT)] else [])
def ctWh : Ctr := ⟨[iI], fun _ => True, fun x => [paV (whV x.1)], fun _ => []⟩
def ctWh1 : Ctr := ⟨[iI], fun x => 0 < x.1, fun x => [.agg [.bool false, .int .i64 x.1, .int .i64 x.1, .win true opS 0 0 1]], fun x => [.row 55 opS [((1, 0, x.1, 0, []) : OpT)]]⟩
def ctWh0 : Ctr := ⟨[iI], fun x => ¬ 0 < x.1, fun x => [paV (whV x.1)], fun _ => []⟩
theorem wh1_held : Held Tryz.prog G0 31 ctWh1 := by
  refine Held.run cx0 (fn := Tryz.f31) rfl rfl ⟨by decide, by decide⟩ ?_
  rintro ⟨n, ⟨⟩⟩ hp
  replace hp : 0 < n := hp
  refine (vc_whole n _ _).mpr ?_
  rw [decide_eq_true hp, bc_t]
  refine ⟨fun i => if i = 0 then some 11 else none, ?_, ?_, fun i j b h1 h2 => ?_, rfl⟩
  · exact ⟨_, _, rfl, ⟨_, rfl, _, _, rfl, rfl, _, _, rfl, rfl, _, _, rfl, rfl, _, _, rfl, .inl ⟨true, 11, rfl, rfl, fun h => h⟩, rfl⟩, rfl⟩
  · exact ⟨.inl ⟨11, rfl, rfl⟩, trivial⟩
  · simp only at h1 h2
    split at h1
    · split at h2
      · omega
      · cases h2
    · cases h1
theorem wh0_held : Held Tryz.prog G0 31 ctWh0 := by
  refine Held.run cx0 (fn := Tryz.f31) rfl rfl ⟨by decide, by decide⟩ ?_
  rintro ⟨n, ⟨⟩⟩ hp
  replace hp : ¬ 0 < n := hp
  refine (vc_whole n _ _).mpr ?_
  rw [decide_eq_false hp, bc_f]
  refine QC.mt ?_ rfl
  show MtL _ [paV (whV n)] _
  unfold whV
  rw [if_neg hp]
  exact ⟨_, _, rfl, ⟨_, rfl, _, _, rfl, rfl, _, _, rfl, rfl, _, _, rfl, rfl, _, _, rfl, .inr ⟨rfl, rfl⟩, rfl⟩, rfl⟩
theorem wh_held : Held Tryz.prog G0 31 ctWh := fun x _ => by
  by_cases h : 0 < x.1
  · have e := (wh1_held.frz (fun x hp => ⟨by simp [ctWh1, inL, inS], trivial⟩)) x h
    have hv : [paV (whV x.1)] = frzRs 0 (ctWh1.rows x) (ctWh1.out x) := by
      unfold whV; rw [if_pos h]; rfl
    show _
    intro base M args args' w cs Z H h1 h2 h3 h4 h5
    have := e base M args args' w cs Z H h1 h2 h3 h4 h5
    simp only [Ctr.frz, ctWh] at this ⊢
    rw [hv]
    exact this
  · exact wh0_held x h
end Go.Proofs.YtikikmhlicoheaaGreatDoor
namespace Go.Proofs.YtikikmhlicoheaaGreatDoor
open Go.Px Go.Ax
set_option maxRecDepth 100000
def CP : CV := [(16, .inl ctRun)]
theorem cxP : CxOK Tryz.prog tt G0 CP := cx0.cons run_held (fn := Tryz.f16) rfl rfl rfl
def CS : CV := [(51, .inl ctSO)]
theorem cxS : CxOK Tryz.prog tt G0 CS := cx0.cons so_held (fn := Tryz.f51) rfl rfl rfl
set_option maxRecDepth 100000
theorem vc_plain (old : List Int) (m : Int) (l : List SyT) (Q : List SV → List (Nat × LB) → Prop) (R : List Item → PS → Prop) : sy tt G0 CP Tryz.f38.ntmps Tryz.f38.results.toList Q R 1000 [.code (bodyOf Tryz.f38)] (entry [.sl uB, iI, .sl syS] (old, m, l, ())) =
    (bc (decide ((↑old.length : Int) ≠ m)) (Q [SV.nils, SV.int IntKind.i64 (61 : Int)] []) (ctRun.pre (old, l, ()) ∧
 Q [SV.win true uB (1057344 : Nat) (0 : Nat) (runV old l).fst.length, SV.int IntKind.i64 (runV old l).snd] [((1057344 : Nat), LB.row (5 : Nat) uB (runV old l).fst)])) := by kernel_rfl
theorem vc_same (li li2 : Bool) (m o m2 o2 : Int) (l l2 : List OpT) (Q : List SV → List (Nat × LB) → Prop) (R : List Item → PS → Prop) : sy tt G0 CS Tryz.f24.ntmps Tryz.f24.results.toList Q R 1000 [.code (bodyOf Tryz.f24)] (entry [paS, paS] ((li, m, o, l), (li2, m2, o2, l2), ())) =
    (bc (!li == li2) (true = true ∧
 true = true ∧
 true = true ∧
 Q [SV.bool false] [((2 : Nat), LB.var [SV.bool li, SV.int IntKind.i64 m, SV.int IntKind.i64 o, SV.sl opS l]), ((3 : Nat), LB.var [SV.bool li2, SV.int IntKind.i64 m2, SV.int IntKind.i64 o2, SV.sl opS l2])]) (bc (bif false then true else decide (m ≠ m2)) (true = true ∧
 true = true ∧
 Q [SV.bool false] [((2 : Nat), LB.var [SV.bool li, SV.int IntKind.i64 m, SV.int IntKind.i64 o, SV.sl opS l]), ((3 : Nat), LB.var [SV.bool li2, SV.int IntKind.i64 m2, SV.int IntKind.i64 o2, SV.sl opS l2])]) (bc (bif false then true else decide (o ≠ o2)) (true = true ∧
 Q [SV.bool false] [((2 : Nat), LB.var [SV.bool li, SV.int IntKind.i64 m, SV.int IntKind.i64 o, SV.sl opS l]), ((3 : Nat), LB.var [SV.bool li2, SV.int IntKind.i64 m2, SV.int IntKind.i64 o2, SV.sl opS l2])]) (bc (bif false then true else decide ((↑l.length : Int) ≠ (↑l2.length : Int))) (Q [SV.bool false] [((2 : Nat), LB.var [SV.bool li, SV.int IntKind.i64 m, SV.int IntKind.i64 o, SV.sl opS l]), ((3 : Nat), LB.var [SV.bool li2, SV.int IntKind.i64 m2, SV.int IntKind.i64 o2, SV.sl opS l2])]) (R (hd Tryz.f24 (0 : Nat)) { env := [((0 : Nat), SV.agg [SV.bool li, SV.int IntKind.i64 m, SV.int IntKind.i64 o, SV.sl opS l]), ((1 : Nat), SV.agg [SV.bool li2, SV.int IntKind.i64 m2, SV.int IntKind.i64 o2, SV.sl opS l2]), ((2 : Nat), SV.ptr (2 : Nat) (0 : Nat)), ((3 : Nat), SV.ptr (3 : Nat) (0 : Nat)), ((4 : Nat), SV.bool false), ((5 : Nat), SV.int IntKind.i64 (0 : Int)), ((6 : Nat), SV.ptr (2 : Nat) (0 : Nat)), ((7 : Nat), SV.bool li), ((8 : Nat), SV.ptr (3 : Nat) (0 : Nat)), ((9 : Nat), SV.bool li2), ((10 : Nat), SV.bool !li == li2), ((11 : Nat), SV.bool false), ((12 : Nat), SV.ptr (2 : Nat) (1 : Nat)), ((13 : Nat), SV.int IntKind.i64 m), ((14 : Nat), SV.ptr (3 : Nat) (1 : Nat)), ((15 : Nat), SV.int IntKind.i64 m2), ((16 : Nat), SV.bool (decide (m ≠ m2))), ((17 : Nat), SV.bool (bif false then true else decide (m ≠ m2))), ((18 : Nat), SV.bool false), ((19 : Nat), SV.ptr (2 : Nat) (2 : Nat)), ((20 : Nat), SV.int IntKind.i64 o), ((21 : Nat), SV.ptr (3 : Nat) (2 : Nat)), ((22 : Nat), SV.int IntKind.i64 o2), ((23 : Nat), SV.bool (decide (o ≠ o2))), ((24 : Nat), SV.bool (bif false then true else decide (o ≠ o2))), ((25 : Nat), SV.bool false), ((26 : Nat), SV.ptr (2 : Nat) (3 : Nat)), ((27 : Nat), SV.sl opS l), ((28 : Nat), SV.int IntKind.i64 (↑l.length : Int)), ((29 : Nat), SV.ptr (3 : Nat) (3 : Nat)), ((30 : Nat), SV.sl opS l2), ((31 : Nat), SV.int IntKind.i64 (↑l2.length : Int)), ((32 : Nat), SV.bool (decide ((↑l.length : Int) ≠ (↑l2.length : Int)))), ((33 : Nat), SV.bool (bif false then true else decide ((↑l.length : Int) ≠ (↑l2.length : Int))))], blk := [((2 : Nat), LB.var [SV.bool li, SV.int IntKind.i64 m, SV.int IntKind.i64 o, SV.sl opS l]), ((3 : Nat), LB.var [SV.bool li2, SV.int IntKind.i64 m2, SV.int IntKind.i64 o2, SV.sl opS l2])] }))))) := by kernel_rfl
theorem vc_sameL (li li2 : Bool) (m o m2 o2 : Int) (l l2 : List OpT) (i : Nat) (Q : List SV → List (Nat × LB) → Prop) (R : List Item → PS → Prop) : sy tt G0 CS Tryz.f24.ntmps Tryz.f24.results.toList Q R 1000 (hd Tryz.f24 0) ⟨[(2, .ptr 2 0), (3, .ptr 3 0), (5, .int .i64 (i : Nat))], [(2, .var [.bool li, .int .i64 m, .int .i64 o, .sl opS l]), (3, .var [.bool li2, .int .i64 m2, .int .i64 o2, .sl opS l2])]⟩ =
    (bc (decide ((↑i : Int) < (↑l.length : Int))) ((0 : Int) ≤ (↑i : Int) ∧
 (↑i : Int) < (↑l.length : Int) ∧
 (0 : Int) ≤ (↑i : Int) ∧
 (↑i : Int) < (↑l2.length : Int) ∧
 ctSO.pre ((gtO l (↑i : Int).toNat), (gtO l2 (↑i : Int).toNat), ()) ∧
 bc (!soB (gtO l (↑i : Int).toNat) (gtO l2 (↑i : Int).toNat)) (Q [SV.bool false] [((2 : Nat), LB.var [SV.bool li, SV.int IntKind.i64 m, SV.int IntKind.i64 o, SV.sl opS l]), ((3 : Nat), LB.var [SV.bool li2, SV.int IntKind.i64 m2, SV.int IntKind.i64 o2, SV.sl opS l2])]) (R (hd Tryz.f24 (0 : Nat)) { env := [((2 : Nat), SV.ptr (2 : Nat) (0 : Nat)), ((3 : Nat), SV.ptr (3 : Nat) (0 : Nat)), ((5 : Nat), SV.int IntKind.i64 (IntKind.i64.wrap ((↑i : Int) + (1 : Int)))), ((34 : Nat), SV.int IntKind.i64 (↑i : Int)), ((35 : Nat), SV.ptr (2 : Nat) (3 : Nat)), ((36 : Nat), SV.sl opS l), ((37 : Nat), SV.int IntKind.i64 (↑l.length : Int)), ((38 : Nat), SV.bool (decide ((↑i : Int) < (↑l.length : Int)))), ((39 : Nat), SV.int IntKind.i64 (↑i : Int)), ((40 : Nat), SV.int IntKind.i64 (IntKind.i64.wrap ((↑i : Int) + (1 : Int)))), ((41 : Nat), SV.ptr (2 : Nat) (3 : Nat)), ((42 : Nat), SV.sl opS l), ((43 : Nat), SV.int IntKind.i64 (↑i : Int)), ((44 : Nat), SV.elv opS (gtO l (↑i : Int).toNat)), ((45 : Nat), SV.agg [SV.int IntKind.i64 (gtO l (↑i : Int).toNat).fst, SV.int IntKind.i64 (gtO l (↑i : Int).toNat).snd.fst, SV.int IntKind.i64 (gtO l (↑i : Int).toNat).snd.snd.fst, SV.int IntKind.u8 (gtO l (↑i : Int).toNat).snd.snd.snd.fst, SV.sl uB (gtO l (↑i : Int).toNat).snd.snd.snd.snd]), ((46 : Nat), SV.ptr (3 : Nat) (3 : Nat)), ((47 : Nat), SV.sl opS l2), ((48 : Nat), SV.int IntKind.i64 (↑i : Int)), ((49 : Nat), SV.elv opS (gtO l2 (↑i : Int).toNat)), ((50 : Nat), SV.agg [SV.int IntKind.i64 (gtO l2 (↑i : Int).toNat).fst, SV.int IntKind.i64 (gtO l2 (↑i : Int).toNat).snd.fst, SV.int IntKind.i64 (gtO l2 (↑i : Int).toNat).snd.snd.fst, SV.int IntKind.u8 (gtO l2 (↑i : Int).toNat).snd.snd.snd.fst, SV.sl uB (gtO l2 (↑i : Int).toNat).snd.snd.snd.snd]), ((51 : Nat), SV.bool (soB (gtO l (↑i : Int).toNat) (gtO l2 (↑i : Int).toNat))), ((52 : Nat), SV.bool !soB (gtO l (↑i : Int).toNat) (gtO l2 (↑i : Int).toNat))], blk := [((2 : Nat), LB.var [SV.bool li, SV.int IntKind.i64 m, SV.int IntKind.i64 o, SV.sl opS l]), ((3 : Nat), LB.var [SV.bool li2, SV.int IntKind.i64 m2, SV.int IntKind.i64 o2, SV.sl opS l2])] })) (Q [SV.bool true] [((2 : Nat), LB.var [SV.bool li, SV.int IntKind.i64 m, SV.int IntKind.i64 o, SV.sl opS l]), ((3 : Nat), LB.var [SV.bool li2, SV.int IntKind.i64 m2, SV.int IntKind.i64 o2, SV.sl opS l2])])) := by kernel_rfl
end Go.Proofs.YtikikmhlicoheaaGreatDoor
namespace Go.Proofs.YtikikmhlicoheaaGreatDoor
open Go.Px Go.Ax
set_option maxRecDepth 100000
attribute [local irreducible] Go.Px.sy Go.Px.syE
def plV (old : List Int) (m : Int) (l : List SyT) : List Int × Int := if (old.length : Int) = m then runV old l else ([], 61)
def ctPl : Ctr := ⟨[.sl uB, iI, .sl syS], fun x => List.length x.2.2.1 < 16777216, fun x => [.win true uB 0 0 (plV x.1 x.2.1 x.2.2.1).1.length, .int .i64 (plV x.1 x.2.1 x.2.2.1).2], fun x => [.row 5 uB (plV x.1 x.2.1 x.2.2.1).1]⟩
theorem pl_held : Held Tryz.prog G0 38 ctPl := by
  refine Held.run cxP (fn := Tryz.f38) rfl rfl ⟨by decide, by decide⟩ ?_
  rintro ⟨old, m, l, ⟨⟩⟩ hp
  replace hp : l.length < 16777216 := hp
  refine (vc_plain old m l _ _).mpr (bc_of (fun h => ?_) (fun h => ⟨hp, ?_⟩))
  · have h : (old.length : Int) ≠ m := of_decide_eq_true h
    have hv : plV old m l = ([], 61) := if_neg h
    refine qc_nilI (e := uB) (et := 5) (z := 61) ?_ ?_ rfl (by decide)
    · show [_, _] = _; rw [hv]; rfl
    · show [_] = _; rw [hv]
  · have h : ¬ (old.length : Int) ≠ m := of_decide_eq_false h
    have h : (old.length : Int) = m := by simpa using h
    have hv : plV old m l = runV old l := if_pos h
    refine qc_rowI (e := uB) (et := 5) (a := 1057344) (z := (runV old l).2) (xs := (runV old l).1) ?_ ?_ rfl rfl rfl
    · show [_, _] = _; rw [hv]
    · show [_] = _; rw [hv]
theorem symF_len {m : Int} : ∀ {l : List OpT}, (∀ x ∈ l, isRB x m = true) → ((symF l).length : Int) = lenS l
  | [], _ => rfl
  | x :: l, h => by
    have h1 := isRB_kind (h x (by simp))
    have h2 := symF_len (l := l) fun y hy => h y (by simp [hy])
    have hcl : (symsO x.1.toNat x).length = cntO x.1.toNat x := by unfold symsO; exact gen_len _ _ _
    rw [lenS_cons, symF, List.length_append, hcl]; omega
theorem symV_len (p : PaT) : (symV p).1.length < 16777216 := by
  unfold symV
  split
  · rename_i h
    obtain ⟨h1, h2, h3, _⟩ := chkV_ok h
    have := symF_len h1
    have h4 := h3.2
    simp only
    omega
  · show 0 < 16777216
    decide
def smL : List OpT → List OpT → Bool
  | [], [] => true
  | x :: l, y :: m => soB x y && smL l m
  | _, _ => false
def smB (p q : PaT) : Bool := (p.1 == q.1) && (decide (p.2.1 = q.2.1) && (decide (p.2.2.1 = q.2.2.1) && (decide (p.2.2.2.length = q.2.2.2.length) && smL p.2.2.2 q.2.2.2)))
def ctSm : Ctr := ⟨[paS, paS], fun x => List.length x.1.2.2.2 < 1099511627776, fun x => [.bool (smB x.1 x.2.1)], fun _ => []⟩
theorem sm_loop (li li2 : Bool) (m o m2 o2 : Int) (l l2 : List OpT) (hl : l.length < 1099511627776) (he : l.length = l2.length) : ∀ (k i : Nat), l.length - i = k → i ≤ l.length →
    GD 24 Tryz.f24 (fun rs _ => rs = [.bool (smL (l.drop i) (l2.drop i))]) (hd Tryz.f24 0) ⟨[(2, .ptr 2 0), (3, .ptr 3 0), (5, .int .i64 (i : Nat))], [(2, .var [.bool li, .int .i64 m, .int .i64 o, .sl opS l]), (3, .var [.bool li2, .int .i64 m2, .int .i64 o2, .sl opS l2])]⟩ := by
  intro k
  induction k with
  | zero =>
    intro i hk hi
    have hi : i = l.length := by omega
    subst hi
    refine sy_sound cxS _ _ _ ((vc_sameL li li2 m o m2 o2 l l2 _ _ _).mpr ?_)
    rw [decide_eq_false (by omega), bc_f, List.drop_length, he, List.drop_length]
    rfl
  | succ k ih =>
    intro i hk hi
    have hx : i < l.length := by omega
    have hy : i < l2.length := by omega
    refine sy_sound cxS _ _ _ ((vc_sameL li li2 m o m2 o2 l l2 i _ _).mpr ?_)
    rw [decide_eq_true (show (i : Int) < (l.length : Int) by omega), bc_t, Int.toNat_natCast, gtO_at hx, gtO_at hy, IntWalk.i64_in ((i : Int) + 1) (by omega), dropc hx, dropc hy, smL]
    refine ⟨by omega, by omega, by omega, by omega, trivial, bc_of (fun h => ?_) (fun h => ?_)⟩
    · have h : soB l[i] l2[i] = false := by simpa using h
      rw [h]; rfl
    · have h : soB l[i] l2[i] = true := by simpa using h
      rw [h]
      exact (ih (i + 1) (by omega) (by omega)).only ⟨rfl, rfl, rfl, trivial⟩ ⟨rfl, rfl, trivial⟩
theorem sm_held : Held Tryz.prog G0 24 ctSm := by
  refine Held.run cxS (fn := Tryz.f24) rfl rfl ⟨by decide, by decide⟩ ?_
  rintro ⟨⟨li, m, o, l⟩, ⟨li2, m2, o2, l2⟩, ⟨⟩⟩ hp
  replace hp : l.length < 1099511627776 := hp
  refine (vc_same li li2 m o m2 o2 l l2 _ _).mpr ?_
  cases e0 : (li == li2)
  · exact ⟨rfl, rfl, rfl, QC.flat (by show [SV.bool (smB _ _)] = _; simp only [smB, e0]; rfl) rfl rfl⟩
  · rw [Bool.not_true, bc_f]
    refine bc_of (fun h => ⟨rfl, rfl, ?_⟩) (fun h => bc_of (fun h2 => ⟨rfl, ?_⟩) (fun h2 => bc_of (fun h3 => ?_) (fun h3 => ?_)))
    · have h : m ≠ m2 := of_decide_eq_true h
      exact QC.flat (by show [SV.bool (smB _ _)] = _; simp only [smB, e0, decide_eq_false h]; rfl) rfl rfl
    · have h2 : o ≠ o2 := of_decide_eq_true h2
      exact QC.flat (by show [SV.bool (smB _ _)] = _; simp only [smB, e0, decide_eq_false h2, Bool.false_and, Bool.and_false]) rfl rfl
    · have h3 : (l.length : Int) ≠ l2.length := of_decide_eq_true h3
      have h3 : ¬ l.length = l2.length := by omega
      exact QC.flat (by show [SV.bool (smB _ _)] = _; simp only [smB, e0, decide_eq_false h3, Bool.false_and, Bool.and_false]) rfl rfl
    · have h : m = m2 := by
        have h : ¬ m ≠ m2 := of_decide_eq_false h
        simpa using h
      have h2 : o = o2 := by
        have h2 : ¬ o ≠ o2 := of_decide_eq_false h2
        simpa using h2
      have h3 : l.length = l2.length := by
        have h3 : ¬ (l.length : Int) ≠ l2.length := of_decide_eq_false h3
        omega
      refine ((sm_loop li li2 m o m2 o2 l l2 hp h3 _ 0 rfl (by omega)).post fun rs blk hq => QC.flat ?_ rfl (by rw [hq]; rfl)).only ⟨rfl, rfl, rfl, trivial⟩ ⟨rfl, rfl, trivial⟩
      rw [hq]
      show [SV.bool (smB _ _)] = _
      simp only [smB, e0, decide_eq_true h, decide_eq_true h2, decide_eq_true h3, Bool.true_and]; rfl
def rwV (n : Int) : PaT := if n = 0 then (false, 0, 0, []) else (false, n, n, [((1, 0, n, 0, []) : OpT)])
def ctRw : Ctr := ⟨[iI], fun _ => True, fun x => [paV (rwV x.1)], fun _ => []⟩
def ctRw1 : Ctr := ⟨[iI], fun x => x.1 ≠ 0, fun x => [.agg [.bool false, .int .i64 x.1, .int .i64 x.1, .win true opS 0 0 1]], fun x => [.row 55 opS [((1, 0, x.1, 0, []) : OpT)]]⟩
def ctRw0 : Ctr := ⟨[iI], fun x => ¬ x.1 ≠ 0, fun x => [paV (rwV x.1)], fun _ => []⟩
theorem rw1_held : Held Tryz.prog G0 35 ctRw1 := by
  refine Held.run cx0 (fn := Tryz.f35) rfl rfl ⟨by decide, by decide⟩ ?_
  rintro ⟨n, ⟨⟩⟩ hp
  replace hp : n ≠ 0 := hp
  refine (vc_rwhole n _ _).mpr ?_
  rw [decide_eq_false hp, bc_f]
  refine ⟨fun i => if i = 0 then some 10 else none, ?_, ?_, fun i j b h1 h2 => ?_, rfl⟩
  · exact ⟨_, _, rfl, ⟨_, rfl, _, _, rfl, rfl, _, _, rfl, rfl, _, _, rfl, rfl, _, _, rfl, .inl ⟨true, 10, rfl, rfl, fun h => h⟩, rfl⟩, rfl⟩
  · exact ⟨.inl ⟨10, rfl, rfl⟩, trivial⟩
  · simp only at h1 h2
    split at h1
    · split at h2
      · omega
      · cases h2
    · cases h1
theorem rw0_held : Held Tryz.prog G0 35 ctRw0 := by
  refine Held.run cx0 (fn := Tryz.f35) rfl rfl ⟨by decide, by decide⟩ ?_
  rintro ⟨n, ⟨⟩⟩ hp
  replace hp : ¬ n ≠ 0 := hp
  have hp : n = 0 := by simpa using hp
  refine (vc_rwhole n _ _).mpr ?_
  rw [decide_eq_true hp, bc_t]
  refine QC.mt ?_ rfl
  show MtL _ [paV (rwV n)] _
  unfold rwV
  rw [if_pos hp]
  exact ⟨_, _, rfl, ⟨_, rfl, _, _, rfl, rfl, _, _, rfl, rfl, _, _, rfl, rfl, _, _, rfl, .inr ⟨rfl, rfl⟩, rfl⟩, rfl⟩
theorem rw_held : Held Tryz.prog G0 35 ctRw := fun x _ => by
  by_cases h : x.1 ≠ 0
  · have e := (rw1_held.frz (fun x hp => ⟨by simp [ctRw1, inL, inS], trivial⟩)) x h
    have hv : [paV (rwV x.1)] = frzRs 0 (ctRw1.rows x) (ctRw1.out x) := by
      unfold rwV; rw [if_neg h]; rfl
    intro base M args args' w cs Z H h1 h2 h3 h4 h5
    have := e base M args args' w cs Z H h1 h2 h3 h4 h5
    simp only [Ctr.frz, ctRw] at this ⊢
    rw [hv]
    exact this
  · exact rw0_held x h
end Go.Proofs.YtikikmhlicoheaaGreatDoor
namespace Go.Proofs.YtikikmhlicoheaaGreatDoor
open Go.Px Go.Ax
set_option maxRecDepth 100000
def CQ : CV := [(38, .inl ctPl), (19, .inl ctSym)]
theorem cxQ : CxOK Tryz.prog tt G0 CQ := (cx0.cons sym_held (fn := Tryz.f19) rfl rfl rfl).cons pl_held (fn := Tryz.f38) rfl rfl rfl
set_option maxRecDepth 100000
theorem vc_apply (old : List Int) (li : Bool) (m o : Int) (l : List OpT) (Q : List SV → List (Nat × LB) → Prop) (R : List Item → PS → Prop) : sy tt G0 CQ Tryz.f14.ntmps Tryz.f14.results.toList Q R 1000 [.code (bodyOf Tryz.f14)] (entry [.sl uB, paS] (old, (li, m, o, l), ())) =
    (ctSym.pre ((li, m, o, l), ()) ∧
 bc (decide ((symV (li, m, o, l)).snd ≠ (0 : Int))) (Q [SV.nils, SV.int IntKind.i64 (symV (li, m, o, l)).snd] [((3 : Nat), LB.var [SV.bool li, SV.int IntKind.i64 m, SV.int IntKind.i64 o, SV.sl opS l]), ((1040960 : Nat), LB.row (60 : Nat) syS (symV (li, m, o, l)).fst)]) (bc li False ((0 : Nat) + (symV (li, m, o, l)).fst.length ≤ (symV (li, m, o, l)).fst.length ∧
 ctPl.pre (old, m, winL syS (0 : Nat) (symV (li, m, o, l)).fst.length (symV (li, m, o, l)).fst, ()) ∧
 Q [SV.win true uB (1118784 : Nat) (0 : Nat) (plV old m (winL syS (0 : Nat) (symV (li, m, o, l)).fst.length (symV (li, m, o, l)).fst)).fst.length, SV.int IntKind.i64 (plV old m (winL syS (0 : Nat) (symV (li, m, o, l)).fst.length (symV (li, m, o, l)).fst)).snd] [((3 : Nat), LB.var [SV.bool li, SV.int IntKind.i64 m, SV.int IntKind.i64 o, SV.sl opS l]), ((1040960 : Nat), LB.row (60 : Nat) syS (symV (li, m, o, l)).fst), ((1118784 : Nat), LB.row (5 : Nat) uB (plV old m (winL syS (0 : Nat) (symV (li, m, o, l)).fst.length (symV (li, m, o, l)).fst)).fst)]))) := by kernel_rfl
end Go.Proofs.YtikikmhlicoheaaGreatDoor
namespace Go.Proofs.YtikikmhlicoheaaGreatDoor
open Go.Px Go.Ax
set_option maxRecDepth 100000
attribute [local irreducible] Go.Px.sy Go.Px.syE
def apV (old : List Int) (p : PaT) : List Int × Int := if (symV p).2 = 0 then plV old p.2.1 (symV p).1 else ([], (symV p).2)
def ctAp : Ctr := ⟨[.sl uB, paS], fun x => x.2.1.1 = false, fun x => [.win true uB 0 0 (apV x.1 x.2.1).1.length, .int .i64 (apV x.1 x.2.1).2], fun x => [.row 5 uB (apV x.1 x.2.1).1]⟩
theorem ap_held : Held Tryz.prog G0 14 ctAp := by
  refine Held.run cxQ (fn := Tryz.f14) rfl rfl ⟨by decide, by decide⟩ ?_
  rintro ⟨old, ⟨li, m, o, l⟩, ⟨⟩⟩ hp
  replace hp : li = false := hp
  subst hp
  refine (vc_apply old false m o l _ _).mpr ⟨trivial, bc_of (fun h => ?_) (fun h => ?_)⟩
  · have h : (symV (false, m, o, l)).2 ≠ 0 := of_decide_eq_true h
    have hv : apV old (false, m, o, l) = ([], (symV (false, m, o, l)).2) := if_neg h
    refine qc_nilI (e := uB) (et := 5) (z := (symV (false, m, o, l)).2) ?_ ?_ rfl (by decide)
    · show [_, _] = _; rw [hv]; rfl
    · show [_] = _; rw [hv]
  · have h : ¬ (symV (false, m, o, l)).2 ≠ 0 := of_decide_eq_false h
    have h : (symV (false, m, o, l)).2 = 0 := by simpa using h
    have hv : apV old (false, m, o, l) = plV old m (symV (false, m, o, l)).1 := if_pos h
    have hl := symV_len (false, m, o, l)
    have hw : winL syS 0 (symV (false, m, o, l)).1.length (symV (false, m, o, l)).1 = (symV (false, m, o, l)).1 := winA (e := syS) _
    rw [bc_f, hw]
    refine ⟨Nat.le_of_eq (Nat.zero_add _), hl, ?_⟩
    refine qc_rowI (e := uB) (et := 5) (a := 1118784) (z := (plV old m (symV (false, m, o, l)).1).2) (xs := (plV old m (symV (false, m, o, l)).1).1) ?_ ?_ rfl rfl rfl
    · show [_, _] = _; rw [hv]
    · show [_] = _; rw [hv]
def CN : CV := [(18, .inl ctR2), (23, .inl ctSS), (24, .inl ctSm), (35, .inl ctRw), (31, .inl ctWh), (25, .inl ctCost), (19, .inl ctSym), (14, .inl ctAp), (20, .inl ctOf), (22, .inl ctChk)]
theorem cxN : CxOK Tryz.prog tt G0 CN := (((((((((cx0.cons chk_held (fn := Tryz.f22) rfl rfl rfl).cons of_held (fn := Tryz.f20) rfl rfl rfl).cons ap_held (fn := Tryz.f14) rfl rfl rfl).cons sym_held (fn := Tryz.f19) rfl rfl rfl).cons cost_held (fn := Tryz.f25) rfl rfl rfl).cons wh_held (fn := Tryz.f31) rfl rfl rfl).cons rw_held (fn := Tryz.f35) rfl rfl rfl).cons sm_held (fn := Tryz.f24) rfl rfl rfl).cons ss_held (fn := Tryz.f23) rfl rfl rfl).cons r2_held (fn := Tryz.f18) rfl rfl rfl
end Go.Proofs.YtikikmhlicoheaaGreatDoor
namespace Go.Proofs.YtikikmhlicoheaaGreatDoor
open Go.Px Go.Ax
set_option maxRecDepth 100000
set_option maxRecDepth 100000
theorem vc_san  (Q : List SV → List (Nat × LB) → Prop) (R : List Item → PS → Prop) : sy tt G0 CN Tryz.f9.ntmps Tryz.f9.results.toList Q R 1000 [.code (bodyOf Tryz.f9)] (entry [] ()) =
    ((0 : Nat) + (2 : Nat) ≤ (((List.replicate (2 : Nat) uB.dflt).set (0 : Nat) (255 : Int)).set (1 : Nat) (1 : Int)).length ∧
 (0 : Nat) + (2 : Nat) ≤ (((List.replicate (2 : Nat) uB.dflt).set (0 : Nat) (255 : Int)).set (1 : Nat) (1 : Int)).length ∧
 (0 : Nat) + (3 : Nat) ≤ ((((List.replicate (3 : Nat) uB.dflt).set (0 : Nat) (1 : Int)).set (1 : Nat) (2 : Int)).set (2 : Nat) (3 : Int)).length ∧
 (0 : Nat) + (2 : Nat) ≤ (((List.replicate (2 : Nat) opS.dflt).set (0 : Nat) ((1 : Int), (1 : Int), (2 : Int), (0 : Int), [])).set (1 : Nat) ((3 : Int), (0 : Int), (2 : Int), (9 : Int), [])).length ∧
 ctAp.pre (winL uB (0 : Nat) (3 : Nat) ((((List.replicate (3 : Nat) uB.dflt).set (0 : Nat) (1 : Int)).set (1 : Nat) (2 : Int)).set (2 : Nat) (3 : Int)), (false, (3 : Int), (4 : Int), winL opS (0 : Nat) (2 : Nat) (((List.replicate (2 : Nat) opS.dflt).set (0 : Nat) ((1 : Int), (1 : Int), (2 : Int), (0 : Int), [])).set (1 : Nat) ((3 : Int), (0 : Int), (2 : Int), (9 : Int), []))), ()) ∧
 (0 : Nat) + (3 : Nat) ≤ ((((List.replicate (3 : Nat) uB.dflt).set (0 : Nat) (1 : Int)).set (1 : Nat) (2 : Int)).set (2 : Nat) (3 : Int)).length ∧
 (0 : Nat) + (1 : Nat) ≤ ([((2 : Int), (0 : Int), (2 : Int), (0 : Int), winL uB (0 : Nat) (2 : Nat) (((List.replicate (2 : Nat) uB.dflt).set (0 : Nat) (255 : Int)).set (1 : Nat) (1 : Int)))] : List opS.D).length ∧
 ctAp.pre (winL uB (0 : Nat) (3 : Nat) ((((List.replicate (3 : Nat) uB.dflt).set (0 : Nat) (1 : Int)).set (1 : Nat) (2 : Int)).set (2 : Nat) (3 : Int)), (false, (3 : Int), (2 : Int), ([((2 : Int), (0 : Int), (2 : Int), (0 : Int), winL uB (0 : Nat) (2 : Nat) (((List.replicate (2 : Nat) uB.dflt).set (0 : Nat) (255 : Int)).set (1 : Nat) (1 : Int)))] : List opS.D)), ()) ∧
 (0 : Nat) + (2 : Nat) ≤ (((List.replicate (2 : Nat) opS.dflt).set (0 : Nat) ((1 : Int), (1 : Int), (2 : Int), (0 : Int), [])).set (1 : Nat) ((3 : Int), (0 : Int), (2 : Int), (9 : Int), [])).length ∧
 ctSym.pre ((false, (3 : Int), (4 : Int), winL opS (0 : Nat) (2 : Nat) (((List.replicate (2 : Nat) opS.dflt).set (0 : Nat) ((1 : Int), (1 : Int), (2 : Int), (0 : Int), [])).set (1 : Nat) ((3 : Int), (0 : Int), (2 : Int), (9 : Int), []))), ()) ∧
 (0 : Nat) + (1 : Nat) ≤ ([((1 : Int), (2 : Int), (2 : Int), (0 : Int), [])] : List opS.D).length ∧
 ctChk.pre ((false, (3 : Int), (2 : Int), ([((1 : Int), (2 : Int), (2 : Int), (0 : Int), [])] : List opS.D)), ()) ∧
 (0 : Nat) + (1 : Nat) ≤ ([(7 : Int)] : List uB.D).length ∧
 (0 : Nat) + (1 : Nat) ≤ ([(7 : Int)] : List uB.D).length ∧
 (0 : Nat) + (1 : Nat) ≤ ([((4 : Int), (0 : Int), (1 : Int), (0 : Int), ([(7 : Int)] : List uB.D))] : List opS.D).length ∧
 ctChk.pre ((false, (3 : Int), (2 : Int), ([((4 : Int), (0 : Int), (1 : Int), (0 : Int), winL uB (0 : Nat) (1 : Nat) ([(7 : Int)] : List uB.D))] : List opS.D)), ()) ∧
 (0 : Nat) + (4 : Nat) ≤ (((((List.replicate (4 : Nat) syS.dflt).set (0 : Nat) (true, (1 : Int), (0 : Int))).set (1 : Nat) (true, (2 : Int), (0 : Int))).set (2 : Nat) (false, (0 : Int), (9 : Int))).set (3 : Nat) (false, (0 : Int), (9 : Int))).length ∧
 ctOf.pre (winL syS (0 : Nat) (4 : Nat) (((((List.replicate (4 : Nat) syS.dflt).set (0 : Nat) (true, (1 : Int), (0 : Int))).set (1 : Nat) (true, (2 : Int), (0 : Int))).set (2 : Nat) (false, (0 : Int), (9 : Int))).set (3 : Nat) (false, (0 : Int), (9 : Int))), (3 : Int), ()) ∧
 (0 : Int) ≤ (2 : Int) ∧
 (2 : Int) ≤ (↑(3 : Nat) : Int) ∧
 (0 : Nat) + (3 : Nat) ≤ ((((List.replicate (3 : Nat) uB.dflt).set (0 : Nat) (1 : Int)).set (1 : Nat) (2 : Int)).set (2 : Nat) (3 : Int)).length ∧
 (0 : Nat) + (0 : Nat) + (Int.toNat (2 : Int) - (0 : Nat)) ≤ ((((List.replicate (3 : Nat) uB.dflt).set (0 : Nat) (1 : Int)).set (1 : Nat) (2 : Int)).set (2 : Nat) (3 : Int)).length ∧
 (0 : Nat) + (2 : Nat) ≤ (((List.replicate (2 : Nat) opS.dflt).set (0 : Nat) ((1 : Int), (1 : Int), (2 : Int), (0 : Int), [])).set (1 : Nat) ((3 : Int), (0 : Int), (2 : Int), (9 : Int), [])).length ∧
 ctAp.pre (winL uB ((0 : Nat) + (0 : Nat)) (Int.toNat (2 : Int) - (0 : Nat)) ((((List.replicate (3 : Nat) uB.dflt).set (0 : Nat) (1 : Int)).set (1 : Nat) (2 : Int)).set (2 : Nat) (3 : Int)), (false, (3 : Int), (4 : Int), winL opS (0 : Nat) (2 : Nat) (((List.replicate (2 : Nat) opS.dflt).set (0 : Nat) ((1 : Int), (1 : Int), (2 : Int), (0 : Int), [])).set (1 : Nat) ((3 : Int), (0 : Int), (2 : Int), (9 : Int), []))), ()) ∧
 (0 : Nat) + (2 : Nat) ≤ (((List.replicate (2 : Nat) uB.dflt).set (0 : Nat) (9 : Int)).set (1 : Nat) (9 : Int)).length ∧
 (0 : Nat) + (2 : Nat) ≤ (((List.replicate (2 : Nat) uB.dflt).set (0 : Nat) (9 : Int)).set (1 : Nat) (9 : Int)).length ∧
 (0 : Nat) + (apV (winL uB (0 : Nat) (3 : Nat) ((((List.replicate (3 : Nat) uB.dflt).set (0 : Nat) (1 : Int)).set (1 : Nat) (2 : Int)).set (2 : Nat) (3 : Int))) (false, (3 : Int), (4 : Int), winL opS (0 : Nat) (2 : Nat) (((List.replicate (2 : Nat) opS.dflt).set (0 : Nat) ((1 : Int), (1 : Int), (2 : Int), (0 : Int), [])).set (1 : Nat) ((3 : Int), (0 : Int), (2 : Int), (9 : Int), [])))).fst.length ≤ (apV (winL uB (0 : Nat) (3 : Nat) ((((List.replicate (3 : Nat) uB.dflt).set (0 : Nat) (1 : Int)).set (1 : Nat) (2 : Int)).set (2 : Nat) (3 : Int))) (false, (3 : Int), (4 : Int), winL opS (0 : Nat) (2 : Nat) (((List.replicate (2 : Nat) opS.dflt).set (0 : Nat) ((1 : Int), (1 : Int), (2 : Int), (0 : Int), [])).set (1 : Nat) ((3 : Int), (0 : Int), (2 : Int), (9 : Int), [])))).fst.length ∧
 (0 : Nat) + (4 : Nat) ≤ (((((List.replicate (4 : Nat) uB.dflt).set (0 : Nat) (2 : Int)).set (1 : Nat) (3 : Int)).set (2 : Nat) (9 : Int)).set (3 : Nat) (9 : Int)).length ∧
 ctR2.pre (winL uB (0 : Nat) (apV (winL uB (0 : Nat) (3 : Nat) ((((List.replicate (3 : Nat) uB.dflt).set (0 : Nat) (1 : Int)).set (1 : Nat) (2 : Int)).set (2 : Nat) (3 : Int))) (false, (3 : Int), (4 : Int), winL opS (0 : Nat) (2 : Nat) (((List.replicate (2 : Nat) opS.dflt).set (0 : Nat) ((1 : Int), (1 : Int), (2 : Int), (0 : Int), [])).set (1 : Nat) ((3 : Int), (0 : Int), (2 : Int), (9 : Int), [])))).fst.length (apV (winL uB (0 : Nat) (3 : Nat) ((((List.replicate (3 : Nat) uB.dflt).set (0 : Nat) (1 : Int)).set (1 : Nat) (2 : Int)).set (2 : Nat) (3 : Int))) (false, (3 : Int), (4 : Int), winL opS (0 : Nat) (2 : Nat) (((List.replicate (2 : Nat) opS.dflt).set (0 : Nat) ((1 : Int), (1 : Int), (2 : Int), (0 : Int), [])).set (1 : Nat) ((3 : Int), (0 : Int), (2 : Int), (9 : Int), [])))).fst, winL uB (0 : Nat) (4 : Nat) (((((List.replicate (4 : Nat) uB.dflt).set (0 : Nat) (2 : Int)).set (1 : Nat) (3 : Int)).set (2 : Nat) (9 : Int)).set (3 : Nat) (9 : Int)), ()) ∧
 (0 : Nat) + (apV (winL uB (0 : Nat) (3 : Nat) ((((List.replicate (3 : Nat) uB.dflt).set (0 : Nat) (1 : Int)).set (1 : Nat) (2 : Int)).set (2 : Nat) (3 : Int))) (false, (3 : Int), (2 : Int), ([((2 : Int), (0 : Int), (2 : Int), (0 : Int), winL uB (0 : Nat) (2 : Nat) (((List.replicate (2 : Nat) uB.dflt).set (0 : Nat) (255 : Int)).set (1 : Nat) (1 : Int)))] : List opS.D))).fst.length ≤ (apV (winL uB (0 : Nat) (3 : Nat) ((((List.replicate (3 : Nat) uB.dflt).set (0 : Nat) (1 : Int)).set (1 : Nat) (2 : Int)).set (2 : Nat) (3 : Int))) (false, (3 : Int), (2 : Int), ([((2 : Int), (0 : Int), (2 : Int), (0 : Int), winL uB (0 : Nat) (2 : Nat) (((List.replicate (2 : Nat) uB.dflt).set (0 : Nat) (255 : Int)).set (1 : Nat) (1 : Int)))] : List opS.D))).fst.length ∧
 (0 : Nat) + (2 : Nat) ≤ (((List.replicate (2 : Nat) uB.dflt).set (0 : Nat) (0 : Int)).set (1 : Nat) (3 : Int)).length ∧
 ctR2.pre (winL uB (0 : Nat) (apV (winL uB (0 : Nat) (3 : Nat) ((((List.replicate (3 : Nat) uB.dflt).set (0 : Nat) (1 : Int)).set (1 : Nat) (2 : Int)).set (2 : Nat) (3 : Int))) (false, (3 : Int), (2 : Int), ([((2 : Int), (0 : Int), (2 : Int), (0 : Int), winL uB (0 : Nat) (2 : Nat) (((List.replicate (2 : Nat) uB.dflt).set (0 : Nat) (255 : Int)).set (1 : Nat) (1 : Int)))] : List opS.D))).fst.length (apV (winL uB (0 : Nat) (3 : Nat) ((((List.replicate (3 : Nat) uB.dflt).set (0 : Nat) (1 : Int)).set (1 : Nat) (2 : Int)).set (2 : Nat) (3 : Int))) (false, (3 : Int), (2 : Int), ([((2 : Int), (0 : Int), (2 : Int), (0 : Int), winL uB (0 : Nat) (2 : Nat) (((List.replicate (2 : Nat) uB.dflt).set (0 : Nat) (255 : Int)).set (1 : Nat) (1 : Int)))] : List opS.D))).fst, winL uB (0 : Nat) (2 : Nat) (((List.replicate (2 : Nat) uB.dflt).set (0 : Nat) (0 : Int)).set (1 : Nat) (3 : Int)), ()) ∧
 (0 : Nat) + (symV (false, (3 : Int), (4 : Int), winL opS (0 : Nat) (2 : Nat) (((List.replicate (2 : Nat) opS.dflt).set (0 : Nat) ((1 : Int), (1 : Int), (2 : Int), (0 : Int), [])).set (1 : Nat) ((3 : Int), (0 : Int), (2 : Int), (9 : Int), [])))).fst.length ≤ (symV (false, (3 : Int), (4 : Int), winL opS (0 : Nat) (2 : Nat) (((List.replicate (2 : Nat) opS.dflt).set (0 : Nat) ((1 : Int), (1 : Int), (2 : Int), (0 : Int), [])).set (1 : Nat) ((3 : Int), (0 : Int), (2 : Int), (9 : Int), [])))).fst.length ∧
 (0 : Nat) + (4 : Nat) ≤ (((((List.replicate (4 : Nat) syS.dflt).set (0 : Nat) (true, (1 : Int), (0 : Int))).set (1 : Nat) (true, (2 : Int), (0 : Int))).set (2 : Nat) (false, (0 : Int), (9 : Int))).set (3 : Nat) (false, (0 : Int), (9 : Int))).length ∧
 ctSS.pre (winL syS (0 : Nat) (symV (false, (3 : Int), (4 : Int), winL opS (0 : Nat) (2 : Nat) (((List.replicate (2 : Nat) opS.dflt).set (0 : Nat) ((1 : Int), (1 : Int), (2 : Int), (0 : Int), [])).set (1 : Nat) ((3 : Int), (0 : Int), (2 : Int), (9 : Int), [])))).fst.length (symV (false, (3 : Int), (4 : Int), winL opS (0 : Nat) (2 : Nat) (((List.replicate (2 : Nat) opS.dflt).set (0 : Nat) ((1 : Int), (1 : Int), (2 : Int), (0 : Int), [])).set (1 : Nat) ((3 : Int), (0 : Int), (2 : Int), (9 : Int), [])))).fst, winL syS (0 : Nat) (4 : Nat) (((((List.replicate (4 : Nat) syS.dflt).set (0 : Nat) (true, (1 : Int), (0 : Int))).set (1 : Nat) (true, (2 : Int), (0 : Int))).set (2 : Nat) (false, (0 : Int), (9 : Int))).set (3 : Nat) (false, (0 : Int), (9 : Int))), ()) ∧
 (0 : Nat) + (2 : Nat) ≤ (((List.replicate (2 : Nat) opS.dflt).set (0 : Nat) ((1 : Int), (1 : Int), (2 : Int), (0 : Int), [])).set (1 : Nat) ((4 : Int), (0 : Int), (2 : Int), (0 : Int), winL uB (0 : Nat) (2 : Nat) (((List.replicate (2 : Nat) uB.dflt).set (0 : Nat) (9 : Int)).set (1 : Nat) (9 : Int)))).length ∧
 ctSm.pre (((ofV (winL syS (0 : Nat) (4 : Nat) (((((List.replicate (4 : Nat) syS.dflt).set (0 : Nat) (true, (1 : Int), (0 : Int))).set (1 : Nat) (true, (2 : Int), (0 : Int))).set (2 : Nat) (false, (0 : Int), (9 : Int))).set (3 : Nat) (false, (0 : Int), (9 : Int)))) (3 : Int)).fst.fst, (ofV (winL syS (0 : Nat) (4 : Nat) (((((List.replicate (4 : Nat) syS.dflt).set (0 : Nat) (true, (1 : Int), (0 : Int))).set (1 : Nat) (true, (2 : Int), (0 : Int))).set (2 : Nat) (false, (0 : Int), (9 : Int))).set (3 : Nat) (false, (0 : Int), (9 : Int)))) (3 : Int)).fst.snd.fst, (ofV (winL syS (0 : Nat) (4 : Nat) (((((List.replicate (4 : Nat) syS.dflt).set (0 : Nat) (true, (1 : Int), (0 : Int))).set (1 : Nat) (true, (2 : Int), (0 : Int))).set (2 : Nat) (false, (0 : Int), (9 : Int))).set (3 : Nat) (false, (0 : Int), (9 : Int)))) (3 : Int)).fst.snd.snd.fst, (ofV (winL syS (0 : Nat) (4 : Nat) (((((List.replicate (4 : Nat) syS.dflt).set (0 : Nat) (true, (1 : Int), (0 : Int))).set (1 : Nat) (true, (2 : Int), (0 : Int))).set (2 : Nat) (false, (0 : Int), (9 : Int))).set (3 : Nat) (false, (0 : Int), (9 : Int)))) (3 : Int)).fst.snd.snd.snd), (false, (3 : Int), (4 : Int), winL opS (0 : Nat) (2 : Nat) (((List.replicate (2 : Nat) opS.dflt).set (0 : Nat) ((1 : Int), (1 : Int), (2 : Int), (0 : Int), [])).set (1 : Nat) ((4 : Int), (0 : Int), (2 : Int), (0 : Int), winL uB (0 : Nat) (2 : Nat) (((List.replicate (2 : Nat) uB.dflt).set (0 : Nat) (9 : Int)).set (1 : Nat) (9 : Int))))), ()) ∧
 (0 : Nat) + (2 : Nat) ≤ (((List.replicate (2 : Nat) opS.dflt).set (0 : Nat) ((1 : Int), (1 : Int), (2 : Int), (0 : Int), [])).set (1 : Nat) ((3 : Int), (0 : Int), (2 : Int), (9 : Int), [])).length ∧
 ctCost.pre ((false, (3 : Int), (4 : Int), winL opS (0 : Nat) (2 : Nat) (((List.replicate (2 : Nat) opS.dflt).set (0 : Nat) ((1 : Int), (1 : Int), (2 : Int), (0 : Int), [])).set (1 : Nat) ((3 : Int), (0 : Int), (2 : Int), (9 : Int), []))), ()) ∧
 (0 : Nat) + (1 : Nat) ≤ ([((2 : Int), (0 : Int), (2 : Int), (0 : Int), winL uB (0 : Nat) (2 : Nat) (((List.replicate (2 : Nat) uB.dflt).set (0 : Nat) (255 : Int)).set (1 : Nat) (1 : Int)))] : List opS.D).length ∧
 ctCost.pre ((false, (3 : Int), (2 : Int), ([((2 : Int), (0 : Int), (2 : Int), (0 : Int), winL uB (0 : Nat) (2 : Nat) (((List.replicate (2 : Nat) uB.dflt).set (0 : Nat) (255 : Int)).set (1 : Nat) (1 : Int)))] : List opS.D)), ()) ∧
 (0 : Nat) + (2 : Nat) ≤ (((List.replicate (2 : Nat) opS.dflt).set (0 : Nat) ((1 : Int), (1 : Int), (2 : Int), (0 : Int), [])).set (1 : Nat) ((4 : Int), (0 : Int), (2 : Int), (0 : Int), winL uB (0 : Nat) (2 : Nat) (((List.replicate (2 : Nat) uB.dflt).set (0 : Nat) (9 : Int)).set (1 : Nat) (9 : Int)))).length ∧
 ctCost.pre ((false, (3 : Int), (4 : Int), winL opS (0 : Nat) (2 : Nat) (((List.replicate (2 : Nat) opS.dflt).set (0 : Nat) ((1 : Int), (1 : Int), (2 : Int), (0 : Int), [])).set (1 : Nat) ((4 : Int), (0 : Int), (2 : Int), (0 : Int), winL uB (0 : Nat) (2 : Nat) (((List.replicate (2 : Nat) uB.dflt).set (0 : Nat) (9 : Int)).set (1 : Nat) (9 : Int))))), ()) ∧
 ctWh.pre ((3 : Int), ()) ∧
 ctRw.pre ((3 : Int), ()) ∧
 ctSm.pre (((whV (3 : Int)).fst, (whV (3 : Int)).snd.fst, (whV (3 : Int)).snd.snd.fst, (whV (3 : Int)).snd.snd.snd), ((rwV (3 : Int)).fst, (rwV (3 : Int)).snd.fst, (rwV (3 : Int)).snd.snd.fst, (rwV (3 : Int)).snd.snd.snd), ()) ∧
 ctWh.pre ((0 : Int), ()) ∧
 ctSm.pre (((whV (0 : Int)).fst, (whV (0 : Int)).snd.fst, (whV (0 : Int)).snd.snd.fst, (whV (0 : Int)).snd.snd.snd), (false, (0 : Int), (0 : Int), []), ()) ∧
 Q [SV.bool (bif true then smB ((whV (0 : Int)).fst, (whV (0 : Int)).snd.fst, (whV (0 : Int)).snd.snd.fst, (whV (0 : Int)).snd.snd.snd) (false, (0 : Int), (0 : Int), []) else false)] [((2 : Nat), LB.var [SV.bool false, SV.int IntKind.i64 (3 : Int), SV.int IntKind.i64 (4 : Int), SV.win true opS (23 : Nat) (0 : Nat) (2 : Nat)]), ((3 : Nat), LB.var [SV.bool false, SV.int IntKind.i64 (3 : Int), SV.int IntKind.i64 (2 : Int), SV.win true opS (27 : Nat) (0 : Nat) (1 : Nat)]), ((14 : Nat), LB.var [SV.bool (ofV (winL syS (0 : Nat) (4 : Nat) (((((List.replicate (4 : Nat) syS.dflt).set (0 : Nat) (true, (1 : Int), (0 : Int))).set (1 : Nat) (true, (2 : Int), (0 : Int))).set (2 : Nat) (false, (0 : Int), (9 : Int))).set (3 : Nat) (false, (0 : Int), (9 : Int)))) (3 : Int)).fst.fst, SV.int IntKind.i64 (ofV (winL syS (0 : Nat) (4 : Nat) (((((List.replicate (4 : Nat) syS.dflt).set (0 : Nat) (true, (1 : Int), (0 : Int))).set (1 : Nat) (true, (2 : Int), (0 : Int))).set (2 : Nat) (false, (0 : Int), (9 : Int))).set (3 : Nat) (false, (0 : Int), (9 : Int)))) (3 : Int)).fst.snd.fst, SV.int IntKind.i64 (ofV (winL syS (0 : Nat) (4 : Nat) (((((List.replicate (4 : Nat) syS.dflt).set (0 : Nat) (true, (1 : Int), (0 : Int))).set (1 : Nat) (true, (2 : Int), (0 : Int))).set (2 : Nat) (false, (0 : Int), (9 : Int))).set (3 : Nat) (false, (0 : Int), (9 : Int)))) (3 : Int)).fst.snd.snd.fst, SV.sl opS (ofV (winL syS (0 : Nat) (4 : Nat) (((((List.replicate (4 : Nat) syS.dflt).set (0 : Nat) (true, (1 : Int), (0 : Int))).set (1 : Nat) (true, (2 : Int), (0 : Int))).set (2 : Nat) (false, (0 : Int), (9 : Int))).set (3 : Nat) (false, (0 : Int), (9 : Int)))) (3 : Int)).fst.snd.snd.snd]), ((18 : Nat), LB.var [SV.bool false, SV.int IntKind.i64 (3 : Int), SV.int IntKind.i64 (4 : Int), SV.win true opS (80 : Nat) (0 : Nat) (2 : Nat)]), ((20 : Nat), LB.row (5 : Nat) uB ((((List.replicate (3 : Nat) uB.dflt).set (0 : Nat) (1 : Int)).set (1 : Nat) (2 : Int)).set (2 : Nat) (3 : Int))), ((23 : Nat), LB.row (55 : Nat) opS (((List.replicate (2 : Nat) opS.dflt).set (0 : Nat) ((1 : Int), (1 : Int), (2 : Int), (0 : Int), [])).set (1 : Nat) ((3 : Int), (0 : Int), (2 : Int), (9 : Int), []))), ((27 : Nat), LB.row (55 : Nat) opS ([((2 : Int), (0 : Int), (2 : Int), (0 : Int), winL uB (0 : Nat) (2 : Nat) (((List.replicate (2 : Nat) uB.dflt).set (0 : Nat) (255 : Int)).set (1 : Nat) (1 : Int)))] : List opS.D)), ((48 : Nat), LB.row (55 : Nat) opS ([((1 : Int), (2 : Int), (2 : Int), (0 : Int), [])] : List opS.D)), ((56 : Nat), LB.row (55 : Nat) opS ([((4 : Int), (0 : Int), (1 : Int), (0 : Int), ([(7 : Int)] : List uB.D))] : List opS.D)), ((80 : Nat), LB.row (55 : Nat) opS (((List.replicate (2 : Nat) opS.dflt).set (0 : Nat) ((1 : Int), (1 : Int), (2 : Int), (0 : Int), [])).set (1 : Nat) ((4 : Int), (0 : Int), (2 : Int), (0 : Int), winL uB (0 : Nat) (2 : Nat) (((List.replicate (2 : Nat) uB.dflt).set (0 : Nat) (9 : Int)).set (1 : Nat) (9 : Int))))), ((86 : Nat), LB.row (5 : Nat) uB (((((List.replicate (4 : Nat) uB.dflt).set (0 : Nat) (2 : Int)).set (1 : Nat) (3 : Int)).set (2 : Nat) (9 : Int)).set (3 : Nat) (9 : Int))), ((95 : Nat), LB.row (5 : Nat) uB (((List.replicate (2 : Nat) uB.dflt).set (0 : Nat) (0 : Int)).set (1 : Nat) (3 : Int))), ((108 : Nat), LB.row (60 : Nat) syS (((((List.replicate (4 : Nat) syS.dflt).set (0 : Nat) (true, (1 : Int), (0 : Int))).set (1 : Nat) (true, (2 : Int), (0 : Int))).set (2 : Nat) (false, (0 : Int), (9 : Int))).set (3 : Nat) (false, (0 : Int), (9 : Int)))), ((1131072 : Nat), LB.row (5 : Nat) uB (apV (winL uB (0 : Nat) (3 : Nat) ((((List.replicate (3 : Nat) uB.dflt).set (0 : Nat) (1 : Int)).set (1 : Nat) (2 : Int)).set (2 : Nat) (3 : Int))) (false, (3 : Int), (4 : Int), winL opS (0 : Nat) (2 : Nat) (((List.replicate (2 : Nat) opS.dflt).set (0 : Nat) ((1 : Int), (1 : Int), (2 : Int), (0 : Int), [])).set (1 : Nat) ((3 : Int), (0 : Int), (2 : Int), (9 : Int), [])))).fst), ((1155648 : Nat), LB.row (5 : Nat) uB (apV (winL uB (0 : Nat) (3 : Nat) ((((List.replicate (3 : Nat) uB.dflt).set (0 : Nat) (1 : Int)).set (1 : Nat) (2 : Int)).set (2 : Nat) (3 : Int))) (false, (3 : Int), (2 : Int), ([((2 : Int), (0 : Int), (2 : Int), (0 : Int), winL uB (0 : Nat) (2 : Nat) (((List.replicate (2 : Nat) uB.dflt).set (0 : Nat) (255 : Int)).set (1 : Nat) (1 : Int)))] : List opS.D))).fst), ((1176128 : Nat), LB.row (60 : Nat) syS (symV (false, (3 : Int), (4 : Int), winL opS (0 : Nat) (2 : Nat) (((List.replicate (2 : Nat) opS.dflt).set (0 : Nat) ((1 : Int), (1 : Int), (2 : Int), (0 : Int), [])).set (1 : Nat) ((3 : Int), (0 : Int), (2 : Int), (9 : Int), [])))).fst), ((1303104 : Nat), LB.row (5 : Nat) uB (apV (winL uB ((0 : Nat) + (0 : Nat)) (Int.toNat (2 : Int) - (0 : Nat)) ((((List.replicate (3 : Nat) uB.dflt).set (0 : Nat) (1 : Int)).set (1 : Nat) (2 : Int)).set (2 : Nat) (3 : Int))) (false, (3 : Int), (4 : Int), winL opS (0 : Nat) (2 : Nat) (((List.replicate (2 : Nat) opS.dflt).set (0 : Nat) ((1 : Int), (1 : Int), (2 : Int), (0 : Int), [])).set (1 : Nat) ((3 : Int), (0 : Int), (2 : Int), (9 : Int), [])))).fst)]) := by kernel_rfl
end Go.Proofs.YtikikmhlicoheaaGreatDoor
namespace Go.Proofs.YtikikmhlicoheaaGreatDoor
open Go.Px Go.Ax
set_option maxRecDepth 100000
attribute [local irreducible] Go.Px.sy Go.Px.syE
def ctSan : Ctr := ⟨[], fun _ => True, fun _ => [.bool true], fun _ => []⟩
instance (x : OpT) : Decidable (k14 x) := by unfold k14; infer_instance
instance (l : List SyT) : Decidable (preMd l) := by unfold preMd; infer_instance
theorem san_run (R : List Item → PS → Prop) : sy tt G0 CN Tryz.f9.ntmps Tryz.f9.results.toList (QC ctSan ()) R 1000 [.code (bodyOf Tryz.f9)] (entry [] ()) := by
  refine (vc_san _ _).mpr ?_
  repeat' first
    | exact trivial
    | decide +kernel
    | refine And.intro ?_ ?_
    | (refine QC.flat ?_ rfl rfl)
    | exact (rfl : _ = false)
    | (show List.length _ < 1099511627776; decide +kernel)
    | (refine congrArg (fun b => [SV.bool b]) ?_; decide +kernel)
theorem san_held : Held Tryz.prog G0 9 ctSan := Held.run cxN (fn := Tryz.f9) rfl rfl ⟨by decide, by decide⟩ fun x _ => san_run _
end Go.Proofs.YtikikmhlicoheaaGreatDoor
namespace Go.Proofs.YtikikmhlicoheaaGreatDoor
open Go.Px Go.Ax
set_option maxRecDepth 100000
set_option maxRecDepth 100000
theorem vc_input (x : List Int) (n : Int) (Q : List SV → List (Nat × LB) → Prop) (R : List Item → PS → Prop) : sy tt G0 [] Tryz.f11.ntmps Tryz.f11.results.toList Q R 1000 [.code (bodyOf Tryz.f11)] (entry [.sl uB, iI] (x, n, ())) =
    (R (hd Tryz.f11 (0 : Nat)) { env := [((0 : Nat), SV.sl uB x), ((1 : Nat), SV.int IntKind.i64 n), ((4 : Nat), SV.nils), ((5 : Nat), SV.win true uB (8 : Nat) (0 : Nat) (0 : Nat)), ((6 : Nat), SV.int IntKind.i64 (0 : Int)), ((8 : Nat), SV.win true uB (8 : Nat) (0 : Nat) (0 : Nat))], blk := [((8 : Nat), LB.row (5 : Nat) uB (List.replicate (0 : Nat) uB.dflt))] }) := by kernel_rfl
theorem vc_inputL (x o : List Int) (n : Int) (i : Nat) (Q : List SV → List (Nat × LB) → Prop) (R : List Item → PS → Prop) : sy tt G0 [] Tryz.f11.ntmps Tryz.f11.results.toList Q R 1000 (hd Tryz.f11 0) ⟨[(0, .sl uB x), (1, .int .i64 n), (5, .win true uB 5 0 o.length), (6, .int .i64 (i : Nat))], [(5, .row 5 uB o)]⟩ =
    (bc (decide ((↑i : Int) < n)) (bc (decide ((↑i : Int) < (↑x.length : Int))) ((0 : Int) ≤ (↑i : Int) ∧
 (↑i : Int) < (↑x.length : Int) ∧
 (0 : Nat) + (1 : Nat) ≤ ([(gtB x (↑i : Int).toNat)] : List uB.D).length ∧
 o.length = o.length ∧
 (0 : Nat) = (0 : Nat) ∧
 o.length + (([(gtB x (↑i : Int).toNat)] : List uB.D)).length < (2 : Nat) ^ (30 : Nat) ∧
 (1 : Nat) ≤ (2 : Nat) ^ (10 : Nat) ∧
 R (hd Tryz.f11 (0 : Nat)) { env := [((0 : Nat), SV.sl uB x), ((1 : Nat), SV.int IntKind.i64 n), ((5 : Nat), SV.win true uB (28 : Nat) (0 : Nat) (o.length + (([(gtB x (↑i : Int).toNat)] : List uB.D)).length)), ((6 : Nat), SV.int IntKind.i64 (IntKind.i64.wrap ((↑i : Int) + (1 : Int)))), ((7 : Nat), SV.int IntKind.u8 (gtB x (↑i : Int).toNat)), ((9 : Nat), SV.int IntKind.i64 (↑i : Int)), ((10 : Nat), SV.int IntKind.i64 n), ((11 : Nat), SV.bool (decide ((↑i : Int) < n))), ((12 : Nat), SV.int IntKind.i64 (↑i : Int)), ((13 : Nat), SV.int IntKind.i64 (IntKind.i64.wrap ((↑i : Int) + (1 : Int)))), ((14 : Nat), SV.int IntKind.i64 (↑i : Int)), ((15 : Nat), SV.int IntKind.i64 (IntKind.i64.wrap ((7 : Int) * (↑i : Int)))), ((16 : Nat), SV.int IntKind.u8 (IntKind.u8.wrap (IntKind.i64.wrap ((7 : Int) * (↑i : Int))))), ((17 : Nat), SV.int IntKind.i64 (↑i : Int)), ((18 : Nat), SV.sl uB x), ((19 : Nat), SV.int IntKind.i64 (↑x.length : Int)), ((20 : Nat), SV.bool (decide ((↑i : Int) < (↑x.length : Int)))), ((21 : Nat), SV.sl uB x), ((22 : Nat), SV.int IntKind.i64 (↑i : Int)), ((23 : Nat), SV.elv uB (gtB x (↑i : Int).toNat)), ((24 : Nat), SV.int IntKind.u8 (gtB x (↑i : Int).toNat)), ((25 : Nat), SV.dead), ((26 : Nat), SV.int IntKind.u8 (gtB x (↑i : Int).toNat)), ((27 : Nat), SV.win true uB (27 : Nat) (0 : Nat) (1 : Nat)), ((28 : Nat), SV.win true uB (28 : Nat) (0 : Nat) (o.length + (([(gtB x (↑i : Int).toNat)] : List uB.D)).length))], blk := [((27 : Nat), LB.row (5 : Nat) uB ([(gtB x (↑i : Int).toNat)] : List uB.D)), ((28 : Nat), LB.row (5 : Nat) uB (o ++ ([(gtB x (↑i : Int).toNat)] : List uB.D)))] }) ((0 : Nat) + (1 : Nat) ≤ ([(IntKind.u8.wrap (IntKind.i64.wrap ((7 : Int) * (↑i : Int))))] : List uB.D).length ∧
 o.length = o.length ∧
 (0 : Nat) = (0 : Nat) ∧
 o.length + (([(IntKind.u8.wrap (IntKind.i64.wrap ((7 : Int) * (↑i : Int))))] : List uB.D)).length < (2 : Nat) ^ (30 : Nat) ∧
 (1 : Nat) ≤ (2 : Nat) ^ (10 : Nat) ∧
 R (hd Tryz.f11 (0 : Nat)) { env := [((0 : Nat), SV.sl uB x), ((1 : Nat), SV.int IntKind.i64 n), ((5 : Nat), SV.win true uB (28 : Nat) (0 : Nat) (o.length + (([(IntKind.u8.wrap (IntKind.i64.wrap ((7 : Int) * (↑i : Int))))] : List uB.D)).length)), ((6 : Nat), SV.int IntKind.i64 (IntKind.i64.wrap ((↑i : Int) + (1 : Int)))), ((7 : Nat), SV.int IntKind.u8 (IntKind.u8.wrap (IntKind.i64.wrap ((7 : Int) * (↑i : Int))))), ((9 : Nat), SV.int IntKind.i64 (↑i : Int)), ((10 : Nat), SV.int IntKind.i64 n), ((11 : Nat), SV.bool (decide ((↑i : Int) < n))), ((12 : Nat), SV.int IntKind.i64 (↑i : Int)), ((13 : Nat), SV.int IntKind.i64 (IntKind.i64.wrap ((↑i : Int) + (1 : Int)))), ((14 : Nat), SV.int IntKind.i64 (↑i : Int)), ((15 : Nat), SV.int IntKind.i64 (IntKind.i64.wrap ((7 : Int) * (↑i : Int)))), ((16 : Nat), SV.int IntKind.u8 (IntKind.u8.wrap (IntKind.i64.wrap ((7 : Int) * (↑i : Int))))), ((17 : Nat), SV.int IntKind.i64 (↑i : Int)), ((18 : Nat), SV.sl uB x), ((19 : Nat), SV.int IntKind.i64 (↑x.length : Int)), ((20 : Nat), SV.bool (decide ((↑i : Int) < (↑x.length : Int)))), ((25 : Nat), SV.dead), ((26 : Nat), SV.int IntKind.u8 (IntKind.u8.wrap (IntKind.i64.wrap ((7 : Int) * (↑i : Int))))), ((27 : Nat), SV.win true uB (27 : Nat) (0 : Nat) (1 : Nat)), ((28 : Nat), SV.win true uB (28 : Nat) (0 : Nat) (o.length + (([(IntKind.u8.wrap (IntKind.i64.wrap ((7 : Int) * (↑i : Int))))] : List uB.D)).length))], blk := [((27 : Nat), LB.row (5 : Nat) uB ([(IntKind.u8.wrap (IntKind.i64.wrap ((7 : Int) * (↑i : Int))))] : List uB.D)), ((28 : Nat), LB.row (5 : Nat) uB (o ++ ([(IntKind.u8.wrap (IntKind.i64.wrap ((7 : Int) * (↑i : Int))))] : List uB.D)))] })) (Q [SV.win true uB (5 : Nat) (0 : Nat) o.length] [((5 : Nat), LB.row (5 : Nat) uB o)])) := by kernel_rfl
end Go.Proofs.YtikikmhlicoheaaGreatDoor
namespace Go.Proofs.YtikikmhlicoheaaGreatDoor
open Go.Px Go.Ax
set_option maxRecDepth 100000
attribute [local irreducible] Go.Px.sy Go.Px.syE
theorem qc_row {ct : Ctr} {x : DL ct.args} {rs : List SV} {blk : List (Nat × LB)} {e : Sh} {et : TypeId} {a k : Nat} {xs : List e.D} (h : ct.out x = [.win true e 0 0 xs.length]) (hr : ct.rows x = [.row et e xs]) (hs : rs = [.win true e a 0 k]) (hk : k = xs.length) (hb : lk blk a = some (.row et e xs)) : QC ct x rs blk := by
  subst hs; subst hk
  refine ⟨fun i => if i = 0 then some a else none, ?_, ?_, fun i j b h1 h2 => ?_, by rw [hr]; rfl⟩
  · rw [h]
    exact ⟨_, _, rfl, .inl ⟨true, a, rfl, rfl, fun h => h⟩, rfl⟩
  · rw [hr]
    exact ⟨.inl ⟨a, rfl, hb⟩, trivial⟩
  · simp only at h1 h2
    split at h1
    · split at h2
      · omega
      · cases h2
    · cases h1
def inB (x : List Int) (i : Nat) : Int := if i < x.length then gtB x i else IntKind.u8.wrap (IntKind.i64.wrap (7 * (i : Int)))
def inpL (x : List Int) (n : Nat) : List Int := (List.range n).map (inB x)
theorem inpL_len (x : List Int) (n : Nat) : (inpL x n).length = n := by simp [inpL]
theorem inpL_succ (x : List Int) (i : Nat) : inpL x (i + 1) = inpL x i ++ [inB x i] := by simp [inpL, List.range_succ]
def preI (n : Int) : Prop := 0 ≤ n ∧ n < 16777216
def ctInp : Ctr := ⟨[.sl uB, iI], fun x => preI x.2.1, fun x => [.win true uB 0 0 (inpL x.1 x.2.1.toNat).length], fun x => [.row 5 uB (inpL x.1 x.2.1.toNat)]⟩
abbrev IQ (x : List Int) (n : Int) : List SV → List (Nat × LB) → Prop := QC ctInp (x, n, ())
theorem inp_loop (x : List Int) (n : Nat) (hn : n < 16777216) : ∀ (k i : Nat), n - i = k → i ≤ n →
    GD 11 Tryz.f11 (IQ x n) (hd Tryz.f11 0) ⟨[(0, .sl uB x), (1, .int .i64 (n : Nat)), (5, .win true uB 5 0 (inpL x i).length), (6, .int .i64 (i : Nat))], [(5, .row 5 uB (inpL x i))]⟩ := by
  intro k
  induction k with
  | zero =>
    intro i hk hi
    have hi : i = n := by omega
    subst hi
    refine sy_sound cx0 _ _ _ ((vc_inputL x (inpL x i) (i : Int) i _ _).mpr ?_)
    rw [decide_eq_false (by omega), bc_f]
    exact qc_row (e := uB) (et := 5) (a := 5) (xs := inpL x i) rfl rfl rfl rfl rfl
  | succ k ih =>
    intro i hk hi
    have nx := ih (i + 1) (by omega) (by omega)
    have hlen := inpL_len x i
    rw [inpL_succ] at nx
    refine sy_sound cx0 _ _ _ ((vc_inputL x (inpL x i) (n : Int) i _ _).mpr ?_)
    rw [decide_eq_true (show (i : Int) < (n : Int) by omega), bc_t, Int.toNat_natCast, IntWalk.i64_in ((i : Int) + 1) (by omega)]
    refine bc_of (fun h => ?_) (fun h => ?_)
    · have h : i < x.length := by have := of_decide_eq_true h; omega
      have e : inB x i = gtB x i := if_pos h
      rw [e] at nx
      refine ⟨by omega, by omega, Nat.le_refl 1, rfl, rfl, (show (inpL x i).length + 1 < 2 ^ 30 by omega), by decide, ?_⟩
      exact nx.onlyR [(5, 28)] rfl ⟨rfl, rfl, by rw [List.length_append]; rfl, rfl, trivial⟩ ⟨rfl, trivial⟩
    · have h : ¬ i < x.length := by have := of_decide_eq_false h; omega
      have e : inB x i = IntKind.u8.wrap (IntKind.i64.wrap (7 * (i : Int))) := if_neg h
      rw [e] at nx
      refine ⟨Nat.le_refl 1, rfl, rfl, (show (inpL x i).length + 1 < 2 ^ 30 by omega), by decide, ?_⟩
      exact nx.onlyR [(5, 28)] rfl ⟨rfl, rfl, by rw [List.length_append]; rfl, rfl, trivial⟩ ⟨rfl, trivial⟩
theorem inp_held : Held Tryz.prog G0 11 ctInp := by
  refine Held.run cx0 (fn := Tryz.f11) rfl rfl ⟨by decide, by decide⟩ ?_
  rintro ⟨x, n, ⟨⟩⟩ hp
  obtain ⟨h0, h1⟩ : preI n := hp
  obtain ⟨N, rfl⟩ := Int.eq_ofNat_of_zero_le h0
  refine (vc_input x (N : Int) _ _).mpr ?_
  exact (inp_loop x N (by omega) _ 0 rfl (by omega)).onlyR [(5, 8)] rfl ⟨rfl, rfl, rfl, rfl, trivial⟩ ⟨rfl, trivial⟩
end Go.Proofs.YtikikmhlicoheaaGreatDoor
namespace Go.Proofs.YtikikmhlicoheaaGreatDoor
open Go.Px Go.Ax
set_option maxRecDepth 100000
set_option maxRecDepth 100000
theorem vc_op (x : List Int) (n : Int) (Q : List SV → List (Nat × LB) → Prop) (R : List Item → PS → Prop) : sy tt G0 [] Tryz.f54.ntmps Tryz.f54.results.toList Q (fun it S => R it (keepS [2, 4, 5, 6] [2, 4, 5] S)) 1000 [.code (bodyOf Tryz.f54)] (entry [.arr 4 uB, iI] (x, n, ())) =
    ((0 : Int) ≤ (0 : Int) ∧
 (0 : Int) < (↑(4 : Nat) : Int) ∧
 0 < (4 : Nat) ∧
 (4 : Int) ≠ (0 : Int) ∧
 (0 : Int) ≤ (2 : Int) ∧
 (2 : Int) < (↑(4 : Nat) : Int) ∧
 2 < (4 : Nat) ∧
 (5 : Int) ≠ (0 : Int) ∧
 bc (decide (IntKind.i64.wrap ((1 : Int) + (IntKind.i64.wrap (gtB x (0))).tmod (4 : Int)) ≤ (2 : Int))) (bc (decide (n = (0 : Int))) (R (hd Tryz.f54 (0 : Nat)) { env := [((2 : Nat), SV.ptr (2 : Nat) (0 : Nat)), ((4 : Nat), SV.ptr (4 : Nat) (0 : Nat)), ((5 : Nat), SV.ptr (5 : Nat) (0 : Nat)), ((6 : Nat), SV.int IntKind.i64 (0 : Int))], blk := [((2 : Nat), LB.var [SV.arr (4 : Nat) uB x]), ((4 : Nat), LB.var [SV.int IntKind.i64 (0 : Int), SV.int IntKind.i64 (0 : Int), SV.int IntKind.i64 (0 : Int), SV.int IntKind.u8 (0 : Int), SV.nils]), ((5 : Nat), LB.var [SV.int IntKind.i64 (4 : Int), SV.int IntKind.i64 (0 : Int), SV.int IntKind.i64 (IntKind.i64.wrap ((1 : Int) + (IntKind.i64.wrap (gtB x (2))).tmod (5 : Int))), SV.int IntKind.u8 (0 : Int), SV.nils])] }) ((0 : Int) ≤ (1 : Int) ∧
 (1 : Int) < (↑(4 : Nat) : Int) ∧
 1 < (4 : Nat) ∧
 n ≠ (0 : Int) ∧
 (0 : Int) ≤ (2 : Int) ∧
 (2 : Int) < (↑(4 : Nat) : Int) ∧
 2 < (4 : Nat) ∧
 IntKind.i64.wrap (n - (IntKind.i64.wrap (gtB x (1))).tmod n) ≠ (0 : Int) ∧
 (5 : Int) ≠ (0 : Int) ∧
 bc (decide (IntKind.i64.wrap ((1 : Int) + (IntKind.i64.wrap (gtB x (0))).tmod (4 : Int)) = (3 : Int))) ((0 : Int) ≤ (3 : Int) ∧
 (3 : Int) < (↑(4 : Nat) : Int) ∧
 3 < (4 : Nat) ∧
 R (hd Tryz.f54 (0 : Nat)) { env := [((2 : Nat), SV.ptr (2 : Nat) (0 : Nat)), ((4 : Nat), SV.ptr (4 : Nat) (0 : Nat)), ((5 : Nat), SV.ptr (5 : Nat) (0 : Nat)), ((6 : Nat), SV.int IntKind.i64 (0 : Int))], blk := [((2 : Nat), LB.var [SV.arr (4 : Nat) uB x]), ((4 : Nat), LB.var [SV.int IntKind.i64 (0 : Int), SV.int IntKind.i64 (0 : Int), SV.int IntKind.i64 (0 : Int), SV.int IntKind.u8 (0 : Int), SV.nils]), ((5 : Nat), LB.var [SV.int IntKind.i64 (IntKind.i64.wrap ((1 : Int) + (IntKind.i64.wrap (gtB x (0))).tmod (4 : Int))), SV.int IntKind.i64 ((IntKind.i64.wrap (gtB x (1))).tmod n), SV.int IntKind.i64 (IntKind.i64.wrap ((1 : Int) + ((IntKind.i64.wrap (gtB x (2))).tmod (IntKind.i64.wrap (n - (IntKind.i64.wrap (gtB x (1))).tmod n))).tmod (5 : Int))), SV.int IntKind.u8 (gtB x (3)), SV.nils])] }) (R (hd Tryz.f54 (0 : Nat)) { env := [((2 : Nat), SV.ptr (2 : Nat) (0 : Nat)), ((4 : Nat), SV.ptr (4 : Nat) (0 : Nat)), ((5 : Nat), SV.ptr (5 : Nat) (0 : Nat)), ((6 : Nat), SV.int IntKind.i64 (0 : Int))], blk := [((2 : Nat), LB.var [SV.arr (4 : Nat) uB x]), ((4 : Nat), LB.var [SV.int IntKind.i64 (0 : Int), SV.int IntKind.i64 (0 : Int), SV.int IntKind.i64 (0 : Int), SV.int IntKind.u8 (0 : Int), SV.nils]), ((5 : Nat), LB.var [SV.int IntKind.i64 (IntKind.i64.wrap ((1 : Int) + (IntKind.i64.wrap (gtB x (0))).tmod (4 : Int))), SV.int IntKind.i64 ((IntKind.i64.wrap (gtB x (1))).tmod n), SV.int IntKind.i64 (IntKind.i64.wrap ((1 : Int) + ((IntKind.i64.wrap (gtB x (2))).tmod (IntKind.i64.wrap (n - (IntKind.i64.wrap (gtB x (1))).tmod n))).tmod (5 : Int))), SV.int IntKind.u8 (0 : Int), SV.nils])] }))) (bc (decide (IntKind.i64.wrap ((1 : Int) + (IntKind.i64.wrap (gtB x (0))).tmod (4 : Int)) = (3 : Int))) ((0 : Int) ≤ (3 : Int) ∧
 (3 : Int) < (↑(4 : Nat) : Int) ∧
 3 < (4 : Nat) ∧
 R (hd Tryz.f54 (0 : Nat)) { env := [((2 : Nat), SV.ptr (2 : Nat) (0 : Nat)), ((4 : Nat), SV.ptr (4 : Nat) (0 : Nat)), ((5 : Nat), SV.ptr (5 : Nat) (0 : Nat)), ((6 : Nat), SV.int IntKind.i64 (0 : Int))], blk := [((2 : Nat), LB.var [SV.arr (4 : Nat) uB x]), ((4 : Nat), LB.var [SV.int IntKind.i64 (0 : Int), SV.int IntKind.i64 (0 : Int), SV.int IntKind.i64 (0 : Int), SV.int IntKind.u8 (0 : Int), SV.nils]), ((5 : Nat), LB.var [SV.int IntKind.i64 (IntKind.i64.wrap ((1 : Int) + (IntKind.i64.wrap (gtB x (0))).tmod (4 : Int))), SV.int IntKind.i64 (0 : Int), SV.int IntKind.i64 (IntKind.i64.wrap ((1 : Int) + (IntKind.i64.wrap (gtB x (2))).tmod (5 : Int))), SV.int IntKind.u8 (gtB x (3)), SV.nils])] }) (R (hd Tryz.f54 (0 : Nat)) { env := [((2 : Nat), SV.ptr (2 : Nat) (0 : Nat)), ((4 : Nat), SV.ptr (4 : Nat) (0 : Nat)), ((5 : Nat), SV.ptr (5 : Nat) (0 : Nat)), ((6 : Nat), SV.int IntKind.i64 (0 : Int))], blk := [((2 : Nat), LB.var [SV.arr (4 : Nat) uB x]), ((4 : Nat), LB.var [SV.int IntKind.i64 (0 : Int), SV.int IntKind.i64 (0 : Int), SV.int IntKind.i64 (0 : Int), SV.int IntKind.u8 (0 : Int), SV.nils]), ((5 : Nat), LB.var [SV.int IntKind.i64 (IntKind.i64.wrap ((1 : Int) + (IntKind.i64.wrap (gtB x (0))).tmod (4 : Int))), SV.int IntKind.i64 (0 : Int), SV.int IntKind.i64 (IntKind.i64.wrap ((1 : Int) + (IntKind.i64.wrap (gtB x (2))).tmod (5 : Int))), SV.int IntKind.u8 (0 : Int), SV.nils])] }))) := by kernel_rfl
theorem vc_opA (x : List Int) (k a n b : Int) (i : Nat) (Q : List SV → List (Nat × LB) → Prop) (R : List Item → PS → Prop) : sy tt G0 [] Tryz.f54.ntmps Tryz.f54.results.toList Q (fun it S => R it (keepS [2, 4, 5, 6] [2, 4, 5, 76] S)) 1000 (hd Tryz.f54 0) ⟨[(2, .ptr 2 0), (4, .ptr 4 0), (5, .ptr 5 0), (6, .int .i64 (i : Nat))], [(2, .var [.arr 4 uB x]), (4, .var [.int .i64 0, .int .i64 0, .int .i64 0, .int .u8 0, .nils]), (5, .var [.int .i64 k, .int .i64 a, .int .i64 n, .int .u8 b, .nils])]⟩ =
    (bc (decide ((↑i : Int) < n)) (bc (decide (k = (2 : Int))) (true = true ∧
 (0 : Int) ≤ (3 : Int) ∧
 (3 : Int) < (↑(4 : Nat) : Int) ∧
 3 < (4 : Nat) ∧
 (0 : Int) ≤ (0 : Int) ∧
 (0 : Int) < (↑(4 : Nat) : Int) ∧
 0 < (4 : Nat) ∧
 (4 : Int) ≠ (0 : Int) ∧
 (0 : Nat) + (1 : Nat) ≤ ([(IntKind.u8.wrap (gtB x (3) * IntKind.u8.wrap (IntKind.i64.wrap ((↑i : Int) + IntKind.i64.wrap ((IntKind.i64.wrap (gtB x (0))).tdiv (4 : Int))))))] : List uB.D).length ∧
 (([(IntKind.u8.wrap (gtB x (3) * IntKind.u8.wrap (IntKind.i64.wrap ((↑i : Int) + IntKind.i64.wrap ((IntKind.i64.wrap (gtB x (0))).tdiv (4 : Int))))))] : List uB.D)).length < (2 : Nat) ^ (30 : Nat) ∧
 (1 : Nat) ≤ (2 : Nat) ^ (10 : Nat) ∧
 R (hd Tryz.f54 (0 : Nat)) { env := [((2 : Nat), SV.ptr (2 : Nat) (0 : Nat)), ((4 : Nat), SV.ptr (4 : Nat) (0 : Nat)), ((5 : Nat), SV.ptr (5 : Nat) (0 : Nat)), ((6 : Nat), SV.int IntKind.i64 (IntKind.i64.wrap ((↑i : Int) + (1 : Int))))], blk := [((2 : Nat), LB.var [SV.arr (4 : Nat) uB x]), ((4 : Nat), LB.var [SV.int IntKind.i64 (0 : Int), SV.int IntKind.i64 (0 : Int), SV.int IntKind.i64 (0 : Int), SV.int IntKind.u8 (0 : Int), SV.nils]), ((5 : Nat), LB.var [SV.int IntKind.i64 k, SV.int IntKind.i64 a, SV.int IntKind.i64 n, SV.int IntKind.u8 b, SV.win true uB (76 : Nat) (0 : Nat) (1 : Nat)]), ((76 : Nat), LB.row (5 : Nat) uB (([(IntKind.u8.wrap (gtB x (3) * IntKind.u8.wrap (IntKind.i64.wrap ((↑i : Int) + IntKind.i64.wrap ((IntKind.i64.wrap (gtB x (0))).tdiv (4 : Int))))))] : List uB.D)))] }) (bc (decide (k = (4 : Int))) ((0 : Int) ≤ (3 : Int) ∧
 (3 : Int) < (↑(4 : Nat) : Int) ∧
 3 < (4 : Nat) ∧
 (0 : Int) ≤ (0 : Int) ∧
 (0 : Int) < (↑(4 : Nat) : Int) ∧
 0 < (4 : Nat) ∧
 (4 : Int) ≠ (0 : Int) ∧
 (0 : Nat) + (1 : Nat) ≤ ([(IntKind.u8.wrap (gtB x (3) * IntKind.u8.wrap (IntKind.i64.wrap ((↑i : Int) + IntKind.i64.wrap ((IntKind.i64.wrap (gtB x (0))).tdiv (4 : Int))))))] : List uB.D).length ∧
 (([(IntKind.u8.wrap (gtB x (3) * IntKind.u8.wrap (IntKind.i64.wrap ((↑i : Int) + IntKind.i64.wrap ((IntKind.i64.wrap (gtB x (0))).tdiv (4 : Int))))))] : List uB.D)).length < (2 : Nat) ^ (30 : Nat) ∧
 (1 : Nat) ≤ (2 : Nat) ^ (10 : Nat) ∧
 R (hd Tryz.f54 (0 : Nat)) { env := [((2 : Nat), SV.ptr (2 : Nat) (0 : Nat)), ((4 : Nat), SV.ptr (4 : Nat) (0 : Nat)), ((5 : Nat), SV.ptr (5 : Nat) (0 : Nat)), ((6 : Nat), SV.int IntKind.i64 (IntKind.i64.wrap ((↑i : Int) + (1 : Int))))], blk := [((2 : Nat), LB.var [SV.arr (4 : Nat) uB x]), ((4 : Nat), LB.var [SV.int IntKind.i64 (0 : Int), SV.int IntKind.i64 (0 : Int), SV.int IntKind.i64 (0 : Int), SV.int IntKind.u8 (0 : Int), SV.nils]), ((5 : Nat), LB.var [SV.int IntKind.i64 k, SV.int IntKind.i64 a, SV.int IntKind.i64 n, SV.int IntKind.u8 b, SV.win true uB (76 : Nat) (0 : Nat) (1 : Nat)]), ((76 : Nat), LB.row (5 : Nat) uB (([(IntKind.u8.wrap (gtB x (3) * IntKind.u8.wrap (IntKind.i64.wrap ((↑i : Int) + IntKind.i64.wrap ((IntKind.i64.wrap (gtB x (0))).tdiv (4 : Int))))))] : List uB.D)))] }) (Q [SV.agg [SV.int IntKind.i64 k, SV.int IntKind.i64 a, SV.int IntKind.i64 n, SV.int IntKind.u8 b, SV.nils]] [((2 : Nat), LB.var [SV.arr (4 : Nat) uB x]), ((4 : Nat), LB.var [SV.int IntKind.i64 k, SV.int IntKind.i64 a, SV.int IntKind.i64 n, SV.int IntKind.u8 b, SV.nils]), ((5 : Nat), LB.var [SV.int IntKind.i64 k, SV.int IntKind.i64 a, SV.int IntKind.i64 n, SV.int IntKind.u8 b, SV.nils])]))) (false = false ∧
 Q [SV.agg [SV.int IntKind.i64 k, SV.int IntKind.i64 a, SV.int IntKind.i64 n, SV.int IntKind.u8 b, SV.nils]] [((2 : Nat), LB.var [SV.arr (4 : Nat) uB x]), ((4 : Nat), LB.var [SV.int IntKind.i64 k, SV.int IntKind.i64 a, SV.int IntKind.i64 n, SV.int IntKind.u8 b, SV.nils]), ((5 : Nat), LB.var [SV.int IntKind.i64 k, SV.int IntKind.i64 a, SV.int IntKind.i64 n, SV.int IntKind.u8 b, SV.nils])])) := by kernel_rfl
theorem vc_opB (x d : List Int) (k a n b : Int) (i : Nat) (Q : List SV → List (Nat × LB) → Prop) (R : List Item → PS → Prop) : sy tt G0 [] Tryz.f54.ntmps Tryz.f54.results.toList Q (fun it S => R it (keepS [2, 4, 5, 6] [2, 4, 5, 76] S)) 1000 (hd Tryz.f54 0) ⟨[(2, .ptr 2 0), (4, .ptr 4 0), (5, .ptr 5 0), (6, .int .i64 (i : Nat))], [(2, .var [.arr 4 uB x]), (4, .var [.int .i64 0, .int .i64 0, .int .i64 0, .int .u8 0, .nils]), (5, .var [.int .i64 k, .int .i64 a, .int .i64 n, .int .u8 b, .win true uB 76 0 d.length]), (76, .row 5 uB d)]⟩ =
    (bc (decide ((↑i : Int) < n)) (bc (decide (k = (2 : Int))) (true = true ∧
 (0 : Int) ≤ (3 : Int) ∧
 (3 : Int) < (↑(4 : Nat) : Int) ∧
 3 < (4 : Nat) ∧
 (0 : Int) ≤ (0 : Int) ∧
 (0 : Int) < (↑(4 : Nat) : Int) ∧
 0 < (4 : Nat) ∧
 (4 : Int) ≠ (0 : Int) ∧
 (0 : Nat) + (1 : Nat) ≤ ([(IntKind.u8.wrap (gtB x (3) * IntKind.u8.wrap (IntKind.i64.wrap ((↑i : Int) + IntKind.i64.wrap ((IntKind.i64.wrap (gtB x (0))).tdiv (4 : Int))))))] : List uB.D).length ∧
 d.length = d.length ∧
 (0 : Nat) = (0 : Nat) ∧
 d.length + (([(IntKind.u8.wrap (gtB x (3) * IntKind.u8.wrap (IntKind.i64.wrap ((↑i : Int) + IntKind.i64.wrap ((IntKind.i64.wrap (gtB x (0))).tdiv (4 : Int))))))] : List uB.D)).length < (2 : Nat) ^ (30 : Nat) ∧
 (1 : Nat) ≤ (2 : Nat) ^ (10 : Nat) ∧
 R (hd Tryz.f54 (0 : Nat)) { env := [((2 : Nat), SV.ptr (2 : Nat) (0 : Nat)), ((4 : Nat), SV.ptr (4 : Nat) (0 : Nat)), ((5 : Nat), SV.ptr (5 : Nat) (0 : Nat)), ((6 : Nat), SV.int IntKind.i64 (IntKind.i64.wrap ((↑i : Int) + (1 : Int))))], blk := [((2 : Nat), LB.var [SV.arr (4 : Nat) uB x]), ((4 : Nat), LB.var [SV.int IntKind.i64 (0 : Int), SV.int IntKind.i64 (0 : Int), SV.int IntKind.i64 (0 : Int), SV.int IntKind.u8 (0 : Int), SV.nils]), ((5 : Nat), LB.var [SV.int IntKind.i64 k, SV.int IntKind.i64 a, SV.int IntKind.i64 n, SV.int IntKind.u8 b, SV.win true uB (76 : Nat) (0 : Nat) (d.length + (([(IntKind.u8.wrap (gtB x (3) * IntKind.u8.wrap (IntKind.i64.wrap ((↑i : Int) + IntKind.i64.wrap ((IntKind.i64.wrap (gtB x (0))).tdiv (4 : Int))))))] : List uB.D)).length)]), ((76 : Nat), LB.row (5 : Nat) uB (d ++ ([(IntKind.u8.wrap (gtB x (3) * IntKind.u8.wrap (IntKind.i64.wrap ((↑i : Int) + IntKind.i64.wrap ((IntKind.i64.wrap (gtB x (0))).tdiv (4 : Int))))))] : List uB.D)))] }) (bc (decide (k = (4 : Int))) ((0 : Int) ≤ (3 : Int) ∧
 (3 : Int) < (↑(4 : Nat) : Int) ∧
 3 < (4 : Nat) ∧
 (0 : Int) ≤ (0 : Int) ∧
 (0 : Int) < (↑(4 : Nat) : Int) ∧
 0 < (4 : Nat) ∧
 (4 : Int) ≠ (0 : Int) ∧
 (0 : Nat) + (1 : Nat) ≤ ([(IntKind.u8.wrap (gtB x (3) * IntKind.u8.wrap (IntKind.i64.wrap ((↑i : Int) + IntKind.i64.wrap ((IntKind.i64.wrap (gtB x (0))).tdiv (4 : Int))))))] : List uB.D).length ∧
 d.length = d.length ∧
 (0 : Nat) = (0 : Nat) ∧
 d.length + (([(IntKind.u8.wrap (gtB x (3) * IntKind.u8.wrap (IntKind.i64.wrap ((↑i : Int) + IntKind.i64.wrap ((IntKind.i64.wrap (gtB x (0))).tdiv (4 : Int))))))] : List uB.D)).length < (2 : Nat) ^ (30 : Nat) ∧
 (1 : Nat) ≤ (2 : Nat) ^ (10 : Nat) ∧
 R (hd Tryz.f54 (0 : Nat)) { env := [((2 : Nat), SV.ptr (2 : Nat) (0 : Nat)), ((4 : Nat), SV.ptr (4 : Nat) (0 : Nat)), ((5 : Nat), SV.ptr (5 : Nat) (0 : Nat)), ((6 : Nat), SV.int IntKind.i64 (IntKind.i64.wrap ((↑i : Int) + (1 : Int))))], blk := [((2 : Nat), LB.var [SV.arr (4 : Nat) uB x]), ((4 : Nat), LB.var [SV.int IntKind.i64 (0 : Int), SV.int IntKind.i64 (0 : Int), SV.int IntKind.i64 (0 : Int), SV.int IntKind.u8 (0 : Int), SV.nils]), ((5 : Nat), LB.var [SV.int IntKind.i64 k, SV.int IntKind.i64 a, SV.int IntKind.i64 n, SV.int IntKind.u8 b, SV.win true uB (76 : Nat) (0 : Nat) (d.length + (([(IntKind.u8.wrap (gtB x (3) * IntKind.u8.wrap (IntKind.i64.wrap ((↑i : Int) + IntKind.i64.wrap ((IntKind.i64.wrap (gtB x (0))).tdiv (4 : Int))))))] : List uB.D)).length)]), ((76 : Nat), LB.row (5 : Nat) uB (d ++ ([(IntKind.u8.wrap (gtB x (3) * IntKind.u8.wrap (IntKind.i64.wrap ((↑i : Int) + IntKind.i64.wrap ((IntKind.i64.wrap (gtB x (0))).tdiv (4 : Int))))))] : List uB.D)))] }) (Q [SV.agg [SV.int IntKind.i64 k, SV.int IntKind.i64 a, SV.int IntKind.i64 n, SV.int IntKind.u8 b, SV.win true uB (76 : Nat) (0 : Nat) d.length]] [((2 : Nat), LB.var [SV.arr (4 : Nat) uB x]), ((4 : Nat), LB.var [SV.int IntKind.i64 k, SV.int IntKind.i64 a, SV.int IntKind.i64 n, SV.int IntKind.u8 b, SV.win true uB (76 : Nat) (0 : Nat) d.length]), ((5 : Nat), LB.var [SV.int IntKind.i64 k, SV.int IntKind.i64 a, SV.int IntKind.i64 n, SV.int IntKind.u8 b, SV.win true uB (76 : Nat) (0 : Nat) d.length]), ((76 : Nat), LB.row (5 : Nat) uB d)]))) (false = false ∧
 Q [SV.agg [SV.int IntKind.i64 k, SV.int IntKind.i64 a, SV.int IntKind.i64 n, SV.int IntKind.u8 b, SV.win true uB (76 : Nat) (0 : Nat) d.length]] [((2 : Nat), LB.var [SV.arr (4 : Nat) uB x]), ((4 : Nat), LB.var [SV.int IntKind.i64 k, SV.int IntKind.i64 a, SV.int IntKind.i64 n, SV.int IntKind.u8 b, SV.win true uB (76 : Nat) (0 : Nat) d.length]), ((5 : Nat), LB.var [SV.int IntKind.i64 k, SV.int IntKind.i64 a, SV.int IntKind.i64 n, SV.int IntKind.u8 b, SV.win true uB (76 : Nat) (0 : Nat) d.length]), ((76 : Nat), LB.row (5 : Nat) uB d)])) := by kernel_rfl
theorem vc_opE (x d : List Int) (k a n b : Int) (i : Nat) (Q : List SV → List (Nat × LB) → Prop) (R : List Item → PS → Prop) : sy tt G0 [] Tryz.f54.ntmps Tryz.f54.results.toList Q (fun it S => R it (keepS [2, 4, 5, 6] [2, 4, 5, 76] S)) 1000 (hd Tryz.f54 0) ⟨[(2, .ptr 2 0), (4, .ptr 4 0), (5, .ptr 5 0), (6, .int .i64 (i : Nat))], [(2, .var [.arr 4 uB x]), (4, .var [.int .i64 0, .int .i64 0, .int .i64 0, .int .u8 0, .nils]), (5, .var [.int .i64 k, .int .i64 a, .int .i64 n, .int .u8 b, .sl uB d])]⟩ =
    (bc (decide ((↑i : Int) < n)) (bc (decide (k = (2 : Int))) (true = true ∧
 (0 : Int) ≤ (3 : Int) ∧
 (3 : Int) < (↑(4 : Nat) : Int) ∧
 3 < (4 : Nat) ∧
 (0 : Int) ≤ (0 : Int) ∧
 (0 : Int) < (↑(4 : Nat) : Int) ∧
 0 < (4 : Nat) ∧
 (4 : Int) ≠ (0 : Int) ∧
 False) (bc (decide (k = (4 : Int))) ((0 : Int) ≤ (3 : Int) ∧
 (3 : Int) < (↑(4 : Nat) : Int) ∧
 3 < (4 : Nat) ∧
 (0 : Int) ≤ (0 : Int) ∧
 (0 : Int) < (↑(4 : Nat) : Int) ∧
 0 < (4 : Nat) ∧
 (4 : Int) ≠ (0 : Int) ∧
 False) (Q [SV.agg [SV.int IntKind.i64 k, SV.int IntKind.i64 a, SV.int IntKind.i64 n, SV.int IntKind.u8 b, SV.sl uB d]] [((2 : Nat), LB.var [SV.arr (4 : Nat) uB x]), ((4 : Nat), LB.var [SV.int IntKind.i64 k, SV.int IntKind.i64 a, SV.int IntKind.i64 n, SV.int IntKind.u8 b, SV.sl uB d]), ((5 : Nat), LB.var [SV.int IntKind.i64 k, SV.int IntKind.i64 a, SV.int IntKind.i64 n, SV.int IntKind.u8 b, SV.sl uB d])]))) (false = false ∧
 Q [SV.agg [SV.int IntKind.i64 k, SV.int IntKind.i64 a, SV.int IntKind.i64 n, SV.int IntKind.u8 b, SV.sl uB d]] [((2 : Nat), LB.var [SV.arr (4 : Nat) uB x]), ((4 : Nat), LB.var [SV.int IntKind.i64 k, SV.int IntKind.i64 a, SV.int IntKind.i64 n, SV.int IntKind.u8 b, SV.sl uB d]), ((5 : Nat), LB.var [SV.int IntKind.i64 k, SV.int IntKind.i64 a, SV.int IntKind.i64 n, SV.int IntKind.u8 b, SV.sl uB d])])) := by kernel_rfl
end Go.Proofs.YtikikmhlicoheaaGreatDoor
namespace Go.Proofs.YtikikmhlicoheaaGreatDoor
open Go.Px Go.Ax
set_option maxRecDepth 100000
attribute [local irreducible] Go.Px.sy Go.Px.syE
def elA (x : List Int) (i : Nat) : Int := IntKind.u8.wrap (gtB x 3 * IntKind.u8.wrap (IntKind.i64.wrap ((i : Int) + IntKind.i64.wrap ((IntKind.i64.wrap (gtB x 0)).tdiv 4))))
def datA (x : List Int) (n : Nat) : List Int := (List.range n).map (elA x)
theorem datA_len (x : List Int) (n : Nat) : (datA x n).length = n := by simp [datA]
theorem datA_succ (x : List Int) (i : Nat) : datA x (i + 1) = datA x i ++ [elA x i] := by simp [datA, List.range_succ]
def datO (x : List Int) (k n : Int) : List Int := if k = 2 ∨ k = 4 then datA x n.toNat else []
def opV (x : List Int) (n : Int) : OpT :=
  if 1 + (gtB x 0).tmod 4 ≤ 2 then
    if n = 0 then (4, 0, 1 + (gtB x 2).tmod 5, 0, datO x 4 (1 + (gtB x 2).tmod 5))
    else (1 + (gtB x 0).tmod 4, (gtB x 1).tmod n, 1 + ((gtB x 2).tmod (n - (gtB x 1).tmod n)).tmod 5, 0, datO x (1 + (gtB x 0).tmod 4) (1 + ((gtB x 2).tmod (n - (gtB x 1).tmod n)).tmod 5))
  else (1 + (gtB x 0).tmod 4, 0, 1 + (gtB x 2).tmod 5, if 1 + (gtB x 0).tmod 4 = 3 then gtB x 3 else 0, datO x (1 + (gtB x 0).tmod 4) (1 + (gtB x 2).tmod 5))
def preB4 (x : List Int) : Prop := ∀ j, 0 ≤ gtB x j ∧ gtB x j < 256
def preN (n : Int) : Prop := 0 ≤ n ∧ n < 16777216
def ctOp : Ctr := ⟨[.arr 4 uB, iI], fun x => preB4 x.1 ∧ preN x.2.1, fun x => mdV (opV x.1 x.2.1), fun _ => []⟩
abbrev OpQ (o : OpT) : List SV → List (Nat × LB) → Prop := fun rs _ => MtL (fun _ => none) (mdV o) rs
theorem opB_loop (x : List Int) (k a b : Int) (n : Nat) (hn : n < 16777216) (hk : k = 2 ∨ k = 4) : ∀ (m i : Nat), n - i = m → i ≤ n →
    GD 54 Tryz.f54 (OpQ (k, a, n, b, datA x n)) (hd Tryz.f54 0) ⟨[(2, .ptr 2 0), (4, .ptr 4 0), (5, .ptr 5 0), (6, .int .i64 (i : Nat))], [(2, .var [.arr 4 uB x]), (4, .var [.int .i64 0, .int .i64 0, .int .i64 0, .int .u8 0, .nils]), (5, .var [.int .i64 k, .int .i64 a, .int .i64 (n : Nat), .int .u8 b, .win true uB 76 0 (datA x i).length]), (76, .row 5 uB (datA x i))]⟩ := by
  intro m
  induction m with
  | zero =>
    intro i hm hi
    have hi : i = n := by omega
    subst hi
    refine Good.frz (i := 76) (e := uB) (et := 5) (xs := datA x i) rfl (fun c hc => ?_) ?_
    · have hc : c ∈ [0 + (datA x i).length ≤ (datA x i).length] := hc
      rw [List.mem_singleton] at hc; subst hc; omega
    · have e : GD 54 Tryz.f54 (OpQ (k, a, i, b, datA x i)) (hd Tryz.f54 0) ⟨[(2, .ptr 2 0), (4, .ptr 4 0), (5, .ptr 5 0), (6, .int .i64 (i : Nat))], [(2, .var [.arr 4 uB x]), (4, .var [.int .i64 0, .int .i64 0, .int .i64 0, .int .u8 0, .nils]), (5, .var [.int .i64 k, .int .i64 a, .int .i64 (i : Nat), .int .u8 b, .sl uB (winL uB 0 (datA x i).length (datA x i))])]⟩ := by
        refine sy_goK cx0 (vc_opE x (winL uB 0 (datA x i).length (datA x i)) k a i b i _ _) ?_
        rw [decide_eq_false (by omega), bc_f, winA]
        exact ⟨rfl, _, _, rfl, ⟨_, rfl, _, _, rfl, rfl, _, _, rfl, rfl, _, _, rfl, rfl, _, _, rfl, rfl, _, _, rfl, .inl rfl, rfl⟩, rfl⟩
      exact e.only ⟨rfl, rfl, rfl, rfl, trivial⟩ ⟨rfl, rfl, rfl, trivial⟩
  | succ m ih =>
    intro i hm hi
    have nx := ih (i + 1) (by omega) (by omega)
    have hl := datA_len x i
    have hl2 := datA_len x (i + 1)
    rw [datA_succ] at nx hl2
    refine sy_goK cx0 (vc_opB x (datA x i) k a n b i _ _) ?_
    rw [decide_eq_true (show (i : Int) < (n : Int) by omega), bc_t, IntWalk.i64_in ((i : Int) + 1) (by omega)]
    have tl : GD 54 Tryz.f54 (OpQ (k, a, n, b, datA x n)) (hd Tryz.f54 0) ⟨[(2, .ptr 2 0), (4, .ptr 4 0), (5, .ptr 5 0), (6, .int .i64 ((i : Int) + 1))], [(2, .var [.arr 4 uB x]), (4, .var [.int .i64 0, .int .i64 0, .int .i64 0, .int .u8 0, .nils]), (5, .var [.int .i64 k, .int .i64 a, .int .i64 (n : Nat), .int .u8 b, .win true uB 76 0 ((datA x i).length + 1)]), (76, .row 5 uB (datA x i ++ [elA x i]))]⟩ :=
      nx.only ⟨rfl, rfl, rfl, rfl, trivial⟩ ⟨rfl, rfl, by rw [List.length_append]; rfl, rfl, trivial⟩
    have h30 : (datA x i).length + 1 < 2 ^ 30 := by omega
    rcases hk with rfl | rfl
    · rw [decide_eq_true rfl, bc_t]
      exact ⟨rfl, by decide, by decide, by decide, by decide, by decide, by decide, by decide, Nat.le_refl 1, rfl, rfl, h30, by decide, tl⟩
    · rw [decide_eq_false (by decide), bc_f, decide_eq_true rfl, bc_t]
      exact ⟨by decide, by decide, by decide, by decide, by decide, by decide, by decide, Nat.le_refl 1, rfl, rfl, h30, by decide, tl⟩
theorem opA_loop (x : List Int) (k a b : Int) (n : Nat) (hn : n < 16777216) (h0 : 0 < n) :
    GD 54 Tryz.f54 (OpQ (k, a, n, b, datO x k n)) (hd Tryz.f54 0) ⟨[(2, .ptr 2 0), (4, .ptr 4 0), (5, .ptr 5 0), (6, .int .i64 0)], [(2, .var [.arr 4 uB x]), (4, .var [.int .i64 0, .int .i64 0, .int .i64 0, .int .u8 0, .nils]), (5, .var [.int .i64 k, .int .i64 a, .int .i64 (n : Nat), .int .u8 b, .nils])]⟩ := by
  refine sy_goK cx0 (vc_opA x k a n b 0 _ _) ?_
  rw [decide_eq_true (show ((0 : Nat) : Int) < (n : Int) by omega), bc_t, IntWalk.i64_in (((0 : Nat) : Int) + 1) (by omega)]
  have tl : (k = 2 ∨ k = 4) → GD 54 Tryz.f54 (OpQ (k, a, n, b, datO x k n)) (hd Tryz.f54 0) ⟨[(2, .ptr 2 0), (4, .ptr 4 0), (5, .ptr 5 0), (6, .int .i64 (((0 : Nat) : Int) + 1))], [(2, .var [.arr 4 uB x]), (4, .var [.int .i64 0, .int .i64 0, .int .i64 0, .int .u8 0, .nils]), (5, .var [.int .i64 k, .int .i64 a, .int .i64 (n : Nat), .int .u8 b, .win true uB 76 0 1]), (76, .row 5 uB [elA x 0])]⟩ := fun hk => by
    have := opB_loop x k a b n hn hk _ 1 rfl (by omega)
    have e : datO x k n = datA x n := by unfold datO; rw [if_pos hk, Int.toNat_natCast]
    rw [e]
    exact this
  refine bc_of (fun h => ?_) (fun h => bc_of (fun h2 => ?_) (fun h2 => ?_))
  · have h : k = 2 := of_decide_eq_true h
    exact ⟨rfl, by decide, by decide, by decide, by decide, by decide, by decide, by decide, Nat.le_refl 1, (show 1 < 2 ^ 30 by decide), by decide, tl (.inl h)⟩
  · have h2 : k = 4 := of_decide_eq_true h2
    exact ⟨by decide, by decide, by decide, by decide, by decide, by decide, by decide, Nat.le_refl 1, (show 1 < 2 ^ 30 by decide), by decide, tl (.inr h2)⟩
  · have h : ¬ k = 2 := of_decide_eq_false h
    have h2 : ¬ k = 4 := of_decide_eq_false h2
    have e : datO x k n = [] := if_neg (by omega)
    rw [e]
    exact ⟨_, _, rfl, ⟨_, rfl, _, _, rfl, rfl, _, _, rfl, rfl, _, _, rfl, rfl, _, _, rfl, rfl, _, _, rfl, .inr ⟨rfl, rfl⟩, rfl⟩, rfl⟩
theorem tm_pos {a b : Int} (h : 0 ≤ a) (hb : 0 < b) : 0 ≤ a.tmod b ∧ a.tmod b < b := ⟨Int.tmod_nonneg _ h, Int.tmod_lt_of_pos _ hb⟩
theorem op_run (x : List Int) (n : Int) (hx : preB4 x) (hn0 : 0 ≤ n) (hn1 : n < 16777216) : GD 54 Tryz.f54 (QC ctOp (x, n, ())) [.code (bodyOf Tryz.f54)] (entry [.arr 4 uB, iI] (x, n, ())) := by
  have wx : ∀ j, IntKind.i64.wrap (gtB x j) = gtB x j := fun j => IntWalk.i64_in _ (by have := hx j; omega)
  have m0 := tm_pos (hx 0).1 (b := 4) (by decide)
  have m2 := tm_pos (hx 2).1 (b := 5) (by decide)
  have w0 : IntKind.i64.wrap (1 + (gtB x 0).tmod 4) = 1 + (gtB x 0).tmod 4 := IntWalk.i64_in _ (by omega)
  have w2 : IntKind.i64.wrap (1 + (gtB x 2).tmod 5) = 1 + (gtB x 2).tmod 5 := IntWalk.i64_in _ (by omega)
  have go : ∀ (k a len b : Int), 0 < len → len < 16777216 → opV x n = (k, a, len, b, datO x k len) → GD 54 Tryz.f54 (QC ctOp (x, n, ())) (hd Tryz.f54 0) ⟨[(2, .ptr 2 0), (4, .ptr 4 0), (5, .ptr 5 0), (6, .int .i64 0)], [(2, .var [.arr 4 uB x]), (4, .var [.int .i64 0, .int .i64 0, .int .i64 0, .int .u8 0, .nils]), (5, .var [.int .i64 k, .int .i64 a, .int .i64 len, .int .u8 b, .nils])]⟩ := fun k a len b h1 h2 h3 => by
    obtain ⟨N, rfl⟩ := Int.eq_ofNat_of_zero_le (Int.le_of_lt h1)
    refine (opA_loop x k a b N (by omega) (by omega)).post fun rs blk hq => QC.mt ?_ rfl
    show MtL _ (mdV (opV x n)) _
    rw [h3]; exact hq
  refine sy_goK cx0 (vc_op x n _ _) ?_
  simp only [wx, w0, w2]
  refine ⟨by decide, by decide, by decide, by decide, by decide, by decide, by decide, by decide, bc_of (fun h => ?_) (fun h => ?_)⟩
  · have h : 1 + (gtB x 0).tmod 4 ≤ 2 := of_decide_eq_true h
    refine bc_of (fun h2 => ?_) (fun h2 => ?_)
    · have h2 : n = 0 := of_decide_eq_true h2
      exact go _ _ _ _ (by omega) (by omega) (by unfold opV; rw [if_pos h, if_pos h2])
    · have h2 : ¬ n = 0 := of_decide_eq_false h2
      have m1 := tm_pos (hx 1).1 (b := n) (by omega)
      have w1 : IntKind.i64.wrap (n - (gtB x 1).tmod n) = n - (gtB x 1).tmod n := IntWalk.i64_in _ (by omega)
      have m3 := tm_pos (hx 2).1 (b := n - (gtB x 1).tmod n) (by omega)
      have m4 := tm_pos m3.1 (b := 5) (by decide)
      have w3 : IntKind.i64.wrap (1 + ((gtB x 2).tmod (n - (gtB x 1).tmod n)).tmod 5) = 1 + ((gtB x 2).tmod (n - (gtB x 1).tmod n)).tmod 5 := IntWalk.i64_in _ (by omega)
      rw [w1, w3]
      refine ⟨by decide, by decide, by decide, h2, by decide, by decide, by decide, by omega, by decide, bc_of (fun h3 => ?_) (fun h3 => ?_)⟩
      · have h3 : 1 + (gtB x 0).tmod 4 = 3 := of_decide_eq_true h3
        omega
      · exact go _ _ _ _ (by omega) (by omega) (by unfold opV; rw [if_pos h, if_neg h2])
  · have h : ¬ 1 + (gtB x 0).tmod 4 ≤ 2 := of_decide_eq_false h
    refine bc_of (fun h3 => ?_) (fun h3 => ?_)
    · have h3 : 1 + (gtB x 0).tmod 4 = 3 := of_decide_eq_true h3
      exact ⟨by decide, by decide, by decide, go _ _ _ _ (by omega) (by omega) (by unfold opV; rw [if_neg h, if_pos h3])⟩
    · have h3 : ¬ 1 + (gtB x 0).tmod 4 = 3 := of_decide_eq_false h3
      exact go _ _ _ _ (by omega) (by omega) (by unfold opV; rw [if_neg h, if_neg h3])
theorem op_held : Held Tryz.prog G0 54 ctOp :=
  Held.of cx0 (fn := Tryz.f54) rfl rfl ⟨by decide, by decide⟩ fun ⟨x, n, _⟩ hp => op_run x n hp.1 hp.2.1 hp.2.2
end Go.Proofs.YtikikmhlicoheaaGreatDoor
namespace Go.Proofs.YtikikmhlicoheaaGreatDoor
open Go.Px Go.Ax
set_option maxRecDepth 100000
abbrev a4S : Sh := .arr 4 uB
abbrev raS : Sh := .pair uB (.sl a4S)
def C54 : CV := [(54, .inl ctOp)]
theorem cx54 : CxOK Tryz.prog tt G0 C54 := cx0.cons op_held (fn := Tryz.f54) rfl rfl rfl
set_option maxRecDepth 100000
theorem vc_sized (z m : Int) (l : List (List Int)) (Q : List SV → List (Nat × LB) → Prop) (R : List Item → PS → Prop) : sy tt G0 C54 Tryz.f30.ntmps Tryz.f30.results.toList Q (fun it S => R it (keepS [1, 2, 4, 5, 6] [2, 4, 5, 32] S)) 1000 [.code (bodyOf Tryz.f30)] (entry [raS, iI] ((z, l), m, ())) =
    (R (hd Tryz.f30 (0 : Nat)) { env := [((1 : Nat), SV.int IntKind.i64 m), ((2 : Nat), SV.ptr (2 : Nat) (0 : Nat)), ((4 : Nat), SV.ptr (4 : Nat) (0 : Nat)), ((5 : Nat), SV.ptr (5 : Nat) (0 : Nat)), ((6 : Nat), SV.int IntKind.i64 (0 : Int))], blk := [((2 : Nat), LB.var [SV.int IntKind.u8 z, SV.sl a4S l]), ((4 : Nat), LB.var [SV.bool false, SV.int IntKind.i64 (0 : Int), SV.int IntKind.i64 (0 : Int), SV.nils]), ((5 : Nat), LB.var [SV.bool false, SV.int IntKind.i64 m, SV.int IntKind.i64 (0 : Int), SV.nils])] }) := by kernel_rfl
theorem vc_szA (z m o : Int) (l : List (List Int)) (i : Nat) (Q : List SV → List (Nat × LB) → Prop) (R : List Item → PS → Prop) : sy tt G0 C54 Tryz.f30.ntmps Tryz.f30.results.toList Q (fun it S => R it (keepS [1, 2, 4, 5, 6] [2, 4, 5, 32] S)) 1000 (hd Tryz.f30 0) ⟨[(1, .int .i64 m), (2, .ptr 2 0), (4, .ptr 4 0), (5, .ptr 5 0), (6, .int .i64 (i : Nat))], [(2, .var [.int .u8 z, .sl a4S l]), (4, .var [.bool false, .int .i64 0, .int .i64 0, .nils]), (5, .var [.bool false, .int .i64 m, .int .i64 o, .nils])]⟩ =
    (bc (decide ((↑i : Int) < (↑l.length : Int))) (bc (decide ((↑i : Int) < (6 : Int))) ((0 : Int) ≤ (↑i : Int) ∧
 (↑i : Int) < (↑l.length : Int) ∧
 ctOp.pre (gt a4S l (↑i : Int).toNat, m, ()) ∧
 (0 : Nat) + (1 : Nat) ≤ ([(opV (gt a4S l (↑i : Int).toNat) m)] : List opS.D).length ∧
 (([(opV (gt a4S l (↑i : Int).toNat) m)] : List opS.D)).length < (2 : Nat) ^ (30 : Nat) ∧
 (56 : Nat) ≤ (2 : Nat) ^ (10 : Nat) ∧
 R (hd Tryz.f30 (0 : Nat)) { env := [((1 : Nat), SV.int IntKind.i64 m), ((2 : Nat), SV.ptr (2 : Nat) (0 : Nat)), ((4 : Nat), SV.ptr (4 : Nat) (0 : Nat)), ((5 : Nat), SV.ptr (5 : Nat) (0 : Nat)), ((6 : Nat), SV.int IntKind.i64 (IntKind.i64.wrap ((↑i : Int) + (1 : Int))))], blk := [((2 : Nat), LB.var [SV.int IntKind.u8 z, SV.sl a4S l]), ((4 : Nat), LB.var [SV.bool false, SV.int IntKind.i64 (0 : Int), SV.int IntKind.i64 (0 : Int), SV.nils]), ((5 : Nat), LB.var [SV.bool false, SV.int IntKind.i64 m, SV.int IntKind.i64 (IntKind.i64.wrap (o + (opV (gt a4S l (↑i : Int).toNat) m).snd.snd.fst)), SV.win true opS (32 : Nat) (0 : Nat) (1 : Nat)]), ((32 : Nat), LB.row (55 : Nat) opS (([(opV (gt a4S l (↑i : Int).toNat) m)] : List opS.D)))] }) (Q [SV.agg [SV.bool false, SV.int IntKind.i64 m, SV.int IntKind.i64 o, SV.nils]] [((2 : Nat), LB.var [SV.int IntKind.u8 z, SV.sl a4S l]), ((4 : Nat), LB.var [SV.bool false, SV.int IntKind.i64 m, SV.int IntKind.i64 o, SV.nils]), ((5 : Nat), LB.var [SV.bool false, SV.int IntKind.i64 m, SV.int IntKind.i64 o, SV.nils])])) (false = false ∧
 Q [SV.agg [SV.bool false, SV.int IntKind.i64 m, SV.int IntKind.i64 o, SV.nils]] [((2 : Nat), LB.var [SV.int IntKind.u8 z, SV.sl a4S l]), ((4 : Nat), LB.var [SV.bool false, SV.int IntKind.i64 m, SV.int IntKind.i64 o, SV.nils]), ((5 : Nat), LB.var [SV.bool false, SV.int IntKind.i64 m, SV.int IntKind.i64 o, SV.nils])])) := by kernel_rfl
theorem vc_szB (z m o : Int) (l : List (List Int)) (d : List OpT) (i : Nat) (Q : List SV → List (Nat × LB) → Prop) (R : List Item → PS → Prop) : sy tt G0 C54 Tryz.f30.ntmps Tryz.f30.results.toList Q (fun it S => R it (keepS [1, 2, 4, 5, 6] [2, 4, 5, 32] S)) 1000 (hd Tryz.f30 0) ⟨[(1, .int .i64 m), (2, .ptr 2 0), (4, .ptr 4 0), (5, .ptr 5 0), (6, .int .i64 (i : Nat))], [(2, .var [.int .u8 z, .sl a4S l]), (4, .var [.bool false, .int .i64 0, .int .i64 0, .nils]), (5, .var [.bool false, .int .i64 m, .int .i64 o, .win true opS 32 0 d.length]), (32, .row 55 opS d)]⟩ =
    (bc (decide ((↑i : Int) < (↑l.length : Int))) (bc (decide ((↑i : Int) < (6 : Int))) ((0 : Int) ≤ (↑i : Int) ∧
 (↑i : Int) < (↑l.length : Int) ∧
 ctOp.pre (gt a4S l (↑i : Int).toNat, m, ()) ∧
 (0 : Nat) + (1 : Nat) ≤ ([(opV (gt a4S l (↑i : Int).toNat) m)] : List opS.D).length ∧
 d.length = d.length ∧
 (0 : Nat) = (0 : Nat) ∧
 d.length + (([(opV (gt a4S l (↑i : Int).toNat) m)] : List opS.D)).length < (2 : Nat) ^ (30 : Nat) ∧
 (56 : Nat) ≤ (2 : Nat) ^ (10 : Nat) ∧
 R (hd Tryz.f30 (0 : Nat)) { env := [((1 : Nat), SV.int IntKind.i64 m), ((2 : Nat), SV.ptr (2 : Nat) (0 : Nat)), ((4 : Nat), SV.ptr (4 : Nat) (0 : Nat)), ((5 : Nat), SV.ptr (5 : Nat) (0 : Nat)), ((6 : Nat), SV.int IntKind.i64 (IntKind.i64.wrap ((↑i : Int) + (1 : Int))))], blk := [((2 : Nat), LB.var [SV.int IntKind.u8 z, SV.sl a4S l]), ((4 : Nat), LB.var [SV.bool false, SV.int IntKind.i64 (0 : Int), SV.int IntKind.i64 (0 : Int), SV.nils]), ((5 : Nat), LB.var [SV.bool false, SV.int IntKind.i64 m, SV.int IntKind.i64 (IntKind.i64.wrap (o + (opV (gt a4S l (↑i : Int).toNat) m).snd.snd.fst)), SV.win true opS (32 : Nat) (0 : Nat) (d.length + (([(opV (gt a4S l (↑i : Int).toNat) m)] : List opS.D)).length)]), ((32 : Nat), LB.row (55 : Nat) opS (d ++ ([(opV (gt a4S l (↑i : Int).toNat) m)] : List opS.D)))] }) (Q [SV.agg [SV.bool false, SV.int IntKind.i64 m, SV.int IntKind.i64 o, SV.win true opS (32 : Nat) (0 : Nat) d.length]] [((2 : Nat), LB.var [SV.int IntKind.u8 z, SV.sl a4S l]), ((4 : Nat), LB.var [SV.bool false, SV.int IntKind.i64 m, SV.int IntKind.i64 o, SV.win true opS (32 : Nat) (0 : Nat) d.length]), ((5 : Nat), LB.var [SV.bool false, SV.int IntKind.i64 m, SV.int IntKind.i64 o, SV.win true opS (32 : Nat) (0 : Nat) d.length]), ((32 : Nat), LB.row (55 : Nat) opS d)])) (false = false ∧
 Q [SV.agg [SV.bool false, SV.int IntKind.i64 m, SV.int IntKind.i64 o, SV.win true opS (32 : Nat) (0 : Nat) d.length]] [((2 : Nat), LB.var [SV.int IntKind.u8 z, SV.sl a4S l]), ((4 : Nat), LB.var [SV.bool false, SV.int IntKind.i64 m, SV.int IntKind.i64 o, SV.win true opS (32 : Nat) (0 : Nat) d.length]), ((5 : Nat), LB.var [SV.bool false, SV.int IntKind.i64 m, SV.int IntKind.i64 o, SV.win true opS (32 : Nat) (0 : Nat) d.length]), ((32 : Nat), LB.row (55 : Nat) opS d)])) := by kernel_rfl
theorem vc_szE (z m o : Int) (l : List (List Int)) (d : List OpT) (i : Nat) (Q : List SV → List (Nat × LB) → Prop) (R : List Item → PS → Prop) : sy tt G0 C54 Tryz.f30.ntmps Tryz.f30.results.toList Q (fun it S => R it (keepS [1, 2, 4, 5, 6] [2, 4, 5, 32] S)) 1000 (hd Tryz.f30 0) ⟨[(1, .int .i64 m), (2, .ptr 2 0), (4, .ptr 4 0), (5, .ptr 5 0), (6, .int .i64 (i : Nat))], [(2, .var [.int .u8 z, .sl a4S l]), (4, .var [.bool false, .int .i64 0, .int .i64 0, .nils]), (5, .var [.bool false, .int .i64 m, .int .i64 o, .sl opS d])]⟩ =
    (bc (decide ((↑i : Int) < (↑l.length : Int))) (bc (decide ((↑i : Int) < (6 : Int))) ((0 : Int) ≤ (↑i : Int) ∧
 (↑i : Int) < (↑l.length : Int) ∧
 ctOp.pre (gt a4S l (↑i : Int).toNat, m, ()) ∧
 False) (Q [SV.agg [SV.bool false, SV.int IntKind.i64 m, SV.int IntKind.i64 o, SV.sl opS d]] [((2 : Nat), LB.var [SV.int IntKind.u8 z, SV.sl a4S l]), ((4 : Nat), LB.var [SV.bool false, SV.int IntKind.i64 m, SV.int IntKind.i64 o, SV.sl opS d]), ((5 : Nat), LB.var [SV.bool false, SV.int IntKind.i64 m, SV.int IntKind.i64 o, SV.sl opS d])])) (false = false ∧
 Q [SV.agg [SV.bool false, SV.int IntKind.i64 m, SV.int IntKind.i64 o, SV.sl opS d]] [((2 : Nat), LB.var [SV.int IntKind.u8 z, SV.sl a4S l]), ((4 : Nat), LB.var [SV.bool false, SV.int IntKind.i64 m, SV.int IntKind.i64 o, SV.sl opS d]), ((5 : Nat), LB.var [SV.bool false, SV.int IntKind.i64 m, SV.int IntKind.i64 o, SV.sl opS d])])) := by kernel_rfl
end Go.Proofs.YtikikmhlicoheaaGreatDoor
namespace Go.Proofs.YtikikmhlicoheaaGreatDoor
open Go.Px Go.Ax
set_option maxRecDepth 100000
attribute [local irreducible] Go.Px.sy Go.Px.syE
def szL (l : List (List Int)) (m : Int) (i : Nat) : List OpT := (List.range i).map fun j => opV (gt a4S l j) m
def szK (l : List (List Int)) : Nat := min l.length 6
def szO (l : List (List Int)) (m : Int) : List OpT := szL l m (szK l)
def szV (l : List (List Int)) (m : Int) : PaT := (false, m, lenS (szO l m), szO l m)
theorem szL_len (l : List (List Int)) (m : Int) (i : Nat) : (szL l m i).length = i := by simp [szL]
theorem szL_succ (l : List (List Int)) (m : Int) (i : Nat) : szL l m (i + 1) = szL l m i ++ [opV (gt a4S l i) m] := by simp [szL, List.range_succ]
theorem lenS_app (a b : List OpT) : lenS (a ++ b) = lenS a + lenS b := by simp [lenS]
theorem opV_len {x : List Int} {m : Int} (hx : preB4 x) (h0 : 0 ≤ m) : 1 ≤ (opV x m).2.2.1 ∧ (opV x m).2.2.1 ≤ 5 := by
  have m2 := tm_pos (hx 2).1 (b := 5) (by decide)
  unfold opV
  split
  · split
    · show 1 ≤ 1 + _ ∧ 1 + _ ≤ 5
      omega
    · have m1 := tm_pos (hx 1).1 (b := m) (by omega)
      have m3 := tm_pos (hx 2).1 (b := m - (gtB x 1).tmod m) (by omega)
      have m4 := tm_pos m3.1 (b := 5) (by decide)
      show 1 ≤ 1 + _ ∧ 1 + _ ≤ 5
      omega
  · show 1 ≤ 1 + _ ∧ 1 + _ ≤ 5
    omega
theorem szL_sum {l : List (List Int)} {m : Int} (hl : ∀ j, preB4 (gt a4S l j)) (h0 : 0 ≤ m) : ∀ i, 0 ≤ lenS (szL l m i) ∧ lenS (szL l m i) ≤ 5 * i
  | 0 => by simp [szL, lenS]
  | i + 1 => by
    have := szL_sum hl h0 i
    have h := opV_len (hl i) h0
    rw [szL_succ, lenS_app]
    have e : lenS [opV (gt a4S l i) m] = (opV (gt a4S l i) m).2.2.1 := by simp [lenS]
    rw [e]
    omega
def preL4 (l : List (List Int)) : Prop := ∀ j, preB4 (gt a4S l j)
def preSz (l : List (List Int)) (m : Int) : Prop := preL4 l ∧ preN m ∧ l.length < 9223372036854775808
def ctSz : Ctr := ⟨[raS, iI], fun x => preSz x.1.2 x.2.1, fun x => [paV (szV x.1.2 x.2.1)], fun _ => []⟩
abbrev PaQ (p : PaT) : List SV → List (Nat × LB) → Prop := fun rs _ => MtL (fun _ => none) [paV p] rs
section
variable (z m : Int) (l : List (List Int)) (hl : preL4 l) (hm0 : 0 ≤ m) (hm1 : m < 16777216) (hn : l.length < 9223372036854775808)
abbrev szBs (i : Nat) (d : List OpT) (o : Int) : PS := ⟨[(1, .int .i64 m), (2, .ptr 2 0), (4, .ptr 4 0), (5, .ptr 5 0), (6, .int .i64 (i : Nat))], [(2, .var [.int .u8 z, .sl a4S l]), (4, .var [.bool false, .int .i64 0, .int .i64 0, .nils]), (5, .var [.bool false, .int .i64 m, .int .i64 o, .win true opS 32 0 d.length]), (32, .row 55 opS d)]⟩
include hl hm0 hm1 hn
theorem szB_end (i : Nat) (hi : i = szK l) : GD 30 Tryz.f30 (PaQ (szV l m)) (hd Tryz.f30 0) (szBs z m l i (szL l m i) (lenS (szL l m i))) := by
  have _ := And.intro hl (And.intro hm0 (And.intro hm1 hn))
  have hd : szL l m i = szO l m := by rw [hi]; rfl
  rw [hd]
  refine Good.frz (i := 32) (e := opS) (et := 55) (xs := szO l m) rfl (fun c hc => ?_) ?_
  · have hc : c ∈ [0 + (szO l m).length ≤ (szO l m).length] := hc
    rw [List.mem_singleton] at hc; subst hc; omega
  · have e : GD 30 Tryz.f30 (PaQ (szV l m)) (Px.hd Tryz.f30 0) ⟨[(1, .int .i64 m), (2, .ptr 2 0), (4, .ptr 4 0), (5, .ptr 5 0), (6, .int .i64 (i : Nat))], [(2, .var [.int .u8 z, .sl a4S l]), (4, .var [.bool false, .int .i64 0, .int .i64 0, .nils]), (5, .var [.bool false, .int .i64 m, .int .i64 (lenS (szO l m)), .sl opS (winL opS 0 (szO l m).length (szO l m))])]⟩ := by
      refine sy_goK cx54 (vc_szE z m (lenS (szO l m)) l (winL opS 0 (szO l m).length (szO l m)) i _ _) ?_
      rw [winA]
      have fin : PaQ (szV l m) [SV.agg [SV.bool false, SV.int IntKind.i64 m, SV.int IntKind.i64 (lenS (szO l m)), SV.sl opS (szO l m)]] [] := ⟨_, _, rfl, ⟨_, rfl, _, _, rfl, rfl, _, _, rfl, rfl, _, _, rfl, rfl, _, _, rfl, .inl rfl, rfl⟩, rfl⟩
      refine bc_of (fun h => bc_of (fun h2 => ?_) (fun h2 => fin)) (fun h => ⟨rfl, fin⟩)
      have h := of_decide_eq_true h
      have h2 := of_decide_eq_true h2
      unfold szK at hi
      omega
    exact e.only ⟨rfl, rfl, rfl, rfl, rfl, trivial⟩ ⟨rfl, rfl, rfl, trivial⟩
theorem szB_loop : ∀ (k i : Nat), szK l - i = k → i ≤ szK l → GD 30 Tryz.f30 (PaQ (szV l m)) (hd Tryz.f30 0) (szBs z m l i (szL l m i) (lenS (szL l m i))) := by
  intro k
  induction k with
  | zero => intro i hk hi; exact szB_end z m l hl hm0 hm1 hn i (by omega)
  | succ k ih =>
    intro i hk hi
    have nx := ih (i + 1) (by omega) (by omega)
    have hs := szL_sum hl hm0 i
    have hs2 := szL_sum hl hm0 (i + 1)
    have h6 : i < l.length ∧ i < 6 := by unfold szK at hk hi; omega
    rw [szL_succ, lenS_app] at nx hs2
    have e1 : lenS [opV (gt a4S l i) m] = (opV (gt a4S l i) m).2.2.1 := by simp [lenS]
    rw [e1] at nx hs2
    refine sy_goK cx54 (vc_szB z m (lenS (szL l m i)) l (szL l m i) i _ _) ?_
    rw [decide_eq_true (show (i : Int) < (l.length : Int) by omega), bc_t, decide_eq_true (show (i : Int) < (6 : Int) by omega), bc_t, Int.toNat_natCast, IntWalk.i64_in ((i : Int) + 1) (by omega), IntWalk.i64_in (lenS (szL l m i) + (opV (gt a4S l i) m).2.2.1) (by omega)]
    refine ⟨by omega, by omega, ⟨hl i, hm0, hm1⟩, Nat.le_refl 1, rfl, rfl, ?_, by decide, nx.only ⟨rfl, rfl, rfl, rfl, rfl, trivial⟩ ⟨rfl, rfl, by rw [List.length_append]; rfl, rfl, trivial⟩⟩
    show (szL l m i).length + 1 < 2 ^ 30
    rw [szL_len]; omega
theorem szA_loop : GD 30 Tryz.f30 (PaQ (szV l m)) (hd Tryz.f30 0) ⟨[(1, .int .i64 m), (2, .ptr 2 0), (4, .ptr 4 0), (5, .ptr 5 0), (6, .int .i64 0)], [(2, .var [.int .u8 z, .sl a4S l]), (4, .var [.bool false, .int .i64 0, .int .i64 0, .nils]), (5, .var [.bool false, .int .i64 m, .int .i64 0, .nils])]⟩ := by
  refine sy_goK cx54 (vc_szA z m 0 l 0 _ _) ?_
  refine bc_of (fun h => bc_of (fun h2 => ?_) (fun h2 => ?_)) (fun h => ⟨rfl, ?_⟩)
  · have h := of_decide_eq_true h
    have nx := szB_loop z m l hl hm0 hm1 hn _ 1 rfl (by unfold szK; omega)
    have hs := opV_len (hl 0) hm0
    have e0 : szL l m 1 = [opV (gt a4S l 0) m] := rfl
    have e1 : lenS [opV (gt a4S l 0) m] = (opV (gt a4S l 0) m).2.2.1 := by simp [lenS]
    rw [e0, e1] at nx
    rw [Int.toNat_natCast, IntWalk.i64_in (((0 : Nat) : Int) + 1) (by omega), IntWalk.i64_in (0 + (opV (gt a4S l 0) m).2.2.1) (by omega), Int.zero_add]
    exact ⟨by omega, by omega, ⟨hl 0, hm0, hm1⟩, Nat.le_refl 1, (show 1 < 2 ^ 30 by decide), by decide, nx.only ⟨rfl, rfl, rfl, rfl, rfl, trivial⟩ ⟨rfl, rfl, rfl, rfl, trivial⟩⟩
  · exact absurd (of_decide_eq_false h2) (by decide)
  · have h := of_decide_eq_false h
    have e : szO l m = [] := by
      have : l.length = 0 := by omega
      unfold szO szK; rw [this]; rfl
    show MtL _ [paV (szV l m)] _
    unfold szV
    rw [e]
    exact ⟨_, _, rfl, ⟨_, rfl, _, _, rfl, rfl, _, _, rfl, rfl, _, _, rfl, rfl, _, _, rfl, .inr ⟨rfl, rfl⟩, rfl⟩, rfl⟩
end
theorem sz_held : Held Tryz.prog G0 30 ctSz :=
  Held.of cx54 (fn := Tryz.f30) rfl rfl ⟨by decide, by decide⟩ fun ⟨⟨z, l⟩, m, _⟩ hp =>
    sy_goK cx54 (vc_sized z m l _ _) ((szA_loop z m l hp.1 hp.2.1.1 hp.2.1.2 hp.2.2).post fun rs blk hq => QC.mt hq rfl)
end Go.Proofs.YtikikmhlicoheaaGreatDoor
namespace Go.Proofs.YtikikmhlicoheaaGreatDoor
open Go.Px Go.Ax
set_option maxRecDepth 100000
def C30 : CV := [(30, .inl ctSz)]
theorem cx30 : CxOK Tryz.prog tt G0 C30 := cx0.cons sz_held (fn := Tryz.f30) rfl rfl rfl
set_option maxRecDepth 100000
theorem vc_made6 (z : Int) (l : List (List Int)) (Q : List SV → List (Nat × LB) → Prop) (R : List Item → PS → Prop) : sy tt G0 C30 Tryz.f10.ntmps Tryz.f10.results.toList Q R 1000 [.code (bodyOf Tryz.f10)] (entry [raS] ((z, l), ())) =
    ((13 : Int) ≠ (0 : Int) ∧
 ctSz.pre ((z, l), (IntKind.i64.wrap z).tmod (13 : Int), ()) ∧
 Q [SV.agg [SV.bool (szV l ((IntKind.i64.wrap z).tmod (13 : Int))).fst, SV.int IntKind.i64 (szV l ((IntKind.i64.wrap z).tmod (13 : Int))).snd.fst, SV.int IntKind.i64 (szV l ((IntKind.i64.wrap z).tmod (13 : Int))).snd.snd.fst, SV.sl opS (szV l ((IntKind.i64.wrap z).tmod (13 : Int))).snd.snd.snd]] [((1 : Nat), LB.var [SV.int IntKind.u8 z, SV.sl (Sh.arr (4 : Nat) uB) l]), ((2 : Nat), LB.var [SV.bool (szV l ((IntKind.i64.wrap z).tmod (13 : Int))).fst, SV.int IntKind.i64 (szV l ((IntKind.i64.wrap z).tmod (13 : Int))).snd.fst, SV.int IntKind.i64 (szV l ((IntKind.i64.wrap z).tmod (13 : Int))).snd.snd.fst, SV.sl opS (szV l ((IntKind.i64.wrap z).tmod (13 : Int))).snd.snd.snd])]) := by kernel_rfl
end Go.Proofs.YtikikmhlicoheaaGreatDoor
namespace Go.Proofs.YtikikmhlicoheaaGreatDoor
open Go.Px Go.Ax
set_option maxRecDepth 100000
attribute [local irreducible] Go.Px.sy Go.Px.syE
def preM6 (z : Int) (l : List (List Int)) : Prop := (0 ≤ z ∧ z < 256) ∧ preL4 l ∧ l.length < 9223372036854775808
def ctM6 : Ctr := ⟨[raS], fun x => preM6 x.1.1 x.1.2, fun x => [paV (szV x.1.2 (x.1.1 % 13))], fun _ => []⟩
theorem made6_run (z : Int) (l : List (List Int)) (hz : 0 ≤ z ∧ z < 256) (hl : preL4 l) (hn : l.length < 9223372036854775808) : GD 10 Tryz.f10 (QC ctM6 ((z, l), ())) [.code (bodyOf Tryz.f10)] (entry [raS] ((z, l), ())) := by
  refine sy_sound cx30 _ _ _ ((vc_made6 z l _ _).mpr ?_)
  have w : (IntKind.i64.wrap z).tmod 13 = z % 13 := by rw [IntWalk.i64_in z (by omega), Int.tmod_eq_emod_of_nonneg hz.1]
  rw [w]
  exact ⟨by decide, ⟨hl, (show preN (z % 13) from ⟨by omega, by omega⟩), hn⟩, QC.flat rfl rfl rfl⟩
theorem made6_held : Held Tryz.prog G0 10 ctM6 :=
  Held.of cx30 (fn := Tryz.f10) rfl rfl ⟨by decide, by decide⟩ fun ⟨⟨z, l⟩, _⟩ hp => made6_run z l hp.1 hp.2.1 hp.2.2
end Go.Proofs.YtikikmhlicoheaaGreatDoor
