/-
  A part of the proof: what pieces of the program give; conditions: those of each theorem.
-/
import Derived.Test.YtikikmhlicoheaaGreatDoorQ0
set_option linter.unusedVariables false
set_option linter.unusedSimpArgs false
namespace Go.Proofs.YtikikmhlicoheaaGreatDoor
open Go.Px Go.Ax
set_option maxRecDepth 100000
attribute [local irreducible] Go.Px.sy Go.Px.syE
theorem winA {e : Sh} (l : List e.D) : winL e 0 l.length l = l := by
  show (List.drop 0 l).take l.length = l
  rw [List.drop_zero, List.take_of_length_le (Nat.le_refl _)]
theorem QC.mt {ct : Ctr} {x : DL ct.args} {rs : List SV} {blk : List (Nat × LB)} (h : MtL (fun _ => none) (ct.out x) rs) (hr : ct.rows x = []) : QC ct x rs blk := ⟨fun _ => none, h, by rw [hr]; trivial, fun _ _ _ e => by simp at e, by rw [hr]; rfl⟩
theorem made_loop (k a : Int) (l : List SyT) (hl : l.length < 16777216) : ∀ (n i : Nat) (b : List Int), l.length - i = n → i ≤ l.length → b.length = l.length → (∀ j, j < i → b[j]? = (l.map fun s => s.2.2)[j]?) →
    GD 76 Tryz.f76 (fun rs _ => rs = [.agg [.int .i64 k, .int .i64 a, .int .i64 l.length, .int .u8 0, .sl uB (l.map fun s => s.2.2)]]) (hd Tryz.f76 0) ⟨[(2, .ptr 2 0), (3, .ptr 3 0), (25, .sl syS l), (26, .int .i64 l.length), (27, .int .i64 (i : Nat))], [(2, .var [.int .i64 0, .int .i64 0, .int .i64 0, .int .u8 0, .nils]), (3, .var [.int .i64 k, .int .i64 a, .int .i64 l.length, .int .u8 0, .win true uB 23 0 b.length]), (23, .row 5 uB b)]⟩ := by
  intro n
  induction n with
  | zero =>
    intro i b hk hi hb hj
    have hi : i = l.length := by omega
    subst hi
    have hbl : b = l.map fun s => s.2.2 := by
      refine List.ext_getElem? fun j => ?_
      by_cases h : j < l.length
      · exact hj j h
      · rw [List.getElem?_eq_none (by omega), List.getElem?_eq_none (by rw [List.length_map]; omega)]
    refine Good.frz (i := 23) (e := uB) (et := 5) (xs := b) rfl (fun c hc => ?_) ?_
    · have hc : c ∈ [0 + b.length ≤ b.length] := hc
      rw [List.mem_singleton] at hc; subst hc; omega
    · have e : GD 76 Tryz.f76 (fun rs _ => rs = [.agg [.int .i64 k, .int .i64 a, .int .i64 l.length, .int .u8 0, .sl uB (l.map fun s => s.2.2)]]) (hd Tryz.f76 0) ⟨[(2, .ptr 2 0), (3, .ptr 3 0), (25, .sl syS l), (26, .int .i64 l.length), (27, .int .i64 (l.length : Nat))], [(2, .var [.int .i64 0, .int .i64 0, .int .i64 0, .int .u8 0, .nils]), (3, .var [.int .i64 k, .int .i64 a, .int .i64 l.length, .int .u8 0, .sl uB (winL uB 0 b.length b)])]⟩ := by
        refine sy_sound cx1 _ _ _ ((vc_madeE k a (winL uB 0 b.length b) l l.length _ _).mpr ?_)
        rw [decide_eq_false (by omega), bc_f, winA, hbl]
      exact e.only ⟨rfl, rfl, rfl, rfl, rfl, trivial⟩ ⟨rfl, rfl, trivial⟩
  | succ n ih =>
    intro i b hk hi hb hj
    have hil : i < l.length := by omega
    refine sy_sound cx1 _ _ _ ((vc_madeL k a b l i _ _).mpr ?_)
    rw [decide_eq_true (show (i : Int) < (l.length : Int) by omega), bc_t, Int.toNat_natCast, gtY_at hil, IntWalk.i64_in ((i : Int) + 1) (by omega), Nat.zero_add]
    refine ⟨by omega, by omega, by omega, by omega, by omega, ?_⟩
    refine (ih (i + 1) (b.set i l[i].2.2) (by omega) (by omega) (by rw [List.length_set]; exact hb) (fun j h => ?_)).only ⟨rfl, rfl, rfl, rfl, rfl, trivial⟩ ⟨rfl, ?_, rfl, trivial⟩
    · rw [List.getElem?_set]
      by_cases hji : i = j
      · subst hji
        rw [if_pos rfl, if_pos (by omega), List.getElem?_map, List.getElem?_eq_getElem hil]; rfl
      · rw [if_neg hji]; exact hj j (by omega)
    · rw [List.length_set]; rfl
theorem made_held : Held Tryz.prog G0 76 ctMd := by
  refine Held.run cx1 (fn := Tryz.f76) rfl rfl ⟨by decide, by decide⟩ ?_
  rintro ⟨l, ⟨⟩⟩ hp
  obtain ⟨h0, h1⟩ : preMd l := hp
  refine (vc_made l _ _).mpr ⟨Int.le_refl 0, by omega, trivial, Int.le_refl 0, by omega, bc_of (fun h => ?_) (fun h => ?_)⟩
  · have h := of_decide_eq_true h
    refine QC.mt ?_ rfl
    show MtL _ (mdV (mdO l)) _
    unfold mdO
    rw [if_pos h]
    exact ⟨_, _, rfl, ⟨_, rfl, _, _, rfl, rfl, _, _, rfl, rfl, _, _, rfl, rfl, _, _, rfl, rfl, _, _, rfl, .inr ⟨rfl, rfl⟩, rfl⟩, rfl⟩
  · have h := of_decide_eq_false h
    refine ⟨by omega, by omega, ?_, ?_, ?_⟩
    · show (l.length : Int) < 16777216
      omega
    · show (1 : Int) * (l.length : Int) ≤ 281474976710656
      omega
    · refine ((made_loop (kndB (gtY l 0)) (gtY l 0).2.1 l h1 _ 0 (List.replicate (l.length : Int).toNat 0) rfl (by omega) (by rw [List.length_replicate, Int.toNat_natCast]) (fun j h => by omega)).post fun rs blk hq => QC.flat ?_ rfl (by rw [hq]; rfl)).only ⟨rfl, rfl, rfl, rfl, rfl, trivial⟩ ⟨rfl, ?_, rfl, trivial⟩
      · rw [hq]
        show mdV (mdO l) = _
        unfold mdO
        rw [if_neg h]; rfl
      · rw [List.length_replicate]; rfl
theorem dxO : CxOK Tryz.prog tt G0 DO := (cx1.cons go_held (fn := Tryz.f75) rfl rfl rfl).cons made_held (fn := Tryz.f76) rfl rfl rfl
abbrev ptL (l : List SyT) (a i : Nat) : List SyT := Px.part l (some (a : Int)) (some (i : Int))
theorem ptL_len {l : List SyT} {a i : Nat} (h : a ≤ i) (hi : i ≤ l.length) : (ptL l a i).length = i - a := by
  simp [ptL, Px.part]; omega
def opsF (l : List SyT) : Nat → Nat → Nat → List OpT
  | 0, _, _ => []
  | k + 1, a, i => if i = l.length ∨ goB (gtY l (i - 1)) (gtY l i) = false then mdO (ptL l a i) :: opsF l k i (i + 1) else opsF l k a (i + 1)
def opsL (l : List SyT) : List OpT := opsF l l.length 0 1
def ctOps : Ctr := ⟨[.sl syS], fun x => preMd x.1, fun x => [.sl opS (opsL x.1)], fun _ => []⟩
theorem cut1 {l : List SyT} {k a i : Nat} (h : i = l.length ∨ goB (gtY l (i - 1)) (gtY l i) = false) : opsF l (k + 1) a i = mdO (ptL l a i) :: opsF l k i (i + 1) := by rw [opsF, if_pos h]
theorem cut0 {l : List SyT} {k a i : Nat} (h : ¬ (i = l.length ∨ goB (gtY l (i - 1)) (gtY l i) = false)) : opsF l (k + 1) a i = opsF l k a (i + 1) := by rw [opsF, if_neg h]
abbrev OQ (x : List OpT) : List SV → List (Nat × LB) → Prop := fun rs _ => rs = [.sl opS x]
theorem opsB_loop (l : List SyT) (hl : l.length < 16777216) : ∀ (k a i : Nat) (o : List OpT), l.length + 1 - i = k → 1 ≤ i → i ≤ l.length + 1 → a < i → o.length ≤ i →
    GD 47 Tryz.f47 (OQ (o ++ opsF l k a i)) (hd Tryz.f47 0) ⟨[(0, .sl syS l), (3, .win true opS 3 0 o.length), (4, .int .i64 (a : Nat)), (5, .int .i64 (i : Nat))], [(3, .row 55 opS o)]⟩ := by
  intro k
  induction k with
  | zero =>
    intro a i o hk h1 hi ha ho
    have hi : i = l.length + 1 := by omega
    subst hi
    refine Good.frz (i := 3) (e := opS) (et := 55) (xs := o) rfl (fun c hc => ?_) ?_
    · have hc : c ∈ [0 + o.length ≤ o.length] := hc
      rw [List.mem_singleton] at hc; subst hc; omega
    · have e : GD 47 Tryz.f47 (OQ (o ++ opsF l 0 a (l.length + 1))) (hd Tryz.f47 0) ⟨[(0, .sl syS l), (3, .sl opS (winL opS 0 o.length o)), (4, .int .i64 (a : Nat)), (5, .int .i64 ((l.length + 1 : Nat) : Int))], []⟩ := by
        refine sy_sound dxO _ _ _ ((vc_opsE l (winL opS 0 o.length o) a (l.length + 1) _ _).mpr ?_)
        rw [decide_eq_false (by omega), bc_f, winA, opsF, List.append_nil]
      exact e.only ⟨rfl, rfl, rfl, rfl, trivial⟩ trivial
  | succ k ih =>
    intro a i o hk h1 hi ha ho
    have hil : i ≤ l.length := by omega
    have hpt : preMd (ptL l a i) := by
      have := ptL_len (l := l) (a := a) (i := i) (by omega) hil
      exact ⟨by omega, by omega⟩
    have wi : IntKind.i64.wrap ((i : Int) + 1) = ((i + 1 : Nat) : Int) := by rw [IntWalk.i64_in _ (by omega)]; omega
    have wj : IntKind.i64.wrap ((i : Int) - 1) = ((i - 1 : Nat) : Int) := by rw [IntWalk.i64_in _ (by omega)]; omega
    have step : (i = l.length ∨ goB (gtY l (i - 1)) (gtY l i) = false) → GD 47 Tryz.f47 (OQ (o ++ opsF l (k + 1) a i)) (hd Tryz.f47 0) ⟨[(0, .sl syS l), (3, .win true opS 3 0 (o ++ [mdO (ptL l a i)]).length), (4, .int .i64 (i : Nat)), (5, .int .i64 ((i + 1 : Nat) : Int))], [(3, .row 55 opS (o ++ [mdO (ptL l a i)]))]⟩ := fun h => by
      rw [cut1 h]
      have := ih i (i + 1) (o ++ [mdO (ptL l a i)]) (by omega) (by omega) (by omega) (by omega) (by rw [List.length_append, List.length_singleton]; omega)
      rw [List.append_assoc] at this
      exact this
    refine sy_sound dxO _ _ _ ((vc_opsB l o a i _ _).mpr ?_)
    rw [decide_eq_true (show (i : Int) ≤ (l.length : Int) by omega), bc_t, wi, wj, Int.toNat_natCast, Int.toNat_natCast]
    refine bc_of (fun h => ?_) (fun h => ?_)
    · have h := of_decide_eq_true h
      refine ⟨rfl, by omega, by omega, by omega, hpt, Nat.le_refl 1, rfl, rfl, ?_, by decide, ?_⟩
      · show o.length + 1 < 2 ^ 30
        omega
      · exact (step (.inl (by omega))).onlyR [(3, 36)] rfl ⟨rfl, by rw [List.length_append]; rfl, rfl, rfl, trivial⟩ ⟨rfl, trivial⟩
    · have h := of_decide_eq_false h
      refine ⟨by omega, by omega, by omega, by omega, trivial, bc_of (fun h2 => ?_) (fun h2 => ?_)⟩
      · have h2 : goB (gtY l (i - 1)) (gtY l i) = false := by
          have h2 : (!goB (gtY l (i - 1)) (gtY l i)) = true := h2
          simpa using h2
        refine ⟨by omega, by omega, by omega, hpt, Nat.le_refl 1, rfl, rfl, ?_, by decide, ?_⟩
        · show o.length + 1 < 2 ^ 30
          omega
        · exact (step (.inr h2)).onlyR [(3, 36)] rfl ⟨rfl, by rw [List.length_append]; rfl, rfl, rfl, trivial⟩ ⟨rfl, trivial⟩
      · have h2 : goB (gtY l (i - 1)) (gtY l i) = true := by
          have h2 : (!goB (gtY l (i - 1)) (gtY l i)) = false := h2
          simpa using h2
        rw [cut0 (fun q => by rcases q with q | q; exact h (by omega); rw [h2] at q; cases q)]
        exact (ih a (i + 1) o (by omega) (by omega) (by omega) (by omega) (by omega)).only ⟨rfl, rfl, rfl, rfl, trivial⟩ ⟨rfl, trivial⟩
theorem opsA_loop (l : List SyT) (hl : l.length < 16777216) : ∀ (k a i : Nat), l.length + 1 - i = k → 1 ≤ i → i ≤ l.length → a < i →
    GD 47 Tryz.f47 (OQ (opsF l k a i)) (hd Tryz.f47 0) ⟨[(0, .sl syS l), (3, .nils), (4, .int .i64 (a : Nat)), (5, .int .i64 (i : Nat))], []⟩ := by
  intro k
  induction k with
  | zero => intro a i hk h1 hi ha; omega
  | succ k ih =>
    intro a i hk h1 hil ha
    have hpt : preMd (ptL l a i) := by
      have := ptL_len (l := l) (a := a) (i := i) (by omega) hil
      exact ⟨by omega, by omega⟩
    have wi : IntKind.i64.wrap ((i : Int) + 1) = ((i + 1 : Nat) : Int) := by rw [IntWalk.i64_in _ (by omega)]; omega
    have wj : IntKind.i64.wrap ((i : Int) - 1) = ((i - 1 : Nat) : Int) := by rw [IntWalk.i64_in _ (by omega)]; omega
    have step : (i = l.length ∨ goB (gtY l (i - 1)) (gtY l i) = false) → GD 47 Tryz.f47 (OQ (opsF l (k + 1) a i)) (hd Tryz.f47 0) ⟨[(0, .sl syS l), (3, .win true opS 3 0 1), (4, .int .i64 (i : Nat)), (5, .int .i64 ((i + 1 : Nat) : Int))], [(3, .row 55 opS [mdO (ptL l a i)])]⟩ := fun h => by
      rw [cut1 h]
      exact opsB_loop l hl k i (i + 1) [mdO (ptL l a i)] (by omega) (by omega) (by omega) (by omega) (by simp)
    refine sy_sound dxO _ _ _ ((vc_opsA l a i _ _).mpr ?_)
    rw [decide_eq_true (show (i : Int) ≤ (l.length : Int) by omega), bc_t, wi, wj, Int.toNat_natCast, Int.toNat_natCast]
    refine bc_of (fun h => ?_) (fun h => ?_)
    · have h := of_decide_eq_true h
      refine ⟨rfl, by omega, by omega, by omega, hpt, Nat.le_refl 1, (show 1 < 2 ^ 30 by decide), by decide, ?_⟩
      exact (step (.inl (by omega))).onlyR [(3, 36)] rfl ⟨rfl, rfl, rfl, rfl, trivial⟩ ⟨rfl, trivial⟩
    · have h := of_decide_eq_false h
      refine ⟨by omega, by omega, by omega, by omega, trivial, bc_of (fun h2 => ?_) (fun h2 => ?_)⟩
      · have h2 : goB (gtY l (i - 1)) (gtY l i) = false := by
          have h2 : (!goB (gtY l (i - 1)) (gtY l i)) = true := h2
          simpa using h2
        refine ⟨by omega, by omega, by omega, hpt, Nat.le_refl 1, (show 1 < 2 ^ 30 by decide), by decide, ?_⟩
        exact (step (.inr h2)).onlyR [(3, 36)] rfl ⟨rfl, rfl, rfl, rfl, trivial⟩ ⟨rfl, trivial⟩
      · have h2 : goB (gtY l (i - 1)) (gtY l i) = true := by
          have h2 : (!goB (gtY l (i - 1)) (gtY l i)) = false := h2
          simpa using h2
        rw [cut0 (fun q => by rcases q with q | q; exact h (by omega); rw [h2] at q; cases q)]
        exact (ih a (i + 1) (by omega) (by omega) (by omega) (by omega)).only ⟨rfl, rfl, rfl, rfl, trivial⟩ trivial
theorem ops_held : Held Tryz.prog G0 47 ctOps := by
  refine Held.run dxO (fn := Tryz.f47) rfl rfl ⟨by decide, by decide⟩ ?_
  rintro ⟨l, ⟨⟩⟩ hp
  obtain ⟨h0, h1⟩ : preMd l := hp
  refine (vc_ops l _ _).mpr ?_
  exact ((opsA_loop l h1 l.length 0 1 (by omega) (by omega) (by omega) (by omega)).post fun rs blk hq => QC.flat (by rw [hq]; rfl) rfl (by rw [hq]; rfl)).only ⟨rfl, rfl, rfl, rfl, trivial⟩ trivial
end Go.Proofs.YtikikmhlicoheaaGreatDoor
namespace Go.Proofs.YtikikmhlicoheaaGreatDoor
open Go.Px Go.Ax
set_option maxRecDepth 100000
def DF : CV := (47, .inl ctOps) :: (46, .inl ctAre) :: C1
theorem dxF : CxOK Tryz.prog tt G0 DF := (cx1.cons are_held (fn := Tryz.f46) rfl rfl rfl).cons ops_held (fn := Tryz.f47) rfl rfl rfl
set_option maxRecDepth 100000
theorem vc_of (l : List SyT) (m : Int) (Q : List SV → List (Nat × LB) → Prop) (R : List Item → PS → Prop) : sy tt G0 DF Tryz.f20.ntmps Tryz.f20.results.toList Q R 1000 [.code (bodyOf Tryz.f20)] (entry [.sl syS, iI] (l, m, ())) =
    (ctSize.pre (m, ()) ∧
 bc (!(decide ((0 : iI.D) ≤ m) && decide (m ≤ (65536 : iI.D)))) (true = true ∧
 true = true ∧
 Q [SV.agg [SV.bool false, SV.int IntKind.i64 (0 : Int), SV.int IntKind.i64 (0 : Int), SV.nils], SV.int IntKind.i64 (60 : Int)] [((4 : Nat), LB.var [SV.bool false, SV.int IntKind.i64 (0 : Int), SV.int IntKind.i64 (0 : Int), SV.nils])]) (ctSize.pre ((↑l.length : Int), ()) ∧
 bc (bif false then true else !(decide ((0 : iI.D) ≤ (↑l.length : Int)) && decide ((↑l.length : Int) ≤ (65536 : iI.D)))) (true = true ∧
 Q [SV.agg [SV.bool false, SV.int IntKind.i64 (0 : Int), SV.int IntKind.i64 (0 : Int), SV.nils], SV.int IntKind.i64 (60 : Int)] [((4 : Nat), LB.var [SV.bool false, SV.int IntKind.i64 (0 : Int), SV.int IntKind.i64 (0 : Int), SV.nils])]) (ctAre.pre (l, m, ()) ∧
 bc (bif false then true else !l.all (sOK m)) (Q [SV.agg [SV.bool false, SV.int IntKind.i64 (0 : Int), SV.int IntKind.i64 (0 : Int), SV.nils], SV.int IntKind.i64 (60 : Int)] [((4 : Nat), LB.var [SV.bool false, SV.int IntKind.i64 (0 : Int), SV.int IntKind.i64 (0 : Int), SV.nils])]) (ctOps.pre (l, ()) ∧
 bc (decide ((4096 : Int) < (↑(opsL l).length : Int))) (Q [SV.agg [SV.bool false, SV.int IntKind.i64 (0 : Int), SV.int IntKind.i64 (0 : Int), SV.nils], SV.int IntKind.i64 (2 : Int)] [((4 : Nat), LB.var [SV.bool false, SV.int IntKind.i64 (0 : Int), SV.int IntKind.i64 (0 : Int), SV.nils])]) (Q [SV.agg [SV.bool false, SV.int IntKind.i64 m, SV.int IntKind.i64 (↑l.length : Int), SV.sl opS (opsL l)], SV.int IntKind.i64 (0 : Int)] [((4 : Nat), LB.var [SV.bool false, SV.int IntKind.i64 m, SV.int IntKind.i64 (↑l.length : Int), SV.sl opS (opsL l)])]))))) := by kernel_rfl
theorem vc_copyA (k f n b : Int) (d : List Int) (o : List SyT) (Q : List SV → List (Nat × LB) → Prop) (R : List Item → PS → Prop) : sy tt G0 [] Tryz.f147.ntmps Tryz.f147.results.toList Q R 1000 [.code (bodyOf Tryz.f147)] (entryI [.dat opS, .row 60 syS] ((k, f, n, b, d), o, ())) =
    (R (hd Tryz.f147 (0 : Nat)) { env := [((0 : Nat), SV.agg [SV.int IntKind.i64 k, SV.int IntKind.i64 f, SV.int IntKind.i64 n, SV.int IntKind.u8 b, SV.sl uB d]), ((1 : Nat), SV.win true syS (1099511627776 : Nat) (0 : Nat) o.length), ((2 : Nat), SV.ptr (2 : Nat) (0 : Nat)), ((4 : Nat), SV.nils), ((6 : Nat), SV.ptr (2 : Nat) (2 : Nat)), ((7 : Nat), SV.int IntKind.i64 n), ((8 : Nat), SV.int IntKind.i64 (0 : Int))], blk := [((2 : Nat), LB.var [SV.int IntKind.i64 k, SV.int IntKind.i64 f, SV.int IntKind.i64 n, SV.int IntKind.u8 b, SV.sl uB d]), ((1099511627776 : Nat), LB.row (60 : Nat) syS o)] }) := by kernel_rfl
theorem vc_copyA1 (k f n b : Int) (d : List Int) (o : List SyT) (i : Nat) (Q : List SV → List (Nat × LB) → Prop) (R : List Item → PS → Prop) : sy tt G0 [] Tryz.f147.ntmps Tryz.f147.results.toList Q R 1000 (hd Tryz.f147 0) ⟨[(1, .win true syS 1099511627776 0 o.length), (2, .ptr 2 0), (7, .int .i64 n), (8, .int .i64 (i : Nat))], [(2, .var [.int .i64 k, .int .i64 f, .int .i64 n, .int .u8 b, .sl uB d]), (1099511627776, .row 60 syS o)]⟩ =
    (bc (decide ((↑i : Int) < n)) ((0 : Nat) + (1 : Nat) ≤ ([(true, IntKind.i64.wrap (f + (↑i : Int)), (0 : Int))] : List syS.D).length ∧
 o.length = o.length ∧
 (0 : Nat) = (0 : Nat) ∧
 o.length + (winL ((fun self => self.6) (mkT (3 : Nat) (24 : Nat) true (TK.struct [((0 : Nat), (4 : TypeId)), ((1 : Nat), (3 : TypeId)), ((2 : Nat), (5 : TypeId))]) syS (some IntKind.i8))) (0 : Nat) (1 : Nat) ([(true, IntKind.i64.wrap (f + (↑i : Int)), (0 : Int))] : List syS.D)).length < (2 : Nat) ^ (30 : Nat) ∧
 (24 : Nat) ≤ (2 : Nat) ^ (10 : Nat) ∧
 R (hd Tryz.f147 (0 : Nat)) { env := [((1 : Nat), SV.win true syS (18 : Nat) (0 : Nat) (o.length + (winL ((fun self => self.6) (mkT (3 : Nat) (24 : Nat) true (TK.struct [((0 : Nat), (4 : TypeId)), ((1 : Nat), (3 : TypeId)), ((2 : Nat), (5 : TypeId))]) syS (some IntKind.i8))) (0 : Nat) (1 : Nat) ([(true, IntKind.i64.wrap (f + (↑i : Int)), (0 : Int))] : List syS.D)).length)), ((2 : Nat), SV.ptr (2 : Nat) (0 : Nat)), ((5 : Nat), SV.int IntKind.i64 (↑i : Int)), ((7 : Nat), SV.int IntKind.i64 n), ((8 : Nat), SV.int IntKind.i64 (IntKind.i64.wrap ((↑i : Int) + (1 : Int)))), ((9 : Nat), SV.bool (decide ((↑i : Int) < n))), ((10 : Nat), SV.int IntKind.i64 (↑i : Int)), ((11 : Nat), SV.dead), ((12 : Nat), SV.ptr (2 : Nat) (1 : Nat)), ((13 : Nat), SV.int IntKind.i64 f), ((14 : Nat), SV.int IntKind.i64 (↑i : Int)), ((15 : Nat), SV.int IntKind.i64 (IntKind.i64.wrap (f + (↑i : Int)))), ((16 : Nat), SV.agg [SV.bool true, SV.int IntKind.i64 (IntKind.i64.wrap (f + (↑i : Int))), SV.int IntKind.u8 (0 : Int)]), ((17 : Nat), SV.win true syS (17 : Nat) (0 : Nat) (1 : Nat)), ((18 : Nat), SV.win true syS (18 : Nat) (0 : Nat) (o.length + (winL ((fun self => self.6) (mkT (3 : Nat) (24 : Nat) true (TK.struct [((0 : Nat), (4 : TypeId)), ((1 : Nat), (3 : TypeId)), ((2 : Nat), (5 : TypeId))]) syS (some IntKind.i8))) (0 : Nat) (1 : Nat) ([(true, IntKind.i64.wrap (f + (↑i : Int)), (0 : Int))] : List syS.D)).length)), ((19 : Nat), SV.int IntKind.i64 (IntKind.i64.wrap ((↑i : Int) + (1 : Int))))], blk := [((2 : Nat), LB.var [SV.int IntKind.i64 k, SV.int IntKind.i64 f, SV.int IntKind.i64 n, SV.int IntKind.u8 b, SV.sl uB d]), ((17 : Nat), LB.row (60 : Nat) syS ([(true, IntKind.i64.wrap (f + (↑i : Int)), (0 : Int))] : List syS.D)), ((18 : Nat), LB.row (60 : Nat) syS (o ++ ([(true, IntKind.i64.wrap (f + (↑i : Int)), (0 : Int))] : List syS.D)))] }) (Q [SV.win true syS (1099511627776 : Nat) (0 : Nat) o.length] [((2 : Nat), LB.var [SV.int IntKind.i64 k, SV.int IntKind.i64 f, SV.int IntKind.i64 n, SV.int IntKind.u8 b, SV.sl uB d]), ((1099511627776 : Nat), LB.row (60 : Nat) syS o)])) := by kernel_rfl
theorem vc_copyA2 (k f n b : Int) (d : List Int) (o : List SyT) (i : Nat) (Q : List SV → List (Nat × LB) → Prop) (R : List Item → PS → Prop) : sy tt G0 [] Tryz.f147.ntmps Tryz.f147.results.toList Q R 1000 (hd Tryz.f147 0) ⟨[(1, .win true syS 1 0 o.length), (2, .ptr 2 0), (7, .int .i64 n), (8, .int .i64 (i : Nat))], [(2, .var [.int .i64 k, .int .i64 f, .int .i64 n, .int .u8 b, .sl uB d]), (1, .row 60 syS o)]⟩ =
    (bc (decide ((↑i : Int) < n)) ((0 : Nat) + (1 : Nat) ≤ ([(true, IntKind.i64.wrap (f + (↑i : Int)), (0 : Int))] : List syS.D).length ∧
 o.length = o.length ∧
 (0 : Nat) = (0 : Nat) ∧
 o.length + (winL ((fun self => self.6) (mkT (3 : Nat) (24 : Nat) true (TK.struct [((0 : Nat), (4 : TypeId)), ((1 : Nat), (3 : TypeId)), ((2 : Nat), (5 : TypeId))]) syS (some IntKind.i8))) (0 : Nat) (1 : Nat) ([(true, IntKind.i64.wrap (f + (↑i : Int)), (0 : Int))] : List syS.D)).length < (2 : Nat) ^ (30 : Nat) ∧
 (24 : Nat) ≤ (2 : Nat) ^ (10 : Nat) ∧
 R (hd Tryz.f147 (0 : Nat)) { env := [((1 : Nat), SV.win true syS (18 : Nat) (0 : Nat) (o.length + (winL ((fun self => self.6) (mkT (3 : Nat) (24 : Nat) true (TK.struct [((0 : Nat), (4 : TypeId)), ((1 : Nat), (3 : TypeId)), ((2 : Nat), (5 : TypeId))]) syS (some IntKind.i8))) (0 : Nat) (1 : Nat) ([(true, IntKind.i64.wrap (f + (↑i : Int)), (0 : Int))] : List syS.D)).length)), ((2 : Nat), SV.ptr (2 : Nat) (0 : Nat)), ((5 : Nat), SV.int IntKind.i64 (↑i : Int)), ((7 : Nat), SV.int IntKind.i64 n), ((8 : Nat), SV.int IntKind.i64 (IntKind.i64.wrap ((↑i : Int) + (1 : Int)))), ((9 : Nat), SV.bool (decide ((↑i : Int) < n))), ((10 : Nat), SV.int IntKind.i64 (↑i : Int)), ((11 : Nat), SV.dead), ((12 : Nat), SV.ptr (2 : Nat) (1 : Nat)), ((13 : Nat), SV.int IntKind.i64 f), ((14 : Nat), SV.int IntKind.i64 (↑i : Int)), ((15 : Nat), SV.int IntKind.i64 (IntKind.i64.wrap (f + (↑i : Int)))), ((16 : Nat), SV.agg [SV.bool true, SV.int IntKind.i64 (IntKind.i64.wrap (f + (↑i : Int))), SV.int IntKind.u8 (0 : Int)]), ((17 : Nat), SV.win true syS (17 : Nat) (0 : Nat) (1 : Nat)), ((18 : Nat), SV.win true syS (18 : Nat) (0 : Nat) (o.length + (winL ((fun self => self.6) (mkT (3 : Nat) (24 : Nat) true (TK.struct [((0 : Nat), (4 : TypeId)), ((1 : Nat), (3 : TypeId)), ((2 : Nat), (5 : TypeId))]) syS (some IntKind.i8))) (0 : Nat) (1 : Nat) ([(true, IntKind.i64.wrap (f + (↑i : Int)), (0 : Int))] : List syS.D)).length)), ((19 : Nat), SV.int IntKind.i64 (IntKind.i64.wrap ((↑i : Int) + (1 : Int))))], blk := [((2 : Nat), LB.var [SV.int IntKind.i64 k, SV.int IntKind.i64 f, SV.int IntKind.i64 n, SV.int IntKind.u8 b, SV.sl uB d]), ((17 : Nat), LB.row (60 : Nat) syS ([(true, IntKind.i64.wrap (f + (↑i : Int)), (0 : Int))] : List syS.D)), ((18 : Nat), LB.row (60 : Nat) syS (o ++ ([(true, IntKind.i64.wrap (f + (↑i : Int)), (0 : Int))] : List syS.D)))] }) (Q [SV.win true syS (1 : Nat) (0 : Nat) o.length] [((2 : Nat), LB.var [SV.int IntKind.i64 k, SV.int IntKind.i64 f, SV.int IntKind.i64 n, SV.int IntKind.u8 b, SV.sl uB d]), ((1 : Nat), LB.row (60 : Nat) syS o)])) := by kernel_rfl
theorem vc_diffA (k f n b : Int) (d : List Int) (o : List SyT) (Q : List SV → List (Nat × LB) → Prop) (R : List Item → PS → Prop) : sy tt G0 [] Tryz.f151.ntmps Tryz.f151.results.toList Q R 1000 [.code (bodyOf Tryz.f151)] (entryI [.dat opS, .row 60 syS] ((k, f, n, b, d), o, ())) =
    (R (hd Tryz.f151 (0 : Nat)) { env := [((0 : Nat), SV.agg [SV.int IntKind.i64 k, SV.int IntKind.i64 f, SV.int IntKind.i64 n, SV.int IntKind.u8 b, SV.sl uB d]), ((1 : Nat), SV.win true syS (1099511627776 : Nat) (0 : Nat) o.length), ((2 : Nat), SV.ptr (2 : Nat) (0 : Nat)), ((4 : Nat), SV.nils), ((7 : Nat), SV.ptr (2 : Nat) (4 : Nat)), ((8 : Nat), SV.sl uB d), ((9 : Nat), SV.int IntKind.i64 (↑d.length : Int)), ((10 : Nat), SV.int IntKind.i64 (0 : Int))], blk := [((2 : Nat), LB.var [SV.int IntKind.i64 k, SV.int IntKind.i64 f, SV.int IntKind.i64 n, SV.int IntKind.u8 b, SV.sl uB d]), ((1099511627776 : Nat), LB.row (60 : Nat) syS o)] }) := by kernel_rfl
theorem vc_diffA1 (k f n b : Int) (d : List Int) (o : List SyT) (i : Nat) (Q : List SV → List (Nat × LB) → Prop) (R : List Item → PS → Prop) : sy tt G0 [] Tryz.f151.ntmps Tryz.f151.results.toList Q R 1000 (hd Tryz.f151 0) ⟨[(1, .win true syS 1099511627776 0 o.length), (2, .ptr 2 0), (8, .sl uB d), (9, .int .i64 d.length), (10, .int .i64 (i : Nat))], [(2, .var [.int .i64 k, .int .i64 f, .int .i64 n, .int .u8 b, .sl uB d]), (1099511627776, .row 60 syS o)]⟩ =
    (bc (decide ((↑i : Int) < (↑d.length : Int))) ((0 : Int) ≤ (↑i : Int) ∧
 (↑i : Int) < (↑d.length : Int) ∧
 (0 : Nat) + (1 : Nat) ≤ ([(true, IntKind.i64.wrap (f + (↑i : Int)), gtB d (↑i : Int).toNat)] : List syS.D).length ∧
 o.length = o.length ∧
 (0 : Nat) = (0 : Nat) ∧
 o.length + (winL ((fun self => self.6) (mkT (3 : Nat) (24 : Nat) true (TK.struct [((0 : Nat), (4 : TypeId)), ((1 : Nat), (3 : TypeId)), ((2 : Nat), (5 : TypeId))]) syS (some IntKind.i8))) (0 : Nat) (1 : Nat) ([(true, IntKind.i64.wrap (f + (↑i : Int)), gtB d (↑i : Int).toNat)] : List syS.D)).length < (2 : Nat) ^ (30 : Nat) ∧
 (24 : Nat) ≤ (2 : Nat) ^ (10 : Nat) ∧
 R (hd Tryz.f151 (0 : Nat)) { env := [((1 : Nat), SV.win true syS (23 : Nat) (0 : Nat) (o.length + (winL ((fun self => self.6) (mkT (3 : Nat) (24 : Nat) true (TK.struct [((0 : Nat), (4 : TypeId)), ((1 : Nat), (3 : TypeId)), ((2 : Nat), (5 : TypeId))]) syS (some IntKind.i8))) (0 : Nat) (1 : Nat) ([(true, IntKind.i64.wrap (f + (↑i : Int)), gtB d (↑i : Int).toNat)] : List syS.D)).length)), ((2 : Nat), SV.ptr (2 : Nat) (0 : Nat)), ((5 : Nat), SV.int IntKind.i64 (↑i : Int)), ((6 : Nat), SV.int IntKind.u8 (gtB d (↑i : Int).toNat)), ((8 : Nat), SV.sl uB d), ((9 : Nat), SV.int IntKind.i64 (↑d.length : Int)), ((10 : Nat), SV.int IntKind.i64 (IntKind.i64.wrap ((↑i : Int) + (1 : Int)))), ((11 : Nat), SV.bool (decide ((↑i : Int) < (↑d.length : Int)))), ((12 : Nat), SV.int IntKind.i64 (↑i : Int)), ((13 : Nat), SV.elv uB (gtB d (↑i : Int).toNat)), ((14 : Nat), SV.int IntKind.u8 (gtB d (↑i : Int).toNat)), ((15 : Nat), SV.dead), ((16 : Nat), SV.ptr (2 : Nat) (1 : Nat)), ((17 : Nat), SV.int IntKind.i64 f), ((18 : Nat), SV.int IntKind.i64 (↑i : Int)), ((19 : Nat), SV.int IntKind.i64 (IntKind.i64.wrap (f + (↑i : Int)))), ((20 : Nat), SV.int IntKind.u8 (gtB d (↑i : Int).toNat)), ((21 : Nat), SV.agg [SV.bool true, SV.int IntKind.i64 (IntKind.i64.wrap (f + (↑i : Int))), SV.int IntKind.u8 (gtB d (↑i : Int).toNat)]), ((22 : Nat), SV.win true syS (22 : Nat) (0 : Nat) (1 : Nat)), ((23 : Nat), SV.win true syS (23 : Nat) (0 : Nat) (o.length + (winL ((fun self => self.6) (mkT (3 : Nat) (24 : Nat) true (TK.struct [((0 : Nat), (4 : TypeId)), ((1 : Nat), (3 : TypeId)), ((2 : Nat), (5 : TypeId))]) syS (some IntKind.i8))) (0 : Nat) (1 : Nat) ([(true, IntKind.i64.wrap (f + (↑i : Int)), gtB d (↑i : Int).toNat)] : List syS.D)).length)), ((24 : Nat), SV.int IntKind.i64 (IntKind.i64.wrap ((↑i : Int) + (1 : Int))))], blk := [((2 : Nat), LB.var [SV.int IntKind.i64 k, SV.int IntKind.i64 f, SV.int IntKind.i64 n, SV.int IntKind.u8 b, SV.sl uB d]), ((22 : Nat), LB.row (60 : Nat) syS ([(true, IntKind.i64.wrap (f + (↑i : Int)), gtB d (↑i : Int).toNat)] : List syS.D)), ((23 : Nat), LB.row (60 : Nat) syS (o ++ ([(true, IntKind.i64.wrap (f + (↑i : Int)), gtB d (↑i : Int).toNat)] : List syS.D)))] }) (Q [SV.win true syS (1099511627776 : Nat) (0 : Nat) o.length] [((2 : Nat), LB.var [SV.int IntKind.i64 k, SV.int IntKind.i64 f, SV.int IntKind.i64 n, SV.int IntKind.u8 b, SV.sl uB d]), ((1099511627776 : Nat), LB.row (60 : Nat) syS o)])) := by kernel_rfl
theorem vc_diffA2 (k f n b : Int) (d : List Int) (o : List SyT) (i : Nat) (Q : List SV → List (Nat × LB) → Prop) (R : List Item → PS → Prop) : sy tt G0 [] Tryz.f151.ntmps Tryz.f151.results.toList Q R 1000 (hd Tryz.f151 0) ⟨[(1, .win true syS 1 0 o.length), (2, .ptr 2 0), (8, .sl uB d), (9, .int .i64 d.length), (10, .int .i64 (i : Nat))], [(2, .var [.int .i64 k, .int .i64 f, .int .i64 n, .int .u8 b, .sl uB d]), (1, .row 60 syS o)]⟩ =
    (bc (decide ((↑i : Int) < (↑d.length : Int))) ((0 : Int) ≤ (↑i : Int) ∧
 (↑i : Int) < (↑d.length : Int) ∧
 (0 : Nat) + (1 : Nat) ≤ ([(true, IntKind.i64.wrap (f + (↑i : Int)), gtB d (↑i : Int).toNat)] : List syS.D).length ∧
 o.length = o.length ∧
 (0 : Nat) = (0 : Nat) ∧
 o.length + (winL ((fun self => self.6) (mkT (3 : Nat) (24 : Nat) true (TK.struct [((0 : Nat), (4 : TypeId)), ((1 : Nat), (3 : TypeId)), ((2 : Nat), (5 : TypeId))]) syS (some IntKind.i8))) (0 : Nat) (1 : Nat) ([(true, IntKind.i64.wrap (f + (↑i : Int)), gtB d (↑i : Int).toNat)] : List syS.D)).length < (2 : Nat) ^ (30 : Nat) ∧
 (24 : Nat) ≤ (2 : Nat) ^ (10 : Nat) ∧
 R (hd Tryz.f151 (0 : Nat)) { env := [((1 : Nat), SV.win true syS (23 : Nat) (0 : Nat) (o.length + (winL ((fun self => self.6) (mkT (3 : Nat) (24 : Nat) true (TK.struct [((0 : Nat), (4 : TypeId)), ((1 : Nat), (3 : TypeId)), ((2 : Nat), (5 : TypeId))]) syS (some IntKind.i8))) (0 : Nat) (1 : Nat) ([(true, IntKind.i64.wrap (f + (↑i : Int)), gtB d (↑i : Int).toNat)] : List syS.D)).length)), ((2 : Nat), SV.ptr (2 : Nat) (0 : Nat)), ((5 : Nat), SV.int IntKind.i64 (↑i : Int)), ((6 : Nat), SV.int IntKind.u8 (gtB d (↑i : Int).toNat)), ((8 : Nat), SV.sl uB d), ((9 : Nat), SV.int IntKind.i64 (↑d.length : Int)), ((10 : Nat), SV.int IntKind.i64 (IntKind.i64.wrap ((↑i : Int) + (1 : Int)))), ((11 : Nat), SV.bool (decide ((↑i : Int) < (↑d.length : Int)))), ((12 : Nat), SV.int IntKind.i64 (↑i : Int)), ((13 : Nat), SV.elv uB (gtB d (↑i : Int).toNat)), ((14 : Nat), SV.int IntKind.u8 (gtB d (↑i : Int).toNat)), ((15 : Nat), SV.dead), ((16 : Nat), SV.ptr (2 : Nat) (1 : Nat)), ((17 : Nat), SV.int IntKind.i64 f), ((18 : Nat), SV.int IntKind.i64 (↑i : Int)), ((19 : Nat), SV.int IntKind.i64 (IntKind.i64.wrap (f + (↑i : Int)))), ((20 : Nat), SV.int IntKind.u8 (gtB d (↑i : Int).toNat)), ((21 : Nat), SV.agg [SV.bool true, SV.int IntKind.i64 (IntKind.i64.wrap (f + (↑i : Int))), SV.int IntKind.u8 (gtB d (↑i : Int).toNat)]), ((22 : Nat), SV.win true syS (22 : Nat) (0 : Nat) (1 : Nat)), ((23 : Nat), SV.win true syS (23 : Nat) (0 : Nat) (o.length + (winL ((fun self => self.6) (mkT (3 : Nat) (24 : Nat) true (TK.struct [((0 : Nat), (4 : TypeId)), ((1 : Nat), (3 : TypeId)), ((2 : Nat), (5 : TypeId))]) syS (some IntKind.i8))) (0 : Nat) (1 : Nat) ([(true, IntKind.i64.wrap (f + (↑i : Int)), gtB d (↑i : Int).toNat)] : List syS.D)).length)), ((24 : Nat), SV.int IntKind.i64 (IntKind.i64.wrap ((↑i : Int) + (1 : Int))))], blk := [((2 : Nat), LB.var [SV.int IntKind.i64 k, SV.int IntKind.i64 f, SV.int IntKind.i64 n, SV.int IntKind.u8 b, SV.sl uB d]), ((22 : Nat), LB.row (60 : Nat) syS ([(true, IntKind.i64.wrap (f + (↑i : Int)), gtB d (↑i : Int).toNat)] : List syS.D)), ((23 : Nat), LB.row (60 : Nat) syS (o ++ ([(true, IntKind.i64.wrap (f + (↑i : Int)), gtB d (↑i : Int).toNat)] : List syS.D)))] }) (Q [SV.win true syS (1 : Nat) (0 : Nat) o.length] [((2 : Nat), LB.var [SV.int IntKind.i64 k, SV.int IntKind.i64 f, SV.int IntKind.i64 n, SV.int IntKind.u8 b, SV.sl uB d]), ((1 : Nat), LB.row (60 : Nat) syS o)])) := by kernel_rfl
theorem vc_runA (k f n b : Int) (d : List Int) (o : List SyT) (Q : List SV → List (Nat × LB) → Prop) (R : List Item → PS → Prop) : sy tt G0 [] Tryz.f154.ntmps Tryz.f154.results.toList Q R 1000 [.code (bodyOf Tryz.f154)] (entryI [.dat opS, .row 60 syS] ((k, f, n, b, d), o, ())) =
    (R (hd Tryz.f154 (0 : Nat)) { env := [((0 : Nat), SV.agg [SV.int IntKind.i64 k, SV.int IntKind.i64 f, SV.int IntKind.i64 n, SV.int IntKind.u8 b, SV.sl uB d]), ((1 : Nat), SV.win true syS (1099511627776 : Nat) (0 : Nat) o.length), ((2 : Nat), SV.ptr (2 : Nat) (0 : Nat)), ((4 : Nat), SV.nils), ((5 : Nat), SV.ptr (2 : Nat) (2 : Nat)), ((6 : Nat), SV.int IntKind.i64 n), ((7 : Nat), SV.int IntKind.i64 (0 : Int))], blk := [((2 : Nat), LB.var [SV.int IntKind.i64 k, SV.int IntKind.i64 f, SV.int IntKind.i64 n, SV.int IntKind.u8 b, SV.sl uB d]), ((1099511627776 : Nat), LB.row (60 : Nat) syS o)] }) := by kernel_rfl
theorem vc_runA1 (k f n b : Int) (d : List Int) (o : List SyT) (i : Nat) (Q : List SV → List (Nat × LB) → Prop) (R : List Item → PS → Prop) : sy tt G0 [] Tryz.f154.ntmps Tryz.f154.results.toList Q R 1000 (hd Tryz.f154 0) ⟨[(1, .win true syS 1099511627776 0 o.length), (2, .ptr 2 0), (6, .int .i64 n), (7, .int .i64 (i : Nat))], [(2, .var [.int .i64 k, .int .i64 f, .int .i64 n, .int .u8 b, .sl uB d]), (1099511627776, .row 60 syS o)]⟩ =
    (bc (decide ((↑i : Int) < n)) ((0 : Nat) + (1 : Nat) ≤ ([(false, (0 : Int), b)] : List syS.D).length ∧
 o.length = o.length ∧
 (0 : Nat) = (0 : Nat) ∧
 o.length + (winL ((fun self => self.6) (mkT (3 : Nat) (24 : Nat) true (TK.struct [((0 : Nat), (4 : TypeId)), ((1 : Nat), (3 : TypeId)), ((2 : Nat), (5 : TypeId))]) syS (some IntKind.i8))) (0 : Nat) (1 : Nat) ([(false, (0 : Int), b)] : List syS.D)).length < (2 : Nat) ^ (30 : Nat) ∧
 (24 : Nat) ≤ (2 : Nat) ^ (10 : Nat) ∧
 R (hd Tryz.f154 (0 : Nat)) { env := [((1 : Nat), SV.win true syS (14 : Nat) (0 : Nat) (o.length + (winL ((fun self => self.6) (mkT (3 : Nat) (24 : Nat) true (TK.struct [((0 : Nat), (4 : TypeId)), ((1 : Nat), (3 : TypeId)), ((2 : Nat), (5 : TypeId))]) syS (some IntKind.i8))) (0 : Nat) (1 : Nat) ([(false, (0 : Int), b)] : List syS.D)).length)), ((2 : Nat), SV.ptr (2 : Nat) (0 : Nat)), ((6 : Nat), SV.int IntKind.i64 n), ((7 : Nat), SV.int IntKind.i64 (IntKind.i64.wrap ((↑i : Int) + (1 : Int)))), ((8 : Nat), SV.bool (decide ((↑i : Int) < n))), ((9 : Nat), SV.dead), ((10 : Nat), SV.ptr (2 : Nat) (3 : Nat)), ((11 : Nat), SV.int IntKind.u8 b), ((12 : Nat), SV.agg [SV.bool false, SV.int IntKind.i64 (0 : Int), SV.int IntKind.u8 b]), ((13 : Nat), SV.win true syS (13 : Nat) (0 : Nat) (1 : Nat)), ((14 : Nat), SV.win true syS (14 : Nat) (0 : Nat) (o.length + (winL ((fun self => self.6) (mkT (3 : Nat) (24 : Nat) true (TK.struct [((0 : Nat), (4 : TypeId)), ((1 : Nat), (3 : TypeId)), ((2 : Nat), (5 : TypeId))]) syS (some IntKind.i8))) (0 : Nat) (1 : Nat) ([(false, (0 : Int), b)] : List syS.D)).length)), ((15 : Nat), SV.int IntKind.i64 (IntKind.i64.wrap ((↑i : Int) + (1 : Int))))], blk := [((2 : Nat), LB.var [SV.int IntKind.i64 k, SV.int IntKind.i64 f, SV.int IntKind.i64 n, SV.int IntKind.u8 b, SV.sl uB d]), ((13 : Nat), LB.row (60 : Nat) syS ([(false, (0 : Int), b)] : List syS.D)), ((14 : Nat), LB.row (60 : Nat) syS (o ++ ([(false, (0 : Int), b)] : List syS.D)))] }) (Q [SV.win true syS (1099511627776 : Nat) (0 : Nat) o.length] [((2 : Nat), LB.var [SV.int IntKind.i64 k, SV.int IntKind.i64 f, SV.int IntKind.i64 n, SV.int IntKind.u8 b, SV.sl uB d]), ((1099511627776 : Nat), LB.row (60 : Nat) syS o)])) := by kernel_rfl
theorem vc_runA2 (k f n b : Int) (d : List Int) (o : List SyT) (i : Nat) (Q : List SV → List (Nat × LB) → Prop) (R : List Item → PS → Prop) : sy tt G0 [] Tryz.f154.ntmps Tryz.f154.results.toList Q R 1000 (hd Tryz.f154 0) ⟨[(1, .win true syS 1 0 o.length), (2, .ptr 2 0), (6, .int .i64 n), (7, .int .i64 (i : Nat))], [(2, .var [.int .i64 k, .int .i64 f, .int .i64 n, .int .u8 b, .sl uB d]), (1, .row 60 syS o)]⟩ =
    (bc (decide ((↑i : Int) < n)) ((0 : Nat) + (1 : Nat) ≤ ([(false, (0 : Int), b)] : List syS.D).length ∧
 o.length = o.length ∧
 (0 : Nat) = (0 : Nat) ∧
 o.length + (winL ((fun self => self.6) (mkT (3 : Nat) (24 : Nat) true (TK.struct [((0 : Nat), (4 : TypeId)), ((1 : Nat), (3 : TypeId)), ((2 : Nat), (5 : TypeId))]) syS (some IntKind.i8))) (0 : Nat) (1 : Nat) ([(false, (0 : Int), b)] : List syS.D)).length < (2 : Nat) ^ (30 : Nat) ∧
 (24 : Nat) ≤ (2 : Nat) ^ (10 : Nat) ∧
 R (hd Tryz.f154 (0 : Nat)) { env := [((1 : Nat), SV.win true syS (14 : Nat) (0 : Nat) (o.length + (winL ((fun self => self.6) (mkT (3 : Nat) (24 : Nat) true (TK.struct [((0 : Nat), (4 : TypeId)), ((1 : Nat), (3 : TypeId)), ((2 : Nat), (5 : TypeId))]) syS (some IntKind.i8))) (0 : Nat) (1 : Nat) ([(false, (0 : Int), b)] : List syS.D)).length)), ((2 : Nat), SV.ptr (2 : Nat) (0 : Nat)), ((6 : Nat), SV.int IntKind.i64 n), ((7 : Nat), SV.int IntKind.i64 (IntKind.i64.wrap ((↑i : Int) + (1 : Int)))), ((8 : Nat), SV.bool (decide ((↑i : Int) < n))), ((9 : Nat), SV.dead), ((10 : Nat), SV.ptr (2 : Nat) (3 : Nat)), ((11 : Nat), SV.int IntKind.u8 b), ((12 : Nat), SV.agg [SV.bool false, SV.int IntKind.i64 (0 : Int), SV.int IntKind.u8 b]), ((13 : Nat), SV.win true syS (13 : Nat) (0 : Nat) (1 : Nat)), ((14 : Nat), SV.win true syS (14 : Nat) (0 : Nat) (o.length + (winL ((fun self => self.6) (mkT (3 : Nat) (24 : Nat) true (TK.struct [((0 : Nat), (4 : TypeId)), ((1 : Nat), (3 : TypeId)), ((2 : Nat), (5 : TypeId))]) syS (some IntKind.i8))) (0 : Nat) (1 : Nat) ([(false, (0 : Int), b)] : List syS.D)).length)), ((15 : Nat), SV.int IntKind.i64 (IntKind.i64.wrap ((↑i : Int) + (1 : Int))))], blk := [((2 : Nat), LB.var [SV.int IntKind.i64 k, SV.int IntKind.i64 f, SV.int IntKind.i64 n, SV.int IntKind.u8 b, SV.sl uB d]), ((13 : Nat), LB.row (60 : Nat) syS ([(false, (0 : Int), b)] : List syS.D)), ((14 : Nat), LB.row (60 : Nat) syS (o ++ ([(false, (0 : Int), b)] : List syS.D)))] }) (Q [SV.win true syS (1 : Nat) (0 : Nat) o.length] [((2 : Nat), LB.var [SV.int IntKind.i64 k, SV.int IntKind.i64 f, SV.int IntKind.i64 n, SV.int IntKind.u8 b, SV.sl uB d]), ((1 : Nat), LB.row (60 : Nat) syS o)])) := by kernel_rfl
theorem vc_litA (k f n b : Int) (d : List Int) (o : List SyT) (Q : List SV → List (Nat × LB) → Prop) (R : List Item → PS → Prop) : sy tt G0 [] Tryz.f157.ntmps Tryz.f157.results.toList Q R 1000 [.code (bodyOf Tryz.f157)] (entryI [.dat opS, .row 60 syS] ((k, f, n, b, d), o, ())) =
    (R (hd Tryz.f157 (0 : Nat)) { env := [((0 : Nat), SV.agg [SV.int IntKind.i64 k, SV.int IntKind.i64 f, SV.int IntKind.i64 n, SV.int IntKind.u8 b, SV.sl uB d]), ((1 : Nat), SV.win true syS (1099511627776 : Nat) (0 : Nat) o.length), ((2 : Nat), SV.ptr (2 : Nat) (0 : Nat)), ((4 : Nat), SV.nils), ((7 : Nat), SV.ptr (2 : Nat) (4 : Nat)), ((8 : Nat), SV.sl uB d), ((9 : Nat), SV.int IntKind.i64 (↑d.length : Int)), ((10 : Nat), SV.int IntKind.i64 (0 : Int))], blk := [((2 : Nat), LB.var [SV.int IntKind.i64 k, SV.int IntKind.i64 f, SV.int IntKind.i64 n, SV.int IntKind.u8 b, SV.sl uB d]), ((1099511627776 : Nat), LB.row (60 : Nat) syS o)] }) := by kernel_rfl
theorem vc_litA1 (k f n b : Int) (d : List Int) (o : List SyT) (i : Nat) (Q : List SV → List (Nat × LB) → Prop) (R : List Item → PS → Prop) : sy tt G0 [] Tryz.f157.ntmps Tryz.f157.results.toList Q R 1000 (hd Tryz.f157 0) ⟨[(1, .win true syS 1099511627776 0 o.length), (2, .ptr 2 0), (8, .sl uB d), (9, .int .i64 d.length), (10, .int .i64 (i : Nat))], [(2, .var [.int .i64 k, .int .i64 f, .int .i64 n, .int .u8 b, .sl uB d]), (1099511627776, .row 60 syS o)]⟩ =
    (bc (decide ((↑i : Int) < (↑d.length : Int))) ((0 : Int) ≤ (↑i : Int) ∧
 (↑i : Int) < (↑d.length : Int) ∧
 (0 : Nat) + (1 : Nat) ≤ ([(false, (0 : Int), gtB d (↑i : Int).toNat)] : List syS.D).length ∧
 o.length = o.length ∧
 (0 : Nat) = (0 : Nat) ∧
 o.length + (winL ((fun self => self.6) (mkT (3 : Nat) (24 : Nat) true (TK.struct [((0 : Nat), (4 : TypeId)), ((1 : Nat), (3 : TypeId)), ((2 : Nat), (5 : TypeId))]) syS (some IntKind.i8))) (0 : Nat) (1 : Nat) ([(false, (0 : Int), gtB d (↑i : Int).toNat)] : List syS.D)).length < (2 : Nat) ^ (30 : Nat) ∧
 (24 : Nat) ≤ (2 : Nat) ^ (10 : Nat) ∧
 R (hd Tryz.f157 (0 : Nat)) { env := [((1 : Nat), SV.win true syS (18 : Nat) (0 : Nat) (o.length + (winL ((fun self => self.6) (mkT (3 : Nat) (24 : Nat) true (TK.struct [((0 : Nat), (4 : TypeId)), ((1 : Nat), (3 : TypeId)), ((2 : Nat), (5 : TypeId))]) syS (some IntKind.i8))) (0 : Nat) (1 : Nat) ([(false, (0 : Int), gtB d (↑i : Int).toNat)] : List syS.D)).length)), ((2 : Nat), SV.ptr (2 : Nat) (0 : Nat)), ((6 : Nat), SV.int IntKind.u8 (gtB d (↑i : Int).toNat)), ((8 : Nat), SV.sl uB d), ((9 : Nat), SV.int IntKind.i64 (↑d.length : Int)), ((10 : Nat), SV.int IntKind.i64 (IntKind.i64.wrap ((↑i : Int) + (1 : Int)))), ((11 : Nat), SV.bool (decide ((↑i : Int) < (↑d.length : Int)))), ((12 : Nat), SV.elv uB (gtB d (↑i : Int).toNat)), ((13 : Nat), SV.int IntKind.u8 (gtB d (↑i : Int).toNat)), ((14 : Nat), SV.dead), ((15 : Nat), SV.int IntKind.u8 (gtB d (↑i : Int).toNat)), ((16 : Nat), SV.agg [SV.bool false, SV.int IntKind.i64 (0 : Int), SV.int IntKind.u8 (gtB d (↑i : Int).toNat)]), ((17 : Nat), SV.win true syS (17 : Nat) (0 : Nat) (1 : Nat)), ((18 : Nat), SV.win true syS (18 : Nat) (0 : Nat) (o.length + (winL ((fun self => self.6) (mkT (3 : Nat) (24 : Nat) true (TK.struct [((0 : Nat), (4 : TypeId)), ((1 : Nat), (3 : TypeId)), ((2 : Nat), (5 : TypeId))]) syS (some IntKind.i8))) (0 : Nat) (1 : Nat) ([(false, (0 : Int), gtB d (↑i : Int).toNat)] : List syS.D)).length)), ((19 : Nat), SV.int IntKind.i64 (IntKind.i64.wrap ((↑i : Int) + (1 : Int))))], blk := [((2 : Nat), LB.var [SV.int IntKind.i64 k, SV.int IntKind.i64 f, SV.int IntKind.i64 n, SV.int IntKind.u8 b, SV.sl uB d]), ((17 : Nat), LB.row (60 : Nat) syS ([(false, (0 : Int), gtB d (↑i : Int).toNat)] : List syS.D)), ((18 : Nat), LB.row (60 : Nat) syS (o ++ ([(false, (0 : Int), gtB d (↑i : Int).toNat)] : List syS.D)))] }) (Q [SV.win true syS (1099511627776 : Nat) (0 : Nat) o.length] [((2 : Nat), LB.var [SV.int IntKind.i64 k, SV.int IntKind.i64 f, SV.int IntKind.i64 n, SV.int IntKind.u8 b, SV.sl uB d]), ((1099511627776 : Nat), LB.row (60 : Nat) syS o)])) := by kernel_rfl
theorem vc_litA2 (k f n b : Int) (d : List Int) (o : List SyT) (i : Nat) (Q : List SV → List (Nat × LB) → Prop) (R : List Item → PS → Prop) : sy tt G0 [] Tryz.f157.ntmps Tryz.f157.results.toList Q R 1000 (hd Tryz.f157 0) ⟨[(1, .win true syS 1 0 o.length), (2, .ptr 2 0), (8, .sl uB d), (9, .int .i64 d.length), (10, .int .i64 (i : Nat))], [(2, .var [.int .i64 k, .int .i64 f, .int .i64 n, .int .u8 b, .sl uB d]), (1, .row 60 syS o)]⟩ =
    (bc (decide ((↑i : Int) < (↑d.length : Int))) ((0 : Int) ≤ (↑i : Int) ∧
 (↑i : Int) < (↑d.length : Int) ∧
 (0 : Nat) + (1 : Nat) ≤ ([(false, (0 : Int), gtB d (↑i : Int).toNat)] : List syS.D).length ∧
 o.length = o.length ∧
 (0 : Nat) = (0 : Nat) ∧
 o.length + (winL ((fun self => self.6) (mkT (3 : Nat) (24 : Nat) true (TK.struct [((0 : Nat), (4 : TypeId)), ((1 : Nat), (3 : TypeId)), ((2 : Nat), (5 : TypeId))]) syS (some IntKind.i8))) (0 : Nat) (1 : Nat) ([(false, (0 : Int), gtB d (↑i : Int).toNat)] : List syS.D)).length < (2 : Nat) ^ (30 : Nat) ∧
 (24 : Nat) ≤ (2 : Nat) ^ (10 : Nat) ∧
 R (hd Tryz.f157 (0 : Nat)) { env := [((1 : Nat), SV.win true syS (18 : Nat) (0 : Nat) (o.length + (winL ((fun self => self.6) (mkT (3 : Nat) (24 : Nat) true (TK.struct [((0 : Nat), (4 : TypeId)), ((1 : Nat), (3 : TypeId)), ((2 : Nat), (5 : TypeId))]) syS (some IntKind.i8))) (0 : Nat) (1 : Nat) ([(false, (0 : Int), gtB d (↑i : Int).toNat)] : List syS.D)).length)), ((2 : Nat), SV.ptr (2 : Nat) (0 : Nat)), ((6 : Nat), SV.int IntKind.u8 (gtB d (↑i : Int).toNat)), ((8 : Nat), SV.sl uB d), ((9 : Nat), SV.int IntKind.i64 (↑d.length : Int)), ((10 : Nat), SV.int IntKind.i64 (IntKind.i64.wrap ((↑i : Int) + (1 : Int)))), ((11 : Nat), SV.bool (decide ((↑i : Int) < (↑d.length : Int)))), ((12 : Nat), SV.elv uB (gtB d (↑i : Int).toNat)), ((13 : Nat), SV.int IntKind.u8 (gtB d (↑i : Int).toNat)), ((14 : Nat), SV.dead), ((15 : Nat), SV.int IntKind.u8 (gtB d (↑i : Int).toNat)), ((16 : Nat), SV.agg [SV.bool false, SV.int IntKind.i64 (0 : Int), SV.int IntKind.u8 (gtB d (↑i : Int).toNat)]), ((17 : Nat), SV.win true syS (17 : Nat) (0 : Nat) (1 : Nat)), ((18 : Nat), SV.win true syS (18 : Nat) (0 : Nat) (o.length + (winL ((fun self => self.6) (mkT (3 : Nat) (24 : Nat) true (TK.struct [((0 : Nat), (4 : TypeId)), ((1 : Nat), (3 : TypeId)), ((2 : Nat), (5 : TypeId))]) syS (some IntKind.i8))) (0 : Nat) (1 : Nat) ([(false, (0 : Int), gtB d (↑i : Int).toNat)] : List syS.D)).length)), ((19 : Nat), SV.int IntKind.i64 (IntKind.i64.wrap ((↑i : Int) + (1 : Int))))], blk := [((2 : Nat), LB.var [SV.int IntKind.i64 k, SV.int IntKind.i64 f, SV.int IntKind.i64 n, SV.int IntKind.u8 b, SV.sl uB d]), ((17 : Nat), LB.row (60 : Nat) syS ([(false, (0 : Int), gtB d (↑i : Int).toNat)] : List syS.D)), ((18 : Nat), LB.row (60 : Nat) syS (o ++ ([(false, (0 : Int), gtB d (↑i : Int).toNat)] : List syS.D)))] }) (Q [SV.win true syS (1 : Nat) (0 : Nat) o.length] [((2 : Nat), LB.var [SV.int IntKind.i64 k, SV.int IntKind.i64 f, SV.int IntKind.i64 n, SV.int IntKind.u8 b, SV.sl uB d]), ((1 : Nat), LB.row (60 : Nat) syS o)])) := by kernel_rfl
end Go.Proofs.YtikikmhlicoheaaGreatDoor
namespace Go.Proofs.YtikikmhlicoheaaGreatDoor
open Go.Px Go.Ax
set_option maxRecDepth 100000
attribute [local irreducible] Go.Px.sy Go.Px.syE
theorem QI.row {ct : CtrI} {x : DI ct.args} {rs : List SV} {blk : List (Nat × LB)} {e : Sh} {et : TypeId} {a k : Nat} {xs : List e.D} (h : ct.out x = [.win true e 0 0 xs.length]) (hr : ct.blk x = [(0, .row et e xs)]) (hs : rs = [.win true e a 0 k]) (hk : k = xs.length) (hb : lk blk a = some (.row et e xs)) (ha : a < BIG) : QI ct x rs blk := by
  subst hs; subst hk
  refine ⟨[(0, a)], ?_, ?_, by simp, fun p hp => by simp at hp; subst hp; exact ha⟩
  · rw [h]
    exact ⟨_, _, rfl, .inl ⟨true, a, rfl, rfl, fun h => h⟩, rfl⟩
  · rw [hr]
    exact ⟨.inl ⟨a, _, rfl, hb, rfl⟩, trivial⟩
def gen (el : Nat → SyT) : Nat → Nat → List SyT
  | 0, _ => []
  | k + 1, i => el i :: gen el k (i + 1)
theorem gen_len (el : Nat → SyT) : ∀ k i, (gen el k i).length = k
  | 0, _ => rfl
  | k + 1, i => by rw [gen, List.length_cons, gen_len el k]
def elO (t : Nat) (x : OpT) (i : Nat) : SyT := match t with
  | 1 => (true, IntKind.i64.wrap (x.2.1 + i), 0)
  | 2 => (true, IntKind.i64.wrap (x.2.1 + i), gtB x.2.2.2.2 i)
  | 3 => (false, 0, x.2.2.2.1)
  | _ => (false, 0, gtB x.2.2.2.2 i)
def cntO (t : Nat) (x : OpT) : Nat := match t with
  | 1 => x.2.2.1.toNat
  | 3 => x.2.2.1.toNat
  | _ => x.2.2.2.2.length
def symsO (t : Nat) (x : OpT) : List SyT := gen (elO t x) (cntO t x) 0
def preA (t : Nat) (x : OpT) (o : List SyT) : Prop := 1 ≤ cntO t x ∧ o.length + cntO t x < 268435456 ∧ x.2.2.1 < 268435456
abbrev KA : List AK := [.dat opS, .row 60 syS]
def ctA (t : Nat) : CtrI := ⟨KA, fun x => preA t x.1 x.2.1, fun x => [.win true syS 0 0 (List.length (x.2.1 ++ symsO t x.1))], fun x => [(0, .row 60 syS (x.2.1 ++ symsO t x.1))]⟩
abbrev GQ (t : Nat) (x : OpT) (o : List SyT) : List SV → List (Nat × LB) → Prop := QI (ctA t) (x, o, ())
theorem copyA_loop (k f n b : Int) (d : List Int) (o0 : List SyT) (hb : n < 268435456 ∧ True) : ∀ (c i : Nat) (o : List SyT), cntO 1 (k, f, n, b, d) - i = c → i ≤ cntO 1 (k, f, n, b, d) → o.length + c < 268435456 → o ++ gen (elO 1 (k, f, n, b, d)) c i = o0 ++ symsO 1 (k, f, n, b, d) →
    GD 147 Tryz.f147 (GQ 1 (k, f, n, b, d) o0) (hd Tryz.f147 0) ⟨[(1, .win true syS 1 0 o.length), (2, .ptr 2 0), (7, .int .i64 n), (8, .int .i64 (i : Nat))], [(2, .var [.int .i64 k, .int .i64 f, .int .i64 n, .int .u8 b, .sl uB d]), (1, .row 60 syS o)]⟩ := by
  intro c
  induction c with
  | zero =>
    intro i o hc hi hl he
    have hn : cntO 1 (k, f, n, b, d) = n.toNat := rfl
    refine sy_sound cx0 _ _ _ ((vc_copyA2 k f n b d o i _ _).mpr ?_)
    rw [decide_eq_false (by omega), bc_f]
    have he : o = o0 ++ symsO 1 (k, f, n, b, d) := by simpa [gen] using he
    exact QI.row (e := syS) (et := 60) (a := 1) (xs := o0 ++ symsO 1 (k, f, n, b, d)) rfl rfl (by rw [he]) rfl (by rw [he]; rfl) (by decide)
  | succ c ih =>
    intro i o hc hi hl he
    have hn : cntO 1 (k, f, n, b, d) = n.toNat := rfl
    refine sy_sound cx0 _ _ _ ((vc_copyA2 k f n b d o i _ _).mpr ?_)
    rw [decide_eq_true (show (i : Int) < n by omega), bc_t, IntWalk.i64_in ((i : Int) + 1) (by omega)]
    refine ⟨Nat.le_refl 1, rfl, rfl, ?_, by decide, ?_⟩
    · show o.length + 1 < 2 ^ 30
      omega
    · refine Good.onlyR (ih (i + 1) (o ++ [elO 1 (k, f, n, b, d) i]) (by omega) (by omega) (by rw [List.length_append, List.length_singleton]; omega) (by rw [List.append_assoc]; exact he)) [(1, 18)] rfl ⟨by rw [List.length_append]; rfl, rfl, rfl, rfl, trivial⟩ ⟨rfl, rfl, trivial⟩
theorem copyA_held : HeldI Tryz.prog G0 147 (ctA 1) := by
  refine HeldI.run cx0 (fn := Tryz.f147) rfl rfl ⟨by decide, by decide⟩ ?_
  rintro ⟨⟨k, f, n, b, d⟩, o, ⟨⟩⟩ hp
  obtain ⟨h1, h2, h3⟩ : preA 1 (k, f, n, b, d) o := hp
  have hn : cntO 1 (k, f, n, b, d) = n.toNat := rfl
  replace h3 : n < 268435456 := h3
  refine (vc_copyA k f n b d o _ _).mpr ?_
  have hb : n < 268435456 ∧ True := ⟨h3, trivial⟩
  obtain ⟨c, hc⟩ : ∃ c, cntO 1 (k, f, n, b, d) = c + 1 := ⟨cntO 1 (k, f, n, b, d) - 1, by omega⟩
  have e : GD 147 Tryz.f147 (GQ 1 (k, f, n, b, d) o) (hd Tryz.f147 0) ⟨[(1, .win true syS 1099511627776 0 o.length), (2, .ptr 2 0), (7, .int .i64 n), (8, .int .i64 ((0 : Nat) : Int))], [(2, .var [.int .i64 k, .int .i64 f, .int .i64 n, .int .u8 b, .sl uB d]), (1099511627776, .row 60 syS o)]⟩ := by
    refine sy_sound cx0 _ _ _ ((vc_copyA1 k f n b d o 0 _ _).mpr ?_)
    rw [decide_eq_true (show ((0 : Nat) : Int) < n by omega), bc_t, IntWalk.i64_in (((0 : Nat) : Int) + 1) (by omega)]
    refine ⟨Nat.le_refl 1, rfl, rfl, ?_, by decide, ?_⟩
    · show o.length + 1 < 2 ^ 30
      omega
    · refine Good.onlyR (copyA_loop k f n b d o ⟨h3, trivial⟩ c 1 (o ++ [elO 1 (k, f, n, b, d) 0]) (by omega) (by omega) (by rw [List.length_append, List.length_singleton]; omega) (by rw [List.append_assoc]; unfold symsO; rw [hc]; rfl)) [(1, 18)] rfl ⟨by rw [List.length_append]; rfl, rfl, rfl, rfl, trivial⟩ ⟨rfl, rfl, trivial⟩
  exact e.only ⟨rfl, rfl, rfl, rfl, trivial⟩ ⟨rfl, rfl, trivial⟩
theorem diffA_loop (k f n b : Int) (d : List Int) (o0 : List SyT) (hb : n < 268435456 ∧ d.length < 268435456) : ∀ (c i : Nat) (o : List SyT), cntO 2 (k, f, n, b, d) - i = c → i ≤ cntO 2 (k, f, n, b, d) → o.length + c < 268435456 → o ++ gen (elO 2 (k, f, n, b, d)) c i = o0 ++ symsO 2 (k, f, n, b, d) →
    GD 151 Tryz.f151 (GQ 2 (k, f, n, b, d) o0) (hd Tryz.f151 0) ⟨[(1, .win true syS 1 0 o.length), (2, .ptr 2 0), (8, .sl uB d), (9, .int .i64 d.length), (10, .int .i64 (i : Nat))], [(2, .var [.int .i64 k, .int .i64 f, .int .i64 n, .int .u8 b, .sl uB d]), (1, .row 60 syS o)]⟩ := by
  intro c
  induction c with
  | zero =>
    intro i o hc hi hl he
    have hn : cntO 2 (k, f, n, b, d) = d.length := rfl
    refine sy_sound cx0 _ _ _ ((vc_diffA2 k f n b d o i _ _).mpr ?_)
    rw [decide_eq_false (by omega), bc_f]
    have he : o = o0 ++ symsO 2 (k, f, n, b, d) := by simpa [gen] using he
    exact QI.row (e := syS) (et := 60) (a := 1) (xs := o0 ++ symsO 2 (k, f, n, b, d)) rfl rfl (by rw [he]) rfl (by rw [he]; rfl) (by decide)
  | succ c ih =>
    intro i o hc hi hl he
    have hn : cntO 2 (k, f, n, b, d) = d.length := rfl
    refine sy_sound cx0 _ _ _ ((vc_diffA2 k f n b d o i _ _).mpr ?_)
    rw [decide_eq_true (show (i : Int) < (d.length : Int) by omega), bc_t, IntWalk.i64_in ((i : Int) + 1) (by omega), Int.toNat_natCast]
    refine ⟨by omega, by omega, Nat.le_refl 1, rfl, rfl, ?_, by decide, ?_⟩
    · show o.length + 1 < 2 ^ 30
      omega
    · refine Good.onlyR (ih (i + 1) (o ++ [elO 2 (k, f, n, b, d) i]) (by omega) (by omega) (by rw [List.length_append, List.length_singleton]; omega) (by rw [List.append_assoc]; exact he)) [(1, 23)] rfl ⟨by rw [List.length_append]; rfl, rfl, rfl, rfl, rfl, trivial⟩ ⟨rfl, rfl, trivial⟩
theorem diffA_held : HeldI Tryz.prog G0 151 (ctA 2) := by
  refine HeldI.run cx0 (fn := Tryz.f151) rfl rfl ⟨by decide, by decide⟩ ?_
  rintro ⟨⟨k, f, n, b, d⟩, o, ⟨⟩⟩ hp
  obtain ⟨h1, h2, h3⟩ : preA 2 (k, f, n, b, d) o := hp
  have hn : cntO 2 (k, f, n, b, d) = d.length := rfl
  replace h3 : n < 268435456 := h3
  refine (vc_diffA k f n b d o _ _).mpr ?_
  have hb : n < 268435456 ∧ d.length < 268435456 := ⟨h3, by omega⟩
  obtain ⟨c, hc⟩ : ∃ c, cntO 2 (k, f, n, b, d) = c + 1 := ⟨cntO 2 (k, f, n, b, d) - 1, by omega⟩
  have e : GD 151 Tryz.f151 (GQ 2 (k, f, n, b, d) o) (hd Tryz.f151 0) ⟨[(1, .win true syS 1099511627776 0 o.length), (2, .ptr 2 0), (8, .sl uB d), (9, .int .i64 d.length), (10, .int .i64 ((0 : Nat) : Int))], [(2, .var [.int .i64 k, .int .i64 f, .int .i64 n, .int .u8 b, .sl uB d]), (1099511627776, .row 60 syS o)]⟩ := by
    refine sy_sound cx0 _ _ _ ((vc_diffA1 k f n b d o 0 _ _).mpr ?_)
    rw [decide_eq_true (show ((0 : Nat) : Int) < (d.length : Int) by omega), bc_t, IntWalk.i64_in (((0 : Nat) : Int) + 1) (by omega), Int.toNat_natCast]
    refine ⟨by omega, by omega, Nat.le_refl 1, rfl, rfl, ?_, by decide, ?_⟩
    · show o.length + 1 < 2 ^ 30
      omega
    · refine Good.onlyR (diffA_loop k f n b d o hb c 1 (o ++ [elO 2 (k, f, n, b, d) 0]) (by omega) (by omega) (by rw [List.length_append, List.length_singleton]; omega) (by rw [List.append_assoc]; unfold symsO; rw [hc]; rfl)) [(1, 23)] rfl ⟨by rw [List.length_append]; rfl, rfl, rfl, rfl, rfl, trivial⟩ ⟨rfl, rfl, trivial⟩
  exact e.only ⟨rfl, rfl, rfl, rfl, rfl, trivial⟩ ⟨rfl, rfl, trivial⟩
theorem runA_loop (k f n b : Int) (d : List Int) (o0 : List SyT) (hb : n < 268435456 ∧ True) : ∀ (c i : Nat) (o : List SyT), cntO 3 (k, f, n, b, d) - i = c → i ≤ cntO 3 (k, f, n, b, d) → o.length + c < 268435456 → o ++ gen (elO 3 (k, f, n, b, d)) c i = o0 ++ symsO 3 (k, f, n, b, d) →
    GD 154 Tryz.f154 (GQ 3 (k, f, n, b, d) o0) (hd Tryz.f154 0) ⟨[(1, .win true syS 1 0 o.length), (2, .ptr 2 0), (6, .int .i64 n), (7, .int .i64 (i : Nat))], [(2, .var [.int .i64 k, .int .i64 f, .int .i64 n, .int .u8 b, .sl uB d]), (1, .row 60 syS o)]⟩ := by
  intro c
  induction c with
  | zero =>
    intro i o hc hi hl he
    have hn : cntO 3 (k, f, n, b, d) = n.toNat := rfl
    refine sy_sound cx0 _ _ _ ((vc_runA2 k f n b d o i _ _).mpr ?_)
    rw [decide_eq_false (by omega), bc_f]
    have he : o = o0 ++ symsO 3 (k, f, n, b, d) := by simpa [gen] using he
    exact QI.row (e := syS) (et := 60) (a := 1) (xs := o0 ++ symsO 3 (k, f, n, b, d)) rfl rfl (by rw [he]) rfl (by rw [he]; rfl) (by decide)
  | succ c ih =>
    intro i o hc hi hl he
    have hn : cntO 3 (k, f, n, b, d) = n.toNat := rfl
    refine sy_sound cx0 _ _ _ ((vc_runA2 k f n b d o i _ _).mpr ?_)
    rw [decide_eq_true (show (i : Int) < n by omega), bc_t, IntWalk.i64_in ((i : Int) + 1) (by omega)]
    refine ⟨Nat.le_refl 1, rfl, rfl, ?_, by decide, ?_⟩
    · show o.length + 1 < 2 ^ 30
      omega
    · refine Good.onlyR (ih (i + 1) (o ++ [elO 3 (k, f, n, b, d) i]) (by omega) (by omega) (by rw [List.length_append, List.length_singleton]; omega) (by rw [List.append_assoc]; exact he)) [(1, 14)] rfl ⟨by rw [List.length_append]; rfl, rfl, rfl, rfl, trivial⟩ ⟨rfl, rfl, trivial⟩
theorem runA_held : HeldI Tryz.prog G0 154 (ctA 3) := by
  refine HeldI.run cx0 (fn := Tryz.f154) rfl rfl ⟨by decide, by decide⟩ ?_
  rintro ⟨⟨k, f, n, b, d⟩, o, ⟨⟩⟩ hp
  obtain ⟨h1, h2, h3⟩ : preA 3 (k, f, n, b, d) o := hp
  have hn : cntO 3 (k, f, n, b, d) = n.toNat := rfl
  replace h3 : n < 268435456 := h3
  refine (vc_runA k f n b d o _ _).mpr ?_
  have hb : n < 268435456 ∧ True := ⟨h3, trivial⟩
  obtain ⟨c, hc⟩ : ∃ c, cntO 3 (k, f, n, b, d) = c + 1 := ⟨cntO 3 (k, f, n, b, d) - 1, by omega⟩
  have e : GD 154 Tryz.f154 (GQ 3 (k, f, n, b, d) o) (hd Tryz.f154 0) ⟨[(1, .win true syS 1099511627776 0 o.length), (2, .ptr 2 0), (6, .int .i64 n), (7, .int .i64 ((0 : Nat) : Int))], [(2, .var [.int .i64 k, .int .i64 f, .int .i64 n, .int .u8 b, .sl uB d]), (1099511627776, .row 60 syS o)]⟩ := by
    refine sy_sound cx0 _ _ _ ((vc_runA1 k f n b d o 0 _ _).mpr ?_)
    rw [decide_eq_true (show ((0 : Nat) : Int) < n by omega), bc_t, IntWalk.i64_in (((0 : Nat) : Int) + 1) (by omega)]
    refine ⟨Nat.le_refl 1, rfl, rfl, ?_, by decide, ?_⟩
    · show o.length + 1 < 2 ^ 30
      omega
    · refine Good.onlyR (runA_loop k f n b d o ⟨h3, trivial⟩ c 1 (o ++ [elO 3 (k, f, n, b, d) 0]) (by omega) (by omega) (by rw [List.length_append, List.length_singleton]; omega) (by rw [List.append_assoc]; unfold symsO; rw [hc]; rfl)) [(1, 14)] rfl ⟨by rw [List.length_append]; rfl, rfl, rfl, rfl, trivial⟩ ⟨rfl, rfl, trivial⟩
  exact e.only ⟨rfl, rfl, rfl, rfl, trivial⟩ ⟨rfl, rfl, trivial⟩
theorem litA_loop (k f n b : Int) (d : List Int) (o0 : List SyT) (hb : n < 268435456 ∧ d.length < 268435456) : ∀ (c i : Nat) (o : List SyT), cntO 4 (k, f, n, b, d) - i = c → i ≤ cntO 4 (k, f, n, b, d) → o.length + c < 268435456 → o ++ gen (elO 4 (k, f, n, b, d)) c i = o0 ++ symsO 4 (k, f, n, b, d) →
    GD 157 Tryz.f157 (GQ 4 (k, f, n, b, d) o0) (hd Tryz.f157 0) ⟨[(1, .win true syS 1 0 o.length), (2, .ptr 2 0), (8, .sl uB d), (9, .int .i64 d.length), (10, .int .i64 (i : Nat))], [(2, .var [.int .i64 k, .int .i64 f, .int .i64 n, .int .u8 b, .sl uB d]), (1, .row 60 syS o)]⟩ := by
  intro c
  induction c with
  | zero =>
    intro i o hc hi hl he
    have hn : cntO 4 (k, f, n, b, d) = d.length := rfl
    refine sy_sound cx0 _ _ _ ((vc_litA2 k f n b d o i _ _).mpr ?_)
    rw [decide_eq_false (by omega), bc_f]
    have he : o = o0 ++ symsO 4 (k, f, n, b, d) := by simpa [gen] using he
    exact QI.row (e := syS) (et := 60) (a := 1) (xs := o0 ++ symsO 4 (k, f, n, b, d)) rfl rfl (by rw [he]) rfl (by rw [he]; rfl) (by decide)
  | succ c ih =>
    intro i o hc hi hl he
    have hn : cntO 4 (k, f, n, b, d) = d.length := rfl
    refine sy_sound cx0 _ _ _ ((vc_litA2 k f n b d o i _ _).mpr ?_)
    rw [decide_eq_true (show (i : Int) < (d.length : Int) by omega), bc_t, IntWalk.i64_in ((i : Int) + 1) (by omega), Int.toNat_natCast]
    refine ⟨by omega, by omega, Nat.le_refl 1, rfl, rfl, ?_, by decide, ?_⟩
    · show o.length + 1 < 2 ^ 30
      omega
    · refine Good.onlyR (ih (i + 1) (o ++ [elO 4 (k, f, n, b, d) i]) (by omega) (by omega) (by rw [List.length_append, List.length_singleton]; omega) (by rw [List.append_assoc]; exact he)) [(1, 18)] rfl ⟨by rw [List.length_append]; rfl, rfl, rfl, rfl, rfl, trivial⟩ ⟨rfl, rfl, trivial⟩
theorem litA_held : HeldI Tryz.prog G0 157 (ctA 4) := by
  refine HeldI.run cx0 (fn := Tryz.f157) rfl rfl ⟨by decide, by decide⟩ ?_
  rintro ⟨⟨k, f, n, b, d⟩, o, ⟨⟩⟩ hp
  obtain ⟨h1, h2, h3⟩ : preA 4 (k, f, n, b, d) o := hp
  have hn : cntO 4 (k, f, n, b, d) = d.length := rfl
  replace h3 : n < 268435456 := h3
  refine (vc_litA k f n b d o _ _).mpr ?_
  have hb : n < 268435456 ∧ d.length < 268435456 := ⟨h3, by omega⟩
  obtain ⟨c, hc⟩ : ∃ c, cntO 4 (k, f, n, b, d) = c + 1 := ⟨cntO 4 (k, f, n, b, d) - 1, by omega⟩
  have e : GD 157 Tryz.f157 (GQ 4 (k, f, n, b, d) o) (hd Tryz.f157 0) ⟨[(1, .win true syS 1099511627776 0 o.length), (2, .ptr 2 0), (8, .sl uB d), (9, .int .i64 d.length), (10, .int .i64 ((0 : Nat) : Int))], [(2, .var [.int .i64 k, .int .i64 f, .int .i64 n, .int .u8 b, .sl uB d]), (1099511627776, .row 60 syS o)]⟩ := by
    refine sy_sound cx0 _ _ _ ((vc_litA1 k f n b d o 0 _ _).mpr ?_)
    rw [decide_eq_true (show ((0 : Nat) : Int) < (d.length : Int) by omega), bc_t, IntWalk.i64_in (((0 : Nat) : Int) + 1) (by omega), Int.toNat_natCast]
    refine ⟨by omega, by omega, Nat.le_refl 1, rfl, rfl, ?_, by decide, ?_⟩
    · show o.length + 1 < 2 ^ 30
      omega
    · refine Good.onlyR (litA_loop k f n b d o hb c 1 (o ++ [elO 4 (k, f, n, b, d) 0]) (by omega) (by omega) (by rw [List.length_append, List.length_singleton]; omega) (by rw [List.append_assoc]; unfold symsO; rw [hc]; rfl)) [(1, 18)] rfl ⟨by rw [List.length_append]; rfl, rfl, rfl, rfl, rfl, trivial⟩ ⟨rfl, rfl, trivial⟩
  exact e.only ⟨rfl, rfl, rfl, rfl, rfl, trivial⟩ ⟨rfl, rfl, trivial⟩
end Go.Proofs.YtikikmhlicoheaaGreatDoor
namespace Go.Proofs.YtikikmhlicoheaaGreatDoor
open Go.Px Go.Ax
set_option maxRecDepth 100000
def CA : CV := (157, .inr (ctA 4)) :: (154, .inr (ctA 3)) :: (151, .inr (ctA 2)) :: (147, .inr (ctA 1)) :: (22, .inl ctChk) :: C1
theorem cxA : CxOK Tryz.prog tt G0 CA := ((((cx1.cons chk_held (fn := Tryz.f22) rfl rfl rfl).consI copyA_held (fn := Tryz.f147) rfl rfl rfl).consI diffA_held (fn := Tryz.f151) rfl rfl rfl).consI runA_held (fn := Tryz.f154) rfl rfl rfl).consI litA_held (fn := Tryz.f157) rfl rfl rfl
def E1 : CV := (44, .inl (ctO 1 124)) :: CA
def E2 : CV := (44, .inl (ctO 2 125)) :: CA
def E3 : CV := (44, .inl (ctO 3 126)) :: CA
def E4 : CV := (44, .inl (ctO 4 127)) :: CA
theorem ex1 : CxOK Tryz.prog tt G0 E1 := cxA.cons o1_held (fn := Tryz.f44) rfl rfl rfl
theorem ex2 : CxOK Tryz.prog tt G0 E2 := cxA.cons o2_held (fn := Tryz.f44) rfl rfl rfl
theorem ex3 : CxOK Tryz.prog tt G0 E3 := cxA.cons o3_held (fn := Tryz.f44) rfl rfl rfl
theorem ex4 : CxOK Tryz.prog tt G0 E4 := cxA.cons o4_held (fn := Tryz.f44) rfl rfl rfl
set_option maxRecDepth 100000
theorem vc_syms (li : Bool) (m o : Int) (l : List OpT) (Q : List SV → List (Nat × LB) → Prop) (R : List Item → PS → Prop) : sy tt G0 CA Tryz.f19.ntmps Tryz.f19.results.toList Q R 1000 [.code (bodyOf Tryz.f19)] (entry [paS] ((li, m, o, l), ())) =
    (ctChk.pre ((li, m, o, l), ()) ∧
 bc (decide ((chkV (li, m, o, l)).snd ≠ (0 : Int))) (Q [SV.nils, SV.int IntKind.i64 (chkV (li, m, o, l)).snd] [((1 : Nat), LB.var [SV.bool li, SV.int IntKind.i64 m, SV.int IntKind.i64 o, SV.sl opS l])]) ((0 : Int) ≤ (0 : Int) ∧
 (0 : Int) ≤ o ∧
 o < (2 : Int) ^ (24 : Nat) ∧
 (↑(24 : Nat) : Int) * o ≤ (2 : Int) ^ (48 : Nat) ∧
 R (hd Tryz.f19 (0 : Nat)) { env := [((0 : Nat), SV.agg [SV.bool li, SV.int IntKind.i64 m, SV.int IntKind.i64 o, SV.sl opS l]), ((1 : Nat), SV.ptr (1 : Nat) (0 : Nat)), ((2 : Nat), SV.nils), ((3 : Nat), SV.int IntKind.i64 (0 : Int)), ((4 : Nat), SV.int IntKind.i64 (chkV (li, m, o, l)).fst), ((5 : Nat), SV.int IntKind.i64 (chkV (li, m, o, l)).snd), ((6 : Nat), SV.win true syS (19 : Nat) (0 : Nat) (0 : Nat)), ((9 : Nat), SV.tup [SV.int IntKind.i64 (chkV (li, m, o, l)).fst, SV.int IntKind.i64 (chkV (li, m, o, l)).snd]), ((10 : Nat), SV.agg [SV.bool li, SV.int IntKind.i64 m, SV.int IntKind.i64 o, SV.sl opS l]), ((11 : Nat), SV.tup [SV.int IntKind.i64 (chkV (li, m, o, l)).fst, SV.int IntKind.i64 (chkV (li, m, o, l)).snd]), ((12 : Nat), SV.int IntKind.i64 (chkV (li, m, o, l)).fst), ((13 : Nat), SV.int IntKind.i64 (chkV (li, m, o, l)).snd), ((14 : Nat), SV.int IntKind.i64 (chkV (li, m, o, l)).snd), ((15 : Nat), SV.bool (decide ((chkV (li, m, o, l)).snd ≠ (0 : Int)))), ((17 : Nat), SV.ptr (1 : Nat) (2 : Nat)), ((18 : Nat), SV.int IntKind.i64 o), ((19 : Nat), SV.win true syS (19 : Nat) (0 : Nat) (0 : Nat)), ((20 : Nat), SV.ptr (1 : Nat) (3 : Nat)), ((21 : Nat), SV.sl opS l), ((22 : Nat), SV.int IntKind.i64 (↑l.length : Int)), ((23 : Nat), SV.int IntKind.i64 (0 : Int))], blk := [((1 : Nat), LB.var [SV.bool li, SV.int IntKind.i64 m, SV.int IntKind.i64 o, SV.sl opS l]), ((19 : Nat), LB.row (60 : Nat) syS (List.replicate (0) syS.dflt))] })) := by kernel_rfl
theorem vc_symsL1 (li : Bool) (m o : Int) (l : List OpT) (s : List SyT) (i : Nat) (Q : List SV → List (Nat × LB) → Prop) (R : List Item → PS → Prop) : sy tt G0 E1 Tryz.f19.ntmps Tryz.f19.results.toList Q R 1000 (hd Tryz.f19 0) ⟨[(1, .ptr 1 0), (6, .win true syS 19 0 s.length), (21, .sl opS l), (22, .int .i64 l.length), (23, .int .i64 (i : Nat))], [(1, .var [.bool li, .int .i64 m, .int .i64 o, .sl opS l]), (19, .row 60 syS s)]⟩ =
    (bc (decide ((↑i : Int) < (↑l.length : Int))) ((0 : Int) ≤ (↑i : Int) ∧
 (↑i : Int) < (↑l.length : Int) ∧
 (ctO (1 : Int) (124 : Nat)).pre ((gtO l (↑i : Int).toNat), ()) ∧
 s.length = s.length ∧
 (ctA (1 : Nat)).pre ((gtO l (↑i : Int).toNat), s, ()) ∧
 R (hd Tryz.f19 (0 : Nat)) { env := [((1 : Nat), SV.ptr (1 : Nat) (0 : Nat)), ((6 : Nat), SV.win true syS (1122880 : Nat) (0 : Nat) (List.length (s ++ symsO (1 : Nat) (gtO l (↑i : Int).toNat)))), ((8 : Nat), SV.ptr (8 : Nat) (0 : Nat)), ((21 : Nat), SV.sl opS l), ((22 : Nat), SV.int IntKind.i64 (↑l.length : Int)), ((23 : Nat), SV.int IntKind.i64 (IntKind.i64.wrap ((↑i : Int) + (1 : Int)))), ((24 : Nat), SV.bool (decide ((↑i : Int) < (↑l.length : Int)))), ((25 : Nat), SV.elv opS (gtO l (↑i : Int).toNat)), ((26 : Nat), SV.agg [SV.int IntKind.i64 (gtO l (↑i : Int).toNat).fst, SV.int IntKind.i64 (gtO l (↑i : Int).toNat).snd.fst, SV.int IntKind.i64 (gtO l (↑i : Int).toNat).snd.snd.fst, SV.int IntKind.u8 (gtO l (↑i : Int).toNat).snd.snd.snd.fst, SV.sl uB (gtO l (↑i : Int).toNat).snd.snd.snd.snd]), ((27 : Nat), SV.agg [SV.int IntKind.i64 (gtO l (↑i : Int).toNat).fst, SV.int IntKind.i64 (gtO l (↑i : Int).toNat).snd.fst, SV.int IntKind.i64 (gtO l (↑i : Int).toNat).snd.snd.fst, SV.int IntKind.u8 (gtO l (↑i : Int).toNat).snd.snd.snd.fst, SV.sl uB (gtO l (↑i : Int).toNat).snd.snd.snd.snd]), ((28 : Nat), SV.ifc (124 : Nat) true [SV.int IntKind.i64 (gtO l (↑i : Int).toNat).fst, SV.int IntKind.i64 (gtO l (↑i : Int).toNat).snd.fst, SV.int IntKind.i64 (gtO l (↑i : Int).toNat).snd.snd.fst, SV.int IntKind.u8 (gtO l (↑i : Int).toNat).snd.snd.snd.fst, SV.sl uB (gtO l (↑i : Int).toNat).snd.snd.snd.snd]), ((29 : Nat), SV.dead), ((30 : Nat), SV.win true syS (1122880 : Nat) (0 : Nat) (List.length (s ++ symsO (1 : Nat) (gtO l (↑i : Int).toNat)))), ((31 : Nat), SV.int IntKind.i64 (IntKind.i64.wrap ((↑i : Int) + (1 : Int))))], blk := [((1 : Nat), LB.var [SV.bool li, SV.int IntKind.i64 m, SV.int IntKind.i64 o, SV.sl opS l]), ((8 : Nat), LB.var [SV.int IntKind.i64 (gtO l (↑i : Int).toNat).fst, SV.int IntKind.i64 (gtO l (↑i : Int).toNat).snd.fst, SV.int IntKind.i64 (gtO l (↑i : Int).toNat).snd.snd.fst, SV.int IntKind.u8 (gtO l (↑i : Int).toNat).snd.snd.snd.fst, SV.sl uB (gtO l (↑i : Int).toNat).snd.snd.snd.snd]), ((1122880 : Nat), LB.row (60 : Nat) syS (s ++ symsO (1 : Nat) (gtO l (↑i : Int).toNat)))] }) (Q [SV.win true syS (19 : Nat) (0 : Nat) s.length, SV.int IntKind.i64 (0 : Int)] [((1 : Nat), LB.var [SV.bool li, SV.int IntKind.i64 m, SV.int IntKind.i64 o, SV.sl opS l]), ((19 : Nat), LB.row (60 : Nat) syS s)])) := by kernel_rfl
theorem vc_symsL2 (li : Bool) (m o : Int) (l : List OpT) (s : List SyT) (i : Nat) (Q : List SV → List (Nat × LB) → Prop) (R : List Item → PS → Prop) : sy tt G0 E2 Tryz.f19.ntmps Tryz.f19.results.toList Q R 1000 (hd Tryz.f19 0) ⟨[(1, .ptr 1 0), (6, .win true syS 19 0 s.length), (21, .sl opS l), (22, .int .i64 l.length), (23, .int .i64 (i : Nat))], [(1, .var [.bool li, .int .i64 m, .int .i64 o, .sl opS l]), (19, .row 60 syS s)]⟩ =
    (bc (decide ((↑i : Int) < (↑l.length : Int))) ((0 : Int) ≤ (↑i : Int) ∧
 (↑i : Int) < (↑l.length : Int) ∧
 (ctO (2 : Int) (125 : Nat)).pre ((gtO l (↑i : Int).toNat), ()) ∧
 s.length = s.length ∧
 (ctA (2 : Nat)).pre ((gtO l (↑i : Int).toNat), s, ()) ∧
 R (hd Tryz.f19 (0 : Nat)) { env := [((1 : Nat), SV.ptr (1 : Nat) (0 : Nat)), ((6 : Nat), SV.win true syS (1122880 : Nat) (0 : Nat) (List.length (s ++ symsO (2 : Nat) (gtO l (↑i : Int).toNat)))), ((8 : Nat), SV.ptr (8 : Nat) (0 : Nat)), ((21 : Nat), SV.sl opS l), ((22 : Nat), SV.int IntKind.i64 (↑l.length : Int)), ((23 : Nat), SV.int IntKind.i64 (IntKind.i64.wrap ((↑i : Int) + (1 : Int)))), ((24 : Nat), SV.bool (decide ((↑i : Int) < (↑l.length : Int)))), ((25 : Nat), SV.elv opS (gtO l (↑i : Int).toNat)), ((26 : Nat), SV.agg [SV.int IntKind.i64 (gtO l (↑i : Int).toNat).fst, SV.int IntKind.i64 (gtO l (↑i : Int).toNat).snd.fst, SV.int IntKind.i64 (gtO l (↑i : Int).toNat).snd.snd.fst, SV.int IntKind.u8 (gtO l (↑i : Int).toNat).snd.snd.snd.fst, SV.sl uB (gtO l (↑i : Int).toNat).snd.snd.snd.snd]), ((27 : Nat), SV.agg [SV.int IntKind.i64 (gtO l (↑i : Int).toNat).fst, SV.int IntKind.i64 (gtO l (↑i : Int).toNat).snd.fst, SV.int IntKind.i64 (gtO l (↑i : Int).toNat).snd.snd.fst, SV.int IntKind.u8 (gtO l (↑i : Int).toNat).snd.snd.snd.fst, SV.sl uB (gtO l (↑i : Int).toNat).snd.snd.snd.snd]), ((28 : Nat), SV.ifc (125 : Nat) true [SV.int IntKind.i64 (gtO l (↑i : Int).toNat).fst, SV.int IntKind.i64 (gtO l (↑i : Int).toNat).snd.fst, SV.int IntKind.i64 (gtO l (↑i : Int).toNat).snd.snd.fst, SV.int IntKind.u8 (gtO l (↑i : Int).toNat).snd.snd.snd.fst, SV.sl uB (gtO l (↑i : Int).toNat).snd.snd.snd.snd]), ((29 : Nat), SV.dead), ((30 : Nat), SV.win true syS (1122880 : Nat) (0 : Nat) (List.length (s ++ symsO (2 : Nat) (gtO l (↑i : Int).toNat)))), ((31 : Nat), SV.int IntKind.i64 (IntKind.i64.wrap ((↑i : Int) + (1 : Int))))], blk := [((1 : Nat), LB.var [SV.bool li, SV.int IntKind.i64 m, SV.int IntKind.i64 o, SV.sl opS l]), ((8 : Nat), LB.var [SV.int IntKind.i64 (gtO l (↑i : Int).toNat).fst, SV.int IntKind.i64 (gtO l (↑i : Int).toNat).snd.fst, SV.int IntKind.i64 (gtO l (↑i : Int).toNat).snd.snd.fst, SV.int IntKind.u8 (gtO l (↑i : Int).toNat).snd.snd.snd.fst, SV.sl uB (gtO l (↑i : Int).toNat).snd.snd.snd.snd]), ((1122880 : Nat), LB.row (60 : Nat) syS (s ++ symsO (2 : Nat) (gtO l (↑i : Int).toNat)))] }) (Q [SV.win true syS (19 : Nat) (0 : Nat) s.length, SV.int IntKind.i64 (0 : Int)] [((1 : Nat), LB.var [SV.bool li, SV.int IntKind.i64 m, SV.int IntKind.i64 o, SV.sl opS l]), ((19 : Nat), LB.row (60 : Nat) syS s)])) := by kernel_rfl
theorem vc_symsL3 (li : Bool) (m o : Int) (l : List OpT) (s : List SyT) (i : Nat) (Q : List SV → List (Nat × LB) → Prop) (R : List Item → PS → Prop) : sy tt G0 E3 Tryz.f19.ntmps Tryz.f19.results.toList Q R 1000 (hd Tryz.f19 0) ⟨[(1, .ptr 1 0), (6, .win true syS 19 0 s.length), (21, .sl opS l), (22, .int .i64 l.length), (23, .int .i64 (i : Nat))], [(1, .var [.bool li, .int .i64 m, .int .i64 o, .sl opS l]), (19, .row 60 syS s)]⟩ =
    (bc (decide ((↑i : Int) < (↑l.length : Int))) ((0 : Int) ≤ (↑i : Int) ∧
 (↑i : Int) < (↑l.length : Int) ∧
 (ctO (3 : Int) (126 : Nat)).pre ((gtO l (↑i : Int).toNat), ()) ∧
 s.length = s.length ∧
 (ctA (3 : Nat)).pre ((gtO l (↑i : Int).toNat), s, ()) ∧
 R (hd Tryz.f19 (0 : Nat)) { env := [((1 : Nat), SV.ptr (1 : Nat) (0 : Nat)), ((6 : Nat), SV.win true syS (1122880 : Nat) (0 : Nat) (List.length (s ++ symsO (3 : Nat) (gtO l (↑i : Int).toNat)))), ((8 : Nat), SV.ptr (8 : Nat) (0 : Nat)), ((21 : Nat), SV.sl opS l), ((22 : Nat), SV.int IntKind.i64 (↑l.length : Int)), ((23 : Nat), SV.int IntKind.i64 (IntKind.i64.wrap ((↑i : Int) + (1 : Int)))), ((24 : Nat), SV.bool (decide ((↑i : Int) < (↑l.length : Int)))), ((25 : Nat), SV.elv opS (gtO l (↑i : Int).toNat)), ((26 : Nat), SV.agg [SV.int IntKind.i64 (gtO l (↑i : Int).toNat).fst, SV.int IntKind.i64 (gtO l (↑i : Int).toNat).snd.fst, SV.int IntKind.i64 (gtO l (↑i : Int).toNat).snd.snd.fst, SV.int IntKind.u8 (gtO l (↑i : Int).toNat).snd.snd.snd.fst, SV.sl uB (gtO l (↑i : Int).toNat).snd.snd.snd.snd]), ((27 : Nat), SV.agg [SV.int IntKind.i64 (gtO l (↑i : Int).toNat).fst, SV.int IntKind.i64 (gtO l (↑i : Int).toNat).snd.fst, SV.int IntKind.i64 (gtO l (↑i : Int).toNat).snd.snd.fst, SV.int IntKind.u8 (gtO l (↑i : Int).toNat).snd.snd.snd.fst, SV.sl uB (gtO l (↑i : Int).toNat).snd.snd.snd.snd]), ((28 : Nat), SV.ifc (126 : Nat) true [SV.int IntKind.i64 (gtO l (↑i : Int).toNat).fst, SV.int IntKind.i64 (gtO l (↑i : Int).toNat).snd.fst, SV.int IntKind.i64 (gtO l (↑i : Int).toNat).snd.snd.fst, SV.int IntKind.u8 (gtO l (↑i : Int).toNat).snd.snd.snd.fst, SV.sl uB (gtO l (↑i : Int).toNat).snd.snd.snd.snd]), ((29 : Nat), SV.dead), ((30 : Nat), SV.win true syS (1122880 : Nat) (0 : Nat) (List.length (s ++ symsO (3 : Nat) (gtO l (↑i : Int).toNat)))), ((31 : Nat), SV.int IntKind.i64 (IntKind.i64.wrap ((↑i : Int) + (1 : Int))))], blk := [((1 : Nat), LB.var [SV.bool li, SV.int IntKind.i64 m, SV.int IntKind.i64 o, SV.sl opS l]), ((8 : Nat), LB.var [SV.int IntKind.i64 (gtO l (↑i : Int).toNat).fst, SV.int IntKind.i64 (gtO l (↑i : Int).toNat).snd.fst, SV.int IntKind.i64 (gtO l (↑i : Int).toNat).snd.snd.fst, SV.int IntKind.u8 (gtO l (↑i : Int).toNat).snd.snd.snd.fst, SV.sl uB (gtO l (↑i : Int).toNat).snd.snd.snd.snd]), ((1122880 : Nat), LB.row (60 : Nat) syS (s ++ symsO (3 : Nat) (gtO l (↑i : Int).toNat)))] }) (Q [SV.win true syS (19 : Nat) (0 : Nat) s.length, SV.int IntKind.i64 (0 : Int)] [((1 : Nat), LB.var [SV.bool li, SV.int IntKind.i64 m, SV.int IntKind.i64 o, SV.sl opS l]), ((19 : Nat), LB.row (60 : Nat) syS s)])) := by kernel_rfl
theorem vc_symsL4 (li : Bool) (m o : Int) (l : List OpT) (s : List SyT) (i : Nat) (Q : List SV → List (Nat × LB) → Prop) (R : List Item → PS → Prop) : sy tt G0 E4 Tryz.f19.ntmps Tryz.f19.results.toList Q R 1000 (hd Tryz.f19 0) ⟨[(1, .ptr 1 0), (6, .win true syS 19 0 s.length), (21, .sl opS l), (22, .int .i64 l.length), (23, .int .i64 (i : Nat))], [(1, .var [.bool li, .int .i64 m, .int .i64 o, .sl opS l]), (19, .row 60 syS s)]⟩ =
    (bc (decide ((↑i : Int) < (↑l.length : Int))) ((0 : Int) ≤ (↑i : Int) ∧
 (↑i : Int) < (↑l.length : Int) ∧
 (ctO (4 : Int) (127 : Nat)).pre ((gtO l (↑i : Int).toNat), ()) ∧
 s.length = s.length ∧
 (ctA (4 : Nat)).pre ((gtO l (↑i : Int).toNat), s, ()) ∧
 R (hd Tryz.f19 (0 : Nat)) { env := [((1 : Nat), SV.ptr (1 : Nat) (0 : Nat)), ((6 : Nat), SV.win true syS (1122880 : Nat) (0 : Nat) (List.length (s ++ symsO (4 : Nat) (gtO l (↑i : Int).toNat)))), ((8 : Nat), SV.ptr (8 : Nat) (0 : Nat)), ((21 : Nat), SV.sl opS l), ((22 : Nat), SV.int IntKind.i64 (↑l.length : Int)), ((23 : Nat), SV.int IntKind.i64 (IntKind.i64.wrap ((↑i : Int) + (1 : Int)))), ((24 : Nat), SV.bool (decide ((↑i : Int) < (↑l.length : Int)))), ((25 : Nat), SV.elv opS (gtO l (↑i : Int).toNat)), ((26 : Nat), SV.agg [SV.int IntKind.i64 (gtO l (↑i : Int).toNat).fst, SV.int IntKind.i64 (gtO l (↑i : Int).toNat).snd.fst, SV.int IntKind.i64 (gtO l (↑i : Int).toNat).snd.snd.fst, SV.int IntKind.u8 (gtO l (↑i : Int).toNat).snd.snd.snd.fst, SV.sl uB (gtO l (↑i : Int).toNat).snd.snd.snd.snd]), ((27 : Nat), SV.agg [SV.int IntKind.i64 (gtO l (↑i : Int).toNat).fst, SV.int IntKind.i64 (gtO l (↑i : Int).toNat).snd.fst, SV.int IntKind.i64 (gtO l (↑i : Int).toNat).snd.snd.fst, SV.int IntKind.u8 (gtO l (↑i : Int).toNat).snd.snd.snd.fst, SV.sl uB (gtO l (↑i : Int).toNat).snd.snd.snd.snd]), ((28 : Nat), SV.ifc (127 : Nat) true [SV.int IntKind.i64 (gtO l (↑i : Int).toNat).fst, SV.int IntKind.i64 (gtO l (↑i : Int).toNat).snd.fst, SV.int IntKind.i64 (gtO l (↑i : Int).toNat).snd.snd.fst, SV.int IntKind.u8 (gtO l (↑i : Int).toNat).snd.snd.snd.fst, SV.sl uB (gtO l (↑i : Int).toNat).snd.snd.snd.snd]), ((29 : Nat), SV.dead), ((30 : Nat), SV.win true syS (1122880 : Nat) (0 : Nat) (List.length (s ++ symsO (4 : Nat) (gtO l (↑i : Int).toNat)))), ((31 : Nat), SV.int IntKind.i64 (IntKind.i64.wrap ((↑i : Int) + (1 : Int))))], blk := [((1 : Nat), LB.var [SV.bool li, SV.int IntKind.i64 m, SV.int IntKind.i64 o, SV.sl opS l]), ((8 : Nat), LB.var [SV.int IntKind.i64 (gtO l (↑i : Int).toNat).fst, SV.int IntKind.i64 (gtO l (↑i : Int).toNat).snd.fst, SV.int IntKind.i64 (gtO l (↑i : Int).toNat).snd.snd.fst, SV.int IntKind.u8 (gtO l (↑i : Int).toNat).snd.snd.snd.fst, SV.sl uB (gtO l (↑i : Int).toNat).snd.snd.snd.snd]), ((1122880 : Nat), LB.row (60 : Nat) syS (s ++ symsO (4 : Nat) (gtO l (↑i : Int).toNat)))] }) (Q [SV.win true syS (19 : Nat) (0 : Nat) s.length, SV.int IntKind.i64 (0 : Int)] [((1 : Nat), LB.var [SV.bool li, SV.int IntKind.i64 m, SV.int IntKind.i64 o, SV.sl opS l]), ((19 : Nat), LB.row (60 : Nat) syS s)])) := by kernel_rfl
theorem vc_cost (li : Bool) (m o : Int) (l : List OpT) (Q : List SV → List (Nat × LB) → Prop) (R : List Item → PS → Prop) : sy tt G0 CM Tryz.f25.ntmps Tryz.f25.results.toList Q R 1000 [.code (bodyOf Tryz.f25)] (entry [paS] ((li, m, o, l), ())) =
    (R (hd Tryz.f25 (0 : Nat)) { env := [((0 : Nat), SV.agg [SV.bool li, SV.int IntKind.i64 m, SV.int IntKind.i64 o, SV.sl opS l]), ((1 : Nat), SV.ptr (1 : Nat) (0 : Nat)), ((2 : Nat), SV.int IntKind.i64 (0 : Int)), ((3 : Nat), SV.int IntKind.i64 (0 : Int)), ((6 : Nat), SV.ptr (1 : Nat) (3 : Nat)), ((7 : Nat), SV.sl opS l), ((8 : Nat), SV.int IntKind.i64 (↑l.length : Int)), ((9 : Nat), SV.int IntKind.i64 (0 : Int))], blk := [((1 : Nat), LB.var [SV.bool li, SV.int IntKind.i64 m, SV.int IntKind.i64 o, SV.sl opS l])] }) := by kernel_rfl
theorem vc_costL1 (li : Bool) (m o : Int) (l : List OpT) (s : Int) (i : Nat) (Q : List SV → List (Nat × LB) → Prop) (R : List Item → PS → Prop) : sy tt G0 D1 Tryz.f25.ntmps Tryz.f25.results.toList Q R 1000 (hd Tryz.f25 0) ⟨[(1, .ptr 1 0), (3, .int .i64 s), (7, .sl opS l), (8, .int .i64 l.length), (9, .int .i64 (i : Nat))], [(1, .var [.bool li, .int .i64 m, .int .i64 o, .sl opS l])]⟩ =
    (bc (decide ((↑i : Int) < (↑l.length : Int))) ((0 : Int) ≤ (↑i : Int) ∧
 (↑i : Int) < (↑l.length : Int) ∧
 (ctO (1 : Int) (124 : Nat)).pre ((gtO l (↑i : Int).toNat), ()) ∧
 (ctC (1 : Nat)).pre ((gtO l (↑i : Int).toNat), ()) ∧
 R (hd Tryz.f25 (0 : Nat)) { env := [((1 : Nat), SV.ptr (1 : Nat) (0 : Nat)), ((3 : Nat), SV.int IntKind.i64 (IntKind.i64.wrap (s + cN (1 : Nat) (gtO l (↑i : Int).toNat)))), ((5 : Nat), SV.ptr (5 : Nat) (0 : Nat)), ((7 : Nat), SV.sl opS l), ((8 : Nat), SV.int IntKind.i64 (↑l.length : Int)), ((9 : Nat), SV.int IntKind.i64 (IntKind.i64.wrap ((↑i : Int) + (1 : Int)))), ((10 : Nat), SV.bool (decide ((↑i : Int) < (↑l.length : Int)))), ((11 : Nat), SV.elv opS (gtO l (↑i : Int).toNat)), ((12 : Nat), SV.agg [SV.int IntKind.i64 (gtO l (↑i : Int).toNat).fst, SV.int IntKind.i64 (gtO l (↑i : Int).toNat).snd.fst, SV.int IntKind.i64 (gtO l (↑i : Int).toNat).snd.snd.fst, SV.int IntKind.u8 (gtO l (↑i : Int).toNat).snd.snd.snd.fst, SV.sl uB (gtO l (↑i : Int).toNat).snd.snd.snd.snd]), ((13 : Nat), SV.int IntKind.i64 s), ((14 : Nat), SV.agg [SV.int IntKind.i64 (gtO l (↑i : Int).toNat).fst, SV.int IntKind.i64 (gtO l (↑i : Int).toNat).snd.fst, SV.int IntKind.i64 (gtO l (↑i : Int).toNat).snd.snd.fst, SV.int IntKind.u8 (gtO l (↑i : Int).toNat).snd.snd.snd.fst, SV.sl uB (gtO l (↑i : Int).toNat).snd.snd.snd.snd]), ((15 : Nat), SV.ifc (124 : Nat) true [SV.int IntKind.i64 (gtO l (↑i : Int).toNat).fst, SV.int IntKind.i64 (gtO l (↑i : Int).toNat).snd.fst, SV.int IntKind.i64 (gtO l (↑i : Int).toNat).snd.snd.fst, SV.int IntKind.u8 (gtO l (↑i : Int).toNat).snd.snd.snd.fst, SV.sl uB (gtO l (↑i : Int).toNat).snd.snd.snd.snd]), ((16 : Nat), SV.int IntKind.i64 (cN (1 : Nat) (gtO l (↑i : Int).toNat))), ((17 : Nat), SV.int IntKind.i64 (IntKind.i64.wrap (s + cN (1 : Nat) (gtO l (↑i : Int).toNat)))), ((18 : Nat), SV.int IntKind.i64 (IntKind.i64.wrap ((↑i : Int) + (1 : Int))))], blk := [((1 : Nat), LB.var [SV.bool li, SV.int IntKind.i64 m, SV.int IntKind.i64 o, SV.sl opS l]), ((5 : Nat), LB.var [SV.int IntKind.i64 (gtO l (↑i : Int).toNat).fst, SV.int IntKind.i64 (gtO l (↑i : Int).toNat).snd.fst, SV.int IntKind.i64 (gtO l (↑i : Int).toNat).snd.snd.fst, SV.int IntKind.u8 (gtO l (↑i : Int).toNat).snd.snd.snd.fst, SV.sl uB (gtO l (↑i : Int).toNat).snd.snd.snd.snd])] }) (Q [SV.int IntKind.i64 s] [((1 : Nat), LB.var [SV.bool li, SV.int IntKind.i64 m, SV.int IntKind.i64 o, SV.sl opS l])])) := by kernel_rfl
theorem vc_costL2 (li : Bool) (m o : Int) (l : List OpT) (s : Int) (i : Nat) (Q : List SV → List (Nat × LB) → Prop) (R : List Item → PS → Prop) : sy tt G0 D2 Tryz.f25.ntmps Tryz.f25.results.toList Q R 1000 (hd Tryz.f25 0) ⟨[(1, .ptr 1 0), (3, .int .i64 s), (7, .sl opS l), (8, .int .i64 l.length), (9, .int .i64 (i : Nat))], [(1, .var [.bool li, .int .i64 m, .int .i64 o, .sl opS l])]⟩ =
    (bc (decide ((↑i : Int) < (↑l.length : Int))) ((0 : Int) ≤ (↑i : Int) ∧
 (↑i : Int) < (↑l.length : Int) ∧
 (ctO (2 : Int) (125 : Nat)).pre ((gtO l (↑i : Int).toNat), ()) ∧
 (ctC (2 : Nat)).pre ((gtO l (↑i : Int).toNat), ()) ∧
 R (hd Tryz.f25 (0 : Nat)) { env := [((1 : Nat), SV.ptr (1 : Nat) (0 : Nat)), ((3 : Nat), SV.int IntKind.i64 (IntKind.i64.wrap (s + cN (2 : Nat) (gtO l (↑i : Int).toNat)))), ((5 : Nat), SV.ptr (5 : Nat) (0 : Nat)), ((7 : Nat), SV.sl opS l), ((8 : Nat), SV.int IntKind.i64 (↑l.length : Int)), ((9 : Nat), SV.int IntKind.i64 (IntKind.i64.wrap ((↑i : Int) + (1 : Int)))), ((10 : Nat), SV.bool (decide ((↑i : Int) < (↑l.length : Int)))), ((11 : Nat), SV.elv opS (gtO l (↑i : Int).toNat)), ((12 : Nat), SV.agg [SV.int IntKind.i64 (gtO l (↑i : Int).toNat).fst, SV.int IntKind.i64 (gtO l (↑i : Int).toNat).snd.fst, SV.int IntKind.i64 (gtO l (↑i : Int).toNat).snd.snd.fst, SV.int IntKind.u8 (gtO l (↑i : Int).toNat).snd.snd.snd.fst, SV.sl uB (gtO l (↑i : Int).toNat).snd.snd.snd.snd]), ((13 : Nat), SV.int IntKind.i64 s), ((14 : Nat), SV.agg [SV.int IntKind.i64 (gtO l (↑i : Int).toNat).fst, SV.int IntKind.i64 (gtO l (↑i : Int).toNat).snd.fst, SV.int IntKind.i64 (gtO l (↑i : Int).toNat).snd.snd.fst, SV.int IntKind.u8 (gtO l (↑i : Int).toNat).snd.snd.snd.fst, SV.sl uB (gtO l (↑i : Int).toNat).snd.snd.snd.snd]), ((15 : Nat), SV.ifc (125 : Nat) true [SV.int IntKind.i64 (gtO l (↑i : Int).toNat).fst, SV.int IntKind.i64 (gtO l (↑i : Int).toNat).snd.fst, SV.int IntKind.i64 (gtO l (↑i : Int).toNat).snd.snd.fst, SV.int IntKind.u8 (gtO l (↑i : Int).toNat).snd.snd.snd.fst, SV.sl uB (gtO l (↑i : Int).toNat).snd.snd.snd.snd]), ((16 : Nat), SV.int IntKind.i64 (cN (2 : Nat) (gtO l (↑i : Int).toNat))), ((17 : Nat), SV.int IntKind.i64 (IntKind.i64.wrap (s + cN (2 : Nat) (gtO l (↑i : Int).toNat)))), ((18 : Nat), SV.int IntKind.i64 (IntKind.i64.wrap ((↑i : Int) + (1 : Int))))], blk := [((1 : Nat), LB.var [SV.bool li, SV.int IntKind.i64 m, SV.int IntKind.i64 o, SV.sl opS l]), ((5 : Nat), LB.var [SV.int IntKind.i64 (gtO l (↑i : Int).toNat).fst, SV.int IntKind.i64 (gtO l (↑i : Int).toNat).snd.fst, SV.int IntKind.i64 (gtO l (↑i : Int).toNat).snd.snd.fst, SV.int IntKind.u8 (gtO l (↑i : Int).toNat).snd.snd.snd.fst, SV.sl uB (gtO l (↑i : Int).toNat).snd.snd.snd.snd])] }) (Q [SV.int IntKind.i64 s] [((1 : Nat), LB.var [SV.bool li, SV.int IntKind.i64 m, SV.int IntKind.i64 o, SV.sl opS l])])) := by kernel_rfl
theorem vc_costL3 (li : Bool) (m o : Int) (l : List OpT) (s : Int) (i : Nat) (Q : List SV → List (Nat × LB) → Prop) (R : List Item → PS → Prop) : sy tt G0 D3 Tryz.f25.ntmps Tryz.f25.results.toList Q R 1000 (hd Tryz.f25 0) ⟨[(1, .ptr 1 0), (3, .int .i64 s), (7, .sl opS l), (8, .int .i64 l.length), (9, .int .i64 (i : Nat))], [(1, .var [.bool li, .int .i64 m, .int .i64 o, .sl opS l])]⟩ =
    (bc (decide ((↑i : Int) < (↑l.length : Int))) ((0 : Int) ≤ (↑i : Int) ∧
 (↑i : Int) < (↑l.length : Int) ∧
 (ctO (3 : Int) (126 : Nat)).pre ((gtO l (↑i : Int).toNat), ()) ∧
 (ctC (3 : Nat)).pre ((gtO l (↑i : Int).toNat), ()) ∧
 R (hd Tryz.f25 (0 : Nat)) { env := [((1 : Nat), SV.ptr (1 : Nat) (0 : Nat)), ((3 : Nat), SV.int IntKind.i64 (IntKind.i64.wrap (s + cN (3 : Nat) (gtO l (↑i : Int).toNat)))), ((5 : Nat), SV.ptr (5 : Nat) (0 : Nat)), ((7 : Nat), SV.sl opS l), ((8 : Nat), SV.int IntKind.i64 (↑l.length : Int)), ((9 : Nat), SV.int IntKind.i64 (IntKind.i64.wrap ((↑i : Int) + (1 : Int)))), ((10 : Nat), SV.bool (decide ((↑i : Int) < (↑l.length : Int)))), ((11 : Nat), SV.elv opS (gtO l (↑i : Int).toNat)), ((12 : Nat), SV.agg [SV.int IntKind.i64 (gtO l (↑i : Int).toNat).fst, SV.int IntKind.i64 (gtO l (↑i : Int).toNat).snd.fst, SV.int IntKind.i64 (gtO l (↑i : Int).toNat).snd.snd.fst, SV.int IntKind.u8 (gtO l (↑i : Int).toNat).snd.snd.snd.fst, SV.sl uB (gtO l (↑i : Int).toNat).snd.snd.snd.snd]), ((13 : Nat), SV.int IntKind.i64 s), ((14 : Nat), SV.agg [SV.int IntKind.i64 (gtO l (↑i : Int).toNat).fst, SV.int IntKind.i64 (gtO l (↑i : Int).toNat).snd.fst, SV.int IntKind.i64 (gtO l (↑i : Int).toNat).snd.snd.fst, SV.int IntKind.u8 (gtO l (↑i : Int).toNat).snd.snd.snd.fst, SV.sl uB (gtO l (↑i : Int).toNat).snd.snd.snd.snd]), ((15 : Nat), SV.ifc (126 : Nat) true [SV.int IntKind.i64 (gtO l (↑i : Int).toNat).fst, SV.int IntKind.i64 (gtO l (↑i : Int).toNat).snd.fst, SV.int IntKind.i64 (gtO l (↑i : Int).toNat).snd.snd.fst, SV.int IntKind.u8 (gtO l (↑i : Int).toNat).snd.snd.snd.fst, SV.sl uB (gtO l (↑i : Int).toNat).snd.snd.snd.snd]), ((16 : Nat), SV.int IntKind.i64 (cN (3 : Nat) (gtO l (↑i : Int).toNat))), ((17 : Nat), SV.int IntKind.i64 (IntKind.i64.wrap (s + cN (3 : Nat) (gtO l (↑i : Int).toNat)))), ((18 : Nat), SV.int IntKind.i64 (IntKind.i64.wrap ((↑i : Int) + (1 : Int))))], blk := [((1 : Nat), LB.var [SV.bool li, SV.int IntKind.i64 m, SV.int IntKind.i64 o, SV.sl opS l]), ((5 : Nat), LB.var [SV.int IntKind.i64 (gtO l (↑i : Int).toNat).fst, SV.int IntKind.i64 (gtO l (↑i : Int).toNat).snd.fst, SV.int IntKind.i64 (gtO l (↑i : Int).toNat).snd.snd.fst, SV.int IntKind.u8 (gtO l (↑i : Int).toNat).snd.snd.snd.fst, SV.sl uB (gtO l (↑i : Int).toNat).snd.snd.snd.snd])] }) (Q [SV.int IntKind.i64 s] [((1 : Nat), LB.var [SV.bool li, SV.int IntKind.i64 m, SV.int IntKind.i64 o, SV.sl opS l])])) := by kernel_rfl
theorem vc_costL4 (li : Bool) (m o : Int) (l : List OpT) (s : Int) (i : Nat) (Q : List SV → List (Nat × LB) → Prop) (R : List Item → PS → Prop) : sy tt G0 D4 Tryz.f25.ntmps Tryz.f25.results.toList Q R 1000 (hd Tryz.f25 0) ⟨[(1, .ptr 1 0), (3, .int .i64 s), (7, .sl opS l), (8, .int .i64 l.length), (9, .int .i64 (i : Nat))], [(1, .var [.bool li, .int .i64 m, .int .i64 o, .sl opS l])]⟩ =
    (bc (decide ((↑i : Int) < (↑l.length : Int))) ((0 : Int) ≤ (↑i : Int) ∧
 (↑i : Int) < (↑l.length : Int) ∧
 (ctO (4 : Int) (127 : Nat)).pre ((gtO l (↑i : Int).toNat), ()) ∧
 (ctC (4 : Nat)).pre ((gtO l (↑i : Int).toNat), ()) ∧
 R (hd Tryz.f25 (0 : Nat)) { env := [((1 : Nat), SV.ptr (1 : Nat) (0 : Nat)), ((3 : Nat), SV.int IntKind.i64 (IntKind.i64.wrap (s + cN (4 : Nat) (gtO l (↑i : Int).toNat)))), ((5 : Nat), SV.ptr (5 : Nat) (0 : Nat)), ((7 : Nat), SV.sl opS l), ((8 : Nat), SV.int IntKind.i64 (↑l.length : Int)), ((9 : Nat), SV.int IntKind.i64 (IntKind.i64.wrap ((↑i : Int) + (1 : Int)))), ((10 : Nat), SV.bool (decide ((↑i : Int) < (↑l.length : Int)))), ((11 : Nat), SV.elv opS (gtO l (↑i : Int).toNat)), ((12 : Nat), SV.agg [SV.int IntKind.i64 (gtO l (↑i : Int).toNat).fst, SV.int IntKind.i64 (gtO l (↑i : Int).toNat).snd.fst, SV.int IntKind.i64 (gtO l (↑i : Int).toNat).snd.snd.fst, SV.int IntKind.u8 (gtO l (↑i : Int).toNat).snd.snd.snd.fst, SV.sl uB (gtO l (↑i : Int).toNat).snd.snd.snd.snd]), ((13 : Nat), SV.int IntKind.i64 s), ((14 : Nat), SV.agg [SV.int IntKind.i64 (gtO l (↑i : Int).toNat).fst, SV.int IntKind.i64 (gtO l (↑i : Int).toNat).snd.fst, SV.int IntKind.i64 (gtO l (↑i : Int).toNat).snd.snd.fst, SV.int IntKind.u8 (gtO l (↑i : Int).toNat).snd.snd.snd.fst, SV.sl uB (gtO l (↑i : Int).toNat).snd.snd.snd.snd]), ((15 : Nat), SV.ifc (127 : Nat) true [SV.int IntKind.i64 (gtO l (↑i : Int).toNat).fst, SV.int IntKind.i64 (gtO l (↑i : Int).toNat).snd.fst, SV.int IntKind.i64 (gtO l (↑i : Int).toNat).snd.snd.fst, SV.int IntKind.u8 (gtO l (↑i : Int).toNat).snd.snd.snd.fst, SV.sl uB (gtO l (↑i : Int).toNat).snd.snd.snd.snd]), ((16 : Nat), SV.int IntKind.i64 (cN (4 : Nat) (gtO l (↑i : Int).toNat))), ((17 : Nat), SV.int IntKind.i64 (IntKind.i64.wrap (s + cN (4 : Nat) (gtO l (↑i : Int).toNat)))), ((18 : Nat), SV.int IntKind.i64 (IntKind.i64.wrap ((↑i : Int) + (1 : Int))))], blk := [((1 : Nat), LB.var [SV.bool li, SV.int IntKind.i64 m, SV.int IntKind.i64 o, SV.sl opS l]), ((5 : Nat), LB.var [SV.int IntKind.i64 (gtO l (↑i : Int).toNat).fst, SV.int IntKind.i64 (gtO l (↑i : Int).toNat).snd.fst, SV.int IntKind.i64 (gtO l (↑i : Int).toNat).snd.snd.fst, SV.int IntKind.u8 (gtO l (↑i : Int).toNat).snd.snd.snd.fst, SV.sl uB (gtO l (↑i : Int).toNat).snd.snd.snd.snd])] }) (Q [SV.int IntKind.i64 s] [((1 : Nat), LB.var [SV.bool li, SV.int IntKind.i64 m, SV.int IntKind.i64 o, SV.sl opS l])])) := by kernel_rfl
theorem vc_whole (n : Int) (Q : List SV → List (Nat × LB) → Prop) (R : List Item → PS → Prop) : sy tt G0 [] Tryz.f31.ntmps Tryz.f31.results.toList Q R 1000 [.code (bodyOf Tryz.f31)] (entry [iI] (n, ())) =
    (bc (decide ((0 : Int) < n)) (Q [SV.agg [SV.bool false, SV.int IntKind.i64 n, SV.int IntKind.i64 n, SV.win true opS (11 : Nat) (0 : Nat) (1 : Nat)]] [((2 : Nat), LB.var [SV.bool false, SV.int IntKind.i64 n, SV.int IntKind.i64 n, SV.win true opS (11 : Nat) (0 : Nat) (1 : Nat)]), ((3 : Nat), LB.var [SV.bool false, SV.int IntKind.i64 n, SV.int IntKind.i64 n, SV.win true opS (11 : Nat) (0 : Nat) (1 : Nat)]), ((11 : Nat), LB.row (55 : Nat) opS ([((1 : Int), (0 : Int), n, (0 : Int), [])] : List opS.D))]) (Q [SV.agg [SV.bool false, SV.int IntKind.i64 n, SV.int IntKind.i64 n, SV.nils]] [((2 : Nat), LB.var [SV.bool false, SV.int IntKind.i64 n, SV.int IntKind.i64 n, SV.nils]), ((3 : Nat), LB.var [SV.bool false, SV.int IntKind.i64 n, SV.int IntKind.i64 n, SV.nils])])) := by kernel_rfl
theorem vc_rwhole (n : Int) (Q : List SV → List (Nat × LB) → Prop) (R : List Item → PS → Prop) : sy tt G0 [] Tryz.f35.ntmps Tryz.f35.results.toList Q R 1000 [.code (bodyOf Tryz.f35)] (entry [iI] (n, ())) =
    (bc (decide (n = (0 : Int))) (Q [SV.agg [SV.bool false, SV.int IntKind.i64 (0 : Int), SV.int IntKind.i64 (0 : Int), SV.nils]] [((2 : Nat), LB.var [SV.bool false, SV.int IntKind.i64 (0 : Int), SV.int IntKind.i64 (0 : Int), SV.nils])]) (Q [SV.agg [SV.bool false, SV.int IntKind.i64 n, SV.int IntKind.i64 n, SV.win true opS (10 : Nat) (0 : Nat) (1 : Nat)]] [((2 : Nat), LB.var [SV.bool false, SV.int IntKind.i64 n, SV.int IntKind.i64 n, SV.win true opS (10 : Nat) (0 : Nat) (1 : Nat)]), ((10 : Nat), LB.row (55 : Nat) opS ([((1 : Int), (0 : Int), n, (0 : Int), [])] : List opS.D))])) := by kernel_rfl
theorem vc_sameOp (x y : OpT) (Q : List SV → List (Nat × LB) → Prop) (R : List Item → PS → Prop) : sy tt G0 [] Tryz.f51.ntmps Tryz.f51.results.toList Q R 1000 [.code (bodyOf Tryz.f51)] (entry [opS, opS] (x, y, ())) =
    (bc (decide (x.fst = y.fst)) (bc (bif true then decide (x.snd.fst = y.snd.fst) else false) (bc (bif true then decide (x.snd.snd.fst = y.snd.snd.fst) else false) (bc (bif true then decide (x.snd.snd.snd.fst = y.snd.snd.snd.fst) else false) (Q [SV.bool (bif true then decide (List.map toB x.snd.snd.snd.snd = List.map toB y.snd.snd.snd.snd) else false)] [((2 : Nat), LB.var [SV.int IntKind.i64 x.fst, SV.int IntKind.i64 x.snd.fst, SV.int IntKind.i64 x.snd.snd.fst, SV.int IntKind.u8 x.snd.snd.snd.fst, SV.sl uB x.snd.snd.snd.snd]), ((3 : Nat), LB.var [SV.int IntKind.i64 y.fst, SV.int IntKind.i64 y.snd.fst, SV.int IntKind.i64 y.snd.snd.fst, SV.int IntKind.u8 y.snd.snd.snd.fst, SV.sl uB y.snd.snd.snd.snd])]) (false = false ∧
 Q [SV.bool false] [((2 : Nat), LB.var [SV.int IntKind.i64 x.fst, SV.int IntKind.i64 x.snd.fst, SV.int IntKind.i64 x.snd.snd.fst, SV.int IntKind.u8 x.snd.snd.snd.fst, SV.sl uB x.snd.snd.snd.snd]), ((3 : Nat), LB.var [SV.int IntKind.i64 y.fst, SV.int IntKind.i64 y.snd.fst, SV.int IntKind.i64 y.snd.snd.fst, SV.int IntKind.u8 y.snd.snd.snd.fst, SV.sl uB y.snd.snd.snd.snd])])) (false = false ∧
 false = false ∧
 Q [SV.bool false] [((2 : Nat), LB.var [SV.int IntKind.i64 x.fst, SV.int IntKind.i64 x.snd.fst, SV.int IntKind.i64 x.snd.snd.fst, SV.int IntKind.u8 x.snd.snd.snd.fst, SV.sl uB x.snd.snd.snd.snd]), ((3 : Nat), LB.var [SV.int IntKind.i64 y.fst, SV.int IntKind.i64 y.snd.fst, SV.int IntKind.i64 y.snd.snd.fst, SV.int IntKind.u8 y.snd.snd.snd.fst, SV.sl uB y.snd.snd.snd.snd])])) (false = false ∧
 false = false ∧
 false = false ∧
 Q [SV.bool false] [((2 : Nat), LB.var [SV.int IntKind.i64 x.fst, SV.int IntKind.i64 x.snd.fst, SV.int IntKind.i64 x.snd.snd.fst, SV.int IntKind.u8 x.snd.snd.snd.fst, SV.sl uB x.snd.snd.snd.snd]), ((3 : Nat), LB.var [SV.int IntKind.i64 y.fst, SV.int IntKind.i64 y.snd.fst, SV.int IntKind.i64 y.snd.snd.fst, SV.int IntKind.u8 y.snd.snd.snd.fst, SV.sl uB y.snd.snd.snd.snd])])) (false = false ∧
 false = false ∧
 false = false ∧
 false = false ∧
 Q [SV.bool false] [((2 : Nat), LB.var [SV.int IntKind.i64 x.fst, SV.int IntKind.i64 x.snd.fst, SV.int IntKind.i64 x.snd.snd.fst, SV.int IntKind.u8 x.snd.snd.snd.fst, SV.sl uB x.snd.snd.snd.snd]), ((3 : Nat), LB.var [SV.int IntKind.i64 y.fst, SV.int IntKind.i64 y.snd.fst, SV.int IntKind.i64 y.snd.snd.fst, SV.int IntKind.u8 y.snd.snd.snd.fst, SV.sl uB y.snd.snd.snd.snd])])) := by kernel_rfl
theorem vc_r2 (x y : List Int) (Q : List SV → List (Nat × LB) → Prop) (R : List Item → PS → Prop) : sy tt G0 [] Tryz.f18.ntmps Tryz.f18.results.toList Q R 1000 [.code (bodyOf Tryz.f18)] (entry [.sl uB, .sl uB] (x, y, ())) =
    (bc (decide ((↑x.length : Int) ≠ (↑y.length : Int))) (Q [SV.bool false] []) (R (hd Tryz.f18 (0 : Nat)) { env := [((0 : Nat), SV.sl uB x), ((1 : Nat), SV.sl uB y), ((4 : Nat), SV.bool false), ((5 : Nat), SV.int IntKind.i64 (0 : Int)), ((6 : Nat), SV.sl uB x), ((7 : Nat), SV.int IntKind.i64 (↑x.length : Int)), ((8 : Nat), SV.sl uB y), ((9 : Nat), SV.int IntKind.i64 (↑y.length : Int)), ((10 : Nat), SV.bool (decide ((↑x.length : Int) ≠ (↑y.length : Int))))], blk := [] })) := by kernel_rfl
theorem vc_r2L (x y : List Int) (i : Nat) (Q : List SV → List (Nat × LB) → Prop) (R : List Item → PS → Prop) : sy tt G0 [] Tryz.f18.ntmps Tryz.f18.results.toList Q R 1000 (hd Tryz.f18 0) ⟨[(0, .sl uB x), (1, .sl uB y), (5, .int .i64 (i : Nat))], []⟩ =
    (bc (decide ((↑i : Int) < (↑x.length : Int))) ((0 : Int) ≤ (↑i : Int) ∧
 (↑i : Int) < (↑x.length : Int) ∧
 (0 : Int) ≤ (↑i : Int) ∧
 (↑i : Int) < (↑y.length : Int) ∧
 bc (decide (gtB x (↑i : Int).toNat ≠ gtB y (↑i : Int).toNat)) (Q [SV.bool false] []) (R (hd Tryz.f18 (0 : Nat)) { env := [((0 : Nat), SV.sl uB x), ((1 : Nat), SV.sl uB y), ((5 : Nat), SV.int IntKind.i64 (IntKind.i64.wrap ((↑i : Int) + (1 : Int)))), ((11 : Nat), SV.int IntKind.i64 (↑i : Int)), ((12 : Nat), SV.sl uB x), ((13 : Nat), SV.int IntKind.i64 (↑x.length : Int)), ((14 : Nat), SV.bool (decide ((↑i : Int) < (↑x.length : Int)))), ((15 : Nat), SV.int IntKind.i64 (↑i : Int)), ((16 : Nat), SV.int IntKind.i64 (IntKind.i64.wrap ((↑i : Int) + (1 : Int)))), ((17 : Nat), SV.sl uB x), ((18 : Nat), SV.int IntKind.i64 (↑i : Int)), ((19 : Nat), SV.elv uB (gtB x (↑i : Int).toNat)), ((20 : Nat), SV.int IntKind.u8 (gtB x (↑i : Int).toNat)), ((21 : Nat), SV.sl uB y), ((22 : Nat), SV.int IntKind.i64 (↑i : Int)), ((23 : Nat), SV.elv uB (gtB y (↑i : Int).toNat)), ((24 : Nat), SV.int IntKind.u8 (gtB y (↑i : Int).toNat)), ((25 : Nat), SV.bool (decide (gtB x (↑i : Int).toNat ≠ gtB y (↑i : Int).toNat)))], blk := [] })) (Q [SV.bool true] [])) := by kernel_rfl
theorem vc_sSy (x y : List SyT) (Q : List SV → List (Nat × LB) → Prop) (R : List Item → PS → Prop) : sy tt G0 [] Tryz.f23.ntmps Tryz.f23.results.toList Q R 1000 [.code (bodyOf Tryz.f23)] (entry [.sl syS, .sl syS] (x, y, ())) =
    (bc (decide ((↑x.length : Int) ≠ (↑y.length : Int))) (Q [SV.bool false] []) (R (hd Tryz.f23 (0 : Nat)) { env := [((0 : Nat), SV.sl syS x), ((1 : Nat), SV.sl syS y), ((4 : Nat), SV.bool false), ((5 : Nat), SV.int IntKind.i64 (0 : Int)), ((6 : Nat), SV.sl syS x), ((7 : Nat), SV.int IntKind.i64 (↑x.length : Int)), ((8 : Nat), SV.sl syS y), ((9 : Nat), SV.int IntKind.i64 (↑y.length : Int)), ((10 : Nat), SV.bool (decide ((↑x.length : Int) ≠ (↑y.length : Int))))], blk := [] })) := by kernel_rfl
theorem vc_sSyL (x y : List SyT) (i : Nat) (Q : List SV → List (Nat × LB) → Prop) (R : List Item → PS → Prop) : sy tt G0 [] Tryz.f23.ntmps Tryz.f23.results.toList Q R 1000 (hd Tryz.f23 0) ⟨[(0, .sl syS x), (1, .sl syS y), (5, .int .i64 (i : Nat))], []⟩ =
    (bc (decide ((↑i : Int) < (↑x.length : Int))) ((0 : Int) ≤ (↑i : Int) ∧
 (↑i : Int) < (↑x.length : Int) ∧
 (0 : Int) ≤ (↑i : Int) ∧
 (↑i : Int) < (↑y.length : Int) ∧
 bc (!decide ([Cl.cb (gtY x (↑i : Int).toNat).fst, Cl.ci IntKind.i64 (gtY x (↑i : Int).toNat).snd.fst, Cl.ci IntKind.u8 (gtY x (↑i : Int).toNat).snd.snd] = [Cl.cb (gtY y (↑i : Int).toNat).fst, Cl.ci IntKind.i64 (gtY y (↑i : Int).toNat).snd.fst, Cl.ci IntKind.u8 (gtY y (↑i : Int).toNat).snd.snd])) (Q [SV.bool false] []) (R (hd Tryz.f23 (0 : Nat)) { env := [((0 : Nat), SV.sl syS x), ((1 : Nat), SV.sl syS y), ((5 : Nat), SV.int IntKind.i64 (IntKind.i64.wrap ((↑i : Int) + (1 : Int)))), ((11 : Nat), SV.int IntKind.i64 (↑i : Int)), ((12 : Nat), SV.sl syS x), ((13 : Nat), SV.int IntKind.i64 (↑x.length : Int)), ((14 : Nat), SV.bool (decide ((↑i : Int) < (↑x.length : Int)))), ((15 : Nat), SV.int IntKind.i64 (↑i : Int)), ((16 : Nat), SV.int IntKind.i64 (IntKind.i64.wrap ((↑i : Int) + (1 : Int)))), ((17 : Nat), SV.sl syS x), ((18 : Nat), SV.int IntKind.i64 (↑i : Int)), ((19 : Nat), SV.elv syS (gtY x (↑i : Int).toNat)), ((20 : Nat), SV.agg [SV.bool (gtY x (↑i : Int).toNat).fst, SV.int IntKind.i64 (gtY x (↑i : Int).toNat).snd.fst, SV.int IntKind.u8 (gtY x (↑i : Int).toNat).snd.snd]), ((21 : Nat), SV.sl syS y), ((22 : Nat), SV.int IntKind.i64 (↑i : Int)), ((23 : Nat), SV.elv syS (gtY y (↑i : Int).toNat)), ((24 : Nat), SV.agg [SV.bool (gtY y (↑i : Int).toNat).fst, SV.int IntKind.i64 (gtY y (↑i : Int).toNat).snd.fst, SV.int IntKind.u8 (gtY y (↑i : Int).toNat).snd.snd]), ((25 : Nat), SV.bool !decide ([Cl.cb (gtY x (↑i : Int).toNat).fst, Cl.ci IntKind.i64 (gtY x (↑i : Int).toNat).snd.fst, Cl.ci IntKind.u8 (gtY x (↑i : Int).toNat).snd.snd] = [Cl.cb (gtY y (↑i : Int).toNat).fst, Cl.ci IntKind.i64 (gtY y (↑i : Int).toNat).snd.fst, Cl.ci IntKind.u8 (gtY y (↑i : Int).toNat).snd.snd]))], blk := [] })) (Q [SV.bool true] [])) := by kernel_rfl
end Go.Proofs.YtikikmhlicoheaaGreatDoor
namespace Go.Proofs.YtikikmhlicoheaaGreatDoor
open Go.Px Go.Ax
set_option maxRecDepth 100000
attribute [local irreducible] Go.Px.sy Go.Px.syE
theorem gtB_at {l : List Int} {i : Nat} (h : i < l.length) : gtB l i = l[i] := gtE (e := uB) h
theorem qc_rowI {ct : Ctr} {x : DL ct.args} {rs : List SV} {blk : List (Nat × LB)} {e : Sh} {et : TypeId} {a k : Nat} {z : Int} {xs : List e.D} (h : ct.out x = [.win true e 0 0 xs.length, .int .i64 z]) (hr : ct.rows x = [.row et e xs]) (hs : rs = [.win true e a 0 k, .int .i64 z]) (hk : k = xs.length) (hb : lk blk a = some (.row et e xs)) : QC ct x rs blk := by
  subst hs; subst hk
  refine ⟨fun i => if i = 0 then some a else none, ?_, ?_, fun i j b h1 h2 => ?_, by rw [hr]; rfl⟩
  · rw [h]
    exact ⟨_, _, rfl, .inl ⟨true, a, rfl, rfl, fun h => h⟩, _, _, rfl, rfl, rfl⟩
  · rw [hr]
    exact ⟨.inl ⟨a, rfl, hb⟩, trivial⟩
  · simp only at h1 h2
    split at h1
    · split at h2
      · omega
      · cases h2
    · cases h1
theorem qc_nilI {ct : Ctr} {x : DL ct.args} {rs : List SV} {blk : List (Nat × LB)} {e : Sh} {et : TypeId} {z : Int} (h : ct.out x = [.win true e 0 0 0, .int .i64 z]) (hr : ct.rows x = [.row et e []]) (hs : rs = [.nils, .int .i64 z]) (he : 0 < e.size) : QC ct x rs blk := by
  subst hs
  refine ⟨fun _ => none, ?_, ?_, fun i j b h1 h2 => ?_, by rw [hr]; rfl⟩
  · rw [h]
    exact ⟨_, _, rfl, .inr ⟨rfl, rfl, rfl, rfl⟩, _, _, rfl, rfl, rfl⟩
  · rw [hr]
    exact ⟨.inr ⟨rfl, _, _, rfl, he⟩, trivial⟩
  · simp at h1
def ruOK (old : List Int) (s : SyT) : Bool := !s.1 || (decide (0 ≤ s.2.1) && decide (s.2.1 < old.length))
def ruB (old : List Int) (s : SyT) : Int := if s.1 = true then IntKind.u8.wrap (s.2.2 + gtB old s.2.1.toNat) else s.2.2
def runV (old : List Int) (l : List SyT) : List Int × Int := if l.all (ruOK old) = true then (l.map (ruB old), 0) else ([], 61)
def ctRun : Ctr := ⟨[.sl uB, .sl syS], fun x => List.length x.2.1 < 16777216, fun x => [.win true uB 0 0 (runV x.1 x.2.1).1.length, .int .i64 (runV x.1 x.2.1).2], fun x => [.row 5 uB (runV x.1 x.2.1).1]⟩
abbrev RQ (old : List Int) (l : List SyT) : List SV → List (Nat × LB) → Prop := QC ctRun (old, l, ())
theorem run_bad {old : List Int} {l : List SyT} {i : Nat} (h : i < l.length) (hb : ruOK old l[i] = false) : runV old l = ([], 61) := by
  unfold runV
  rw [if_neg fun q => by
    have := List.all_eq_true.1 q l[i] (List.getElem_mem h)
    rw [hb] at this; cases this]
theorem run_end {old : List Int} {l : List SyT} (hb : runV old l = ([], 61)) {blk : List (Nat × LB)} : RQ old l [.nils, .int .i64 61] blk := by
  refine qc_nilI (e := uB) (et := 5) (z := 61) ?_ ?_ rfl (by decide)
  · show [_, _] = _; rw [hb]; rfl
  · show [_] = _; rw [hb]
theorem run_loop (old : List Int) (l : List SyT) (hl : l.length < 16777216) : ∀ (k i : Nat) (b : List Int), l.length - i = k → i ≤ l.length → b.length = l.length → (∀ j, j < i → b[j]? = (l.map (ruB old))[j]?) → (∀ j (h : j < i) (h2 : j < l.length), ruOK old l[j] = true) →
    GD 16 Tryz.f16 (RQ old l) (hd Tryz.f16 0) ⟨[(0, .sl uB old), (6, .win true uB 11 0 b.length), (12, .sl syS l), (13, .int .i64 l.length), (14, .int .i64 (i : Nat))], [(11, .row 5 uB b)]⟩ := by
  intro k
  induction k with
  | zero =>
    intro i b hk hi hb hj ho
    have hi : i = l.length := by omega
    subst hi
    refine sy_sound cx0 _ _ _ ((vc_runL old b l _ _ _).mpr ?_)
    rw [decide_eq_false (by omega), bc_f]
    have hv : runV old l = (l.map (ruB old), 0) := by
      unfold runV
      rw [if_pos (List.all_eq_true.2 fun s hs => by
        obtain ⟨j, hj, rfl⟩ := List.getElem_of_mem hs
        exact ho j hj hj)]
    have hbl : b = l.map (ruB old) := by
      refine List.ext_getElem? fun j => ?_
      by_cases h : j < l.length
      · exact hj j h
      · rw [List.getElem?_eq_none (by omega), List.getElem?_eq_none (by rw [List.length_map]; omega)]
    refine qc_rowI (e := uB) (et := 5) (a := 11) (z := 0) (xs := b) ?_ ?_ rfl rfl rfl
    · show [_, _] = _; rw [hv, hbl]
    · show [_] = _; rw [hv, hbl]
  | succ k ih =>
    intro i b hk hi hb hj ho
    have hil : i < l.length := by omega
    refine sy_sound cx0 _ _ _ ((vc_runL old b l i _ _).mpr ?_)
    rw [decide_eq_true (show (i : Int) < (l.length : Int) by omega), bc_t, Int.toNat_natCast, gtY_at hil, IntWalk.i64_in ((i : Int) + 1) (by omega), Nat.zero_add]
    have nx : ∀ b' : List Int, b'.length = b.length → (∀ j, j ≠ i → b'[j]? = b[j]?) → b'[i]? = some (ruB old l[i]) → ruOK old l[i] = true → GD 16 Tryz.f16 (RQ old l) (hd Tryz.f16 0) ⟨[(0, .sl uB old), (6, .win true uB 11 0 b'.length), (12, .sl syS l), (13, .int .i64 l.length), (14, .int .i64 ((i + 1 : Nat) : Int))], [(11, .row 5 uB b')]⟩ := fun b' h1 h2 h3 h4 => by
      refine ih (i + 1) b' (by omega) (by omega) (by omega) (fun j h => ?_) (fun j h h' => ?_)
      · by_cases hji : j = i
        · subst hji
          rw [h3, List.getElem?_map, List.getElem?_eq_getElem hil]; rfl
        · rw [h2 j hji]; exact hj j (by omega)
      · by_cases hji : j = i
        · subst hji; exact h4
        · exact ho j (by omega) h'
    generalize hs : l[i] = s at nx
    obtain ⟨f, a, v⟩ := s
    refine ⟨by omega, by omega, by omega, by omega, by omega, bc_of (fun h => ?_) (fun h => bc_of (fun h2 => ⟨rfl, ?_⟩) (fun h2 => bc_of (fun h3 => ?_) (fun h3 => ?_)))⟩
    · have h : f = false := by simpa using h
      subst h
      refine (nx (b.set i v) (by rw [List.length_set]) (fun j hji => by rw [List.getElem?_set_ne (by omega)]) (by rw [List.getElem?_set_self (by omega)]; rfl) rfl).only ⟨rfl, by rw [List.length_set]; rfl, rfl, rfl, rfl, trivial⟩ ⟨rfl, trivial⟩
    · have h : f = true := by simpa using h
      subst h
      have h2 : a < 0 := of_decide_eq_true h2
      exact run_end (run_bad hil (by rw [hs]; simp [ruOK]; omega))
    · have h : f = true := by simpa using h
      subst h
      have h3 : (old.length : Int) ≤ a := of_decide_eq_true h3
      exact run_end (run_bad hil (by rw [hs]; simp [ruOK]; omega))
    · have h : f = true := by simpa using h
      subst h
      have h2 : ¬ a < 0 := of_decide_eq_false h2
      have h3 : ¬ (old.length : Int) ≤ a := of_decide_eq_false h3
      refine ⟨by omega, by omega, by rw [List.length_set]; omega, by show 0 ≤ a; omega, by show a < _; omega, by omega, by omega, by rw [List.length_set]; omega, ?_⟩
      have e : gtB (b.set i v) i = v := by
        rw [gtB_at (by rw [List.length_set]; omega), List.getElem_set_self]
      rw [e]
      refine (nx ((b.set i v).set i (IntKind.u8.wrap (v + gtB old a.toNat))) (by rw [List.length_set, List.length_set]) (fun j hji => by rw [List.getElem?_set_ne (by omega), List.getElem?_set_ne (by omega)]) (by rw [List.getElem?_set_self (by rw [List.length_set]; omega)]; rfl) (by simp [ruOK]; omega)).only ⟨rfl, by rw [List.length_set, List.length_set]; rfl, rfl, rfl, rfl, trivial⟩ ⟨rfl, trivial⟩
theorem run_held : Held Tryz.prog G0 16 ctRun := by
  refine Held.run cx0 (fn := Tryz.f16) rfl rfl ⟨by decide, by decide⟩ ?_
  rintro ⟨old, l, ⟨⟩⟩ hp
  replace hp : l.length < 16777216 := hp
  refine (vc_run old l _ _).mpr ⟨by omega, by omega, ?_, ?_, ?_⟩
  · show (l.length : Int) < 16777216
    omega
  · show (1 : Int) * (l.length : Int) ≤ 281474976710656
    omega
  · exact (run_loop old l hp _ 0 (List.replicate (l.length : Int).toNat 0) rfl (by omega) (by rw [List.length_replicate, Int.toNat_natCast]) (fun j h => by omega) (fun j h => by omega)).only ⟨rfl, by rw [List.length_replicate]; rfl, rfl, rfl, rfl, trivial⟩ ⟨rfl, trivial⟩
def ctR2 : Ctr := ⟨[.sl uB, .sl uB], fun x => List.length x.1 < 1099511627776, fun x => [.bool (decide ((show List Int from x.1) = x.2.1))], fun _ => []⟩
def ctSS : Ctr := ⟨[.sl syS, .sl syS], fun x => List.length x.1 < 1099511627776, fun x => [.bool (decide ((show List SyT from x.1) = x.2.1))], fun _ => []⟩
theorem r2_loop (x y : List Int) (hl : x.length < 1099511627776) (he : x.length = y.length) : ∀ (k i : Nat), x.length - i = k → i ≤ x.length → x.take i = y.take i →
    GD 18 Tryz.f18 (fun rs _ => rs = [.bool (decide (x = y))]) (hd Tryz.f18 0) ⟨[(0, .sl uB x), (1, .sl uB y), (5, .int .i64 (i : Nat))], []⟩ := by
  intro k
  induction k with
  | zero =>
    intro i hk hi ht
    refine sy_sound cx0 _ _ _ ((vc_r2L x y i _ _).mpr ?_)
    rw [decide_eq_false (show ¬ (i : Int) < (x.length : Int) by omega), bc_f]
    rw [List.take_of_length_le (by omega), List.take_of_length_le (by omega)] at ht
    show [SV.bool true] = _
    rw [decide_eq_true ht]
  | succ k ih =>
    intro i hk hi ht
    have hx : i < x.length := by omega
    have hy : i < y.length := by omega
    refine sy_sound cx0 _ _ _ ((vc_r2L x y i _ _).mpr ?_)
    rw [decide_eq_true (show (i : Int) < (x.length : Int) by omega), bc_t, Int.toNat_natCast, gtB_at hx, gtB_at hy, IntWalk.i64_in ((i : Int) + 1) (by omega)]
    refine ⟨by omega, by omega, by omega, by omega, bc_of (fun h => ?_) (fun h => ?_)⟩
    · have h : x[i] ≠ y[i] := of_decide_eq_true h
      show [SV.bool false] = _
      rw [decide_eq_false (fun q => h (by simp only [q]))]
    · have h : ¬ x[i] ≠ y[i] := of_decide_eq_false h
      have h : x[i] = y[i] := by simpa using h
      exact (ih (i + 1) (by omega) (by omega) (by rw [List.take_succ_eq_append_getElem hx, List.take_succ_eq_append_getElem hy, ht, h])).only ⟨rfl, rfl, rfl, trivial⟩ trivial
theorem r2_held : Held Tryz.prog G0 18 ctR2 := by
  refine Held.run cx0 (fn := Tryz.f18) rfl rfl ⟨by decide, by decide⟩ ?_
  rintro ⟨x, y, ⟨⟩⟩ hp
  replace hp : x.length < 1099511627776 := hp
  refine (vc_r2 x y _ _).mpr (bc_of (fun h => ?_) (fun h => ?_))
  · have h : (x.length : Int) ≠ y.length := of_decide_eq_true h
    refine QC.flat ?_ rfl rfl
    show [SV.bool (decide (x = y))] = _
    rw [decide_eq_false (fun q => h (by rw [q]))]
  · have h : ¬ (x.length : Int) ≠ y.length := of_decide_eq_false h
    have h : x.length = y.length := by omega
    exact ((r2_loop x y hp h _ 0 rfl (by omega) rfl).post fun rs blk hq => QC.flat (by rw [hq]; rfl) rfl (by rw [hq]; rfl)).only ⟨rfl, rfl, rfl, trivial⟩ trivial
theorem sy_eq {s t : SyT} : ([Cl.cb s.1, Cl.ci .i64 s.2.1, Cl.ci .u8 s.2.2] = [Cl.cb t.1, Cl.ci .i64 t.2.1, Cl.ci .u8 t.2.2]) ↔ s = t := by
  obtain ⟨a, b, c⟩ := s
  obtain ⟨a', b', c'⟩ := t
  simp
theorem ss_loop (x y : List SyT) (hl : x.length < 1099511627776) (he : x.length = y.length) : ∀ (k i : Nat), x.length - i = k → i ≤ x.length → x.take i = y.take i →
    GD 23 Tryz.f23 (fun rs _ => rs = [.bool (decide (x = y))]) (hd Tryz.f23 0) ⟨[(0, .sl syS x), (1, .sl syS y), (5, .int .i64 (i : Nat))], []⟩ := by
  intro k
  induction k with
  | zero =>
    intro i hk hi ht
    refine sy_sound cx0 _ _ _ ((vc_sSyL x y i _ _).mpr ?_)
    rw [decide_eq_false (show ¬ (i : Int) < (x.length : Int) by omega), bc_f]
    rw [List.take_of_length_le (by omega), List.take_of_length_le (by omega)] at ht
    show [SV.bool true] = _
    rw [decide_eq_true ht]
  | succ k ih =>
    intro i hk hi ht
    have hx : i < x.length := by omega
    have hy : i < y.length := by omega
    refine sy_sound cx0 _ _ _ ((vc_sSyL x y i _ _).mpr ?_)
    rw [decide_eq_true (show (i : Int) < (x.length : Int) by omega), bc_t, Int.toNat_natCast, gtY_at hx, gtY_at hy, IntWalk.i64_in ((i : Int) + 1) (by omega)]
    refine ⟨by omega, by omega, by omega, by omega, bc_of (fun h => ?_) (fun h => ?_)⟩
    · have h : ¬ x[i] = y[i] := fun q => by
        rw [decide_eq_true (sy_eq.2 q)] at h; cases h
      show [SV.bool false] = _
      rw [decide_eq_false (fun q => h (by simp only [q]))]
    · have h : x[i] = y[i] := by
        rw [Bool.not_eq_false'] at h
        exact sy_eq.1 (of_decide_eq_true h)
      exact (ih (i + 1) (by omega) (by omega) (by rw [List.take_succ_eq_append_getElem hx, List.take_succ_eq_append_getElem hy, ht, h])).only ⟨rfl, rfl, rfl, trivial⟩ trivial
theorem ss_held : Held Tryz.prog G0 23 ctSS := by
  refine Held.run cx0 (fn := Tryz.f23) rfl rfl ⟨by decide, by decide⟩ ?_
  rintro ⟨x, y, ⟨⟩⟩ hp
  replace hp : x.length < 1099511627776 := hp
  refine (vc_sSy x y _ _).mpr (bc_of (fun h => ?_) (fun h => ?_))
  · have h : (x.length : Int) ≠ y.length := of_decide_eq_true h
    refine QC.flat ?_ rfl rfl
    show [SV.bool (decide (x = y))] = _
    rw [decide_eq_false (fun q => h (by rw [q]))]
  · have h : ¬ (x.length : Int) ≠ y.length := of_decide_eq_false h
    have h : x.length = y.length := by omega
    exact ((ss_loop x y hp h _ 0 rfl (by omega) rfl).post fun rs blk hq => QC.flat (by rw [hq]; rfl) rfl (by rw [hq]; rfl)).only ⟨rfl, rfl, rfl, trivial⟩ trivial
def soB (x y : OpT) : Bool := decide (x.1 = y.1) && (decide (x.2.1 = y.2.1) && (decide (x.2.2.1 = y.2.2.1) && (decide (x.2.2.2.1 = y.2.2.2.1) && decide (x.2.2.2.2.map toB = y.2.2.2.2.map toB))))
def ctSO : Ctr := ⟨[opS, opS], fun _ => True, fun x => [.bool (soB x.1 x.2.1)], fun _ => []⟩
theorem so_held : Held Tryz.prog G0 51 ctSO := by
  refine Held.run cx0 (fn := Tryz.f51) rfl rfl ⟨by decide, by decide⟩ ?_
  rintro ⟨x, y, ⟨⟩⟩ _
  refine (vc_sameOp x y _ _).mpr ?_
  cases e1 : decide (x.1 = y.1) <;> cases e2 : decide (x.2.1 = y.2.1) <;> cases e3 : decide (x.2.2.1 = y.2.2.1) <;> cases e4 : decide (x.2.2.2.1 = y.2.2.2.1) <;>
    simp only [bc_t, bc_f, cond_true, cond_false, true_and] <;> exact QC.flat (by simp only [ctSO, soB, e1, e2, e3, e4]; rfl) rfl rfl
def ofV (l : List SyT) (m : Int) : PaT × Int := if szB m = true ∧ szB l.length = true ∧ l.all (sOK m) = true then (if 4096 < (opsL l).length then ((false, 0, 0, []), 2) else ((false, m, l.length, opsL l), 0)) else ((false, 0, 0, []), 60)
def paV (p : PaT) : SV := .agg [.bool p.1, .int .i64 p.2.1, .int .i64 p.2.2.1, .sl opS p.2.2.2]
def ctOf : Ctr := ⟨[.sl syS, iI], fun x => preMd x.1, fun x => [paV (ofV x.1 x.2.1).1, .int .i64 (ofV x.1 x.2.1).2], fun _ => []⟩
theorem of_held : Held Tryz.prog G0 20 ctOf := by
  refine Held.run dxF (fn := Tryz.f20) rfl rfl ⟨by decide, by decide⟩ ?_
  rintro ⟨l, m, ⟨⟩⟩ hp
  replace hp : preMd l := hp
  obtain ⟨p0, p1⟩ := hp
  have bad : ¬ (szB m = true ∧ szB l.length = true ∧ l.all (sOK m) = true) → ofV l m = ((false, 0, 0, []), 60) := fun q => if_neg q
  refine (vc_of l m _ _).mpr ⟨trivial, bc_of (fun h => ⟨rfl, rfl, ?_⟩) (fun h => ⟨trivial, bc_of (fun h2 => ⟨rfl, ?_⟩) (fun h2 => ⟨(show l.length < 1099511627776 by omega), bc_of (fun h3 => ?_) (fun h3 => ⟨⟨p0, p1⟩, bc_of (fun h4 => ?_) (fun h4 => ?_)⟩)⟩)⟩)⟩
  · have h : (!szB m) = true := h
    have hv := bad fun q => by rw [q.1] at h; cases h
    exact QC.mt (by show MtL _ [paV (ofV l m).1, .int .i64 (ofV l m).2] _; rw [hv]; exact ⟨_, _, rfl, ⟨_, rfl, _, _, rfl, rfl, _, _, rfl, rfl, _, _, rfl, rfl, _, _, rfl, .inr ⟨rfl, rfl⟩, rfl⟩, _, _, rfl, rfl, rfl⟩) rfl
  · have h2 : (!szB l.length) = true := h2
    have hv := bad fun q => by rw [q.2.1] at h2; cases h2
    exact QC.mt (by show MtL _ [paV (ofV l m).1, .int .i64 (ofV l m).2] _; rw [hv]; exact ⟨_, _, rfl, ⟨_, rfl, _, _, rfl, rfl, _, _, rfl, rfl, _, _, rfl, rfl, _, _, rfl, .inr ⟨rfl, rfl⟩, rfl⟩, _, _, rfl, rfl, rfl⟩) rfl
  · have h3 : (!l.all (sOK m)) = true := h3
    have hv := bad fun q => by rw [q.2.2] at h3; cases h3
    exact QC.mt (by show MtL _ [paV (ofV l m).1, .int .i64 (ofV l m).2] _; rw [hv]; exact ⟨_, _, rfl, ⟨_, rfl, _, _, rfl, rfl, _, _, rfl, rfl, _, _, rfl, rfl, _, _, rfl, .inr ⟨rfl, rfl⟩, rfl⟩, _, _, rfl, rfl, rfl⟩) rfl
  all_goals
    have h : (!szB m) = false := h
    have h2 : (!szB l.length) = false := h2
    have h3 : (!l.all (sOK m)) = false := h3
    have hg : szB m = true ∧ szB l.length = true ∧ l.all (sOK m) = true := ⟨by simpa using h, by simpa using h2, by simpa using h3⟩
  · have h4 : (4096 : Int) < ((opsL l).length : Int) := of_decide_eq_true h4
    have hv : ofV l m = ((false, 0, 0, []), 2) := by unfold ofV; rw [if_pos hg, if_pos (by omega)]
    exact QC.mt (by show MtL _ [paV (ofV l m).1, .int .i64 (ofV l m).2] _; rw [hv]; exact ⟨_, _, rfl, ⟨_, rfl, _, _, rfl, rfl, _, _, rfl, rfl, _, _, rfl, rfl, _, _, rfl, .inr ⟨rfl, rfl⟩, rfl⟩, _, _, rfl, rfl, rfl⟩) rfl
  · have h4 : ¬ (4096 : Int) < ((opsL l).length : Int) := of_decide_eq_false h4
    have hv : ofV l m = (((false, m, (l.length : Int), opsL l) : PaT), (0 : Int)) := by unfold ofV; rw [if_pos hg, if_neg (by omega)]
    exact QC.flat (by show [paV (ofV l m).1, .int .i64 (ofV l m).2] = _; rw [hv]; rfl) rfl rfl
end Go.Proofs.YtikikmhlicoheaaGreatDoor
