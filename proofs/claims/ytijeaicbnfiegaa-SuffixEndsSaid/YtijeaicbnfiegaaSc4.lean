/-
  A part of the proof: what a piece of the program gives; conditions: those of each theorem.
-/
import Derived.Test.YtijeaicbnfiegaaSc3
set_option linter.unusedVariables false
namespace Go.Proofs.Ytijeaicbnfiegaa
open Go.Px Go.Ax
/-- How many come before i. -/
def posN (b : List Int) (l : List Nat) (i : Nat) : Nat := (l.takeWhile fun k => sl b k i).length
theorem posN_le (b : List Int) (l : List Nat) (i : Nat) : posN b l i ≤ l.length := (List.takeWhile_sublist _).length_le
theorem takeWhile_all {p : Nat → Bool} : ∀ {l : List Nat} {k : Nat} (_h : k < (l.takeWhile p).length) (hk : k < l.length), p l[k] = true
  | [], k, h, _ => by simp at h
  | a :: l, k, h, hk => by
    cases ha : p a with
    | false => simp [List.takeWhile, ha] at h
    | true =>
      rw [List.takeWhile_cons_of_pos ha, List.length_cons] at h
      cases k with
      | zero => exact ha
      | succ k => exact takeWhile_all (l := l) (by omega) (by simpa using hk)
theorem takeWhile_stop {p : Nat → Bool} : ∀ {l : List Nat} (hk : (l.takeWhile p).length < l.length), p l[(l.takeWhile p).length] = false
  | [], h => by simp at h
  | a :: l, h => by
    cases ha : p a with
    | false => simp [List.takeWhile, ha]
    | true =>
      simp only [List.takeWhile_cons_of_pos ha, List.length_cons] at h ⊢
      exact takeWhile_stop (l := l) (by omega)
theorem takeWhile_take {p : Nat → Bool} : ∀ l : List Nat, l.takeWhile p = l.take (l.takeWhile p).length
  | [] => rfl
  | a :: l => by
    cases ha : p a with
    | false => simp [List.takeWhile, ha]
    | true => rw [List.takeWhile_cons_of_pos ha, List.length_cons, List.take_succ_cons, ← takeWhile_take l]
theorem dropWhile_drop {p : Nat → Bool} : ∀ l : List Nat, l.dropWhile p = l.drop (l.takeWhile p).length
  | [] => rfl
  | a :: l => by
    cases ha : p a with
    | false => simp [List.takeWhile, List.dropWhile, ha]
    | true => rw [List.takeWhile_cons_of_pos ha, List.dropWhile_cons_of_pos ha, List.length_cons, List.drop_succ_cons, ← dropWhile_drop l]
theorem insN_eq (b : List Int) (l : List Nat) (i : Nat) : insN b l i = l.take (posN b l i) ++ i :: l.drop (posN b l i) := by
  unfold insN posN
  rw [← takeWhile_take, ← dropWhile_drop]
theorem mapI_ins (b : List Int) (l : List Nat) (i : Nat) : mapI (insN b l i) = (mapI l).take (posN b l i) ++ (i : Int) :: (mapI l).drop (posN b l i) := by
  rw [insN_eq]
  simp [mapI]
theorem winL_eq (l : List Int) (a n : Nat) : winL (Sh.int .i64) a n l = (l.drop a).take n := rfl
def ordB (b : List Int) : List Nat := ordN b b.length
theorem ordN_len (b : List Int) (n : Nat) : (ordN b n).length = n := by simpa using (ordN_perm b n).length_eq
def preLen (n : Nat) : Prop := n < 1048576
def ctOrd : Ctr := ⟨[slB], fun x => preLen (List.length x.1), fun x => [.win true (.int .i64) 0 0 (List.length (mapI (ordB x.1)))], fun x => [.row 3 (.int .i64) (mapI (ordB x.1))]⟩
abbrev QO (b : List Int) : List SV → List (Nat × LB) → Prop := fun rs blk => rs = [.win true (.int .i64) 7 0 b.length] ∧ lk blk 7 = some (.row 3 (.int .i64) (mapI (ordB b)))
abbrev SO (b : List Int) (i : Nat) : PS := ⟨[(0, .sl (.int .u8) b), (3, .win true (.int .i64) 7 0 (mapI (ordN b i)).length), (4, .int .i64 (i : Int))], [(7, .row 3 (.int .i64) (mapI (ordN b i)))]⟩
theorem ord_in {b : List Int} (hb : b.length < 1048576) {i : Nat} (hi : i < b.length) (hn : GD 12 Try.f12 (QO b) (hd Try.f12 0) (SO b (i + 1))) : ∀ (m k : Nat), posN b (ordN b i) i - k ≤ m → k ≤ posN b (ordN b i) i →
    GD 12 Try.f12 (QO b) (hd Try.f12 1) ⟨[(0, .sl (.int .u8) b), (3, .win true (.int .i64) 7 0 (mapI (ordN b i)).length), (4, .int .i64 (i : Int)), (5, .int .i64 (k : Int))], [(7, .row 3 (.int .i64) (mapI (ordN b i)))]⟩ := by
  have hol := ordN_len b i
  have hml : (mapI (ordN b i)).length = i := by rw [mapI_len, hol]
  have hpl := posN_le b (ordN b i) i
  have hin : ∀ k (hk : k < (ordN b i).length), (ordN b i)[k] < i := fun k hk => by simpa using (ordN_perm b i).mem_iff.1 (List.getElem_mem hk)
  have hlast : ∀ {A : Prop}, ((0 : Int) ≤ (posN b (ordN b i) i : Int) ∧ (posN b (ordN b i) i : Int) ≤ (i : Int)) := ⟨by omega, by omega⟩
  intro m
  induction m with
  | zero =>
    intro k hm h1
    obtain rfl : k = posN b (ordN b i) i := by omega
    refine sy_go cx1 (vc_ordI _ _ _ _ _ _) ?_
    have hset : (List.replicate 1 (Sh.int .i64).dflt).set 0 (i : Int) = [(i : Int)] := rfl
    have hnl : (mapI (ordN b (i + 1))).length = i + 1 := by rw [mapI_len, ordN_len]
    have hni : mapI (ordN b (i + 1)) = (mapI (ordN b i)).take (posN b (ordN b i) i) ++ [(i : Int)] ++ (mapI (ordN b i)).drop (posN b (ordN b i) i) := by
      rw [ordN_succ, mapI_ins]; simp
    have htk : (List.drop (posN b (ordN b i) i) (mapI (ordN b i))).take (i - posN b (ordN b i) i) = List.drop (posN b (ordN b i) i) (mapI (ordN b i)) := List.take_of_length_le (by rw [List.length_drop, hml]; exact Nat.le_refl _)
    rw [hset]
    dsimp only [Sh.D, mkT, winL]
    simp only [Nat.zero_add, Nat.sub_zero, List.replicate_zero, List.nil_append, Int.toNat_natCast, hml, List.length_drop, List.length_take, List.drop_zero, List.length_append, List.length_cons, List.length_nil, List.take_succ_cons, List.take_zero, htk, IntWalk.i64_in ((i : Int) + 1) (show _ ∧ _ by omega)]
    refine bc_of (fun h => ?_) (fun h => ?_)
    · have h := of_decide_eq_true h
      have hpk : posN b (ordN b i) i < (ordN b i).length := by omega
      have g : gt (Sh.int .i64) (mapI (ordN b i)) (posN b (ordN b i) i) = (((ordN b i)[posN b (ordN b i) i] : Nat) : Int) := gt_mapI hpk
      have hlt := hin _ hpk
      have hp : lexLt (List.drop (ordN b i)[posN b (ordN b i) i] b) (List.drop i b) = false := takeWhile_stop (p := fun k => sl b k i) hpk
      simp only [g, Int.toNat_natCast, hp]
      refine ⟨by omega, h, by omega, by omega, by omega, by omega, by omega, ⟨?_, ?_⟩, ?_⟩
      · show List.length (b.drop _) < 2 ^ 62
        rw [List.length_drop]; omega
      · show List.length (b.drop _) < 2 ^ 62
        rw [List.length_drop]; omega
      · rw [show (bif true then false else false) = false from rfl, bc_f]
        repeat (refine ⟨by first | trivial | omega, ?_⟩)
        refine hn.onlyR [(7, 45)] rfl ⟨rfl, ?_, rfl, trivial⟩ ⟨?_, trivial⟩
        · exact congrArg (fun z => some (SV.win true (.int .i64) 45 0 z)) (by rw [hnl]; omega)
        · exact congrArg (fun z => some (LB.row 3 (.int .i64) z)) hni.symm
    · repeat (refine ⟨by first | trivial | omega, ?_⟩)
      refine hn.onlyR [(7, 45)] rfl ⟨rfl, ?_, rfl, trivial⟩ ⟨?_, trivial⟩
      · exact congrArg (fun z => some (SV.win true (.int .i64) 45 0 z)) (by rw [hnl]; omega)
      · exact congrArg (fun z => some (LB.row 3 (.int .i64) z)) hni.symm
  | succ m ih =>
    intro k hm h1
    by_cases hk : k < posN b (ordN b i) i
    · refine sy_go cx1 (vc_ordI _ _ _ _ _ _) ?_
      have hkl : k < (ordN b i).length := by omega
      have g : gt (Sh.int .i64) (mapI (ordN b i)) (0 + (k : Int).toNat) = (((ordN b i)[k] : Nat) : Int) := by rw [Nat.zero_add]; exact gt_mapI hkl
      have hlt := hin k hkl
      have hp : lexLt (List.drop (ordN b i)[k] b) (List.drop i b) = true := takeWhile_all (p := fun k => sl b k i) hk hkl
      rw [g, hml, decide_eq_true (show (k : Int) < (i : Int) by omega), bc_t]
      simp only [Int.toNat_natCast]
      rw [hp, cond_true, bc_t, IntWalk.i64_in ((k : Int) + 1) (by omega)]
      dsimp only [Sh.D]
      refine ⟨by omega, by omega, by omega, by omega, by omega, by omega, by omega, ⟨?_, ?_⟩, ?_⟩
      · show List.length (b.drop _) < 2 ^ 62
        rw [List.length_drop]; omega
      · show List.length (b.drop _) < 2 ^ 62
        rw [List.length_drop]; omega
      · refine (ih (k + 1) (by omega) (by omega)).only ⟨rfl, ?_, rfl, rfl, trivial⟩ ⟨rfl, trivial⟩
        rw [hml]; rfl
    · exact ih k (by omega) h1
theorem ord_out {b : List Int} (hb : b.length < 1048576) : ∀ (m i : Nat), b.length - i ≤ m → i ≤ b.length → GD 12 Try.f12 (QO b) (hd Try.f12 0) (SO b i) := by
  intro m
  induction m with
  | zero =>
    intro i hm h1
    obtain rfl : i = b.length := by omega
    refine sy_go cx1 (vc_ordO _ _ _ _ _) (bc_of (fun h => ?_) (fun h => ?_))
    · have h := of_decide_eq_true h; omega
    · exact ⟨by rw [mapI_len, ordN_len], rfl⟩
  | succ m ih =>
    intro i hm h1
    by_cases hi : i < b.length
    · refine sy_go cx1 (vc_ordO _ _ _ _ _) ?_
      rw [decide_eq_true (show (i : Int) < (b.length : Int) by omega), bc_t]
      exact (ord_in hb hi (ih (i + 1) (by omega) (by omega)) _ 0 (Nat.le_refl _) (Nat.zero_le _)).only ⟨rfl, rfl, rfl, rfl, trivial⟩ ⟨rfl, trivial⟩
    · exact ih i (by omega) h1
theorem ord_run (b : List Int) (hp : preLen b.length) : sy tt G0 C1 Try.f12.ntmps Try.f12.results.toList (QC ctOrd (b, ())) (Px.Good Try.prog tt G0 12 Try.f12.ntmps Try.f12.results.toList (QC ctOrd (b, ()))) 1000 [.code (bodyOf Try.f12)] (entry [slB] (b, ())) := by
  refine (vc_ord _ _ _).mpr ?_
  refine ((ord_out hp _ 0 (Nat.le_refl _) (by omega)).post fun rs blk h => ?_).only ⟨rfl, rfl, rfl, trivial⟩ ⟨rfl, trivial⟩
  exact QC.row (e := .int .i64) (et := 3) (a := 7) (k := b.length) (xs := mapI (ordB b)) rfl rfl h.1 (by rw [mapI_len, ordB, ordN_len]) h.2
theorem ord_held : Held Try.prog G0 12 ctOrd := Held.run cx1 (fn := Try.f12) rfl rfl ⟨by decide, by decide⟩ fun x hp => ord_run x.1 hp
theorem ints_loop (a b : List Int) (hl : a.length = b.length) (ha : a.length < 2 ^ 62) : ∀ (m i : Nat), a.length - i ≤ m → i ≤ a.length →
    GD 13 Try.f13 (fun rs _ => rs = [.bool (decide (a.drop i = b.drop i))]) (hd Try.f13 0) ⟨[(0, .sl (.int .i64) a), (1, .sl (.int .i64) b), (5, .int .i64 (i : Int))], []⟩ := by
  intro m
  induction m with
  | zero =>
    intro i hm h1
    refine sy_go cx0 (vc_intsL a b i _ _) (bc_of (fun h => ?_) (fun h => ?_))
    · have h := of_decide_eq_true h; omega
    · show [SV.bool _] = [SV.bool _]
      rw [List.drop_eq_nil_of_le (show a.length ≤ i by omega), List.drop_eq_nil_of_le (show b.length ≤ i by omega), decide_eq_true rfl]
  | succ m ih =>
    intro i hm h1
    by_cases hi : i < a.length
    · refine sy_go cx0 (vc_intsL a b i _ _) ?_
      have hib : i < b.length := by omega
      have g1 : gt (Sh.int .i64) a (i : Int).toNat = a[i] := gt_eq hi
      have g2 : gt (Sh.int .i64) b (i : Int).toNat = b[i] := gt_eq hib
      rw [g1, g2, decide_eq_true (show (i : Int) < (a.length : Int) by omega), bc_t]
      refine ⟨by omega, by omega, by omega, by omega, bc_of (fun h => ?_) (fun h => ?_)⟩
      · have h := of_decide_eq_true h
        show [SV.bool _] = [SV.bool _]
        rw [dropc hi, dropc hib, decide_eq_false (by simp only [List.cons.injEq]; exact fun q => h q.1)]
      · have h : a[i] = b[i] := by simpa using of_decide_eq_false h
        rw [IntWalk.i64_in ((i : Int) + 1) (by omega)]
        have e : decide (a.drop i = b.drop i) = decide (a.drop (i + 1) = b.drop (i + 1)) := by rw [dropc hi, dropc hib, h]; simp only [List.cons.injEq, true_and]
        rw [e]
        exact (ih (i + 1) (by omega) (by omega)).only ⟨rfl, rfl, rfl, trivial⟩ trivial
    · exact ih i (by omega) h1
def ctInts : Ctr := ⟨[slI, slI], fun x => preTwo (List.length x.1) (List.length x.2.1), fun x => [.bool (decide ((x.1 : List Int) = x.2.1))], fun _ => []⟩
theorem ints_run (a b : List Int) (hp : preTwo a.length b.length) : sy tt G0 [] Try.f13.ntmps Try.f13.results.toList (QC ctInts (a, b, ())) (Px.Good Try.prog tt G0 13 Try.f13.ntmps Try.f13.results.toList (QC ctInts (a, b, ()))) 1000 [.code (bodyOf Try.f13)] (entry [slI, slI] (a, b, ())) := by
  refine (vc_ints _ _ _ _).mpr (bc_of (fun h => ?_) (fun h => ?_))
  · have h : (a.length : Int) ≠ b.length := of_decide_eq_true h
    refine QC.flat ?_ rfl rfl
    show [SV.bool (decide (a = b))] = _
    rw [decide_eq_false (fun e => h (by rw [e]))]
  · have h : (a.length : Int) = b.length := by simpa using of_decide_eq_false h
    exact ((ints_loop a b (by omega) hp.1 _ 0 (Nat.le_refl _) (by omega)).post fun rs blk hq => QC.flat (by rw [hq]; rfl) rfl (by rw [hq]; rfl)).only ⟨rfl, rfl, rfl, trivial⟩ trivial
theorem ints_held : Held Try.prog G0 13 ctInts := Held.run cx0 (fn := Try.f13) rfl rfl ⟨by decide, by decide⟩ fun x hp => ints_run x.1 x.2.1 hp
def C3 : CV := (13, .inl ctInts) :: (12, .inl ctOrd) :: (17, .inl ctCom) :: C2
theorem cx3 : CxOK Try.prog tt G0 C3 := ((cx2.cons com_held (fn := Try.f17) rfl rfl rfl).cons ord_held (fn := Try.f12) rfl rfl rfl).cons ints_held (fn := Try.f13) rfl rfl rfl
end Go.Proofs.Ytijeaicbnfiegaa
