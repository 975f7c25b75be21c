/-
  A part of the proof: what a piece of the program gives; conditions: those of each theorem.
-/
import Derived.Test.YtijeaicbnfiegaaSv29
set_option linter.unusedVariables false
namespace Go.Proofs.Ytijeaicbnfiegaa
open Go.Px Go.Ax
theorem lex_end : ∀ a c : List Int, (∀ v ∈ a, 0 < v) → (∀ v ∈ c, 0 < v) → lexLt (a ++ [0]) (c ++ [0]) = lexLt a c
  | [], [], _, _ => rfl
  | [], y :: c, _, h => by
    have := h y (List.mem_cons_self ..)
    rw [List.nil_append, List.cons_append, show lexLt [] (y :: c) = true from rfl, lexLt, if_neg (by omega)]
    exact decide_eq_true this
  | x :: a, [], h, _ => by
    have := h x (List.mem_cons_self ..)
    rw [List.nil_append, List.cons_append, show lexLt (x :: a) [] = false from rfl, lexLt, if_neg (by omega)]
    exact decide_eq_false (by omega)
  | x :: a, y :: c, h, k => by
    rw [List.cons_append, List.cons_append, lexLt, lexLt]
    split
    · exact lex_end a c (fun v hv => h v (List.mem_cons_of_mem _ hv)) (fun v hv => k v (List.mem_cons_of_mem _ hv))
    · rfl
theorem ord_end {x : List Int} (hx : ∀ v ∈ x, 0 < v) : ordB (x ++ [0]) = x.length :: ordB x := by
  have ho := ordN_ok x
  have hd : ∀ {i}, i < x.length → (x ++ [0]).drop i = x.drop i ++ [0] := fun h => List.drop_append_of_le_length (by omega)
  have hm : ∀ {i}, ∀ v ∈ x.drop i, 0 < v := fun v hv => hx v (List.mem_of_mem_drop hv)
  refine (ordN_ok (x ++ [0])).unique ⟨?_, List.pairwise_cons.2 ⟨fun i hi => ?_, ?_⟩⟩
  · rw [List.length_append, show x.length + [(0 : Int)].length = x.length + 1 from rfl, List.range_succ]
    exact (ho.perm.cons x.length).trans (List.perm_append_comm (l₁ := [x.length]))
  · have hi := ho.lt hi
    unfold sl
    rw [hd hi, List.drop_append_of_le_length (Nat.le_refl _), List.drop_length, List.drop_eq_getElem_cons hi]
    have := hx _ (List.getElem_mem hi)
    rw [List.nil_append, List.cons_append, lexLt, if_neg (by omega)]
    exact decide_eq_true this
  · refine ho.sorted.imp_of_mem fun {i j} hi hj hs => ?_
    unfold sl at hs ⊢
    rw [hd (ho.lt hi), hd (ho.lt hj), lex_end _ _ hm hm]
    exact hs
theorem ord_cons (c : Int) (x : List Int) : (ordB (c :: x)).filter (fun i => decide (i ≠ 0)) = (ordB x).map (· + 1) := by
  have hp := ordN_ok (c :: x)
  have key : OrdOK x (((ordB (c :: x)).filter (fun i => decide (i ≠ 0))).map (· - 1)) := by
    constructor
    · have := (hp.perm.filter (fun i => decide (i ≠ 0))).map (· - 1)
      refine this.trans ?_
      rw [List.length_cons, List.range_succ_eq_map, List.filter_cons_of_neg (by simp)]
      rw [List.filter_eq_self.2 (by simp), List.map_map]
      have : ((fun x : Nat => x - 1) ∘ Nat.succ) = id := by funext k; simp
      rw [this, List.map_id]
    · rw [List.pairwise_map]
      refine (hp.sorted.filter (fun i => decide (i ≠ 0))).imp_of_mem fun {i j} hi hj hs => ?_
      have hi := of_decide_eq_true (List.mem_filter.1 hi).2
      have hj := of_decide_eq_true (List.mem_filter.1 hj).2
      obtain ⟨i, rfl⟩ : ∃ k, i = k + 1 := ⟨i - 1, by omega⟩
      obtain ⟨j, rfl⟩ : ∃ k, j = k + 1 := ⟨j - 1, by omega⟩
      exact hs
  have e := key.unique (ordN_ok x)
  rw [show ordB x = ordN x x.length from rfl, ← e, List.map_map]
  conv => lhs; rw [← List.map_id (List.filter _ _)]
  refine List.map_congr_left fun i hi => ?_
  have hi := of_decide_eq_true (List.mem_filter.1 hi).2
  simp only [Function.comp, id]
  omega
abbrev cntN (p : List Nat) (i : Nat) : Nat := ((p.take i).filter (fun i => decide (i ≠ 0))).length
theorem cnt_succ {p : List Nat} {i : Nat} (h : i < p.length) : cntN p (i + 1) = cntN p i + if p[i] ≠ 0 then 1 else 0 := by
  unfold cntN
  rw [List.take_add_one, List.getElem?_eq_getElem h, List.filter_append, List.length_append]
  by_cases e : p[i] = 0 <;> simp [e]
theorem cnt_at {p o : List Nat} (hf : p.filter (fun i => decide (i ≠ 0)) = o.map (· + 1)) {i : Nat} (h : i < p.length) (hz : p[i] ≠ 0) : ∃ hj : cntN p i < o.length, p[i] = o[cntN p i] + 1 := by
  have e : p = p.take i ++ p[i] :: p.drop (i + 1) := by rw [← List.drop_eq_getElem_cons h, List.take_append_drop]
  have hf2 : (p.take i).filter (fun i => decide (i ≠ 0)) ++ p[i] :: (p.drop (i + 1)).filter (fun i => decide (i ≠ 0)) = o.map (· + 1) := by
    rw [← hf]
    conv => rhs; rw [e]
    rw [List.filter_append, List.filter_cons_of_pos (by simpa using hz)]
  have hl := congrArg List.length hf2
  rw [List.length_append, List.length_cons, List.length_map] at hl
  have hj : cntN p i < o.length := by unfold cntN; omega
  refine ⟨hj, ?_⟩
  have q : (o.map (· + 1))[cntN p i]? = some p[i] := by
    rw [← hf2, List.getElem?_append_right (Nat.le_refl _), Nat.sub_self]; rfl
  rw [List.getElem?_map, List.getElem?_eq_getElem hj] at q
  simpa using q.symm
theorem l8_in {o p : List Nat} (ho : o.length < 1000) (hop : p.length ≤ o.length + 1) (hb : ∀ i ∈ o, i < 1000) (hf : p.filter (fun i => decide (i ≠ 0)) = o.map (· + 1)) : ∀ (m i : Nat), p.length - i ≤ m → i ≤ p.length →
    GD 8 Try.f8 (fun rs _ => rs = [.bool true]) (hd Try.f8 1) ⟨[(5, .bool true), (8, .win true (.int .i64) 1147456 0 (mapI o).length), (12, .win true (.int .i64) 1200704 0 (mapI p).length), (13, .int .i64 ((cntN p i : Nat) : Int)), (14, .int .i64 (i : Int))], [(1147456, .row 3 (.int .i64) (mapI o)), (1200704, .row 3 (.int .i64) (mapI p))]⟩ := by
  have fin : GD 8 Try.f8 (fun rs _ => rs = [.bool true]) (hd Try.f8 1) ⟨[(5, .bool true), (8, .win true (.int .i64) 1147456 0 (mapI o).length), (12, .win true (.int .i64) 1200704 0 (mapI p).length), (13, .int .i64 ((cntN p p.length : Nat) : Int)), (14, .int .i64 (p.length : Int))], [(1147456, .row 3 (.int .i64) (mapI o)), (1200704, .row 3 (.int .i64) (mapI p))]⟩ := by
    refine sy_goK cxd7 (vc_law8B _ _ _ _ _ _) (bc_of (fun h => ?_) (fun h => ?_))
    · have h := of_decide_eq_true h; rw [mapI_len] at h; omega
    · have e : cntN p p.length = o.length := by
        unfold cntN
        rw [List.take_length, hf, List.length_map]
      rw [e, mapI_len, decide_eq_true rfl]
      rfl
  intro m
  induction m with
  | zero =>
    intro i hm h1
    obtain rfl : i = p.length := by omega
    exact fin
  | succ m ih =>
    intro i hm h1
    by_cases hi : i < p.length
    · refine sy_goK cxd7 (vc_law8B _ _ _ _ _ _) ?_
      have g : gt (Sh.int .i64) (mapI p) (0 + i) = ((p[i] : Nat) : Int) := by rw [Nat.zero_add]; exact gt_mapI hi
      have w : IntKind.i64.wrap ((i : Int) + 1) = ((i + 1 : Nat) : Int) := by rw [IntWalk.i64_in _ (by omega)]; omega
      have cs := cnt_succ hi
      have q := ih (i + 1) (by omega) (by omega)
      rw [cs] at q
      rw [Int.toNat_natCast, Int.toNat_natCast, g, w, mapI_len, mapI_len, decide_eq_true (show (i : Int) < (p.length : Int) by omega), bc_t]
      rw [mapI_len, mapI_len] at q
      refine ⟨by omega, by omega, by omega, bc_of (fun h => ?_) (fun h => ?_)⟩
      · have h : ((p[i] : Nat) : Int) = 0 := of_decide_eq_true h
        rw [if_neg (by omega)] at q
        exact q.only ⟨rfl, rfl, rfl, rfl, rfl, trivial⟩ ⟨rfl, rfl, trivial⟩
      · have h : ¬ (((p[i] : Nat) : Int) = 0) := of_decide_eq_false h
        obtain ⟨hj, he⟩ := cnt_at hf hi (by omega)
        rw [if_pos (by omega)] at q
        have go : gt (Sh.int .i64) (mapI o) (0 + cntN p i) = ((o[cntN p i] : Nat) : Int) := by rw [Nat.zero_add]; exact gt_mapI hj
        have hbo := hb _ (List.getElem_mem hj)
        have w2 : IntKind.i64.wrap (((o[cntN p i] : Nat) : Int) + 1) = ((p[i] : Nat) : Int) := by rw [IntWalk.i64_in _ (by omega), he]; omega
        have w3 : IntKind.i64.wrap (((cntN p i : Nat) : Int) + 1) = ((cntN p i + 1 : Nat) : Int) := by rw [IntWalk.i64_in _ (by omega)]; omega
        rw [go, w2, w3, decide_eq_false (show ¬ ((o.length : Int) ≤ ((cntN p i : Nat) : Int)) by omega), bc_f]
        refine ⟨by omega, by omega, by omega, by omega, by omega, by omega, ?_⟩
        rw [cond_false, decide_eq_false (fun hh => hh rfl), bc_f]
        exact q.only ⟨rfl, rfl, rfl, rfl, rfl, trivial⟩ ⟨rfl, rfl, trivial⟩
    · obtain rfl : i = p.length := by omega
      exact fin
theorem E_succ {b : List Int} {i : Nat} (h : i < b.length) : ((b.take (i + 1)).map fun v => max v 1) = ((b.take i).map fun v => max v 1) ++ [max b[i] 1] := by
  rw [List.take_add_one, List.map_append, List.getElem?_eq_getElem h]
  rfl
abbrev E8 (b : List Int) (i : Nat) : List Int := (b.take i).map fun v => max v 1
set_option maxRecDepth 100000 in
theorem l8_out {b : List Int} (hb : bytesOK b) {c : Int} (hc : 0 ≤ c ∧ c < 256) : ∀ (q i : Nat), 200 - i ≤ q → i ≤ b.length → i ≤ 200 →
    GD 8 Try.f8 (fun rs _ => rs = [.bool true]) (hd Try.f8 0) ⟨[(0, .sl (.int .u8) b), (1, .int .u8 c), (5, .bool true), (6, .win true (.int .u8) 16 0 (E8 b i).length), (7, .int .i64 (i : Int))], [(16, .row 5 (.int .u8) (E8 b i))]⟩ := by
  have base : ∀ i, i ≤ b.length → i ≤ 200 → (b.length ≤ i ∨ 200 ≤ i) → GD 8 Try.f8 (fun rs _ => rs = [.bool true]) (hd Try.f8 0) ⟨[(0, .sl (.int .u8) b), (1, .int .u8 c), (5, .bool true), (6, .win true (.int .u8) 16 0 (E8 b i).length), (7, .int .i64 (i : Int))], [(16, .row 5 (.int .u8) (E8 b i))]⟩ := by
    intro i hi1 hi2 hi
    refine sy_goK cxd7 (vc_law8A _ _ _ _ _ _) ?_
    have hxl : (E8 b i).length = i := by rw [List.length_map, List.length_take]; omega
    have hm : ∀ v ∈ E8 b i, 0 < v ∧ v < 256 := fun v hv => by
      obtain ⟨k, hk, rfl⟩ := List.mem_map.1 hv
      have := hb k (List.mem_of_mem_take hk)
      omega
    generalize E8 b i = x at hxl hm
    have r1 : (List.replicate 1 (Sh.int .u8).dflt).set 0 c = [c] := rfl
    have r2 : winL (Sh.int .u8) 0 1 ((List.replicate 1 (Sh.int .u8).dflt).set 0 (0 : Int)) = [0] := rfl
    have w1 := winAll (e := .int .u8) x
    have wA : winL (Sh.int .u8) 0 (0 + x.length + (winL (Sh.int .u8) 0 1 ((List.replicate 1 (Sh.int .u8).dflt).set 0 (0 : Int))).length) (List.replicate 0 (Sh.int .u8).dflt ++ x ++ winL (Sh.int .u8) 0 1 ((List.replicate 1 (Sh.int .u8).dflt).set 0 (0 : Int))) = x ++ [0] := by
      rw [r2]
      have := winAll (e := .int .u8) (x ++ [0])
      rw [List.length_append] at this
      rw [Nat.zero_add]
      exact this
    have wB : winL (Sh.int .u8) 0 (1 + x.length) ((List.replicate 1 (Sh.int .u8).dflt).set 0 c ++ x) = c :: x := by
      have := winAll (e := .int .u8) (c :: x)
      rw [List.length_cons] at this
      rw [Nat.add_comm]
      exact this
    have r3 : 0 + x.length + [(0 : Int)].length = (x ++ [0]).length := by rw [List.length_append]; omega
    have r4 : 1 + x.length = (c :: x).length := by rw [List.length_cons]; omega
    have w2 := winAll (e := .int .u8) (x ++ [0])
    have w3 := winAll (e := .int .u8) (c :: x)
    have n1 : (ordB x).length = x.length := ordB_len x
    have n2 : (mapI (ordB (x ++ [0]))).length = x.length + 1 := by rw [mapI_len, ordB_len, List.length_append]; rfl
    have n3 : (mapI (ordB (c :: x))).length = x.length + 1 := by rw [mapI_len, ordB_len]; rfl
    have n0 : (mapI (ordB x)).length = x.length := by rw [mapI_len, n1]
    have wr : IntKind.i64.wrap ((x.length : Int) + 1) = ((x.length + 1 : Nat) : Int) := by rw [IntWalk.i64_in _ (by omega)]; omega
    have oe := ord_end (x := x) (fun v hv => (hm v hv).1)
    have wC : gt (Sh.int .i64) (mapI (ordB (x ++ [0]))) (0 + Int.toNat 0) = ((x.length : Nat) : Int) := by rw [oe]; rfl
    have wD : winL (Sh.int .i64) (0 + Int.toNat 1) (x.length + 1 - Int.toNat 1) (mapI (ordB (x ++ [0]))) = mapI (ordB x) := by
      rw [oe]
      show (mapI (ordB x)).take x.length = _
      exact List.take_of_length_le (by rw [n0]; exact Nat.le_refl _)
    have wE : winL (Sh.int .i64) 0 x.length (mapI (ordB x)) = mapI (ordB x) := by
      have := winAll (e := .int .i64) (mapI (ordB x))
      rw [n0] at this
      exact this
    have b0 : bytesOK x := fun v hv => by have := hm v hv; omega
    have b1 : bytesOK (x ++ [0]) := fun v hv => by
      rcases List.mem_append.1 hv with h | h
      · exact b0 v h
      · rw [List.mem_singleton] at h; omega
    have b2 : bytesOK (c :: x) := fun v hv => by
      rcases List.mem_cons.1 hv with h | h
      · omega
      · exact b0 v h
    have q0 := l8_in (o := ordB x) (p := ordB (c :: x)) (by omega) (by rw [ordB_len, n1]; exact Nat.le_refl _) (fun i hi => by have := (ordN_ok x).lt hi; omega) (ord_cons c x) _ 0 (Nat.le_refl _) (Nat.zero_le _)
    rw [show cntN (ordB (c :: x)) 0 = 0 from rfl] at q0
    refine bc_of (fun h1 => bc_of (fun h2 => ?_) (fun h2 => ?_)) (fun h1 => ?_)
    · have h1 := of_decide_eq_true h1
      rw [cond_true] at h2
      have h2 := of_decide_eq_true h2
      omega
    · rw [w1, wA, wB, wr, n0, n2, n3, wC, wD, wE]
      refine ⟨(by omega), (show preSo x from ⟨by omega, b0⟩), by omega, rfl, rfl, by omega, by decide, by simp, by simp, rfl, (show 0 + x.length + 1 < 2 ^ 30 by omega), by decide, (show 0 + (0 + x.length + 1) ≤ (x ++ [0]).length by rw [List.length_append]; show _ ≤ x.length + 1; omega), (show preSo (x ++ [0]) from ⟨by rw [List.length_append]; show x.length + 1 < _; omega, b1⟩), by omega, rfl, rfl, by omega, by decide, (show 0 + (1 + x.length) ≤ (c :: x).length by rw [List.length_cons]; omega), (show preSo (c :: x) from ⟨by rw [List.length_cons]; omega, b2⟩), ?_⟩
      refine bc_of (fun h => absurd rfl (of_decide_eq_true (show decide _ = true from h))) fun _ => bc_of (fun h => absurd rfl (of_decide_eq_true (show decide _ = true from h))) fun _ => bc_of (fun h => absurd rfl (of_decide_eq_true (show decide _ = true from h))) fun _ => ⟨by decide, by omega, (show 0 + 0 < x.length + 1 by omega), bc_of (fun h => absurd rfl (of_decide_eq_true (show decide _ = true from h))) fun _ => ⟨by decide, by omega, by omega, (show 0 + 1 + (x.length + 1 - 1) ≤ x.length + 1 by omega), by omega, (show preTwo _ _ from ⟨by rw [n0]; omega, by rw [n0]; omega⟩), bc_of (fun h => ?_) fun _ => ?_⟩⟩
      · rw [cond_false, decide_eq_true rfl] at h
        cases h
      · refine q0.only ⟨rfl, ?_, ?_, rfl, rfl, trivial⟩ ⟨rfl, rfl, trivial⟩
        · rw [n0]; rfl
        · rw [n3]; rfl
    · rw [w1, wA, wB, wr, n0, n2, n3, wC, wD, wE]
      refine ⟨rfl, (by omega), (show preSo x from ⟨by omega, b0⟩), by omega, rfl, rfl, by omega, by decide, by simp, by simp, rfl, (show 0 + x.length + 1 < 2 ^ 30 by omega), by decide, (show 0 + (0 + x.length + 1) ≤ (x ++ [0]).length by rw [List.length_append]; show _ ≤ x.length + 1; omega), (show preSo (x ++ [0]) from ⟨by rw [List.length_append]; show x.length + 1 < _; omega, b1⟩), by omega, rfl, rfl, by omega, by decide, (show 0 + (1 + x.length) ≤ (c :: x).length by rw [List.length_cons]; omega), (show preSo (c :: x) from ⟨by rw [List.length_cons]; omega, b2⟩), ?_⟩
      refine bc_of (fun h => absurd rfl (of_decide_eq_true (show decide _ = true from h))) fun _ => bc_of (fun h => absurd rfl (of_decide_eq_true (show decide _ = true from h))) fun _ => bc_of (fun h => absurd rfl (of_decide_eq_true (show decide _ = true from h))) fun _ => ⟨by decide, by omega, (show 0 + 0 < x.length + 1 by omega), bc_of (fun h => absurd rfl (of_decide_eq_true (show decide _ = true from h))) fun _ => ⟨by decide, by omega, by omega, (show 0 + 1 + (x.length + 1 - 1) ≤ x.length + 1 by omega), by omega, (show preTwo _ _ from ⟨by rw [n0]; omega, by rw [n0]; omega⟩), bc_of (fun h => ?_) fun _ => ?_⟩⟩
      · rw [cond_false, decide_eq_true rfl] at h
        cases h
      · refine q0.only ⟨rfl, ?_, ?_, rfl, rfl, trivial⟩ ⟨rfl, rfl, trivial⟩
        · rw [n0]; rfl
        · rw [n3]; rfl
  intro q
  induction q with
  | zero => intro i h0 h1 h2; exact base i h1 h2 (by omega)
  | succ q ih =>
    intro i h0 h1 h2
    by_cases hi : i < b.length ∧ i < 200
    · obtain ⟨hi1, hi2⟩ := hi
      refine sy_goK cxd7 (vc_law8A _ _ _ _ _ _) ?_
      have gb : gt (Sh.int .u8) b i = b[i] := gt_eq hi1
      have u3 : IntKind.i64.wrap ((i : Int) + 1) = ((i + 1 : Nat) : Int) := by rw [IntWalk.i64_in _ (by omega)]; omega
      have hxl : (E8 b i).length = i := by rw [List.length_map, List.length_take]; omega
      rw [decide_eq_true (show (i : Int) < (b.length : Int) by omega), bc_t, decide_eq_true (show (i : Int) < 200 by omega), cond_true, bc_t, Int.toNat_natCast, gb, u3]
      have e2 : ∀ v : Int, (winL (Sh.int .u8) 0 1 ((List.replicate 1 (Sh.int .u8).dflt).set 0 v)).length = 1 := fun v => rfl
      have k := ih (i + 1) (by omega) (by omega) (by omega)
      have s1 : E8 b (i + 1) = E8 b i ++ [max b[i] 1] := E_succ hi1
      refine ⟨by omega, by omega, by simp, rfl, rfl, by rw [e2]; omega, by decide, ?_⟩
      refine k.onlyR [(16, 34)] rfl ⟨rfl, rfl, rfl, ?_, rfl, trivial⟩ ⟨?_, trivial⟩
      · rw [s1, List.length_append]; rfl
      · rw [s1]; rfl
    · exact base i h1 h2 (by omega)
def ctEnds : Ctr := ⟨[slB, .int .u8], fun x => bytesOK x.1 ∧ 0 ≤ x.2.1 ∧ x.2.1 < 256, fun _ => [.bool true], fun _ => []⟩
theorem l8_run (b : List Int) (c : Int) (hb : bytesOK b) (hc : 0 ≤ c ∧ c < 256) : Px.Good Try.prog tt G0 8 Try.f8.ntmps Try.f8.results.toList (QC ctEnds (b, c, ())) [.code (bodyOf Try.f8)] (entry [slB, .int .u8] (b, c, ())) := by
  refine sy_goK cxd7 (vc_law8 _ _ _ _) ⟨trivial, ?_⟩
  have q := l8_out hb hc 200 0 (by omega) (by omega) (by omega)
  exact (q.post fun rs blk hq => QC.flat hq.symm rfl (by rw [hq]; rfl)).only ⟨rfl, rfl, rfl, rfl, rfl, trivial⟩ ⟨rfl, trivial⟩
theorem ends_held : Held Try.prog G0 8 ctEnds := Held.of cxd7 (fn := Try.f8) rfl rfl ⟨by decide, by decide⟩ fun x hp => l8_run x.1 x.2.1 hp.1 hp.2
theorem u8_of8 {n : Int} (h : (Lit.int .u8 n).wf = true) : 0 ≤ n ∧ n < 256 := by
  have := Go.bounds_u8 h
  exact ⟨this.1, by omega⟩
end Go.Proofs.Ytijeaicbnfiegaa
