/-
  A part of the proof: what a piece of the program gives; conditions: those of each theorem.
-/
import Derived.Test.YtijeaicbnfiegaaSv28
set_option linter.unusedVariables false
namespace Go.Proofs.Ytijeaicbnfiegaa
open Go.Px Go.Ax
section
variable {g : Int → Int} (hg : ∀ a b, a < b → g a < g b)
include hg
theorem g_lt (a b : Int) : g a < g b ↔ a < b := by
  constructor
  · intro h
    apply Classical.byContradiction
    intro c
    rcases Int.lt_or_eq_of_le (Int.not_lt.1 c) with q | q
    · have := hg _ _ q; omega
    · subst q; omega
  · exact hg a b
theorem g_eq (a b : Int) : g a = g b ↔ a = b := by
  constructor
  · intro h
    apply Classical.byContradiction
    intro c
    rcases Int.lt_or_gt_of_ne c with q | q
    · have := hg _ _ q; omega
    · have := hg _ _ q; omega
  · intro h; rw [h]
theorem lex_map : ∀ a b : List Int, lexLt (a.map g) (b.map g) = lexLt a b
  | [], [] => rfl
  | [], _ :: _ => rfl
  | _ :: _, [] => rfl
  | x :: a, y :: b => by
    rw [List.map_cons, List.map_cons, lexLt, lexLt]
    by_cases e : x = y
    · rw [if_pos e, if_pos ((g_eq hg x y).2 e)]; exact lex_map a b
    · rw [if_neg e, if_neg (fun q => e ((g_eq hg x y).1 q))]
      exact decide_eq_decide.2 (g_lt hg x y)
theorem lcp_map : ∀ a b : List Int, lcp (a.map g) (b.map g) = lcp a b
  | [], [] => rfl
  | [], _ :: _ => rfl
  | _ :: _, [] => rfl
  | x :: a, y :: b => by
    rw [List.map_cons, List.map_cons, lcp, lcp]
    by_cases e : x = y
    · rw [if_pos e, if_pos ((g_eq hg x y).2 e), lcp_map a b]
    · rw [if_neg e, if_neg (fun q => e ((g_eq hg x y).1 q))]
theorem ok_map {x : List Int} {o : List Nat} (h : OrdOK x o) : OrdOK (x.map g) o := by
  refine ⟨by rw [List.length_map]; exact h.perm, h.sorted.imp fun {i j} hs => ?_⟩
  unfold sl at hs ⊢
  rw [← List.map_drop, ← List.map_drop, lex_map hg]
  exact hs
theorem ord_map (x : List Int) : ordB (x.map g) = ordB x := (ordN_ok (x.map g)).unique (ok_map hg (ordN_ok x))
theorem com_map (x : List Int) (o : List Nat) : comV (x.map g) o = comV x o := by
  refine rowF_congr fun k _ => ?_
  unfold adjN
  rw [← List.map_drop, ← List.map_drop, lcp_map hg]
end
def F (b : List Int) (i : Nat) : List Int := (b.take i).map fun v => v.tmod 100
theorem F_succ {b : List Int} {i : Nat} (h : i < b.length) : F b (i + 1) = F b i ++ [b[i].tmod 100] := by
  unfold F
  rw [List.take_add_one, List.map_append, List.getElem?_eq_getElem h]
  rfl
theorem F_len {b : List Int} {i : Nat} (h : i ≤ b.length) : (F b i).length = i := by
  unfold F
  rw [List.length_map, List.length_take]; omega
theorem F_mem {b : List Int} (hb : bytesOK b) {i : Nat} {v : Int} (h : v ∈ F b i) : 0 ≤ v ∧ v < 100 := by
  unfold F at h
  obtain ⟨c, hc, rfl⟩ := List.mem_map.1 h
  have := hb c (List.mem_of_mem_take hc)
  rw [Int.tmod_eq_emod_of_nonneg this.1]
  omega
theorem u8_in (n : Int) (h : 0 ≤ n ∧ n < 256) : IntKind.u8.wrap n = n := IntWalk.u8_in n (by omega)
set_option maxRecDepth 100000 in
theorem l9_loop {b : List Int} (hb : bytesOK b) {s m : Int} (hs : 0 ≤ s ∧ s < 256) (hm : m = 1 ∨ m = 2) {g : Int → Int} (hgd : ∀ v, g v = m * v + s.tmod 56) : ∀ (q i : Nat), 200 - i ≤ q → i ≤ b.length → i ≤ 200 →
    GD 9 Try.f9 (fun rs _ => rs = [.bool true]) (hd Try.f9 0) ⟨[(0, .sl (.int .u8) b), (2, .int .u8 s), (7, .bool true), (8, .win true (.int .u8) 16 0 (F b i).length), (9, .win true (.int .u8) 17 0 ((F b i).map g).length), (10, .int .u8 m), (11, .int .i64 (i : Int))], [(16, .row 5 (.int .u8) (F b i)), (17, .row 5 (.int .u8) ((F b i).map g))]⟩ := by
  have ht : 0 ≤ s.tmod 56 ∧ s.tmod 56 < 56 := by rw [Int.tmod_eq_emod_of_nonneg hs.1]; omega
  have hg : ∀ a c, a < c → g a < g c := fun a c h => by rw [hgd, hgd]; rcases hm with rfl | rfl <;> omega
  have base : ∀ i, i ≤ b.length → i ≤ 200 → (b.length ≤ i ∨ 200 ≤ i) → GD 9 Try.f9 (fun rs _ => rs = [.bool true]) (hd Try.f9 0) ⟨[(0, .sl (.int .u8) b), (2, .int .u8 s), (7, .bool true), (8, .win true (.int .u8) 16 0 (F b i).length), (9, .win true (.int .u8) 17 0 ((F b i).map g).length), (10, .int .u8 m), (11, .int .i64 (i : Int))], [(16, .row 5 (.int .u8) (F b i)), (17, .row 5 (.int .u8) ((F b i).map g))]⟩ := by
    intro i hi1 hi2 hi
    refine sy_goK cxd7 (vc_law9L _ _ _ _ _ _ _ _) ?_
    have hfl := F_len hi1
    have hml : ((F b i).map g).length = i := by rw [List.length_map, hfl]
    have w1 := winAll (e := .int .u8) (F b i)
    have w2 := winAll (e := .int .u8) ((F b i).map g)
    have w3 := winAll (e := .int .i64) (mapI (ordB (F b i)))
    have ho := ordN_ok (F b i)
    have hl := ordB_len (F b i)
    have hxy := ord_map hg (F b i)
    have hxo := ok_map hg ho
    have hcy := com_map hg (F b i) (ordB (F b i))
    have w4 := winAll (e := .int .i64) (comV (F b i) (ordB (F b i)))
    have hbx : bytesOK (F b i) := fun v hv => by have := F_mem hb hv; omega
    have hby : bytesOK ((F b i).map g) := fun v hv => by
      obtain ⟨c, hc, rfl⟩ := List.mem_map.1 hv
      have := F_mem hb hc
      rw [hgd]
      rcases hm with rfl | rfl <;> omega
    refine bc_of (fun h1 => bc_of (fun h2 => ?_) (fun h2 => ?_)) (fun h1 => ?_)
    · have h1 := of_decide_eq_true h1
      rw [cond_true] at h2
      have h2 := of_decide_eq_true h2
      omega
    · rw [w1, w2, hxy, w3, nats_map, hcy, w4]
      refine ⟨(by omega), (show preSo (F b i) from ⟨by omega, hbx⟩), (by omega), (show preSo ((F b i).map g) from ⟨by omega, hby⟩), (by omega), (by omega), (show preTwo _ _ from ⟨by rw [mapI_len]; omega, by rw [mapI_len]; omega⟩), ?_⟩
      rw [decide_eq_true rfl, cond_true, bc_t, decide_eq_true (by rw [mapI_len, ordB_len]), cond_true, bc_t]
      refine ⟨by omega, (show preIsP (mapI (ordB (F b i))) from ⟨by rw [mapI_len]; omega, ordB (F b i), by rw [mapI_len, hl]; exact ho.perm, rfl⟩), by omega, by omega, (show preOrd (F b i) (mapI (ordB (F b i))) from ⟨by omega, ordB (F b i), ho, rfl⟩), by omega, by omega, (show preOrd ((F b i).map g) (mapI (ordB (F b i))) from ⟨by omega, ordB (F b i), hxo, rfl⟩), by omega, by omega, (show preTwo _ _ from ⟨by rw [comV, rowF_len]; omega, by rw [comV, rowF_len]; omega⟩), ?_⟩
      rw [decide_eq_true rfl]; rfl
    · rw [w1, w2, hxy, w3, nats_map, hcy, w4]
      refine ⟨rfl, (by omega), (show preSo (F b i) from ⟨by omega, hbx⟩), (by omega), (show preSo ((F b i).map g) from ⟨by omega, hby⟩), (by omega), (by omega), (show preTwo _ _ from ⟨by rw [mapI_len]; omega, by rw [mapI_len]; omega⟩), ?_⟩
      rw [decide_eq_true rfl, cond_true, bc_t, decide_eq_true (by rw [mapI_len, ordB_len]), cond_true, bc_t]
      refine ⟨by omega, (show preIsP (mapI (ordB (F b i))) from ⟨by rw [mapI_len]; omega, ordB (F b i), by rw [mapI_len, hl]; exact ho.perm, rfl⟩), by omega, by omega, (show preOrd (F b i) (mapI (ordB (F b i))) from ⟨by omega, ordB (F b i), ho, rfl⟩), by omega, by omega, (show preOrd ((F b i).map g) (mapI (ordB (F b i))) from ⟨by omega, ordB (F b i), hxo, rfl⟩), by omega, by omega, (show preTwo _ _ from ⟨by rw [comV, rowF_len]; omega, by rw [comV, rowF_len]; omega⟩), ?_⟩
      rw [decide_eq_true rfl]; rfl
  intro q
  induction q with
  | zero => intro i h0 h1 h2; exact base i h1 h2 (by omega)
  | succ q ih =>
    intro i h0 h1 h2
    by_cases hi : i < b.length ∧ i < 200
    · obtain ⟨hi1, hi2⟩ := hi
      refine sy_goK cxd7 (vc_law9L _ _ _ _ _ _ _ _) ?_
      have hbi := hb _ (List.getElem_mem hi1)
      have gb : gt (Sh.int .u8) b i = b[i] := gt_eq hi1
      have hv : 0 ≤ b[i].tmod 100 ∧ b[i].tmod 100 < 100 := by rw [Int.tmod_eq_emod_of_nonneg hbi.1]; omega
      have u1 : IntKind.u8.wrap (m * b[i].tmod 100) = m * b[i].tmod 100 := u8_in _ (by rcases hm with rfl | rfl <;> omega)
      have u2 : IntKind.u8.wrap (m * b[i].tmod 100 + s.tmod 56) = g (b[i].tmod 100) := by rw [hgd]; exact u8_in _ (by rcases hm with rfl | rfl <;> omega)
      have u3 : IntKind.i64.wrap ((i : Int) + 1) = ((i + 1 : Nat) : Int) := by rw [IntWalk.i64_in _ (by omega)]; omega
      have hfl := F_len h1
      have hml : ((F b i).map g).length = i := by rw [List.length_map, hfl]
      rw [decide_eq_true (show (i : Int) < (b.length : Int) by omega), bc_t, decide_eq_true (show (i : Int) < 200 by omega), cond_true, bc_t, Int.toNat_natCast, gb, u1, u2, u3]
      have e1 : ∀ v : Int, winL (Sh.int .u8) 0 1 ((List.replicate 1 (Sh.int .u8).dflt).set 0 v) = [v] := fun v => rfl
      have e2 : ∀ v : Int, (winL ((fun self : TI => self.6) (mkT 1 1 false (TK.int .u8) (Sh.int .u8) none)) 0 1 ((List.replicate 1 (Sh.int .u8).dflt).set 0 v)).length = 1 := fun v => rfl
      refine ⟨by omega, by omega, by decide, by simp, rfl, rfl, by rw [e2]; omega, by decide, by decide, by simp, rfl, rfl, by rw [e2]; omega, by decide, ?_⟩
      have k := ih (i + 1) (by omega) (by omega) (by omega)
      have s1 := F_succ hi1
      have s2 : (F b (i + 1)).map g = (F b i).map g ++ [g (b[i].tmod 100)] := by rw [s1, List.map_append]; rfl
      refine k.onlyR [(16, 39), (17, 48)] rfl ⟨rfl, rfl, rfl, ?_, ?_, rfl, rfl, trivial⟩ ⟨?_, ?_, trivial⟩
      · rw [s1, List.length_append]; rfl
      · rw [s2, List.length_append]; rfl
      · rw [s1]; rfl
      · rw [s2]; rfl
    · exact base i h1 h2 (by omega)
def ctBytes : Ctr := ⟨[slB, .int .u8, .int .u8], fun x => bytesOK x.1 ∧ (0 ≤ x.2.1 ∧ x.2.1 < 256) ∧ 0 ≤ x.2.2.1 ∧ x.2.2.1 < 256, fun _ => [.bool true], fun _ => []⟩
theorem l9_run (b : List Int) (m s : Int) (hb : bytesOK b) (hm : 0 ≤ m ∧ m < 256) (hs : 0 ≤ s ∧ s < 256) : Px.Good Try.prog tt G0 9 Try.f9.ntmps Try.f9.results.toList (QC ctBytes (b, m, s, ())) [.code (bodyOf Try.f9)] (entry [slB, .int .u8, .int .u8] (b, m, s, ())) := by
  refine sy_goK cxd7 (vc_law9 _ _ _ _ _) ⟨trivial, by decide, ?_⟩
  have hmt : 0 ≤ m.tmod 2 ∧ m.tmod 2 < 2 := by rw [Int.tmod_eq_emod_of_nonneg hm.1]; omega
  have u : IntKind.u8.wrap (1 + m.tmod 2) = 1 + m.tmod 2 := u8_in _ (by omega)
  rw [u]
  have q := l9_loop hb hs (m := 1 + m.tmod 2) (by omega) (g := fun v => (1 + m.tmod 2) * v + s.tmod 56) (fun v => rfl) 200 0 (by omega) (by omega) (by omega)
  exact (q.post fun rs blk hq => QC.flat hq.symm rfl (by rw [hq]; rfl)).only ⟨rfl, rfl, rfl, rfl, rfl, rfl, rfl, trivial⟩ ⟨rfl, rfl, trivial⟩
theorem bytes_held : Held Try.prog G0 9 ctBytes := Held.of cxd7 (fn := Try.f9) rfl rfl ⟨by decide, by decide⟩ fun x hp => l9_run x.1 x.2.1 x.2.2.1 hp.1 hp.2.1 hp.2.2
theorem u8_of {n : Int} (h : (Lit.int .u8 n).wf = true) : 0 ≤ n ∧ n < 256 := by
  have := Go.bounds_u8 h
  exact ⟨this.1, by omega⟩
end Go.Proofs.Ytijeaicbnfiegaa
