/-
  A part of the proof: what pieces of the program give; conditions: those of each theorem.
-/
import Derived.Test.YtikikmhlicoheaaGreatDoorQ2
import Derived.Test.YtikikmhlicoheaaGreatDoorHD
set_option linter.unusedVariables false
set_option linter.unusedSimpArgs false
namespace Go.Proofs.YtikikmhlicoheaaGreatDoor
open Go.Px Go.Ax
set_option maxRecDepth 100000
attribute [local irreducible] Go.Px.sy Go.Px.syE
theorem frzG {f : Nat} {fn : Func} {Q : List SV → List (Nat × LB) → Prop} {it : List Item} {S : PS} {i : Nat} {e : Sh} {et : TypeId} {xs : List e.D} (hl : lk S.blk i = some (.row et e xs)) (hc : cdP i xs.length S = [0 + xs.length ≤ xs.length]) (h : GD f fn Q it (S.frzR i e xs)) : GD f fn Q it S :=
  Good.frz hl (fun c hm => by rw [hc, List.mem_singleton] at hm; subst hm; omega) h
theorem chain_at : ∀ {l : List OpT}, chainJ l → ∀ i (h : i + 1 < l.length), noJ l[i] l[i + 1]
  | [], _, i, h => by simp at h
  | [x], _, i, h => by simp at h
  | x :: y :: r, hc, 0, _ => hc.1 y rfl
  | x :: y :: r, hc, i + 1, h => chain_at (l := y :: r) hc.2 i (by simpa using h)
theorem ofV_ok {s : List SyT} {n : Int} (hr : ∀ x ∈ s, sOK n x = true) (h0 : 0 ≤ n) (h1 : n ≤ 65536) (hl : s.length ≤ 4096) : ofV s n = (((false, n, (s.length : Int), opsL s) : PaT), (0 : Int)) := by
  have ho := (opsL_ok hr (by omega) (by omega)).2.2.1
  unfold ofV
  rw [if_pos ⟨by simp [szB]; omega, by simp [szB]; omega, List.all_eq_true.2 hr⟩, if_neg (by omega)]
theorem ofV_bad {s : List SyT} {n : Int} (h : ¬ (szB n = true ∧ szB s.length = true ∧ s.all (sOK n) = true)) : (ofV s n).2 = 60 := by
  unfold ofV; rw [if_neg h]
theorem opsL_chk {s : List SyT} {n : Int} (hr : ∀ x ∈ s, sOK n x = true) (h0 : 0 ≤ n) (h1 : n ≤ 65536) (hl : s.length ≤ 4096) : chkV (false, n, (s.length : Int), opsL s) = (((opsL s).length : Int), (0 : Int)) ∧ symV (false, n, (s.length : Int), opsL s) = (s, 0) := by
  obtain ⟨o1, o2, o3, _⟩ := opsL_ok hr (by omega) (by omega)
  have hs : lenS (opsL s) = s.length := by rw [← symF_len o2, o1]
  have hc := chkV_of (li := false) h0 h1 (show (s.length : Int) ≤ 65536 by omega) (show (opsL s).length ≤ 4096 by omega) o2 hs
  exact ⟨hc, by rw [symV_of hc]; show (symF (opsL s), (0 : Int)) = _; rw [o1]⟩
section
variable (n : Int) (s : List SyT) (bd : List Int)
theorem s6L_loop (hr : ∀ x ∈ s, sOK n x = true) (h0 : 0 ≤ n) (h1 : n < 13) (hl : s.length ≤ 20) : ∀ (k i : Nat), (opsL s).length + 1 - i = k → 1 ≤ i → i ≤ (opsL s).length + 1 →
    GD 6 Tryz.f6 TQ (hd Tryz.f6 0) ⟨[(5, .ptr 5 0), (7, .bool true), (8, .int .i64 n), (9, .sl syS s), (10, .ptr 10 0), (14, .int .i64 (i : Nat))], [(5, .var [.arr 3 (.int .i8) bd]), (10, .var [.bool false, .int .i64 n, .int .i64 s.length, .sl opS (opsL s)])]⟩ := by
  obtain ⟨o1, o2, o3, o4⟩ := opsL_ok hr (by omega) (by omega)
  have fin : ∀ i : Nat, ¬ (i : Int) < ((opsL s).length : Int) → GD 6 Tryz.f6 TQ (hd Tryz.f6 0) ⟨[(5, .ptr 5 0), (7, .bool true), (8, .int .i64 n), (9, .sl syS s), (10, .ptr 10 0), (14, .int .i64 ((i : Nat) : Int))], [(5, .var [.arr 3 (.int .i8) bd]), (10, .var [.bool false, .int .i64 n, .int .i64 s.length, .sl opS (opsL s)])]⟩ := fun i hi => by
    refine sy_goK cxL6 (vc_s6L n (opsL s) s bd i _ _) ?_
    rw [decide_eq_false hi, bc_f]
    generalize hx : ((decide ((0 : Int) < gI bd 0), IntKind.i64.wrap (gI bd 1), (0 : Int)) : SyT) = x
    have e1 : 0 + s.length + (([x] : List syS.D)).length = (List.replicate 0 syS.dflt ++ s ++ ([x] : List syS.D) : List SyT).length := by simp
    have e2 : (List.replicate 0 syS.dflt ++ s ++ ([x] : List syS.D) : List SyT) = s ++ [x] := rfl
    rw [e1, e2]
    have w1 : winL syS 0 (s ++ [x]).length (s ++ [x]) = s ++ [x] := winA (e := syS) _
    have hlen : (s ++ [x]).length = s.length + 1 := by simp
    have hg : gtY (s ++ [x]) s.length = x := by rw [gtY_at (by omega)]; simp
    have w2 : IntKind.i64.wrap (-1 - IntKind.i64.wrap (IntKind.u8.wrap (gI bd 2))) = -1 - (gI bd 2) % 256 := by
      rw [IntKind.wrap_u8, IntWalk.i64_in ((gI bd 2) % 256) (by omega), IntWalk.i64_in _ (by omega)]
    have hb : (ofV s (-1 - (gI bd 2) % 256)).2 = 60 := ofV_bad fun q => by
      have := q.1
      simp [szB] at this
      omega
    have ho : (ofV (s ++ [x]) n).2 = if sOK n x = true then 0 else 60 := by
      by_cases hs : sOK n x = true
      · rw [if_pos hs, ofV_ok (fun y hy => ?_) h0 (by omega) (by omega)]
        rcases List.mem_append.1 hy with h | h
        · exact hr y h
        · rw [List.mem_singleton] at h; subst h; exact hs
      · rw [if_neg hs]
        refine ofV_bad fun q => hs ?_
        exact List.all_eq_true.1 q.2.2 x (by simp)
    simp only [w1, w2, hb, ho, Int.toNat_natCast, hg]
    refine ⟨by first | trivial | rfl, by first | trivial | rfl, by omega, by decide, by first | trivial | decide, by first | trivial | decide, by first | trivial | decide, by first | trivial | decide, by first | trivial | decide, by first | trivial | decide, Nat.le_refl 1, by first | trivial | simp, by first | trivial | rfl, (by omega), by first | trivial | decide, by omega, by omega, by omega, (show (s ++ [x]).length < 16777216 by omega), by first | trivial | decide, by first | trivial | decide, by first | trivial | decide, (show s.length < 16777216 by omega), by omega, by omega, (show preN n from ⟨h0, by omega⟩), ?_⟩
    cases hs : sOK n x
    · simp [bc]
    · simp [bc]
  intro k
  induction k with
  | zero => intro i hk h1 hi; exact fin i (by omega)
  | succ k ih =>
    intro i hk h1' hi
    by_cases hil : i < (opsL s).length
    · have nx := ih (i + 1) (by omega) (by omega) (by omega)
      obtain ⟨j, rfl⟩ : ∃ j, i = j + 1 := ⟨i - 1, by omega⟩
      have hj := chain_at o4 j hil
      obtain ⟨c1, c2, c3⟩ := hj
      refine sy_goK cxL6 (vc_s6L n (opsL s) s bd (j + 1) _ _) ?_
      have wj : IntKind.i64.wrap (((j + 1 : Nat) : Int) - 1) = (j : Int) := by rw [IntWalk.i64_in _ (by omega)]; omega
      rw [decide_eq_true (show ((j + 1 : Nat) : Int) < ((opsL s).length : Int) by omega), bc_t, wj, Int.toNat_natCast, Int.toNat_natCast, gtO_at (show j < (opsL s).length by omega), gtO_at hil, IntWalk.i64_in (((j + 1 : Nat) : Int) + 1) (by omega)]
      refine ⟨by omega, by omega, by omega, by omega, bc_of (fun h => absurd (of_decide_eq_true h) c1) (fun _ => bc_of (fun h => absurd (of_decide_eq_true h) c2) (fun _ => bc_of (fun h => ?_) (fun h => ⟨rfl, nx⟩)))⟩
      have h : (opsL s)[j].1 = (opsL s)[j + 1].1 := of_decide_eq_true h
      refine bc_of (fun h4 => absurd ⟨h, .inl (of_decide_eq_true h4)⟩ c3) (fun _ => bc_of (fun h5 => absurd ⟨h, .inr (of_decide_eq_true h5)⟩ c3) (fun _ => nx))
    · exact fin i (by omega)
end
def ctL6 : Ctr := ⟨[.sl a2S, uB, a3S], fun x => preL2 x.1 ∧ (0 ≤ x.2.1 ∧ (show Int from x.2.1) < 256), fun _ => [.bool true], fun _ => []⟩
theorem s6_run (l : List (List Int)) (z : Int) (bd : List Int) (hl : preL2 l) (hz : 0 ≤ z ∧ z < 256) : GD 6 Tryz.f6 TQ [.code (bodyOf Tryz.f6)] (entry [.sl a2S, uB, a3S] (l, z, bd, ())) := by
  refine sy_goKm cxL6 (vc_s6a l z bd _ _) ?_
  have w : (IntKind.i64.wrap z).tmod 13 = z % 13 := by rw [IntWalk.i64_in z (by omega), Int.tmod_eq_emod_of_nonneg hz.1]
  rw [w]
  have h0 : 0 ≤ z % 13 ∧ z % 13 < 13 := by omega
  generalize z % 13 = n at h0
  have hr := rawL_ok (n := n) hl (rawK l)
  have hk := rawL_len l n (rawK l)
  have hk2 : rawK l ≤ 20 := by unfold rawK; omega
  refine ⟨trivial, by decide, ⟨hl, (show preN n from ⟨h0.1, by omega⟩)⟩, ?_⟩
  generalize rawL l n (rawK l) = s at hr hk
  obtain ⟨hc, hs⟩ := opsL_chk hr h0.1 (by omega) (by omega)
  have w1 : winL syS 0 s.length s = s := winA (e := syS) _
  have t3 := (s6L_loop n s bd hr h0.1 h0.2 (by omega) _ 1 rfl (Nat.le_refl 1) (by omega))
  have t2 : GD 6 Tryz.f6 TQ (midI 12 [] [.code (bodyOf Tryz.f6)]) ⟨[(5, .ptr 5 0), (7, .bool true), (8, .int .i64 n), (9, .sl syS s), (10, .ptr 10 0), (11, .int .i64 0)], [(5, .var [.arr 3 (.int .i8) bd]), (10, .var [.bool false, .int .i64 n, .int .i64 s.length, .sl opS (opsL s)])]⟩ := by
    refine sy_goK cxL6 (vc_s6c n (opsL s) s bd _ _) ?_
    simp only [hc, hs, w1, eq_self, decide_true, Bool.not_true, cond_false, bc_f, ne_eq, not_true_eq_false, decide_false]
    refine ⟨trivial, trivial, by omega, (show s.length < 1099511627776 by omega), t3.only ⟨rfl, rfl, rfl, rfl, rfl, rfl, trivial⟩ ⟨rfl, rfl, trivial⟩⟩
  have t1 : GD 6 Tryz.f6 TQ (midI 9 [] [.code (bodyOf Tryz.f6)]) ⟨[(5, .ptr 5 0), (7, .bool true), (8, .int .i64 n), (9, .sl syS s)], [(5, .var [.arr 3 (.int .i8) bd])]⟩ := by
    refine sy_goKm cxL6 (vc_s6b n s bd _ _) ?_
    rw [ofV_ok hr h0.1 (by omega) (by omega)]
    exact ⟨(show s.length < 16777216 by omega), t2.only ⟨rfl, rfl, rfl, rfl, rfl, rfl, trivial⟩ ⟨rfl, rfl, trivial⟩⟩
  refine frzG (i := 1114688) (e := syS) (et := 60) (xs := s) rfl rfl ?_
  refine t1.only ⟨rfl, rfl, rfl, ?_, trivial⟩ ⟨rfl, trivial⟩
  show some (SV.sl syS (winL syS 0 s.length s)) = _
  rw [w1]
theorem s6_held : Held Tryz.prog G0 6 ctL6 :=
  Held.of cxL6 (fn := Tryz.f6) rfl rfl ⟨by decide, by decide⟩ fun ⟨l, z, bd, _⟩ hp =>
    (s6_run l z bd hp.1 hp.2).post fun rs blk hq => QC.flat (by rw [hq]; rfl) rfl (by rw [hq]; rfl)
end Go.Proofs.YtikikmhlicoheaaGreatDoor
namespace Go.Proofs.YtikikmhlicoheaaGreatDoor
open Go.Px Go.Ax
theorem u8_wf {n : Int} (h : wfD uB n) : 0 ≤ n ∧ n < 256 := by
  have h : (Lit.int IntKind.u8 n).wf = true := h
  simp [Lit.wf, IntKind.min, IntKind.max, IntKind.signed, IntKind.bits] at h
  omega
theorem u8_of {l : List Int} (h : ∀ x ∈ l, wfD uB x) : u8L l := fun j => by
  by_cases hj : j < l.length
  · rw [gtB_at hj]; exact u8_wf (h _ (List.getElem_mem hj))
  · have : gtB l j = 0 := by
      show gt uB _ _ = _
      unfold gt
      rw [List.getElem?_eq_none (by omega)]; rfl
    rw [this]; decide
end Go.Proofs.YtikikmhlicoheaaGreatDoor
namespace Go.Proofs.YtikikmhlicoheaaGreatDoor
open Go.Px Go.Ax
theorem l2_of {l : List (List Int)} (h : ∀ x ∈ l, wfD a2S x) : preL2 l := fun j k => by
  by_cases hj : j < l.length
  · have e : gt a2S l j = l[j] := gtE (e := a2S) hj
    rw [e]
    exact u8_of (h _ (List.getElem_mem hj)).2 k
  · have : gt a2S l j = List.replicate 2 (0 : Int) := by
      unfold gt
      rw [List.getElem?_eq_none (by omega)]; rfl
    rw [this]
    exact u8_of (fun x hx => by rw [List.eq_of_mem_replicate hx]; rfl) k
end Go.Proofs.YtikikmhlicoheaaGreatDoor
