/-
  A part of the proof: what a piece of the program gives; conditions: those of each theorem.
-/
import Derived.Test.YtijeaicbnfiegaaSv27
set_option linter.unusedVariables false
namespace Go.Proofs.Ytijeaicbnfiegaa
open Go.Px Go.Ax
theorem bytes_take {b : List Int} (h : bytesOK b) (n : Nat) : bytesOK (b.take n) := fun c hc => h c (List.mem_of_mem_take hc)
theorem ordB_len (x : List Int) : (ordB x).length = x.length := ordN_len x _
theorem l4_loop {x : List Int} (hx : x.length ≤ 400) : ∀ (m i : Nat), x.length - i ≤ m → 0 < i →
    GD 4 Try.f4 (fun rs _ => rs = [.bool true]) (hd Try.f4 0) ⟨[(3, .bool true), (4, .sl (.int .u8) x), (5, .win true (.int .i64) 1045056 0 (mapI (ordB x)).length), (6, .int .i64 (i : Int))], [(1045056, .row 3 (.int .i64) (mapI (ordB x)))]⟩ := by
  have ho := ordN_ok x
  have hl := ordB_len x
  intro m
  induction m with
  | zero =>
    intro i hm h0
    refine sy_goK cxd7 (vc_law4L _ _ _ _ _) (bc_of (fun h => ?_) (fun h => ?_))
    · have h := of_decide_eq_true h; rw [mapI_len] at h; omega
    · rfl
  | succ m ih =>
    intro i hm h0
    by_cases hi : i < x.length
    · refine sy_goK cxd7 (vc_law4L _ _ _ _ _) ?_
      have w1 : IntKind.i64.wrap ((i : Int) - 1) = ((i - 1 : Nat) : Int) := by rw [IntWalk.i64_in _ (by omega)]; omega
      have w2 : IntKind.i64.wrap ((i : Int) + 1) = ((i + 1 : Nat) : Int) := by rw [IntWalk.i64_in _ (by omega)]; omega
      have g1 : gt (Sh.int .i64) (mapI (ordB x)) (0 + (i - 1)) = (((ordB x)[i - 1]'(by omega) : Nat) : Int) := by rw [Nat.zero_add]; exact gt_mapI (by omega)
      have g2 : gt (Sh.int .i64) (mapI (ordB x)) (0 + i) = (((ordB x)[i]'(by omega) : Nat) : Int) := by rw [Nat.zero_add]; exact gt_mapI (by omega)
      have l1 : (ordB x)[i - 1]'(by omega) < x.length := ho.lt (List.getElem_mem _)
      have l2 : (ordB x)[i]'(by omega) < x.length := ho.lt (List.getElem_mem _)
      have hs : lexLt (x.drop ((ordB x)[i - 1]'(by omega))) (x.drop ((ordB x)[i]'(by omega))) = true := ho.at_lt (i := i - 1) (j := i) (by omega) (by show i < (ordB x).length; omega)
      rw [w1, w2, Int.toNat_natCast, Int.toNat_natCast, g1, g2, Int.toNat_natCast, Int.toNat_natCast, hs, mapI_len]
      clear hs g1 g2
      generalize (ordB x)[i - 1]'(by omega) = a at l1 ⊢
      generalize (ordB x)[i]'(by omega) = b at l2 ⊢
      rw [hl, decide_eq_true (show (i : Int) < (x.length : Int) by omega), bc_t]
      refine ⟨by omega, by omega, by omega, (show (0 : Int) ≤ (a : Int) by omega), (show (a : Int) ≤ (x.length : Int) by omega), by omega, by omega, by omega, (show (0 : Int) ≤ (b : Int) by omega), (show (b : Int) ≤ (x.length : Int) by omega),
        ⟨by show List.length (List.drop _ x) < 2 ^ 62; rw [List.length_drop]; omega, by show List.length (List.drop _ x) < 2 ^ 62; rw [List.length_drop]; omega⟩, ?_⟩
      refine (ih (i + 1) (by omega) (by omega)).only ⟨rfl, rfl, ?_, rfl, trivial⟩ ⟨rfl, trivial⟩
      rw [mapI_len, hl]; rfl
    · exact ih i (by omega) h0
def ctOrders : Ctr := ⟨[slB], fun x => bytesOK x.1, fun _ => [.bool true], fun _ => []⟩
theorem l4_run (b : List Int) (hb : bytesOK b) : Px.Good Try.prog tt G0 4 Try.f4.ntmps Try.f4.results.toList (QC ctOrders (b, ())) [.code (bodyOf Try.f4)] (entry [slB] (b, ())) := by
  refine sy_goK cxd7 (vc_law4 _ _ _) ?_
  have hx : (List.take (Int.toNat 400) b).length ≤ 400 := by rw [List.length_take]; exact Nat.min_le_left _ _
  have hbx := bytes_take hb (Int.toNat 400)
  generalize List.take (Int.toNat 400) b = x at hx hbx
  have ho := ordN_ok x
  have hl := ordB_len x
  have w := winAll (e := .int .i64) (mapI (ordB x))
  rw [w, mapI_len, hl]
  refine ⟨trivial, (by decide : (0 : Int) ≤ 400), (show preSo x from ⟨by omega, hbx⟩), ?_⟩
  rw [decide_eq_false (by simp), bc_f]
  refine ⟨by omega, (show preIsP (mapI (ordB x)) from ⟨by rw [mapI_len]; omega, ordB x, by rw [mapI_len, hl]; exact ho.perm, rfl⟩), ?_⟩
  have q := l4_loop hx x.length 1 (by omega) (by omega)
  refine (q.post fun rs blk hq => QC.flat hq.symm rfl (by rw [hq]; rfl)).only ⟨rfl, rfl, ?_, rfl, trivial⟩ ⟨rfl, trivial⟩
  rw [mapI_len, hl]; rfl
theorem orders_held : Held Try.prog G0 4 ctOrders := Held.of cxd7 (fn := Try.f4) rfl rfl ⟨by decide, by decide⟩ fun x hp => l4_run x.1 hp
end Go.Proofs.Ytijeaicbnfiegaa
