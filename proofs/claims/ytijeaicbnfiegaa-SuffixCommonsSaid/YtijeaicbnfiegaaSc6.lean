/-
  A part of the proof: what a piece of the program gives; conditions: those of each theorem.
-/
import Derived.Test.YtijeaicbnfiegaaSv6
set_option linter.unusedVariables false
namespace Go.Proofs.Ytijeaicbnfiegaa
open Go.Px Go.Ax
abbrev QT : List SV → List (Nat × LB) → Prop := fun rs _ => rs = [.bool true]
abbrev S7 (x : List Int) (o : List Nat) (i : Nat) : PS := ⟨[(3, .bool true), (4, .sl (.int .u8) x), (5, .win true (.int .i64) 1057344 0 (mapI o).length), (6, .win true (.int .i64) 1069632 0 (comV x o).length), (7, .int .i64 (i : Int))], [(1057344, .row 3 (.int .i64) (mapI o)), (1069632, .row 3 (.int .i64) (comV x o))]⟩
theorem gt_comV {x : List Int} {o : List Nat} {k : Nat} (h : k < o.length) : gt (Sh.int .i64) (comV x o) k = ((adjN x o k : Nat) : Int) := gt_rowF h
theorem l7_in {x : List Int} {o : List Nat} (ho : OrdOK x o) (hx : x.length ≤ 60) {i : Nat} (hi : i < o.length) (hn : GD 7 Try.f7 QT (hd Try.f7 0) (S7 x o (i + 1))) : ∀ (m j : Nat), o.length - (i + 1 + j) ≤ m → i + 1 + j ≤ o.length →
    GD 7 Try.f7 QT (hd Try.f7 1) ⟨[(3, .bool true), (4, .sl (.int .u8) x), (5, .win true (.int .i64) 1057344 0 (mapI o).length), (6, .win true (.int .i64) 1069632 0 (comV x o).length), (7, .int .i64 (i : Int)), (8, .int .i64 (minN x o i j : Nat)), (9, .int .i64 (i + 1 + j : Nat))], [(1057344, .row 3 (.int .i64) (mapI o)), (1069632, .row 3 (.int .i64) (comV x o))]⟩ := by
  have hol := ho.len
  have hml : (mapI o).length = o.length := mapI_len o
  have hcl : (comV x o).length = o.length := by rw [comV, rowF_len]
  intro m
  induction m with
  | zero =>
    intro j hm h1
    refine sy_go cx4 (vc_l7i _ _ _ _ _ _ _ _) (bc_of (fun h => ?_) (fun h => ?_))
    · have h := of_decide_eq_true h; rw [hml] at h; omega
    · rw [IntWalk.i64_in ((i : Int) + 1) (by omega)]
      exact hn.only ⟨rfl, rfl, rfl, rfl, rfl, trivial⟩ ⟨rfl, rfl, trivial⟩
  | succ m ih =>
    intro j hm h1
    by_cases hk : i + 1 + j < o.length
    · refine sy_go cx4 (vc_l7i _ _ _ _ _ _ _ _) ?_
      have g1 : gt (Sh.int .i64) (mapI o) (0 + (i : Int).toNat) = ((o[i] : Nat) : Int) := by rw [Nat.zero_add]; exact gt_mapI hi
      have g2 : gt (Sh.int .i64) (mapI o) (0 + ((i + 1 + j : Nat) : Int).toNat) = ((o[i + 1 + j] : Nat) : Int) := by rw [Nat.zero_add]; exact gt_mapI hk
      have g3 : gt (Sh.int .i64) (comV x o) (0 + ((i + 1 + j : Nat) : Int).toNat) = ((adjN x o (i + 1 + j) : Nat) : Int) := by rw [Nat.zero_add]; exact gt_comV hk
      have l1 := ho.lt (List.getElem_mem hi)
      have l2 := ho.lt (List.getElem_mem hk)
      have e := minN_eq ho (i := i) j (by omega)
      have e2 : (minN x o i (j + 1) : Nat) = min (minN x o i j) (adjN x o (i + 1 + j)) := by rw [minN, show i + j + 1 = i + 1 + j by omega]
      have e3 : lcp (List.drop o[i] x) (List.drop o[i + 1 + j] x) = minN x o i (j + 1) := by rw [← e]; simp only [show i + j + 1 = i + 1 + j by omega]
      have e4 : min ((minN x o i j : Nat) : Int) ((adjN x o (i + 1 + j) : Nat) : Int) = ((minN x o i (j + 1) : Nat) : Int) := by rw [e2]; omega
      rw [g1, g2, g3, hml, hcl, e4, decide_eq_true (show ((i + 1 + j : Nat) : Int) < (o.length : Int) by omega), bc_t]
      simp only [Int.toNat_natCast, e3]
      dsimp only [Sh.D]
      refine ⟨by omega, by omega, by omega, by omega, by omega, by omega, by omega, by omega, by omega, by omega, by omega, by omega, by omega, ⟨?_, ?_⟩, ?_⟩
      · show List.length (List.drop _ x) < 2 ^ 62
        rw [List.length_drop]; omega
      · show List.length (List.drop _ x) < 2 ^ 62
        rw [List.length_drop]; omega
      · rw [decide_eq_false (by simp), bc_f, IntWalk.i64_in (((i + 1 + j : Nat) : Int) + 1) (by omega)]
        refine (ih (j + 1) (by omega) (by omega)).only ⟨rfl, rfl, ?_, ?_, rfl, rfl, ?_, trivial⟩ ⟨rfl, rfl, trivial⟩
        · rw [hml]; rfl
        · rw [hcl]; rfl
        · exact congrArg (fun z => some (SV.int .i64 z)) (by omega)
    · exact ih j (by omega) h1
theorem l7_out {x : List Int} {o : List Nat} (ho : OrdOK x o) (hx : x.length ≤ 60) : ∀ (m i : Nat), o.length - i ≤ m → i ≤ o.length → GD 7 Try.f7 QT (hd Try.f7 0) (S7 x o i) := by
  have hol := ho.len
  have hml : (mapI o).length = o.length := mapI_len o
  intro m
  induction m with
  | zero =>
    intro i hm h1
    refine sy_go cx4 (vc_l7o _ _ _ _ _ _) (bc_of (fun h => ?_) (fun h => ?_))
    · have h := of_decide_eq_true h; rw [hml] at h; omega
    · rfl
  | succ m ih =>
    intro i hm h1
    by_cases hi : i < o.length
    · refine sy_go cx4 (vc_l7o _ _ _ _ _ _) ?_
      rw [hml, decide_eq_true (show (i : Int) < (o.length : Int) by omega), bc_t, IntWalk.i64_in ((i : Int) + 1) (by omega)]
      refine (l7_in ho hx hi (ih (i + 1) (by omega) (by omega)) _ 0 (Nat.le_refl _) (by omega)).only ⟨rfl, rfl, ?_, rfl, rfl, ?_, ?_, trivial⟩ ⟨rfl, rfl, trivial⟩
      · rw [hml]; rfl
      · exact congrArg (fun z => some (SV.int .i64 z)) (by rw [minN])
      · exact congrArg (fun z => some (SV.int .i64 z)) (by omega)
    · exact ih i (by omega) h1
def ctTrue1 : Ctr := ⟨[slB], fun _ => True, fun _ => [.bool true], fun _ => []⟩
theorem com_law (b : List Int) : sy tt G0 C4 Try.f7.ntmps Try.f7.results.toList (QC ctTrue1 (b, ())) (Px.Good Try.prog tt G0 7 Try.f7.ntmps Try.f7.results.toList (QC ctTrue1 (b, ()))) 1000 [.code (bodyOf Try.f7)] (entry [slB] (b, ())) := by
  refine (vc_law7 _ _ _).mpr ?_
  have hx : (List.take (Int.toNat 60) b).length ≤ 60 := by rw [List.length_take]; exact Nat.min_le_left _ _
  generalize List.take (Int.toNat 60) b = x at hx
  have ho := ordN_ok x
  have hol := ho.len
  have hw : winL (Sh.int .i64) 0 (mapI (ordB x)).length (mapI (ordB x)) = mapI (ordB x) := by
    unfold winL
    rw [List.drop_zero, List.take_length]
  have hcl : (comV x (ordB x)).length = x.length := by rw [comV, rowF_len, ordB, hol]
  have hml : (mapI (ordB x)).length = x.length := by rw [mapI_len, ordB, hol]
  rw [hw, nats_map, hcl]
  have fin : GD 7 Try.f7 (QC ctTrue1 (b, ())) (hd Try.f7 0) (S7 x (ordB x) 0) := (l7_out ho hx _ 0 (Nat.le_refl _) (Nat.zero_le _)).post fun rs blk h => QC.flat h.symm rfl (by rw [h]; rfl)
  refine ⟨trivial, (by decide : (0 : Int) ≤ 60), (by show x.length < 1048576; omega), by omega, ⟨by show x.length < 1048576; omega, ordB x, ho, rfl⟩, ?_⟩
  rw [decide_eq_false (by simp), bc_f]
  refine bc_of (fun h => ?_) (fun h => ?_)
  · have h := of_decide_eq_true h
    have h0 : 0 < x.length := by omega
    have g : gt (Sh.int .i64) (comV x (ordB x)) (0 + Int.toNat 0) = 0 := by
      rw [show 0 + Int.toNat 0 = 0 from rfl, gt_comV (by rw [ordB, hol]; exact h0)]
      simp [adjN]
    rw [g]
    refine ⟨by omega, h, by simpa using h0, ?_⟩
    refine bc_of (fun h => ?_) (fun h => ?_)
    · exact absurd h (by decide)
    · refine fin.only ⟨rfl, rfl, rfl, ?_, rfl, trivial⟩ ⟨rfl, rfl, trivial⟩
      rw [hcl]; rfl
  · refine ⟨rfl, fin.only ⟨rfl, rfl, rfl, ?_, rfl, trivial⟩ ⟨rfl, rfl, trivial⟩⟩
    rw [hcl]; rfl
theorem commons_held : Held Try.prog G0 7 ctTrue1 := Held.run cx4 (fn := Try.f7) rfl rfl ⟨by decide, by decide⟩ fun x _ => com_law x.1
end Go.Proofs.Ytijeaicbnfiegaa
