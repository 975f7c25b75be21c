/-
  A part of the proof: what a piece of the program gives; conditions: those of each theorem.
-/
import Derived.Test.YtijeaicbnfiegaaSc7
set_option linter.unusedVariables false
namespace Go.Proofs.Ytijeaicbnfiegaa
open Go.Px Go.Ax
/-- Whether a suffix begins with the first bytes. -/
def stB (b o s : List Int) (n k : Int) : Bool := decide (((lcp (sfx b (gt (Sh.int .i64) o k.toNat)) (List.take n.toNat s) : Nat) : Int) = n)
def preSt (k : Int) (b o s : List Int) (n : Int) : Prop := 0 ≤ k ∧ k < o.length ∧ 0 ≤ n ∧ n ≤ s.length ∧ b.length < 1048576 ∧ s.length < 1048576
def ctSt : CtrI := ⟨K28, fun x => preSt x.1 x.2.1.1 x.2.2.1.1 x.2.2.2.1.1 x.2.2.2.2.1.1, fun x => [.bool (stB x.2.1.1 x.2.2.1.1 x.2.2.2.1.1 x.2.2.2.2.1.1 x.1)], fun x => bkKL 0 K28 x⟩
theorem sfx_len (b : List Int) (k : Int) : (sfx b k).length ≤ b.length := by
  unfold sfx
  split
  · simp
  · rw [List.length_drop]; omega
theorem st_run (k : Int) (b o s : List Int) (n : Int) (hp : preSt k b o s n) (R : List Item → PS → Prop) : sy tt G0 C4 Try.f28.ntmps Try.f28.results.toList (QI ctSt (k, (b, ()), (o, ()), (s, ()), (n, ()), ())) R 1000 [.code (bodyOf Try.f28)] (entryI K28 (k, (b, ()), (o, ()), (s, ()), (n, ()), ())) := by
  obtain ⟨h0, h1, h2, h3, h4, h5⟩ := hp
  refine (vc_st _ _ _ _ _ _ _).mpr ⟨h0, h1, trivial, h2, h3, ⟨?_, ?_⟩, ?_⟩
  · show List.length (sfx b _) < 2 ^ 62
    have := sfx_len b (gt (Sh.int .i64) o k.toNat)
    omega
  · show List.length (List.take _ s) < 2 ^ 62
    rw [List.length_take]; omega
  · exact ⟨[], ⟨_, _, rfl, rfl, rfl⟩, ⟨.inl ⟨_, _, rfl, rfl, _, rfl, _, _, rfl, .inl rfl, rfl⟩, .inl ⟨_, _, rfl, rfl, _, rfl, _, _, rfl, .inl rfl, rfl⟩, .inl ⟨_, _, rfl, rfl, _, rfl, _, _, rfl, .inl rfl, rfl⟩, .inl ⟨_, _, rfl, rfl, _, rfl, _, _, rfl, rfl, rfl⟩, trivial⟩, by decide, by simp⟩
theorem st_held : HeldI Try.prog G0 28 ctSt := HeldI.run cx4 (fn := Try.f28) rfl rfl ⟨by decide, by decide⟩ fun x hp => st_run x.1 x.2.1.1 x.2.2.1.1 x.2.2.2.1.1 x.2.2.2.2.1.1 hp _
def minL : List Int → Int → Int
  | [], m => m
  | x :: l, m => minL l (min m x)
def preNe (l : List Int) : Prop := 0 < l.length ∧ l.length < 1048576
def ctLeast : Ctr := ⟨[slI], fun x => preNe x.1, fun x => [.int .i64 (minL x.1 (gt (Sh.int .i64) x.1 0))], fun _ => []⟩
theorem least_loop (l : List Int) (hl : l.length < 1048576) : ∀ (m i : Nat) (a x : Int), l.length - i ≤ m → i ≤ l.length →
    GD 33 Try.f33 (fun rs _ => rs = [.int .i64 (minL (l.drop i) a)]) (hd Try.f33 0) ⟨[(0, .sl (.int .i64) l), (3, .int .i64 a), (9, .sl (.int .i64) l), (10, .int .i64 l.length), (11, .int .i64 (i : Nat))], []⟩ := by
  intro m
  induction m with
  | zero =>
    intro i a x hm h1
    refine sy_go cx0 (vc_leastL l a x i _ _) (bc_of (fun h => ?_) (fun h => ?_))
    · have h := of_decide_eq_true h; omega
    · show [SV.int _ _] = [SV.int _ _]
      rw [List.drop_eq_nil_of_le (show l.length ≤ i by omega)]; rfl
  | succ m ih =>
    intro i a x hm h1
    by_cases hi : i < l.length
    · refine sy_go cx0 (vc_leastL l a x i _ _) ?_
      have g1 : gt (Sh.int .i64) l (i : Int).toNat = l[i] := gt_eq hi
      rw [g1, decide_eq_true (show (i : Int) < (l.length : Int) by omega), bc_t]
      refine ⟨by omega, by omega, ?_⟩
      rw [IntWalk.i64_in ((i : Int) + 1) (by omega), dropc hi, minL]
      exact (ih (i + 1) _ x (by omega) (by omega)).only ⟨rfl, rfl, rfl, rfl, rfl, trivial⟩ trivial
    · exact ih i a x (by omega) h1
theorem least_run (l : List Int) (hp : preNe l) : sy tt G0 [] Try.f33.ntmps Try.f33.results.toList (QC ctLeast (l, ())) (Px.Good Try.prog tt G0 33 Try.f33.ntmps Try.f33.results.toList (QC ctLeast (l, ()))) 1000 [.code (bodyOf Try.f33)] (entry [slI] (l, ())) := by
  refine (vc_least _ _ _).mpr ⟨by decide, by have := hp.1; omega, ?_⟩
  exact ((least_loop l hp.2 _ 0 _ 0 (Nat.le_refl _) (Nat.zero_le _)).post fun rs blk h => QC.flat (by rw [h]; rfl) rfl (by rw [h]; rfl)).only ⟨rfl, rfl, rfl, rfl, rfl, trivial⟩ trivial
theorem least_held : Held Try.prog G0 33 ctLeast := Held.run cx0 (fn := Try.f33) rfl rfl ⟨by decide, by decide⟩ fun x hp => least_run x.1 hp
def C6 : CV := (28, .inr ctSt) :: (33, .inl ctLeast) :: (27, .inl ctClo) :: C4
theorem cx6 : CxOK Try.prog tt G0 C6 := ((cx4.cons clo_held (fn := Try.f27) rfl rfl rfl).cons least_held (fn := Try.f33) rfl rfl rfl).consI st_held (fn := Try.f28) rfl rfl rfl
end Go.Proofs.Ytijeaicbnfiegaa
