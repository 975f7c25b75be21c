/-
  A part of the proof: what a piece of the program gives; conditions: those of each theorem.
-/
import Derived.Test.YtijeaicbnfiegaaSv8
set_option linter.unusedVariables false
namespace Go.Proofs.Ytijeaicbnfiegaa
open Go.Px Go.Ax
/-- The search for the first one. -/
def bs (p : Nat → Bool) : Nat → Nat → Nat → Nat
  | 0, low, _ => low
  | f + 1, low, high => if low < high then (if p (low + (high - low) / 2) then bs p f low (low + (high - low) / 2) else bs p f (low + (high - low) / 2 + 1) high) else low
theorem bs_ok {p : Nat → Bool} : ∀ (f low high : Nat), high - low ≤ f → low ≤ high → (∀ i j, low ≤ i → i ≤ j → j < high → p i = true → p j = true) →
    low ≤ bs p f low high ∧ bs p f low high ≤ high ∧ (∀ k, low ≤ k → k < bs p f low high → p k = false) ∧ ∀ k, bs p f low high ≤ k → k < high → p k = true
  | 0, low, high, hf, h, _ => by
    simp only [bs]
    exact ⟨Nat.le_refl _, h, fun k h1 h2 => by omega, fun k h1 h2 => by omega⟩
  | f + 1, low, high, hf, h, hm => by
    simp only [bs]
    split
    · rename_i hlt
      have hmid : low ≤ low + (high - low) / 2 ∧ low + (high - low) / 2 < high := by omega
      generalize low + (high - low) / 2 = mid at hmid
      split
      · rename_i hp
        obtain ⟨h1, h2, h3, h4⟩ := bs_ok f low mid (by omega) (by omega) fun i j a b c d => hm i j a b (by omega) d
        refine ⟨h1, by omega, h3, fun k k1 k2 => ?_⟩
        by_cases q : k < mid
        · exact h4 k k1 q
        · exact hm mid k (by omega) (by omega) k2 hp
      · rename_i hp
        obtain ⟨h1, h2, h3, h4⟩ := bs_ok f (mid + 1) high (by omega) (by omega) fun i j a b c d => hm i j (by omega) b c d
        refine ⟨by omega, h2, fun k k1 k2 => ?_, h4⟩
        by_cases q : k ≤ mid
        · cases e : p k with
          | false => rfl
          | true => exact absurd (hm k mid k1 q hmid.2 e) hp
        · exact h3 k (by omega) k2
    · exact ⟨Nat.le_refl _, h, fun k h1 h2 => by omega, fun k h1 h2 => by omega⟩
def preFo (low high : Int) (b o s : List Int) (n : Int) : Prop := (0 ≤ low ∧ low ≤ high ∧ high ≤ o.length ∧ o.length < 1048576) ∧ 0 ≤ n ∧ n ≤ s.length ∧ b.length < 1048576 ∧ s.length < 1048576
def bsV (p : Nat → Bool) (low high : Int) : Int := (bs p (high - low).toNat low.toNat high.toNat : Nat)
abbrev cap31 {α : Type} (f : List Int → List Int → List Int → Int → α) (x : DI [fn28]) : α := f x.1.2.1.1 x.1.2.2.1.1 x.1.2.2.2.1.1 x.1.2.2.2.2.1.1
def ctFa : CtrI := ⟨K31, fun x => cap31 (preFo x.1 x.2.1) x.2.2, fun x => [.int .i64 (bsV (fun k => cap31 stB x.2.2 k) x.1 x.2.1)], fun x => bkKL 0 K31 x⟩
abbrev blk4 (b o s : List Int) (n : Int) : List (Nat × LB) := [(1099511627776, .var [.sl (.int .u8) b]), (1099511627777, .var [.sl (.int .i64) o]), (1099511627778, .var [.sl (.int .u8) s]), (1099511627779, .var [.int .i64 n])]
abbrev S31 (b o s : List Int) (n low high : Int) : PS := ⟨[(0, .int .i64 low), (1, .int .i64 high), (2, .fn 28 [] [.ptr 1099511627776 0, .ptr 1099511627777 0, .ptr 1099511627778 0, .ptr 1099511627779 0])], blk4 b o s n⟩
theorem fa_loop {b o s : List Int} {n : Int} (hn : 0 ≤ n ∧ n ≤ s.length ∧ b.length < 1048576 ∧ s.length < 1048576 ∧ o.length < 1048576) : ∀ (f low high : Nat), high - low ≤ f → low ≤ high → high ≤ o.length →
    GD 31 Try.f31 (fun rs blk => rs = [.int .i64 (bs (fun k => stB b o s n k) f low high : Nat)] ∧ blk = blk4 b o s n) (hd Try.f31 0) (S31 b o s n (low : Nat) (high : Nat)) := by
  intro f
  induction f with
  | zero =>
    intro low high hf h1 h2
    refine sy_go cx6 (vc_faL _ _ _ _ _ _ _ _) (bc_of (fun h => ?_) (fun h => ?_))
    · have h := of_decide_eq_true h; omega
    · exact ⟨rfl, rfl⟩
  | succ f ih =>
    intro low high hf h1 h2
    by_cases hlt : low < high
    · refine sy_go cx6 (vc_faL _ _ _ _ _ _ _ _) ?_
      rw [midW h1 (by omega : high < 2 ^ 62), decide_eq_true (show (low : Int) < (high : Int) by omega), bc_t]
      have hbs : bs (fun k => stB b o s n k) (f + 1) low high = if stB b o s n (low + (high - low) / 2 : Nat) = true then bs (fun k => stB b o s n k) f low (low + (high - low) / 2) else bs (fun k => stB b o s n k) f (low + (high - low) / 2 + 1) high := by rw [bs, if_pos hlt]
      have hmid : low ≤ low + (high - low) / 2 ∧ low + (high - low) / 2 < high := by omega
      generalize low + (high - low) / 2 = mid at *
      have e1 : IntKind.i64.wrap ((mid : Int) + 1) = ((mid + 1 : Nat) : Int) := by rw [IntWalk.i64_in _ (by omega)]; omega
      rw [e1]
      refine ⟨by decide, ⟨by show (0 : Int) ≤ (mid : Int); omega, by show (mid : Int) < (o.length : Int); omega, hn.1, hn.2.1, hn.2.2.1, hn.2.2.2.1⟩, bc_of (fun h => ?_) (fun h => ?_)⟩
      · exact ((ih low mid (by omega) (by omega) (by omega)).post fun rs blk q => by rw [hbs, if_pos h]; exact q).only ⟨rfl, rfl, rfl, trivial⟩ ⟨rfl, rfl, rfl, rfl, trivial⟩
      · exact ((ih (mid + 1) high (by omega) (by omega) h2).post fun rs blk q => by rw [hbs, if_neg (by rw [h]; decide)]; exact q).only ⟨rfl, rfl, rfl, trivial⟩ ⟨rfl, rfl, rfl, rfl, trivial⟩
    · obtain rfl : low = high := by omega
      refine sy_go cx6 (vc_faL _ _ _ _ _ _ _ _) (bc_of (fun h => ?_) (fun h => ?_))
      · have h := of_decide_eq_true h; omega
      · refine ⟨?_, rfl⟩
        rw [bs, if_neg (by omega)]
theorem fa_run (low high : Int) (b o s : List Int) (n : Int) (hp : preFo low high b o s n) : sy tt G0 C6 Try.f31.ntmps Try.f31.results.toList (QI ctFa (low, high, ((), ((b, ()), (o, ()), (s, ()), (n, ()), ())), ())) (Px.Good Try.prog tt G0 31 Try.f31.ntmps Try.f31.results.toList (QI ctFa (low, high, ((), ((b, ()), (o, ()), (s, ()), (n, ()), ())), ()))) 1000 [.code (bodyOf Try.f31)] (entryI K31 (low, high, ((), ((b, ()), (o, ()), (s, ()), (n, ()), ())), ())) := by
  obtain ⟨⟨h0, h1, h2, h3⟩, h4, h5, h6, h7⟩ := hp
  refine (vc_fa _ _ _ _ _ _ _ _).mpr ?_
  have e0 : ((low.toNat : Nat) : Int) = low := by omega
  have e1 : ((high.toNat : Nat) : Int) = high := by omega
  have L := fa_loop (b := b) (o := o) (s := s) (n := n) ⟨h4, h5, h6, h7, h3⟩ (high - low).toNat low.toNat high.toNat (by omega) (by omega) (by omega)
  rw [e0, e1] at L
  refine (L.post fun rs blk q => ?_).only ⟨rfl, rfl, rfl, trivial⟩ ⟨rfl, rfl, rfl, rfl, trivial⟩
  obtain ⟨rfl, rfl⟩ := q
  exact ⟨[], ⟨_, _, rfl, rfl, rfl⟩, ⟨.inl ⟨_, _, rfl, rfl, _, rfl, _, _, rfl, .inl rfl, rfl⟩, .inl ⟨_, _, rfl, rfl, _, rfl, _, _, rfl, .inl rfl, rfl⟩, .inl ⟨_, _, rfl, rfl, _, rfl, _, _, rfl, .inl rfl, rfl⟩, .inl ⟨_, _, rfl, rfl, _, rfl, _, _, rfl, rfl, rfl⟩, trivial⟩, by decide, by simp⟩
theorem fa_held : HeldI Try.prog G0 31 ctFa := HeldI.run cx6 (fn := Try.f31) rfl rfl ⟨by decide, by decide⟩ fun x hp => fa_run x.1 x.2.1 x.2.2.1.2.1.1 x.2.2.1.2.2.1.1 x.2.2.1.2.2.2.1.1 x.2.2.1.2.2.2.2.1.1 hp
abbrev K32 : List AK := [.dat (.int .i64), .ptr [fn28]]
abbrev fn32 : AK := .fn 32 [] [.ptr [fn28]]
abbrev K31b : List AK := [.dat (.int .i64), .dat (.int .i64), fn32]
end Go.Proofs.Ytijeaicbnfiegaa
