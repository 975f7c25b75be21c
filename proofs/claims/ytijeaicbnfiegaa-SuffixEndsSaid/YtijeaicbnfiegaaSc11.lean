/-
  A part of the proof: what a piece of the program gives; conditions: those of each theorem.
-/
import Derived.Test.YtijeaicbnfiegaaSv10
set_option linter.unusedVariables false
namespace Go.Proofs.Ytijeaicbnfiegaa
open Go.Px Go.Ax
abbrev cap33 {α : Type} (f : List Int → List Int → List Int → Int → α) (x : DI [fn32]) : α := cap32 f x.1.2
def ctFb : CtrI := ⟨K31b, fun x => cap33 (preFo x.1 x.2.1) x.2.2, fun x => [.int .i64 (bsV (fun k => !cap33 stB x.2.2 k) x.1 x.2.1)], fun x => bkKL 0 K31b x⟩
abbrev blk5 (b o s : List Int) (n : Int) : List (Nat × LB) := [(1099511627776, .var [.fn 28 [] [.ptr 1099511627777 0, .ptr 1099511627778 0, .ptr 1099511627779 0, .ptr 1099511627780 0]]), (1099511627777, .var [.sl (.int .u8) b]), (1099511627778, .var [.sl (.int .i64) o]), (1099511627779, .var [.sl (.int .u8) s]), (1099511627780, .var [.int .i64 n])]
abbrev S31b (b o s : List Int) (n low high : Int) : PS := ⟨[(0, .int .i64 low), (1, .int .i64 high), (2, .fn 32 [] [.ptr 1099511627776 0])], blk5 b o s n⟩
theorem fb_loop {b o s : List Int} {n : Int} (hn : 0 ≤ n ∧ n ≤ s.length ∧ b.length < 1048576 ∧ s.length < 1048576 ∧ o.length < 1048576) : ∀ (f low high : Nat), high - low ≤ f → low ≤ high → high ≤ o.length →
    GD 31 Try.f31 (fun rs blk => rs = [.int .i64 (bs (fun k => !stB b o s n k) f low high : Nat)] ∧ blk = blk5 b o s n) (hd Try.f31 0) (S31b b o s n (low : Nat) (high : Nat)) := by
  intro f
  induction f with
  | zero =>
    intro low high hf h1 h2
    refine sy_go cx8 (vc_fbL _ _ _ _ _ _ _ _) (bc_of (fun h => ?_) (fun h => ?_))
    · have h := of_decide_eq_true h; omega
    · exact ⟨rfl, rfl⟩
  | succ f ih =>
    intro low high hf h1 h2
    by_cases hlt : low < high
    · refine sy_go cx8 (vc_fbL _ _ _ _ _ _ _ _) ?_
      rw [midW h1 (by omega : high < 2 ^ 62), decide_eq_true (show (low : Int) < (high : Int) by omega), bc_t]
      have hbs : bs (fun k => !stB b o s n k) (f + 1) low high = if (!stB b o s n (low + (high - low) / 2 : Nat)) = true then bs (fun k => !stB b o s n k) f low (low + (high - low) / 2) else bs (fun k => !stB b o s n k) f (low + (high - low) / 2 + 1) high := by rw [bs, if_pos hlt]
      have hmid : low ≤ low + (high - low) / 2 ∧ low + (high - low) / 2 < high := by omega
      generalize low + (high - low) / 2 = mid at *
      have e1 : IntKind.i64.wrap ((mid : Int) + 1) = ((mid + 1 : Nat) : Int) := by rw [IntWalk.i64_in _ (by omega)]; omega
      rw [e1]
      refine ⟨by decide, ⟨by show (0 : Int) ≤ (mid : Int); omega, by show (mid : Int) < (o.length : Int); omega, hn.1, hn.2.1, hn.2.2.1, hn.2.2.2.1⟩, bc_of (fun h => ?_) (fun h => ?_)⟩
      · exact ((ih low mid (by omega) (by omega) (by omega)).post fun rs blk q => by rw [hbs, if_pos h]; exact q).only ⟨rfl, rfl, rfl, trivial⟩ ⟨rfl, rfl, rfl, rfl, rfl, trivial⟩
      · exact ((ih (mid + 1) high (by omega) (by omega) h2).post fun rs blk q => by rw [hbs, if_neg (by rw [h]; decide)]; exact q).only ⟨rfl, rfl, rfl, trivial⟩ ⟨rfl, rfl, rfl, rfl, rfl, trivial⟩
    · obtain rfl : low = high := by omega
      refine sy_go cx8 (vc_fbL _ _ _ _ _ _ _ _) (bc_of (fun h => ?_) (fun h => ?_))
      · have h := of_decide_eq_true h; omega
      · refine ⟨?_, rfl⟩
        rw [bs, if_neg (by omega)]
theorem fb_run (low high : Int) (b o s : List Int) (n : Int) (hp : preFo low high b o s n) : sy tt G0 C8 Try.f31.ntmps Try.f31.results.toList (QI ctFb (low, high, ((), ((((), ((b, ()), (o, ()), (s, ()), (n, ()), ())), ()), ())), ())) (Px.Good Try.prog tt G0 31 Try.f31.ntmps Try.f31.results.toList (QI ctFb (low, high, ((), ((((), ((b, ()), (o, ()), (s, ()), (n, ()), ())), ()), ())), ()))) 1000 [.code (bodyOf Try.f31)] (entryI K31b (low, high, ((), ((((), ((b, ()), (o, ()), (s, ()), (n, ()), ())), ()), ())), ())) := by
  obtain ⟨⟨h0, h1, h2, h3⟩, h4, h5, h6, h7⟩ := hp
  refine (vc_fb _ _ _ _ _ _ _ _).mpr ?_
  have e0 : ((low.toNat : Nat) : Int) = low := by omega
  have e1 : ((high.toNat : Nat) : Int) = high := by omega
  have L := fb_loop (b := b) (o := o) (s := s) (n := n) ⟨h4, h5, h6, h7, h3⟩ (high - low).toNat low.toNat high.toNat (by omega) (by omega) (by omega)
  rw [e0, e1] at L
  refine (L.post fun rs blk q => ?_).only ⟨rfl, rfl, rfl, trivial⟩ ⟨rfl, rfl, rfl, rfl, rfl, trivial⟩
  obtain ⟨rfl, rfl⟩ := q
  refine QI.self rfl rfl rfl ?_
  intro p hp
  simp only [ctFb, bkKL, bkK, cnt, cntL, List.append_nil, List.nil_append, List.mem_append, List.mem_cons, List.mem_singleton, List.not_mem_nil, or_false] at hp
  rcases hp with rfl | rfl | rfl | rfl | rfl <;> rfl
theorem fb_held : HeldI Try.prog G0 31 ctFb := HeldI.run cx8 (fn := Try.f31) rfl rfl ⟨by decide, by decide⟩ fun x hp => fb_run x.1 x.2.1 x.2.2.1.2.1.1.2.1.1 x.2.2.1.2.1.1.2.2.1.1 x.2.2.1.2.1.1.2.2.2.1.1 x.2.2.1.2.1.1.2.2.2.2.1.1 hp
def C9 : CV := (31, .inr ctFb) :: C8
theorem cx9 : CxOK Try.prog tt G0 C9 := cx8.consI fb_held (fn := Try.f31) rfl rfl rfl
end Go.Proofs.Ytijeaicbnfiegaa
