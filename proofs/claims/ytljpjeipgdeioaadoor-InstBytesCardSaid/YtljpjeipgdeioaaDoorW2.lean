/-
  A part of the proof: what a piece of the program gives; conditions: those of each theorem.
-/
import Derived.Test.YtljpjeipgdeioaaDoorW1
set_option linter.unusedVariables false
namespace Go.Proofs.YtljpjeipgdeioaaDoor
open Ax
set_option maxHeartbeats 8000000
def wordsOf : List Int → List Int
  | a :: b :: c :: d :: r => (a * 16777216 + b * 65536 + c * 256 + d) :: wordsOf r
  | _ => []
theorem wordsOf_length : ∀ (l : List Int), (wordsOf l).length = l.length / 4
  | [] => rfl
  | [_] => by simp [wordsOf]
  | [_, _] => by simp [wordsOf]
  | [_, _, _] => by simp [wordsOf]
  | a :: b :: c :: d :: r => by simp only [wordsOf, List.length_cons, wordsOf_length r]; omega
theorem wordsOf_append : ∀ (l m : List Int), l.length % 4 = 0 → wordsOf (l ++ m) = wordsOf l ++ wordsOf m
  | [], m, _ => rfl
  | [_], _, h => by simp at h
  | [_, _], _, h => by simp at h
  | [_, _, _], _, h => by simp at h
  | a :: b :: c :: d :: r, m, h => by
    simp only [List.cons_append, wordsOf, List.cons.injEq, true_and]
    exact wordsOf_append r m (by simp only [List.length_cons] at h; omega)
theorem four_of {l : List Int} {k : Nat} (h : k + 4 ≤ l.length) : ∃ a b c d r, l.drop k = a :: b :: c :: d :: r := by
  have hl : (l.drop k).length = l.length - k := List.length_drop
  match hd : l.drop k with
  | a :: b :: c :: d :: r => exact ⟨a, b, c, d, r, rfl⟩
  | [] => rw [hd] at hl; simp at hl; omega
  | [_] => rw [hd] at hl; simp at hl; omega
  | [_, _] => rw [hd] at hl; simp at hl; omega
  | [_, _, _] => rw [hd] at hl; simp at hl; omega
theorem wordsOf_step {l : List Int} {j : Nat} {a b c d : Int} {r : List Int} (hj : 4 * j + 4 ≤ l.length) (h : l.drop (4 * j) = a :: b :: c :: d :: r) : wordsOf (l.take (4 * (j + 1))) = wordsOf (l.take (4 * j)) ++ [a * 16777216 + b * 65536 + c * 256 + d] := by
  rw [show 4 * (j + 1) = 4 * j + 4 by omega, List.take_add, h, wordsOf_append _ _ (by rw [List.length_take]; omega)]
  rfl
theorem word1_fill (w : Int) : Instr.fill (fun i => some (i * 1, 1)) ((Array.range (1 * 1)).map ((Value.int IntKind.u32 0).cells[· % (Value.int IntKind.u32 0).cells.size]!)) [(0, Value.int IntKind.u32 w)] = some #[.int .u32 w] := by kernel_rfl
theorem word1_lit {w : Int} {H : AHeap} (hn : H.next < maxIds) : aBuildSlice Tryd.prog H 29 1 #[(0, .int .u32 w)] = some (.slice (some ⟨H.next, 0, none⟩) 1 1, H.add (.cells [.int .u32 w] 22 0)) := by
  unfold aBuildSlice
  rw [u29]
  simp only [sz22, z22]
  rw [if_pos (by decide), word1_fill w]
  simp [aNewSlice, hn, openCap]
theorem sl29 : ∃ inf, USl Tryd.prog 29 22 inf (.int .u32 0) := USl.of_ok (by decide +kernel) rfl rfl
theorem put_one {a : List Value} {m k : Nat} {x z : Value} (hk : a.length = k) : (a ++ List.replicate (m + 1) z).take (0 + k) ++ (([x].drop 0).take 1) ++ (a ++ List.replicate (m + 1) z).drop (0 + k + 1) = a ++ [x] ++ List.replicate m z := by
  subst hk
  rw [Nat.zero_add, List.take_left, ← List.drop_drop, List.drop_left]
  simp [List.replicate_succ]
theorem words_ev {H : AHeap} {v : Value} {bs : List Int} (hv : InS H v (bs.map (Value.int .u8))) (hr : ∀ x ∈ bs, 0 ≤ x ∧ x ≤ 255) (hn : bs.length < 2 ^ 20) (hN : H.next + bs.length + 1 < maxIds) :
    ∃ r H2, EvS Tryd.prog (.call 17 #[v] H) (.value r H2) ∧ ((bs.length % 4 ≠ 0 ∧ r = .tuple #[.slice none 0 0, .int .i64 61] ∧ H2 = H) ∨ (bs.length % 4 = 0 ∧ ∃ s, r = .tuple #[s, .int .i64 0] ∧ InS H2 s ((wordsOf bs).map (Value.int .u32)) ∧ Keep H H2 (1 + bs.length))) := by
  obtain ⟨inf, U⟩ := sl29
  refine EvS.call cx F17 (fn := Tryd.f17) rfl ⟨by simp [Tryd.f17], by simp⟩ ?_
  have hm0 : ((bs.length : Int)).tmod 4 = ((bs.length % 4 : Nat) : Int) := by rw [Int.tmod_eq_emod_of_nonneg (by omega)]; omega
  have hq0 : IntKind.i64.wrap (((bs.length : Int)).tdiv 4) = ((bs.length / 4 : Nat) : Int) := by rw [IntWalk.i64_quo _ _ ⟨by omega, by omega, by decide⟩]; omega
  have hN' : H.next < maxIds := by omega
  by_cases h4 : bs.length % 4 = 0
  · repeat (first
    | (refine OT.fetch rfl (fun i_ ho_ => ?_)
       first
        | refine OT.move ho_ rfl rfl rfl ?_
        | refine OT.assign ho_ rfl rfl rfl ?_
        | refine OT.un ho_ rfl rfl ?_
        | refine OT.pickT ho_ rfl rfl rfl rfl ?_
        | refine OT.pickF ho_ rfl rfl rfl rfl ?_
        | refine OT.extract ho_ rfl rfl rfl rfl ?_
        | refine OT.not ho_ rfl rfl rfl ?_
        | refine OT.faddr ho_ rfl rfl (by first | exact us31 | exact us59) (by decide) rfl ?_
        | refine OT.ld ho_ rfl rfl (by first | exact ga3 | exact ga4 | exact ga5 | exact ga9 | exact ga22) rfl rfl (by first | exact trivial | exact .inr (.inl ⟨rfl, fun b hb => by cases hb; decide⟩) | exact Side.pass rfl | exact .inr (.inl ⟨rfl, fun b hb H2 h2 => by cases hb; exact (h2.keep _ (by decide)).trans (by rfl)⟩) | exact .inr (.inr ⟨rfl, fun _ => ⟨lay_of (Nat.le_of_ble_eq_true (by rfl)) (by rfl), fun b hb => by simp only [List.mem_cons, List.not_mem_nil, or_false] at hb; subst hb; rfl⟩⟩)) rfl ?_
        | refine OT.lenQ (bs.length : Int) hv u46 (by simp) ho_ rfl rfl rfl ?_
        | refine OT.arW ((bs.length % 4 : Nat) : Int) ho_ rfl rfl rfl (fun _ _ => by rw [aBin_rem (by decide), hm0]) rfl ?_
        | refine OT.arW ((bs.length / 4 : Nat) : Int) ho_ rfl rfl rfl (fun _ _ => by rw [aBin_quo (by decide), hq0]) rfl ?_
        | refine OT.makeU U ho_ rfl rfl rfl (by omega) (by omega) (by omega) hN' trivial rfl ?_
        | refine OT.cmpT ho_ rfl rfl rfl rfl (by first | (simp only [cmpP]; done) | (simp only [cmpP]; omega)) rfl ?_
        | refine OT.cmpF ho_ rfl rfl rfl rfl (by first | (simp only [cmpP]; done) | (simp only [cmpP]; omega)) rfl ?_
        | refine OT.add ho_ rfl rfl rfl (by first | exact IntWalk.i64_in _ (by omega) | exact IntWalk.u8_in _ (by omega) | exact IntWalk.u32_in _ (by omega) | exact IntWalk.u16_in _ (by omega) | exact IntWalk.i32_in _ (by omega)) rfl ?_
        | refine OT.sub ho_ rfl rfl rfl (by first | exact IntWalk.i64_in _ (by omega) | exact IntWalk.u8_in _ (by omega) | exact IntWalk.u32_in _ (by omega) | exact IntWalk.u16_in _ (by omega) | exact IntWalk.i32_in _ (by omega)) rfl ?_
        | refine OT.mul ho_ rfl rfl rfl (by first | exact IntWalk.i64_in _ (by omega) | exact IntWalk.u8_in _ (by omega) | exact IntWalk.u32_in _ (by omega) | exact IntWalk.u16_in _ (by omega) | exact IntWalk.i32_in _ (by omega)) rfl ?_
        | refine OT.quo ho_ rfl rfl rfl (by omega) (by omega) (by first | exact IntWalk.i64_in _ (by omega) | exact IntWalk.u8_in _ (by omega) | exact IntWalk.u32_in _ (by omega) | exact IntWalk.u16_in _ (by omega) | exact IntWalk.i32_in _ (by omega)) rfl ?_
        | refine OT.rem ho_ rfl rfl rfl (by omega) (by omega) rfl ?_
        | refine OT.box _ ho_ rfl rfl rfl (Nat.le_of_ble_eq_true (by rfl)) (by first | exact trivial | exact .inr (.inl ⟨rfl, fun b hb => by cases hb; decide⟩) | exact Side.pass rfl | exact .inr (.inl ⟨rfl, fun b hb H2 h2 => by cases hb; exact (h2.keep _ (by decide)).trans (by rfl)⟩) | exact .inr (.inr ⟨rfl, fun _ => ⟨lay_of (Nat.le_of_ble_eq_true (by rfl)) (by rfl), fun b hb => by simp only [List.mem_cons, List.not_mem_nil, or_false] at hb; subst hb; rfl⟩⟩)) rfl ?_
        | refine OT.alloc _ ho_ rfl (by first | exact z31 | exact z59 | exact z61) rfl rfl (Nat.le_of_ble_eq_true (by rfl)) (by first | exact trivial | exact .inr (.inl ⟨rfl, fun b hb => by cases hb; decide⟩) | exact Side.pass rfl | exact .inr (.inl ⟨rfl, fun b hb H2 h2 => by cases hb; exact (h2.keep _ (by decide)).trans (by rfl)⟩) | exact .inr (.inr ⟨rfl, fun _ => ⟨lay_of (Nat.le_of_ble_eq_true (by rfl)) (by rfl), fun b hb => by simp only [List.mem_cons, List.not_mem_nil, or_false] at hb; subst hb; rfl⟩⟩)) rfl ?_
        | refine OT.ldA ho_ rfl rfl (by first | exact ga31 | exact ga59 | exact ga61 | exact ga24) (by first | exact sz3 | exact sz5 | exact sz22 | exact sz31 | exact sz59 | exact sz61 | exact sz24) rfl (Nat.le_of_ble_eq_true (by rfl)) rfl (by first | exact trivial | exact .inr (.inl ⟨rfl, fun b hb => by cases hb; decide⟩) | exact Side.pass rfl | exact .inr (.inl ⟨rfl, fun b hb H2 h2 => by cases hb; exact (h2.keep _ (by decide)).trans (by rfl)⟩) | exact .inr (.inr ⟨rfl, fun _ => ⟨lay_of (Nat.le_of_ble_eq_true (by rfl)) (by rfl), fun b hb => by simp only [List.mem_cons, List.not_mem_nil, or_false] at hb; subst hb; rfl⟩⟩)) rfl ?_
        | refine OT.st _ ho_ rfl rfl rfl (by first | exact sz3 | exact sz5 | exact sz22 | exact sz31 | exact sz59 | exact sz61 | exact sz24) rfl (by rfl) rfl (by decide) (Nat.le_of_ble_eq_true (by rfl)) rfl (Nat.le_of_ble_eq_true (by rfl)) rfl (by first | exact trivial | exact .inr (.inl ⟨rfl, fun b hb => by cases hb; decide⟩) | exact Side.pass rfl | exact .inr (.inl ⟨rfl, fun b hb H2 h2 => by cases hb; exact (h2.keep _ (by decide)).trans (by rfl)⟩) | exact .inr (.inr ⟨rfl, fun _ => ⟨lay_of (Nat.le_of_ble_eq_true (by rfl)) (by rfl), fun b hb => by simp only [List.mem_cons, List.not_mem_nil, or_false] at hb; subst hb; rfl⟩⟩)) ?_
        | refine OT.iaddrA ho_ rfl rfl rfl (by first | exact u60 | exact u61 | exact u24) (by first | exact sz3 | exact sz5 | exact sz22 | exact sz31 | exact sz59 | exact sz61 | exact sz24) (by omega) (by omega) rfl ?_
        | refine OT.buildV ho_ rfl rfl (by first | exact bld31 _ _ _ _ _ | exact bld31b _ _) rfl ?_
        | refine OT.mkF ho_ rfl rfl rfl rfl ?_
        | refine OT.maxQ _ ho_ rfl rfl rfl rfl rfl ?_
        | refine OT.minQ _ ho_ rfl rfl rfl rfl rfl ?_
        | refine OT.convI ho_ rfl rfl (by first | exact u3 | exact u5 | exact u22 | exact u56 | exact u21 | exact u25 | exact u33 | exact u42 | exact u2) (by first | exact u3 | exact u5 | exact u22 | exact u56 | exact u21 | exact u25 | exact u33 | exact u42 | exact u2) (by first | exact IntWalk.i64_in _ (by omega) | exact IntWalk.u8_in _ (by omega) | exact IntWalk.u32_in _ (by omega) | exact IntWalk.u16_in _ (by omega) | exact IntWalk.i32_in _ (by omega)) rfl ?_
       clear ho_ i_)
    | refine OT.nil ?_
    | refine Tr.region cx ?_
    | refine Tr.draw cx [] noEv (Valid.none _) (by decide +kernel) ?_
    | refine Tr.cond_true cx rfl ?_
    | refine Tr.cond_false cx rfl ?_
    | refine Tr.seq cx ?_
    | refine Tr.block cx ?_
    | refine Tr.ret cx ?_
    | refine Tr.skip cx ?_
    | refine Tr.exit cx ?_)
    let I : Nat → AS → Prop := fun j s => 4 * j ≤ bs.length ∧ s.defs = [] ∧ (∃ v', InS H v' ((bs.drop (4 * j)).map (Value.int .u8)) ∧ Sub (T.set 20 (T.set 20 .nil 4 (.slice (some ⟨H.next, 0, none⟩) j (bs.length / 4))) 0 v') s.env) ∧
      Keep H s.H (1 + j) ∧ H.next < s.H.next ∧ s.H.t.get H.next = some (.cells ((wordsOf (bs.take (4 * j))).map (Value.int .u32) ++ List.replicate (bs.length / 4 - j) (.int .u32 0)) 22 0)
    refine Tr.loop cx I (fun j => bs.length / 4 - j) 0 ?_ ?_
    · refine ⟨Nat.zero_le _, rfl, ⟨v, by simpa using hv, ?_⟩, ?_, ?_, ?_⟩
      · exact .set (by omega) rfl rfl (.set (by omega) rfl rfl .nil)
      · exact ⟨by simp [AHeap.add], by simp [AHeap.add], fun i hi => AHeap.get_add_other (by omega)⟩
      · simp [AHeap.add]
      · rw [AHeap.get_add hN']; rfl
    · rintro j ⟨E, defs, H1⟩ ⟨hj, hdefs, ⟨v', hv', hsub⟩, hkeep, hlt, hout⟩
      simp only at hdefs hkeep hlt hout hsub
      subst hdefs
      refine Tr.sub hsub ?_
      by_cases hjn : 4 * j < bs.length
      · obtain ⟨x0, x1, x2, x3, rest, hd⟩ := four_of (l := bs) (k := 4 * j) (by omega)
        have hstep := wordsOf_step (by omega) hd
        have hmem : ∀ x ∈ [x0, x1, x2, x3], 0 ≤ x ∧ x ≤ 255 := fun x hx => hr x (by
          have : x ∈ bs.drop (4 * j) := by rw [hd]; simp at hx ⊢; rcases hx with rfl | rfl | rfl | rfl <;> simp
          exact List.mem_of_mem_drop this)
        have r0 := hmem x0 (by simp)
        have r1 := hmem x1 (by simp)
        have r2 := hmem x2 (by simp)
        have r3 := hmem x3 (by simp)
        rw [hd] at hv'
        have hv2 := hv'
        have hN1 : H1.next < maxIds := by have := hkeep.most; omega
        generalize hout0 : (wordsOf (bs.take (4 * j))).map (Value.int .u32) = done at hout
        have hdl : done.length = j := by rw [← hout0, List.length_map, wordsOf_length, List.length_take]; omega
        have hrep : List.replicate (bs.length / 4 - j) (Value.int .u32 0) = List.replicate ((bs.length / 4 - (j + 1)) + 1) (Value.int .u32 0) := by congr 1; omega
        rw [hrep] at hout
        obtain ⟨b, off, c, s, e, k, rfl, hb, hl, hs, hbn, hc, hco, hcl⟩ := hv'.inv (by simp only [List.length_map, List.length_cons]; omega)
        have hb1 : H1.t.get b = some (.cells s e k) := by rw [hkeep.old _ hbn]; exact hb
        have hb2 : ∀ x, (H1.add x).t.get b = some (.cells s e k) := fun x => by rw [AHeap.get_add_other (by omega)]; exact hb1
        have i0 : s[off + (0 : Int).toNat * 1]? = some (.int .u8 x0) := ix (a := x0 :: x1 :: x2 :: x3 :: rest) (j := 0) hs (by simp)
        have i1 : s[off + (1 : Int).toNat * 1]? = some (.int .u8 x1) := ix (a := x0 :: x1 :: x2 :: x3 :: rest) (j := 1) hs (by simp)
        have i2 : s[off + (2 : Int).toNat * 1]? = some (.int .u8 x2) := ix (a := x0 :: x1 :: x2 :: x3 :: rest) (j := 2) hs (by simp)
        have i3 : s[off + (3 : Int).toNat * 1]? = some (.int .u8 x3) := ix (a := x0 :: x1 :: x2 :: x3 :: rest) (j := 3) hs (by simp)
        have hout' : ∀ x, (H1.add x).t.get H.next = some (.cells (done ++ List.replicate ((bs.length / 4 - (j + 1)) + 1) (Value.int .u32 0)) 22 0) := fun x => by rw [AHeap.get_add_other (by omega)]; exact hout
        repeat (first
    | (refine OT.fetch rfl (fun i_ ho_ => ?_)
       first
        | refine OT.move ho_ rfl rfl rfl ?_
        | refine OT.assign ho_ rfl rfl rfl ?_
        | refine OT.un ho_ rfl rfl ?_
        | refine OT.pickT ho_ rfl rfl rfl rfl ?_
        | refine OT.pickF ho_ rfl rfl rfl rfl ?_
        | refine OT.extract ho_ rfl rfl rfl rfl ?_
        | refine OT.not ho_ rfl rfl rfl ?_
        | refine OT.faddr ho_ rfl rfl (by first | exact us31 | exact us59) (by decide) rfl ?_
        | refine OT.ld ho_ rfl rfl (by first | exact ga3 | exact ga4 | exact ga5 | exact ga9 | exact ga22) rfl rfl (by first | exact trivial | exact .inr (.inl ⟨rfl, fun b hb => by cases hb; decide⟩) | exact Side.pass rfl | exact .inr (.inl ⟨rfl, fun b hb H2 h2 => by cases hb; exact (h2.keep _ (by decide)).trans (by rfl)⟩) | exact .inr (.inr ⟨rfl, fun _ => ⟨lay_of (Nat.le_of_ble_eq_true (by rfl)) (by rfl), fun b hb => by simp only [List.mem_cons, List.not_mem_nil, or_false] at hb; subst hb; rfl⟩⟩)) rfl ?_
        | refine OT.lenS ho_ rfl rfl u46 rfl ?_
        | refine OT.cmpT ho_ rfl rfl rfl rfl (by simp only [cmpP, List.length_map, List.length_cons]; omega) rfl ?_
        | refine OT.indexAddr ho_ rfl rfl rfl u46 sz5 (by decide) (by simp only [List.length_map, List.length_cons]; omega) rfl ?_
        | refine OT.ldV _ ho_ rfl rfl ga5 hb1 i0 (.inr (.inl ⟨rfl, fun b hb => by cases hb; simp⟩)) rfl ?_
        | refine OT.ldV _ ho_ rfl rfl ga5 hb1 i1 (.inr (.inl ⟨rfl, fun b hb => by cases hb; simp⟩)) rfl ?_
        | refine OT.ldV _ ho_ rfl rfl ga5 hb1 i2 (.inr (.inl ⟨rfl, fun b hb => by cases hb; simp⟩)) rfl ?_
        | refine OT.ldV _ ho_ rfl rfl ga5 hb1 i3 (.inr (.inl ⟨rfl, fun b hb => by cases hb; simp⟩)) rfl ?_
        | refine OT.convI ho_ rfl rfl u5 u22 (IntWalk.u32_in _ (by omega)) rfl ?_
        | refine OT.shl 16777216 ho_ rfl rfl rfl (by decide) (by decide) (by decide) (IntWalk.u32_in _ (by omega)) rfl ?_
        | refine OT.shl 65536 ho_ rfl rfl rfl (by decide) (by decide) (by decide) (IntWalk.u32_in _ (by omega)) rfl ?_
        | refine OT.shl 256 ho_ rfl rfl rfl (by decide) (by decide) (by decide) (IntWalk.u32_in _ (by omega)) rfl ?_
        | refine OT.orA 24 ho_ rfl rfl rfl (by omega) (by simp only [IntKind.bits]; omega) (by omega) (by omega) (by omega) (IntWalk.u32_in _ (by omega)) rfl ?_
        | refine OT.orA 16 ho_ rfl rfl rfl (by omega) (by simp only [IntKind.bits]; omega) (by omega) (by omega) (by omega) (IntWalk.u32_in _ (by omega)) rfl ?_
        | refine OT.orA 8 ho_ rfl rfl rfl (by omega) (by simp only [IntKind.bits]; omega) (by omega) (by omega) (by omega) (IntWalk.u32_in _ (by omega)) rfl ?_
        | refine OT.buildSl ho_ rfl rfl (word1_lit hN1) (.inr (.inr ⟨rfl, rfl, fun b hb => by simp only [List.mem_singleton] at hb; subst hb; exact AHeap.get_add_other (by omega)⟩)) rfl ?_
        | refine OT.roomU U ho_ rfl rfl rfl (hout' _) (AHeap.get_add hN1) (by decide) hN' (by unfold openCap; omega) (by decide) (by omega) (by simp only [List.length_append, List.length_replicate]; omega) (by simp) rfl rfl rfl (.inr (.inr ⟨rfl, rfl, fun b hb => by simp only [List.mem_singleton] at hb; subst hb; exact AHeap.get_put_other (by omega)⟩)) rfl ?_
        | refine OT.cmpT ho_ rfl rfl rfl rfl (by first | (simp only [cmpP]; done) | (simp only [cmpP]; omega)) rfl ?_
        | refine OT.cmpF ho_ rfl rfl rfl rfl (by first | (simp only [cmpP]; done) | (simp only [cmpP]; omega)) rfl ?_
        | refine OT.add ho_ rfl rfl rfl (by first | exact IntWalk.i64_in _ (by omega) | exact IntWalk.u8_in _ (by omega) | exact IntWalk.u32_in _ (by omega) | exact IntWalk.u16_in _ (by omega) | exact IntWalk.i32_in _ (by omega)) rfl ?_
        | refine OT.sub ho_ rfl rfl rfl (by first | exact IntWalk.i64_in _ (by omega) | exact IntWalk.u8_in _ (by omega) | exact IntWalk.u32_in _ (by omega) | exact IntWalk.u16_in _ (by omega) | exact IntWalk.i32_in _ (by omega)) rfl ?_
        | refine OT.mul ho_ rfl rfl rfl (by first | exact IntWalk.i64_in _ (by omega) | exact IntWalk.u8_in _ (by omega) | exact IntWalk.u32_in _ (by omega) | exact IntWalk.u16_in _ (by omega) | exact IntWalk.i32_in _ (by omega)) rfl ?_
        | refine OT.quo ho_ rfl rfl rfl (by omega) (by omega) (by first | exact IntWalk.i64_in _ (by omega) | exact IntWalk.u8_in _ (by omega) | exact IntWalk.u32_in _ (by omega) | exact IntWalk.u16_in _ (by omega) | exact IntWalk.i32_in _ (by omega)) rfl ?_
        | refine OT.rem ho_ rfl rfl rfl (by omega) (by omega) rfl ?_
        | refine OT.box _ ho_ rfl rfl rfl (Nat.le_of_ble_eq_true (by rfl)) (by first | exact trivial | exact .inr (.inl ⟨rfl, fun b hb => by cases hb; decide⟩) | exact Side.pass rfl | exact .inr (.inl ⟨rfl, fun b hb H2 h2 => by cases hb; exact (h2.keep _ (by decide)).trans (by rfl)⟩) | exact .inr (.inr ⟨rfl, fun _ => ⟨lay_of (Nat.le_of_ble_eq_true (by rfl)) (by rfl), fun b hb => by simp only [List.mem_cons, List.not_mem_nil, or_false] at hb; subst hb; rfl⟩⟩)) rfl ?_
        | refine OT.alloc _ ho_ rfl (by first | exact z31 | exact z59 | exact z61) rfl rfl (Nat.le_of_ble_eq_true (by rfl)) (by first | exact trivial | exact .inr (.inl ⟨rfl, fun b hb => by cases hb; decide⟩) | exact Side.pass rfl | exact .inr (.inl ⟨rfl, fun b hb H2 h2 => by cases hb; exact (h2.keep _ (by decide)).trans (by rfl)⟩) | exact .inr (.inr ⟨rfl, fun _ => ⟨lay_of (Nat.le_of_ble_eq_true (by rfl)) (by rfl), fun b hb => by simp only [List.mem_cons, List.not_mem_nil, or_false] at hb; subst hb; rfl⟩⟩)) rfl ?_
        | refine OT.ldA ho_ rfl rfl (by first | exact ga31 | exact ga59 | exact ga61 | exact ga24) (by first | exact sz3 | exact sz5 | exact sz22 | exact sz31 | exact sz59 | exact sz61 | exact sz24) rfl (Nat.le_of_ble_eq_true (by rfl)) rfl (by first | exact trivial | exact .inr (.inl ⟨rfl, fun b hb => by cases hb; decide⟩) | exact Side.pass rfl | exact .inr (.inl ⟨rfl, fun b hb H2 h2 => by cases hb; exact (h2.keep _ (by decide)).trans (by rfl)⟩) | exact .inr (.inr ⟨rfl, fun _ => ⟨lay_of (Nat.le_of_ble_eq_true (by rfl)) (by rfl), fun b hb => by simp only [List.mem_cons, List.not_mem_nil, or_false] at hb; subst hb; rfl⟩⟩)) rfl ?_
        | refine OT.st _ ho_ rfl rfl rfl (by first | exact sz3 | exact sz5 | exact sz22 | exact sz31 | exact sz59 | exact sz61 | exact sz24) rfl (by rfl) rfl (by decide) (Nat.le_of_ble_eq_true (by rfl)) rfl (Nat.le_of_ble_eq_true (by rfl)) rfl (by first | exact trivial | exact .inr (.inl ⟨rfl, fun b hb => by cases hb; decide⟩) | exact Side.pass rfl | exact .inr (.inl ⟨rfl, fun b hb H2 h2 => by cases hb; exact (h2.keep _ (by decide)).trans (by rfl)⟩) | exact .inr (.inr ⟨rfl, fun _ => ⟨lay_of (Nat.le_of_ble_eq_true (by rfl)) (by rfl), fun b hb => by simp only [List.mem_cons, List.not_mem_nil, or_false] at hb; subst hb; rfl⟩⟩)) ?_
        | refine OT.iaddrA ho_ rfl rfl rfl (by first | exact u60 | exact u61 | exact u24) (by first | exact sz3 | exact sz5 | exact sz22 | exact sz31 | exact sz59 | exact sz61 | exact sz24) (by omega) (by omega) rfl ?_
        | refine OT.buildV ho_ rfl rfl (by first | exact bld31 _ _ _ _ _ | exact bld31b _ _) rfl ?_
        | refine OT.mkF ho_ rfl rfl rfl rfl ?_
        | refine OT.maxQ _ ho_ rfl rfl rfl rfl rfl ?_
        | refine OT.minQ _ ho_ rfl rfl rfl rfl rfl ?_
        | refine OT.convI ho_ rfl rfl (by first | exact u3 | exact u5 | exact u22 | exact u56 | exact u21 | exact u25 | exact u33 | exact u42 | exact u2) (by first | exact u3 | exact u5 | exact u22 | exact u56 | exact u21 | exact u25 | exact u33 | exact u42 | exact u2) (by first | exact IntWalk.i64_in _ (by omega) | exact IntWalk.u8_in _ (by omega) | exact IntWalk.u32_in _ (by omega) | exact IntWalk.u16_in _ (by omega) | exact IntWalk.i32_in _ (by omega)) rfl ?_
       clear ho_ i_)
    | refine Tr.draw cx [b] noEv (Valid.none _) (by decide +kernel) ?_
    | refine OT.nil ?_
    | refine Tr.region cx ?_
    | refine Tr.draw cx [] noEv (Valid.none _) (by decide +kernel) ?_
    | refine Tr.cond_true cx rfl ?_
    | refine Tr.cond_false cx rfl ?_
    | refine Tr.seq cx ?_
    | refine Tr.block cx ?_
    | refine Tr.ret cx ?_
    | refine Tr.skip cx ?_
    | refine Tr.exit cx ?_)
        refine OT.fetch rfl (fun i_ ho_ => ?_)
        refine OT.tailI hv2 u46 sz5 ho_ rfl rfl rfl (by decide) (by simp only [List.length_map, List.length_cons]; omega) trivial rfl ?_
        intro v2 hv3
        repeat (first
    | (refine OT.fetch rfl (fun i_ ho_ => ?_)
       first
        | refine OT.move ho_ rfl rfl rfl ?_
        | refine OT.assign ho_ rfl rfl rfl ?_
        | refine OT.un ho_ rfl rfl ?_
        | refine OT.pickT ho_ rfl rfl rfl rfl ?_
        | refine OT.pickF ho_ rfl rfl rfl rfl ?_
        | refine OT.extract ho_ rfl rfl rfl rfl ?_
        | refine OT.not ho_ rfl rfl rfl ?_
        | refine OT.faddr ho_ rfl rfl (by first | exact us31 | exact us59) (by decide) rfl ?_
        | refine OT.ld ho_ rfl rfl (by first | exact ga3 | exact ga4 | exact ga5 | exact ga9 | exact ga22) rfl rfl (by first | exact trivial | exact .inr (.inl ⟨rfl, fun b hb => by cases hb; decide⟩) | exact Side.pass rfl | exact .inr (.inl ⟨rfl, fun b hb H2 h2 => by cases hb; exact (h2.keep _ (by decide)).trans (by rfl)⟩) | exact .inr (.inr ⟨rfl, fun _ => ⟨lay_of (Nat.le_of_ble_eq_true (by rfl)) (by rfl), fun b hb => by simp only [List.mem_cons, List.not_mem_nil, or_false] at hb; subst hb; rfl⟩⟩)) rfl ?_
        | refine OT.cmpT ho_ rfl rfl rfl rfl (by first | (simp only [cmpP]; done) | (simp only [cmpP]; omega)) rfl ?_
        | refine OT.cmpF ho_ rfl rfl rfl rfl (by first | (simp only [cmpP]; done) | (simp only [cmpP]; omega)) rfl ?_
        | refine OT.add ho_ rfl rfl rfl (by first | exact IntWalk.i64_in _ (by omega) | exact IntWalk.u8_in _ (by omega) | exact IntWalk.u32_in _ (by omega) | exact IntWalk.u16_in _ (by omega) | exact IntWalk.i32_in _ (by omega)) rfl ?_
        | refine OT.sub ho_ rfl rfl rfl (by first | exact IntWalk.i64_in _ (by omega) | exact IntWalk.u8_in _ (by omega) | exact IntWalk.u32_in _ (by omega) | exact IntWalk.u16_in _ (by omega) | exact IntWalk.i32_in _ (by omega)) rfl ?_
        | refine OT.mul ho_ rfl rfl rfl (by first | exact IntWalk.i64_in _ (by omega) | exact IntWalk.u8_in _ (by omega) | exact IntWalk.u32_in _ (by omega) | exact IntWalk.u16_in _ (by omega) | exact IntWalk.i32_in _ (by omega)) rfl ?_
        | refine OT.quo ho_ rfl rfl rfl (by omega) (by omega) (by first | exact IntWalk.i64_in _ (by omega) | exact IntWalk.u8_in _ (by omega) | exact IntWalk.u32_in _ (by omega) | exact IntWalk.u16_in _ (by omega) | exact IntWalk.i32_in _ (by omega)) rfl ?_
        | refine OT.rem ho_ rfl rfl rfl (by omega) (by omega) rfl ?_
        | refine OT.box _ ho_ rfl rfl rfl (Nat.le_of_ble_eq_true (by rfl)) (by first | exact trivial | exact .inr (.inl ⟨rfl, fun b hb => by cases hb; decide⟩) | exact Side.pass rfl | exact .inr (.inl ⟨rfl, fun b hb H2 h2 => by cases hb; exact (h2.keep _ (by decide)).trans (by rfl)⟩) | exact .inr (.inr ⟨rfl, fun _ => ⟨lay_of (Nat.le_of_ble_eq_true (by rfl)) (by rfl), fun b hb => by simp only [List.mem_cons, List.not_mem_nil, or_false] at hb; subst hb; rfl⟩⟩)) rfl ?_
        | refine OT.alloc _ ho_ rfl (by first | exact z31 | exact z59 | exact z61) rfl rfl (Nat.le_of_ble_eq_true (by rfl)) (by first | exact trivial | exact .inr (.inl ⟨rfl, fun b hb => by cases hb; decide⟩) | exact Side.pass rfl | exact .inr (.inl ⟨rfl, fun b hb H2 h2 => by cases hb; exact (h2.keep _ (by decide)).trans (by rfl)⟩) | exact .inr (.inr ⟨rfl, fun _ => ⟨lay_of (Nat.le_of_ble_eq_true (by rfl)) (by rfl), fun b hb => by simp only [List.mem_cons, List.not_mem_nil, or_false] at hb; subst hb; rfl⟩⟩)) rfl ?_
        | refine OT.ldA ho_ rfl rfl (by first | exact ga31 | exact ga59 | exact ga61 | exact ga24) (by first | exact sz3 | exact sz5 | exact sz22 | exact sz31 | exact sz59 | exact sz61 | exact sz24) rfl (Nat.le_of_ble_eq_true (by rfl)) rfl (by first | exact trivial | exact .inr (.inl ⟨rfl, fun b hb => by cases hb; decide⟩) | exact Side.pass rfl | exact .inr (.inl ⟨rfl, fun b hb H2 h2 => by cases hb; exact (h2.keep _ (by decide)).trans (by rfl)⟩) | exact .inr (.inr ⟨rfl, fun _ => ⟨lay_of (Nat.le_of_ble_eq_true (by rfl)) (by rfl), fun b hb => by simp only [List.mem_cons, List.not_mem_nil, or_false] at hb; subst hb; rfl⟩⟩)) rfl ?_
        | refine OT.st _ ho_ rfl rfl rfl (by first | exact sz3 | exact sz5 | exact sz22 | exact sz31 | exact sz59 | exact sz61 | exact sz24) rfl (by rfl) rfl (by decide) (Nat.le_of_ble_eq_true (by rfl)) rfl (Nat.le_of_ble_eq_true (by rfl)) rfl (by first | exact trivial | exact .inr (.inl ⟨rfl, fun b hb => by cases hb; decide⟩) | exact Side.pass rfl | exact .inr (.inl ⟨rfl, fun b hb H2 h2 => by cases hb; exact (h2.keep _ (by decide)).trans (by rfl)⟩) | exact .inr (.inr ⟨rfl, fun _ => ⟨lay_of (Nat.le_of_ble_eq_true (by rfl)) (by rfl), fun b hb => by simp only [List.mem_cons, List.not_mem_nil, or_false] at hb; subst hb; rfl⟩⟩)) ?_
        | refine OT.iaddrA ho_ rfl rfl rfl (by first | exact u60 | exact u61 | exact u24) (by first | exact sz3 | exact sz5 | exact sz22 | exact sz31 | exact sz59 | exact sz61 | exact sz24) (by omega) (by omega) rfl ?_
        | refine OT.buildV ho_ rfl rfl (by first | exact bld31 _ _ _ _ _ | exact bld31b _ _) rfl ?_
        | refine OT.mkF ho_ rfl rfl rfl rfl ?_
        | refine OT.maxQ _ ho_ rfl rfl rfl rfl rfl ?_
        | refine OT.minQ _ ho_ rfl rfl rfl rfl rfl ?_
        | refine OT.convI ho_ rfl rfl (by first | exact u3 | exact u5 | exact u22 | exact u56 | exact u21 | exact u25 | exact u33 | exact u42 | exact u2) (by first | exact u3 | exact u5 | exact u22 | exact u56 | exact u21 | exact u25 | exact u33 | exact u42 | exact u2) (by first | exact IntWalk.i64_in _ (by omega) | exact IntWalk.u8_in _ (by omega) | exact IntWalk.u32_in _ (by omega) | exact IntWalk.u16_in _ (by omega) | exact IntWalk.i32_in _ (by omega)) rfl ?_
       clear ho_ i_)
    | refine OT.nil ?_
    | refine Tr.region cx ?_
    | refine Tr.draw cx [] noEv (Valid.none _) (by decide +kernel) ?_
    | refine Tr.cond_true cx rfl ?_
    | refine Tr.cond_false cx rfl ?_
    | refine Tr.seq cx ?_
    | refine Tr.block cx ?_
    | refine Tr.ret cx ?_
    | refine Tr.skip cx ?_
    | refine Tr.exit cx ?_)
        refine ⟨j + 1, ⟨by omega, rfl, ⟨v2, ?_, ?_⟩, ?_, ?_, ?_⟩, by omega⟩
        · have : bs.drop (4 * (j + 1)) = rest := by rw [show 4 * (j + 1) = 4 * j + 4 by omega, ← List.drop_drop, hd]; rfl
          rw [this]; simpa using hv3
        · exact .set (by omega) rfl rfl (.set (by omega) rfl rfl .nil)
        · refine ⟨by have := hkeep.le; simp only [AHeap.put, AHeap.add]; omega, by have := hkeep.most; simp only [AHeap.put, AHeap.add]; omega, fun i hi => ?_⟩
          rw [AHeap.get_put_other (by omega), AHeap.get_add_other (by omega), hkeep.old i hi]
        · simp only [AHeap.put, AHeap.add]; omega
        · rw [AHeap.get_put hN', hstep, List.map_append, hout0, put_one hdl]; rfl
      · have hjj : 4 * j = bs.length := by omega
        repeat (first
    | (refine OT.fetch rfl (fun i_ ho_ => ?_)
       first
        | refine OT.move ho_ rfl rfl rfl ?_
        | refine OT.assign ho_ rfl rfl rfl ?_
        | refine OT.un ho_ rfl rfl ?_
        | refine OT.pickT ho_ rfl rfl rfl rfl ?_
        | refine OT.pickF ho_ rfl rfl rfl rfl ?_
        | refine OT.extract ho_ rfl rfl rfl rfl ?_
        | refine OT.not ho_ rfl rfl rfl ?_
        | refine OT.faddr ho_ rfl rfl (by first | exact us31 | exact us59) (by decide) rfl ?_
        | refine OT.ld ho_ rfl rfl (by first | exact ga3 | exact ga4 | exact ga5 | exact ga9 | exact ga22) rfl rfl (by first | exact trivial | exact .inr (.inl ⟨rfl, fun b hb => by cases hb; decide⟩) | exact Side.pass rfl | exact .inr (.inl ⟨rfl, fun b hb H2 h2 => by cases hb; exact (h2.keep _ (by decide)).trans (by rfl)⟩) | exact .inr (.inr ⟨rfl, fun _ => ⟨lay_of (Nat.le_of_ble_eq_true (by rfl)) (by rfl), fun b hb => by simp only [List.mem_cons, List.not_mem_nil, or_false] at hb; subst hb; rfl⟩⟩)) rfl ?_
        | refine OT.lenI hv' u46 ho_ rfl rfl rfl ?_
        | refine OT.cmpF ho_ rfl rfl rfl rfl (by simp only [cmpP, List.length_map, List.length_drop]; omega) rfl ?_
        | refine OT.cmpT ho_ rfl rfl rfl rfl (by first | (simp only [cmpP]; done) | (simp only [cmpP]; omega)) rfl ?_
        | refine OT.cmpF ho_ rfl rfl rfl rfl (by first | (simp only [cmpP]; done) | (simp only [cmpP]; omega)) rfl ?_
        | refine OT.add ho_ rfl rfl rfl (by first | exact IntWalk.i64_in _ (by omega) | exact IntWalk.u8_in _ (by omega) | exact IntWalk.u32_in _ (by omega) | exact IntWalk.u16_in _ (by omega) | exact IntWalk.i32_in _ (by omega)) rfl ?_
        | refine OT.sub ho_ rfl rfl rfl (by first | exact IntWalk.i64_in _ (by omega) | exact IntWalk.u8_in _ (by omega) | exact IntWalk.u32_in _ (by omega) | exact IntWalk.u16_in _ (by omega) | exact IntWalk.i32_in _ (by omega)) rfl ?_
        | refine OT.mul ho_ rfl rfl rfl (by first | exact IntWalk.i64_in _ (by omega) | exact IntWalk.u8_in _ (by omega) | exact IntWalk.u32_in _ (by omega) | exact IntWalk.u16_in _ (by omega) | exact IntWalk.i32_in _ (by omega)) rfl ?_
        | refine OT.quo ho_ rfl rfl rfl (by omega) (by omega) (by first | exact IntWalk.i64_in _ (by omega) | exact IntWalk.u8_in _ (by omega) | exact IntWalk.u32_in _ (by omega) | exact IntWalk.u16_in _ (by omega) | exact IntWalk.i32_in _ (by omega)) rfl ?_
        | refine OT.rem ho_ rfl rfl rfl (by omega) (by omega) rfl ?_
        | refine OT.box _ ho_ rfl rfl rfl (Nat.le_of_ble_eq_true (by rfl)) (by first | exact trivial | exact .inr (.inl ⟨rfl, fun b hb => by cases hb; decide⟩) | exact Side.pass rfl | exact .inr (.inl ⟨rfl, fun b hb H2 h2 => by cases hb; exact (h2.keep _ (by decide)).trans (by rfl)⟩) | exact .inr (.inr ⟨rfl, fun _ => ⟨lay_of (Nat.le_of_ble_eq_true (by rfl)) (by rfl), fun b hb => by simp only [List.mem_cons, List.not_mem_nil, or_false] at hb; subst hb; rfl⟩⟩)) rfl ?_
        | refine OT.alloc _ ho_ rfl (by first | exact z31 | exact z59 | exact z61) rfl rfl (Nat.le_of_ble_eq_true (by rfl)) (by first | exact trivial | exact .inr (.inl ⟨rfl, fun b hb => by cases hb; decide⟩) | exact Side.pass rfl | exact .inr (.inl ⟨rfl, fun b hb H2 h2 => by cases hb; exact (h2.keep _ (by decide)).trans (by rfl)⟩) | exact .inr (.inr ⟨rfl, fun _ => ⟨lay_of (Nat.le_of_ble_eq_true (by rfl)) (by rfl), fun b hb => by simp only [List.mem_cons, List.not_mem_nil, or_false] at hb; subst hb; rfl⟩⟩)) rfl ?_
        | refine OT.ldA ho_ rfl rfl (by first | exact ga31 | exact ga59 | exact ga61 | exact ga24) (by first | exact sz3 | exact sz5 | exact sz22 | exact sz31 | exact sz59 | exact sz61 | exact sz24) rfl (Nat.le_of_ble_eq_true (by rfl)) rfl (by first | exact trivial | exact .inr (.inl ⟨rfl, fun b hb => by cases hb; decide⟩) | exact Side.pass rfl | exact .inr (.inl ⟨rfl, fun b hb H2 h2 => by cases hb; exact (h2.keep _ (by decide)).trans (by rfl)⟩) | exact .inr (.inr ⟨rfl, fun _ => ⟨lay_of (Nat.le_of_ble_eq_true (by rfl)) (by rfl), fun b hb => by simp only [List.mem_cons, List.not_mem_nil, or_false] at hb; subst hb; rfl⟩⟩)) rfl ?_
        | refine OT.st _ ho_ rfl rfl rfl (by first | exact sz3 | exact sz5 | exact sz22 | exact sz31 | exact sz59 | exact sz61 | exact sz24) rfl (by rfl) rfl (by decide) (Nat.le_of_ble_eq_true (by rfl)) rfl (Nat.le_of_ble_eq_true (by rfl)) rfl (by first | exact trivial | exact .inr (.inl ⟨rfl, fun b hb => by cases hb; decide⟩) | exact Side.pass rfl | exact .inr (.inl ⟨rfl, fun b hb H2 h2 => by cases hb; exact (h2.keep _ (by decide)).trans (by rfl)⟩) | exact .inr (.inr ⟨rfl, fun _ => ⟨lay_of (Nat.le_of_ble_eq_true (by rfl)) (by rfl), fun b hb => by simp only [List.mem_cons, List.not_mem_nil, or_false] at hb; subst hb; rfl⟩⟩)) ?_
        | refine OT.iaddrA ho_ rfl rfl rfl (by first | exact u60 | exact u61 | exact u24) (by first | exact sz3 | exact sz5 | exact sz22 | exact sz31 | exact sz59 | exact sz61 | exact sz24) (by omega) (by omega) rfl ?_
        | refine OT.buildV ho_ rfl rfl (by first | exact bld31 _ _ _ _ _ | exact bld31b _ _) rfl ?_
        | refine OT.mkF ho_ rfl rfl rfl rfl ?_
        | refine OT.maxQ _ ho_ rfl rfl rfl rfl rfl ?_
        | refine OT.minQ _ ho_ rfl rfl rfl rfl rfl ?_
        | refine OT.convI ho_ rfl rfl (by first | exact u3 | exact u5 | exact u22 | exact u56 | exact u21 | exact u25 | exact u33 | exact u42 | exact u2) (by first | exact u3 | exact u5 | exact u22 | exact u56 | exact u21 | exact u25 | exact u33 | exact u42 | exact u2) (by first | exact IntWalk.i64_in _ (by omega) | exact IntWalk.u8_in _ (by omega) | exact IntWalk.u32_in _ (by omega) | exact IntWalk.u16_in _ (by omega) | exact IntWalk.i32_in _ (by omega)) rfl ?_
       clear ho_ i_)
    | refine OT.nil ?_
    | refine Tr.region cx ?_
    | refine Tr.draw cx [] noEv (Valid.none _) (by decide +kernel) ?_
    | refine Tr.cond_true cx rfl ?_
    | refine Tr.cond_false cx rfl ?_
    | refine Tr.seq cx ?_
    | refine Tr.block cx ?_
    | refine Tr.ret cx ?_
    | refine Tr.skip cx ?_
    | refine Tr.exit cx ?_)
        have hjl : ((wordsOf bs).map (Value.int .u32)).length = j := by rw [List.length_map, wordsOf_length]; omega
        rw [hjj, List.take_length, show bs.length / 4 - j = 0 by omega, List.replicate_zero, List.append_nil] at hout
        have hfin := InS.mk (H := H1) (off := 0) (c := bs.length / 4) (l := (wordsOf bs).map (Value.int .u32)) hout (by simp) (by rw [List.drop_zero, List.take_length]) hlt (by omega) (by unfold openCap; omega) (by omega)
        have hk2 : Keep H H1 (1 + bs.length) := ⟨hkeep.le, by have := hkeep.most; omega, hkeep.old⟩
        rw [hjl] at hfin
        exact ⟨_, _, rfl, rfl, .inr ⟨h4, _, rfl, hfin, hk2⟩⟩
  · repeat (first
    | (refine OT.fetch rfl (fun i_ ho_ => ?_)
       first
        | refine OT.move ho_ rfl rfl rfl ?_
        | refine OT.assign ho_ rfl rfl rfl ?_
        | refine OT.un ho_ rfl rfl ?_
        | refine OT.pickT ho_ rfl rfl rfl rfl ?_
        | refine OT.pickF ho_ rfl rfl rfl rfl ?_
        | refine OT.extract ho_ rfl rfl rfl rfl ?_
        | refine OT.not ho_ rfl rfl rfl ?_
        | refine OT.faddr ho_ rfl rfl (by first | exact us31 | exact us59) (by decide) rfl ?_
        | refine OT.ld ho_ rfl rfl (by first | exact ga3 | exact ga4 | exact ga5 | exact ga9 | exact ga22) rfl rfl (by first | exact trivial | exact .inr (.inl ⟨rfl, fun b hb => by cases hb; decide⟩) | exact Side.pass rfl | exact .inr (.inl ⟨rfl, fun b hb H2 h2 => by cases hb; exact (h2.keep _ (by decide)).trans (by rfl)⟩) | exact .inr (.inr ⟨rfl, fun _ => ⟨lay_of (Nat.le_of_ble_eq_true (by rfl)) (by rfl), fun b hb => by simp only [List.mem_cons, List.not_mem_nil, or_false] at hb; subst hb; rfl⟩⟩)) rfl ?_
        | refine OT.lenQ (bs.length : Int) hv u46 (by simp) ho_ rfl rfl rfl ?_
        | refine OT.arW ((bs.length % 4 : Nat) : Int) ho_ rfl rfl rfl (fun _ _ => by rw [aBin_rem (by decide), hm0]) rfl ?_
        | refine OT.arW ((bs.length / 4 : Nat) : Int) ho_ rfl rfl rfl (fun _ _ => by rw [aBin_quo (by decide), hq0]) rfl ?_
        | refine OT.makeU U ho_ rfl rfl rfl (by omega) (by omega) (by omega) hN' trivial rfl ?_
        | refine OT.cmpT ho_ rfl rfl rfl rfl (by first | (simp only [cmpP]; done) | (simp only [cmpP]; omega)) rfl ?_
        | refine OT.cmpF ho_ rfl rfl rfl rfl (by first | (simp only [cmpP]; done) | (simp only [cmpP]; omega)) rfl ?_
        | refine OT.add ho_ rfl rfl rfl (by first | exact IntWalk.i64_in _ (by omega) | exact IntWalk.u8_in _ (by omega) | exact IntWalk.u32_in _ (by omega) | exact IntWalk.u16_in _ (by omega) | exact IntWalk.i32_in _ (by omega)) rfl ?_
        | refine OT.sub ho_ rfl rfl rfl (by first | exact IntWalk.i64_in _ (by omega) | exact IntWalk.u8_in _ (by omega) | exact IntWalk.u32_in _ (by omega) | exact IntWalk.u16_in _ (by omega) | exact IntWalk.i32_in _ (by omega)) rfl ?_
        | refine OT.mul ho_ rfl rfl rfl (by first | exact IntWalk.i64_in _ (by omega) | exact IntWalk.u8_in _ (by omega) | exact IntWalk.u32_in _ (by omega) | exact IntWalk.u16_in _ (by omega) | exact IntWalk.i32_in _ (by omega)) rfl ?_
        | refine OT.quo ho_ rfl rfl rfl (by omega) (by omega) (by first | exact IntWalk.i64_in _ (by omega) | exact IntWalk.u8_in _ (by omega) | exact IntWalk.u32_in _ (by omega) | exact IntWalk.u16_in _ (by omega) | exact IntWalk.i32_in _ (by omega)) rfl ?_
        | refine OT.rem ho_ rfl rfl rfl (by omega) (by omega) rfl ?_
        | refine OT.box _ ho_ rfl rfl rfl (Nat.le_of_ble_eq_true (by rfl)) (by first | exact trivial | exact .inr (.inl ⟨rfl, fun b hb => by cases hb; decide⟩) | exact Side.pass rfl | exact .inr (.inl ⟨rfl, fun b hb H2 h2 => by cases hb; exact (h2.keep _ (by decide)).trans (by rfl)⟩) | exact .inr (.inr ⟨rfl, fun _ => ⟨lay_of (Nat.le_of_ble_eq_true (by rfl)) (by rfl), fun b hb => by simp only [List.mem_cons, List.not_mem_nil, or_false] at hb; subst hb; rfl⟩⟩)) rfl ?_
        | refine OT.alloc _ ho_ rfl (by first | exact z31 | exact z59 | exact z61) rfl rfl (Nat.le_of_ble_eq_true (by rfl)) (by first | exact trivial | exact .inr (.inl ⟨rfl, fun b hb => by cases hb; decide⟩) | exact Side.pass rfl | exact .inr (.inl ⟨rfl, fun b hb H2 h2 => by cases hb; exact (h2.keep _ (by decide)).trans (by rfl)⟩) | exact .inr (.inr ⟨rfl, fun _ => ⟨lay_of (Nat.le_of_ble_eq_true (by rfl)) (by rfl), fun b hb => by simp only [List.mem_cons, List.not_mem_nil, or_false] at hb; subst hb; rfl⟩⟩)) rfl ?_
        | refine OT.ldA ho_ rfl rfl (by first | exact ga31 | exact ga59 | exact ga61 | exact ga24) (by first | exact sz3 | exact sz5 | exact sz22 | exact sz31 | exact sz59 | exact sz61 | exact sz24) rfl (Nat.le_of_ble_eq_true (by rfl)) rfl (by first | exact trivial | exact .inr (.inl ⟨rfl, fun b hb => by cases hb; decide⟩) | exact Side.pass rfl | exact .inr (.inl ⟨rfl, fun b hb H2 h2 => by cases hb; exact (h2.keep _ (by decide)).trans (by rfl)⟩) | exact .inr (.inr ⟨rfl, fun _ => ⟨lay_of (Nat.le_of_ble_eq_true (by rfl)) (by rfl), fun b hb => by simp only [List.mem_cons, List.not_mem_nil, or_false] at hb; subst hb; rfl⟩⟩)) rfl ?_
        | refine OT.st _ ho_ rfl rfl rfl (by first | exact sz3 | exact sz5 | exact sz22 | exact sz31 | exact sz59 | exact sz61 | exact sz24) rfl (by rfl) rfl (by decide) (Nat.le_of_ble_eq_true (by rfl)) rfl (Nat.le_of_ble_eq_true (by rfl)) rfl (by first | exact trivial | exact .inr (.inl ⟨rfl, fun b hb => by cases hb; decide⟩) | exact Side.pass rfl | exact .inr (.inl ⟨rfl, fun b hb H2 h2 => by cases hb; exact (h2.keep _ (by decide)).trans (by rfl)⟩) | exact .inr (.inr ⟨rfl, fun _ => ⟨lay_of (Nat.le_of_ble_eq_true (by rfl)) (by rfl), fun b hb => by simp only [List.mem_cons, List.not_mem_nil, or_false] at hb; subst hb; rfl⟩⟩)) ?_
        | refine OT.iaddrA ho_ rfl rfl rfl (by first | exact u60 | exact u61 | exact u24) (by first | exact sz3 | exact sz5 | exact sz22 | exact sz31 | exact sz59 | exact sz61 | exact sz24) (by omega) (by omega) rfl ?_
        | refine OT.buildV ho_ rfl rfl (by first | exact bld31 _ _ _ _ _ | exact bld31b _ _) rfl ?_
        | refine OT.mkF ho_ rfl rfl rfl rfl ?_
        | refine OT.maxQ _ ho_ rfl rfl rfl rfl rfl ?_
        | refine OT.minQ _ ho_ rfl rfl rfl rfl rfl ?_
        | refine OT.convI ho_ rfl rfl (by first | exact u3 | exact u5 | exact u22 | exact u56 | exact u21 | exact u25 | exact u33 | exact u42 | exact u2) (by first | exact u3 | exact u5 | exact u22 | exact u56 | exact u21 | exact u25 | exact u33 | exact u42 | exact u2) (by first | exact IntWalk.i64_in _ (by omega) | exact IntWalk.u8_in _ (by omega) | exact IntWalk.u32_in _ (by omega) | exact IntWalk.u16_in _ (by omega) | exact IntWalk.i32_in _ (by omega)) rfl ?_
       clear ho_ i_)
    | refine OT.nil ?_
    | refine Tr.region cx ?_
    | refine Tr.draw cx [] noEv (Valid.none _) (by decide +kernel) ?_
    | refine Tr.cond_true cx rfl ?_
    | refine Tr.cond_false cx rfl ?_
    | refine Tr.seq cx ?_
    | refine Tr.block cx ?_
    | refine Tr.ret cx ?_
    | refine Tr.skip cx ?_
    | refine Tr.exit cx ?_)
    exact ⟨_, _, rfl, rfl, .inl ⟨h4, rfl, rfl⟩⟩
end Go.Proofs.YtljpjeipgdeioaaDoor
