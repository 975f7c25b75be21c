/-
  A part of the proof: what a piece of the program gives; conditions: those of each theorem.
-/
import Derived.Test.YtljpjeipgdeioaaDoorW3
set_option linter.unusedVariables false
namespace Go.Proofs.YtljpjeipgdeioaaDoor
open Ax
set_option maxHeartbeats 16000000
theorem bytes_words : ∀ (l : List Int), l.length % 4 = 0 → (∀ x ∈ l, 0 ≤ x ∧ x ≤ 255) → bytesOfW (wordsOf l) = l
  | [], _, _ => rfl
  | [_], h, _ => by simp at h
  | [_, _], h, _ => by simp at h
  | [_, _, _], h, _ => by simp at h
  | a :: b :: c :: d :: r, h, k => by
    have ha := k a (by simp)
    have hb := k b (by simp)
    have hc := k c (by simp)
    have hd := k d (by simp)
    simp only [wordsOf, bytesOfW, List.cons_append, List.nil_append]
    rw [bytes_words r (by simp only [List.length_cons] at h; omega) fun x hx => k x (by simp [hx])]
    rw [show (a * 16777216 + b * 65536 + c * 256 + d) / 16777216 % 256 = a by omega, show (a * 16777216 + b * 65536 + c * 256 + d) / 65536 % 256 = b by omega, show (a * 16777216 + b * 65536 + c * 256 + d) / 256 % 256 = c by omega, show (a * 16777216 + b * 65536 + c * 256 + d) % 256 = d by omega]
theorem words_bytes : ∀ (l : List Int), (∀ x ∈ l, 0 ≤ x ∧ x < 4294967296) → wordsOf (bytesOfW l) = l
  | [], _ => rfl
  | w :: r, k => by
    have hw := k w (by simp)
    simp only [bytesOfW, List.cons_append, List.nil_append, wordsOf]
    rw [words_bytes r fun x hx => k x (by simp [hx])]
    congr 1; omega
theorem bytesOfW_range : ∀ (l : List Int), ∀ x ∈ bytesOfW l, 0 ≤ x ∧ x ≤ 255
  | [], x, h => by simp [bytesOfW] at h
  | w :: r, x, h => by
    simp only [bytesOfW, List.cons_append, List.nil_append, List.mem_cons] at h
    rcases h with rfl | rfl | rfl | rfl | h
    · omega
    · omega
    · omega
    · omega
    · exact bytesOfW_range r x h
theorem ixo {k : IntKind} {a : List Int} {off : Nat} {s : List Value} (hs : (s.drop off).take (a.map (Value.int k)).length = a.map (Value.int k)) {j : Nat} {x : Int} {q : Int} (hj : a[j]? = some x) (hq : ((j : Nat) : Int) = q) : s[off + q.toNat * 1]? = some (.int k x) := by
  obtain ⟨hl, he⟩ := List.getElem?_eq_some_iff.1 hj
  have := ix hs hl
  rw [he] at this
  rw [← hq]; exact this
theorem wordsOf_at {l : List Int} {j : Nat} {a b c d : Int} {r : List Int} (hj : 4 * j + 4 ≤ l.length) (h : l.drop (4 * j) = a :: b :: c :: d :: r) : (wordsOf l)[j]? = some (a * 16777216 + b * 65536 + c * 256 + d) := by
  have e : l = l.take (4 * (j + 1)) ++ l.drop (4 * (j + 1)) := (List.take_append_drop _ _).symm
  rw [e, wordsOf_append _ _ (by rw [List.length_take]; omega), wordsOf_step hj h]
  have hl : (wordsOf (l.take (4 * j))).length = j := by rw [wordsOf_length, List.length_take]; omega
  rw [List.getElem?_append_left (by simp [hl]), List.getElem?_append_right (by omega), hl, Nat.sub_self]
  rfl
theorem drop_at {l : List Int} {k q : Nat} {m : List Int} {x : Int} (h : l.drop k = m) (hx : m[q]? = some x) : l[k + q]? = some x := by
  rw [← h, List.getElem?_drop] at hx; exact hx
theorem instBytes_ev {H : AHeap} {v1 v2 : Value} {bs ws : List Int} (hL : Lay G H) (h1 : InS H v1 (bs.map (Value.int .u8))) (h2 : InS H v2 (ws.map (Value.int .u32))) (r1 : ∀ x ∈ bs, 0 ≤ x ∧ x ≤ 255) (r2 : ∀ x ∈ ws, 0 ≤ x ∧ x < 4294967296) (hN : H.next < 1000) (hb0 : bs.length < 2 ^ 63) (hw0 : ws.length < 2 ^ 63) :
    ∃ v H2, EvS Tryd.prog (.call 8 #[v1, v2] H) (.value v H2) ∧ v = .bool true := by
  refine EvS.call cx F8 (fn := Tryd.f8) rfl ⟨by simp [Tryd.f8], by simp⟩ ?_
  have hmx : (2000 : Nat) < maxIds := by decide
  by_cases c1 : 40 < bs.length
  · repeat (first
    | (refine OT.fetch rfl (fun i_ ho_ => ?_)
       first
        | refine OT.move ho_ rfl rfl rfl ?_
        | refine OT.assign ho_ rfl rfl rfl ?_
        | refine OT.un ho_ rfl rfl ?_
        | refine OT.pickT ho_ rfl rfl rfl rfl ?_
        | refine OT.pickF ho_ rfl rfl rfl rfl ?_
        | refine OT.extract ho_ rfl rfl rfl rfl ?_
        | refine OT.not ho_ rfl rfl rfl ?_
        | refine OT.faddr ho_ rfl rfl (by first | exact us31 | exact us59) (by decide) rfl ?_
        | refine OT.ld ho_ rfl rfl (by first | exact ga3 | exact ga4 | exact ga5 | exact ga9 | exact ga22) rfl rfl (by first | exact trivial | exact .inr (.inl ⟨rfl, fun b hb => by cases hb; decide⟩) | exact Side.pass rfl | exact .inr (.inl ⟨rfl, fun b hb H2 h2 => by cases hb; exact (h2.keep _ (by decide)).trans (by rfl)⟩) | exact .inr (.inr ⟨rfl, fun _ => ⟨lay_of (Nat.le_of_ble_eq_true (by rfl)) (by rfl), fun b hb => by simp only [List.mem_cons, List.not_mem_nil, or_false] at hb; subst hb; rfl⟩⟩)) rfl ?_
        | refine OT.call1 (sanity_ev hL) ho_ rfl rfl F10 rfl ?_
        | refine OT.lenQ (bs.length : Int) h1 u46 (by simp) ho_ rfl rfl rfl ?_
        | refine OT.lenQ (ws.length : Int) h2 u29 (by simp) ho_ rfl rfl rfl ?_
        | refine OT.cmpT ho_ rfl rfl rfl rfl (by first | (simp only [cmpP]; done) | (simp only [cmpP]; omega)) rfl ?_
        | refine OT.cmpF ho_ rfl rfl rfl rfl (by first | (simp only [cmpP]; done) | (simp only [cmpP]; omega)) rfl ?_
        | refine OT.add ho_ rfl rfl rfl (by first | exact IntWalk.i64_in _ (by omega) | exact IntWalk.u8_in _ (by omega) | exact IntWalk.u32_in _ (by omega) | exact IntWalk.u16_in _ (by omega) | exact IntWalk.i32_in _ (by omega)) rfl ?_
        | refine OT.sub ho_ rfl rfl rfl (by first | exact IntWalk.i64_in _ (by omega) | exact IntWalk.u8_in _ (by omega) | exact IntWalk.u32_in _ (by omega) | exact IntWalk.u16_in _ (by omega) | exact IntWalk.i32_in _ (by omega)) rfl ?_
        | refine OT.mul ho_ rfl rfl rfl (by first | exact IntWalk.i64_in _ (by omega) | exact IntWalk.u8_in _ (by omega) | exact IntWalk.u32_in _ (by omega) | exact IntWalk.u16_in _ (by omega) | exact IntWalk.i32_in _ (by omega)) rfl ?_
        | refine OT.quo ho_ rfl rfl rfl (by omega) (by omega) (by first | exact IntWalk.i64_in _ (by omega) | exact IntWalk.u8_in _ (by omega) | exact IntWalk.u32_in _ (by omega) | exact IntWalk.u16_in _ (by omega) | exact IntWalk.i32_in _ (by omega)) rfl ?_
        | refine OT.rem ho_ rfl rfl rfl (by omega) (by omega) rfl ?_
        | refine OT.box _ ho_ rfl rfl rfl (Nat.le_of_ble_eq_true (by rfl)) (by first | exact trivial | exact .inr (.inl ⟨rfl, fun b hb => by cases hb; decide⟩) | exact Side.pass rfl | exact .inr (.inl ⟨rfl, fun b hb H2 h2 => by cases hb; exact (h2.keep _ (by decide)).trans (by rfl)⟩) | exact .inr (.inr ⟨rfl, fun _ => ⟨lay_of (Nat.le_of_ble_eq_true (by rfl)) (by rfl), fun b hb => by simp only [List.mem_cons, List.not_mem_nil, or_false] at hb; subst hb; rfl⟩⟩)) rfl ?_
        | refine OT.alloc _ ho_ rfl (by first | exact z31 | exact z59 | exact z61) rfl rfl (Nat.le_of_ble_eq_true (by rfl)) (by first | exact trivial | exact .inr (.inl ⟨rfl, fun b hb => by cases hb; decide⟩) | exact Side.pass rfl | exact .inr (.inl ⟨rfl, fun b hb H2 h2 => by cases hb; exact (h2.keep _ (by decide)).trans (by rfl)⟩) | exact .inr (.inr ⟨rfl, fun _ => ⟨lay_of (Nat.le_of_ble_eq_true (by rfl)) (by rfl), fun b hb => by simp only [List.mem_cons, List.not_mem_nil, or_false] at hb; subst hb; rfl⟩⟩)) rfl ?_
        | refine OT.ldA ho_ rfl rfl (by first | exact ga31 | exact ga59 | exact ga61 | exact ga24) (by first | exact sz3 | exact sz5 | exact sz22 | exact sz31 | exact sz59 | exact sz61 | exact sz24) rfl (Nat.le_of_ble_eq_true (by rfl)) rfl (by first | exact trivial | exact .inr (.inl ⟨rfl, fun b hb => by cases hb; decide⟩) | exact Side.pass rfl | exact .inr (.inl ⟨rfl, fun b hb H2 h2 => by cases hb; exact (h2.keep _ (by decide)).trans (by rfl)⟩) | exact .inr (.inr ⟨rfl, fun _ => ⟨lay_of (Nat.le_of_ble_eq_true (by rfl)) (by rfl), fun b hb => by simp only [List.mem_cons, List.not_mem_nil, or_false] at hb; subst hb; rfl⟩⟩)) rfl ?_
        | refine OT.st _ ho_ rfl rfl rfl (by first | exact sz3 | exact sz5 | exact sz22 | exact sz31 | exact sz59 | exact sz61 | exact sz24) rfl (by rfl) rfl (by decide) (Nat.le_of_ble_eq_true (by rfl)) rfl (Nat.le_of_ble_eq_true (by rfl)) rfl (by first | exact trivial | exact .inr (.inl ⟨rfl, fun b hb => by cases hb; decide⟩) | exact Side.pass rfl | exact .inr (.inl ⟨rfl, fun b hb H2 h2 => by cases hb; exact (h2.keep _ (by decide)).trans (by rfl)⟩) | exact .inr (.inr ⟨rfl, fun _ => ⟨lay_of (Nat.le_of_ble_eq_true (by rfl)) (by rfl), fun b hb => by simp only [List.mem_cons, List.not_mem_nil, or_false] at hb; subst hb; rfl⟩⟩)) ?_
        | refine OT.iaddrA ho_ rfl rfl rfl (by first | exact u60 | exact u61 | exact u24) (by first | exact sz3 | exact sz5 | exact sz22 | exact sz31 | exact sz59 | exact sz61 | exact sz24) (by omega) (by omega) rfl ?_
        | refine OT.buildV ho_ rfl rfl (by first | exact bld31 _ _ _ _ _ | exact bld31b _ _) rfl ?_
        | refine OT.mkF ho_ rfl rfl rfl rfl ?_
        | refine OT.maxQ _ ho_ rfl rfl rfl rfl rfl ?_
        | refine OT.minQ _ ho_ rfl rfl rfl rfl rfl ?_
        | refine OT.convI ho_ rfl rfl (by first | exact u3 | exact u5 | exact u22 | exact u56 | exact u21 | exact u25 | exact u33 | exact u42 | exact u2) (by first | exact u3 | exact u5 | exact u22 | exact u56 | exact u21 | exact u25 | exact u33 | exact u42 | exact u2) (by first | exact IntWalk.i64_in _ (by omega) | exact IntWalk.u8_in _ (by omega) | exact IntWalk.u32_in _ (by omega) | exact IntWalk.u16_in _ (by omega) | exact IntWalk.i32_in _ (by omega)) rfl ?_
       clear ho_ i_)
    | refine OT.nil ?_
    | refine Tr.region cx ?_
    | refine Tr.draw cx [] noEv (Valid.none _) (by decide +kernel) ?_
    | refine Tr.cond_true cx rfl ?_
    | refine Tr.cond_false cx rfl ?_
    | refine Tr.seq cx ?_
    | refine Tr.block cx ?_
    | refine Tr.ret cx ?_
    | refine Tr.skip cx ?_
    | refine Tr.exit cx ?_)
    exact ⟨_, _, rfl, rfl, by rfl⟩
  · by_cases c2 : 10 < ws.length
    · repeat (first
    | (refine OT.fetch rfl (fun i_ ho_ => ?_)
       first
        | refine OT.move ho_ rfl rfl rfl ?_
        | refine OT.assign ho_ rfl rfl rfl ?_
        | refine OT.un ho_ rfl rfl ?_
        | refine OT.pickT ho_ rfl rfl rfl rfl ?_
        | refine OT.pickF ho_ rfl rfl rfl rfl ?_
        | refine OT.extract ho_ rfl rfl rfl rfl ?_
        | refine OT.not ho_ rfl rfl rfl ?_
        | refine OT.faddr ho_ rfl rfl (by first | exact us31 | exact us59) (by decide) rfl ?_
        | refine OT.ld ho_ rfl rfl (by first | exact ga3 | exact ga4 | exact ga5 | exact ga9 | exact ga22) rfl rfl (by first | exact trivial | exact .inr (.inl ⟨rfl, fun b hb => by cases hb; decide⟩) | exact Side.pass rfl | exact .inr (.inl ⟨rfl, fun b hb H2 h2 => by cases hb; exact (h2.keep _ (by decide)).trans (by rfl)⟩) | exact .inr (.inr ⟨rfl, fun _ => ⟨lay_of (Nat.le_of_ble_eq_true (by rfl)) (by rfl), fun b hb => by simp only [List.mem_cons, List.not_mem_nil, or_false] at hb; subst hb; rfl⟩⟩)) rfl ?_
        | refine OT.call1 (sanity_ev hL) ho_ rfl rfl F10 rfl ?_
        | refine OT.lenQ (bs.length : Int) h1 u46 (by simp) ho_ rfl rfl rfl ?_
        | refine OT.lenQ (ws.length : Int) h2 u29 (by simp) ho_ rfl rfl rfl ?_
        | refine OT.cmpT ho_ rfl rfl rfl rfl (by first | (simp only [cmpP]; done) | (simp only [cmpP]; omega)) rfl ?_
        | refine OT.cmpF ho_ rfl rfl rfl rfl (by first | (simp only [cmpP]; done) | (simp only [cmpP]; omega)) rfl ?_
        | refine OT.add ho_ rfl rfl rfl (by first | exact IntWalk.i64_in _ (by omega) | exact IntWalk.u8_in _ (by omega) | exact IntWalk.u32_in _ (by omega) | exact IntWalk.u16_in _ (by omega) | exact IntWalk.i32_in _ (by omega)) rfl ?_
        | refine OT.sub ho_ rfl rfl rfl (by first | exact IntWalk.i64_in _ (by omega) | exact IntWalk.u8_in _ (by omega) | exact IntWalk.u32_in _ (by omega) | exact IntWalk.u16_in _ (by omega) | exact IntWalk.i32_in _ (by omega)) rfl ?_
        | refine OT.mul ho_ rfl rfl rfl (by first | exact IntWalk.i64_in _ (by omega) | exact IntWalk.u8_in _ (by omega) | exact IntWalk.u32_in _ (by omega) | exact IntWalk.u16_in _ (by omega) | exact IntWalk.i32_in _ (by omega)) rfl ?_
        | refine OT.quo ho_ rfl rfl rfl (by omega) (by omega) (by first | exact IntWalk.i64_in _ (by omega) | exact IntWalk.u8_in _ (by omega) | exact IntWalk.u32_in _ (by omega) | exact IntWalk.u16_in _ (by omega) | exact IntWalk.i32_in _ (by omega)) rfl ?_
        | refine OT.rem ho_ rfl rfl rfl (by omega) (by omega) rfl ?_
        | refine OT.box _ ho_ rfl rfl rfl (Nat.le_of_ble_eq_true (by rfl)) (by first | exact trivial | exact .inr (.inl ⟨rfl, fun b hb => by cases hb; decide⟩) | exact Side.pass rfl | exact .inr (.inl ⟨rfl, fun b hb H2 h2 => by cases hb; exact (h2.keep _ (by decide)).trans (by rfl)⟩) | exact .inr (.inr ⟨rfl, fun _ => ⟨lay_of (Nat.le_of_ble_eq_true (by rfl)) (by rfl), fun b hb => by simp only [List.mem_cons, List.not_mem_nil, or_false] at hb; subst hb; rfl⟩⟩)) rfl ?_
        | refine OT.alloc _ ho_ rfl (by first | exact z31 | exact z59 | exact z61) rfl rfl (Nat.le_of_ble_eq_true (by rfl)) (by first | exact trivial | exact .inr (.inl ⟨rfl, fun b hb => by cases hb; decide⟩) | exact Side.pass rfl | exact .inr (.inl ⟨rfl, fun b hb H2 h2 => by cases hb; exact (h2.keep _ (by decide)).trans (by rfl)⟩) | exact .inr (.inr ⟨rfl, fun _ => ⟨lay_of (Nat.le_of_ble_eq_true (by rfl)) (by rfl), fun b hb => by simp only [List.mem_cons, List.not_mem_nil, or_false] at hb; subst hb; rfl⟩⟩)) rfl ?_
        | refine OT.ldA ho_ rfl rfl (by first | exact ga31 | exact ga59 | exact ga61 | exact ga24) (by first | exact sz3 | exact sz5 | exact sz22 | exact sz31 | exact sz59 | exact sz61 | exact sz24) rfl (Nat.le_of_ble_eq_true (by rfl)) rfl (by first | exact trivial | exact .inr (.inl ⟨rfl, fun b hb => by cases hb; decide⟩) | exact Side.pass rfl | exact .inr (.inl ⟨rfl, fun b hb H2 h2 => by cases hb; exact (h2.keep _ (by decide)).trans (by rfl)⟩) | exact .inr (.inr ⟨rfl, fun _ => ⟨lay_of (Nat.le_of_ble_eq_true (by rfl)) (by rfl), fun b hb => by simp only [List.mem_cons, List.not_mem_nil, or_false] at hb; subst hb; rfl⟩⟩)) rfl ?_
        | refine OT.st _ ho_ rfl rfl rfl (by first | exact sz3 | exact sz5 | exact sz22 | exact sz31 | exact sz59 | exact sz61 | exact sz24) rfl (by rfl) rfl (by decide) (Nat.le_of_ble_eq_true (by rfl)) rfl (Nat.le_of_ble_eq_true (by rfl)) rfl (by first | exact trivial | exact .inr (.inl ⟨rfl, fun b hb => by cases hb; decide⟩) | exact Side.pass rfl | exact .inr (.inl ⟨rfl, fun b hb H2 h2 => by cases hb; exact (h2.keep _ (by decide)).trans (by rfl)⟩) | exact .inr (.inr ⟨rfl, fun _ => ⟨lay_of (Nat.le_of_ble_eq_true (by rfl)) (by rfl), fun b hb => by simp only [List.mem_cons, List.not_mem_nil, or_false] at hb; subst hb; rfl⟩⟩)) ?_
        | refine OT.iaddrA ho_ rfl rfl rfl (by first | exact u60 | exact u61 | exact u24) (by first | exact sz3 | exact sz5 | exact sz22 | exact sz31 | exact sz59 | exact sz61 | exact sz24) (by omega) (by omega) rfl ?_
        | refine OT.buildV ho_ rfl rfl (by first | exact bld31 _ _ _ _ _ | exact bld31b _ _) rfl ?_
        | refine OT.mkF ho_ rfl rfl rfl rfl ?_
        | refine OT.maxQ _ ho_ rfl rfl rfl rfl rfl ?_
        | refine OT.minQ _ ho_ rfl rfl rfl rfl rfl ?_
        | refine OT.convI ho_ rfl rfl (by first | exact u3 | exact u5 | exact u22 | exact u56 | exact u21 | exact u25 | exact u33 | exact u42 | exact u2) (by first | exact u3 | exact u5 | exact u22 | exact u56 | exact u21 | exact u25 | exact u33 | exact u42 | exact u2) (by first | exact IntWalk.i64_in _ (by omega) | exact IntWalk.u8_in _ (by omega) | exact IntWalk.u32_in _ (by omega) | exact IntWalk.u16_in _ (by omega) | exact IntWalk.i32_in _ (by omega)) rfl ?_
       clear ho_ i_)
    | refine OT.nil ?_
    | refine Tr.region cx ?_
    | refine Tr.draw cx [] noEv (Valid.none _) (by decide +kernel) ?_
    | refine Tr.cond_true cx rfl ?_
    | refine Tr.cond_false cx rfl ?_
    | refine Tr.seq cx ?_
    | refine Tr.block cx ?_
    | refine Tr.ret cx ?_
    | refine Tr.skip cx ?_
    | refine Tr.exit cx ?_)
      exact ⟨_, _, rfl, rfl, by rfl⟩
    · obtain ⟨q1, H1, e1, k1⟩ := words_ev h1 r1 (by omega) (by omega)
      have K1 : Keep H H1 (1 + bs.length) := by
        rcases k1 with ⟨_, _, rfl⟩ | ⟨_, _, _, _, k⟩
        · exact Keep.refl _ _
        · exact k
      have n1 := K1.most
      obtain ⟨q2, H2, e2, s2, K2⟩ := bytes_ev (h2.keep K1) (by omega) (by omega)
      have n2 := K2.most
      obtain ⟨q3, H3, e3, k3⟩ := words_ev s2 (bytesOfW_range ws) (by rw [bytesOfW_length]; omega) (by rw [bytesOfW_length]; omega)
      rw [bytesOfW_length, words_bytes ws r2] at k3
      rcases k3 with ⟨hbad, _⟩ | ⟨_, s3, rfl, i3, K3⟩
      · omega
      · have n3 := K3.most
        have l3 := ((h2.keep K1).keep K2).keep K3
        have e4 := sameWords_ev i3 l3 (by omega)
        obtain ⟨_, _, e4, rfl, rfl⟩ := e4
        rw [decide_eq_true (rfl : ws = ws)] at e4
        obtain ⟨q5, H5, e5, s5, K5⟩ := bytes_ev l3 (by omega) (by omega)
        have n5 := K5.most
        have b5 := (((h1.keep K1).keep K2).keep K3).keep K5
        have g5 : ((bytesOfW ws).map (Value.int .u8)).length = 4 * ws.length := by rw [List.length_map, bytesOfW_length]
        have hm0 : ((bs.length : Int)).tmod 4 = ((bs.length % 4 : Nat) : Int) := by rw [Int.tmod_eq_emod_of_nonneg (by omega)]; omega
        have hq0 : IntKind.i64.wrap (((bs.length : Int)).tdiv 4) = ((bs.length / 4 : Nat) : Int) := by rw [IntWalk.i64_quo _ _ ⟨by omega, by omega, by decide⟩]; omega
        rcases k1 with ⟨h4, rfl, rfl⟩ | ⟨h4, s1, rfl, i1, _⟩
        · repeat (first
    | (refine OT.fetch rfl (fun i_ ho_ => ?_)
       first
        | refine OT.move ho_ rfl rfl rfl ?_
        | refine OT.assign ho_ rfl rfl rfl ?_
        | refine OT.un ho_ rfl rfl ?_
        | refine OT.pickT ho_ rfl rfl rfl rfl ?_
        | refine OT.pickF ho_ rfl rfl rfl rfl ?_
        | refine OT.extract ho_ rfl rfl rfl rfl ?_
        | refine OT.not ho_ rfl rfl rfl ?_
        | refine OT.faddr ho_ rfl rfl (by first | exact us31 | exact us59) (by decide) rfl ?_
        | refine OT.ld ho_ rfl rfl (by first | exact ga3 | exact ga4 | exact ga5 | exact ga9 | exact ga22) rfl rfl (by first | exact trivial | exact .inr (.inl ⟨rfl, fun b hb => by cases hb; decide⟩) | exact Side.pass rfl | exact .inr (.inl ⟨rfl, fun b hb H2 h2 => by cases hb; exact (h2.keep _ (by decide)).trans (by rfl)⟩) | exact .inr (.inr ⟨rfl, fun _ => ⟨lay_of (Nat.le_of_ble_eq_true (by rfl)) (by rfl), fun b hb => by simp only [List.mem_cons, List.not_mem_nil, or_false] at hb; subst hb; rfl⟩⟩)) rfl ?_
        | refine OT.call1 (sanity_ev hL) ho_ rfl rfl F10 rfl ?_
        | refine OT.lenQ (bs.length : Int) h1 u46 (by simp) ho_ rfl rfl rfl ?_
        | refine OT.lenQ (ws.length : Int) h2 u29 (by simp) ho_ rfl rfl rfl ?_
        | refine OT.call1 e1 ho_ rfl rfl (iF F17) rfl ?_
        | refine OT.call1 e2 ho_ rfl rfl (iF F18) rfl ?_
        | refine OT.call1 e3 ho_ rfl rfl (iF F17) rfl ?_
        | refine OT.call1 e4 ho_ rfl rfl (iF F19) rfl ?_
        | refine OT.call1 e5 ho_ rfl rfl (iF F18) rfl ?_
        | refine OT.lenQ ((4 * ws.length : Nat) : Int) s5 u46 (by rw [g5]) ho_ rfl rfl rfl ?_
        | refine OT.arW ((bs.length % 4 : Nat) : Int) ho_ rfl rfl rfl (fun _ _ => by rw [aBin_rem (by decide), hm0]) rfl ?_
        | refine OT.arW ((bs.length / 4 : Nat) : Int) ho_ rfl rfl rfl (fun _ _ => by rw [aBin_quo (by decide), hq0]) rfl ?_
        | refine OT.lenN ho_ rfl rfl u29 rfl ?_
        | refine OT.cmpT ho_ rfl rfl rfl rfl (by first | (simp only [cmpP]; done) | (simp only [cmpP]; omega)) rfl ?_
        | refine OT.cmpF ho_ rfl rfl rfl rfl (by first | (simp only [cmpP]; done) | (simp only [cmpP]; omega)) rfl ?_
        | refine OT.add ho_ rfl rfl rfl (by first | exact IntWalk.i64_in _ (by omega) | exact IntWalk.u8_in _ (by omega) | exact IntWalk.u32_in _ (by omega) | exact IntWalk.u16_in _ (by omega) | exact IntWalk.i32_in _ (by omega)) rfl ?_
        | refine OT.sub ho_ rfl rfl rfl (by first | exact IntWalk.i64_in _ (by omega) | exact IntWalk.u8_in _ (by omega) | exact IntWalk.u32_in _ (by omega) | exact IntWalk.u16_in _ (by omega) | exact IntWalk.i32_in _ (by omega)) rfl ?_
        | refine OT.mul ho_ rfl rfl rfl (by first | exact IntWalk.i64_in _ (by omega) | exact IntWalk.u8_in _ (by omega) | exact IntWalk.u32_in _ (by omega) | exact IntWalk.u16_in _ (by omega) | exact IntWalk.i32_in _ (by omega)) rfl ?_
        | refine OT.quo ho_ rfl rfl rfl (by omega) (by omega) (by first | exact IntWalk.i64_in _ (by omega) | exact IntWalk.u8_in _ (by omega) | exact IntWalk.u32_in _ (by omega) | exact IntWalk.u16_in _ (by omega) | exact IntWalk.i32_in _ (by omega)) rfl ?_
        | refine OT.rem ho_ rfl rfl rfl (by omega) (by omega) rfl ?_
        | refine OT.box _ ho_ rfl rfl rfl (Nat.le_of_ble_eq_true (by rfl)) (by first | exact trivial | exact .inr (.inl ⟨rfl, fun b hb => by cases hb; decide⟩) | exact Side.pass rfl | exact .inr (.inl ⟨rfl, fun b hb H2 h2 => by cases hb; exact (h2.keep _ (by decide)).trans (by rfl)⟩) | exact .inr (.inr ⟨rfl, fun _ => ⟨lay_of (Nat.le_of_ble_eq_true (by rfl)) (by rfl), fun b hb => by simp only [List.mem_cons, List.not_mem_nil, or_false] at hb; subst hb; rfl⟩⟩)) rfl ?_
        | refine OT.alloc _ ho_ rfl (by first | exact z31 | exact z59 | exact z61) rfl rfl (Nat.le_of_ble_eq_true (by rfl)) (by first | exact trivial | exact .inr (.inl ⟨rfl, fun b hb => by cases hb; decide⟩) | exact Side.pass rfl | exact .inr (.inl ⟨rfl, fun b hb H2 h2 => by cases hb; exact (h2.keep _ (by decide)).trans (by rfl)⟩) | exact .inr (.inr ⟨rfl, fun _ => ⟨lay_of (Nat.le_of_ble_eq_true (by rfl)) (by rfl), fun b hb => by simp only [List.mem_cons, List.not_mem_nil, or_false] at hb; subst hb; rfl⟩⟩)) rfl ?_
        | refine OT.ldA ho_ rfl rfl (by first | exact ga31 | exact ga59 | exact ga61 | exact ga24) (by first | exact sz3 | exact sz5 | exact sz22 | exact sz31 | exact sz59 | exact sz61 | exact sz24) rfl (Nat.le_of_ble_eq_true (by rfl)) rfl (by first | exact trivial | exact .inr (.inl ⟨rfl, fun b hb => by cases hb; decide⟩) | exact Side.pass rfl | exact .inr (.inl ⟨rfl, fun b hb H2 h2 => by cases hb; exact (h2.keep _ (by decide)).trans (by rfl)⟩) | exact .inr (.inr ⟨rfl, fun _ => ⟨lay_of (Nat.le_of_ble_eq_true (by rfl)) (by rfl), fun b hb => by simp only [List.mem_cons, List.not_mem_nil, or_false] at hb; subst hb; rfl⟩⟩)) rfl ?_
        | refine OT.st _ ho_ rfl rfl rfl (by first | exact sz3 | exact sz5 | exact sz22 | exact sz31 | exact sz59 | exact sz61 | exact sz24) rfl (by rfl) rfl (by decide) (Nat.le_of_ble_eq_true (by rfl)) rfl (Nat.le_of_ble_eq_true (by rfl)) rfl (by first | exact trivial | exact .inr (.inl ⟨rfl, fun b hb => by cases hb; decide⟩) | exact Side.pass rfl | exact .inr (.inl ⟨rfl, fun b hb H2 h2 => by cases hb; exact (h2.keep _ (by decide)).trans (by rfl)⟩) | exact .inr (.inr ⟨rfl, fun _ => ⟨lay_of (Nat.le_of_ble_eq_true (by rfl)) (by rfl), fun b hb => by simp only [List.mem_cons, List.not_mem_nil, or_false] at hb; subst hb; rfl⟩⟩)) ?_
        | refine OT.iaddrA ho_ rfl rfl rfl (by first | exact u60 | exact u61 | exact u24) (by first | exact sz3 | exact sz5 | exact sz22 | exact sz31 | exact sz59 | exact sz61 | exact sz24) (by omega) (by omega) rfl ?_
        | refine OT.buildV ho_ rfl rfl (by first | exact bld31 _ _ _ _ _ | exact bld31b _ _) rfl ?_
        | refine OT.mkF ho_ rfl rfl rfl rfl ?_
        | refine OT.maxQ _ ho_ rfl rfl rfl rfl rfl ?_
        | refine OT.minQ _ ho_ rfl rfl rfl rfl rfl ?_
        | refine OT.convI ho_ rfl rfl (by first | exact u3 | exact u5 | exact u22 | exact u56 | exact u21 | exact u25 | exact u33 | exact u42 | exact u2) (by first | exact u3 | exact u5 | exact u22 | exact u56 | exact u21 | exact u25 | exact u33 | exact u42 | exact u2) (by first | exact IntWalk.i64_in _ (by omega) | exact IntWalk.u8_in _ (by omega) | exact IntWalk.u32_in _ (by omega) | exact IntWalk.u16_in _ (by omega) | exact IntWalk.i32_in _ (by omega)) rfl ?_
       clear ho_ i_)
    | refine OT.nil ?_
    | refine Tr.region cx ?_
    | refine Tr.draw cx [] noEv (Valid.none _) (by decide +kernel) ?_
    | refine Tr.cond_true cx rfl ?_
    | refine Tr.cond_false cx rfl ?_
    | refine Tr.seq cx ?_
    | refine Tr.block cx ?_
    | refine Tr.ret cx ?_
    | refine Tr.skip cx ?_
    | refine Tr.exit cx ?_)
          exact ⟨_, _, rfl, rfl, by rfl⟩
        · have w5 := (((i1.keep K2).keep K3).keep K5)
          have gw : ((wordsOf bs).map (Value.int .u32)).length = bs.length / 4 := by rw [List.length_map, wordsOf_length]
          obtain ⟨q6, H6, e6, s6, K6⟩ := bytes_ev w5 (by rw [wordsOf_length]; omega) (by rw [wordsOf_length]; omega)
          rw [bytes_words bs h4 r1] at s6
          have b6 := b5.keep K6
          have w6 := w5.keep K6
          obtain ⟨_, _, e7, rfl, rfl⟩ := same_ev s6 b6 (by omega)
          rw [decide_eq_true (rfl : bs = bs)] at e7
          repeat (first
    | (refine OT.fetch rfl (fun i_ ho_ => ?_)
       first
        | refine OT.move ho_ rfl rfl rfl ?_
        | refine OT.assign ho_ rfl rfl rfl ?_
        | refine OT.un ho_ rfl rfl ?_
        | refine OT.pickT ho_ rfl rfl rfl rfl ?_
        | refine OT.pickF ho_ rfl rfl rfl rfl ?_
        | refine OT.extract ho_ rfl rfl rfl rfl ?_
        | refine OT.not ho_ rfl rfl rfl ?_
        | refine OT.faddr ho_ rfl rfl (by first | exact us31 | exact us59) (by decide) rfl ?_
        | refine OT.ld ho_ rfl rfl (by first | exact ga3 | exact ga4 | exact ga5 | exact ga9 | exact ga22) rfl rfl (by first | exact trivial | exact .inr (.inl ⟨rfl, fun b hb => by cases hb; decide⟩) | exact Side.pass rfl | exact .inr (.inl ⟨rfl, fun b hb H2 h2 => by cases hb; exact (h2.keep _ (by decide)).trans (by rfl)⟩) | exact .inr (.inr ⟨rfl, fun _ => ⟨lay_of (Nat.le_of_ble_eq_true (by rfl)) (by rfl), fun b hb => by simp only [List.mem_cons, List.not_mem_nil, or_false] at hb; subst hb; rfl⟩⟩)) rfl ?_
        | refine OT.call1 (sanity_ev hL) ho_ rfl rfl F10 rfl ?_
        | refine OT.lenQ (bs.length : Int) h1 u46 (by simp) ho_ rfl rfl rfl ?_
        | refine OT.lenQ (ws.length : Int) h2 u29 (by simp) ho_ rfl rfl rfl ?_
        | refine OT.lenQ ((bs.length / 4 : Nat) : Int) w5 u29 (by rw [gw]) ho_ rfl rfl rfl ?_
        | refine OT.call1 e1 ho_ rfl rfl (iF F17) rfl ?_
        | refine OT.call1 e2 ho_ rfl rfl (iF F18) rfl ?_
        | refine OT.call1 e3 ho_ rfl rfl (iF F17) rfl ?_
        | refine OT.call1 e4 ho_ rfl rfl (iF F19) rfl ?_
        | refine OT.call1 e5 ho_ rfl rfl (iF F18) rfl ?_
        | refine OT.lenQ ((4 * ws.length : Nat) : Int) s5 u46 (by rw [g5]) ho_ rfl rfl rfl ?_
        | refine OT.arW ((bs.length % 4 : Nat) : Int) ho_ rfl rfl rfl (fun _ _ => by rw [aBin_rem (by decide), hm0]) rfl ?_
        | refine OT.arW ((bs.length / 4 : Nat) : Int) ho_ rfl rfl rfl (fun _ _ => by rw [aBin_quo (by decide), hq0]) rfl ?_
        | refine OT.call1 e6 ho_ rfl rfl (iF F18) rfl ?_
        | refine OT.call1 e7 ho_ rfl rfl (iF F20) rfl ?_
        | refine OT.cmpT ho_ rfl rfl rfl rfl (by first | (simp only [cmpP]; done) | (simp only [cmpP]; omega)) rfl ?_
        | refine OT.cmpF ho_ rfl rfl rfl rfl (by first | (simp only [cmpP]; done) | (simp only [cmpP]; omega)) rfl ?_
        | refine OT.add ho_ rfl rfl rfl (by first | exact IntWalk.i64_in _ (by omega) | exact IntWalk.u8_in _ (by omega) | exact IntWalk.u32_in _ (by omega) | exact IntWalk.u16_in _ (by omega) | exact IntWalk.i32_in _ (by omega)) rfl ?_
        | refine OT.sub ho_ rfl rfl rfl (by first | exact IntWalk.i64_in _ (by omega) | exact IntWalk.u8_in _ (by omega) | exact IntWalk.u32_in _ (by omega) | exact IntWalk.u16_in _ (by omega) | exact IntWalk.i32_in _ (by omega)) rfl ?_
        | refine OT.mul ho_ rfl rfl rfl (by first | exact IntWalk.i64_in _ (by omega) | exact IntWalk.u8_in _ (by omega) | exact IntWalk.u32_in _ (by omega) | exact IntWalk.u16_in _ (by omega) | exact IntWalk.i32_in _ (by omega)) rfl ?_
        | refine OT.quo ho_ rfl rfl rfl (by omega) (by omega) (by first | exact IntWalk.i64_in _ (by omega) | exact IntWalk.u8_in _ (by omega) | exact IntWalk.u32_in _ (by omega) | exact IntWalk.u16_in _ (by omega) | exact IntWalk.i32_in _ (by omega)) rfl ?_
        | refine OT.rem ho_ rfl rfl rfl (by omega) (by omega) rfl ?_
        | refine OT.box _ ho_ rfl rfl rfl (Nat.le_of_ble_eq_true (by rfl)) (by first | exact trivial | exact .inr (.inl ⟨rfl, fun b hb => by cases hb; decide⟩) | exact Side.pass rfl | exact .inr (.inl ⟨rfl, fun b hb H2 h2 => by cases hb; exact (h2.keep _ (by decide)).trans (by rfl)⟩) | exact .inr (.inr ⟨rfl, fun _ => ⟨lay_of (Nat.le_of_ble_eq_true (by rfl)) (by rfl), fun b hb => by simp only [List.mem_cons, List.not_mem_nil, or_false] at hb; subst hb; rfl⟩⟩)) rfl ?_
        | refine OT.alloc _ ho_ rfl (by first | exact z31 | exact z59 | exact z61) rfl rfl (Nat.le_of_ble_eq_true (by rfl)) (by first | exact trivial | exact .inr (.inl ⟨rfl, fun b hb => by cases hb; decide⟩) | exact Side.pass rfl | exact .inr (.inl ⟨rfl, fun b hb H2 h2 => by cases hb; exact (h2.keep _ (by decide)).trans (by rfl)⟩) | exact .inr (.inr ⟨rfl, fun _ => ⟨lay_of (Nat.le_of_ble_eq_true (by rfl)) (by rfl), fun b hb => by simp only [List.mem_cons, List.not_mem_nil, or_false] at hb; subst hb; rfl⟩⟩)) rfl ?_
        | refine OT.ldA ho_ rfl rfl (by first | exact ga31 | exact ga59 | exact ga61 | exact ga24) (by first | exact sz3 | exact sz5 | exact sz22 | exact sz31 | exact sz59 | exact sz61 | exact sz24) rfl (Nat.le_of_ble_eq_true (by rfl)) rfl (by first | exact trivial | exact .inr (.inl ⟨rfl, fun b hb => by cases hb; decide⟩) | exact Side.pass rfl | exact .inr (.inl ⟨rfl, fun b hb H2 h2 => by cases hb; exact (h2.keep _ (by decide)).trans (by rfl)⟩) | exact .inr (.inr ⟨rfl, fun _ => ⟨lay_of (Nat.le_of_ble_eq_true (by rfl)) (by rfl), fun b hb => by simp only [List.mem_cons, List.not_mem_nil, or_false] at hb; subst hb; rfl⟩⟩)) rfl ?_
        | refine OT.st _ ho_ rfl rfl rfl (by first | exact sz3 | exact sz5 | exact sz22 | exact sz31 | exact sz59 | exact sz61 | exact sz24) rfl (by rfl) rfl (by decide) (Nat.le_of_ble_eq_true (by rfl)) rfl (Nat.le_of_ble_eq_true (by rfl)) rfl (by first | exact trivial | exact .inr (.inl ⟨rfl, fun b hb => by cases hb; decide⟩) | exact Side.pass rfl | exact .inr (.inl ⟨rfl, fun b hb H2 h2 => by cases hb; exact (h2.keep _ (by decide)).trans (by rfl)⟩) | exact .inr (.inr ⟨rfl, fun _ => ⟨lay_of (Nat.le_of_ble_eq_true (by rfl)) (by rfl), fun b hb => by simp only [List.mem_cons, List.not_mem_nil, or_false] at hb; subst hb; rfl⟩⟩)) ?_
        | refine OT.iaddrA ho_ rfl rfl rfl (by first | exact u60 | exact u61 | exact u24) (by first | exact sz3 | exact sz5 | exact sz22 | exact sz31 | exact sz59 | exact sz61 | exact sz24) (by omega) (by omega) rfl ?_
        | refine OT.buildV ho_ rfl rfl (by first | exact bld31 _ _ _ _ _ | exact bld31b _ _) rfl ?_
        | refine OT.mkF ho_ rfl rfl rfl rfl ?_
        | refine OT.maxQ _ ho_ rfl rfl rfl rfl rfl ?_
        | refine OT.minQ _ ho_ rfl rfl rfl rfl rfl ?_
        | refine OT.convI ho_ rfl rfl (by first | exact u3 | exact u5 | exact u22 | exact u56 | exact u21 | exact u25 | exact u33 | exact u42 | exact u2) (by first | exact u3 | exact u5 | exact u22 | exact u56 | exact u21 | exact u25 | exact u33 | exact u42 | exact u2) (by first | exact IntWalk.i64_in _ (by omega) | exact IntWalk.u8_in _ (by omega) | exact IntWalk.u32_in _ (by omega) | exact IntWalk.u16_in _ (by omega) | exact IntWalk.i32_in _ (by omega)) rfl ?_
       clear ho_ i_)
    | refine OT.nil ?_
    | refine Tr.region cx ?_
    | refine Tr.draw cx [] noEv (Valid.none _) (by decide +kernel) ?_
    | refine Tr.cond_true cx rfl ?_
    | refine Tr.cond_false cx rfl ?_
    | refine Tr.seq cx ?_
    | refine Tr.block cx ?_
    | refine Tr.ret cx ?_
    | refine Tr.skip cx ?_
    | refine Tr.exit cx ?_)
          refine Tr.loopK cx (fun k : Nat => T.set 20 (T.set 20 (T.set 20 (T.set 20 .nil 10 (.int .i64 k)) 6 s1) 5 (.bool true)) 0 v1) (fun k => k ≤ bs.length / 4) (fun k => bs.length / 4 - k) 0 ?_ (Nat.zero_le _) ?_
          · exact .set (by omega) rfl rfl (.set (by omega) rfl rfl (.set (by omega) rfl rfl (.set (by omega) rfl rfl .nil)))
          · intro k hk
            by_cases hkn : k < bs.length / 4
            · obtain ⟨x0, x1, x2, x3, rest, hd⟩ := four_of (l := bs) (k := 4 * k) (by omega)
              have hwk := wordsOf_at (by omega) hd
              have m0 := drop_at (q := 0) hd rfl
              have m1 := drop_at (q := 1) hd rfl
              have m2 := drop_at (q := 2) hd rfl
              have m3 := drop_at (q := 3) hd rfl
              have t0 := r1 x0 (List.mem_of_getElem? m0)
              have t1 := r1 x1 (List.mem_of_getElem? m1)
              have t2 := r1 x2 (List.mem_of_getElem? m2)
              have t3 := r1 x3 (List.mem_of_getElem? m3)
              obtain ⟨b, off, c, s, e, kk, rfl, hb, hl, hs, hbn, hc, hco, hcl⟩ := b6.inv (by simp only [List.length_map]; omega)
              obtain ⟨b', off', c', s', e', kk', rfl, hb', hl', hs', hbn', hc', hco', hcl'⟩ := w6.inv (by omega)
              have iw := ixo hs' hwk (q := (k : Int)) rfl
              have i0 := ixo hs m0 (q := 4 * (k : Int)) (by omega)
              have i1 := ixo hs m1 (q := 4 * (k : Int) + 1) (by omega)
              have i2 := ixo hs m2 (q := 4 * (k : Int) + 2) (by omega)
              have i3 := ixo hs m3 (q := 4 * (k : Int) + 3) (by omega)
              repeat (first
    | (refine OT.fetch rfl (fun i_ ho_ => ?_)
       first
        | refine OT.move ho_ rfl rfl rfl ?_
        | refine OT.assign ho_ rfl rfl rfl ?_
        | refine OT.un ho_ rfl rfl ?_
        | refine OT.pickT ho_ rfl rfl rfl rfl ?_
        | refine OT.pickF ho_ rfl rfl rfl rfl ?_
        | refine OT.extract ho_ rfl rfl rfl rfl ?_
        | refine OT.not ho_ rfl rfl rfl ?_
        | refine OT.faddr ho_ rfl rfl (by first | exact us31 | exact us59) (by decide) rfl ?_
        | refine OT.ld ho_ rfl rfl (by first | exact ga3 | exact ga4 | exact ga5 | exact ga9 | exact ga22) rfl rfl (by first | exact trivial | exact .inr (.inl ⟨rfl, fun b hb => by cases hb; decide⟩) | exact Side.pass rfl | exact .inr (.inl ⟨rfl, fun b hb H2 h2 => by cases hb; exact (h2.keep _ (by decide)).trans (by rfl)⟩) | exact .inr (.inr ⟨rfl, fun _ => ⟨lay_of (Nat.le_of_ble_eq_true (by rfl)) (by rfl), fun b hb => by simp only [List.mem_cons, List.not_mem_nil, or_false] at hb; subst hb; rfl⟩⟩)) rfl ?_
        | refine OT.lenS ho_ rfl rfl u29 rfl ?_
        | refine OT.cmpT ho_ rfl rfl rfl rfl (by simp only [cmpP]; omega) rfl ?_
        | refine OT.indexAddr ho_ rfl rfl rfl u29 sz22 (by omega) (by omega) rfl ?_
        | refine OT.indexAddr ho_ rfl rfl rfl u46 sz5 (by omega) (by simp only [List.length_map]; omega) rfl ?_
        | refine OT.ldV _ ho_ rfl rfl ga22 hb' iw (.inr (.inl ⟨rfl, fun b hb => by cases hb; simp⟩)) rfl ?_
        | refine OT.ldV _ ho_ rfl rfl ga5 hb i0 (.inr (.inl ⟨rfl, fun b hb => by cases hb; simp⟩)) rfl ?_
        | refine OT.ldV _ ho_ rfl rfl ga5 hb i1 (.inr (.inl ⟨rfl, fun b hb => by cases hb; simp⟩)) rfl ?_
        | refine OT.ldV _ ho_ rfl rfl ga5 hb i2 (.inr (.inl ⟨rfl, fun b hb => by cases hb; simp⟩)) rfl ?_
        | refine OT.ldV _ ho_ rfl rfl ga5 hb i3 (.inr (.inl ⟨rfl, fun b hb => by cases hb; simp⟩)) rfl ?_
        | refine OT.convI ho_ rfl rfl u5 u22 (IntWalk.u32_in _ (by omega)) rfl ?_
        | refine OT.shl 16777216 ho_ rfl rfl rfl (by decide) (by decide) (by decide) (IntWalk.u32_in _ (by omega)) rfl ?_
        | refine OT.shl 65536 ho_ rfl rfl rfl (by decide) (by decide) (by decide) (IntWalk.u32_in _ (by omega)) rfl ?_
        | refine OT.shl 256 ho_ rfl rfl rfl (by decide) (by decide) (by decide) (IntWalk.u32_in _ (by omega)) rfl ?_
        | refine OT.cmpT ho_ rfl rfl rfl rfl (by first | (simp only [cmpP]; done) | (simp only [cmpP]; omega)) rfl ?_
        | refine OT.cmpF ho_ rfl rfl rfl rfl (by first | (simp only [cmpP]; done) | (simp only [cmpP]; omega)) rfl ?_
        | refine OT.add ho_ rfl rfl rfl (by first | exact IntWalk.i64_in _ (by omega) | exact IntWalk.u8_in _ (by omega) | exact IntWalk.u32_in _ (by omega) | exact IntWalk.u16_in _ (by omega) | exact IntWalk.i32_in _ (by omega)) rfl ?_
        | refine OT.sub ho_ rfl rfl rfl (by first | exact IntWalk.i64_in _ (by omega) | exact IntWalk.u8_in _ (by omega) | exact IntWalk.u32_in _ (by omega) | exact IntWalk.u16_in _ (by omega) | exact IntWalk.i32_in _ (by omega)) rfl ?_
        | refine OT.mul ho_ rfl rfl rfl (by first | exact IntWalk.i64_in _ (by omega) | exact IntWalk.u8_in _ (by omega) | exact IntWalk.u32_in _ (by omega) | exact IntWalk.u16_in _ (by omega) | exact IntWalk.i32_in _ (by omega)) rfl ?_
        | refine OT.quo ho_ rfl rfl rfl (by omega) (by omega) (by first | exact IntWalk.i64_in _ (by omega) | exact IntWalk.u8_in _ (by omega) | exact IntWalk.u32_in _ (by omega) | exact IntWalk.u16_in _ (by omega) | exact IntWalk.i32_in _ (by omega)) rfl ?_
        | refine OT.rem ho_ rfl rfl rfl (by omega) (by omega) rfl ?_
        | refine OT.box _ ho_ rfl rfl rfl (Nat.le_of_ble_eq_true (by rfl)) (by first | exact trivial | exact .inr (.inl ⟨rfl, fun b hb => by cases hb; decide⟩) | exact Side.pass rfl | exact .inr (.inl ⟨rfl, fun b hb H2 h2 => by cases hb; exact (h2.keep _ (by decide)).trans (by rfl)⟩) | exact .inr (.inr ⟨rfl, fun _ => ⟨lay_of (Nat.le_of_ble_eq_true (by rfl)) (by rfl), fun b hb => by simp only [List.mem_cons, List.not_mem_nil, or_false] at hb; subst hb; rfl⟩⟩)) rfl ?_
        | refine OT.alloc _ ho_ rfl (by first | exact z31 | exact z59 | exact z61) rfl rfl (Nat.le_of_ble_eq_true (by rfl)) (by first | exact trivial | exact .inr (.inl ⟨rfl, fun b hb => by cases hb; decide⟩) | exact Side.pass rfl | exact .inr (.inl ⟨rfl, fun b hb H2 h2 => by cases hb; exact (h2.keep _ (by decide)).trans (by rfl)⟩) | exact .inr (.inr ⟨rfl, fun _ => ⟨lay_of (Nat.le_of_ble_eq_true (by rfl)) (by rfl), fun b hb => by simp only [List.mem_cons, List.not_mem_nil, or_false] at hb; subst hb; rfl⟩⟩)) rfl ?_
        | refine OT.ldA ho_ rfl rfl (by first | exact ga31 | exact ga59 | exact ga61 | exact ga24) (by first | exact sz3 | exact sz5 | exact sz22 | exact sz31 | exact sz59 | exact sz61 | exact sz24) rfl (Nat.le_of_ble_eq_true (by rfl)) rfl (by first | exact trivial | exact .inr (.inl ⟨rfl, fun b hb => by cases hb; decide⟩) | exact Side.pass rfl | exact .inr (.inl ⟨rfl, fun b hb H2 h2 => by cases hb; exact (h2.keep _ (by decide)).trans (by rfl)⟩) | exact .inr (.inr ⟨rfl, fun _ => ⟨lay_of (Nat.le_of_ble_eq_true (by rfl)) (by rfl), fun b hb => by simp only [List.mem_cons, List.not_mem_nil, or_false] at hb; subst hb; rfl⟩⟩)) rfl ?_
        | refine OT.st _ ho_ rfl rfl rfl (by first | exact sz3 | exact sz5 | exact sz22 | exact sz31 | exact sz59 | exact sz61 | exact sz24) rfl (by rfl) rfl (by decide) (Nat.le_of_ble_eq_true (by rfl)) rfl (Nat.le_of_ble_eq_true (by rfl)) rfl (by first | exact trivial | exact .inr (.inl ⟨rfl, fun b hb => by cases hb; decide⟩) | exact Side.pass rfl | exact .inr (.inl ⟨rfl, fun b hb H2 h2 => by cases hb; exact (h2.keep _ (by decide)).trans (by rfl)⟩) | exact .inr (.inr ⟨rfl, fun _ => ⟨lay_of (Nat.le_of_ble_eq_true (by rfl)) (by rfl), fun b hb => by simp only [List.mem_cons, List.not_mem_nil, or_false] at hb; subst hb; rfl⟩⟩)) ?_
        | refine OT.iaddrA ho_ rfl rfl rfl (by first | exact u60 | exact u61 | exact u24) (by first | exact sz3 | exact sz5 | exact sz22 | exact sz31 | exact sz59 | exact sz61 | exact sz24) (by omega) (by omega) rfl ?_
        | refine OT.buildV ho_ rfl rfl (by first | exact bld31 _ _ _ _ _ | exact bld31b _ _) rfl ?_
        | refine OT.mkF ho_ rfl rfl rfl rfl ?_
        | refine OT.maxQ _ ho_ rfl rfl rfl rfl rfl ?_
        | refine OT.minQ _ ho_ rfl rfl rfl rfl rfl ?_
        | refine OT.convI ho_ rfl rfl (by first | exact u3 | exact u5 | exact u22 | exact u56 | exact u21 | exact u25 | exact u33 | exact u42 | exact u2) (by first | exact u3 | exact u5 | exact u22 | exact u56 | exact u21 | exact u25 | exact u33 | exact u42 | exact u2) (by first | exact IntWalk.i64_in _ (by omega) | exact IntWalk.u8_in _ (by omega) | exact IntWalk.u32_in _ (by omega) | exact IntWalk.u16_in _ (by omega) | exact IntWalk.i32_in _ (by omega)) rfl ?_
       clear ho_ i_)
    | refine Tr.draw cx [b, b'] noEv (Valid.none _) (by decide +kernel) ?_
    | refine OT.nil ?_
    | refine Tr.region cx ?_
    | refine Tr.draw cx [] noEv (Valid.none _) (by decide +kernel) ?_
    | refine Tr.cond_true cx rfl ?_
    | refine Tr.cond_false cx rfl ?_
    | refine Tr.seq cx ?_
    | refine Tr.block cx ?_
    | refine Tr.ret cx ?_
    | refine Tr.skip cx ?_
    | refine Tr.exit cx ?_)
              exact ⟨k + 1, by omega, rfl, rfl, .set (by omega) rfl rfl (.set (by omega) rfl rfl (.set (by omega) rfl rfl (.set (by omega) rfl rfl .nil))), by omega⟩
            · repeat (first
    | (refine OT.fetch rfl (fun i_ ho_ => ?_)
       first
        | refine OT.move ho_ rfl rfl rfl ?_
        | refine OT.assign ho_ rfl rfl rfl ?_
        | refine OT.un ho_ rfl rfl ?_
        | refine OT.pickT ho_ rfl rfl rfl rfl ?_
        | refine OT.pickF ho_ rfl rfl rfl rfl ?_
        | refine OT.extract ho_ rfl rfl rfl rfl ?_
        | refine OT.not ho_ rfl rfl rfl ?_
        | refine OT.faddr ho_ rfl rfl (by first | exact us31 | exact us59) (by decide) rfl ?_
        | refine OT.ld ho_ rfl rfl (by first | exact ga3 | exact ga4 | exact ga5 | exact ga9 | exact ga22) rfl rfl (by first | exact trivial | exact .inr (.inl ⟨rfl, fun b hb => by cases hb; decide⟩) | exact Side.pass rfl | exact .inr (.inl ⟨rfl, fun b hb H2 h2 => by cases hb; exact (h2.keep _ (by decide)).trans (by rfl)⟩) | exact .inr (.inr ⟨rfl, fun _ => ⟨lay_of (Nat.le_of_ble_eq_true (by rfl)) (by rfl), fun b hb => by simp only [List.mem_cons, List.not_mem_nil, or_false] at hb; subst hb; rfl⟩⟩)) rfl ?_
        | refine OT.lenQ ((bs.length / 4 : Nat) : Int) w6 u29 (by rw [gw]) ho_ rfl rfl rfl ?_
        | refine OT.cmpT ho_ rfl rfl rfl rfl (by first | (simp only [cmpP]; done) | (simp only [cmpP]; omega)) rfl ?_
        | refine OT.cmpF ho_ rfl rfl rfl rfl (by first | (simp only [cmpP]; done) | (simp only [cmpP]; omega)) rfl ?_
        | refine OT.add ho_ rfl rfl rfl (by first | exact IntWalk.i64_in _ (by omega) | exact IntWalk.u8_in _ (by omega) | exact IntWalk.u32_in _ (by omega) | exact IntWalk.u16_in _ (by omega) | exact IntWalk.i32_in _ (by omega)) rfl ?_
        | refine OT.sub ho_ rfl rfl rfl (by first | exact IntWalk.i64_in _ (by omega) | exact IntWalk.u8_in _ (by omega) | exact IntWalk.u32_in _ (by omega) | exact IntWalk.u16_in _ (by omega) | exact IntWalk.i32_in _ (by omega)) rfl ?_
        | refine OT.mul ho_ rfl rfl rfl (by first | exact IntWalk.i64_in _ (by omega) | exact IntWalk.u8_in _ (by omega) | exact IntWalk.u32_in _ (by omega) | exact IntWalk.u16_in _ (by omega) | exact IntWalk.i32_in _ (by omega)) rfl ?_
        | refine OT.quo ho_ rfl rfl rfl (by omega) (by omega) (by first | exact IntWalk.i64_in _ (by omega) | exact IntWalk.u8_in _ (by omega) | exact IntWalk.u32_in _ (by omega) | exact IntWalk.u16_in _ (by omega) | exact IntWalk.i32_in _ (by omega)) rfl ?_
        | refine OT.rem ho_ rfl rfl rfl (by omega) (by omega) rfl ?_
        | refine OT.box _ ho_ rfl rfl rfl (Nat.le_of_ble_eq_true (by rfl)) (by first | exact trivial | exact .inr (.inl ⟨rfl, fun b hb => by cases hb; decide⟩) | exact Side.pass rfl | exact .inr (.inl ⟨rfl, fun b hb H2 h2 => by cases hb; exact (h2.keep _ (by decide)).trans (by rfl)⟩) | exact .inr (.inr ⟨rfl, fun _ => ⟨lay_of (Nat.le_of_ble_eq_true (by rfl)) (by rfl), fun b hb => by simp only [List.mem_cons, List.not_mem_nil, or_false] at hb; subst hb; rfl⟩⟩)) rfl ?_
        | refine OT.alloc _ ho_ rfl (by first | exact z31 | exact z59 | exact z61) rfl rfl (Nat.le_of_ble_eq_true (by rfl)) (by first | exact trivial | exact .inr (.inl ⟨rfl, fun b hb => by cases hb; decide⟩) | exact Side.pass rfl | exact .inr (.inl ⟨rfl, fun b hb H2 h2 => by cases hb; exact (h2.keep _ (by decide)).trans (by rfl)⟩) | exact .inr (.inr ⟨rfl, fun _ => ⟨lay_of (Nat.le_of_ble_eq_true (by rfl)) (by rfl), fun b hb => by simp only [List.mem_cons, List.not_mem_nil, or_false] at hb; subst hb; rfl⟩⟩)) rfl ?_
        | refine OT.ldA ho_ rfl rfl (by first | exact ga31 | exact ga59 | exact ga61 | exact ga24) (by first | exact sz3 | exact sz5 | exact sz22 | exact sz31 | exact sz59 | exact sz61 | exact sz24) rfl (Nat.le_of_ble_eq_true (by rfl)) rfl (by first | exact trivial | exact .inr (.inl ⟨rfl, fun b hb => by cases hb; decide⟩) | exact Side.pass rfl | exact .inr (.inl ⟨rfl, fun b hb H2 h2 => by cases hb; exact (h2.keep _ (by decide)).trans (by rfl)⟩) | exact .inr (.inr ⟨rfl, fun _ => ⟨lay_of (Nat.le_of_ble_eq_true (by rfl)) (by rfl), fun b hb => by simp only [List.mem_cons, List.not_mem_nil, or_false] at hb; subst hb; rfl⟩⟩)) rfl ?_
        | refine OT.st _ ho_ rfl rfl rfl (by first | exact sz3 | exact sz5 | exact sz22 | exact sz31 | exact sz59 | exact sz61 | exact sz24) rfl (by rfl) rfl (by decide) (Nat.le_of_ble_eq_true (by rfl)) rfl (Nat.le_of_ble_eq_true (by rfl)) rfl (by first | exact trivial | exact .inr (.inl ⟨rfl, fun b hb => by cases hb; decide⟩) | exact Side.pass rfl | exact .inr (.inl ⟨rfl, fun b hb H2 h2 => by cases hb; exact (h2.keep _ (by decide)).trans (by rfl)⟩) | exact .inr (.inr ⟨rfl, fun _ => ⟨lay_of (Nat.le_of_ble_eq_true (by rfl)) (by rfl), fun b hb => by simp only [List.mem_cons, List.not_mem_nil, or_false] at hb; subst hb; rfl⟩⟩)) ?_
        | refine OT.iaddrA ho_ rfl rfl rfl (by first | exact u60 | exact u61 | exact u24) (by first | exact sz3 | exact sz5 | exact sz22 | exact sz31 | exact sz59 | exact sz61 | exact sz24) (by omega) (by omega) rfl ?_
        | refine OT.buildV ho_ rfl rfl (by first | exact bld31 _ _ _ _ _ | exact bld31b _ _) rfl ?_
        | refine OT.mkF ho_ rfl rfl rfl rfl ?_
        | refine OT.maxQ _ ho_ rfl rfl rfl rfl rfl ?_
        | refine OT.minQ _ ho_ rfl rfl rfl rfl rfl ?_
        | refine OT.convI ho_ rfl rfl (by first | exact u3 | exact u5 | exact u22 | exact u56 | exact u21 | exact u25 | exact u33 | exact u42 | exact u2) (by first | exact u3 | exact u5 | exact u22 | exact u56 | exact u21 | exact u25 | exact u33 | exact u42 | exact u2) (by first | exact IntWalk.i64_in _ (by omega) | exact IntWalk.u8_in _ (by omega) | exact IntWalk.u32_in _ (by omega) | exact IntWalk.u16_in _ (by omega) | exact IntWalk.i32_in _ (by omega)) rfl ?_
       clear ho_ i_)
    | refine OT.nil ?_
    | refine Tr.region cx ?_
    | refine Tr.draw cx [] noEv (Valid.none _) (by decide +kernel) ?_
    | refine Tr.cond_true cx rfl ?_
    | refine Tr.cond_false cx rfl ?_
    | refine Tr.seq cx ?_
    | refine Tr.block cx ?_
    | refine Tr.ret cx ?_
    | refine Tr.skip cx ?_
    | refine Tr.exit cx ?_)
              exact ⟨_, _, rfl, rfl, by rfl⟩
end Go.Proofs.YtljpjeipgdeioaaDoor
