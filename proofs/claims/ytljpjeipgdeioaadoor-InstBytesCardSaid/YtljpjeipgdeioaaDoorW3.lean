/-
  A part of the proof: what a piece of the program gives; conditions: those of each theorem.
-/
import Derived.Test.YtljpjeipgdeioaaDoorW2
set_option linter.unusedVariables false
namespace Go.Proofs.YtljpjeipgdeioaaDoor
open Ax
set_option maxHeartbeats 8000000
def bytesOfW : List Int → List Int
  | [] => []
  | w :: r => [w / 16777216 % 256, w / 65536 % 256, w / 256 % 256, w % 256] ++ bytesOfW r
theorem bytesOfW_length : ∀ (l : List Int), (bytesOfW l).length = 4 * l.length
  | [] => rfl
  | w :: r => by simp only [bytesOfW, List.length_append, List.length_cons, List.length_nil, bytesOfW_length r]; omega
theorem bytesOfW_append : ∀ (l m : List Int), bytesOfW (l ++ m) = bytesOfW l ++ bytesOfW m
  | [], m => rfl
  | w :: r, m => by simp only [List.cons_append, bytesOfW, bytesOfW_append r m, List.nil_append]
theorem bytes4_fill (a b c d : Int) : Instr.fill (fun i => some (i * 1, 1)) ((Array.range (4 * 1)).map ((Value.int IntKind.u8 0).cells[· % (Value.int IntKind.u8 0).cells.size]!)) [(0, Value.int IntKind.u8 a), (1, Value.int IntKind.u8 b), (2, Value.int IntKind.u8 c), (3, Value.int IntKind.u8 d)] = some #[.int .u8 a, .int .u8 b, .int .u8 c, .int .u8 d] := by kernel_rfl
theorem bytes4_lit {a b c d : Int} {H : AHeap} (hn : H.next < maxIds) : aBuildSlice Tryd.prog H 46 4 #[(0, .int .u8 a), (1, .int .u8 b), (2, .int .u8 c), (3, .int .u8 d)] = some (.slice (some ⟨H.next, 0, none⟩) 4 4, H.add (.cells [.int .u8 a, .int .u8 b, .int .u8 c, .int .u8 d] 5 0)) := by
  unfold aBuildSlice
  rw [u46]
  simp only [sz5, z5]
  rw [if_pos (by decide), bytes4_fill a b c d]
  simp [aNewSlice, hn, openCap]
theorem sl46 : ∃ inf, USl Tryd.prog 46 5 inf (.int .u8 0) := USl.of_ok (by decide +kernel) rfl rfl
theorem put_four {a : List Value} {m k : Nat} {x0 x1 x2 x3 z : Value} (hk : a.length = k) : (a ++ List.replicate (m + 4) z).take (0 + k) ++ (([x0, x1, x2, x3].drop 0).take 4) ++ (a ++ List.replicate (m + 4) z).drop (0 + k + 4) = a ++ [x0, x1, x2, x3] ++ List.replicate m z := by
  subst hk
  rw [Nat.zero_add, List.take_left, ← List.drop_drop, List.drop_left]
  simp [List.replicate_succ]
theorem bytes_ev {H : AHeap} {v : Value} {ws : List Int} (hv : InS H v (ws.map (Value.int .u32))) (hn : ws.length < 2 ^ 18) (hN : H.next + ws.length + 1 < maxIds) :
    ∃ r H2, EvS Tryd.prog (.call 18 #[v] H) (.value r H2) ∧ (InS H2 r ((bytesOfW ws).map (Value.int .u8)) ∧ Keep H H2 (1 + ws.length)) := by
  obtain ⟨inf, U⟩ := sl46
  have hN' : H.next < maxIds := by omega
  have hq0 : IntKind.i64.wrap (4 * (ws.length : Int)) = ((4 * ws.length : Nat) : Int) := by rw [IntWalk.i64_in _ (by omega)]; omega
  refine EvS.call cx F18 (fn := Tryd.f18) rfl ⟨by simp [Tryd.f18], by simp⟩ ?_
  repeat (first
    | (refine OT.fetch rfl (fun i_ ho_ => ?_)
       first
        | refine OT.move ho_ rfl rfl rfl ?_
        | refine OT.assign ho_ rfl rfl rfl ?_
        | refine OT.un ho_ rfl rfl ?_
        | refine OT.pickT ho_ rfl rfl rfl rfl ?_
        | refine OT.pickF ho_ rfl rfl rfl rfl ?_
        | refine OT.extract ho_ rfl rfl rfl rfl ?_
        | refine OT.not ho_ rfl rfl rfl ?_
        | refine OT.faddr ho_ rfl rfl (by first | exact us31 | exact us59) (by decide) rfl ?_
        | refine OT.ld ho_ rfl rfl (by first | exact ga3 | exact ga4 | exact ga5 | exact ga9 | exact ga22) rfl rfl (by first | exact trivial | exact .inr (.inl ⟨rfl, fun b hb => by cases hb; decide⟩) | exact Side.pass rfl | exact .inr (.inl ⟨rfl, fun b hb H2 h2 => by cases hb; exact (h2.keep _ (by decide)).trans (by rfl)⟩) | exact .inr (.inr ⟨rfl, fun _ => ⟨lay_of (Nat.le_of_ble_eq_true (by rfl)) (by rfl), fun b hb => by simp only [List.mem_cons, List.not_mem_nil, or_false] at hb; subst hb; rfl⟩⟩)) rfl ?_
        | refine OT.lenQ (ws.length : Int) hv u29 (by simp) ho_ rfl rfl rfl ?_
        | refine OT.arW ((4 * ws.length : Nat) : Int) ho_ rfl rfl rfl (fun _ _ => by rw [aBin_mul, hq0]) rfl ?_
        | refine OT.makeU U ho_ rfl rfl rfl (by omega) (by omega) (by omega) hN' trivial rfl ?_
        | refine OT.cmpT ho_ rfl rfl rfl rfl (by first | (simp only [cmpP]; done) | (simp only [cmpP]; omega)) rfl ?_
        | refine OT.cmpF ho_ rfl rfl rfl rfl (by first | (simp only [cmpP]; done) | (simp only [cmpP]; omega)) rfl ?_
        | refine OT.add ho_ rfl rfl rfl (by first | exact IntWalk.i64_in _ (by omega) | exact IntWalk.u8_in _ (by omega) | exact IntWalk.u32_in _ (by omega) | exact IntWalk.u16_in _ (by omega) | exact IntWalk.i32_in _ (by omega)) rfl ?_
        | refine OT.sub ho_ rfl rfl rfl (by first | exact IntWalk.i64_in _ (by omega) | exact IntWalk.u8_in _ (by omega) | exact IntWalk.u32_in _ (by omega) | exact IntWalk.u16_in _ (by omega) | exact IntWalk.i32_in _ (by omega)) rfl ?_
        | refine OT.mul ho_ rfl rfl rfl (by first | exact IntWalk.i64_in _ (by omega) | exact IntWalk.u8_in _ (by omega) | exact IntWalk.u32_in _ (by omega) | exact IntWalk.u16_in _ (by omega) | exact IntWalk.i32_in _ (by omega)) rfl ?_
        | refine OT.quo ho_ rfl rfl rfl (by omega) (by omega) (by first | exact IntWalk.i64_in _ (by omega) | exact IntWalk.u8_in _ (by omega) | exact IntWalk.u32_in _ (by omega) | exact IntWalk.u16_in _ (by omega) | exact IntWalk.i32_in _ (by omega)) rfl ?_
        | refine OT.rem ho_ rfl rfl rfl (by omega) (by omega) rfl ?_
        | refine OT.box _ ho_ rfl rfl rfl (Nat.le_of_ble_eq_true (by rfl)) (by first | exact trivial | exact .inr (.inl ⟨rfl, fun b hb => by cases hb; decide⟩) | exact Side.pass rfl | exact .inr (.inl ⟨rfl, fun b hb H2 h2 => by cases hb; exact (h2.keep _ (by decide)).trans (by rfl)⟩) | exact .inr (.inr ⟨rfl, fun _ => ⟨lay_of (Nat.le_of_ble_eq_true (by rfl)) (by rfl), fun b hb => by simp only [List.mem_cons, List.not_mem_nil, or_false] at hb; subst hb; rfl⟩⟩)) rfl ?_
        | refine OT.alloc _ ho_ rfl (by first | exact z31 | exact z59 | exact z61) rfl rfl (Nat.le_of_ble_eq_true (by rfl)) (by first | exact trivial | exact .inr (.inl ⟨rfl, fun b hb => by cases hb; decide⟩) | exact Side.pass rfl | exact .inr (.inl ⟨rfl, fun b hb H2 h2 => by cases hb; exact (h2.keep _ (by decide)).trans (by rfl)⟩) | exact .inr (.inr ⟨rfl, fun _ => ⟨lay_of (Nat.le_of_ble_eq_true (by rfl)) (by rfl), fun b hb => by simp only [List.mem_cons, List.not_mem_nil, or_false] at hb; subst hb; rfl⟩⟩)) rfl ?_
        | refine OT.ldA ho_ rfl rfl (by first | exact ga31 | exact ga59 | exact ga61 | exact ga24) (by first | exact sz3 | exact sz5 | exact sz22 | exact sz31 | exact sz59 | exact sz61 | exact sz24) rfl (Nat.le_of_ble_eq_true (by rfl)) rfl (by first | exact trivial | exact .inr (.inl ⟨rfl, fun b hb => by cases hb; decide⟩) | exact Side.pass rfl | exact .inr (.inl ⟨rfl, fun b hb H2 h2 => by cases hb; exact (h2.keep _ (by decide)).trans (by rfl)⟩) | exact .inr (.inr ⟨rfl, fun _ => ⟨lay_of (Nat.le_of_ble_eq_true (by rfl)) (by rfl), fun b hb => by simp only [List.mem_cons, List.not_mem_nil, or_false] at hb; subst hb; rfl⟩⟩)) rfl ?_
        | refine OT.st _ ho_ rfl rfl rfl (by first | exact sz3 | exact sz5 | exact sz22 | exact sz31 | exact sz59 | exact sz61 | exact sz24) rfl (by rfl) rfl (by decide) (Nat.le_of_ble_eq_true (by rfl)) rfl (Nat.le_of_ble_eq_true (by rfl)) rfl (by first | exact trivial | exact .inr (.inl ⟨rfl, fun b hb => by cases hb; decide⟩) | exact Side.pass rfl | exact .inr (.inl ⟨rfl, fun b hb H2 h2 => by cases hb; exact (h2.keep _ (by decide)).trans (by rfl)⟩) | exact .inr (.inr ⟨rfl, fun _ => ⟨lay_of (Nat.le_of_ble_eq_true (by rfl)) (by rfl), fun b hb => by simp only [List.mem_cons, List.not_mem_nil, or_false] at hb; subst hb; rfl⟩⟩)) ?_
        | refine OT.iaddrA ho_ rfl rfl rfl (by first | exact u60 | exact u61 | exact u24) (by first | exact sz3 | exact sz5 | exact sz22 | exact sz31 | exact sz59 | exact sz61 | exact sz24) (by omega) (by omega) rfl ?_
        | refine OT.buildV ho_ rfl rfl (by first | exact bld31 _ _ _ _ _ | exact bld31b _ _) rfl ?_
        | refine OT.mkF ho_ rfl rfl rfl rfl ?_
        | refine OT.maxQ _ ho_ rfl rfl rfl rfl rfl ?_
        | refine OT.minQ _ ho_ rfl rfl rfl rfl rfl ?_
        | refine OT.convI ho_ rfl rfl (by first | exact u3 | exact u5 | exact u22 | exact u56 | exact u21 | exact u25 | exact u33 | exact u42 | exact u2) (by first | exact u3 | exact u5 | exact u22 | exact u56 | exact u21 | exact u25 | exact u33 | exact u42 | exact u2) (by first | exact IntWalk.i64_in _ (by omega) | exact IntWalk.u8_in _ (by omega) | exact IntWalk.u32_in _ (by omega) | exact IntWalk.u16_in _ (by omega) | exact IntWalk.i32_in _ (by omega)) rfl ?_
       clear ho_ i_)
    | refine OT.nil ?_
    | refine Tr.region cx ?_
    | refine Tr.draw cx [] noEv (Valid.none _) (by decide +kernel) ?_
    | refine Tr.cond_true cx rfl ?_
    | refine Tr.cond_false cx rfl ?_
    | refine Tr.seq cx ?_
    | refine Tr.block cx ?_
    | refine Tr.ret cx ?_
    | refine Tr.skip cx ?_
    | refine Tr.exit cx ?_)
  let I : Nat → AS → Prop := fun j s => j ≤ ws.length ∧ s.defs = [] ∧ Sub (T.set 20 (T.set 20 (T.set 20 (T.set 20 .nil 12 (.int .i64 j)) 11 (.int .i64 ws.length)) 10 v) 3 (.slice (some ⟨H.next, 0, none⟩) (4 * j) (4 * ws.length))) s.env ∧
    Keep H s.H (1 + j) ∧ H.next < s.H.next ∧ s.H.t.get H.next = some (.cells ((bytesOfW (ws.take j)).map (Value.int .u8) ++ List.replicate (4 * (ws.length - j)) (.int .u8 0)) 5 0)
  refine Tr.loop cx I (fun j => ws.length - j) 0 ?_ ?_
  · refine ⟨Nat.zero_le _, rfl, ?_, ?_, ?_, ?_⟩
    · exact .set (by omega) rfl rfl (.set (by omega) rfl rfl (.set (by omega) rfl rfl (.set (by omega) rfl rfl .nil)))
    · exact ⟨by simp [AHeap.add], by simp [AHeap.add], fun i hi => AHeap.get_add_other (by omega)⟩
    · simp [AHeap.add]
    · rw [AHeap.get_add hN']; rfl
  · rintro j ⟨E, defs, H1⟩ ⟨hj, hdefs, hsub, hkeep, hlt, hout⟩
    simp only at hdefs hkeep hlt hout hsub
    subst hdefs
    refine Tr.sub hsub ?_
    by_cases hjn : j < ws.length
    · generalize hx : ws[j] = w
      have hstep : bytesOfW (ws.take (j + 1)) = bytesOfW (ws.take j) ++ [w / 16777216 % 256, w / 65536 % 256, w / 256 % 256, w % 256] := by
        rw [List.take_succ_eq_append_getElem hjn, bytesOfW_append, hx]; rfl
      have hN1 : H1.next < maxIds := by have := hkeep.most; omega
      generalize hout0 : (bytesOfW (ws.take j)).map (Value.int .u8) = done at hout
      have hdl : done.length = 4 * j := by rw [← hout0, List.length_map, bytesOfW_length, List.length_take]; omega
      have hrep : List.replicate (4 * (ws.length - j)) (Value.int .u8 0) = List.replicate ((4 * (ws.length - (j + 1))) + 4) (Value.int .u8 0) := by congr 1; omega
      rw [hrep] at hout
      obtain ⟨b, off, c, s, e, k, rfl, hb, hl, hs, hbn, hc, hco, hcl⟩ := hv.inv (by simp only [List.length_map]; omega)
      have hb1 : H1.t.get b = some (.cells s e k) := by rw [hkeep.old _ hbn]; exact hb
      have i0 := ix hs hjn
      rw [hx] at i0
      have hout' : ∀ x, (H1.add x).t.get H.next = some (.cells (done ++ List.replicate ((4 * (ws.length - (j + 1))) + 4) (Value.int .u8 0)) 5 0) := fun x => by rw [AHeap.get_add_other (by omega)]; exact hout
      repeat (first
    | (refine OT.fetch rfl (fun i_ ho_ => ?_)
       first
        | refine OT.move ho_ rfl rfl rfl ?_
        | refine OT.assign ho_ rfl rfl rfl ?_
        | refine OT.un ho_ rfl rfl ?_
        | refine OT.pickT ho_ rfl rfl rfl rfl ?_
        | refine OT.pickF ho_ rfl rfl rfl rfl ?_
        | refine OT.extract ho_ rfl rfl rfl rfl ?_
        | refine OT.not ho_ rfl rfl rfl ?_
        | refine OT.faddr ho_ rfl rfl (by first | exact us31 | exact us59) (by decide) rfl ?_
        | refine OT.ld ho_ rfl rfl (by first | exact ga3 | exact ga4 | exact ga5 | exact ga9 | exact ga22) rfl rfl (by first | exact trivial | exact .inr (.inl ⟨rfl, fun b hb => by cases hb; decide⟩) | exact Side.pass rfl | exact .inr (.inl ⟨rfl, fun b hb H2 h2 => by cases hb; exact (h2.keep _ (by decide)).trans (by rfl)⟩) | exact .inr (.inr ⟨rfl, fun _ => ⟨lay_of (Nat.le_of_ble_eq_true (by rfl)) (by rfl), fun b hb => by simp only [List.mem_cons, List.not_mem_nil, or_false] at hb; subst hb; rfl⟩⟩)) rfl ?_
        | refine OT.indexAddr ho_ rfl rfl rfl u29 sz22 (by omega) (by simp only [List.length_map]; omega) rfl ?_
        | refine OT.ldV _ ho_ rfl rfl ga22 hb1 i0 trivial rfl ?_
        | refine OT.shr 16777216 ho_ rfl rfl rfl (by decide) (by decide) (by decide) rfl ?_
        | refine OT.shr 65536 ho_ rfl rfl rfl (by decide) (by decide) (by decide) rfl ?_
        | refine OT.shr 256 ho_ rfl rfl rfl (by decide) (by decide) (by decide) rfl ?_
        | refine OT.convW _ ho_ rfl rfl u22 u5 u8_wrap rfl ?_
        | refine OT.buildSl ho_ rfl rfl (bytes4_lit hN1) trivial rfl ?_
        | refine OT.roomU U ho_ rfl rfl rfl (hout' _) (AHeap.get_add hN1) (by decide) hN' (by unfold openCap; omega) (by decide) (by omega) (by simp only [List.length_append, List.length_replicate]; omega) (by simp) rfl rfl rfl trivial rfl ?_
        | refine OT.cmpT ho_ rfl rfl rfl rfl (by first | (simp only [cmpP]; done) | (simp only [cmpP]; omega)) rfl ?_
        | refine OT.cmpF ho_ rfl rfl rfl rfl (by first | (simp only [cmpP]; done) | (simp only [cmpP]; omega)) rfl ?_
        | refine OT.add ho_ rfl rfl rfl (by first | exact IntWalk.i64_in _ (by omega) | exact IntWalk.u8_in _ (by omega) | exact IntWalk.u32_in _ (by omega) | exact IntWalk.u16_in _ (by omega) | exact IntWalk.i32_in _ (by omega)) rfl ?_
        | refine OT.sub ho_ rfl rfl rfl (by first | exact IntWalk.i64_in _ (by omega) | exact IntWalk.u8_in _ (by omega) | exact IntWalk.u32_in _ (by omega) | exact IntWalk.u16_in _ (by omega) | exact IntWalk.i32_in _ (by omega)) rfl ?_
        | refine OT.mul ho_ rfl rfl rfl (by first | exact IntWalk.i64_in _ (by omega) | exact IntWalk.u8_in _ (by omega) | exact IntWalk.u32_in _ (by omega) | exact IntWalk.u16_in _ (by omega) | exact IntWalk.i32_in _ (by omega)) rfl ?_
        | refine OT.quo ho_ rfl rfl rfl (by omega) (by omega) (by first | exact IntWalk.i64_in _ (by omega) | exact IntWalk.u8_in _ (by omega) | exact IntWalk.u32_in _ (by omega) | exact IntWalk.u16_in _ (by omega) | exact IntWalk.i32_in _ (by omega)) rfl ?_
        | refine OT.rem ho_ rfl rfl rfl (by omega) (by omega) rfl ?_
        | refine OT.box _ ho_ rfl rfl rfl (Nat.le_of_ble_eq_true (by rfl)) (by first | exact trivial | exact .inr (.inl ⟨rfl, fun b hb => by cases hb; decide⟩) | exact Side.pass rfl | exact .inr (.inl ⟨rfl, fun b hb H2 h2 => by cases hb; exact (h2.keep _ (by decide)).trans (by rfl)⟩) | exact .inr (.inr ⟨rfl, fun _ => ⟨lay_of (Nat.le_of_ble_eq_true (by rfl)) (by rfl), fun b hb => by simp only [List.mem_cons, List.not_mem_nil, or_false] at hb; subst hb; rfl⟩⟩)) rfl ?_
        | refine OT.alloc _ ho_ rfl (by first | exact z31 | exact z59 | exact z61) rfl rfl (Nat.le_of_ble_eq_true (by rfl)) (by first | exact trivial | exact .inr (.inl ⟨rfl, fun b hb => by cases hb; decide⟩) | exact Side.pass rfl | exact .inr (.inl ⟨rfl, fun b hb H2 h2 => by cases hb; exact (h2.keep _ (by decide)).trans (by rfl)⟩) | exact .inr (.inr ⟨rfl, fun _ => ⟨lay_of (Nat.le_of_ble_eq_true (by rfl)) (by rfl), fun b hb => by simp only [List.mem_cons, List.not_mem_nil, or_false] at hb; subst hb; rfl⟩⟩)) rfl ?_
        | refine OT.ldA ho_ rfl rfl (by first | exact ga31 | exact ga59 | exact ga61 | exact ga24) (by first | exact sz3 | exact sz5 | exact sz22 | exact sz31 | exact sz59 | exact sz61 | exact sz24) rfl (Nat.le_of_ble_eq_true (by rfl)) rfl (by first | exact trivial | exact .inr (.inl ⟨rfl, fun b hb => by cases hb; decide⟩) | exact Side.pass rfl | exact .inr (.inl ⟨rfl, fun b hb H2 h2 => by cases hb; exact (h2.keep _ (by decide)).trans (by rfl)⟩) | exact .inr (.inr ⟨rfl, fun _ => ⟨lay_of (Nat.le_of_ble_eq_true (by rfl)) (by rfl), fun b hb => by simp only [List.mem_cons, List.not_mem_nil, or_false] at hb; subst hb; rfl⟩⟩)) rfl ?_
        | refine OT.st _ ho_ rfl rfl rfl (by first | exact sz3 | exact sz5 | exact sz22 | exact sz31 | exact sz59 | exact sz61 | exact sz24) rfl (by rfl) rfl (by decide) (Nat.le_of_ble_eq_true (by rfl)) rfl (Nat.le_of_ble_eq_true (by rfl)) rfl (by first | exact trivial | exact .inr (.inl ⟨rfl, fun b hb => by cases hb; decide⟩) | exact Side.pass rfl | exact .inr (.inl ⟨rfl, fun b hb H2 h2 => by cases hb; exact (h2.keep _ (by decide)).trans (by rfl)⟩) | exact .inr (.inr ⟨rfl, fun _ => ⟨lay_of (Nat.le_of_ble_eq_true (by rfl)) (by rfl), fun b hb => by simp only [List.mem_cons, List.not_mem_nil, or_false] at hb; subst hb; rfl⟩⟩)) ?_
        | refine OT.iaddrA ho_ rfl rfl rfl (by first | exact u60 | exact u61 | exact u24) (by first | exact sz3 | exact sz5 | exact sz22 | exact sz31 | exact sz59 | exact sz61 | exact sz24) (by omega) (by omega) rfl ?_
        | refine OT.buildV ho_ rfl rfl (by first | exact bld31 _ _ _ _ _ | exact bld31b _ _) rfl ?_
        | refine OT.mkF ho_ rfl rfl rfl rfl ?_
        | refine OT.maxQ _ ho_ rfl rfl rfl rfl rfl ?_
        | refine OT.minQ _ ho_ rfl rfl rfl rfl rfl ?_
        | refine OT.convI ho_ rfl rfl (by first | exact u3 | exact u5 | exact u22 | exact u56 | exact u21 | exact u25 | exact u33 | exact u42 | exact u2) (by first | exact u3 | exact u5 | exact u22 | exact u56 | exact u21 | exact u25 | exact u33 | exact u42 | exact u2) (by first | exact IntWalk.i64_in _ (by omega) | exact IntWalk.u8_in _ (by omega) | exact IntWalk.u32_in _ (by omega) | exact IntWalk.u16_in _ (by omega) | exact IntWalk.i32_in _ (by omega)) rfl ?_
       clear ho_ i_)
    | refine OT.nil ?_
    | refine Tr.region cx ?_
    | refine Tr.draw cx [] noEv (Valid.none _) (by decide +kernel) ?_
    | refine Tr.cond_true cx rfl ?_
    | refine Tr.cond_false cx rfl ?_
    | refine Tr.seq cx ?_
    | refine Tr.block cx ?_
    | refine Tr.ret cx ?_
    | refine Tr.skip cx ?_
    | refine Tr.exit cx ?_)
      refine ⟨j + 1, ⟨hjn, rfl, ?_, ?_, ?_, ?_⟩, by omega⟩
      · exact .set (by omega) rfl rfl (.set (by omega) rfl rfl (.set (by omega) rfl rfl (.set (by omega) rfl rfl .nil)))
      · refine ⟨by have := hkeep.le; simp only [AHeap.put, AHeap.add]; omega, by have := hkeep.most; simp only [AHeap.put, AHeap.add]; omega, fun i hi => ?_⟩
        rw [AHeap.get_put_other (by omega), AHeap.get_add_other (by omega), hkeep.old i hi]
      · simp only [AHeap.put, AHeap.add]; omega
      · rw [AHeap.get_put hN', hstep, List.map_append, hout0, put_four hdl]; rfl
    · have hjj : j = ws.length := by omega
      subst hjj
      repeat (first
    | (refine OT.fetch rfl (fun i_ ho_ => ?_)
       first
        | refine OT.move ho_ rfl rfl rfl ?_
        | refine OT.assign ho_ rfl rfl rfl ?_
        | refine OT.un ho_ rfl rfl ?_
        | refine OT.pickT ho_ rfl rfl rfl rfl ?_
        | refine OT.pickF ho_ rfl rfl rfl rfl ?_
        | refine OT.extract ho_ rfl rfl rfl rfl ?_
        | refine OT.not ho_ rfl rfl rfl ?_
        | refine OT.faddr ho_ rfl rfl (by first | exact us31 | exact us59) (by decide) rfl ?_
        | refine OT.ld ho_ rfl rfl (by first | exact ga3 | exact ga4 | exact ga5 | exact ga9 | exact ga22) rfl rfl (by first | exact trivial | exact .inr (.inl ⟨rfl, fun b hb => by cases hb; decide⟩) | exact Side.pass rfl | exact .inr (.inl ⟨rfl, fun b hb H2 h2 => by cases hb; exact (h2.keep _ (by decide)).trans (by rfl)⟩) | exact .inr (.inr ⟨rfl, fun _ => ⟨lay_of (Nat.le_of_ble_eq_true (by rfl)) (by rfl), fun b hb => by simp only [List.mem_cons, List.not_mem_nil, or_false] at hb; subst hb; rfl⟩⟩)) rfl ?_
        | refine OT.cmpT ho_ rfl rfl rfl rfl (by first | (simp only [cmpP]; done) | (simp only [cmpP]; omega)) rfl ?_
        | refine OT.cmpF ho_ rfl rfl rfl rfl (by first | (simp only [cmpP]; done) | (simp only [cmpP]; omega)) rfl ?_
        | refine OT.add ho_ rfl rfl rfl (by first | exact IntWalk.i64_in _ (by omega) | exact IntWalk.u8_in _ (by omega) | exact IntWalk.u32_in _ (by omega) | exact IntWalk.u16_in _ (by omega) | exact IntWalk.i32_in _ (by omega)) rfl ?_
        | refine OT.sub ho_ rfl rfl rfl (by first | exact IntWalk.i64_in _ (by omega) | exact IntWalk.u8_in _ (by omega) | exact IntWalk.u32_in _ (by omega) | exact IntWalk.u16_in _ (by omega) | exact IntWalk.i32_in _ (by omega)) rfl ?_
        | refine OT.mul ho_ rfl rfl rfl (by first | exact IntWalk.i64_in _ (by omega) | exact IntWalk.u8_in _ (by omega) | exact IntWalk.u32_in _ (by omega) | exact IntWalk.u16_in _ (by omega) | exact IntWalk.i32_in _ (by omega)) rfl ?_
        | refine OT.quo ho_ rfl rfl rfl (by omega) (by omega) (by first | exact IntWalk.i64_in _ (by omega) | exact IntWalk.u8_in _ (by omega) | exact IntWalk.u32_in _ (by omega) | exact IntWalk.u16_in _ (by omega) | exact IntWalk.i32_in _ (by omega)) rfl ?_
        | refine OT.rem ho_ rfl rfl rfl (by omega) (by omega) rfl ?_
        | refine OT.box _ ho_ rfl rfl rfl (Nat.le_of_ble_eq_true (by rfl)) (by first | exact trivial | exact .inr (.inl ⟨rfl, fun b hb => by cases hb; decide⟩) | exact Side.pass rfl | exact .inr (.inl ⟨rfl, fun b hb H2 h2 => by cases hb; exact (h2.keep _ (by decide)).trans (by rfl)⟩) | exact .inr (.inr ⟨rfl, fun _ => ⟨lay_of (Nat.le_of_ble_eq_true (by rfl)) (by rfl), fun b hb => by simp only [List.mem_cons, List.not_mem_nil, or_false] at hb; subst hb; rfl⟩⟩)) rfl ?_
        | refine OT.alloc _ ho_ rfl (by first | exact z31 | exact z59 | exact z61) rfl rfl (Nat.le_of_ble_eq_true (by rfl)) (by first | exact trivial | exact .inr (.inl ⟨rfl, fun b hb => by cases hb; decide⟩) | exact Side.pass rfl | exact .inr (.inl ⟨rfl, fun b hb H2 h2 => by cases hb; exact (h2.keep _ (by decide)).trans (by rfl)⟩) | exact .inr (.inr ⟨rfl, fun _ => ⟨lay_of (Nat.le_of_ble_eq_true (by rfl)) (by rfl), fun b hb => by simp only [List.mem_cons, List.not_mem_nil, or_false] at hb; subst hb; rfl⟩⟩)) rfl ?_
        | refine OT.ldA ho_ rfl rfl (by first | exact ga31 | exact ga59 | exact ga61 | exact ga24) (by first | exact sz3 | exact sz5 | exact sz22 | exact sz31 | exact sz59 | exact sz61 | exact sz24) rfl (Nat.le_of_ble_eq_true (by rfl)) rfl (by first | exact trivial | exact .inr (.inl ⟨rfl, fun b hb => by cases hb; decide⟩) | exact Side.pass rfl | exact .inr (.inl ⟨rfl, fun b hb H2 h2 => by cases hb; exact (h2.keep _ (by decide)).trans (by rfl)⟩) | exact .inr (.inr ⟨rfl, fun _ => ⟨lay_of (Nat.le_of_ble_eq_true (by rfl)) (by rfl), fun b hb => by simp only [List.mem_cons, List.not_mem_nil, or_false] at hb; subst hb; rfl⟩⟩)) rfl ?_
        | refine OT.st _ ho_ rfl rfl rfl (by first | exact sz3 | exact sz5 | exact sz22 | exact sz31 | exact sz59 | exact sz61 | exact sz24) rfl (by rfl) rfl (by decide) (Nat.le_of_ble_eq_true (by rfl)) rfl (Nat.le_of_ble_eq_true (by rfl)) rfl (by first | exact trivial | exact .inr (.inl ⟨rfl, fun b hb => by cases hb; decide⟩) | exact Side.pass rfl | exact .inr (.inl ⟨rfl, fun b hb H2 h2 => by cases hb; exact (h2.keep _ (by decide)).trans (by rfl)⟩) | exact .inr (.inr ⟨rfl, fun _ => ⟨lay_of (Nat.le_of_ble_eq_true (by rfl)) (by rfl), fun b hb => by simp only [List.mem_cons, List.not_mem_nil, or_false] at hb; subst hb; rfl⟩⟩)) ?_
        | refine OT.iaddrA ho_ rfl rfl rfl (by first | exact u60 | exact u61 | exact u24) (by first | exact sz3 | exact sz5 | exact sz22 | exact sz31 | exact sz59 | exact sz61 | exact sz24) (by omega) (by omega) rfl ?_
        | refine OT.buildV ho_ rfl rfl (by first | exact bld31 _ _ _ _ _ | exact bld31b _ _) rfl ?_
        | refine OT.mkF ho_ rfl rfl rfl rfl ?_
        | refine OT.maxQ _ ho_ rfl rfl rfl rfl rfl ?_
        | refine OT.minQ _ ho_ rfl rfl rfl rfl rfl ?_
        | refine OT.convI ho_ rfl rfl (by first | exact u3 | exact u5 | exact u22 | exact u56 | exact u21 | exact u25 | exact u33 | exact u42 | exact u2) (by first | exact u3 | exact u5 | exact u22 | exact u56 | exact u21 | exact u25 | exact u33 | exact u42 | exact u2) (by first | exact IntWalk.i64_in _ (by omega) | exact IntWalk.u8_in _ (by omega) | exact IntWalk.u32_in _ (by omega) | exact IntWalk.u16_in _ (by omega) | exact IntWalk.i32_in _ (by omega)) rfl ?_
       clear ho_ i_)
    | refine OT.nil ?_
    | refine Tr.region cx ?_
    | refine Tr.draw cx [] noEv (Valid.none _) (by decide +kernel) ?_
    | refine Tr.cond_true cx rfl ?_
    | refine Tr.cond_false cx rfl ?_
    | refine Tr.seq cx ?_
    | refine Tr.block cx ?_
    | refine Tr.ret cx ?_
    | refine Tr.skip cx ?_
    | refine Tr.exit cx ?_)
      have hjl : ((bytesOfW ws).map (Value.int .u8)).length = 4 * ws.length := by rw [List.length_map, bytesOfW_length]
      rw [List.take_length, Nat.sub_self, Nat.mul_zero, List.replicate_zero, List.append_nil] at hout
      have hfin := InS.mk (H := H1) (off := 0) (c := 4 * ws.length) (l := (bytesOfW ws).map (Value.int .u8)) hout (by simp) (by rw [List.drop_zero, List.take_length]) hlt (by omega) (by unfold openCap; omega) (by omega)
      rw [hjl] at hfin
      exact ⟨_, _, rfl, rfl, hfin, hkeep⟩
end Go.Proofs.YtljpjeipgdeioaaDoor
