/-
  A part of the proof: what the run over an abstract memory gives; conditions: those of each theorem.
-/
import Derived.Test.YtpfenodmchhglaaA24
namespace Go.Ax
section
variable {P : Program} {F : FuncId → Option Func} {base : Prot}
theorem round_sound {k : Nat} (hev : ∀ r res, eval P F k r = some res → SndReq P base r res) {l : Nat} {args : Array Value} {H : AHeap} {res : Res} (h : eval P F (k + 1) (.round l args H) = some res) : SndReq P base (.round l args H) res := by
  simp only [eval] at h
  split at h
  · rename_i L E n hget
    split at h
    · rename_i hc
      obtain ⟨hst, hsz, hid⟩ := hc
      split at h
      · rename_i E1 hpp
        split at h
        · rename_i s1 hassign
          split at h
          · rename_i L1 E' n' hget1
            split at h
            · rename_i hst1
              split at h
              · rename_i e s3 hbody
                split at h
                · rename_i L3 E3 n3 hget3 hdefs
                  cases h
                  intro M b args' w c cs hb hargs hrel
                  obtain ⟨hbb, L', hcell, q1, q2, q3, q4, q5, q6, q7, bq, q8, q9⟩ := hrel.blk _ _ _ hb hget
                  have hal := (VRA.iff.1 hargs).length
                  simp only [Array.length_toList] at hal
                  have hyr := run_yield (P := P) (args := args') hcell (by rw [hal, hsz, q4])
                  -- the frame of the round
                  let fb : Frame := { (default : Frame) with fn := L.fn, kind := .normal, roundOf := some b.real }
                  have hpar : ER M n E1 ((L'.params.zip args').foldl (fun tmps (t, a) => tmps.setIfInBounds t a) L'.tmps) := by
                    have := putParams_sound (M := M) L.params.toList args.toList args'.toList E E1 L'.tmps hpp (VRA.iff.1 hargs) q7
                    rw [q4, ← Array.foldl_toList, Array.toList_zip]
                    exact this
                  let a0 : Act := { tmps := (L'.params.zip args').foldl (fun tmps (t, a) => tmps.setIfInBounds t a) L'.tmps, defers := [] }
                  have hround : Frame.round b.real L'.fn a0.tmps L'.assign L'.body .normal = Fr fb a0 [.code L.assign, .beginRound, .code L.body] := by
                    simp [Frame.round, Fr, fb, a0, q3, q5, q6]
                  have hfr : FrOK M ⟨L.fn, some l, n⟩ fb := ⟨rfl, rfl, b, hb, rfl⟩
                  obtain ⟨M1, a1, w1, x1, x2, x3, x4⟩ := (hev _ _ hassign) M fb a0 [.beginRound, .code L.body] (c :: cs) w hfr ⟨hpar, rfl, hrel⟩
                  have hb1 := x1 _ _ hb
                  obtain ⟨hbb1, L1', hcell1, r1, r2, r3, r4, r5, r6, r7, br, r8, r9⟩ := x2.rel.blk _ _ _ hb1 hget1
                  have hlt1 := x2.rel.lt _ _ hb1
                  have hst1' : L1'.state = .ready := by rw [r1]; simpa using hst1
                  have hbr := run_beginRound (P := P) hcell1 hst1'
                  have ht1 := setObj_turned w1 b.real (.loop { L1' with state := .busy })
                  have hrel2 := x2.rel.put (y := .loop { L1 with state := .busy } E' n') hb1 hget1 rfl hid ht1.size ht1.other ⟨hbb1, { L1' with state := .busy }, setObj_heap _ hlt1, rfl, r2, r3, r4, r5, r6, r7, br, r8, r9⟩
                  obtain ⟨M2, a2, w2, y1, y2, y3, y4⟩ := (hev _ _ hbody) M1 fb a1 [] (c :: cs) _ (hfr.mono x1) ⟨x2.er, x2.dr, hrel2⟩
                  have hb2 := y1 _ _ hb1
                  obtain ⟨hbb2, L3', hcell3, t1, t2, t3, t4, t5, t6, t7, bt, t8, t9⟩ := y2.rel.blk _ _ _ hb2 hget3
                  have hlt2 := y2.rel.lt _ _ hb2
                  have her := run_endRound (P := P) (jumpCode e) hcell3
                  have ht2 := setObj_turned w2 b.real (.loop { L3' with state := if (jumpCode e).isNone then .ready else .done, pending := jumpCode e })
                  have hrel3 := y2.rel.put (y := .loop { L3 with state := if (jumpCode e).isNone then .ready else .done, pending := jumpCode e } E3 n3) hb2 hget3 rfl hid ht2.size ht2.other
                    ⟨hbb2, { L3' with state := if (jumpCode e).isNone then .ready else .done, pending := jumpCode e }, setObj_heap _ hlt2, rfl, rfl, t3, t4, t5, t6, t7, bt, t8, t9⟩
                  refine ⟨M2, _, .bool (jumpCode e).isNone, L'.fn, a0.tmps, L'.assign, L'.body, hyr, x1.trans y1, VR.self rfl, hrel3, x3.trans ((ht1.below hbb1).trans (y3.trans (ht2.below hbb2))), ?_⟩
                  rw [hround]
                  have x4' : Steps P (lone (Fr fb a0 [.code L.assign, .beginRound, .code L.body]) (c :: cs) w) (lone (Fr fb a1 [.beginRound, .code L.body]) (c :: cs) w1) := x4
                  refine x4'.trans (.head (st_beginRound rfl hbr) ?_)
                  cases e with
                  | normal => exact Steps.trans y4 (.one (st_round_end rfl rfl her))
                  | exit id =>
                    obtain ⟨k0, z1, z2⟩ := y4
                    exact z1.trans (.one (st_round_exit rfl rfl (by rw [z2]; rfl) her))
                  | goto id =>
                    obtain ⟨k0, z1, z2⟩ := y4
                    exact z1.trans (.one (st_round_goto rfl rfl (by rw [z2]; rfl) her))
                  | ret =>
                    obtain ⟨k0, z1⟩ := y4
                    exact z1.trans (.one (st_round_ret rfl rfl her))
                · cases h
              · cases h
            · cases h
          · cases h
        · cases h
      · cases h
    · cases h
  · cases h
theorem call_sound {k : Nat} (hF : ∀ f fn, F f = some fn → P.funcs[f]? = some fn) (hev : ∀ r res, eval P F k r = some res → SndReq P base r res) {f : FuncId} {args : Array Value} {H : AHeap} {res : Res} (h : eval P F (k + 1) (.call f args H) = some res) : SndReq P base (.call f args H) res := by
  simp only [eval] at h
  split at h
  · rename_i fn hfn
    split at h
    · rename_i c hbody
      split at h
      · rename_i hn
        split at h
        · rename_i e s hcode
          have key : (takeAll s.H s.defs).bind (fun H2 => (allSome (fn.results.toList.map (resVal P s.env H2))).map fun vs => Res.value (resOf vs) H2) = some res → (e = .normal ∨ e = .ret) → SndReq P base (.call f args H) res := by
            intro h he
            rw [Option.bind_eq_some_iff] at h
            obtain ⟨H2, ht, h⟩ := h
            rw [Option.map_eq_some_iff] at h
            obtain ⟨vs, hvs, rfl⟩ := h
            intro M args' w cs hargs hrel
            let fb : Frame := { (default : Frame) with fn := f, kind := .normal }
            have hal := (VRA.iff.1 hargs).length
            simp only [Array.length_toList] at hal
            let a0 : Act := { tmps := args' ++ Array.replicate (fn.ntmps - args'.size) undef, defers := [] }
            have henter : Frame.enter P f args' .normal = Fr fb a0 [.code c] := by
              simp [Frame.enter, Fr, fb, a0, hF f fn hfn, hbody]
              rfl
            have hfr : FrOK M ⟨f, none, fn.ntmps⟩ fb := ⟨rfl, rfl, rfl⟩
            obtain ⟨M1, a1, w1, x1, x2, x3, x4⟩ := (hev _ _ hcode) M fb a0 [] cs w hfr ⟨enter_er hargs hn.1 hn.2, rfl, hrel⟩
            have hret : ∃ k0, Steps P (lone (Fr fb a0 [.code c]) cs w) (lone { Fr fb a1 k0 with mode := .returning } cs w1) := by
              rcases he with rfl | rfl
              · exact ⟨[], Steps.trans x4 (.one (st_end rfl))⟩
              · obtain ⟨k0, z⟩ := x4
                exact ⟨.code .ret :: k0, z.trans (.one (st_ret rfl))⟩
            obtain ⟨k0, hret⟩ := hret
            obtain ⟨w2, y1, y2, y3⟩ := takeAll_sound (b := fb) (k := k0) (cs := cs) _ _ _ a1 w1 ht x2.dr x2.rel
            obtain ⟨v', hr, hv⟩ := results_sound (P := P) x2.er y1 hvs
            refine ⟨M1, w2, v', { Fr fb { a1 with defers := [] } k0 with mode := .returning }, x1, hv, y1, x3.trans y2, ?_, rfl, rfl, rfl, rfl, fn, hF f fn hfn, hr⟩
            rw [henter]
            exact hret.trans y3
          split at h
          · exact key h (.inl rfl)
          · exact key h (.inr rfl)
          · cases h
        · cases h
      · cases h
    · cases h
  · cases h
theorem eval_sound (hF : ∀ f fn, F f = some fn → P.funcs[f]? = some fn) (hC : ∀ f fn, F f = some fn → ∀ args w, (callFunc f args).run P w = .ok (.enter f args) w) (hmix : P.follows .mixedOrders = true) :
    ∀ (k : Nat) (r : Req) (res : Res), eval P F k r = some res → SndReq P base r res
  | 0, r, res, h => by cases r <;> simp [eval] at h
  | k + 1, r, res, h => by
    have ih := eval_sound hF hC hmix k
    cases r with
    | code fs c s => simp only [eval] at h; exact codeStep_sound hC hmix ih h
    | again fs c s =>
      simp only [eval] at h
      split at h
      · rename_i s1 hc
        have h1 := ih _ _ hc
        have h2 := ih _ _ h
        cases res with
        | value v H => exact h2.elim
        | exit e s' =>
          intro M b a k cs w hfr hsr
          obtain ⟨M1, a1, w1, x1, x2, x3, x4⟩ := h1 M b a (.inLoop c :: k) cs w hfr hsr
          obtain ⟨M2, a2, w2, y1, y2, y3, y4⟩ := h2 M1 b a1 k cs w1 (hfr.mono x1) x2
          exact ⟨M2, a2, w2, x1.trans y1, y2, x3.trans y3, .of_steps (.head st_inLoop x4) y4⟩
      · rename_i hne
        have h1 := ih _ _ h
        cases res with
        | value v H => exact h1.elim
        | exit e s' =>
          intro M b a k cs w hfr hsr
          obtain ⟨M1, a1, w1, x1, x2, x3, x4⟩ := h1 M b a (.inLoop c :: k) cs w hfr hsr
          exact ⟨M1, a1, w1, x1, x2, x3, .of_steps (.one st_inLoop) (.pass (x := .inLoop c) rfl (fun e0 => by subst e0; exact hne _ h) x4)⟩
    | scope fs body rest s =>
      simp only [eval] at h
      split at h
      · rename_i l s1 hc
        have h1 := ih _ _ hc
        split at h
        · rename_i rest' hl
          have h2 := ih _ _ h
          cases res with
          | value v H => exact h2.elim
          | exit e s' =>
            intro M b a k cs w hfr hsr
            obtain ⟨M1, a1, w1, x1, x2, x3, k0, x4, x5⟩ := h1 M b a (.inScope body :: k) cs w hfr hsr
            obtain ⟨M2, a2, w2, y1, y2, y3, y4⟩ := h2 M1 b a1 k cs w1 (hfr.mono x1) x2
            refine ⟨M2, a2, w2, x1.trans y1, y2, x3.trans y3, .of_steps (x4.trans (.one (st_goto (k' := .code rest' :: .inScope body :: k) ?_))) y4⟩
            rw [x5]; simp [gotoIn, hl]
        · rename_i hl; cases h
          intro M b a k cs w hfr hsr
          obtain ⟨M1, a1, w1, x1, x2, x3, k0, x4, x5⟩ := h1 M b a (.inScope body :: k) cs w hfr hsr
          exact ⟨M1, a1, w1, x1, x2, x3, k0, x4, by rw [x5]; simp [gotoIn, hl]⟩
      · rename_i hne
        have h1 := ih _ _ h
        cases res with
        | value v H => exact h1.elim
        | exit e s' =>
          intro M b a k cs w hfr hsr
          obtain ⟨M1, a1, w1, x1, x2, x3, x4⟩ := h1 M b a (.inScope body :: k) cs w hfr hsr
          refine ⟨M1, a1, w1, x1, x2, x3, ?_⟩
          cases e with
          | normal => exact Steps.trans x4 (.one st_inScope)
          | exit id => obtain ⟨k0, y1, y2⟩ := x4; exact ⟨k0, y1, by rw [y2]; simp [exitTo]⟩
          | goto l => exact absurd h (hne _ _)
          | ret => exact x4
    | call f args H => exact call_sound hF ih h
    | round l args H => exact round_sound ih h
/-- A CALL THAT THE EVALUATOR CARRIES OUT, with plain arguments, and memory of its own alone. -/
theorem calls_of_eval (hF : ∀ f fn, F f = some fn → P.funcs[f]? = some fn) (hC : ∀ f fn, F f = some fn → ∀ args w, (callFunc f args).run P w = .ok (.enter f args) w) (hmix : P.follows .mixedOrders = true)
    {k : Nat} {f : FuncId} {args : Array Value} {v : Value} {H : AHeap} (hargs : flatA args = true) (hv : flat v = true) (h : eval P F k (.call f args ⟨0, .nil⟩) = some (.value v H)) (w : World) :
    Calls P f args w fun e w' => e = .returned v ∧ RowKit.Below w.heap.size w w' := by
  intro cs
  have hs := eval_sound (base := fun k => k < w.heap.size) hF hC hmix k _ _ h
  obtain ⟨M', w', v', fr', _, hvv, _, hbel, hst, hfn, hlv⟩ := hs [] args w cs ((VRA.flat_iff args hargs args).2 rfl) ⟨rfl, fun _ hk => hk, fun i x hx => by simp [T.get] at hx, fun i b hb => by simp at hb, fun i b x hb => by simp at hb, fun i j bi bj xi xj hb => by simp at hb⟩
  rw [(VR.flat_iff v hv v').1 hvv] at hlv
  exact ⟨.returned v, w', fr', ⟨rfl, hbel.os, hbel.tape, hbel.output, hbel.size, hbel.block⟩, hst, hfn, hlv⟩
end
end Go.Ax
