/-
  A part of the proof: a run over an abstract memory, its soundness and its rules; each theorem says its conditions.
-/
import Derived.Test.YtfkbegcinagkmaaDoorHA
namespace Go.Px
open Ax
section
variable {P : Program} {tt : TT} {Z : Nat → Option ABlk} {ν : Nu} {S : PS} {E : T Value} {H : AHeap} {ρ : Operand → Option SV} {ρ' : Operand → Option Value}
theorem aLoad_of {t : TypeId} {ti : TI} (ht : TOK P t ti) {b off : Nat} {cs u : List Value} {et : TypeId} {k : Nat} (hb : H.t.get b = some (.cells cs et k)) (hl : off + ti.size ≤ cs.length) (hu : (cs.drop off).take ti.size = u) :
    ∃ y, aLoad P H t (.pointer (some ⟨b, off, none⟩)) = some y ∧ (if ti.agg then y = .agg u.toArray else u = [y]) := by
  unfold aLoad
  have hc : aCells H ⟨b, off, none⟩ ti.size = some u := by simp [aCells, hb, hl, hu]
  simp only [ht.agg, ht.size]
  cases ha : ti.agg with
  | true => simp only [hc, Option.map_some, if_true]; exact ⟨_, rfl, rfl⟩
  | false =>
    have h1 := ht.one ha
    rw [h1] at hc hu hl
    have hlen : u.length = 1 := by rw [← hu, List.length_take, List.length_drop]; omega
    match u, hlen with
    | [y], _ => exact ⟨y, by rw [hc], by simp⟩
theorem part_of {τ : (τ : Sh) × τ.D} {σ : Sh} {x : σ.D} {off n o : Nat} {cs : List Value} (h : RV Z σ x ((cs.drop o).take σ.size)) (hl : o + σ.size ≤ cs.length) (hs : subAt σ x off n = some τ) :
    RV Z τ.1 τ.2 ((cs.drop (o + off)).take n) ∧ o + off + n ≤ cs.length := by
  obtain ⟨q1, q2, q3⟩ := subAt_sound _ _ h hs
  have hlen : ((cs.drop o).take σ.size).length = σ.size := RV.len _ _ _ h
  rw [hlen] at q2
  rw [List.drop_take, List.take_take, List.drop_drop, Nat.min_eq_left (by omega)] at q3
  exact ⟨q3, by omega⟩
theorem row_elem {e : Sh} {xs : List e.D} {cs tl : List Value} {i : Nat} (h : RVL (fun x u => RV Z e x u) xs cs) (hi : i < xs.length) : RV Z e (gt e xs i) (((cs ++ tl).drop (i * e.size)).take e.size) ∧ i * e.size + e.size ≤ (cs ++ tl).length := by
  have hl := h.len (fun x u k => RV.len e x u k)
  have h1 : i * e.size + e.size ≤ xs.length * e.size := by rw [← Nat.succ_mul]; exact Nat.mul_le_mul_right _ hi
  have := RVL.get (fun x u k => RV.len e x u k) h (gt_at hi)
  rw [sub_take rfl hl h1]
  exact ⟨this, by rw [List.length_append]; omega⟩
theorem load_sound (ht : TTOK P tt) (hp : PR Z ν S E H) {t : TypeId} {po : Operand} {p s : SV} {v : Value} {cs : List Prop} {o : Oper} (ho : o.op = .load t po) (hx : ρ po = some p) (h : VS Z ν p v) (e : pR tt ρ S.blk o = some (cs, s)) (hc : ∀ c ∈ cs, c) :
    ∃ y, aLoad P H t v = some y ∧ VS Z ν s y := by
  unfold pR at e
  simp only [ho, hx] at e
  split at e
  · rename_i ti id off hti he
    cases he
    split at e
    · rename_i l hl
      split at e
      · rename_i r hr
        rw [Option.bind_eq_some_iff] at e
        obtain ⟨s', hm, e⟩ := e
        cases e
        obtain ⟨ni, hn, rfl⟩ := h.ptr
        obtain ⟨ni', cs', et, hn', _, hb, hcr⟩ := hp.blk _ _ hl
        rw [hn] at hn'; cases hn'
        obtain ⟨q1, q2⟩ := cutOut_sound hcr hr
        obtain ⟨y, hy, hyv⟩ := aLoad_of (ht _ _ hti) hb q2 rfl
        exact ⟨y, hy, mkV_sound hm q1 hyv⟩
      · cases e
    · cases e
  · rename_i ti e1 id base i off hti he
    cases he
    split at e
    · rename_i l hl
      split at e
      · rename_i a n e' xs r hcut
        split at e
        · rename_i hee
          subst hee
          split at e
          · rename_i τ y hsub
            rw [Option.bind_eq_some_iff] at e
            obtain ⟨s', hm, e⟩ := e
            cases e
            have hi : i < n := hc _ (by simp)
            obtain ⟨ni, hn, rfl⟩ := h.aep
            obtain ⟨ni', cs', et, hn', _, hb, hcr⟩ := hp.blk _ _ hl
            rw [hn] at hn'; cases hn'
            obtain ⟨u, w, rfl, hu, _, hw⟩ := cutAt_sound _ _ hcr hcut
            simp only [CRL] at hw
            obtain ⟨u2, w2, rfl, h3, _⟩ := hw
            simp only [CR, RV] at h3
            obtain ⟨hln, h3⟩ := h3
            obtain ⟨q1, q2⟩ := row_elem (tl := w2) h3 (show i < xs.length by omega)
            have hd : ∀ k m, ((u ++ (u2 ++ w2)).drop (base + k)).take m = ((u2 ++ w2).drop k).take m := fun k m => by rw [← List.drop_drop, ← hu, List.drop_left]
            have q1' : RV Z e' (gt e' xs i) (((u ++ (u2 ++ w2)).drop (base + i * e'.size)).take e'.size) := by rw [hd]; exact q1
            obtain ⟨q3, q4⟩ := part_of q1' (by rw [List.length_append]; omega) hsub
            obtain ⟨y', hy, hyv⟩ := aLoad_of (ht _ _ hti) hb q4 rfl
            exact ⟨y', hy, mkV_sound hm (flatD_sound _ _ q3) hyv⟩
          · cases e
        · cases e
      · cases e
    · cases e
  · rename_i ti e1 id i off hti he
    cases he
    split at e
    · rename_i et e' xs hl
      split at e
      · rename_i hee
        subst hee
        split at e
        · rename_i τ y hsub
          rw [Option.bind_eq_some_iff] at e
          obtain ⟨s', hm, e⟩ := e
          cases e
          have hi : i < xs.length := hc _ (by simp)
          obtain ⟨ni, hn, rfl⟩ := h.elp
          obtain ⟨hpos, hb⟩ := hp.blk _ _ hl
          rcases hb with ⟨hn', rfl⟩ | ⟨ni', cs', tl, k, hn', hb, hrv, _⟩
          · simp at hi
          · rw [hn] at hn'; cases hn'
            obtain ⟨q1, q2⟩ := row_elem (tl := tl) hrv hi
            obtain ⟨q3, q4⟩ := part_of q1 q2 hsub
            obtain ⟨y', hy, hyv⟩ := aLoad_of (ht _ _ hti) hb q4 rfl
            exact ⟨y', hy, mkV_sound hm (flatD_sound _ _ q3) hyv⟩
        · cases e
      · cases e
    · cases e
  · rename_i ti σ x hti he
    cases he
    split at e
    · rename_i τ y hsub
      rw [Option.bind_eq_some_iff] at e
      obtain ⟨s', hm, e⟩ := e
      cases e
      obtain ⟨b, off, cs', et, k, rfl, hz, hl, hv⟩ := h.elv
      obtain ⟨q3, q4⟩ := part_of hv hl hsub
      rw [Nat.add_zero] at q3 q4
      obtain ⟨y', hy, hyv⟩ := aLoad_of (ht _ _ hti) (hp.zh _ _ hz).1 q4 rfl
      exact ⟨y', hy, mkV_sound hm (flatD_sound _ _ q3) hyv⟩
    · cases e
  · cases e
/-- A bound and its value. -/
def BV : Option Value → Option Int → Prop
  | none, a => a = none
  | some v, a => ∃ k n, v = .int k n ∧ a = some n
theorem bnd_sound (hρ : ∀ x s, ρ x = some s → ∃ v, ρ' x = some v ∧ VS Z ν s v) {o : Option Operand} {a : Option Int} (h : bnd ρ o = some a) : ∃ v, aOpt ρ' o = some v ∧ BV v a := by
  cases o with
  | none => simp only [bnd, Option.some.injEq] at h; subst h; exact ⟨none, rfl, rfl⟩
  | some x =>
    simp only [bnd] at h
    split at h
    · rename_i k n hx
      cases h
      obtain ⟨v, hv, hvs⟩ := hρ _ _ hx
      rw [hvs.int] at hv
      exact ⟨some (.int k n), by simp [aOpt, hv, flat], k, n, rfl, rfl⟩
    · cases h
theorem bounds_of {isS : Bool} {lo hi : Option Value} {a b : Option Int} {len cap : Nat} (ha : BV lo a) (hb : BV hi b) (hok : ∀ c ∈ boundsOK len a b, c) (hc : len ≤ cap) :
    pureRun P (Instr.sliceBounds isS len cap lo hi none) = some (lowOf a, highOf len b, cap) ∧ lowOf a ≤ highOf len b ∧ highOf len b ≤ len := by
  cases lo with
  | none =>
    cases hi with
    | none =>
      simp only [BV] at ha hb; subst ha; subst hb
      simp [Instr.sliceBounds, pureRun_pure, lowOf, highOf]
    | some v =>
      obtain ⟨k, n, rfl, rfl⟩ := hb
      simp only [BV] at ha; subst ha
      have h0 := hok (0 ≤ n) (by simp [boundsOK])
      have h1 := hok (n ≤ (len : Int)) (by simp [boundsOK])
      refine ⟨?_, Nat.zero_le _, by simp only [highOf]; omega⟩
      have h2 : n ≤ (cap : Int) := by omega
      simp [Instr.sliceBounds, Instr.sliceBound, asIntOf, pureRun_pure, lowOf, highOf, h0, h2]
  | some v =>
    obtain ⟨k, n, rfl, rfl⟩ := ha
    cases hi with
    | none =>
      simp only [BV] at hb; subst hb
      have h0 := hok (0 ≤ n) (by simp [boundsOK])
      have h1 := hok (n ≤ (len : Int)) (by simp [boundsOK])
      refine ⟨?_, by simp only [lowOf, highOf]; omega, Nat.le_refl _⟩
      simp [Instr.sliceBounds, Instr.sliceBound, asIntOf, pureRun_pure, lowOf, highOf, h0, h1]
    | some v =>
      obtain ⟨k2, m, rfl, rfl⟩ := hb
      have h0 := hok (0 ≤ n) (by simp [boundsOK])
      have h1 := hok (n ≤ m) (by simp [boundsOK])
      have h3 := hok (m ≤ (len : Int)) (by simp [boundsOK])
      refine ⟨?_, by simp only [lowOf, highOf]; omega, by simp only [highOf]; omega⟩
      have h2 : m ≤ (cap : Int) := by omega
      have h4 : 0 ≤ m := by omega
      have h5 : n ≤ max m 0 := by omega
      simp [Instr.sliceBounds, Instr.sliceBound, asIntOf, pureRun_pure, lowOf, highOf, h0, h2, h4, h5]
theorem aSlice_nil {t et : TypeId} {ti : TI} (hk : KOK P t (.slice et)) (ht : TOK P et ti) {lo hi : Option Value} {a b : Option Int} (ha : BV lo a) (hb : BV hi b) (hok : ∀ c ∈ boundsOK 0 a b, c) :
    aSlice P H t (.slice none 0 0) lo hi none = some (.slice none 0 0) ∧ aSlice P H t emptySlice lo hi none = some emptySlice := by
  simp only [KOK] at hk
  obtain ⟨h1, h2, h3⟩ := bounds_of (P := P) (isS := true) ha hb hok (Nat.le_refl 0)
  have e1 : lowOf a = 0 := by omega
  have e2 : highOf 0 b = 0 := by omega
  rw [e1, e2] at h1
  constructor
  · have : pureRun P (Instr.sliceAt t (.slice none 0 0) lo hi none) = some (.slice none 0 0) := by
      simp only [Instr.sliceAt, Instr.slice, pureRun_bind, hk, Option.bind_some, h1, ht.size, pureRun_pure]
      rfl
    simp only [aSlice, this]
    rfl
  · simp [aSlice, emptySlice, hk, h1, ht.size]
theorem aSlice_known {t et : TypeId} {ti : TI} (hk : KOK P t (.slice et)) (ht : TOK P et ti) {lo hi : Option Value} {a b : Option Int} (ha : BV lo a) (hb : BV hi b) {x off len cap : Nat} (hok : ∀ c ∈ boundsOK len a b, c) (hc : len ≤ cap) (hcap : cap < 2 ^ 63) :
    aSlice P H t (.slice (some ⟨x, off, none⟩) len cap) lo hi none = some (.slice (some ⟨x, if cap = lowOf a then off else off + lowOf a * ti.size, none⟩) (highOf len b - lowOf a) (cap - lowOf a)) := by
  simp only [KOK] at hk
  obtain ⟨h1, h2, h3⟩ := bounds_of (P := P) (isS := true) ha hb hok hc
  have n1 : cap ≠ openCap := by unfold openCap; omega
  have n2 : ¬ (cap - lowOf a = openCap) := by unfold openCap; omega
  simp only [aSlice, hk]
  rw [if_neg (by simp), if_neg n1]
  simp only [ht.size, h1]
  rw [if_pos ⟨trivial, n2⟩]
  split <;> simp [add_none]
theorem aSlice_open {t et : TypeId} {ti : TI} (hk : KOK P t (.slice et)) (ht : TOK P et ti) {lo hi : Option Value} {a b : Option Int} (ha : BV lo a) (hb : BV hi b) {x off len : Nat} (hok : ∀ c ∈ boundsOK len a b, c)
    {cs : List Value} {e' : TypeId} (hx : H.t.get x = some (.cells cs e' (10 + ti.size))) (ho : off % ti.size = 0) (hl : off + len * ti.size ≤ cs.length) :
    aSlice P H t (.slice (some ⟨x, off, none⟩) len openCap) lo hi none = some (if lowOf a = len then emptySlice else .slice (some ⟨x, off + lowOf a * ti.size, none⟩) (highOf len b - lowOf a) openCap) := by
  simp only [KOK] at hk
  obtain ⟨h1, h2, h3⟩ := bounds_of (P := P) (isS := true) ha hb hok (Nat.le_refl len)
  simp only [aSlice, hk]
  rw [if_neg (by simp), if_pos trivial]
  simp only [hx, ht.size, h1]
  rw [if_pos ⟨trivial, ho, hl, trivial⟩]
  split <;> simp [add_none]
theorem part_eq {α : Type} (l : List α) (a b : Option Int) (hok : ∀ c ∈ boundsOK l.length a b, c) : part l a b = (l.drop (lowOf a)).take (highOf l.length b - lowOf a) := by
  cases a with
  | none =>
    cases b with
    | none => simp [part, lowOf, highOf]
    | some b => simp [part, lowOf, highOf]
  | some a =>
    cases b with
    | none => simp only [part, lowOf, highOf]; rw [List.take_of_length_le (by rw [List.length_drop]; omega)]
    | some b => simp only [part, lowOf, highOf]; rw [List.drop_take]
theorem toB_int (n : Int) (h0 : 0 ≤ n) (h1 : n < 256) : ofB (toB n) = n := by
  unfold ofB toB
  simp; omega
theorem bytes_foldI {f : Value → ByteArray → Sem (ForInStep ByteArray)} (hf : ∀ (b : Int) (s : ByteArray), f (.int .u8 b) s = pure (.yield (s.push (toB b)))) : ∀ (l : List Int) (s : ByteArray), pureRun P (forIn (m := Sem) (l.map (Value.int .u8)) s f) = some ⟨(s.data.toList ++ l.map toB).toArray⟩
  | [], s => by simp [pureRun_pure]
  | b :: l, s => by
    simp only [List.map_cons, List.forIn_cons, pureRun_bind, hf, pureRun_pure, Option.bind_some]
    rw [bytes_foldI hf l]
    congr 2
    simp
theorem bytesOf_int (l : List Int) : pureRun P (bytesOf (l.map (Value.int .u8)).toArray) = some (bstr (l.map toB)) := by
  unfold bytesOf
  simp only [List.forIn_toArray, pureRun_bind]
  rw [bytes_foldI (fun b s => ?_)]
  · simp [pureRun_pure, bstr]
  · simp [toB]
theorem RVL.ints {k : IntKind} : ∀ {l : List Int} {vs : List Value}, RVL (fun (x : (Sh.int k).D) u => RV Z (.int k) x u) l vs → vs = l.map (Value.int k)
  | [], vs, h => h
  | x :: l, vs, ⟨u, w, e, h1, h2⟩ => by
    simp only [RV] at h1
    subst e; subst h1
    rw [RVL.ints h2]; rfl
theorem flatL_ints (k : IntKind) : ∀ l : List Int, flatL (l.map (Value.int k)) = true
  | [] => rfl
  | _ :: l => by simp only [List.map_cons, flatL, flatL_ints k l]; rfl
/-- Bytes that stand in a block, as a text. -/
theorem toText_of {t u et : TypeId} (hk : KOK P t (.slice et)) (hu : KOK P u .str) (he : KOK P et (.int .u8)) {b off c k : Nat} {cs : List Value} {e' : TypeId} {l : List Int} (hb : H.t.get b = some (.cells cs e' k)) (hl : off + l.length ≤ cs.length) (hv : (cs.drop off).take l.length = l.map (Value.int .u8)) :
    aConvert P H t u (.slice (some ⟨b, off, none⟩) l.length c) = some (bstr (l.map toB), H) := by
  simp only [KOK] at hk hu he
  have hcs : (if l.length = 0 then some [] else aCells H ⟨b, off, none⟩ l.length) = some (l.map (Value.int .u8)) := by
    split
    · rename_i h0; rw [List.eq_nil_of_length_eq_zero h0]; rfl
    · simp [aCells, hb, hl, hv]
  simp only [aConvert, hk, hu, he, if_true]
  rw [hcs]
  simp only [flatL_ints, if_true, bytesOf_int]
  rfl
theorem toText_nil {t u et : TypeId} (hk : KOK P t (.slice et)) (hu : KOK P u .str) (he : KOK P et (.int .u8)) : aConvert P H t u (.slice none 0 0) = some (bstr [], H) ∧ aConvert P H t u emptySlice = some (bstr [], H) := by
  simp only [KOK] at hk hu he
  have hb0 : pureRun P (bytesOf (([] : List Value)).toArray) = some (bstr []) := bytesOf_int []
  constructor
  · have : pureRun P (convert t u (.slice none 0 0)) = some (bstr []) := by
      simp [convert, pureRun_bind, pureRun_pure, hk, he, hu, Conv.bytesToString]
      rfl
    simp [aConvert, this, flat, bstr]
  · simp only [emptySlice, aConvert, hk, hu, he, if_true, hb0, flatL]
    rfl
/-- What a slice expression gives. -/
theorem slice_sound (ht : TTOK P tt) (hp : PR Z ν S E H) (hρ : ∀ x s, ρ x = some s → ∃ v, ρ' x = some v ∧ VS Z ν s v) {t : TypeId} {xo : Operand} {lo hi : Option Operand} {s : SV} {cs : List Prop} {o : Oper} (ho : o.op = .slice t xo lo hi none) (e : pR tt ρ S.blk o = some (cs, s)) (hc : ∀ c ∈ cs, c) :
    ∃ v vl vh y, ρ' xo = some v ∧ aOpt ρ' lo = some vl ∧ aOpt ρ' hi = some vh ∧ aSlice P H t v vl vh none = some y ∧ VS Z ν s y := by
  unfold pR at e
  simp only [ho] at e
  split at e
  · rename_i r0 e1 id w n a b et hx ha hb hk
    split at e
    · rename_i et' e2 xs ti hl hti
      split at e
      · rename_i hcond
        obtain ⟨rfl, hsz⟩ := hcond
        cases e
        obtain ⟨v, hv, hvs⟩ := hρ _ _ hx
        obtain ⟨vl, hvl, hbl⟩ := bnd_sound hρ ha
        obtain ⟨vh, hvh, hbh⟩ := bnd_sound hρ hb
        have hkk := ht.kind hk
        have htt := ht _ _ hti
        have hw := hvs.win
        have hwn : w + n ≤ xs.length := hc _ (by simp)
        have hd : ∀ c ∈ boundsOK n a b, c := fun c hcc => hc c (List.mem_append_left _ hcc)
        obtain ⟨_, hle, hle2⟩ := bounds_of (P := P) (isS := true) hbl hbh hd (Nat.le_refl n)
        unfold WinR at hw
        split at hw
        · rename_i hn
          obtain ⟨rfl, rfl, hvv⟩ := hw
          obtain ⟨r1, r2⟩ := aSlice_nil (H := H) hkk htt hbl hbh hd
          have hz : lowOf a = 0 := by omega
          have hz2 : highOf 0 b = 0 := by omega
          rcases hvv with rfl | ⟨_, rfl⟩
          · exact ⟨_, vl, vh, _, hv, hvl, hvh, r1, VS.mkWin (by unfold WinR; rw [hn]; exact ⟨by omega, by omega, .inl rfl⟩)⟩
          · exact ⟨_, vl, vh, _, hv, hvl, hvh, r2, VS.mkWin (by unfold WinR; rw [hn]; exact ⟨by omega, by omega, .inr ⟨rfl, rfl⟩⟩)⟩
        · rename_i ni hn
          obtain ⟨hpos, hbr⟩ := hp.blk _ _ hl
          rcases hbr with ⟨hn', _⟩ | ⟨ni', cs', tl, k, hn', hb', hrv, hkk'⟩
          · rw [hn] at hn'; cases hn'
          · rw [hn] at hn'; cases hn'
            rcases hw with ⟨_, rfl, rfl | ⟨o2, t2, rfl, ht2, ho2⟩⟩ | ⟨cap, rfl, hcap⟩
            · obtain ⟨_, r2⟩ := aSlice_nil (H := H) hkk htt hbl hbh hd
              refine ⟨_, vl, vh, _, hv, hvl, hvh, r2, VS.mkWin ?_⟩
              unfold WinR; rw [hn]
              exact .inl ⟨rfl, by omega, .inl rfl⟩
            · have r := aSlice_known (H := H) (x := ni.b) (off := o2) hkk htt hbl hbh hd (Nat.le_refl 0) (by decide)
              refine ⟨_, vl, vh, _, hv, hvl, hvh, r, VS.mkWin ?_⟩
              have hz : lowOf a = 0 := by omega
              have hz2 : highOf 0 b = 0 := by omega
              unfold WinR; rw [hn]
              refine .inl ⟨rfl, by omega, .inr ⟨o2, t2, ?_, ht2, ho2⟩⟩
              rw [hz, hz2]; simp
            · cases htot : ni.tot with
              | none =>
                rw [htot] at hcap
                simp only at hcap
                subst hcap
                rcases hkk' with ⟨_, rfl⟩ | ⟨q, _⟩
                · have hlen := hrv.len (fun x u k => RV.len _ x u k)
                  have hin : w * e2.size + n * ti.size ≤ (cs' ++ tl).length := by
                    rw [hsz, ← Nat.add_mul, List.length_append, hlen]
                    have : (w + n) * e2.size ≤ xs.length * e2.size := Nat.mul_le_mul_right _ hwn
                    omega
                  have r := aSlice_open (x := ni.b) (off := w * e2.size) hkk htt hbl hbh hd (by rw [hsz]; exact hb') (by rw [hsz]; exact Nat.mul_mod_left _ _) hin
                  refine ⟨_, vl, vh, _, hv, hvl, hvh, r, VS.mkWin ?_⟩
                  unfold WinR; rw [hn]
                  by_cases hcl : lowOf a = n
                  · rw [if_pos hcl]
                    exact .inl ⟨rfl, by omega, .inl rfl⟩
                  · rw [if_neg hcl, hsz]
                    exact .inr ⟨openCap, by rw [Nat.add_mul], by rw [htot]⟩
                · rw [htot] at q; cases q
              | some tt' =>
                rw [htot] at hcap
                simp only at hcap
                obtain ⟨h1, h2, h3⟩ := hcap
                have r := aSlice_known (H := H) (x := ni.b) (off := w * e2.size) hkk htt hbl hbh hd h1 h2
                refine ⟨_, vl, vh, _, hv, hvl, hvh, r, VS.mkWin ?_⟩
                unfold WinR; rw [hn]
                by_cases hcl : cap = lowOf a
                · refine .inl ⟨rfl, by omega, .inr ⟨w * e2.size, tt', ?_, htot, ?_⟩⟩
                  · rw [if_pos hcl, show highOf n b - lowOf a = 0 by omega, show cap - lowOf a = 0 by omega]
                  · have : w * e2.size ≤ (w + cap) * e2.size := Nat.mul_le_mul_right _ (by omega)
                    omega
                · refine .inr ⟨cap - lowOf a, ?_, ?_⟩
                  · rw [if_neg hcl, hsz, Nat.add_mul]
                  · rw [htot]
                    simp only
                    refine ⟨by omega, by omega, ?_⟩
                    rw [show w + lowOf a + (cap - lowOf a) = w + cap by omega]; exact h3
      · cases e
    · cases e
  · rename_i e1 l a b et hx ha hb hk
    split at e
    · rename_i ti hti
      split at e
      · rename_i hsz
        cases e
        obtain ⟨v, hv, hvs⟩ := hρ _ _ hx
        obtain ⟨vl, hvl, hbl⟩ := bnd_sound hρ ha
        obtain ⟨vh, hvh, hbh⟩ := bnd_sound hρ hb
        have hkk := ht.kind hk
        have htt := ht _ _ hti
        obtain ⟨_, hle, hle2⟩ := bounds_of (P := P) (isS := true) hbl hbh hc (Nat.le_refl l.length)
        rcases hvs.sl with ⟨rfl, hvv⟩ | ⟨x, off, cap, cs', et', k, rfl, hz, hl, hrv, hcap⟩
        · obtain ⟨r1, r2⟩ := aSlice_nil (H := H) hkk htt hbl hbh hc
          have hnil : part ([] : List e1.D) a b = [] := by cases a <;> cases b <;> simp [part]
          rcases hvv with rfl | rfl
          · exact ⟨_, vl, vh, _, hv, hvl, hvh, r1, VS.mkSl (.inl ⟨hnil, .inl rfl⟩)⟩
          · exact ⟨_, vl, vh, _, hv, hvl, hvh, r2, VS.mkSl (.inl ⟨hnil, .inr rfl⟩)⟩
        · have hpl : (part l a b).length = highOf l.length b - lowOf a := by rw [part_eq _ _ _ hc, List.length_take, List.length_drop]; omega
          have hcells : RVL (fun x u => RV Z e1 x u) (part l a b) ((cs'.drop (off + lowOf a * e1.size)).take ((part l a b).length * e1.size)) := by
            have h1 := RVL.take (fun x u k => RV.len e1 x u k) (highOf l.length b - lowOf a) (RVL.drop (fun x u k => RV.len e1 x u k) (lowOf a) hrv)
            rw [List.drop_take, List.take_take, List.drop_drop, ← part_eq _ _ _ hc] at h1
            rw [hpl]
            rw [Nat.min_eq_left (by rw [← Nat.sub_mul]; exact Nat.mul_le_mul_right _ (by omega))] at h1
            exact h1
          have hin : off + lowOf a * e1.size + (part l a b).length * e1.size ≤ cs'.length := by
            rw [hpl, Nat.add_assoc, ← Nat.add_mul]
            have : (lowOf a + (highOf l.length b - lowOf a)) * e1.size ≤ l.length * e1.size := Nat.mul_le_mul_right _ (by omega)
            omega
          rcases hcap with ⟨rfl, rfl, hmod⟩ | ⟨h1, h2⟩
          · have r := aSlice_open hkk htt hbl hbh hc (by rw [hsz]; exact (hp.zh _ _ hz).1) (by rw [hsz]; exact hmod) (by rw [hsz]; exact hl)
            refine ⟨_, vl, vh, _, hv, hvl, hvh, r, VS.mkSl ?_⟩
            by_cases hcl : lowOf a = l.length
            · rw [if_pos hcl]
              refine .inl ⟨List.eq_nil_of_length_eq_zero (by omega), .inr rfl⟩
            · rw [if_neg hcl, ← hpl, hsz]
              exact .inr ⟨_, _, _, _, _, _, rfl, hz, hin, hcells, .inl ⟨rfl, rfl, by rw [Nat.add_mul_mod_self_right]; exact hmod⟩⟩
          · have r := aSlice_known (H := H) (x := x) (off := off) hkk htt hbl hbh hc h1 h2
            refine ⟨_, vl, vh, _, hv, hvl, hvh, r, VS.mkSl ?_⟩
            by_cases hcl : cap = lowOf a
            · rw [if_pos hcl, ← hpl]
              have hnil : part l a b = [] := List.eq_nil_of_length_eq_zero (by omega)
              refine .inr ⟨x, off, cap - lowOf a, cs', et', k, rfl, hz, ?_, ?_, .inr ⟨by rw [hnil]; simp, by omega⟩⟩
              · rw [hnil]; simp; omega
              · rw [hnil]; simp [RVL]
            · rw [if_neg hcl, ← hpl, hsz]
              exact .inr ⟨_, _, _, _, _, _, rfl, hz, hin, hcells, .inr ⟨by omega, by omega⟩⟩
      · cases e
    · cases e
  · rename_i l a b hx ha hb hk
    cases e
    obtain ⟨v, hv, hvs⟩ := hρ _ _ hx
    obtain ⟨vl, hvl, hbl⟩ := bnd_sound hρ ha
    obtain ⟨vh, hvh, hbh⟩ := bnd_sound hρ hb
    have hkk := ht.kind hk
    simp only [KOK] at hkk
    rw [hvs.str] at hv
    obtain ⟨h1, hle, hle2⟩ := bounds_of (P := P) (isS := false) hbl hbh hc (Nat.le_refl l.length)
    have hx' : (⟨l.toArray⟩ : ByteArray).extract (lowOf a) (highOf l.length b) = ⟨(part l a b).toArray⟩ := by
      rw [part_eq _ _ _ hc]
      apply ByteArray.ext; simp [List.extract_eq_take_drop]
    have : pureRun P (Instr.sliceAt t (bstr l) vl vh none) = some (bstr (part l a b)) := by
      have h2 : pureRun P (Instr.sliceBounds false (⟨l.toArray⟩ : ByteArray).size (⟨l.toArray⟩ : ByteArray).size vl vh none) = some (lowOf a, highOf l.length b, l.length) := h1
      simp only [Instr.sliceAt, Instr.slice, pureRun_bind, hkk, Option.bind_some, bstr, Option.isSome_none, Bool.false_eq_true, if_false, pureRun_pure, h2, hx']
    refine ⟨_, vl, vh, _, hv, hvl, hvh, ?_, VS.mkStr⟩
    simp only [aSlice, bstr]
    simp only [bstr] at this
    rw [this]
    simp [flat]
  · cases e
end
end Go.Px
namespace Go.Px
open Ax
mutual
/-- What a slot holds, once a block is gone. -/
def kill (i : Nat) : SV → SV
  | .win r e id lo n => if id = i then .dead else .win r e id lo n
  | .ptr id o => if id = i then .dead else .ptr id o
  | .elp e id k o => if id = i then .dead else .elp e id k o
  | .aep e id b k o => if id = i then .dead else .aep e id b k o
  | .agg l => .agg (killL i l)
  | .tup l => .tup (killL i l)
  | .fn f a c => if mentL i a || mentL i c then .dead else .fn f a c
  | s => s
def killL (i : Nat) : List SV → List SV
  | [] => []
  | s :: l => kill i s :: killL i l
end
def killB (i : Nat) : LB → LB
  | .var l => .var (killL i l)
  | b => b
def mapS {α β : Type} (f : α → β) : List (Nat × α) → List (Nat × β)
  | [] => []
  | (k, x) :: l => (k, f x) :: mapS f l
theorem lk_mapS {α β : Type} (f : α → β) (j : Nat) : ∀ l : List (Nat × α), lk (mapS f l) j = (lk l j).map f
  | [] => rfl
  | (k, x) :: l => by
    simp only [mapS, lk]
    split
    · rfl
    · exact lk_mapS f j l
def PS.kill (i : Nat) (S : PS) : PS := ⟨mapS (Px.kill i) (rm S.env i), mapS (killB i) (rm S.blk i)⟩
section
variable {P : Program} {tt : TT} {Z : Nat → Option ABlk} {ν : Nu} {S : PS} {E : T Value} {H : AHeap} {ρ : Operand → Option SV} {ρ' : Operand → Option Value}
theorem CR.dead {s : SV} {vs : List Value} (h : CR Z ν s vs) (hs : ∀ l, s ≠ .agg l) (ha : ∀ n e l, s ≠ .arr n e l) : CR Z ν .dead vs := by
  have hl := h.len
  have h1 : s.size = 1 := by
    cases s with
    | agg l => exact absurd rfl (hs l)
    | arr n e l => exact absurd rfl (ha n e l)
    | _ => rfl
  rw [h1] at hl
  match vs, hl with
  | [v], _ =>
    have hc := h.oneCells hs ha
    simp only [CR]
    refine ⟨v, rfl, hc, ?_⟩
    cases v with
    | agg cs =>
      simp only [Value.cells] at hc
      have h2 := congrArg Array.toList hc
      exfalso
      cases cs with
      | mk l =>
        have h3 : SizeOf.sizeOf l = SizeOf.sizeOf [Value.agg ⟨l⟩] := congrArg SizeOf.sizeOf h2
        simp at h3
        omega
    | tuple cs =>
      exfalso
      cases s with
      | agg l => exact absurd rfl (hs l)
      | arr n e l => exact absurd rfl (ha n e l)
      | tup l => simp only [CR] at h
      | sl e l =>
        simp only [CR, RV] at h
        obtain ⟨w, e1, h⟩ := h
        cases e1
        have := h.one
        simp [Value.oneCell'] at this
      | win r e id lo len =>
        simp only [CR, WinR] at h
        obtain ⟨w, e1, h⟩ := h
        cases e1
        split at h
        · obtain ⟨_, _, h | ⟨_, h⟩⟩ := h <;> simp [emptySlice] at h
        · rcases h with ⟨_, _, h | ⟨_, _, h, _⟩⟩ | ⟨_, h, _⟩ <;> simp [emptySlice] at h
      | nils => simp only [CR] at h; cases h
      | dead => simp only [CR] at h; obtain ⟨w, e1, _, h⟩ := h; cases e1; simp [Value.oneCell'] at h
      | int k n => simp only [CR] at h; cases h
      | bool b => simp only [CR] at h; cases h
      | str l => simp only [CR, bstr] at h; cases h
      | ptr id off => simp only [CR] at h; obtain ⟨_, _, h⟩ := h; cases h
      | elp e id i off => simp only [CR] at h; obtain ⟨_, _, h⟩ := h; cases h
      | aep e id b i off => simp only [CR] at h; obtain ⟨_, _, h⟩ := h; cases h
      | elv σ x => simp only [CR] at h; obtain ⟨_, _, _, _, _, h, _⟩ := h; cases h
      | fn f a c => simp only [CR] at h; obtain ⟨_, _, h, _⟩ := h; cases h
    | _ => rfl
mutual
theorem CR.kill {i : Nat} {x : Option NI} : ∀ (s : SV) (vs : List Value), CR Z ν s vs → CR Z (Upd ν i x) (Px.kill i s) vs
  | .nils, _, h => h
  | .dead, _, h => h
  | .int _ _, _, h => h
  | .bool _, _, h => h
  | .str _, _, h => h
  | .sl _ _, _, h => h
  | .arr _ _ _, _, h => h
  | .elv _ _, _, h => h
  | .win r e id lo n, vs, h => by
    simp only [Px.kill]
    split
    · exact (h.dead (by intros; simp) (by intros; simp) : CR Z ν .dead vs)
    · rename_i hn; exact CR.upd _ _ (by simp [ment, hn]) h
  | .ptr id o, vs, h => by
    simp only [Px.kill]
    split
    · exact (h.dead (by intros; simp) (by intros; simp) : CR Z ν .dead vs)
    · rename_i hn; exact CR.upd _ _ (by simp [ment, hn]) h
  | .elp e id k o, vs, h => by
    simp only [Px.kill]
    split
    · exact (h.dead (by intros; simp) (by intros; simp) : CR Z ν .dead vs)
    · rename_i hn; exact CR.upd _ _ (by simp [ment, hn]) h
  | .aep e id b k o, vs, h => by
    simp only [Px.kill]
    split
    · exact (h.dead (by intros; simp) (by intros; simp) : CR Z ν .dead vs)
    · rename_i hn; exact CR.upd _ _ (by simp [ment, hn]) h
  | .agg l, vs, h => by
    simp only [Px.kill, CR] at h ⊢
    exact CRL.kill l vs h
  | .tup l, vs, h => by simp only [CR] at h
  | .fn f a c, vs, h => by
    simp only [Px.kill]
    split
    · exact (h.dead (by intros; simp) (by intros; simp) : CR Z ν .dead vs)
    · rename_i hn; exact CR.upd _ _ (by simpa [ment] using hn) h
theorem CRL.kill {i : Nat} {x : Option NI} : ∀ (l : List SV) (vs : List Value), CRL Z ν l vs → CRL Z (Upd ν i x) (Px.killL i l) vs
  | [], _, h => h
  | s :: l, vs, h => by
    simp only [Px.killL, CRL] at h ⊢
    obtain ⟨u, w, e, h1, h2⟩ := h
    exact ⟨u, w, e, CR.kill s u h1, CRL.kill l w h2⟩
end
theorem V1.kill {i : Nat} {x : Option NI} {s : SV} {v : Value} (h : V1 Z ν s v) : V1 Z (Upd ν i x) (Px.kill i s) v := by
  cases s with
  | agg l => obtain ⟨vs, e, h⟩ := h; exact ⟨vs, e, CRL.kill l vs h⟩
  | arr n e l => exact h
  | tup l => have : CR Z ν (.tup l) [v] := h; simp only [CR] at this
  | win r e id lo n =>
    have := CR.kill (i := i) (x := x) _ _ (V1.one h (by intros; simp) (by intros; simp))
    simp only [Px.kill] at this ⊢
    split at this <;> rename_i hn
    · rw [if_pos hn]; exact this
    · rw [if_neg hn]; exact this
  | ptr id o =>
    have := CR.kill (i := i) (x := x) _ _ (V1.one h (by intros; simp) (by intros; simp))
    simp only [Px.kill] at this ⊢
    split at this <;> rename_i hn
    · rw [if_pos hn]; exact this
    · rw [if_neg hn]; exact this
  | elp e id k o =>
    have := CR.kill (i := i) (x := x) _ _ (V1.one h (by intros; simp) (by intros; simp))
    simp only [Px.kill] at this ⊢
    split at this <;> rename_i hn
    · rw [if_pos hn]; exact this
    · rw [if_neg hn]; exact this
  | aep e id b k o =>
    have := CR.kill (i := i) (x := x) _ _ (V1.one h (by intros; simp) (by intros; simp))
    simp only [Px.kill] at this ⊢
    split at this <;> rename_i hn
    · rw [if_pos hn]; exact this
    · rw [if_neg hn]; exact this
  | fn f a c =>
    have := CR.kill (i := i) (x := x) _ _ (V1.one h (by intros; simp) (by intros; simp))
    simp only [Px.kill] at this ⊢
    split at this <;> rename_i hn
    · rw [if_pos hn]; exact this
    · rw [if_neg hn]; exact this
  | _ => exact h
theorem V1L.kill {i : Nat} {x : Option NI} : ∀ {l : List SV} {vs : List Value}, V1L Z ν l vs → V1L Z (Upd ν i x) (Px.killL i l) vs
  | [], _, h => h
  | _ :: _, _, ⟨v, w, e, h1, h2⟩ => ⟨v, w, e, h1.kill, V1L.kill h2⟩
theorem VS.kill {i : Nat} {x : Option NI} {s : SV} {v : Value} (h : VS Z ν s v) : VS Z (Upd ν i x) (Px.kill i s) v := by
  cases s with
  | tup l => obtain ⟨vs, e, h⟩ := h; exact ⟨vs, e, h.kill⟩
  | _ => exact (V1.kill (VS.v1 h (by intros; simp))).vs
theorem BR.kill {i id : Nat} {x : Option NI} {lb : LB} (hid : id ≠ i) (h : BR Z ν H id lb) : BR Z (Upd ν i x) H id (killB i lb) := by
  cases lb with
  | var l =>
    obtain ⟨ni, cs, et, h1, h2, h3, h4⟩ := h
    exact ⟨ni, cs, et, by simp only [Upd, if_neg hid]; exact h1, h2, h3, CRL.kill l cs h4⟩
  | row et e xs =>
    simp only [BR, killB, Upd, if_neg hid] at h ⊢
    exact h
/-- The block i is gone, and so is what is known of it. -/
theorem PR.kill (hp : PR Z ν S E H) (i : Nat) (x : Option NI) : PR Z (Upd ν i x) (S.kill i) E H where
  env t s h := by
    simp only [PS.kill, lk_mapS, lk_rm] at h
    split at h
    · cases h
    · rw [Option.map_eq_some_iff] at h
      obtain ⟨s0, h0, rfl⟩ := h
      obtain ⟨v, hv, hs⟩ := hp.env t s0 h0
      exact ⟨v, hv, hs.kill⟩
  blk id lb h := by
    simp only [PS.kill, lk_mapS, lk_rm] at h
    split at h
    · cases h
    · rename_i hne
      rw [Option.map_eq_some_iff] at h
      obtain ⟨l0, h0, rfl⟩ := h
      exact (hp.blk id l0 h0).kill hne
  zh := hp.zh
  zo b h := by
    obtain ⟨id, lb, ni, h1, h2, h3⟩ := h
    simp only [PS.kill, lk_mapS, lk_rm] at h1
    split at h1
    · cases h1
    · rename_i hne
      rw [Option.map_eq_some_iff] at h1
      obtain ⟨l0, h0, rfl⟩ := h1
      simp only [Upd, if_neg hne] at h2
      exact hp.zo b ⟨id, l0, ni, h0, h2, h3⟩
  inj i1 j li lj ni nj h1 h2 h3 h4 h5 := by
    simp only [PS.kill, lk_mapS, lk_rm] at h1 h2
    split at h1
    · cases h1
    · rename_i hi
      split at h2
      · cases h2
      · rename_i hj
        rw [Option.map_eq_some_iff] at h1 h2
        obtain ⟨a, ha, _⟩ := h1
        obtain ⟨c, hc, _⟩ := h2
        simp only [Upd, if_neg hi, if_neg hj] at h3 h4
        exact hp.inj _ _ _ _ _ _ ha hc h3 h4 h5
theorem own_kill {i : Nat} {x : Option NI} {b : Nat} (h : Own (Upd ν i x) (S.kill i) b) : Own ν S b ∧ ∀ lb ni, lk S.blk i = some lb → ν i = some ni → True := by
  obtain ⟨id, lb, ni, h1, h2, h3⟩ := h
  simp only [PS.kill, lk_mapS, lk_rm] at h1
  split at h1
  · cases h1
  · rename_i hne
    rw [Option.map_eq_some_iff] at h1
    obtain ⟨l0, h0, rfl⟩ := h1
    simp only [Upd, if_neg hne] at h2
    exact ⟨⟨id, l0, ni, h0, h2, h3⟩, fun _ _ _ _ => trivial⟩
theorem BR.heap {H' : AHeap} {id : Nat} {lb : LB} (h : BR Z ν H id lb) (hk : ∀ ni, ν id = some ni → H'.t.get ni.b = H.t.get ni.b) : BR Z ν H' id lb := by
  cases lb with
  | var l =>
    obtain ⟨ni, cs, et, h1, h2, h3, h4⟩ := h
    exact ⟨ni, cs, et, h1, h2, by rw [hk _ h1]; exact h3, h4⟩
  | row et e xs =>
    obtain ⟨h0, h⟩ := h
    refine ⟨h0, ?_⟩
    rcases h with h | ⟨ni, cs, tl, k, h1, h2, h3⟩
    · exact .inl h
    · exact .inr ⟨ni, cs, tl, k, h1, by rw [hk _ h1]; exact h2, h3⟩
/-- What a block lies in. -/
theorem BR.at {id : Nat} {lb : LB} (h : BR Z ν H id lb) {ni : NI} (hn : ν id = some ni) : ∃ vs et k, H.t.get ni.b = some (.cells vs et k) := by
  cases lb with
  | var l =>
    obtain ⟨ni', cs, et, h1, h2, h3, h4⟩ := h
    rw [hn] at h1; cases h1; exact ⟨_, _, _, h3⟩
  | row et e xs =>
    obtain ⟨h0, h⟩ := h
    rcases h with ⟨h, _⟩ | ⟨ni', cs, tl, k, h1, h2, h3⟩
    · rw [hn] at h; cases h
    · rw [hn] at h1; cases h1; exact ⟨_, _, _, h2⟩
/-- A slot is set. -/
theorem PR.put (hp : PR Z ν S E H) {d : Nat} {s : SV} {v : Value} {E' : T Value} {n : Nat} (hd : putE n (some d) v E = some E') (h : VS Z ν s v) : PR Z ν ⟨st S.env d s, S.blk⟩ E' H where
  env t s' e := by
    simp only [putE] at hd
    split at hd
    · rename_i hc
      cases hd
      simp only [lk_st] at e
      split at e
      · rename_i ht; cases e; subst ht
        exact ⟨v, T.get_set_same 20 _ _ _ (Nat.lt_trans (Nat.succ_lt_succ hc.2) (by decide)), h⟩
      · rename_i ht
        obtain ⟨v', hv, hs⟩ := hp.env t s' e
        exact ⟨v', by rw [T.get_set_other _ _ _ _ _ ht]; exact hv, hs⟩
    · cases hd
  blk := hp.blk
  zh := hp.zh
  zo := hp.zo
  inj := hp.inj
/-- A slot of which nothing is known any more. -/
theorem PR.lose (hp : PR Z ν S E H) {d : Nat} {v : Value} {E' : T Value} {n : Nat} (hd : putE n (some d) v E = some E') : PR Z ν ⟨rm S.env d, S.blk⟩ E' H where
  env t s' e := by
    simp only [putE] at hd
    split at hd
    · cases hd
      simp only [lk_rm] at e
      split at e
      · cases e
      · rename_i ht
        obtain ⟨v', hv, hs⟩ := hp.env t s' e
        exact ⟨v', by rw [T.get_set_other _ _ _ _ _ ht]; exact hv, hs⟩
    · cases hd
  blk := hp.blk
  zh := hp.zh
  zo := hp.zo
  inj := hp.inj
/-- A new block. -/
theorem PR.add (hp : PR Z ν S E H) (hdom : ∀ i x, H.t.get i = some x → i < H.next) {d : Nat} {ni : NI} {x : ABlk} {lb : LB} (hb : ni.b = H.next) (hl : BR Z (Upd ν d (some ni)) (H.add x) d lb) : PR Z (Upd ν d (some ni)) ⟨(S.kill d).env, st (S.kill d).blk d lb⟩ E (H.add x) where
  env := (hp.kill d (some ni)).env
  blk id l h := by
    simp only [lk_st] at h
    split at h
    · rename_i hd; cases h; subst hd; exact hl
    · rename_i hd
      have := (hp.kill d (some ni)).blk id l h
      refine this.heap fun ni' hn' => ?_
      obtain ⟨vs, et, k, hg⟩ := this.at hn'
      exact AHeap.get_add_other (by have := hdom _ _ hg; omega)
  zh b y h := by
    obtain ⟨h1, h2⟩ := hp.zh b y h
    exact ⟨by rw [AHeap.get_add_other (by have := hdom _ _ h1; omega)]; exact h1, h2⟩
  zo b h := by
    obtain ⟨id, l, ni', h1, h2, h3⟩ := h
    simp only [lk_st] at h1
    split at h1
    · rename_i hd
      subst hd
      simp only [Upd, if_true, Option.some.injEq] at h2
      subst h2
      cases hz : Z b with
      | none => rfl
      | some y => have := hdom _ _ (hp.zh b y hz).1; omega
    · exact (hp.kill d (some ni)).zo b ⟨id, l, ni', h1, h2, h3⟩
  inj i j li lj n1 n2 h1 h2 h3 h4 h5 := by
    simp only [lk_st] at h1 h2
    have hk := hp.kill d (some ni)
    have old : ∀ i li n1, lk (S.kill d).blk i = some li → Upd ν d (some ni) i = some n1 → n1.b ≠ H.next := by
      intro i li n1 g1 g2 e
      obtain ⟨vs, et, k, hg⟩ := (hk.blk i li g1).at g2
      have := hdom _ _ hg
      omega
    by_cases hi : i = d <;> by_cases hj : j = d
    · rw [hi, hj]
    · rw [if_neg hj] at h2
      subst hi
      simp only [Upd, if_true, Option.some.injEq] at h3
      subst h3
      exact absurd (h5.symm.trans hb) (old j lj n2 h2 h4)
    · rw [if_neg hi] at h1
      subst hj
      simp only [Upd, if_true, Option.some.injEq] at h4
      subst h4
      exact absurd (h5.trans hb) (old i li n1 h1 h3)
    · rw [if_neg hi] at h1
      rw [if_neg hj] at h2
      exact hk.inj _ _ _ _ _ _ h1 h2 h3 h4 h5
theorem FC.add {d : Nat} {ni : NI} {x : ABlk} {lb : LB} (hb : ni.b = H.next) : FC Z ν S H Z (Upd ν d (some ni)) ⟨(S.kill d).env, st (S.kill d).blk d lb⟩ (H.add x) where
  z := ZLe.refl _
  zn _ h := .inl h
  le := by simp [AHeap.add]
  old b y h hlt _ := by rw [AHeap.get_add_other (by omega)]; exact h
  own b h := by
    obtain ⟨id, l, ni', h1, h2, h3⟩ := h
    simp only [lk_st] at h1
    split at h1
    · rename_i hd
      subst hd
      simp only [Upd, if_true, Option.some.injEq] at h2
      subst h2
      exact .inr (by omega)
    · exact .inl (own_kill ⟨id, l, ni', h1, h2, h3⟩).1
/-- A block is changed. -/
theorem PR.turn (hp : PR Z ν S E H) {d : Nat} {ni : NI} {x : ABlk} {l0 lb : LB} (hl0 : lk S.blk d = some l0) (hn : ν d = some ni) (hl : BR Z ν (H.put ni.b x) d lb) : PR Z ν ⟨S.env, st S.blk d lb⟩ E (H.put ni.b x) where
  env := hp.env
  blk id l h := by
    simp only [lk_st] at h
    split at h
    · rename_i hd; cases h; subst hd; exact hl
    · rename_i hd
      have := hp.blk id l h
      refine this.heap fun ni' hn' => ?_
      exact AHeap.get_put_other fun e => hd (hp.inj _ _ _ _ _ _ h hl0 hn' hn e)
  zh b y h := by
    obtain ⟨h1, h2⟩ := hp.zh b y h
    refine ⟨?_, h2⟩
    rw [AHeap.get_put_other]
    · exact h1
    · rintro rfl
      rw [hp.zo ni.b ⟨d, l0, ni, hl0, hn, rfl⟩] at h; cases h
  zo b h := by
    obtain ⟨id, l, ni', h1, h2, h3⟩ := h
    simp only [lk_st] at h1
    split at h1
    · rename_i hd; subst hd; exact hp.zo b ⟨id, l0, ni', hl0, h2, h3⟩
    · exact hp.zo b ⟨id, l, ni', h1, h2, h3⟩
  inj i j li lj n1 n2 h1 h2 h3 h4 h5 := by
    simp only [lk_st] at h1 h2
    have g : ∀ i li, (if i = d then some lb else lk S.blk i) = some li → ∃ l', lk S.blk i = some l' := by
      intro i li h
      split at h
      · rename_i e; subst e; exact ⟨_, hl0⟩
      · exact ⟨_, h⟩
    obtain ⟨a, ha⟩ := g _ _ h1
    obtain ⟨c, hc⟩ := g _ _ h2
    exact hp.inj _ _ _ _ _ _ ha hc h3 h4 h5
theorem FC.turn {d : Nat} {ni : NI} {x : ABlk} {l0 lb : LB} (hl0 : lk S.blk d = some l0) (hn : ν d = some ni) : FC Z ν S H Z ν ⟨S.env, st S.blk d lb⟩ (H.put ni.b x) where
  z := ZLe.refl _
  zn _ h := .inl h
  le := by simp [AHeap.put]
  old b y h _ ho := by
    rw [AHeap.get_put_other]
    · exact h
    · rintro rfl; exact ho ⟨d, l0, ni, hl0, hn, rfl⟩
  own b h := by
    obtain ⟨id, l, ni', h1, h2, h3⟩ := h
    simp only [lk_st] at h1
    split at h1
    · rename_i hd; subst hd; exact .inl ⟨id, l0, ni', hl0, h2, h3⟩
    · exact .inl ⟨id, l, ni', h1, h2, h3⟩
theorem FC.env {e : List (Nat × SV)} {Z' : Nat → Option ABlk} {ν' : Nu} {S' : PS} {H' : AHeap} (h : FC Z ν S H Z' ν' S' H') : FC Z ν S H Z' ν' ⟨e, S'.blk⟩ H' := ⟨h.z, h.zn, h.le, h.old, fun b ⟨id, lb, ni, h1, h2, h3⟩ => h.own b ⟨id, lb, ni, h1, h2, h3⟩⟩
end
end Go.Px
namespace Go.Px
open Ax
section
variable {P : Program} {tt : TT} {Z : Nat → Option ABlk} {ν : Nu} {S : PS} {E : T Value} {H : AHeap} {ρ : Operand → Option SV} {ρ' : Operand → Option Value} {F : FuncId → Bool}
theorem flatL_cells {z : Value} (h : Ax.flat z = true) : flatL z.cells.toList = true := by
  cases z with
  | agg cs =>
    cases cs
    simpa only [Value.cells, Ax.flat, flatA] using h
  | _ => simp only [Value.cells, flatL, Bool.and_true]; exact h
/-- The cells of a window. -/
theorem win_cells {e : Sh} {xs : List e.D} {cs tl : List Value} {lo n : Nat} (h : RVL (fun x u => RV Z e x u) xs cs) (hin : lo + n ≤ xs.length) : RVL (fun x u => RV Z e x u) (winL e lo n xs) (((cs ++ tl).drop (lo * e.size)).take (n * e.size)) ∧ lo * e.size + n * e.size ≤ (cs ++ tl).length ∧ (winL e lo n xs).length = n := by
  have hl := h.len (fun x u k => RV.len e x u k)
  have h1 : lo * e.size + n * e.size ≤ xs.length * e.size := by rw [← Nat.add_mul]; exact Nat.mul_le_mul_right _ hin
  rw [sub_take rfl hl h1]
  exact ⟨RVL.take (fun x u k => RV.len e x u k) n (RVL.drop (fun x u k => RV.len e x u k) lo h), by rw [List.length_append]; omega, by simp [winL]; omega⟩
theorem pR_sound (ht : TTOK P tt) (hp : PR Z ν S E H) (hρ : ∀ x s, ρ x = some s → ∃ v, ρ' x = some v ∧ VS Z ν s v) {o : Oper} {cs : List Prop} {s : SV} (h : pR tt ρ S.blk o = some (cs, s)) (hc : ∀ c ∈ cs, c) :
    ∃ v, aOp P F ρ' H o = some (.val v, H) ∧ VS Z ν s v := by
  obtain ⟨dst, op, type, pos, after, guard⟩ := o
  cases op with
  | load t p =>
    have h' := h
    simp only [pR] at h'
    cases hx : ρ p with
    | none => rw [hx] at h'; simp at h'
    | some a =>
      obtain ⟨v, hv, hvs⟩ := hρ _ _ hx
      obtain ⟨y, hy, hys⟩ := load_sound ht hp (o := ⟨dst, .load t p, type, pos, after, guard⟩) rfl hx hvs h hc
      exact ⟨y, by simp [aOp, hv, hy], hys⟩
  | slice t x lo hi mx =>
    cases mx with
    | some m => simp only [pR] at h; cases h
    | none =>
      obtain ⟨v, vl, vh, y, h1, h2, h3, h4, h5⟩ := slice_sound ht hp hρ (o := ⟨dst, .slice t x lo hi none, type, pos, after, guard⟩) rfl h hc
      have h6 : aOpt ρ' none = some none := rfl
      exact ⟨y, by simp [aOp, h1, h2, h3, h6, h4], h5⟩
  | convert t d x =>
    simp only [pR] at h
    split at h
    · rename_i et hk hd
      have hi : intSrc P t = false := by
        have := ht.kind hk
        simp only [KOK] at this
        simp [intSrc, this]
      split at h
      · rename_i r id lo n he hx
        split at h
        · rename_i et' xs hl
          cases h
          have hin : lo + n ≤ xs.length := hc _ (by simp)
          obtain ⟨v, hv, hvs⟩ := hρ _ _ hx
          have hw := hvs.win
          obtain ⟨_, hbr⟩ := hp.blk _ _ hl
          have tn := toText_nil (H := H) (ht.kind hk) (ht.kind hd) (ht.kind he)
          unfold WinR at hw
          split at hw
          · rename_i hn
            obtain ⟨rfl, rfl, hvv⟩ := hw
            have e0 : winL (.int .u8) 0 0 xs = [] := by simp [winL]
            rw [e0]
            rcases hvv with rfl | ⟨_, rfl⟩
            · exact ⟨_, by simp [aOp, hv, hi, tn.1], VS.mkStr⟩
            · exact ⟨_, by simp [aOp, hv, hi, tn.2], VS.mkStr⟩
          · rename_i ni hn
            rcases hbr with ⟨hn', _⟩ | ⟨ni', cs', tl, k, hn', hb, hrv, hkk⟩
            · rw [hn] at hn'; cases hn'
            · rw [hn] at hn'; cases hn'
              obtain ⟨q1, q2, q3⟩ := win_cells (tl := tl) hrv hin
              simp only [Sh.size, Nat.mul_one] at q1 q2
              rcases hw with ⟨_, rfl, rfl | ⟨o2, t2, rfl, ht2, ho2⟩⟩ | ⟨cap, rfl, hcap⟩
              · have e0 : winL (.int .u8) lo 0 xs = [] := by simp [winL]
                rw [e0]
                exact ⟨_, by simp [aOp, hv, hi, tn.2], VS.mkStr⟩
              · have e0 : winL (.int .u8) lo 0 xs = [] := by simp [winL]
                rw [e0]
                rcases hkk with ⟨q, _⟩ | ⟨q, _⟩
                · rw [ht2] at q; cases q
                · rw [ht2] at q; cases q
                  have := toText_of (c := 0) (l := []) (off := o2) (ht.kind hk) (ht.kind hd) (ht.kind he) hb (by simpa using ho2) (by simp)
                  simp only [List.length_nil] at this
                  exact ⟨_, by simp [aOp, hv, hi, this], VS.mkStr⟩
              · have := toText_of (c := cap) (l := winL (.int .u8) lo n xs) (off := lo) (ht.kind hk) (ht.kind hd) (ht.kind he) hb (by rw [q3]; exact q2) (by rw [q3]; exact q1.ints)
                rw [q3] at this
                refine ⟨bstr ((winL (.int .u8) lo n xs).map toB), ?_, VS.mkStr⟩
                simp only [Sh.size, Nat.mul_one] at hv
                simp [aOp, hv, hi, this]
        · cases h
      · rename_i l he hx
        cases h
        obtain ⟨v, hv, hvs⟩ := hρ _ _ hx
        rcases hvs.sl with ⟨rfl, rfl | rfl⟩ | ⟨b, off, cap, cs', et', k, rfl, hz, hln, hrv, _⟩
        · exact ⟨_, by simp [aOp, hv, hi, (toText_nil (H := H) (ht.kind hk) (ht.kind hd) (ht.kind he)).1], VS.mkStr⟩
        · exact ⟨_, by simp [aOp, hv, hi, (toText_nil (H := H) (ht.kind hk) (ht.kind hd) (ht.kind he)).2], VS.mkStr⟩
        · simp only [Sh.size, Nat.mul_one] at hln hrv
          have := toText_of (c := cap) (ht.kind hk) (ht.kind hd) (ht.kind he) (hp.zh _ _ hz).1 hln hrv.ints
          exact ⟨_, by simp [aOp, hv, hi, this], VS.mkStr⟩
      · rename_i he hx
        cases h
        obtain ⟨v, hv, hvs⟩ := hρ _ _ hx
        rw [hvs.nils] at hv
        exact ⟨_, by simp [aOp, hv, hi, (toText_nil (H := H) (ht.kind hk) (ht.kind hd) (ht.kind he)).1], VS.mkStr⟩
      · cases h
    · cases h
  | _ => simp only [pR] at h; cases h
theorem RVL.rep {e : Sh} {x : e.D} {u : List Value} (h : RV Z e x u) : ∀ n : Nat, RVL (fun x u => RV Z e x u) (List.replicate n x) (List.replicate n u).flatten
  | 0 => rfl
  | n + 1 => ⟨u, _, rfl, h, RVL.rep h n⟩
theorem zeros_eq (z : Array Value) : ∀ n : Nat, (List.range (n * z.size)).map (fun i => z[i % z.size]!) = (List.replicate n z.toList).flatten
  | 0 => by simp
  | n + 1 => by
    rw [Nat.succ_mul, Nat.add_comm, List.range_add, List.map_append, List.replicate_succ, List.flatten_cons, List.map_map]
    congr 1
    · apply List.ext_getElem
      · simp
      · intro i h1 h2
        simp at h1
        simp [Nat.mod_eq_of_lt h1, getElem!_pos z i h1]
    · rw [← zeros_eq z n]
      apply List.map_congr_left
      intro i _
      simp
theorem RVL.zeros {t : TypeId} {ti : TI} (ht : TOK P t ti) (hs : ti.sh.size = ti.size) (n : Nat) {z : Value} (hz : pureRun P (zeroValue t) = some z) :
    RVL (fun x u => RV Z ti.sh x u) (List.replicate n ti.sh.dflt) ((Array.range (n * ti.size)).map (z.cells[· % z.cells.size]!)).toList := by
  obtain ⟨z', h1, _, _, h2, h3⟩ := ht.zero
  rw [hz] at h1; cases h1
  have := zeros_eq z.cells n
  rw [Array.toList_map, Array.toList_range, ← h2, this]
  exact RVL.rep (h3 hs Z) n
theorem VS.kill_items {d : Nat} {x : Option NI} {s : SV} {v : Value} (h : VS Z ν s v) (hs : ∀ l, s ≠ .tup l) : CRL Z (Upd ν d x) (killL d (items s)) v.cells.toList := CRL.kill _ _ (h.v1 hs).items
theorem upd_at {d : Nat} {x : Option NI} : Upd ν d x d = x := by simp [Upd]
/-- A new block. -/
theorem pF_sound (ht : TTOK P tt) (hρ : ∀ x s, ρ x = some s → ∃ v, ρ' x = some v ∧ VS Z ν s v) {d : Nat} {o : Oper} {cs : List Prop} {s : SV} {lb : LB} (h : pF tt ρ d o = some (cs, (s, lb))) (hc : ∀ c ∈ cs, c) :
    ∃ v x ni, aOp P F ρ' H o = some (.val v, H.add x) ∧ ni.b = H.next ∧ VS Z (Upd ν d (some ni)) s v ∧ BR Z (Upd ν d (some ni)) (H.add x) d (killB d lb) := by
  obtain ⟨dst, op, type, pos, after, guard⟩ := o
  cases op with
  | alloc t =>
    simp only [pF] at h
    split at h
    · rename_i ti hti
      cases h
      obtain ⟨z, hz, hf, hcr, hsz, _⟩ := (ht _ _ hti).zero
      refine ⟨.pointer (some ⟨H.next, 0, none⟩), .cells z.cells.toList t 0, ⟨H.next, some z.cells.toList.length⟩, ?_, rfl, VS.of_one ?_ rfl, ?_⟩
      · simp [aOp, aAlloc, hz, hf, aNew]
      · simp only [CR]; exact ⟨_, upd_at, rfl⟩
      · exact ⟨_, z.cells.toList, t, upd_at, rfl, AHeap.get_add (Nat.zero_le _), CRL.kill _ _ (hcr Z ν)⟩
    · cases h
  | box t x =>
    simp only [pF] at h
    split at h
    · cases h
    · rename_i s0 hnt hx
      cases h
      obtain ⟨v, hv, hvs⟩ := hρ _ _ hx
      refine ⟨.pointer (some ⟨H.next, 0, none⟩), .cells v.cells.toList t 0, ⟨H.next, some v.cells.toList.length⟩, ?_, rfl, VS.of_one ?_ rfl, ?_⟩
      · simp [aOp, hv, aNew]
      · simp only [CR]; exact ⟨_, upd_at, rfl⟩
      · exact ⟨_, v.cells.toList, t, upd_at, rfl, AHeap.get_add (Nat.zero_le _), hvs.kill_items fun l e => hnt l e⟩
    · cases h
  | buildSlice t n parts =>
    simp only [pF] at h
    split at h
    · rename_i ps et hps hk
      split at h
      · rename_i ti hti
        split at h
        · rename_i hcond
          obtain ⟨hsz, hpos, hmax, hnt⟩ := hcond
          split at h
          · rename_i xs hxs
            cases h
            obtain ⟨vs, hvs, hpv⟩ := pparts_sound hρ hps
            have hkk := ht.kind hk
            simp only [KOK] at hkk
            obtain ⟨z, hz, hf, hcr, hzs, _⟩ := (ht _ _ hti).zero
            have hzer := RVL.zeros (Z := Z) (ht _ _ hti) hsz n hz
            obtain ⟨out, ho, hout, hlen⟩ := setElems_sound hxs (noTup_of hnt) hpv hzer
            rw [hsz] at ho
            have hfl : flatL z.cells.toList = true := flatL_cells hf
            have hxl : xs.length = n := by rw [hlen, List.length_replicate]
            have hol := hout.len (fun x u k => RV.len ti.sh x u k)
            have hn0 : n < 2 ^ 25 := by
              have : n * 1 ≤ n * ti.size := Nat.mul_le_mul_left _ hpos
              omega
            refine ⟨.slice (some ⟨H.next, 0, none⟩) n n, .cells out.toList et 0, ⟨H.next, some out.toList.length⟩, ?_, rfl, VS.mkWin ?_, ?_⟩
            · have e1 : (n * ti.size = 0 ∨ 0 < z.cells.size) := .inr (by omega)
              have e2 : ¬ n = openCap := by unfold openCap; omega
              simp only [aOp, hvs, Option.bind_some, aBuildSlice, hkk, (ht _ _ hti).size, hz]
              rw [if_pos ⟨by omega, hfl, e1⟩]
              simp only [ho, aNewSlice]
              rw [if_pos ⟨Nat.zero_le _, e2⟩]
              rfl
            · unfold WinR; rw [upd_at]
              refine .inr ⟨n, by simp, ?_⟩
              exact ⟨Nat.le_refl _, by omega, by rw [hol, hxl]; simp⟩
            · refine ⟨by omega, .inr ⟨_, out.toList, [], 0, upd_at, by rw [List.append_nil]; exact AHeap.get_add (Nat.zero_le _), hout, .inr ⟨by simp, rfl⟩⟩⟩
          · cases h
        · cases h
      · cases h
    · cases h
  | makeSlice t l c =>
    simp only [pF] at h
    split at h
    · rename_i kl n kc m et hl hm hk
      split at h
      · rename_i ti hti
        split at h
        · rename_i hcond
          obtain ⟨hsz, hpos⟩ := hcond
          cases h
          have c0 := hc (0 ≤ n) (by simp)
          have c1 := hc (n ≤ m) (by simp)
          have c2 := hc (m < 2 ^ 24) (by simp)
          have c3 := hc ((ti.bytes : Int) * m ≤ 2 ^ 48) (by simp)
          obtain ⟨vl, hvl, hls⟩ := hρ _ _ hl
          obtain ⟨vm, hvm, hms⟩ := hρ _ _ hm
          rw [hls.int] at hvl
          rw [hms.int] at hvm
          have hkk := ht.kind hk
          simp only [KOK] at hkk
          obtain ⟨z, hz, hf, hcr, hzs, _⟩ := (ht _ _ hti).zero
          obtain ⟨inf, hi, hib, his⟩ := (ht _ _ hti).bytes
          have hzer := RVL.zeros (Z := Z) (ht _ _ hti) hsz m.toNat hz
          have hfl : flatL z.cells.toList = true := flatL_cells hf
          generalize hcells : ((Array.range (m.toNat * ti.size)).map (z.cells[· % z.cells.size]!)) = cells at hzer
          have hzl := hzer.len (fun x u k => RV.len ti.sh x u k)
          rw [List.length_replicate] at hzl
          have htk := RVL.take (fun x u k => RV.len ti.sh x u k) n.toNat hzer
          rw [List.take_replicate, Nat.min_eq_left (by omega)] at htk
          refine ⟨.slice (some ⟨H.next, 0, none⟩) n.toNat m.toNat, .cells cells.toList et 0, ⟨H.next, some cells.toList.length⟩, ?_, rfl, VS.mkWin ?_, ?_⟩
          · have e2 : ¬ m.toNat = openCap := by unfold openCap; omega
            simp only [aOp, hvl, hvm, Option.bind_some, aMakeSlice, hkk, hi, (ht _ _ hti).size, hz]
            rw [if_pos ⟨c0, c1, c2, by rw [hib]; exact c3, hfl, by omega⟩]
            simp only [hcells, aNewSlice]
            rw [if_pos ⟨Nat.zero_le _, e2⟩]
            rfl
          · unfold WinR; rw [upd_at]
            refine .inr ⟨m.toNat, by simp, ?_⟩
            refine ⟨by omega, by omega, ?_⟩
            rw [hzl, Nat.zero_add]
            exact Nat.le_refl _
          · refine ⟨by omega, .inr ⟨_, cells.toList.take (n.toNat * ti.sh.size), cells.toList.drop (n.toNat * ti.sh.size), 0, upd_at, by rw [List.take_append_drop]; exact AHeap.get_add (Nat.zero_le _), htk, .inr ⟨by rw [List.take_append_drop], rfl⟩⟩⟩
        · cases h
      · cases h
    · cases h
  | convert t u x =>
    simp only [pF] at h
    split at h
    · rename_i et l hk hd hx
      split at h
      · rename_i he
        cases h
        have c0 := hc _ (by simp : (l.length < 2 ^ 40) ∈ _)
        obtain ⟨v, hv, hvs⟩ := hρ _ _ hx
        rw [hvs.str] at hv
        have h1 := ht.kind hk
        have h2 := ht.kind hd
        have h3 := ht.kind he
        simp only [KOK] at h1 h2 h3
        have hi : intSrc P t = false := by simp [intSrc, h1]
        have hmap : (l.map fun b => Value.int .u8 b.toNat) = (l.map ofB).map (Value.int .u8) := by simp [ofB]
        have hrv : ∀ l : List Int, RVL (fun (x : (Sh.int .u8).D) u => RV Z (.int .u8) x u) l (l.map (Value.int .u8)) := by
          intro l
          induction l with
          | nil => rfl
          | cons a l ih => exact ⟨[.int .u8 a], _, rfl, by simp only [RV], ih⟩
        refine ⟨.slice (some ⟨H.next, 0, none⟩) l.length openCap, .cells ((l.map ofB).map (Value.int .u8)) et 11, ⟨H.next, none⟩, ?_, rfl, VS.mkWin ?_, ?_⟩
        · simp only [aOp, hv, Option.bind_some, hi, bstr, aConvert, h1, h2, h3]
          rw [if_neg (by simp), if_pos ⟨Nat.zero_le _, by rw [size_bstr]; exact c0⟩]
          simp only [Option.map_some, size_bstr, hmap]
        · unfold WinR; rw [upd_at]
          exact .inr ⟨openCap, by simp, rfl⟩
        · exact ⟨by simp [Sh.size], .inr ⟨_, (l.map ofB).map (Value.int .u8), [], 11, upd_at, by rw [List.append_nil]; exact AHeap.get_add (Nat.zero_le _), hrv _, .inl ⟨rfl, by simp [Sh.size]⟩⟩⟩
      · cases h
    · cases h
  | _ => simp only [pF] at h; cases h
end
end Go.Px
namespace Go.Px
open Ax
section
variable {P : Program} {tt : TT} {Z : Nat → Option ABlk} {ν : Nu} {S : PS} {E : T Value} {H H' : AHeap} {ρ : Operand → Option SV} {ρ' : Operand → Option Value} {F : FuncId → Bool}
theorem PR.new (hp : PR Z ν S E H) {d : Nat} {x : Option NI} {lb : LB} (hH : ∀ b, Own ν S b → H'.t.get b = H.t.get b) (hZ : ∀ b y, Z b = some y → H'.t.get b = H.t.get b)
    (hx : ∀ ni, x = some ni → ¬ Own ν S ni.b ∧ Z ni.b = none) (hl : BR Z (Upd ν d x) H' d lb) : PR Z (Upd ν d x) ⟨(S.kill d).env, st (S.kill d).blk d lb⟩ E H' where
  env := (hp.kill d x).env
  blk id l h := by
    simp only [lk_st] at h
    split at h
    · rename_i hd; cases h; subst hd; exact hl
    · rename_i hd
      have := (hp.kill d x).blk id l h
      refine this.heap fun ni' hn' => ?_
      exact hH _ (own_kill ⟨id, l, ni', h, hn', rfl⟩).1
  zh b y h := by
    obtain ⟨h1, h2⟩ := hp.zh b y h
    exact ⟨by rw [hZ b y h]; exact h1, h2⟩
  zo b h := by
    obtain ⟨id, l, ni', h1, h2, h3⟩ := h
    simp only [lk_st] at h1
    split at h1
    · rename_i hd
      subst hd
      rw [upd_at] at h2
      subst h3
      exact (hx _ h2).2
    · exact (hp.kill d x).zo b ⟨id, l, ni', h1, h2, h3⟩
  inj i j li lj n1 n2 h1 h2 h3 h4 h5 := by
    simp only [lk_st] at h1 h2
    have hk := hp.kill d x
    by_cases hi : i = d <;> by_cases hj : j = d
    · rw [hi, hj]
    · rw [if_neg hj] at h2
      subst hi
      rw [upd_at] at h3
      exact absurd (own_kill ⟨j, lj, n2, h2, h4, h5.symm⟩).1 (hx _ h3).1
    · rw [if_neg hi] at h1
      subst hj
      rw [upd_at] at h4
      exact absurd (own_kill ⟨i, li, n1, h1, h3, h5⟩).1 (hx _ h4).1
    · rw [if_neg hi] at h1
      rw [if_neg hj] at h2
      exact hk.inj _ _ _ _ _ _ h1 h2 h3 h4 h5
theorem own_new {d : Nat} {x : Option NI} {lb : LB} {b : Nat} (h : Own (Upd ν d x) ⟨(S.kill d).env, st (S.kill d).blk d lb⟩ b) : Own ν S b ∨ ∃ ni, x = some ni ∧ ni.b = b := by
  obtain ⟨id, l, ni', h1, h2, h3⟩ := h
  simp only [lk_st] at h1
  split at h1
  · rename_i hd
    subst hd
    rw [upd_at] at h2
    exact .inr ⟨ni', h2, h3⟩
  · exact .inl (own_kill ⟨id, l, ni', h1, h2, h3⟩).1
theorem own_gone (hp : PR Z ν S E H) {id : Nat} {x : Option NI} {lb : LB} {ni : NI} (hl : lk S.blk id = some lb) (hn : ν id = some ni) : ¬ Own (Upd ν id x) (S.kill id) ni.b := by
  rintro ⟨j, l, nj, h1, h2, h3⟩
  simp only [PS.kill, lk_mapS, lk_rm] at h1
  split at h1
  · cases h1
  · rename_i hne
    rw [Option.map_eq_some_iff] at h1
    obtain ⟨l0, h0, rfl⟩ := h1
    simp only [Upd, if_neg hne] at h2
    exact hne (hp.inj _ _ _ _ _ _ h0 hl h2 hn h3)
mutual
theorem CR.allOne : ∀ (s : SV) (vs : List Value), CR Z ν s vs → ∀ v ∈ vs, v.oneCell' = true
  | .agg l, vs, h, v, hv => by simp only [CR] at h; exact CRL.allOne l vs h v hv
  | .arr n e l, vs, h, v, hv => RV.one (.arr n e) l vs h v hv
  | .tup l, vs, h, v, hv => by simp only [CR] at h
  | .nils, vs, h, v, hv => by
    have := h.dead (by intros; simp) (by intros; simp)
    simp only [CR] at this; obtain ⟨w, rfl, _, h1⟩ := this; simp at hv; subst hv; exact h1
  | .dead, vs, h, v, hv => by
    have := h.dead (by intros; simp) (by intros; simp)
    simp only [CR] at this; obtain ⟨w, rfl, _, h1⟩ := this; simp at hv; subst hv; exact h1
  | .int _ _, vs, h, v, hv => by
    have := h.dead (by intros; simp) (by intros; simp)
    simp only [CR] at this; obtain ⟨w, rfl, _, h1⟩ := this; simp at hv; subst hv; exact h1
  | .bool _, vs, h, v, hv => by
    have := h.dead (by intros; simp) (by intros; simp)
    simp only [CR] at this; obtain ⟨w, rfl, _, h1⟩ := this; simp at hv; subst hv; exact h1
  | .str _, vs, h, v, hv => by
    have := h.dead (by intros; simp) (by intros; simp)
    simp only [CR] at this; obtain ⟨w, rfl, _, h1⟩ := this; simp at hv; subst hv; exact h1
  | .sl _ _, vs, h, v, hv => by
    have := h.dead (by intros; simp) (by intros; simp)
    simp only [CR] at this; obtain ⟨w, rfl, _, h1⟩ := this; simp at hv; subst hv; exact h1
  | .win _ _ _ _ _, vs, h, v, hv => by
    have := h.dead (by intros; simp) (by intros; simp)
    simp only [CR] at this; obtain ⟨w, rfl, _, h1⟩ := this; simp at hv; subst hv; exact h1
  | .ptr _ _, vs, h, v, hv => by
    have := h.dead (by intros; simp) (by intros; simp)
    simp only [CR] at this; obtain ⟨w, rfl, _, h1⟩ := this; simp at hv; subst hv; exact h1
  | .elp _ _ _ _, vs, h, v, hv => by
    have := h.dead (by intros; simp) (by intros; simp)
    simp only [CR] at this; obtain ⟨w, rfl, _, h1⟩ := this; simp at hv; subst hv; exact h1
  | .aep _ _ _ _ _, vs, h, v, hv => by
    have := h.dead (by intros; simp) (by intros; simp)
    simp only [CR] at this; obtain ⟨w, rfl, _, h1⟩ := this; simp at hv; subst hv; exact h1
  | .elv _ _, vs, h, v, hv => by
    have := h.dead (by intros; simp) (by intros; simp)
    simp only [CR] at this; obtain ⟨w, rfl, _, h1⟩ := this; simp at hv; subst hv; exact h1
  | .fn _ _ _, vs, h, v, hv => by
    have := h.dead (by intros; simp) (by intros; simp)
    simp only [CR] at this; obtain ⟨w, rfl, _, h1⟩ := this; simp at hv; subst hv; exact h1
theorem CRL.allOne : ∀ (l : List SV) (vs : List Value), CRL Z ν l vs → ∀ v ∈ vs, v.oneCell' = true
  | [], vs, h, v, hv => by simp only [CRL] at h; subst h; cases hv
  | s :: l, vs, h, v, hv => by
    simp only [CRL] at h
    obtain ⟨u, w, rfl, h1, h2⟩ := h
    rcases List.mem_append.1 hv with hv | hv
    · exact CR.allOne s u h1 v hv
    · exact CRL.allOne l w h2 v hv
end
theorem aStore_of {b off : Nat} {cs new : List Value} {et : TypeId} {k : Nat} (hb : H.t.get b = some (.cells cs et k)) (hk : k ≠ 2) (hl : off + new.length ≤ cs.length) (ho : ∀ v ∈ new, v.oneCell' = true) :
    aStore H ⟨b, off, none⟩ new = some (H.put b (.cells (cs.take off ++ new ++ cs.drop (off + new.length)) et k)) := by
  simp only [aStore, hb]
  rw [if_pos ⟨hk, hl, by rw [List.all_eq_true]; exact ho, Nat.zero_le _⟩]
theorem aStoreVar_of {t : TypeId} {ti : TI} (ht : TOK P t ti) {b off : Nat} {cs : List Value} {et : TypeId} {k : Nat} {s : SV} {v : Value} (hb : H.t.get b = some (.cells cs et k)) (hk : k ≠ 2) (hv : CRL Z ν (items s) v.cells.toList) (hsz : SV.size.sizeL (items s) = ti.size) (hl : off + ti.size ≤ cs.length) :
    aStoreVar P H t (.pointer (some ⟨b, off, none⟩)) v = some (H.put b (.cells (cs.take off ++ v.cells.toList ++ cs.drop (off + ti.size)) et k)) := by
  have hlen := hv.len
  rw [hsz] at hlen
  have hlen' : v.cells.size = ti.size := by simpa using hlen
  unfold aStoreVar
  simp only [ht.size]
  rw [if_pos hlen', aStore_of hb hk (by rw [hlen]; exact hl) (CRL.allOne _ _ hv), hlen]
theorem VS.notup {s : SV} (h : isTup s = false) : ∀ l, s ≠ .tup l := by
  intro l e; subst e; simp [isTup] at h
theorem splice_in {vs A u C nv : List Value} {a off n : Nat} (e : vs = A ++ (u ++ C)) (ha : A.length = a) (h : off + n ≤ u.length) : vs.take (a + off) ++ nv ++ vs.drop (a + off + n) = A ++ ((u.take off ++ nv ++ u.drop (off + n)) ++ C) := by
  rw [set_drop e ha (Nat.le_add_right _ _), Nat.add_sub_cancel_left, set_take rfl rfl h]
/-- An element is changed in part. -/
theorem set_elem {e : Sh} {xs : List e.D} {cs nv : List Value} {i off n : Nat} {s : SV} {y : e.D} (h : RVL (fun x u => RV Z e x u) xs cs) (hi : i < xs.length) (hs : CRL Z ν (items s) nv) (hn : nv.length = n) (e1 : setAt e (gt e xs i) off n s = some y) :
    ∃ cs', RVL (fun x u => RV Z e x u) (xs.set i y) cs' ∧ cs'.length = cs.length ∧ i * e.size + off + n ≤ cs.length ∧ ∀ tl pre : List Value, (pre ++ (cs ++ tl)).take (pre.length + i * e.size + off) ++ nv ++ (pre ++ (cs ++ tl)).drop (pre.length + i * e.size + off + n) = pre ++ (cs' ++ tl) := by
  have hl := h.len (fun x u k => RV.len e x u k)
  obtain ⟨q1, q2⟩ := row_elem (tl := []) h hi
  rw [List.append_nil] at q1 q2
  obtain ⟨r1, r2⟩ := setAt_sound _ _ q1 hs hn e1
  have hu : ((cs.drop (i * e.size)).take e.size).length = e.size := RV.len _ _ _ q1
  rw [hu] at r2
  generalize hu0 : (cs.drop (i * e.size)).take e.size = u at *
  have hs' := RVL.set (fun x u k => RV.len e x u k) h hi r1
  have hl2 : (u.take off ++ nv ++ u.drop (off + n)).length = e.size := RV.len _ _ _ r1
  rw [hl2] at hs'
  refine ⟨_, hs', ?_, by omega, fun tl pre => ?_⟩
  · simp only [List.length_append, List.length_take, List.length_drop] at hl2 ⊢
    omega
  · have hcs : cs = cs.take (i * e.size) ++ (u ++ cs.drop (i * e.size + e.size)) := by
      rw [← hu0, ← List.drop_drop]
      simp only [List.take_append_drop]
    have e0 : pre ++ (cs ++ tl) = (pre ++ cs.take (i * e.size)) ++ (u ++ (cs.drop (i * e.size + e.size) ++ tl)) := by
      conv => lhs; rw [hcs]
      simp only [List.append_assoc]
    rw [splice_in (a := pre.length + i * e.size) e0 (by rw [List.length_append, List.length_take]; omega) (by omega)]
    simp only [List.append_assoc]
/-- A change of a block in place. -/
theorem store_sound (ht : TTOK P tt) (hp : PR Z ν S E H) {t : TypeId} {po xo : Operand} {p s : SV} {v w : Value} {cs : List Prop} {o : Oper} {d : Option Nat} {r : Option SV} {a : Ac} (ho : o.op = .store t po xo) (hx : ρ po = some p) (hs : ρ xo = some s) (h : VS Z ν p v) (hw : VS Z ν s w)
    (e : pW tt ρ S.blk d o = some (cs, (r, a))) (hc : ∀ c ∈ cs, c) :
    ∃ id l0 ni x lb, a = .turn id lb ∧ r = none ∧ lk S.blk id = some l0 ∧ ν id = some ni ∧ aStoreVar P H t v w = some (H.put ni.b x) ∧ BR Z ν (H.put ni.b x) id lb := by
  unfold pW at e
  simp only [ho, hx, hs] at e
  split at e
  · rename_i ti id off s' hti he hs'
    cases he; cases hs'
    split at e
    · cases e
    · rename_i l hl hnt
      split at e
      · rename_i hsz
        split at e
        · rename_i l' hsp
          cases e
          obtain ⟨ni, hn, rfl⟩ := h.ptr
          obtain ⟨ni', cells, et, hn', htot, hb, hcr⟩ := hp.blk _ _ hl
          rw [hn] at hn'; cases hn'
          have hit := (hw.v1 (fun m e => hnt m e)).items
          obtain ⟨q1, q2⟩ := splice_sound hcr hit hsp
          have hst := aStoreVar_of (ht _ _ hti) hb (by decide) hit hsz q2
          refine ⟨id, _, ni, _, _, rfl, rfl, hl, hn, hst, ?_⟩
          refine ⟨ni, _, et, hn, ?_, AHeap.get_put (Nat.zero_le _), q1⟩
          rw [htot]
          have hlen := hit.len
          rw [hsz] at hlen
          simp only [List.length_append, List.length_take, List.length_drop, hlen]
          congr 1; omega
        · cases e
      · cases e
    · cases e
  · rename_i ti e1 id base i off s' hti he hs'
    cases he; cases hs'
    split at e
    · rename_i l hl
      split at e
      · rename_i a0 n e' xs rr hcut
        split at e
        · rename_i hee
          subst hee
          split at e
          · cases e
          · rename_i hcond
            simp only [not_or, Bool.not_eq_true, Decidable.not_not] at hcond
            split at e
            · rename_i y hset
              split at e
              · rename_i l' hsp
                cases e
                have hi : i < n := hc _ (by simp)
                obtain ⟨ni, hn, rfl⟩ := h.aep
                obtain ⟨ni', cells, et, hn', htot, hb, hcr⟩ := hp.blk _ _ hl
                rw [hn] at hn'; cases hn'
                have hit := (hw.v1 (VS.notup hcond.1)).items
                have hlen := hit.len
                rw [hcond.2] at hlen
                obtain ⟨u, w', rfl, hu, _, hw2⟩ := cutAt_sound _ _ hcr hcut
                simp only [CRL] at hw2
                obtain ⟨u2, w2, rfl, h3, _⟩ := hw2
                simp only [CR, RV] at h3
                obtain ⟨hln, h3⟩ := h3
                obtain ⟨cs', c1, c2, c3, c4⟩ := set_elem h3 (by omega) hit hlen hset
                have c5 := c4 w2 u
                rw [hu] at c5
                have hu2 := h3.len (fun x u k => RV.len e' x u k)
                have harr : CRL Z ν [SV.arr n e' (xs.set i y)] cs' := CRL.single (s := .arr n e' (xs.set i y)) (by simp only [CR, RV]; exact ⟨by rw [List.length_set]; exact hln, c1⟩)
                obtain ⟨q1, q2⟩ := splice_sound hcr harr hsp
                have hst := aStoreVar_of (ht _ _ hti) (off := base + i * e'.size + off) hb (by decide) hit hcond.2 (by simp only [List.length_append]; omega)
                refine ⟨id, _, ni, _, _, rfl, rfl, hl, hn, hst, ?_⟩
                refine ⟨ni, _, et, hn, ?_, AHeap.get_put (Nat.zero_le _), ?_⟩
                · rw [htot, c5]
                  simp only [List.length_append, c2]
                · rw [c5]
                  have e6 : (u ++ (u2 ++ w2)).take base ++ cs' ++ (u ++ (u2 ++ w2)).drop (base + n * e'.size) = u ++ (cs' ++ w2) := by
                    rw [← hu, List.take_left, ← List.drop_drop, List.drop_left, ← hln, ← hu2, List.drop_left, List.append_assoc]
                  rw [e6] at q1
                  exact q1
              · cases e
            · cases e
        · cases e
      · cases e
    · cases e
  · rename_i ti e1 id i off s' hti he hs'
    cases he; cases hs'
    split at e
    · rename_i et e' xs hl
      split at e
      · rename_i hee
        subst hee
        split at e
        · cases e
        · rename_i hcond
          simp only [not_or, Bool.not_eq_true, Decidable.not_not] at hcond
          split at e
          · rename_i y hset
            cases e
            have hi : i < xs.length := hc _ (by simp)
            obtain ⟨ni, hn, rfl⟩ := h.elp
            obtain ⟨hpos, hb⟩ := hp.blk _ _ hl
            have hit := (hw.v1 (VS.notup hcond.1)).items
            have hlen := hit.len
            rw [hcond.2] at hlen
            rcases hb with ⟨hn', rfl⟩ | ⟨ni', cells, tl, k, hn', hb, hrv, hkk⟩
            · simp at hi
            · rw [hn] at hn'; cases hn'
              obtain ⟨cs', c1, c2, c3, c4⟩ := set_elem hrv hi hit hlen hset
              have c5 := c4 tl []
              simp only [List.nil_append, List.length_nil, Nat.zero_add] at c5
              have hk2 : k ≠ 2 := by rcases hkk with ⟨_, rfl⟩ | ⟨_, rfl⟩ <;> omega
              have hst := aStoreVar_of (ht _ _ hti) (off := i * e'.size + off) hb hk2 hit hcond.2 (by rw [List.length_append]; omega)
              refine ⟨id, _, ni, _, _, rfl, rfl, hl, hn, hst, hpos, .inr ⟨ni, cs', tl, k, hn, ?_, c1, ?_⟩⟩
              · rw [AHeap.get_put (Nat.zero_le _), c5]
              · rcases hkk with h | ⟨h1, h2⟩
                · exact .inl h
                · exact .inr ⟨by rw [h1, List.length_append, List.length_append, c2], h2⟩
          · cases e
      · cases e
    · cases e
  · cases e
end
end Go.Px
namespace Go.Px
open Ax
def PS.fresh (S : PS) (gone : Option Nat) (d : Nat) (lb : LB) : PS :=
  match gone with
  | none => ⟨(S.kill d).env, st (S.kill d).blk d lb⟩
  | some id => ⟨((S.kill id).kill d).env, st ((S.kill id).kill d).blk d lb⟩
def nuGone (ν : Nu) : Option Nat → Nu
  | none => ν
  | some id => Upd ν id none
section
variable {P : Program} {tt : TT} {Z : Nat → Option ABlk} {ν : Nu} {S : PS} {E : T Value} {H H' : AHeap} {ρ : Operand → Option SV} {ρ' : Operand → Option Value} {F : FuncId → Bool}
theorem fresh_ok (hp : PR Z ν S E H) (hdom : ∀ i x, H.t.get i = some x → i < H.next) {gone : Option Nat} {d : Nat} {x : Option NI} {lb : LB} (hg : ∀ id, gone = some id → ∃ l, lk S.blk id = some l)
    (hOld : ∀ b y, H.t.get b = some y → ¬ (∃ id ni, gone = some id ∧ ν id = some ni ∧ ni.b = b) → H'.t.get b = some y) (hle : H.next ≤ H'.next)
    (hx : ∀ ni, x = some ni → ni.b = H.next ∨ ∃ id nj, gone = some id ∧ ν id = some nj ∧ ni.b = nj.b) (hl : BR Z (Upd (nuGone ν gone) d x) H' d lb) :
    PR Z (Upd (nuGone ν gone) d x) (S.fresh gone d lb) E H' ∧ FC Z ν S H Z (Upd (nuGone ν gone) d x) (S.fresh gone d lb) H' := by
  have hz : ∀ b, Z b ≠ none → ¬ (∃ id ni, gone = some id ∧ ν id = some ni ∧ ni.b = b) := by
    rintro b hb ⟨id, ni, h1, h2, rfl⟩
    obtain ⟨l, hl⟩ := hg id h1
    exact hb (hp.zo _ ⟨id, l, ni, hl, h2, rfl⟩)
  have hZ : ∀ b y, Z b = some y → H'.t.get b = H.t.get b := by
    intro b y hb
    have h1 := (hp.zh b y hb).1
    rw [h1]
    exact hOld b y h1 (hz b (by rw [hb]; simp))
  have hzn : ∀ ni, x = some ni → Z ni.b = none := by
    intro ni hni
    rcases hx ni hni with e | ⟨id, nj, h1, h2, e⟩
    · cases hzz : Z ni.b with
      | none => rfl
      | some y => have := hdom _ _ (hp.zh _ _ hzz).1; omega
    · obtain ⟨l, hl⟩ := hg id h1
      exact hp.zo _ ⟨id, l, nj, hl, h2, e.symm⟩
  cases gone with
  | none =>
    simp only [nuGone] at hl ⊢
    have hnew : ∀ b, Own ν S b → b ≠ H.next := by
      rintro b ⟨id, l, ni, h1, h2, rfl⟩ e
      obtain ⟨vs, et, k, hgt⟩ := (hp.blk id l h1).at h2
      have := hdom _ _ hgt
      omega
    have hxx : ∀ ni, x = some ni → ni.b = H.next := by
      intro ni hni
      rcases hx ni hni with e | ⟨id, nj, h1, _⟩
      · exact e
      · cases h1
    constructor
    · refine hp.new (fun b hb => ?_) hZ (fun ni hni => ⟨fun ho => hnew _ ho (hxx ni hni), hzn ni hni⟩) hl
      obtain ⟨id, l, ni, h1, h2, rfl⟩ := hb
      obtain ⟨vs, et, k, hgt⟩ := (hp.blk id l h1).at h2
      rw [hgt]
      exact hOld _ _ hgt (by rintro ⟨id, ni, h, _⟩; cases h)
    · refine ⟨ZLe.refl _, fun _ h => .inl h, hle, fun b y h hlt ho => hOld b y h (by rintro ⟨id, ni, h, _⟩; cases h), fun b hb => ?_⟩
      rcases own_new hb with h | ⟨ni, h1, h2⟩
      · exact .inl h
      · have := hxx ni h1; exact .inr (by omega)
  | some id =>
    simp only [nuGone] at hl ⊢
    obtain ⟨l0, hl0⟩ := hg id rfl
    have hp1 := hp.kill id none
    have hnotgone : ∀ b, Own (Upd ν id none) (S.kill id) b → ¬ (∃ id' ni, some id = some id' ∧ ν id' = some ni ∧ ni.b = b) := by
      rintro b hb ⟨id', ni, h1, h2, rfl⟩
      cases h1
      exact own_gone hp hl0 h2 hb
    constructor
    · refine hp1.new (fun b hb => ?_) hZ (fun ni hni => ⟨fun ho => ?_, hzn ni hni⟩) hl
      · have hng := hnotgone b hb
        obtain ⟨id', l, ni, h1, h2, rfl⟩ := hb
        obtain ⟨vs, et, k, hgt⟩ := (hp1.blk id' l h1).at h2
        rw [hgt]
        exact hOld _ _ hgt hng
      · rcases hx ni hni with e | ⟨id', nj, h1, h2, e⟩
        · obtain ⟨id', l, ni', h1, h2, h3⟩ := ho
          obtain ⟨vs, et, k, hgt⟩ := (hp1.blk id' l h1).at h2
          have := hdom _ _ hgt
          omega
        · exact hnotgone _ ho ⟨id', nj, h1, h2, e.symm⟩
    · refine ⟨ZLe.refl _, fun _ h => .inl h, hle, fun b y h hlt ho => hOld b y h ?_, fun b hb => ?_⟩
      · rintro ⟨id', ni, h1, h2, rfl⟩
        cases h1
        exact ho ⟨id, l0, ni, hl0, h2, rfl⟩
      · rcases own_new hb with h | ⟨ni, h1, h2⟩
        · exact .inl (own_kill h).1
        · rcases hx ni h1 with e | ⟨id', nj, h3, h4, e⟩
          · exact .inr (by omega)
          · cases h3
            exact .inl ⟨id, l0, nj, hl0, h4, by omega⟩
/-- What is added, in cells. -/
theorem newL_sound (hp : PR Z ν S E H) {e : Sh} {x : SV} {v : Value} {cs : List Prop} {ys : List e.D} (h : newL S.blk e x = some (cs, ys)) (hc : ∀ c ∈ cs, c) (hv : VS Z ν x v) :
    ∃ new, aLenOf v = some ys.length ∧ (∀ n, n ≤ ys.length → aFirst H e.size n v = some (new.take (n * e.size))) ∧ RVL (fun x u => RV Z e x u) ys new := by
  have row : ∀ {b off cap : Nat} {cs : List Value} {et : TypeId} {k : Nat} {l : List e.D}, H.t.get b = some (.cells cs et k) → off + l.length * e.size ≤ cs.length → ∀ n, n ≤ l.length → aFirst H e.size n (.slice (some ⟨b, off, none⟩) l.length cap) = some (((cs.drop off).take (l.length * e.size)).take (n * e.size)) := by
    intro b off cap cs et k l hb hl n hn
    have hle : n * e.size ≤ l.length * e.size := Nat.mul_le_mul_right _ hn
    simp only [aFirst]
    split
    · rename_i h0; rw [h0]; simp
    · rw [if_neg (by simp)]
      simp only [aCells, hb]
      rw [if_pos (by omega), List.take_take, Nat.min_eq_left hle]
  unfold newL at h
  split at h
  · cases h
    rw [hv.nils]
    exact ⟨[], rfl, fun n hn => by simp at hn; subst hn; simp [aFirst], rfl⟩
  · rename_i e' l
    split at h
    · rename_i he; subst he; cases h
      rcases hv.sl with ⟨rfl, rfl | rfl⟩ | ⟨b, off, cap, cs', et', k, rfl, hz, hln, hrv, _⟩
      · exact ⟨[], rfl, fun n hn => by simp at hn; subst hn; simp [aFirst], rfl⟩
      · exact ⟨[], rfl, fun n hn => by simp at hn; subst hn; simp [aFirst, emptySlice], rfl⟩
      · exact ⟨_, rfl, row (hp.zh _ _ hz).1 hln, hrv⟩
    · cases h
  · rename_i l
    split at h
    · cases h
      rw [hv.str]
      refine ⟨l.map bv, by simp [aLenOf, bstr, size_bstr], fun n hn => ?_, ?_⟩
      · simp only [Sh.size, Nat.mul_one, bstr, aFirst]
        have hx' : (⟨l.toArray⟩ : ByteArray).extract 0 n = ⟨(l.take n).toArray⟩ := by
          apply ByteArray.ext; simp
        rw [hx', ← List.map_take]
        simp only [List.map_toArray]
        rfl
      · have : ∀ l : List UInt8, RVL (fun (x : (Sh.int .u8).D) u => RV Z (.int .u8) x u) (l.map ofB) (l.map bv) := by
          intro l
          induction l with
          | nil => rfl
          | cons a l ih => exact ⟨[bv a], _, rfl, by simp only [RV, bv, ofB], ih⟩
        exact this l
    · cases h
  · rename_i r e' id lo n
    split at h
    · rename_i et e2 xs hl
      split at h
      · rename_i he; subst he
        split at h
        · rename_i he; subst he; cases h
          have hin : lo + n ≤ xs.length := hc _ (by simp)
          have hw := hv.win
          obtain ⟨_, hbr⟩ := hp.blk _ _ hl
          unfold WinR at hw
          split at hw
          · obtain ⟨rfl, rfl, hvv⟩ := hw
            have e0 : winL e' 0 0 xs = [] := by simp [winL]
            rw [e0]
            rcases hvv with rfl | ⟨_, rfl⟩
            · exact ⟨[], rfl, fun n hn => by simp at hn; subst hn; simp [aFirst], rfl⟩
            · exact ⟨[], rfl, fun n hn => by simp at hn; subst hn; simp [aFirst, emptySlice], rfl⟩
          · rename_i ni hn
            rcases hbr with ⟨hn', _⟩ | ⟨ni', cs', tl, k, hn', hb, hrv, hkk⟩
            · rw [hn] at hn'; cases hn'
            · rw [hn] at hn'; cases hn'
              obtain ⟨q1, q2, q3⟩ := win_cells (tl := tl) hrv hin
              rcases hw with ⟨_, rfl, rfl | ⟨o2, t2, rfl, ht2, ho2⟩⟩ | ⟨cap, rfl, hcap⟩
              · have e0 : winL e' lo 0 xs = [] := by simp [winL]
                rw [e0]
                exact ⟨[], rfl, fun n hn => by simp at hn; subst hn; simp [aFirst, emptySlice], rfl⟩
              · have e0 : winL e' lo 0 xs = [] := by simp [winL]
                rw [e0]
                exact ⟨[], rfl, fun n hn => by simp at hn; subst hn; simp [aFirst], rfl⟩
              · refine ⟨_, by rw [q3]; rfl, fun m hm => ?_, q1⟩
                have := row (cap := cap) (l := winL e' lo n xs) hb (by rw [q3]; exact q2) m hm
                rw [q3] at this
                exact this
        · cases h
      · cases h
    · cases h
  · cases h
theorem aAppT_of (ht : TTOK P tt) {ts : Array TypeId} {t0 t1 ti : TI} {et : TypeId} (h0 : (ts[0]?).bind (lk tt) = some t0) (h1 : (ts[1]?).bind (lk tt) = some t1) (k0 : t0.kind = .slice et) (k1 : t1.kind.seq = true) (hti : lk tt et = some ti) (hpos : 0 < ti.size) :
    ∃ T, aAppT P ts = some T ∧ T.elem = et ∧ T.size = ti.size ∧ T.bytes = ti.bytes := by
  rw [Option.bind_eq_some_iff] at h0 h1
  obtain ⟨a, ha, h0⟩ := h0
  obtain ⟨b, hb, h1⟩ := h1
  have u0 := (ht _ _ h0).kind
  rw [k0] at u0
  simp only [KOK] at u0
  have u1 := (ht _ _ h1).kind
  obtain ⟨d1, u1, hd⟩ : ∃ d1, pureRun P (underlying b) = some d1 ∧ isIntD d1 = false := by
    cases hk : t1.kind with
    | slice e => rw [hk] at u1; exact ⟨_, u1, rfl⟩
    | str => rw [hk] at u1; exact ⟨_, u1, rfl⟩
    | _ => rw [hk] at k1; simp [TK.seq] at k1
  obtain ⟨z, hz, _, _, hzs, _⟩ := (ht _ _ hti).zero
  obtain ⟨inf, hi, hib, his⟩ := (ht _ _ hti).bytes
  refine ⟨⟨et, inf.size, inf.bytes, z.cells⟩, ?_, rfl, his, hib⟩
  simp only [aAppT, ha, hb, u0, u1, hd, hi, hz]
  rw [if_pos ⟨by rw [hzs, his], by omega⟩]
theorem next_le {n c b : Nat} (h : c < n) (hn : n < 2 ^ 30) (hb : b ≤ 2 ^ 10) : Builtin.nextslicecap n c * b ≤ 2 ^ 48 := by
  have h1 := nextslicecap_le h
  have h2 : Builtin.nextslicecap n c * b ≤ 2 ^ 31 * 2 ^ 10 := Nat.mul_le_mul (by omega) hb
  omega
/-- More elements behind those of a window. -/
theorem append_win (hp : PR Z ν S E H) (hdom : ∀ i x, H.t.get i = some x → i < H.next) {o : Oper} {ts : Array TypeId} {vsrc vx : Value} (hop : ∀ {r}, aAppend P H ts vsrc vx = some r → aOp P F ρ' H o = some (.val r.1, r.2)) {id d n : Nat} {et : TypeId} {ti : TI} {xs ys : List ti.sh.D} {rw0 : Bool}
    (hlk : lk S.blk id = some (.row et ti.sh xs)) (hw : WinR rw0 ν ti.sh id 0 n vsrc) {T : AppT} (hT : aAppT P ts = some T) (hTe : T.elem = et) (hTs : T.size = ti.size) (hTb : T.bytes = ti.bytes) (hsz : ti.sh.size = ti.size) (hpos : 0 < ti.size) {new : List Value}
    (n1 : aLenOf vx = some ys.length) (hn2 : aFirst H T.size ys.length vx = some new) (n3 : RVL (fun x u => RV Z ti.sh x u) ys new) (hnl : new.length = ys.length * ti.size) (c1 : n + ys.length < 2 ^ 30) (c2 : ti.bytes ≤ 2 ^ 10) (c3 : n ≤ xs.length ∧ (rw0 = false → 0 < n) ∧ (rw0 = true → n = xs.length)) :
    ∃ gone lb s v H' ν', Ac.fresh (some id) (.row et ti.sh (if rw0 then xs ++ ys else xs.take n ++ ys)) = .fresh gone lb ∧ some (SV.win true ti.sh d 0 (n + ys.length)) = some s ∧ aOp P F ρ' H o = some (.val v, H') ∧ PR Z ν' (S.fresh gone d lb) E H' ∧ VS Z ν' s v ∧ FC Z ν S H Z ν' (S.fresh gone d lb) H' := by
  have hL : (if rw0 then xs ++ ys else xs.take n ++ ys) = xs.take n ++ ys := by
    cases rw0 with
    | true => simp only [if_true]; rw [List.take_of_length_le (by have := c3.2.2 rfl; omega)]
    | false => simp
  have hone : new.all (·.oneCell') = true := by rw [List.all_eq_true]; exact RVL.all (fun x u k => RV.one ti.sh x u k) n3
  have hTpos : 0 < T.size := by omega
  have hnl' : new.length = ys.length * T.size := by rw [hnl, hTs]
  rw [hL]
  obtain ⟨_, hbr⟩ := hp.blk _ _ hlk
  unfold WinR at hw
  split at hw
  · rename_i hn
    obtain ⟨_, rfl, hvv⟩ := hw
    have hvn : vsrc = .slice none 0 0 := by
      rcases hvv with h | ⟨h, _⟩
      · exact h
      · have := c3.2.1 h; omega
    subst hvn
    simp only [List.take_zero, List.nil_append, Nat.zero_add] at c1 ⊢
    by_cases hy : ys.length = 0
    · have hyn := List.eq_nil_of_length_eq_zero hy
      subst hyn
      have hap : aAppend P H ts (.slice none 0 0) vx = some (.slice none 0 0, H) := by
        simp only [aAppend, hT, n1, hn2]
        rw [if_neg (by rw [hnl']; simp), if_pos (by simp), if_pos (by simp)]
      obtain ⟨q1, q2⟩ := fresh_ok (H' := H) (gone := some id) (d := d) (x := none) (lb := .row et ti.sh []) hp hdom (by rintro i hi; cases hi; exact ⟨_, hlk⟩) (fun b y h _ => h) (Nat.le_refl _) (by simp) ⟨by omega, .inl ⟨upd_at, rfl⟩⟩
      refine ⟨some id, _, _, _, H, _, rfl, rfl, hop hap, q1, VS.mkWin ?_, q2⟩
      unfold WinR; rw [upd_at]; exact ⟨rfl, rfl, .inl rfl⟩
    · have hap : aAppend P H ts (.slice none 0 0) vx = some (.slice (some ⟨H.next, 0, none⟩) (0 + ys.length) openCap, H.add (.cells new T.elem (10 + T.size))) := by
        simp only [aAppend, hT, n1, hn2]
        rw [if_neg (by rw [hnl']; simp), if_neg (by unfold openCap; omega), if_pos ⟨trivial, by omega, by rw [hTb]; exact next_le (by omega) (by omega) c2, Nat.zero_le _⟩]
      obtain ⟨q1, q2⟩ := fresh_ok (H' := H.add (.cells new T.elem (10 + T.size))) (gone := some id) (d := d) (x := some ⟨H.next, none⟩) (lb := .row et ti.sh ys) hp hdom (by rintro i hi; cases hi; exact ⟨_, hlk⟩) (fun b y h _ => by rw [AHeap.get_add_other (by have := hdom _ _ h; omega)]; exact h) (by simp [AHeap.add]) (by rintro ni hni; cases hni; exact .inl rfl)
        ⟨by omega, .inr ⟨_, new, [], _, upd_at, by rw [List.append_nil, hTe]; exact AHeap.get_add (Nat.zero_le _), n3, .inl ⟨rfl, by rw [hTs, hsz]⟩⟩⟩
      refine ⟨some id, _, _, _, _, _, rfl, rfl, hop hap, q1, VS.mkWin ?_, q2⟩
      unfold WinR; rw [upd_at]
      exact .inr ⟨openCap, by simp, rfl⟩
  · rename_i ni hn
    rcases hbr with ⟨hn', _⟩ | ⟨ni', cells, tl, k, hn', hb, hrv, hkk⟩
    · rw [hn] at hn'; cases hn'
    · rw [hn] at hn'; cases hn'
      obtain ⟨p1, p2, _⟩ := win_cells (tl := tl) (lo := 0) hrv (by rw [Nat.zero_add]; exact c3.1)
      generalize hvs0 : cells ++ tl = vs0 at *
      simp only [winL, List.drop_zero, Nat.zero_mul, Nat.zero_add] at p1 p2
      rw [hsz] at p1 p2
      have happ : RVL (fun x u => RV Z ti.sh x u) (xs.take n ++ ys) (vs0.take (n * ti.size) ++ new) := p1.app n3
      have hgone : ∀ i, some id = some i → ∃ l, lk S.blk i = some l := by rintro i hi; cases hi; exact ⟨_, hlk⟩
      rcases hw with ⟨hr, h0, _⟩ | ⟨cap, rfl, hcap⟩
      · have := c3.2.1 hr; omega
      · simp only [Nat.zero_mul] at hop ⊢
        have same : ys.length = 0 → aAppend P H ts (.slice (some ⟨ni.b, 0, none⟩) n cap) vx = some (.slice (some ⟨ni.b, 0, none⟩) n cap, H) →
            ∃ gone lb s v H' ν', Ac.fresh (some id) (.row et ti.sh (xs.take n ++ ys)) = .fresh gone lb ∧ some (SV.win true ti.sh d 0 (n + ys.length)) = some s ∧ aOp P F ρ' H o = some (.val v, H') ∧ PR Z ν' (S.fresh gone d lb) E H' ∧ VS Z ν' s v ∧ FC Z ν S H Z ν' (S.fresh gone d lb) H' := by
          intro hy hap
          have hyn := List.eq_nil_of_length_eq_zero hy
          subst hyn
          have hnew : new = [] := List.eq_nil_of_length_eq_zero (by rw [hnl]; simp)
          subst hnew
          simp only [List.append_nil] at happ
          obtain ⟨q1, q2⟩ := fresh_ok (H' := H) (gone := some id) (d := d) (x := some ni) (lb := .row et ti.sh (xs.take n)) hp hdom hgone (fun b y h _ => h) (Nat.le_refl _) (by rintro nj hnj; cases hnj; exact .inr ⟨id, ni, rfl, hn, rfl⟩)
            ⟨by omega, .inr ⟨ni, vs0.take (n * ti.size), vs0.drop (n * ti.size), k, upd_at, by rw [List.take_append_drop]; exact hb, happ, by rw [List.take_append_drop]; exact hkk⟩⟩
          simp only [List.append_nil, List.length_nil, Nat.add_zero]
          refine ⟨some id, _, _, _, _, _, rfl, rfl, hop hap, q1, VS.mkWin ?_, q2⟩
          unfold WinR; rw [upd_at]
          exact .inr ⟨cap, by simp, hcap⟩
        rcases hkk with ⟨htot, rfl⟩ | ⟨htot, rfl⟩
        · rw [htot] at hcap
          simp only at hcap
          subst hcap
          by_cases hy : ys.length = 0
          · refine same hy ?_
            simp only [aAppend, hT, n1, hn2]
            rw [if_neg (by rw [hnl']; simp), if_pos ⟨hy, by simp⟩, if_pos trivial]
            simp only [hb]
            rw [if_pos ⟨by rw [hTs, hsz], by simp, by rw [hTs]; omega⟩]
          · have hap : aAppend P H ts (.slice (some ⟨ni.b, 0, none⟩) n openCap) vx = some (.slice (some ⟨H.next, 0, none⟩) (n + ys.length) openCap, (H.put ni.b .dead).add (.cells (vs0.take (n * T.size) ++ new) T.elem (10 + T.size))) := by
              simp only [aAppend, hT, n1, hn2]
              rw [if_neg (by rw [hnl']; simp), if_neg (by simp [hy]), if_neg (by simp), if_pos trivial]
              simp only [hb]
              have hbd : 2 * (n + ys.length) * T.bytes ≤ 2 ^ 48 := by
                rw [hTb]
                have : 2 * (n + ys.length) * ti.bytes ≤ 2 ^ 31 * 2 ^ 10 := Nat.mul_le_mul (by omega) c2
                omega
              rw [if_pos ⟨by rw [hTs, hsz], trivial, by rw [hTs]; omega, hTe.symm, by omega, hbd, Nat.zero_le _, hone⟩]
            have hnb : ni.b < H.next := hdom _ _ hb
            have hnx : (H.put ni.b .dead).next = H.next := rfl
            obtain ⟨q1, q2⟩ := fresh_ok (H' := (H.put ni.b .dead).add (.cells (vs0.take (n * T.size) ++ new) T.elem (10 + T.size))) (gone := some id) (d := d) (x := some ⟨H.next, none⟩) (lb := .row et ti.sh (xs.take n ++ ys)) hp hdom hgone
              (fun b y h hng => by
                rw [AHeap.get_add_other (by have := hdom _ _ h; rw [hnx]; omega), AHeap.get_put_other]
                · exact h
                · rintro rfl; exact hng ⟨id, ni, rfl, hn, rfl⟩) (by simp [AHeap.add, AHeap.put]) (by rintro nj hnj; cases hnj; exact .inl rfl)
              ⟨by omega, .inr ⟨_, vs0.take (n * T.size) ++ new, [], 10 + T.size, upd_at, by rw [List.append_nil, ← hTe]; exact AHeap.get_add (H := H.put ni.b .dead) (Nat.zero_le _), by rw [hTs]; exact happ, .inl ⟨rfl, by rw [hTs, hsz]⟩⟩⟩
            refine ⟨some id, _, _, _, _, _, rfl, rfl, hop hap, q1, VS.mkWin ?_, q2⟩
            unfold WinR; rw [upd_at]
            exact .inr ⟨openCap, by simp, rfl⟩
        · rw [htot] at hcap
          simp only at hcap
          obtain ⟨d1, d2, d3⟩ := hcap
          rw [hsz, Nat.zero_add] at d3
          have hno : cap ≠ openCap := by unfold openCap; omega
          by_cases hy : ys.length = 0
          · refine same hy ?_
            simp only [aAppend, hT, n1, hn2]
            rw [if_neg (by rw [hnl']; simp), if_pos ⟨hy, by simp⟩, if_neg hno, if_pos d1]
          · by_cases hfit : n + ys.length ≤ cap
            · have hin : n * ti.size + new.length ≤ vs0.length := by
                rw [hnl, ← Nat.add_mul]
                have : (n + ys.length) * ti.size ≤ cap * ti.size := Nat.mul_le_mul_right _ hfit
                omega
              have hst := aStore_of (off := n * ti.size) hb (by decide) hin (fun v hv => by rw [List.all_eq_true] at hone; exact hone v hv)
              have hap : aAppend P H ts (.slice (some ⟨ni.b, 0, none⟩) n cap) vx = some (.slice (some ⟨ni.b, 0, none⟩) (n + ys.length) cap, H.put ni.b (.cells (vs0.take (n * ti.size) ++ new ++ vs0.drop (n * ti.size + new.length)) et 0)) := by
                simp only [aAppend, hT, n1, hn2]
                rw [if_neg (by rw [hnl']; simp), if_neg (by simp [hy]), if_neg (by simp), if_neg hno, if_pos hfit]
                rw [add_none, hTs, Nat.zero_add, hst]
              obtain ⟨q1, q2⟩ := fresh_ok (H' := H.put ni.b (.cells (vs0.take (n * ti.size) ++ new ++ vs0.drop (n * ti.size + new.length)) et 0)) (gone := some id) (d := d) (x := some ni) (lb := .row et ti.sh (xs.take n ++ ys)) hp hdom hgone
                (fun b y h hng => by
                  rw [AHeap.get_put_other]
                  · exact h
                  · rintro rfl; exact hng ⟨id, ni, rfl, hn, rfl⟩) (by simp [AHeap.put]) (by rintro nj hnj; cases hnj; exact .inr ⟨id, ni, rfl, hn, rfl⟩)
                ⟨by omega, .inr ⟨ni, vs0.take (n * ti.size) ++ new, vs0.drop (n * ti.size + new.length), 0, upd_at, AHeap.get_put (Nat.zero_le _), happ, .inr ⟨by
                  rw [htot]; congr 1
                  simp only [List.length_append, List.length_take, List.length_drop]; omega, rfl⟩⟩⟩
              refine ⟨some id, _, _, _, _, _, rfl, rfl, hop hap, q1, VS.mkWin ?_, q2⟩
              unfold WinR; rw [upd_at]
              refine .inr ⟨cap, by simp, ?_⟩
              rw [htot]
              exact ⟨hfit, d2, by rw [hsz, Nat.zero_add]; exact d3⟩
            · have hold : aCells H ⟨ni.b, 0, none⟩ (n * T.size) = some (vs0.take (n * ti.size)) := by
                simp only [aCells, hb]
                rw [hTs, if_pos (by omega)]; simp
              have hap : aAppend P H ts (.slice (some ⟨ni.b, 0, none⟩) n cap) vx = some (.slice (some ⟨H.next, 0, none⟩) (n + ys.length) openCap, H.add (.cells (vs0.take (n * ti.size) ++ new) T.elem (10 + T.size))) := by
                simp only [aAppend, hT, n1, hn2]
                rw [if_neg (by rw [hnl']; simp), if_neg (by simp [hy]), if_neg (by simp), if_neg hno, if_neg hfit]
                simp only [hold]
                rw [if_pos ⟨by omega, by rw [hTb]; exact next_le (by omega) c1 c2, Nat.zero_le _⟩]
              obtain ⟨q1, q2⟩ := fresh_ok (H' := H.add (.cells (vs0.take (n * ti.size) ++ new) T.elem (10 + T.size))) (gone := some id) (d := d) (x := some ⟨H.next, none⟩) (lb := .row et ti.sh (xs.take n ++ ys)) hp hdom hgone
                (fun b y h _ => by rw [AHeap.get_add_other (by have := hdom _ _ h; omega)]; exact h) (by simp [AHeap.add]) (by rintro nj hnj; cases hnj; exact .inl rfl)
                ⟨by omega, .inr ⟨_, vs0.take (n * ti.size) ++ new, [], 10 + T.size, upd_at, by rw [List.append_nil, ← hTe]; exact AHeap.get_add (Nat.zero_le _), happ, .inl ⟨rfl, by rw [hTs, hsz]⟩⟩⟩
              refine ⟨some id, _, _, _, _, _, rfl, rfl, hop hap, q1, VS.mkWin ?_, q2⟩
              unfold WinR; rw [upd_at]
              exact .inr ⟨openCap, by simp, rfl⟩
theorem append_sound (ht : TTOK P tt) (hp : PR Z ν S E H) (hdom : ∀ i x, H.t.get i = some x → i < H.next) (hρ : ∀ x s, ρ x = some s → ∃ v, ρ' x = some v ∧ VS Z ν s v) {o : Oper} {c : Call} {d : Nat} (ho : o.op = .call c) (hcal : c.callee = .builtin .append) {cs : List Prop} {r : Option SV} {a : Ac}
    (h : pW tt ρ S.blk (some d) o = some (cs, (r, a))) (hc : ∀ c ∈ cs, c) : ∃ gone lb s v H' ν', a = .fresh gone lb ∧ r = some s ∧ aOp P F ρ' H o = some (.val v, H') ∧ PR Z ν' (S.fresh gone d lb) E H' ∧ VS Z ν' s v ∧ FC Z ν S H Z ν' (S.fresh gone d lb) H' := by
  unfold pW at h
  simp only [ho, hcal] at h
  split at h
  · rename_i s x t0 t1 hargs h0 h1
    split at h
    · rename_i et k0
      split at h
      · rename_i hseq
        split at h
        · rename_i ti hti
          split at h
          · rename_i cs0 ys hys
            split at h
            · rename_i hcond
              obtain ⟨hsz, hpos⟩ := hcond
              obtain ⟨vs, hvs, hl⟩ := pargs_sound hρ hargs
              obtain ⟨vsrc, vx, rfl, hs, hx⟩ := hl.one2
              obtain ⟨T, hT, hTe, hTs, hTb⟩ := aAppT_of ht h0 h1 k0 hseq hti hpos
              have hop : ∀ {r}, aAppend P H c.argTypes vsrc vx = some r → aOp P F ρ' H o = some (.val r.1, r.2) := by
                intro r hr
                obtain ⟨dst, op, type, pos, after, guard⟩ := o
                simp only at ho
                subst ho
                simp [aOp, aCall, hcal, hvs, aBuiltin, hr]
              split at h
              · cases h
                obtain ⟨new, n1, n2, n3⟩ := newL_sound hp hys (fun c hcc => hc c (List.mem_append_left _ hcc)) hx
                have hnl := n3.len (fun x u k => RV.len ti.sh x u k)
                have hn2 := n2 ys.length (Nat.le_refl _)
                rw [hsz, ← hTs] at hn2
                rw [hsz] at hnl
                rw [List.take_of_length_le (by rw [hnl, hTs]; exact Nat.le_refl _)] at hn2
                have c1 : ys.length < 2 ^ 30 := hc _ (List.mem_append_right _ (by simp))
                have c2 : ti.bytes ≤ 2 ^ 10 := hc _ (List.mem_append_right _ (by simp))
                rw [hs.nils] at hop
                by_cases hy : ys.length = 0
                · have hyn := List.eq_nil_of_length_eq_zero hy
                  subst hyn
                  have hap : aAppend P H c.argTypes (.slice none 0 0) vx = some (.slice none 0 0, H) := by
                    simp only [aAppend, hT, n1, hn2]
                    rw [if_neg (by rw [hnl, hTs]; simp), if_pos (by simp), if_pos (by simp)]
                  obtain ⟨q1, q2⟩ := fresh_ok (H' := H) (gone := none) (d := d) (x := none) (lb := .row et ti.sh []) hp hdom (by simp) (fun b y h _ => h) (Nat.le_refl _) (by simp) ⟨by omega, .inl ⟨upd_at, rfl⟩⟩
                  exact ⟨none, _, _, _, H, _, rfl, rfl, hop hap, q1, VS.mkWin (by unfold WinR; rw [upd_at]; exact ⟨rfl, rfl, .inl rfl⟩), q2⟩
                · have hap : aAppend P H c.argTypes (.slice none 0 0) vx = some (.slice (some ⟨H.next, 0, none⟩) (0 + ys.length) openCap, H.add (.cells new T.elem (10 + T.size))) := by
                    simp only [aAppend, hT, n1, hn2]
                    rw [if_neg (by rw [hnl, hTs]; simp), if_neg (by unfold openCap; omega), if_pos ⟨trivial, by omega, by rw [hTb]; exact next_le (by omega) (by omega) c2, Nat.zero_le _⟩]
                  obtain ⟨q1, q2⟩ := fresh_ok (H' := H.add (.cells new T.elem (10 + T.size))) (gone := none) (d := d) (x := some ⟨H.next, none⟩) (lb := .row et ti.sh ys) hp hdom (by simp) (fun b y h _ => by rw [AHeap.get_add_other (by have := hdom _ _ h; omega)]; exact h) (by simp [AHeap.add]) (by rintro ni hni; cases hni; exact .inl rfl)
                    ⟨by omega, .inr ⟨_, new, [], _, upd_at, by rw [List.append_nil, hTe]; exact AHeap.get_add (Nat.zero_le _), n3, .inl ⟨rfl, by rw [hTs, hsz]⟩⟩⟩
                  refine ⟨none, _, _, _, _, _, rfl, rfl, hop hap, q1, VS.mkWin ?_, q2⟩
                  unfold WinR; rw [upd_at]
                  exact .inr ⟨openCap, by simp, rfl⟩
              · rename_i rw0 e id lo n
                split at h
                · rename_i et' e' xs hlk
                  split at h
                  · rename_i he; subst he
                    split at h
                    · rename_i he2
                      obtain ⟨he3, rfl⟩ := he2
                      cases h
                      obtain ⟨new, n1, n2, n3⟩ := newL_sound hp hys (fun c hcc => hc c (List.mem_append_left _ (List.mem_append_left _ hcc))) hx
                      have hnl := n3.len (fun x u k => RV.len ti.sh x u k)
                      have hn2 := n2 ys.length (Nat.le_refl _)
                      rw [hsz, ← hTs] at hn2
                      rw [hsz] at hnl
                      rw [List.take_of_length_le (by rw [hnl, hTs]; exact Nat.le_refl _)] at hn2
                      have c0 : lo = 0 := hc _ (List.mem_append_right _ (by simp))
                      have c1 : n + ys.length < 2 ^ 30 := hc _ (List.mem_append_right _ (by simp))
                      have c2 : ti.bytes ≤ 2 ^ 10 := hc _ (List.mem_append_right _ (by simp))
                      have c3 : n ≤ xs.length ∧ (rw0 = false → 0 < n) ∧ (rw0 = true → n = xs.length) := by
                        cases rw0 with
                        | true => have : n = xs.length := hc _ (List.mem_append_left _ (List.mem_append_right _ (by simp))); exact ⟨by omega, by simp, fun _ => this⟩
                        | false =>
                          have a1 : 0 < n := hc _ (List.mem_append_left _ (List.mem_append_right _ (by simp)))
                          have a2 : n ≤ xs.length := hc _ (List.mem_append_left _ (List.mem_append_right _ (by simp)))
                          exact ⟨a2, fun _ => a1, by simp⟩
                      subst c0
                      subst he3
                      exact append_win hp hdom (fun hr => hop hr) hlk hs.win hT hTe hTs hTb hsz hpos n1 hn2 n3 hnl c1 c2 c3
                    · cases h
                  · cases h
                · cases h
              · cases h
            · cases h
          · cases h
        · cases h
      · cases h
    · cases h
  · cases h
end
end Go.Px
namespace Go.Px
open Ax
section
variable {P : Program} {tt : TT} {Z : Nat → Option ABlk} {ν : Nu} {S : PS} {E : T Value} {H H' : AHeap} {ρ : Operand → Option SV} {ρ' : Operand → Option Value} {F : FuncId → Bool}
theorem PR.ext {S' : PS} (hp : PR Z ν S E H) (he : ∀ t, lk S'.env t = lk S.env t) (hb : ∀ t, lk S'.blk t = lk S.blk t) : PR Z ν S' E H where
  env t s h := hp.env t s (by rw [← he]; exact h)
  blk t s h := hp.blk t s (by rw [← hb]; exact h)
  zh := hp.zh
  zo b := by
    rintro ⟨id, lb, ni, h1, h2, h3⟩
    exact hp.zo b ⟨id, lb, ni, by rw [← hb]; exact h1, h2, h3⟩
  inj i j li lj ni nj h1 h2 := hp.inj i j li lj ni nj (by rw [← hb]; exact h1) (by rw [← hb]; exact h2)
theorem FC.same {S' : PS} (hb : ∀ t, lk S'.blk t = lk S.blk t) : FC Z ν S H Z ν S' H := ⟨ZLe.refl _, fun _ h => .inl h, Nat.le_refl _, fun _ _ h _ _ => h, fun b ⟨id, lb, ni, h1, h2, h3⟩ => .inl ⟨id, lb, ni, by rw [← hb]; exact h1, h2, h3⟩⟩
theorem copy_sound (ht : TTOK P tt) (hp : PR Z ν S E H) (hρ : ∀ x s, ρ x = some s → ∃ v, ρ' x = some v ∧ VS Z ν s v) {o : Oper} {c : Call} {d : Option Nat} (ho : o.op = .call c) (hcal : c.callee = .builtin .copy) {cs : List Prop} {r : Option SV} {a : Ac}
    (h : pW tt ρ S.blk d o = some (cs, (r, a))) (hc : ∀ c ∈ cs, c) : ∃ id lb s v H', a = .turn id lb ∧ r = some s ∧ aOp P F ρ' H o = some (.val v, H') ∧ PR Z ν ⟨S.env, st S.blk id lb⟩ E H' ∧ VS Z ν s v ∧ FC Z ν S H Z ν ⟨S.env, st S.blk id lb⟩ H' := by
  unfold pW at h
  simp only [ho, hcal] at h
  · split at h
    · rename_i w e id lo n x t0 hargs h0
      split at h
      · rename_i et k0
        split at h
        · rename_i ti hti
          split at h
          · rename_i cs0 ys et' e' xs hys hlk
            split at h
            · rename_i he; subst he
              split at h
              · rename_i hsz
                cases h
                obtain ⟨vs, hvs, hl⟩ := pargs_sound hρ hargs
                obtain ⟨vd, vx, rfl, hs, hx⟩ := hl.one2
                have hin : lo + n ≤ xs.length := hc _ (List.mem_append_right _ (by simp))
                obtain ⟨new, n1, n2, n3⟩ := newL_sound hp hys (fun c hcc => hc c (List.mem_append_left _ hcc)) hx
                have hmin := n2 (Nat.min ys.length n) (Nat.min_le_left _ _)
                rw [Option.bind_eq_some_iff] at h0
                obtain ⟨t, ha, h0⟩ := h0
                have u0 := (ht _ _ h0).kind
                rw [k0] at u0
                simp only [KOK] at u0
                have hwr := hs.win
                obtain ⟨hpos, hbr⟩ := hp.blk _ _ hlk
                have hop : ∀ {r}, aCopy P H c.argTypes vd vx = some r → aOp P F ρ' H o = some (.val r.1, r.2) := by
                  intro r hr
                  obtain ⟨dst, op, type, pos, after, guard⟩ := o
                  simp only at ho
                  subst ho
                  simp [aOp, aCall, hcal, hvs, aBuiltin, hr]
                have hyt : ys.take n = ys.take (Nat.min ys.length n) := by
                  by_cases hq : ys.length ≤ n
                  · have e : Nat.min ys.length n = ys.length := Nat.min_eq_left hq
                    rw [e, List.take_of_length_le hq, List.take_of_length_le (Nat.le_refl _)]
                  · have e : Nat.min ys.length n = n := Nat.min_eq_right (by omega)
                    rw [e]
                have hsl : ∃ bb cap, vd = .slice bb n cap ∧ (0 < n → ∃ ni, ν id = some ni ∧ bb = some ⟨ni.b, lo * e'.size, none⟩) := by
                  unfold WinR at hwr
                  split at hwr
                  · obtain ⟨rfl, rfl, rfl | ⟨_, rfl⟩⟩ := hwr
                    · exact ⟨_, _, rfl, by omega⟩
                    · exact ⟨_, _, rfl, by omega⟩
                  · rename_i ni hn
                    rcases hwr with ⟨_, rfl, rfl | ⟨_, _, rfl, _⟩⟩ | ⟨cap, rfl, _⟩
                    · exact ⟨_, _, rfl, by omega⟩
                    · exact ⟨_, _, rfl, by omega⟩
                    · exact ⟨_, _, rfl, fun _ => ⟨ni, hn, rfl⟩⟩
                obtain ⟨bb, cap, rfl, hbb⟩ := hsl
                by_cases h0' : Nat.min ys.length n = 0
                · have hcp : aCopy P H c.argTypes (.slice bb n cap) vx = some (goInt (Nat.min ys.length n), H) := by
                    rw [h0', Nat.zero_mul, List.take_zero] at hmin
                    simp only [aCopy, ha, u0, n1, (ht _ _ hti).size, hsz, h0', hmin, if_true]
                  have e0 : setRow xs lo (ys.take n) = xs := by rw [hyt, h0']; simp [setRow]
                  have hb : ∀ t, lk (st S.blk id (.row et' e' xs)) t = lk S.blk t := by
                    intro t; rw [lk_st]; split
                    · rename_i h; subst h; exact hlk.symm
                    · rfl
                  rw [e0]
                  exact ⟨id, _, _, _, H, rfl, rfl, hop hcp, hp.ext (fun _ => rfl) hb, VS.mkInt, FC.same hb⟩
                · obtain ⟨ni, hn, rfl⟩ := hbb (by
                    have : Nat.min ys.length n ≤ n := Nat.min_le_right _ _
                    omega)
                  rcases hbr with ⟨hn', _⟩ | ⟨ni', cells, tl, k, hn', hb, hrv, hkk⟩
                  · rw [hn] at hn'; cases hn'
                  · rw [hn] at hn'; cases hn'
                    have hnl := n3.len (fun x u k => RV.len e' x u k)
                    have hnewt := RVL.take (fun x u k => RV.len e' x u k) (Nat.min ys.length n) n3
                    have hlen := hnewt.len (fun x u k => RV.len e' x u k)
                    have hcl := hrv.len (fun x u k => RV.len e' x u k)
                    generalize hm : Nat.min ys.length n = m at *
                    have hmn : m ≤ n := by rw [← hm]; exact Nat.min_le_right _ _
                    have hmy : m ≤ ys.length := by rw [← hm]; exact Nat.min_le_left _ _
                    have hyl : (ys.take m).length = m := by rw [List.length_take]; omega
                    rw [hyl] at hlen
                    have hk2 : k ≠ 2 := by rcases hkk with ⟨_, rfl⟩ | ⟨_, rfl⟩ <;> omega
                    have hb1 : lo * e'.size + m * e'.size ≤ xs.length * e'.size := by rw [← Nat.add_mul]; exact Nat.mul_le_mul_right _ (by omega)
                    have hst := aStore_of (off := lo * e'.size) hb hk2 (new := new.take (m * e'.size)) (by rw [hlen, List.length_append]; omega) (RVL.all (fun x u k => RV.one e' x u k) hnewt)
                    have hne : ¬ new.take (m * e'.size) = [] := by
                      intro hnil
                      rw [hnil] at hlen
                      have h9 : 0 < m * e'.size := Nat.mul_pos (by omega) hpos
                      have h8 : ([] : List Value).length = 0 := rfl
                      omega
                    have hcp : aCopy P H c.argTypes (.slice (some ⟨ni.b, lo * e'.size, none⟩) n cap) vx = some (goInt m, H.put ni.b (.cells ((cells ++ tl).take (lo * e'.size) ++ new.take (m * e'.size) ++ (cells ++ tl).drop (lo * e'.size + (new.take (m * e'.size)).length)) et' k)) := by
                      simp only [aCopy, ha, u0, n1, (ht _ _ hti).size, hsz, hm, hmin]
                      rw [if_neg hne, if_pos trivial, hst]
                    have hcells : (cells ++ tl).take (lo * e'.size) ++ new.take (m * e'.size) ++ (cells ++ tl).drop (lo * e'.size + (new.take (m * e'.size)).length) = (cells.take (lo * e'.size) ++ new.take (m * e'.size) ++ cells.drop (lo * e'.size + (new.take (m * e'.size)).length)) ++ tl := by
                      rw [List.take_append_of_le_length (by omega), List.drop_append_of_le_length (by rw [hlen]; omega)]
                      simp only [List.append_assoc]
                    have hrow : RVL (fun x u => RV Z e' x u) (setRow xs lo (ys.take n)) (cells.take (lo * e'.size) ++ new.take (m * e'.size) ++ cells.drop (lo * e'.size + (new.take (m * e'.size)).length)) := by
                      rw [hyt]
                      unfold setRow
                      rw [hyl, hlen, ← Nat.add_mul]
                      exact ((RVL.take (fun x u k => RV.len e' x u k) lo hrv).app hnewt).app (RVL.drop (fun x u k => RV.len e' x u k) (lo + m) hrv)
                    rw [hcells] at hcp
                    have hbr' : BR Z ν (H.put ni.b (.cells ((cells.take (lo * e'.size) ++ new.take (m * e'.size) ++ cells.drop (lo * e'.size + (new.take (m * e'.size)).length)) ++ tl) et' k)) id (.row et' e' (setRow xs lo (ys.take n))) := by
                      refine ⟨hpos, .inr ⟨ni, _, tl, k, hn, AHeap.get_put (Nat.zero_le _), hrow, ?_⟩⟩
                      rcases hkk with h | ⟨h1, h2⟩
                      · exact .inl h
                      · refine .inr ⟨?_, h2⟩
                        rw [h1]; congr 1
                        simp only [List.length_append, List.length_take, List.length_drop]
                        simp only [List.length_take] at hlen ⊢
                        omega
                    have hmm : (min ys.length n : Nat) = m := hm
                    refine ⟨id, _, _, _, _, rfl, rfl, hop hcp, hp.turn hlk hn hbr', ?_, FC.turn hlk hn⟩
                    simp only [hmm]
                    exact VS.mkInt
              · cases h
            · cases h
          · cases h
        · cases h
      · cases h
    · cases h
end
end Go.Px
namespace Go.Px
open Ax
def PS.put (S : PS) (d : Option Nat) (s : Option SV) : PS :=
  match d, s with
  | some d, some s => ⟨st S.env d s, S.blk⟩
  | some d, none => ⟨rm S.env d, S.blk⟩
  | none, _ => S
def PS.with (S : PS) (d : Nat) (s : SV) : PS := ⟨st S.env d s, S.blk⟩
/-- An operation that is no call. -/
def exO (tt : TT) (G : GV) (S : PS) (o : Oper) : PC PS :=
  match pA tt (pv G S.env) o with
  | some (cs, s) => some (cs, S.put o.dst (some s))
  | none => match pR tt (pv G S.env) S.blk o with
    | some (cs, s) => some (cs, S.put o.dst (some s))
    | none => match o.dst with
      | some d => match pF tt (pv G S.env) d o with
        | some (cs, (s, lb)) => some (cs, (S.fresh none d (killB d lb)).with d s)
        | none => match pW tt (pv G S.env) S.blk (some d) o with
          | some (cs, (r, .turn id lb)) => some (cs, PS.put ⟨S.env, st S.blk id lb⟩ (some d) r)
          | some (cs, (some s, .fresh gone lb)) => some (cs, (S.fresh gone d lb).with d s)
          | _ => none
      | none => match pW tt (pv G S.env) S.blk none o with
        | some (cs, (r, .turn id lb)) => some (cs, PS.put ⟨S.env, st S.blk id lb⟩ none r)
        | _ => none
/-- The package-level variables stand as they are said to. -/
def GZ (Z : Nat → Option ABlk) (G : GV) : Prop := (∀ g x, lk G.l g = some x → g < nglob ∧ ∀ ν, CR Z ν (.elv x.1 x.2) [.pointer (some ⟨g, 0, none⟩)]) ∧ ∀ g x, G.raw.get g = some x → Z g = some x
section
variable {P : Program} {tt : TT} {G : GV} {Z : Nat → Option ABlk} {ν : Nu} {S : PS} {E : T Value} {H H' : AHeap} {F : FuncId → Bool}
theorem GZ.mono {Z' : Nat → Option ABlk} (h : GZ Z G) (hz : ZLe Z Z') : GZ Z' G := ⟨fun g x e => ⟨(h.1 g x e).1, fun ν => CR.mono hz _ _ ((h.1 g x e).2 ν)⟩, fun g x e => hz _ _ (h.2 g x e)⟩
theorem pv_sound (hp : PR Z ν S E H) (hg : GZ Z G) : ∀ x s, pv G S.env x = some s → ∃ v, aEval E x = some v ∧ VS Z ν s v := by
  intro x s h
  cases x with
  | tmp t => exact hp.env t s h
  | const v =>
    simp only [pv] at h
    unfold cv at h
    split at h <;> first | (cases h; done) | skip
    · cases h; exact ⟨_, rfl, VS.mkInt⟩
    · cases h; exact ⟨_, rfl, VS.mkBool⟩
    · rename_i b
      cases h
      exact ⟨_, rfl, by
        have : Value.string b = bstr b.data.toList := by simp [bstr]
        rw [this]; exact VS.mkStr⟩
    · cases h
      exact ⟨_, rfl, VS.of_one (by simp only [CR]) rfl⟩
  | global g =>
    simp only [pv] at h
    rw [Option.map_eq_some_iff] at h
    obtain ⟨x, hx, rfl⟩ := h
    obtain ⟨h1, h2⟩ := hg.1 g x hx
    exact ⟨.pointer (some ⟨g, 0, none⟩), by simp [aEval, h1], VS.of_one (h2 ν) rfl⟩
  | func f =>
    simp only [pv, Option.some.injEq] at h
    subst h
    refine ⟨.func (.func f) #[] #[], rfl, VS.of_one ?_ rfl⟩
    simp only [CR]
    exact ⟨[], [], rfl, by simp only [CRO], by simp only [CRO]⟩
theorem PR.put' (hp : PR Z ν S E H) {d : Option Nat} {s : Option SV} {v : Value} {E' : T Value} {n : Nat} (hd : putE n d v E = some E') (h : ∀ s', s = some s' → VS Z ν s' v) : PR Z ν (S.put d s) E' H := by
  cases d with
  | none => simp only [putE, Option.some.injEq] at hd; subst hd; cases s <;> exact hp
  | some d =>
    cases s with
    | none => exact hp.lose hd
    | some s => exact hp.put hd (h s rfl)
theorem FC.put' {Z' : Nat → Option ABlk} {ν' : Nu} {S' : PS} {H' : AHeap} (h : FC Z ν S H Z' ν' S' H') (d : Option Nat) (s : Option SV) : FC Z ν S H Z' ν' (S'.put d s) H' := by
  have e : (S'.put d s).blk = S'.blk := by cases d <;> cases s <;> rfl
  exact ⟨h.z, h.zn, h.le, h.old, fun b ⟨id, lb, ni, h1, h2, h3⟩ => h.own b ⟨id, lb, ni, by rw [← e]; exact h1, h2, h3⟩⟩
/-- Whatever op that is no call does. -/
theorem exO_sound (ht : TTOK P tt) (hp : PR Z ν S E H) (hg : GZ Z G) (hdom : ∀ i x, H.t.get i = some x → i < H.next) {o : Oper} {cs : List Prop} {S' : PS} (h : exO tt G S o = some (cs, S')) (hc : ∀ c ∈ cs, c) {n : Nat} (hd : ∀ d, o.dst = some d → d < n ∧ d < 500000) :
    ∃ v H' E' ν', (aOp P F (aEval E) H o = some (.val v, H') ∨ (aOp P F (aEval E) H o = some (.skip, H') ∧ v = undef)) ∧ putE n o.dst v E = some E' ∧ PR Z ν' S' E' H' ∧ FC Z ν S H Z ν' S' H' := by
  have hρ := pv_sound hp hg
  have hput : ∀ v, ∃ E', putE n o.dst v E = some E' := by
    intro v
    cases hdd : o.dst with
    | none => exact ⟨E, rfl⟩
    | some d => exact ⟨_, by simp only [putE]; rw [if_pos (hd d hdd)]⟩
  unfold exO at h
  split at h
  · rename_i cs' s e
    cases h
    obtain ⟨v, hv, hvs⟩ := pA_sound (F := F) (H := H) ht hρ e hc
    obtain ⟨E', hE⟩ := hput v
    exact ⟨v, H, E', ν, .inl hv, hE, hp.put' hE (by rintro s' hs; cases hs; exact hvs), (FC.refl _ _ _ _).put' _ _⟩
  · split at h
    · rename_i cs' s e
      cases h
      obtain ⟨v, hv, hvs⟩ := pR_sound (F := F) ht hp hρ e hc
      obtain ⟨E', hE⟩ := hput v
      exact ⟨v, H, E', ν, .inl hv, hE, hp.put' hE (by rintro s' hs; cases hs; exact hvs), (FC.refl _ _ _ _).put' _ _⟩
    · split at h
      · rename_i d hdd
        split at h
        · rename_i cs' s lb e
          cases h
          obtain ⟨v, x, ni, hv, hnb, hvs, hbr⟩ := pF_sound (H := H) (F := F) ht hρ e hc
          obtain ⟨E', hE⟩ := hput v
          have q1 := hp.add hdom hnb hbr
          have q2 := FC.add (Z := Z) (ν := ν) (S := S) (d := d) (x := x) (lb := killB d lb) hnb
          refine ⟨v, H.add x, E', _, .inl hv, hE, ?_, FC.env q2⟩
          rw [hdd] at hE
          exact q1.put hE hvs
        · split at h
          · rename_i cs' r id lb e
            cases h
            have e' := e
            unfold pW at e'
            split at e'
            · rename_i t p x hop
              have hx : ∃ a b, pv G S.env p = some a ∧ pv G S.env x = some b := by
                cases h1 : pv G S.env p with
                | none => rw [h1] at e'; simp at e'
                | some a =>
                  cases h2 : pv G S.env x with
                  | none => rw [h1, h2] at e'; simp at e'
                  | some b => exact ⟨a, b, rfl, rfl⟩
              obtain ⟨a, b, h1, h2⟩ := hx
              obtain ⟨va, ha, has⟩ := hρ _ _ h1
              obtain ⟨vb, hb, hbs⟩ := hρ _ _ h2
              obtain ⟨id', l0, ni, xx, lb', e1, e2, e3, e4, e5, e6⟩ := store_sound ht hp hop h1 h2 has hbs e hc
              cases e1
              obtain ⟨E', hE⟩ := hput undef
              have hao : aOp P F (aEval E) H o = some (.skip, H.put ni.b xx) := by
                obtain ⟨dst, op, type, pos, after, guard⟩ := o
                simp only at hop; subst hop
                simp [aOp, ha, hb, e5]
              rw [hdd] at hE ⊢
              exact ⟨undef, _, E', ν, .inr ⟨hao, rfl⟩, hE, (hp.turn e3 e4 e6).put' hE (by rw [e2]; simp), (FC.turn e3 e4).put' _ _⟩
            · rename_i c hop
              split at e'
              · rename_i d' hcal hdd'
                exfalso
                obtain ⟨gone, lb', s, v, H', ν', e1, _⟩ := append_sound (F := F) ht hp hdom hρ hop hcal e hc
                cases e1
              · rename_i hcal
                obtain ⟨id', lb', s, v, H', e1, e2, e3, e4, e5, e6⟩ := copy_sound (F := F) ht hp hρ hop hcal e hc
                cases e1
                obtain ⟨E', hE⟩ := hput v
                rw [hdd] at hE ⊢
                exact ⟨v, _, E', ν, .inl e3, hE, e4.put' hE (by rintro s' hs; rw [e2] at hs; cases hs; exact e5), e6.put' _ _⟩
              · cases e'
            · cases e'
          · rename_i cs' s gone lb e
            cases h
            have e' := e
            unfold pW at e'
            split at e'
            · rename_i t p x hop
              exfalso
              have hx : ∃ a b, pv G S.env p = some a ∧ pv G S.env x = some b := by
                cases h1 : pv G S.env p with
                | none => rw [h1] at e'; simp at e'
                | some a =>
                  cases h2 : pv G S.env x with
                  | none => rw [h1, h2] at e'; simp at e'
                  | some b => exact ⟨a, b, rfl, rfl⟩
              obtain ⟨a, b, h1, h2⟩ := hx
              obtain ⟨va, ha, has⟩ := hρ _ _ h1
              obtain ⟨vb, hb, hbs⟩ := hρ _ _ h2
              obtain ⟨id', l0, ni, xx, lb', e1, _⟩ := store_sound ht hp hop h1 h2 has hbs e hc
              cases e1
            · rename_i c hop
              split at e'
              · rename_i d' hcal hdd'
                obtain ⟨gone', lb', s', v, H', ν', e1, e2, e3, e4, e5, e6⟩ := append_sound (F := F) ht hp hdom hρ hop hcal e hc
                cases e1
                cases e2
                obtain ⟨E', hE⟩ := hput v
                refine ⟨v, H', E', ν', .inl e3, hE, ?_, FC.env e6⟩
                rw [hdd] at hE
                exact e4.put hE e5
              · rename_i hcal
                exfalso
                obtain ⟨id', lb', s, v, H', e1, _⟩ := copy_sound (F := F) ht hp hρ hop hcal e hc
                cases e1
              · cases e'
            · cases e'
          · cases h
      · rename_i hdd
        split at h
        · rename_i cs' r id lb e
          cases h
          have e' := e
          unfold pW at e'
          split at e'
          · rename_i t p x hop
            have hx : ∃ a b, pv G S.env p = some a ∧ pv G S.env x = some b := by
              cases h1 : pv G S.env p with
              | none => rw [h1] at e'; simp at e'
              | some a =>
                cases h2 : pv G S.env x with
                | none => rw [h1, h2] at e'; simp at e'
                | some b => exact ⟨a, b, rfl, rfl⟩
            obtain ⟨a, b, h1, h2⟩ := hx
            obtain ⟨va, ha, has⟩ := hρ _ _ h1
            obtain ⟨vb, hb, hbs⟩ := hρ _ _ h2
            obtain ⟨id', l0, ni, xx, lb', e1, e2, e3, e4, e5, e6⟩ := store_sound ht hp hop h1 h2 has hbs e hc
            cases e1
            have hao : aOp P F (aEval E) H o = some (.skip, H.put ni.b xx) := by
              obtain ⟨dst, op, type, pos, after, guard⟩ := o
              simp only at hop; subst hop
              simp [aOp, ha, hb, e5]
            rw [hdd]
            exact ⟨undef, _, E, ν, .inr ⟨hao, rfl⟩, rfl, hp.turn e3 e4 e6, FC.turn e3 e4⟩
          · rename_i c hop
            split at e'
            · rename_i d' hcal hdd'; cases hdd'
            · rename_i hcal
              obtain ⟨id', lb', s, v, H', e1, e2, e3, e4, e5, e6⟩ := copy_sound (F := F) ht hp hρ hop hcal e hc
              cases e1
              rw [hdd]
              exact ⟨v, _, E, ν, .inl e3, rfl, e4, e6⟩
            · cases e'
          · cases e'
        · cases h
end
end Go.Px
namespace Go.Px
open Ax
section
variable {ops : Array Oper} {X : Type} {stp : Nat → X → X → Prop} {eqv : X → X → Prop} {sw : Oper → Oper → Bool}
def Runs (stp : Nat → X → X → Prop) : List Nat → X → X → Prop
  | [], x, y => x = y
  | i :: l, x, y => ∃ z, stp i x z ∧ Runs stp l z y
/-- Steps that may change places. -/
structure Sw (ops : Array Oper) (stp : Nat → X → X → Prop) (eqv : X → X → Prop) (sw : Oper → Oper → Bool) : Prop where
  refl : ∀ x, eqv x x
  trans : ∀ x y z, eqv x y → eqv y z → eqv x z
  cong : ∀ i x x' y, eqv x x' → stp i x y → ∃ y', stp i x' y' ∧ eqv y y'
  swap : ∀ i j oi oj x x1 x2, ops[i]? = some oi → ops[j]? = some oj → sw oj oi = true → stp j x x1 → stp i x1 x2 → ∃ x3 x4, stp i x x3 ∧ stp j x3 x4 ∧ eqv x2 x4
theorem Runs.cong (h : Sw ops stp eqv sw) : ∀ {l : List Nat} {x x' y : X}, eqv x x' → Runs stp l x y → ∃ y', Runs stp l x' y' ∧ eqv y y'
  | [], x, x', y, he, hr => by cases hr; exact ⟨x', rfl, he⟩
  | i :: l, x, x', y, he, ⟨z, h1, h2⟩ => by
    obtain ⟨z', h3, h4⟩ := h.cong i x x' z he h1
    obtain ⟨y', h5, h6⟩ := Runs.cong h h4 h2
    exact ⟨y', ⟨z', h3, h5⟩, h6⟩
theorem Runs.append {l m : List Nat} {x y : X} : Runs stp (l ++ m) x y ↔ ∃ z, Runs stp l x z ∧ Runs stp m z y := by
  induction l generalizing x with
  | nil => exact ⟨fun h => ⟨x, rfl, h⟩, fun ⟨z, h1, h2⟩ => by cases h1; exact h2⟩
  | cons i l ih =>
    constructor
    · rintro ⟨z, h1, h2⟩
      obtain ⟨u, h3, h4⟩ := ih.1 h2
      exact ⟨u, ⟨z, h1, h3⟩, h4⟩
    · rintro ⟨u, ⟨z, h1, h3⟩, h4⟩
      exact ⟨z, h1, ih.2 ⟨u, h3, h4⟩⟩
theorem Runs.front (h : Sw ops stp eqv sw) {i : Nat} {oi : Oper} (hi : ops[i]? = some oi) : ∀ (l : List Nat) (x y : X), (∀ j ∈ l, ∃ oj, ops[j]? = some oj ∧ sw oj oi = true) → Runs stp (l ++ [i]) x y → ∃ y', Runs stp (i :: l) x y' ∧ eqv y y'
  | [], x, y, _, hr => ⟨y, hr, h.refl y⟩
  | j :: l, x, y, hl, ⟨x1, h1, hr⟩ => by
    obtain ⟨y1, ⟨x2, h2, h3⟩, e1⟩ := Runs.front h hi l x1 y (fun k hk => hl k (List.mem_cons_of_mem _ hk)) hr
    obtain ⟨oj, hj, hs⟩ := hl j (List.mem_cons_self ..)
    obtain ⟨x3, x4, h4, h5, e2⟩ := h.swap i j oi oj x x1 x2 hi hj hs h1 h2
    obtain ⟨y2, h6, e3⟩ := Runs.cong h e2 h3
    exact ⟨y2, ⟨x3, h4, x4, h5, h6⟩, h.trans _ _ _ e1 e3⟩
def drawS (sw : Oper → Oper → Bool) (ops : Array Oper) : Bool :=
  (List.range ops.size).all fun i => match ops[i]? with
    | some oi => (oi.after.toList.all fun e => !Region.binds .any e || decide (e.on < i)) &&
        (List.range i).all fun j => match ops[j]? with
          | some oj => sw oj oi || reach ops 12 i j
          | none => false
    | none => false
theorem drawS_at (h : drawS sw ops = true) {i : Nat} (hi : i < ops.size) : ∃ o, ops[i]? = some o ∧ (∀ e ∈ o.after, Region.binds .any e = true → e.on < i) ∧ ∀ j, j < i → ∃ oj, ops[j]? = some oj ∧ (sw oj o = true ∨ reach ops 12 i j = true) := by
  unfold drawS at h
  rw [List.all_eq_true] at h
  have := h i (by simpa using hi)
  have ho : ops[i]? = some ops[i] := by simp [hi]
  rw [ho] at this
  simp only [Bool.and_eq_true, List.all_eq_true] at this
  refine ⟨_, ho, fun e he hb => ?_, fun j hj => ?_⟩
  · have := this.1 e (by simpa using he)
    simpa [hb] using this
  · have := this.2 j (by simpa using hj)
    cases hoj : ops[j]? with
    | none => rw [hoj] at this; cases this
    | some oj => rw [hoj] at this; exact ⟨oj, rfl, by simpa using this⟩
theorem go_soundS (hsw : Sw ops stp eqv sw) (hd : drawS sw ops = true) : ∀ (fuel t : Nat) (listed : Array Bool) (x y : X), listed.size = ops.size → Closed ops listed → (unl ops.size listed).length ≤ fuel →
    Runs stp (unl ops.size listed) x y → ∃ y', Runs stp (Region.linearise.go .any ops fuel t listed []) x y' ∧ eqv y y'
  | 0, t, listed, x, y, hsz, hc, hf, h => by
    have : unl ops.size listed = [] := List.eq_nil_of_length_eq_zero (by omega)
    rw [this] at h
    exact ⟨y, by simpa [Region.linearise.go] using h, hsw.refl y⟩
  | fuel + 1, t, listed, x, y, hsz, hc, hf, h => by
    simp only [Region.linearise.go]
    change ∃ y', Runs stp (match (Region.ready .any ops listed)[t % (Region.ready .any ops listed).length]? with
      | some i => Region.linearise.go .any ops fuel (t / (Region.ready .any ops listed).length) (listed.setIfInBounds i true) [i]
      | none => [].reverse) x y' ∧ eqv y y'
    cases hi : (Region.ready .any ops listed)[t % (Region.ready .any ops listed).length]? with
    | none =>
      have hnil : Region.ready .any ops listed = [] := by
        cases hr : Region.ready .any ops listed with
        | nil => rfl
        | cons x xs =>
          rw [hr] at hi
          have hlt : t % (x :: xs).length < (x :: xs).length := Nat.mod_lt _ (by simp)
          simp at hi
          simp at hlt
          omega
      have : unl ops.size listed = [] := by
        cases hu : unl ops.size listed with
        | nil => rfl
        | cons i l =>
          exfalso
          have hm : i ∈ unl ops.size listed := by rw [hu]; exact List.mem_cons_self ..
          have hm' := List.mem_filter.1 hm
          have hlt : i < ops.size := by simpa using hm'.1
          obtain ⟨o, ho, he, _⟩ := drawS_at hd hlt
          have hp : (unl ops.size listed).Pairwise (· < ·) := (List.pairwise_lt_range).filter _
          rw [hu] at hp
          have : i ∈ Region.ready .any ops listed := Ax.mem_ready.2 ⟨hlt, by simpa using hm'.2, o, ho, fun e hee hb => by
            have hei := he e hee hb
            cases hle : listed.getD e.on false with
            | true => rfl
            | false =>
              exfalso
              have hmem : e.on ∈ unl ops.size listed := by
                refine List.mem_filter.2 ⟨by simp; omega, ?_⟩
                rw [Array.getD_eq_getD_getElem?] at hle ⊢
                have : e.on < listed.size := by omega
                simp [this] at hle ⊢
                exact hle
              rw [hu] at hmem
              rcases List.mem_cons.1 hmem with e1 | e1
              · omega
              · have := (List.pairwise_cons.1 hp).1 _ e1; omega⟩
          rw [hnil] at this; cases this
      rw [this] at h
      exact ⟨y, by simpa using h, hsw.refl y⟩
    | some i =>
      simp only []
      have hr : i ∈ Region.ready .any ops listed := List.mem_of_getElem? hi
      obtain ⟨h1, h2, o, ho, h3⟩ := Ax.mem_ready.1 hr
      have hm : i ∈ unl ops.size listed := List.mem_filter.2 ⟨by simpa using h1, by simpa using h2⟩
      obtain ⟨c1, c2, he, hlt, he2⟩ := unl_split hm hsz
      rw [linearise_go_acc, List.reverse_singleton, List.singleton_append]
      have hfront : ∃ y', Runs stp (i :: (c1 ++ c2)) x y' ∧ eqv y y' := by
        have e3 : c1 ++ i :: c2 = (c1 ++ [i]) ++ c2 := by simp
        rw [he, e3, Runs.append] at h
        obtain ⟨z, hz, h⟩ := h
        obtain ⟨z', hz', ez⟩ := Runs.front hsw ho c1 x z (fun j hj => by
          obtain ⟨hji, hjl⟩ := hlt j hj
          obtain ⟨o', ho', _, hall⟩ := drawS_at hd h1
          rw [ho] at ho'; cases ho'
          obtain ⟨oj, hoj, hk⟩ := hall j hji
          rcases hk with hk | hk
          · exact ⟨oj, hoj, hk⟩
          · have := reach_listed hsz hc 12 i j o ho h3 hk
            exfalso
            rw [Array.getD_eq_getD_getElem?] at this hjl
            have hjs : j < listed.size := by omega
            simp [hjs] at this hjl
            rw [this] at hjl; cases hjl) hz
        have e4 : i :: (c1 ++ c2) = (i :: c1) ++ c2 := by simp
        obtain ⟨y', hy', ey⟩ := Runs.cong hsw ez h
        exact ⟨y', by rw [e4, Runs.append]; exact ⟨z', hz', hy'⟩, ey⟩
      obtain ⟨y1, ⟨z, hz, hfront⟩, e1⟩ := hfront
      have hle : (unl ops.size (listed.setIfInBounds i true)).length ≤ fuel := by
        have := congrArg List.length he
        rw [he2]
        simp at this ⊢
        omega
      obtain ⟨y2, hy2, e2⟩ := go_soundS hsw hd fuel (t / (Region.ready .any ops listed).length) _ z y1 (by simpa using hsz) (hc.set hsz hr) hle (by rw [he2]; exact hfront)
      exact ⟨y2, ⟨z, hz, hy2⟩, hsw.trans _ _ _ e1 e2⟩
theorem schedule_soundS {P : Program} (hm : P.follows .mixedOrders = true) (hsw : Sw ops stp eqv sw) (t : Nat) {x y : X} (hd : drawS sw ops = true) (h : Runs stp (List.range ops.size) x y) :
    ∃ y', Runs stp (Region.schedule (P.follows .mixedOrders) ops t) x y' ∧ eqv y y' := by
  simp only [Region.schedule, hm, Bool.true_or, if_true, Region.linearise]
  have hu : unl ops.size (Array.replicate ops.size false) = List.range ops.size := by
    unfold unl
    refine List.filter_eq_self.2 fun i hi => ?_
    have : i < ops.size := by simpa using hi
    simp [this]
  refine go_soundS hsw hd _ _ _ x y (by simp) (fun i o ho hl e he hb hi => ?_) (by rw [hu]; simp) (by rw [hu]; exact h)
  simp [hi] at hl
end
end Go.Px
namespace Go.Px
open Ax
@[reducible] def DL : List Sh → Type
  | [] => Unit
  | σ :: l => σ.D × DL l
/-- What a function gives: the names of rows in 'out' are their places in 'rows'. -/
structure Ctr where
  args : List Sh
  pre : DL args → Prop
  out : DL args → List SV
  rows : DL args → List LB
abbrev CV := List (Nat × Ctr)
def rdSl (blk : List (Nat × LB)) (e : Sh) : List SV → PC (List e.D × List SV)
  | .win _ e' id lo n :: m => match lk blk id with
    | some (.row _ e2 xs) => if h : e2 = e then if e' = e then some ([lo + n ≤ xs.length], (winL e lo n (h ▸ xs), m)) else none else none
    | _ => none
  | l => match toSl e l with
    | some r => ok r
    | none => none
def rdL (blk : List (Nat × LB)) : (σ : Sh) → List SV → PC (σ.D × List SV)
  | .unit, l => ok ((), l)
  | .pair a b, l => match rdL blk a l with
    | some (c1, (x, l1)) => match rdL blk b l1 with
      | some (c2, (y, l2)) => some (c1 ++ c2, ((x, y), l2))
      | none => none
    | none => none
  | .sl e, l => rdSl blk e l
  | .int k, l => match toI k l with
    | some r => ok r
    | none => none
  | .bool, l => match toBo l with
    | some r => ok r
    | none => none
  | .str, l => match toSt l with
    | some r => ok r
    | none => none
  | .arr n e, l => match toAr n e l with
    | some r => ok r
    | none => none
def aggSV : SV → Bool
  | .agg _ | .arr _ _ _ => true
  | _ => false
def rd (blk : List (Nat × LB)) (σ : Sh) (s : SV) : PC σ.D :=
  if aggSV s = σ.isAgg ∧ isTup s = false then match rdL blk σ (items s) with
    | some (cs, (x, [])) => some (cs, x)
    | _ => none else none
def rdArgs (blk : List (Nat × LB)) : (as : List Sh) → List SV → PC (DL as)
  | [], [] => ok ()
  | σ :: as, s :: l => match rd blk σ s, rdArgs blk as l with
    | some (c1, x), some (c2, y) => some (c1 ++ c2, (x, y))
    | _, _ => none
  | _, _ => none
def VArgs (Z : Nat → Option ABlk) : (as : List Sh) → DL as → List Value → Prop
  | [], _, vs => vs = []
  | σ :: as, x, vs => ∃ v w, vs = v :: w ∧ (∀ ν, VS Z ν (ofD σ x.1) v) ∧ VArgs Z as x.2 w
/-- A function keeps what is said of it. -/
def Held (P : Program) (G : GV) (f : FuncId) (ct : Ctr) : Prop :=
  ∀ x, ct.pre x → ∀ (base : Prot) (M : Map) (args args' : Array Value) (w : World) (cs : List Frame) (Z : Nat → Option ABlk) (H : AHeap), VArgs Z ct.args x args.toList → (∀ b y, Z b = some y → H.t.get b = some y ∧ isCells y) → GZ Z G → VRA M args args' → Rel base M H w →
    ∃ Z' ν' H' M' w' v' vs fr', ZLe Z Z' ∧ (∀ b, Z' b ≠ none → Z b ≠ none ∨ H.next ≤ b) ∧ (∀ b y, Z' b = some y → H'.t.get b = some y ∧ isCells y) ∧ H.next ≤ H'.next ∧ (∀ b y, H.t.get b = some y → H'.t.get b = some y) ∧
      V1L Z' ν' (ct.out x) vs ∧ (∀ i lb, (ct.rows x)[i]? = some lb → BR Z' ν' H' i lb ∧ ∀ ni, ν' i = some ni → H.next ≤ ni.b ∧ Z' ni.b = none) ∧
      (∀ i j li lj ni nj, (ct.rows x)[i]? = some li → (ct.rows x)[j]? = some lj → ν' i = some ni → ν' j = some nj → ni.b = nj.b → i = j) ∧
      Ext M M' ∧ VR M' (resOf vs) v' ∧ Rel base M' H' w' ∧ Below base w w' ∧ Steps P (lone (Frame.enter P f args' .normal) cs w) (lone fr' cs w') ∧ fr'.fn = f ∧ fr'.leaving P w' (.returned v')
/-- The name of the row i that the call at d gives. -/
def nm (d i : Nat) : Nat := 1000000 + 64 * d + i
mutual
def ren (d : Nat) : SV → SV
  | .win r e id lo n => .win r e (nm d id) lo n
  | .agg l => .agg (renL d l)
  | .tup l => .tup (renL d l)
  | s => s
def renL (d : Nat) : List SV → List SV
  | [] => []
  | s :: l => ren d s :: renL d l
end
mutual
/-- Whether only windows on rows of its own, and plain data, are in it. -/
def okOut (k : Nat) : SV → Bool
  | .win _ _ id _ _ => decide (id < k)
  | .agg l => okOutL k l
  | .int _ _ | .bool _ | .str _ | .nils => true
  | .arr _ e _ => e.plain
  | .sl _ _ => true
  | _ => false
def okOutL (k : Nat) : List SV → Bool
  | [] => true
  | s :: l => okOut k s && okOutL k l
end
mutual
/-- Whether it hangs on no memory but its rows. -/
def plainSV : SV → Bool
  | .sl _ _ => false
  | .agg l => plainSVL l
  | _ => true
def plainSVL : List SV → Bool
  | [] => true
  | s :: l => plainSV s && plainSVL l
end
def plainLB : LB → Bool
  | .row _ e _ => e.plain
  | _ => false
def isRow : LB → Bool
  | .row _ _ _ => true
  | _ => false
mutual
def noWin : SV → Bool
  | .win _ _ _ _ _ => false
  | .agg l => noWinL l
  | _ => true
def noWinL : List SV → Bool
  | [] => true
  | s :: l => noWin s && noWinL l
end
def addRows (S : PS) : List (Nat × LB) → PS
  | [] => S
  | (id, lb) :: l => addRows ⟨(S.kill id).env, st (S.kill id).blk id lb⟩ l
def names (d : Nat) : Nat → List LB → List (Nat × LB)
  | _, [] => []
  | i, lb :: l => (nm d i, lb) :: names d (i + 1) l
def one (l : List SV) : SV :=
  match l with
  | [s] => s
  | l => .tup l
/-- A call, by what is said of the function. -/
def exC (C : CV) (ρ : Operand → Option SV) (blk : List (Nat × LB)) (d : Nat) (o : Oper) : PC (SV × List (Nat × LB)) :=
  match o.op with
  | .call c => match c.callee with
    | .value fo => match ρ fo, pargs ρ c.args with
      | some (.fn f a k), some l => match lk C f with
        | some ct => match rdArgs blk ct.args (a ++ l ++ k) with
          | some (cs, x) =>
            if a.all oneSV && k.all oneSV && okOutL (ct.rows x).length (ct.out x) && (ct.rows x).all isRow && (noWinL (a ++ l ++ k) || plainSVL (ct.out x) && (ct.rows x).all plainLB) then
              some (cs ++ [ct.pre x], (one (renL d (ct.out x)), names d 0 (ct.rows x))) else none
          | none => none
        | none => none
      | _, _ => none
    | _ => none
  | _ => none
section
variable {P : Program} {tt : TT} {G : GV} {Z : Nat → Option ABlk} {ν : Nu} {S : PS} {E : T Value} {H H' : AHeap} {F : FuncId → Bool}
open Classical in
/-- All blocks as they are now. -/
noncomputable def Zc (Z : Nat → Option ABlk) (ν : Nu) (S : PS) (H : AHeap) : Nat → Option ABlk := fun b => if Own ν S b then H.t.get b else Z b
theorem Zc.le (hp : PR Z ν S E H) : ZLe Z (Zc Z ν S H) := by
  intro b x h
  unfold Zc
  split
  · rename_i ho; rw [hp.zo b ho] at h; cases h
  · exact h
theorem Zc.own {b : Nat} (h : Own ν S b) : Zc Z ν S H b = H.t.get b := by unfold Zc; rw [if_pos h]
theorem Zc.zh (hp : PR Z ν S E H) : ∀ b y, Zc Z ν S H b = some y → H.t.get b = some y ∧ isCells y := by
  intro b y h
  unfold Zc at h
  split at h
  · rename_i ho
    obtain ⟨id, lb, ni, h1, h2, rfl⟩ := ho
    obtain ⟨vs, et, k, hg⟩ := (hp.blk id lb h1).at h2
    rw [hg] at h; cases h
    exact ⟨hg, trivial⟩
  · exact hp.zh b y h
theorem rdSl_sound (hp : PR Z ν S E H) {e : Sh} {l r : List SV} {x : List e.D} {cs : List Prop} {vs : List Value} (h : rdSl S.blk e l = some (cs, (x, r))) (hc : ∀ c ∈ cs, c) (hv : CRL Z ν l vs) : ∃ u w, vs = u ++ w ∧ RV (Zc Z ν S H) (.sl e) x u ∧ CRL Z ν r w := by
  unfold rdSl at h
  split at h
  · rename_i rw0 e' id lo n m
    split at h
    · rename_i et e2 xs hl
      split at h
      · rename_i he; subst he
        split at h
        · rename_i he; subst he; cases h
          have hin : lo + n ≤ xs.length := hc _ (by simp)
          simp only [CRL, CR] at hv
          obtain ⟨u, w, rfl, ⟨v, rfl, hw⟩, h2⟩ := hv
          refine ⟨[v], w, rfl, ?_, h2⟩
          simp only [RV]
          refine ⟨v, rfl, ?_⟩
          obtain ⟨hpos, hbr⟩ := hp.blk _ _ hl
          unfold WinR at hw
          split at hw
          · obtain ⟨rfl, rfl, hvv⟩ := hw
            refine .inl ⟨by simp [winL], ?_⟩
            rcases hvv with h | ⟨_, h⟩
            · exact .inl h
            · exact .inr h
          · rename_i ni hn
            rcases hbr with ⟨hn', _⟩ | ⟨ni', cs', tl, k, hn', hb, hrv, hkk⟩
            · rw [hn] at hn'; cases hn'
            · rw [hn] at hn'; cases hn'
              have hz : Zc Z ν S H ni.b = some (.cells (cs' ++ tl) et k) := by rw [Zc.own ⟨id, _, ni, hl, hn, rfl⟩]; exact hb
              obtain ⟨q1, q2, q3⟩ := win_cells (tl := tl) hrv hin
              have q1' : RVL (fun x u => RV (Zc Z ν S H) e' x u) (winL e' lo n xs) (((cs' ++ tl).drop (lo * e'.size)).take (n * e'.size)) := RVL.mono (fun x u k => RV.mono (Zc.le hp) e' x u k) q1
              rcases hw with ⟨_, rfl, rfl | ⟨o2, t2, rfl, ht2, ho2⟩⟩ | ⟨cap, rfl, hcap⟩
              · exact .inl ⟨by simp [winL], .inr rfl⟩
              · have e0 : winL e' lo 0 xs = [] := by simp [winL]
                rw [e0]
                rcases hkk with ⟨q, _⟩ | ⟨q, _⟩
                · rw [ht2] at q; cases q
                · rw [ht2] at q; cases q
                  exact .inr ⟨ni.b, o2, 0, _, et, k, rfl, hz, by simpa using ho2, by simp [RVL], .inr ⟨by simp, by decide⟩⟩
              · refine .inr ⟨ni.b, lo * e'.size, cap, _, et, k, by rw [q3], hz, by rw [q3]; exact q2, by rw [q3]; exact q1', ?_⟩
                rw [q3]
                rcases hkk with ⟨htot, rfl⟩ | ⟨htot, rfl⟩
                · rw [htot] at hcap
                  exact .inl ⟨hcap, rfl, Nat.mul_mod_left _ _⟩
                · rw [htot] at hcap
                  exact .inr ⟨hcap.1, hcap.2.1⟩
        · cases h
      · cases h
    · cases h
  · split at h
    · rename_i r0 hr
      cases h
      have : toDL (.sl e) l = some (x, r) := hr
      obtain ⟨u, w, h1, h2, h3⟩ := toDL_sound (.sl e) this hv
      exact ⟨u, w, h1, RV.mono (Zc.le hp) _ _ _ h2, h3⟩
    · cases h
theorem rdL_sound (hp : PR Z ν S E H) : ∀ (σ : Sh) {l r : List SV} {x : σ.D} {cs : List Prop} {vs : List Value}, rdL S.blk σ l = some (cs, (x, r)) → (∀ c ∈ cs, c) → CRL Z ν l vs → ∃ u w, vs = u ++ w ∧ RV (Zc Z ν S H) σ x u ∧ CRL Z ν r w
  | .unit, l, r, x, cs, vs, h, hc, hv => by
    simp only [rdL] at h; cases h
    exact ⟨[], vs, rfl, by simp only [RV], hv⟩
  | .pair a b, l, r, x, cs, vs, h, hc, hv => by
    simp only [rdL] at h
    split at h
    · rename_i c1 x1 l1 e1
      split at h
      · rename_i c2 y l2 e2
        cases h
        obtain ⟨u, w, rfl, h1, h2⟩ := rdL_sound hp a e1 (fun c hcc => hc c (List.mem_append_left _ hcc)) hv
        obtain ⟨u2, w2, rfl, h3, h4⟩ := rdL_sound hp b e2 (fun c hcc => hc c (List.mem_append_right _ hcc)) h2
        exact ⟨u ++ u2, w2, by simp, by simp only [RV]; exact ⟨u, u2, rfl, h1, h3⟩, h4⟩
      · cases h
    · cases h
  | .sl e, l, r, x, cs, vs, h, hc, hv => by
    simp only [rdL] at h
    exact rdSl_sound hp h hc hv
  | .int k, l, r, x, cs, vs, h, hc, hv => by
    simp only [rdL] at h
    split at h
    · rename_i r0 hr
      cases h
      obtain ⟨u, w, h1, h2, h3⟩ := toDL_sound (.int k) (show toDL (.int k) l = some (x, r) from hr) hv
      exact ⟨u, w, h1, RV.mono (Zc.le hp) _ _ _ h2, h3⟩
    · cases h
  | .bool, l, r, x, cs, vs, h, hc, hv => by
    simp only [rdL] at h
    split at h
    · rename_i r0 hr
      cases h
      obtain ⟨u, w, h1, h2, h3⟩ := toDL_sound .bool (show toDL .bool l = some (x, r) from hr) hv
      exact ⟨u, w, h1, RV.mono (Zc.le hp) _ _ _ h2, h3⟩
    · cases h
  | .str, l, r, x, cs, vs, h, hc, hv => by
    simp only [rdL] at h
    split at h
    · rename_i r0 hr
      cases h
      obtain ⟨u, w, h1, h2, h3⟩ := toDL_sound .str (show toDL .str l = some (x, r) from hr) hv
      exact ⟨u, w, h1, RV.mono (Zc.le hp) _ _ _ h2, h3⟩
    · cases h
  | .arr n e, l, r, x, cs, vs, h, hc, hv => by
    simp only [rdL] at h
    split at h
    · rename_i r0 hr
      cases h
      obtain ⟨u, w, h1, h2, h3⟩ := toDL_sound (.arr n e) (show toDL (.arr n e) l = some (x, r) from hr) hv
      exact ⟨u, w, h1, RV.mono (Zc.le hp) _ _ _ h2, h3⟩
    · cases h
/-- A value in cells of a shape. -/
theorem V1.form {s : SV} {v : Value} (h : V1 Z ν s v) (ha : aggSV s = true) : v = .agg v.cells := by
  cases s with
  | agg l => obtain ⟨vs, rfl, _⟩ := h; rfl
  | arr n e l => obtain ⟨vs, rfl, _⟩ := h; rfl
  | _ => simp [aggSV] at ha
theorem V1.cell {s : SV} {v : Value} (h : V1 Z ν s v) (ha : aggSV s = false) : v.cells = #[v] := by
  have h1 : ∀ l, s ≠ .agg l := by rintro l rfl; simp [aggSV] at ha
  have h2 : ∀ n e l, s ≠ .arr n e l := by rintro n e l rfl; simp [aggSV] at ha
  exact (V1.one h h1 h2).oneCells h1 h2
theorem rd_sound (hp : PR Z ν S E H) {σ : Sh} {s : SV} {x : σ.D} {cs : List Prop} {v : Value} (h : rd S.blk σ s = some (cs, x)) (hc : ∀ c ∈ cs, c) (hv : VS Z ν s v) : ∀ ν', VS (Zc Z ν S H) ν' (ofD σ x) v := by
  unfold rd at h
  split at h
  · rename_i hcond
    split at h
    · rename_i cs' x' e
      cases h
      have h1 := hv.v1 (VS.notup hcond.2)
      obtain ⟨u, w, hu, h2, h3⟩ := rdL_sound hp σ e hc h1.items
      simp only [CRL] at h3
      subst h3
      rw [List.append_nil] at hu
      intro ν'
      refine ofD_sound h2 ?_
      cases ha : σ.isAgg with
      | true =>
        simp only [if_true]
        rw [h1.form (by rw [hcond.1, ha]), ← hu]
      | false =>
        simp only [Bool.false_eq_true, if_false]
        rw [← hu, h1.cell (by rw [hcond.1, ha])]
    · cases h
  · cases h
theorem rdArgs_sound (hp : PR Z ν S E H) : ∀ {as : List Sh} {l : List SV} {x : DL as} {cs : List Prop} {vs : List Value}, rdArgs S.blk as l = some (cs, x) → (∀ c ∈ cs, c) → VSL Z ν l vs → VArgs (Zc Z ν S H) as x vs
  | [], l, x, cs, vs, h, hc, hv => by
    cases l with
    | nil => simp only [VSL] at hv; exact hv
    | cons s l => simp [rdArgs] at h
  | σ :: as, l, x, cs, vs, h, hc, hv => by
    cases l with
    | nil => simp [rdArgs] at h
    | cons s l =>
      simp only [rdArgs] at h
      split at h
      · rename_i c1 x1 c2 y e1 e2
        cases h
        simp only [VSL] at hv
        obtain ⟨v, w, rfl, h1, h2⟩ := hv
        exact ⟨v, w, rfl, rd_sound hp e1 (fun c hcc => hc c (List.mem_append_left _ hcc)) h1, rdArgs_sound hp e2 (fun c hcc => hc c (List.mem_append_right _ hcc)) h2⟩
      · cases h
end
end Go.Px
