/-
  A part of the proof: what the run over an abstract memory gives; conditions: those of each theorem.
-/
import Derived.Test.YtpfenodmchhglaaA1
namespace Go.Ax
def Ext (M M' : Map) : Prop := ∀ (i : Nat) (b : BI), M[i]? = some b → M'[i]? = some b
theorem Ext.refl (M : Map) : Ext M M := fun _ _ h => h
theorem Ext.trans {A B C : Map} (h : Ext A B) (k : Ext B C) : Ext A C := fun i b e => k i b (h i b e)
theorem Ext.snoc (M : Map) (b : BI) : Ext M (M ++ [b]) := fun i x h => by
  rw [List.getElem?_append_left (List.getElem?_eq_some_iff.1 h).1]; exact h
theorem FnR.mono {M M' : Map} (h : Ext M M') {f g : Fn} (k : FnR M f g) : FnR M' f g := by
  cases f with
  | yield l => obtain ⟨b, hb, e⟩ := k; exact ⟨b, h _ _ hb, e⟩
  | _ => exact k
mutual
theorem VR.mono {M M' : Map} (h : Ext M M') : ∀ (v r : Value), VR M v r → VR M' v r
  | .pointer (some a), r, k => by simp only [VR] at k ⊢; obtain ⟨b, hb, e⟩ := k; exact ⟨b, h _ _ hb, e⟩
  | .pointer none, r, k => by simpa only [VR] using k
  | .slice (some a) l c, r, k => by
    simp only [VR] at k ⊢
    split at k <;> rename_i hs
    · rw [if_pos hs]; exact k
    · rw [if_neg hs]; obtain ⟨b, hb, e⟩ := k; exact ⟨b, h _ _ hb, e⟩
  | .slice none l c, r, k => by simpa only [VR] using k
  | .map (some m), r, k => by simp only [VR] at k ⊢; obtain ⟨b, hb, e⟩ := k; exact ⟨b, h _ _ hb, e⟩
  | .map none, r, k => by simpa only [VR] using k
  | .chan _, r, k => by simp only [VR] at k
  | .func fn x y, r, k => by
    simp only [VR] at k ⊢
    obtain ⟨fn', x', y', hf, hx, hy, e⟩ := k
    exact ⟨fn', x', y', hf.mono h, VRA.mono h x x' hx, VRA.mono h y y' hy, e⟩
  | .iface t v, r, k => by simp only [VR] at k ⊢; obtain ⟨v', hv, e⟩ := k; exact ⟨v', VR.mono h v v' hv, e⟩
  | .agg cs, r, k => by simp only [VR] at k ⊢; obtain ⟨v', hv, e⟩ := k; exact ⟨v', VRA.mono h cs v' hv, e⟩
  | .tuple cs, r, k => by simp only [VR] at k ⊢; obtain ⟨v', hv, e⟩ := k; exact ⟨v', VRA.mono h cs v' hv, e⟩
  | .bool _, r, k => by simpa only [VR] using k
  | .int _ _, r, k => by simpa only [VR] using k
  | .float _ _, r, k => by simpa only [VR] using k
  | .complex _ _ _, r, k => by simpa only [VR] using k
  | .string _, r, k => by simpa only [VR] using k
  | .nilFunc, r, k => by simpa only [VR] using k
  | .nilIface, r, k => by simpa only [VR] using k
theorem VRA.mono {M M' : Map} (h : Ext M M') : ∀ (v r : Array Value), VRA M v r → VRA M' v r
  | ⟨l⟩, r, k => by simp only [VRA] at k ⊢; exact VRL.mono h l _ k
theorem VRL.mono {M M' : Map} (h : Ext M M') : ∀ (v r : List Value), VRL M v r → VRL M' v r
  | [], r, k => by simpa only [VRL] using k
  | v :: l, r, k => by
    simp only [VRL] at k ⊢
    obtain ⟨v', l', hv, hl, e⟩ := k
    exact ⟨v', l', VR.mono h v v' hv, VRL.mono h l l' hl, e⟩
end
theorem VRL.cons {M : Map} {v v' : Value} {l l' : List Value} (h : VR M v v') (k : VRL M l l') : VRL M (v :: l) (v' :: l') := by
  simp only [VRL]; exact ⟨v', l', h, k, rfl⟩
theorem VRL.nil {M : Map} : VRL M [] [] := by simp only [VRL]
theorem VRL.cases {M : Map} {v : Value} {l r : List Value} (h : VRL M (v :: l) r) : ∃ v' l', VR M v v' ∧ VRL M l l' ∧ r = v' :: l' := by simpa only [VRL] using h
theorem VRL.nil_cases {M : Map} {r : List Value} (h : VRL M [] r) : r = [] := by simpa only [VRL] using h
theorem VRL.length {M : Map} : ∀ {l r : List Value}, VRL M l r → r.length = l.length
  | [], _, h => by rw [h.nil_cases]
  | v :: l, _, h => by obtain ⟨v', l', _, hl, rfl⟩ := h.cases; simp [VRL.length hl]
theorem VRL.get {M : Map} : ∀ {l r : List Value}, VRL M l r → ∀ (i : Nat) (v : Value), l[i]? = some v → ∃ v', r[i]? = some v' ∧ VR M v v'
  | [], _, _, i, v, e => by simp at e
  | x :: l, _, h, i, v, e => by
    obtain ⟨x', l', hx, hl, rfl⟩ := h.cases
    cases i with
    | zero => simp at e; subst e; exact ⟨x', rfl, hx⟩
    | succ i => simp at e ⊢; exact VRL.get hl i v e
theorem VRL.of_get {M : Map} : ∀ {l r : List Value}, r.length = l.length → (∀ (i : Nat) (v v' : Value), l[i]? = some v → r[i]? = some v' → VR M v v') → VRL M l r
  | [], r, hl, _ => by rw [List.eq_nil_of_length_eq_zero hl]; exact .nil
  | x :: l, [], hl, _ => by simp at hl
  | x :: l, y :: r, hl, h => .cons (h 0 x y rfl rfl) (VRL.of_get (by simpa using hl) fun i v v' e e' => h (i + 1) v v' (by simpa using e) (by simpa using e'))
theorem VRL.append {M : Map} : ∀ {l r l2 r2 : List Value}, VRL M l r → VRL M l2 r2 → VRL M (l ++ l2) (r ++ r2)
  | [], _, _, _, h, k => by rw [h.nil_cases]; exact k
  | v :: l, _, _, _, h, k => by obtain ⟨v', l', hv, hl, rfl⟩ := h.cases; exact .cons hv (VRL.append hl k)
theorem VRL.take {M : Map} : ∀ {l r : List Value} (n : Nat), VRL M l r → VRL M (l.take n) (r.take n)
  | _, _, 0, _ => by simpa using VRL.nil
  | [], _, n + 1, h => by rw [h.nil_cases]; simpa using VRL.nil
  | v :: l, _, n + 1, h => by obtain ⟨v', l', hv, hl, rfl⟩ := h.cases; simpa using VRL.cons hv (VRL.take n hl)
theorem VRL.drop {M : Map} : ∀ {l r : List Value} (n : Nat), VRL M l r → VRL M (l.drop n) (r.drop n)
  | _, _, 0, h => by simpa using h
  | [], _, n + 1, h => by rw [h.nil_cases]; simpa using VRL.nil
  | v :: l, _, n + 1, h => by obtain ⟨v', l', _, hl, rfl⟩ := h.cases; simpa using VRL.drop n hl
theorem VRL.set {M : Map} : ∀ {l r : List Value} (n : Nat) {x x' : Value}, VRL M l r → VR M x x' → VRL M (l.set n x) (r.set n x')
  | [], _, n, _, _, h, _ => by rw [h.nil_cases]; simpa using VRL.nil
  | v :: l, _, 0, _, _, h, k => by obtain ⟨v', l', _, hl, rfl⟩ := h.cases; simpa using VRL.cons k hl
  | v :: l, _, n + 1, _, _, h, k => by obtain ⟨v', l', hv, hl, rfl⟩ := h.cases; simpa using VRL.cons hv (VRL.set n hl k)
theorem VRA.iff {M : Map} {a b : Array Value} : VRA M a b ↔ VRL M a.toList b.toList := by cases a; simp only [VRA]
/-- Values that hold no address: they stand for themselves. -/
def flatFn : Fn → Bool
  | .yield _ => false
  | _ => true
mutual
def flat : Value → Bool
  | .pointer (some _) => false
  | .slice (some _) _ _ => false
  | .map (some _) => false
  | .chan _ => false
  | .func fn x y => flatFn fn && flatA x && flatA y
  | .iface _ v => flat v
  | .agg cs => flatA cs
  | .tuple cs => flatA cs
  | _ => true
def flatA : Array Value → Bool
  | ⟨l⟩ => flatL l
def flatL : List Value → Bool
  | [] => true
  | v :: l => flat v && flatL l
end
mutual
theorem VR.flat_iff {M : Map} : ∀ (v : Value), flat v = true → ∀ r, VR M v r ↔ r = v
  | .pointer (some a), k, r => by simp [flat] at k
  | .pointer none, k, r => by simp only [VR]
  | .slice (some a) l c, k, r => by simp [flat] at k
  | .slice none l c, k, r => by simp only [VR]
  | .map (some m), k, r => by simp [flat] at k
  | .map none, k, r => by simp only [VR]
  | .chan _, k, r => by simp [flat] at k
  | .func fn x y, k, r => by
    simp only [flat, Bool.and_eq_true] at k
    simp only [VR, VRA.flat_iff x k.1.2, VRA.flat_iff y k.2]
    constructor
    · rintro ⟨fn', x', y', hf, rfl, rfl, e⟩
      cases fn with
      | yield l => simp [flatFn] at k
      | _ => simp only [FnR] at hf; subst hf; exact e
    · intro e
      refine ⟨fn, x, y, ?_, rfl, rfl, e⟩
      cases fn with
      | yield l => simp [flatFn] at k
      | _ => rfl
  | .iface t v, k, r => by simp only [flat] at k; simp [VR, VR.flat_iff v k]
  | .agg cs, k, r => by simp only [flat] at k; simp [VR, VRA.flat_iff cs k]
  | .tuple cs, k, r => by simp only [flat] at k; simp [VR, VRA.flat_iff cs k]
  | .bool _, k, r => by simp only [VR]
  | .int _ _, k, r => by simp only [VR]
  | .float _ _, k, r => by simp only [VR]
  | .complex _ _ _, k, r => by simp only [VR]
  | .string _, k, r => by simp only [VR]
  | .nilFunc, k, r => by simp only [VR]
  | .nilIface, k, r => by simp only [VR]
theorem VRA.flat_iff {M : Map} : ∀ (v : Array Value), flatA v = true → ∀ r, VRA M v r ↔ r = v
  | ⟨l⟩, k, r => by
    simp only [flatA] at k
    simp only [VRA, VRL.flat_iff l k]
    constructor
    · intro h; cases r; simp at h; subst h; rfl
    · rintro rfl; rfl
theorem VRL.flat_iff {M : Map} : ∀ (v : List Value), flatL v = true → ∀ r, VRL M v r ↔ r = v
  | [], k, r => by simp only [VRL]
  | v :: l, k, r => by
    simp only [flatL, Bool.and_eq_true] at k
    simp only [VRL, VR.flat_iff v k.1, VRL.flat_iff l k.2]
    constructor
    · rintro ⟨v', l', rfl, rfl, e⟩; exact e
    · rintro rfl; exact ⟨v, l, rfl, rfl, rfl⟩
end
theorem flatL_mem : ∀ {l : List Value}, flatL l = true → ∀ v ∈ l, flat v = true
  | [], _, v, h => by simp at h
  | x :: l, k, v, h => by
    simp only [flatL, Bool.and_eq_true] at k
    rcases List.mem_cons.1 h with rfl | h
    · exact k.1
    · exact flatL_mem k.2 v h
theorem VR.self {M : Map} {v : Value} (h : flat v = true) : VR M v v := (VR.flat_iff v h v).2 rfl
theorem VRL.self {M : Map} {l : List Value} (h : flatL l = true) : VRL M l l := (VRL.flat_iff l h l).2 rfl
theorem VR.cells {M : Map} {v r : Value} (h : VR M v r) : VRL M v.cells.toList r.cells.toList := by
  have one : ∀ {v r : Value}, v.cells = #[v] → r.cells = #[r] → VR M v r → VRL M v.cells.toList r.cells.toList := by
    intro v r h1 h2 h; rw [h1, h2]; exact .cons h .nil
  cases v with
  | agg cs => simp only [VR] at h; obtain ⟨cs', hc, rfl⟩ := h; exact VRA.iff.1 hc
  | tuple cs => obtain ⟨cs', hc, rfl⟩ := (by simpa only [VR] using h : ∃ cs', VRA M cs cs' ∧ r = .tuple cs'); exact one rfl rfl h
  | pointer a =>
    cases a with
    | none => have h' := h; simp only [VR] at h'; subst h'; exact one rfl rfl h
    | some a => have h' := h; simp only [VR] at h'; obtain ⟨_, _, rfl⟩ := h'; exact one rfl rfl h
  | slice a l c =>
    cases a with
    | none => have h' := h; simp only [VR] at h'; subst h'; exact one rfl rfl h
    | some a =>
      have h' := h; simp only [VR] at h'; split at h'
      · obtain ⟨_, _, _, _, rfl⟩ := h'; exact one rfl rfl h
      · obtain ⟨_, _, rfl⟩ := h'; exact one rfl rfl h
  | map a =>
    cases a with
    | none => have h' := h; simp only [VR] at h'; subst h'; exact one rfl rfl h
    | some a => have h' := h; simp only [VR] at h'; obtain ⟨_, _, rfl⟩ := h'; exact one rfl rfl h
  | chan a => simp only [VR] at h
  | func fn x y => have h' := h; simp only [VR] at h'; obtain ⟨_, _, _, _, _, _, rfl⟩ := h'; exact one rfl rfl h
  | iface t v => have h' := h; simp only [VR] at h'; obtain ⟨_, _, rfl⟩ := h'; exact one rfl rfl h
  | _ => have h' := h; simp only [VR] at h'; subst h'; exact one rfl rfl h
def oneC : Value → Bool
  | .agg _ | .tuple _ => false
  | _ => true
theorem VR.oneCell {M : Map} {v r : Value} (h : VR M v r) (k : v.oneCell' = true) : r.oneCell' = true := by
  cases v with
  | agg cs => simp [Value.oneCell'] at k
  | tuple cs => simp [Value.oneCell'] at k
  | pointer a => cases a <;> simp only [VR] at h <;> first | (subst h; rfl) | (obtain ⟨_, _, rfl⟩ := h; rfl)
  | slice a l c =>
    cases a with
    | none => simp only [VR] at h; subst h; rfl
    | some a =>
      simp only [VR] at h; split at h
      · obtain ⟨_, _, _, _, rfl⟩ := h; rfl
      · obtain ⟨_, _, rfl⟩ := h; rfl
  | map a => cases a <;> simp only [VR] at h <;> first | (subst h; rfl) | (obtain ⟨_, _, rfl⟩ := h; rfl)
  | chan a => simp only [VR] at h
  | func fn x y => simp only [VR] at h; obtain ⟨_, _, _, _, _, _, rfl⟩ := h; rfl
  | iface t v => simp only [VR] at h; obtain ⟨_, _, rfl⟩ := h; rfl
  | _ => simp only [VR] at h; subst h; rfl
end Go.Ax
