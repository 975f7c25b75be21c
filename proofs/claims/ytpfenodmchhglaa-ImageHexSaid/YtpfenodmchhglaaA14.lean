/-
  A part of the proof: what the run over an abstract memory gives; conditions: those of each theorem.
-/
import Derived.Test.YtpfenodmchhglaaA13
namespace Go.Ax
def constsOf (c : Call) : Array Bool := c.args.map fun | .const _ => true | _ => false
def aBuiltin (P : Program) (H : AHeap) (b : Builtin) (ts : Array TypeId) (type : TypeId) (args : List Value) : Option (ANext × AHeap) :=
  match b, args with
  | .append, [s, x] => (aAppend P H ts s x).map fun r => (.val r.1, r.2)
  | .copy, [s, x] => (aCopy P H ts s x).map fun r => (.val r.1, r.2)
  | .len, args => (aLen P ts type args.toArray).map fun v => (.val v, H)
  | .min, args => if flatL args then match pureRun P (Builtin.min_ ts type args.toArray) with
    | some v => if flat v then some (.val v, H) else none
    | none => none else none
  | .max, args => if flatL args then match pureRun P (Builtin.max_ ts type args.toArray) with
    | some v => if flat v then some (.val v, H) else none
    | none => none else none
  | _, _ => none
def aEnter (F : FuncId → Bool) (H : AHeap) (f : Option Value) (args : List Value) : Option (ANext × AHeap) :=
  match f with
  | some (.func (.func g) first captured) => if F g then some (.enter g (first ++ args.toArray ++ captured), H) else none
  | some (.func (.yield l) first _) => some (.yld l (first ++ args.toArray), H)
  | _ => none
def aCall (P : Program) (F : FuncId → Bool) (ρ : Operand → Option Value) (H : AHeap) (c : Call) (type : TypeId) : Option (ANext × AHeap) :=
  match c.callee with
  | .builtin b => (aArgs ρ c.args).bind fun args => aBuiltin P H b c.argTypes type args
  | .value f => (aArgs ρ c.args).bind fun args => aEnter F H (ρ f) args
  | _ => none
/-- An operand that may be left out. -/
def aOpt (ρ : Operand → Option Value) : Option Operand → Option (Option Value)
  | none => some none
  | some x => match ρ x with
    | some v => if flat v then some (some v) else none
    | none => none
def aOp (P : Program) (F : FuncId → Bool) (ρ : Operand → Option Value) (H : AHeap) (o : Oper) : Option (ANext × AHeap) :=
  let v (r : Option Value) : Option (ANext × AHeap) := r.map fun v => (.val v, H)
  let vh (r : Option (Value × AHeap)) : Option (ANext × AHeap) := r.map fun r => (.val r.1, r.2)
  match o.op with
  | .move x | .assign x => v (ρ x)
  | .pick c a b => match ρ c with
    | some (.bool true) => v (ρ a)
    | some (.bool false) => v (ρ b)
    | _ => none
  | .alloc e => vh (aAlloc P H e)
  | .box e x => (ρ x).bind fun x => vh (aNew H e x.cells.toList)
  | .build t parts => (aParts ρ parts).bind fun l => v (aBuild P t l.toArray)
  | .buildSlice t n parts => (aParts ρ parts).bind fun l => vh (aBuildSlice P H t n l.toArray)
  | .load t a => (ρ a).bind fun a => v (aLoad P H t a)
  | .store t a x => (ρ a).bind fun a => (ρ x).bind fun x => (aStoreVar P H t a x).map fun H => (.skip, H)
  | .nilCheck x => match ρ x with
    | some (.pointer (some a)) => some (.val (.pointer (some a)), H)
    | some (.func (.func f) x y) => some (.val (.func (.func f) x y), H)
    | _ => none
  | .binOp op t x y _ => (ρ x).bind fun a => (ρ y).bind fun b => v (aBin P op t x y a b)
  | .unOp op _ x => (ρ x).bind fun a => if flat a then match pureRun P (Op.unary op a) with
    | some r => if flat r then some (.val r, H) else none
    | none => none else none
  | .convert s d x => (ρ x).bind fun a => vh (aConvert P H s d a)
  | .makeInterface t x => (ρ x).bind fun a => match pureRun P (underlying t) with
    | some (.interface _) => none
    | some _ => some (.val (.iface t a), H)
    | none => none
  | .makeFunc fn first captured => match fn with
    | .func f => (aArgs ρ first).bind fun x => (aArgs ρ captured).bind fun y => some (.val (.func (.func f) x.toArray y.toArray), H)
    | _ => none
  | .makeSlice t l c => (ρ l).bind fun l => (ρ c).bind fun c => vh (aMakeSlice P H t l c)
  | .slice t x lo hi mx => (ρ x).bind fun x => (aOpt ρ lo).bind fun lo => (aOpt ρ hi).bind fun hi => (aOpt ρ mx).bind fun mx => v (aSlice P H t x lo hi mx)
  | .fieldAddr s x f => (ρ x).bind fun x => v (aFieldAddr P s f x)
  | .field t x f => (ρ x).bind fun x => v (aField P t f x)
  | .indexAddr t x i => (ρ x).bind fun x => (ρ i).bind fun i => v (aIndexAddr P t x i)
  | .index t x i => (ρ x).bind fun x => (ρ i).bind fun i => v (aIndex P t x i)
  | .range t x => (ρ x).bind fun x => vh (aRange P H t x)
  | .next it s => (ρ it).bind fun x => vh (aNext H s x)
  | .extract t i => match ρ t with
    | some (.tuple vs) => v vs[i]?
    | _ => none
  | .call c => aCall P F ρ H c o.type
  | _ => none
def OpSnd (P : Program) (base : Prot) (M : Map) (w : World) (s : Sem Next) : ANext → AHeap → Prop
  | .val v, H' => ∃ M' w' r, s.run P w = .ok (.value r) w' ∧ Ext M M' ∧ VR M' v r ∧ Rel base M' H' w' ∧ Below base w w'
  | .skip, H' => ∃ w', s.run P w = .ok .skip w' ∧ Rel base M H' w' ∧ Below base w w'
  | .enter f args, H' => ∃ args', s.run P w = .ok (.enter f args') w ∧ VRA M args args' ∧ Rel base M H' w
  | .yld l args, H' => ∃ b args', M[l]? = some b ∧ VRA M args args' ∧ Rel base M H' w ∧ s.run P w = (Instr.yield b.real args').run P w
section
variable {P : Program} {base : Prot} {M : Map} {H H' : AHeap} {w : World}
theorem OpSnd.of_snd {s : Sem Value} {v : Value} (h : Snd P base M w s v H') {t : Sem Next} (ht : t = (do pure (.value (← s)))) : OpSnd P base M w t (.val v) H' := by
  obtain ⟨M', w', r, hr, rest⟩ := h
  exact ⟨M', w', r, by rw [ht]; simp [hr], rest⟩
theorem VRL.toArray {l r : List Value} (h : VRL M l r) : VRA M l.toArray r.toArray := VRA.iff.2 (by simpa using h)
theorem aOpt_sound {ρ : Operand → Option Value} {ρ' : Operand → Value} (hρ : ∀ x v, ρ x = some v → VR M v (ρ' x)) {x : Option Operand} {v : Option Value} (h : aOpt ρ x = some v) : x.map ρ' = v := by
  cases x with
  | none => simp only [aOpt, Option.some.injEq] at h; subst h; rfl
  | some x =>
    simp only [aOpt] at h
    split at h
    · rename_i v0 hv
      split at h
      · rename_i hf; cases h
        rw [Option.map_some, (VR.flat_iff _ hf _).1 (hρ x v0 hv)]
      · cases h
    · cases h
theorem aCall_sound (h : Rel base M H w) {F : FuncId → Bool} (hF : ∀ f, F f = true → ∀ args w, (callFunc f args).run P w = .ok (.enter f args) w) {ρ : Operand → Option Value} {ρ' : Operand → Value} (hρ : ∀ x v, ρ x = some v → VR M v (ρ' x))
    {c : Call} {type : TypeId} {n : ANext} (ha : aCall P F ρ H c type = some (n, H')) : OpSnd P base M w (do let d ← resolve ρ' c type; invoke d.target d.args) n H' := by
  unfold aCall at ha
  split at ha
  · rename_i b hc
    rw [Option.bind_eq_some_iff] at ha
    obtain ⟨args, hargs, ha⟩ := ha
    have hal := aArgs_sound hρ hargs
    unfold aBuiltin at ha
    split at ha
    · rename_i s x
      rw [Option.map_eq_some_iff] at ha
      obtain ⟨⟨v, H2⟩, hr, he⟩ := ha
      cases he
      refine OpSnd.of_snd (append_sound (P := P) (t := type) h hr hal) ?_
      simp [resolve, hc, invoke, builtin]
    · rename_i s x
      rw [Option.map_eq_some_iff] at ha
      obtain ⟨⟨v, H2⟩, hr, he⟩ := ha
      cases he
      refine OpSnd.of_snd (copy_sound (P := P) (t := type) h hr hal) ?_
      simp [resolve, hc, invoke, builtin]
    · rw [Option.map_eq_some_iff] at ha
      obtain ⟨v, hr, he⟩ := ha
      cases he
      refine OpSnd.of_snd (len_sound (P := P) (t := type) (args' := c.args.map ρ') h hr (by simpa using hal)) ?_
      simp [resolve, hc, invoke, builtin]
    · split at ha
      · rename_i hf
        split at ha
        · rename_i v0 hv0
          split at ha
          · rename_i hfv; cases ha
            have he := (VRL.flat_iff _ hf _).1 hal
            have he : c.args.map ρ' = args.toArray := by rw [← he, Array.toArray_toList]
            refine OpSnd.of_snd (s := Builtin.min_ c.argTypes type args.toArray) (Snd.still h (pureRun_run hv0 w) (VR.self hfv)) ?_
            simp [resolve, hc, invoke, builtin, he]
          · cases ha
        · cases ha
      · cases ha
    · split at ha
      · rename_i hf
        split at ha
        · rename_i v0 hv0
          split at ha
          · rename_i hfv; cases ha
            have he := (VRL.flat_iff _ hf _).1 hal
            have he : c.args.map ρ' = args.toArray := by rw [← he, Array.toArray_toList]
            refine OpSnd.of_snd (s := Builtin.max_ c.argTypes type args.toArray) (Snd.still h (pureRun_run hv0 w) (VR.self hfv)) ?_
            simp [resolve, hc, invoke, builtin, he]
          · cases ha
        · cases ha
      · cases ha
    · cases ha
  · rename_i f hc
    rw [Option.bind_eq_some_iff] at ha
    obtain ⟨args, hargs, ha⟩ := ha
    have hal := aArgs_sound hρ hargs
    unfold aEnter at ha
    split at ha
    · rename_i g first captured hf
      have hv := hρ _ _ hf
      simp only [VR] at hv
      obtain ⟨fn', x', y', hfn, hx, hy, hv⟩ := hv
      simp only [FnR] at hfn; subst hfn
      split at ha
      · rename_i hg; cases ha
        refine ⟨x' ++ c.args.map ρ' ++ y', ?_, ?_, h⟩
        · simp [resolve, hc, hv, Deferred.ofValue, invoke, hF g hg]
        · rw [VRA.iff] at hx hy ⊢
          simp only [Array.toList_append]
          exact (hx.append hal).append hy
      · cases ha
    · rename_i l first captured hf
      cases ha
      have hv := hρ _ _ hf
      simp only [VR] at hv
      obtain ⟨fn', x', y', hfn, hx, hy, hv⟩ := hv
      simp only [FnR] at hfn
      obtain ⟨b, hb, rfl⟩ := hfn
      refine ⟨b, x' ++ c.args.map ρ', hb, ?_, h, ?_⟩
      · rw [VRA.iff] at hx ⊢
        simp only [Array.toList_append]
        exact hx.append hal
      · simp [resolve, hc, hv, Deferred.ofValue, invoke]
    · cases ha
  · cases ha
end
end Go.Ax
