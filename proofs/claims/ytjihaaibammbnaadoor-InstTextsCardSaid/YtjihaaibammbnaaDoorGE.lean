/-
  A part of the proof: a run over an abstract memory, its soundness and its rules; each theorem says its conditions.
-/
import Derived.Test.YtjihaaibammbnaaDoorGD
import Derived.LaidLaws
import Derived.MakeChecks
import Derived.OpenShut
import Derived.LaidHandle
import Derived.Deep.Fields
set_option linter.unusedVariables false
set_option linter.unusedSimpArgs false
namespace Go.Ax
section
variable {P : Program} {F : FuncId → Option Func} {md : Md P} {n : Nat} {ops : Array Oper} {i : Nat} {l : List Nat} {E : T Value} {H : AHeap} {Q : T Value → AHeap → Prop}
  {d : Nat} {ty : TypeId} {pos : String} {af : Array Edge} {g : Option (Nat × Bool)}
/-- An operation is looked up once. -/
theorem OT.fetch {dst : Option Tmp} {op : Op} (ho : ops[i]? = some ⟨dst, op, ty, pos, af, g⟩) (k : ∀ i, ops[i]? = some ⟨dst, op, ty, pos, af, g⟩ → OT P F md n ops (i :: l) E H Q) : OT P F md n ops (i :: l) E H Q := k i ho
/-- A new variable, zero. -/
theorem OT.alloc {e : TypeId} {z : Value} {nx : Nat} {t : T ABlk} (vs : List Value) (ho : ops[i]? = some ⟨some d, .alloc e, ty, pos, af, g⟩) (hw : aWanted ops ⟨some d, .alloc e, ty, pos, af, g⟩ E = some true)
    (hz : pureRun P (zeroValue e) = some z) (hc : z.cells.toList = vs) (hf : flat z = true) (hn : idOK nx) (hs : Side md E ⟨some d, .alloc e, ty, pos, af, g⟩ ⟨nx, t⟩ ⟨nx + 1, T.set (nx + 1) t nx (.cells vs e 0)⟩) (hd : slotOK n d = true)
    (k : OT P F md n ops l (T.set 20 E d (.pointer (some ⟨nx, 0, none⟩))) ⟨nx + 1, T.set (nx + 1) t nx (.cells vs e 0)⟩ Q) : OT P F md n ops (i :: l) E ⟨nx, t⟩ Q :=
  OT.op ho hw (by simp [aOp, aAlloc, hz, hf, aNew, hn, hc, AHeap.add]) hs hd k
/-- An argument that is kept in a variable. -/
theorem OT.box {e : TypeId} {x : Operand} {v : Value} {nx : Nat} {t : T ABlk} (vs : List Value) (ho : ops[i]? = some ⟨some d, .box e x, ty, pos, af, g⟩) (hw : aWanted ops ⟨some d, .box e x, ty, pos, af, g⟩ E = some true)
    (hx : aEval E x = some v) (hc : v.cells.toList = vs) (hn : idOK nx) (hs : Side md E ⟨some d, .box e x, ty, pos, af, g⟩ ⟨nx, t⟩ ⟨nx + 1, T.set (nx + 1) t nx (.cells vs e 0)⟩) (hd : slotOK n d = true)
    (k : OT P F md n ops l (T.set 20 E d (.pointer (some ⟨nx, 0, none⟩))) ⟨nx + 1, T.set (nx + 1) t nx (.cells vs e 0)⟩ Q) : OT P F md n ops (i :: l) E ⟨nx, t⟩ Q :=
  OT.op ho hw (by simp [aOp, hx, aNew, hn, hc, AHeap.add]) hs hd k
/-- Where a field lies. -/
def fieldOff (P : Program) (s : TypeId) (f : Nat) : Option Nat := match pureRun P (underlying s) with
  | some (.struct fields) => match fields[f]? with
    | some fd => match pureRun P (sizeOf fd.type) with
      | some n => if n ≠ 0 then some fd.offset else none
      | none => none
    | none => none
  | _ => none
/-- A struct of m fields, each of one cell. -/
def unitS (P : Program) (s m : Nat) : Bool := (List.range m).all fun f => fieldOff P s f == some f
theorem unitS.at {s m f : Nat} (h : unitS P s m = true) (hf : f < m) : fieldOff P s f = some f := by
  simpa using List.all_eq_true.1 h f (List.mem_range.2 hf)
theorem OT.faddrO (o : Nat) {s f : Nat} {x : Operand} {b off : Nat} (ho : ops[i]? = some ⟨some d, .fieldAddr s x f, ty, pos, af, g⟩) (hw : aWanted ops ⟨some d, .fieldAddr s x f, ty, pos, af, g⟩ E = some true)
    (hx : aEval E x = some (.pointer (some ⟨b, off, none⟩))) (hf : fieldOff P s f = some o) (hd : slotOK n d = true)
    (k : OT P F md n ops l (T.set 20 E d (.pointer (some ⟨b, off + o, none⟩))) H Q) : OT P F md n ops (i :: l) E H Q := by
  refine OT.op ho hw ?_ (Side.pure rfl) hd k
  unfold fieldOff at hf
  simp only [aOp, hx, Option.bind_some, aFieldAddr]
  split at hf
  · rename_i fields hu
    split at hf
    · rename_i fd hfd
      split at hf
      · rename_i m hm
        split at hf
        · rename_i h0; cases hf
          simp [hu, hfd, hm, h0, add_none]
        · cases hf
      · cases hf
    · cases hf
  · cases hf
theorem OT.faddr {s f m : Nat} {x : Operand} {b off : Nat} (ho : ops[i]? = some ⟨some d, .fieldAddr s x f, ty, pos, af, g⟩) (hw : aWanted ops ⟨some d, .fieldAddr s x f, ty, pos, af, g⟩ E = some true)
    (hx : aEval E x = some (.pointer (some ⟨b, off, none⟩))) (hu : unitS P s m = true) (hf : f < m) (hd : slotOK n d = true)
    (k : OT P F md n ops l (T.set 20 E d (.pointer (some ⟨b, off + f, none⟩))) H Q) : OT P F md n ops (i :: l) E H Q := OT.faddrO f ho hw hx (unitS.at hu hf) hd k
/-- The address of an array's element. -/
theorem OT.iaddrA {x y : Operand} {t e : TypeId} {kd : IntKind} {b off m sz : Nat} {j : Int} (ho : ops[i]? = some ⟨some d, .indexAddr t x y, ty, pos, af, g⟩) (hw : aWanted ops ⟨some d, .indexAddr t x y, ty, pos, af, g⟩ E = some true)
    (hx : aEval E x = some (.pointer (some ⟨b, off, none⟩))) (hy : aEval E y = some (.int kd j)) (hu : pureRun P (underlying t) = some (.array m e)) (hz : pureRun P (sizeOf e) = some sz) (h0 : 0 ≤ j) (h1 : j < m) (hd : slotOK n d = true)
    (k : OT P F md n ops l (T.set 20 E d (.pointer (some ⟨b, off + j.toNat * sz, none⟩))) H Q) : OT P F md n ops (i :: l) E H Q :=
  OT.op ho hw (by simp [aOp, hx, hy, aIndexAddr, hu, hz, h0, h1, add_none]) (Side.pure rfl) hd k
/-- A cell is loaded. -/
theorem OT.ld {x : Operand} {t e : TypeId} {b off kk : Nat} {vs : List Value} {v : Value} (ho : ops[i]? = some ⟨some d, .load t x, ty, pos, af, g⟩) (hw : aWanted ops ⟨some d, .load t x, ty, pos, af, g⟩ E = some true)
    (hx : aEval E x = some (.pointer (some ⟨b, off, none⟩))) (ha : pureRun P (isAgg t) = some false) (hb : H.t.get b = some (.cells vs e kk)) (hv : vs[off]? = some v) (hs : Side md E ⟨some d, .load t x, ty, pos, af, g⟩ H H) (hd : slotOK n d = true)
    (k : OT P F md n ops l (T.set 20 E d v) H Q) : OT P F md n ops (i :: l) E H Q := by
  refine OT.op ho hw ?_ hs hd k
  obtain ⟨hl, he⟩ := List.getElem?_eq_some_iff.1 hv
  have : (vs.drop off).take 1 = [v] := by
    rw [List.drop_eq_getElem_cons hl, he]; rfl
  simp only [aOp, hx, Option.bind_some, aLoad, ha, aCells, hb]
  rw [if_pos (by omega), this]
  rfl
/-- Cells are loaded. -/
theorem OT.ldA {x : Operand} {t e : TypeId} {b off kk m : Nat} {vs l' : List Value} (ho : ops[i]? = some ⟨some d, .load t x, ty, pos, af, g⟩) (hw : aWanted ops ⟨some d, .load t x, ty, pos, af, g⟩ E = some true)
    (hx : aEval E x = some (.pointer (some ⟨b, off, none⟩))) (ha : pureRun P (isAgg t) = some true) (hz : pureRun P (sizeOf t) = some m) (hb : H.t.get b = some (.cells vs e kk)) (hl : off + m ≤ vs.length) (hv : (vs.drop off).take m = l') (hs : Side md E ⟨some d, .load t x, ty, pos, af, g⟩ H H) (hd : slotOK n d = true)
    (k : OT P F md n ops l (T.set 20 E d (.agg l'.toArray)) H Q) : OT P F md n ops (i :: l) E H Q := by
  refine OT.op ho hw ?_ hs hd k
  simp only [aOp, hx, Option.bind_some, aLoad, ha, hz, aCells, hb]
  rw [if_pos hl, hv]
  rfl
/-- A store. -/
theorem OT.st {x y : Operand} {t e : TypeId} {b off kk m nx : Nat} {tr : T ABlk} {vs new : List Value} {v : Value} (vs' : List Value) (ho : ops[i]? = some ⟨none, .store t x y, ty, pos, af, g⟩) (hw : aWanted ops ⟨none, .store t x y, ty, pos, af, g⟩ E = some true)
    (hx : aEval E x = some (.pointer (some ⟨b, off, none⟩))) (hy : aEval E y = some v) (hz : pureRun P (sizeOf t) = some m) (hc : v.cells.toList = new) (hm : new.length = m) (hb : tr.get b = some (.cells vs e kk)) (hk : kk ≠ 2) (hl : off + m ≤ vs.length)
    (hone : new.all (·.oneCell') = true) (hid : idOK b) (hv : vs.take off ++ new ++ vs.drop (off + m) = vs') (hs : Side md E ⟨none, .store t x y, ty, pos, af, g⟩ ⟨nx, tr⟩ ⟨nx, T.set (b + 1) tr b (.cells vs' e kk)⟩)
    (k : OT P F md n ops l E ⟨nx, T.set (b + 1) tr b (.cells vs' e kk)⟩ Q) : OT P F md n ops (i :: l) E ⟨nx, tr⟩ Q := by
  subst hm
  have hsz : v.cells.size = new.length := by rw [← hc]; simp
  refine OT.void ho hw ?_ hs rfl k
  simp only [aOp, hx, hy, Option.bind_some, aStoreVar, hz, hsz, if_true, aStore, hb, hc]
  rw [if_pos ⟨hk, hl, hone, hid⟩, hv]
  rfl
/-- A function as a value. -/
theorem OT.mkF {f : FuncId} {xs ys : Array Operand} {a b : List Value} (ho : ops[i]? = some ⟨some d, .makeFunc (.func f) xs ys, ty, pos, af, g⟩) (hw : aWanted ops ⟨some d, .makeFunc (.func f) xs ys, ty, pos, af, g⟩ E = some true)
    (hx : aArgs (aEval E) xs = some a) (hy : aArgs (aEval E) ys = some b) (hd : slotOK n d = true)
    (k : OT P F md n ops l (T.set 20 E d (.func (.func f) a.toArray b.toArray)) H Q) : OT P F md n ops (i :: l) E H Q :=
  OT.op ho hw (by simp [aOp, hx, hy]) (Side.pure rfl) hd k
/-- A call of a function that is a value. -/
theorem OT.callV {x : Operand} {xs : Array Operand} {ts : Array TypeId} {f : FuncId} {a b : Array Value} {vs : List Value} {v : Value} {H2 : AHeap} (ho : ops[i]? = some ⟨some d, .call ⟨.value x, xs, ts⟩, ty, pos, af, g⟩) (hw : aWanted ops ⟨some d, .call ⟨.value x, xs, ts⟩, ty, pos, af, g⟩ E = some true)
    (hf0 : aEval E x = some (.func (.func f) a b)) (hx : aArgs (aEval E) xs = some vs) (he : EvS P (.call f (a ++ vs.toArray ++ b) H) (.value v H2)) (hf : (F f).isSome = true) (hd : slotOK n d = true) (k : OT P F .str n ops l (T.set 20 E d v) H2 Q) : OT P F .str n ops (i :: l) E H Q := by
  refine OT.call (f := f) (args := a ++ vs.toArray ++ b) (H1 := H) (R := fun v' H' => v' = v ∧ H' = H2) ho hw ?_ ⟨v, H2, he, rfl, rfl⟩ ?_
  · simp [aOp, aCall, hx, hf0, aEnter, hf]
  · rintro v' H' ⟨rfl, rfl⟩
    exact ⟨_, putE_ok hd _ _, k⟩
/-- The greater of two integers, the less. -/
theorem OT.maxI {x y : Operand} {ts : Array TypeId} {k1 k2 : IntKind} {a b : Int} (ho : ops[i]? = some ⟨some d, .call ⟨.builtin .max, #[x, y], ts⟩, ty, pos, af, g⟩) (hw : aWanted ops ⟨some d, .call ⟨.builtin .max, #[x, y], ts⟩, ty, pos, af, g⟩ E = some true)
    (hx : aEval E x = some (.int k1 a)) (hy : aEval E y = some (.int k2 b)) (hd : slotOK n d = true) (k : OT P F md n ops l (T.set 20 E d (.int k1 (if b > a then b else a))) H Q) : OT P F md n ops (i :: l) E H Q :=
  OT.op ho hw (by simp [aOp, aCall, aArgs, allSome, hx, hy, aBuiltin, flatL, flat, Builtin.max_, Builtin.max2, pureRun_pure]) (Side.pure rfl) hd k
theorem OT.minI {x y : Operand} {ts : Array TypeId} {k1 k2 : IntKind} {a b : Int} (ho : ops[i]? = some ⟨some d, .call ⟨.builtin .min, #[x, y], ts⟩, ty, pos, af, g⟩) (hw : aWanted ops ⟨some d, .call ⟨.builtin .min, #[x, y], ts⟩, ty, pos, af, g⟩ E = some true)
    (hx : aEval E x = some (.int k1 a)) (hy : aEval E y = some (.int k2 b)) (hd : slotOK n d = true) (k : OT P F md n ops l (T.set 20 E d (.int k1 (if b < a then b else a))) H Q) : OT P F md n ops (i :: l) E H Q :=
  OT.op ho hw (by simp [aOp, aCall, aArgs, allSome, hx, hy, aBuiltin, flatL, flat, Builtin.min_, Builtin.min2, pureRun_pure]) (Side.pure rfl) hd k
theorem OT.maxQ (q : Int) {x y : Operand} {ts : Array TypeId} {k1 k2 : IntKind} {a b : Int} (ho : ops[i]? = some ⟨some d, .call ⟨.builtin .max, #[x, y], ts⟩, ty, pos, af, g⟩) (hw : aWanted ops ⟨some d, .call ⟨.builtin .max, #[x, y], ts⟩, ty, pos, af, g⟩ E = some true)
    (hx : aEval E x = some (.int k1 a)) (hy : aEval E y = some (.int k2 b)) (hq : max a b = q) (hd : slotOK n d = true) (k : OT P F md n ops l (T.set 20 E d (.int k1 q)) H Q) : OT P F md n ops (i :: l) E H Q := by
  refine OT.maxI ho hw hx hy hd ?_
  rw [show (if b > a then b else a) = q by rw [← hq]; split <;> omega]; exact k
theorem OT.minQ (q : Int) {x y : Operand} {ts : Array TypeId} {k1 k2 : IntKind} {a b : Int} (ho : ops[i]? = some ⟨some d, .call ⟨.builtin .min, #[x, y], ts⟩, ty, pos, af, g⟩) (hw : aWanted ops ⟨some d, .call ⟨.builtin .min, #[x, y], ts⟩, ty, pos, af, g⟩ E = some true)
    (hx : aEval E x = some (.int k1 a)) (hy : aEval E y = some (.int k2 b)) (hq : min a b = q) (hd : slotOK n d = true) (k : OT P F md n ops l (T.set 20 E d (.int k1 q)) H Q) : OT P F md n ops (i :: l) E H Q := by
  refine OT.minI ho hw hx hy hd ?_
  rw [show (if b < a then b else a) = q by rw [← hq]; split <;> omega]; exact k
/-- Integer operations by what they give. -/
theorem OT.arW {op : BinOp} {t yt : TypeId} {x y : Operand} {kd : IntKind} {a b : Int} (q : Int) (ho : ops[i]? = some ⟨some d, .binOp op t x y yt, ty, pos, af, g⟩)
    (hw : aWanted ops ⟨some d, .binOp op t x y yt, ty, pos, af, g⟩ E = some true) (hx : aEval E x = some (.int kd a)) (hy : aEval E y = some (.int kd b)) (hq : ∀ xo yo, aBin P op t xo yo (.int kd a) (.int kd b) = some (.int kd q)) (hd : slotOK n d = true)
    (k : OT P F md n ops l (T.set 20 E d (.int kd q)) H Q) : OT P F md n ops (i :: l) E H Q := OT.bin ho hw hx hy (hq _ _) hd k
theorem aBin_shlW {t : TypeId} {xo yo : Operand} {k k2 : IntKind} {a b : Int} (h0 : 0 ≤ b) (h1 : b.toNat ≤ k.bits) : aBin P .shl t xo yo (.int k a) (.int k2 b) = some (.int k (k.wrap (a * 2 ^ b.toNat))) := by
  simp [aBin, flat, eqGuard, binOp, Op.shift, pureRun_pure, Int.not_lt.2 h0, Nat.min_eq_left h1]
theorem OT.shlW (q r : Int) {t yt : TypeId} {x y : Operand} {kd k2 : IntKind} {a b : Int} (ho : ops[i]? = some ⟨some d, .binOp .shl t x y yt, ty, pos, af, g⟩)
    (hw : aWanted ops ⟨some d, .binOp .shl t x y yt, ty, pos, af, g⟩ E = some true) (hx : aEval E x = some (.int kd a)) (hy : aEval E y = some (.int k2 b)) (h0 : 0 ≤ b) (h1 : b.toNat ≤ kd.bits) (hq : (2 : Int) ^ b.toNat = q) (hr : kd.wrap (a * q) = r) (hd : slotOK n d = true)
    (k : OT P F md n ops l (T.set 20 E d (.int kd r)) H Q) : OT P F md n ops (i :: l) E H Q := OT.bin ho hw hx hy (by rw [aBin_shlW h0 h1, hq, hr]) hd k
/-- The bits of either. -/
def orW (k : IntKind) (a b : Int) : Int := k.wrap (((BitVec.ofInt k.bits a) ||| (BitVec.ofInt k.bits b)).toNat : Int)
theorem aBin_orW {t : TypeId} {xo yo : Operand} {k : IntKind} {a b : Int} : aBin P .or t xo yo (.int k a) (.int k b) = some (.int k (orW k a b)) := by
  simp [aBin, flat, eqGuard, binOp, Op.intBits, pureRun_pure, orW]
theorem orW_add {k : IntKind} {a b : Int} (m : Nat) (h0 : 0 ≤ a) (h1 : a + b < 2 ^ k.bits) (h2 : a % 2 ^ m = 0) (h3 : 0 ≤ b) (h4 : b < 2 ^ m) (hc : k.wrap (a + b) = a + b) : orW k a b = a + b := by
  obtain ⟨a, rfl⟩ : ∃ x : Nat, a = x := ⟨a.toNat, by omega⟩
  obtain ⟨b, rfl⟩ : ∃ x : Nat, b = x := ⟨b.toNat, by omega⟩
  have h1' : a + b < 2 ^ k.bits := by exact_mod_cast h1
  have h2' : a % 2 ^ m = 0 := by exact_mod_cast h2
  have h4' : b < 2 ^ m := by exact_mod_cast h4
  have e : (((BitVec.ofInt k.bits (a : Int)) ||| (BitVec.ofInt k.bits (b : Int))).toNat : Int) = (a : Int) + b := by
    rw [BitVec.toNat_or, ofInt_toNat (by omega), ofInt_toNat (by omega)]
    obtain ⟨q, rfl⟩ := Nat.dvd_of_mod_eq_zero h2'
    rw [← Nat.two_pow_add_eq_or_of_lt h4']
    simp
  unfold orW
  rw [e, hc]
theorem orW_comm {k : IntKind} {a b : Int} : orW k a b = orW k b a := by unfold orW; rw [BitVec.or_comm]
theorem OT.orW {t yt : TypeId} {x y : Operand} {kd : IntKind} {a b : Int} (ho : ops[i]? = some ⟨some d, .binOp .or t x y yt, ty, pos, af, g⟩)
    (hw : aWanted ops ⟨some d, .binOp .or t x y yt, ty, pos, af, g⟩ E = some true) (hx : aEval E x = some (.int kd a)) (hy : aEval E y = some (.int kd b)) (hd : slotOK n d = true)
    (k : OT P F md n ops l (T.set 20 E d (.int kd (Ax.orW kd a b))) H Q) : OT P F md n ops (i :: l) E H Q := OT.bin ho hw hx hy aBin_orW hd k
/-- The bits in which two differ. -/
def xorW (k : IntKind) (a b : Int) : Int := k.wrap (((BitVec.ofInt k.bits a) ^^^ (BitVec.ofInt k.bits b)).toNat : Int)
theorem aBin_xorW {t : TypeId} {xo yo : Operand} {k : IntKind} {a b : Int} : aBin P .xor t xo yo (.int k a) (.int k b) = some (.int k (xorW k a b)) := by
  simp [aBin, flat, eqGuard, binOp, Op.intBits, pureRun_pure, xorW]
theorem OT.xorW {t yt : TypeId} {x y : Operand} {kd : IntKind} {a b : Int} (ho : ops[i]? = some ⟨some d, .binOp .xor t x y yt, ty, pos, af, g⟩)
    (hw : aWanted ops ⟨some d, .binOp .xor t x y yt, ty, pos, af, g⟩ E = some true) (hx : aEval E x = some (.int kd a)) (hy : aEval E y = some (.int kd b)) (hd : slotOK n d = true)
    (k : OT P F md n ops l (T.set 20 E d (.int kd (Ax.xorW kd a b))) H Q) : OT P F md n ops (i :: l) E H Q := OT.bin ho hw hx hy aBin_xorW hd k
/-- A struct or an array out of its parts. -/
theorem OT.buildV {t : TypeId} {parts : Array (Nat × Operand)} {ps : List (Nat × Value)} {v : Value} (ho : ops[i]? = some ⟨some d, .build t parts, ty, pos, af, g⟩) (hw : aWanted ops ⟨some d, .build t parts, ty, pos, af, g⟩ E = some true)
    (hx : aParts (aEval E) parts = some ps) (hb : aBuild P t ps.toArray = some v) (hd : slotOK n d = true)
    (k : OT P F md n ops l (T.set 20 E d v) H Q) : OT P F md n ops (i :: l) E H Q :=
  OT.op ho hw (by simp [aOp, hx, hb]) (Side.pure rfl) hd k
end
section
variable {P : Program} {F : FuncId → Option Func} {fs : FrS} {Q : Res → Prop}
/-- A loop, round by round. -/
theorem Tr.loopU (hx : Cx P F) {c : Code} {s : AS} (h : Tr P (.code fs c s) (Then (fun s1 => Tr P (.again fs c s1) Q) Q)) : Tr P (.code fs (.loop c) s) Q := by
  obtain ⟨res, he, hq⟩ := h
  cases res with
  | value v H => exact hq.elim
  | exit e s1 =>
    cases e with
    | normal =>
      obtain ⟨res2, he2, hq2⟩ := hq
      refine ⟨res2, ?_, hq2⟩
      intro base
      have h1 := he base
      have h2 := he2 base
      cases res2 with
      | value v H => exact h2.elim
      | exit e s' =>
        intro M b a k cs w hfr hsr
        obtain ⟨M1, a1, w1, x1, x2, x3, x4⟩ := h1 M b a (.inLoop c :: k) cs w hfr hsr
        obtain ⟨M2, a2, w2, y1, y2, y3, y4⟩ := h2 M1 b a1 k cs w1 (hfr.mono x1) x2
        exact ⟨M2, a2, w2, x1.trans y1, y2, x3.trans y3, .of_steps (.head st_loop x4) y4⟩
    | exit id => exact ⟨_, EvS.code hx (Valid.orc he) (by simp only [codeStep, orc_at]), hq⟩
    | goto id => exact ⟨_, EvS.code hx (Valid.orc he) (by simp only [codeStep, orc_at]), hq⟩
    | ret => exact ⟨_, EvS.code hx (Valid.orc he) (by simp only [codeStep, orc_at]), hq⟩
theorem Tr.againU {c : Code} {s : AS} (h : Tr P (.code fs c s) (Then (fun s1 => Tr P (.again fs c s1) Q) Q)) : Tr P (.again fs c s) Q := by
  obtain ⟨res, he, hq⟩ := h
  cases res with
  | value v H => exact hq.elim
  | exit e s1 =>
    cases e with
    | normal =>
      obtain ⟨res2, he2, hq2⟩ := hq
      exact ⟨res2, he.again_next he2, hq2⟩
    | exit id => exact ⟨_, EvS.again_end (by simp) he, hq⟩
    | goto id => exact ⟨_, EvS.again_end (by simp) he, hq⟩
    | ret => exact ⟨_, EvS.again_end (by simp) he, hq⟩
end
end Go.Ax
namespace Go.Ax
section
variable {P : Program} {F : FuncId → Option Func} {fs : FrS} {Q : Res → Prop}
/-- A region that draws its order and makes one call whose answer is known. -/
theorem Tr.drawH (hx : Cx P F) (L : List Nat) (r : AHeap → Req) (v : AHeap → Res) {id : Nat} {ops : Array Oper} {E : T Value} {defs : List Nat} {H : AHeap} (h : EvS P (r H) (v H)) (hd : drawOK P ops = true)
    (k : OT P F (.drw (orc (r H) (v H)) (Valid.orc h) L) fs.n ops (List.range ops.size) E H fun E' H' => Q (.exit .normal ⟨E', defs, H'⟩)) : Tr P (.code fs (.region id ops true) ⟨E, defs, H⟩) Q :=
  Tr.draw hx L _ (Valid.orc h) hd k
/-- Known answers to two requests. -/
noncomputable def orc2 (r1 : Req) (v1 : Res) (r2 : Req) (v2 : Res) : Req → Option Res := fun r => by
  classical exact if r = r1 then some v1 else if r = r2 then some v2 else none
theorem orc2_1 {r1 : Req} {v1 : Res} {r2 : Req} {v2 : Res} : orc2 r1 v1 r2 v2 r1 = some v1 := by simp [orc2]
theorem orc2_2 {f g : FuncId} {a b : Array Value} {H H' : AHeap} {v1 v2 : Res} (h : f ≠ g) : orc2 (.call f a H) v1 (.call g b H') v2 (.call g b H') = some v2 := by
  have : Req.call g b H' ≠ Req.call f a H := fun e => h (by cases e; rfl)
  simp [orc2, this]
theorem Valid.orc2 {r1 : Req} {v1 : Res} {r2 : Req} {v2 : Res} (h1 : EvS P r1 v1) (h2 : EvS P r2 v2) : Valid P (orc2 r1 v1 r2 v2) := by
  intro r res' hr
  unfold Ax.orc2 at hr
  split at hr
  · rename_i e; cases hr; rw [e]; exact h1
  · split at hr
    · rename_i e; cases hr; rw [e]; exact h2
    · cases hr
theorem Tr.draw2H (hx : Cx P F) (L : List Nat) (r1 r2 : AHeap → Req) (v1 v2 : AHeap → Res) {id : Nat} {ops : Array Oper} {E : T Value} {defs : List Nat} {H : AHeap} (h1 : EvS P (r1 H) (v1 H)) (h2 : EvS P (r2 H) (v2 H)) (hd : drawOK P ops = true)
    (k : OT P F (.drw (Ax.orc2 (r1 H) (v1 H) (r2 H) (v2 H)) (Valid.orc2 h1 h2) L) fs.n ops (List.range ops.size) E H fun E' H' => Q (.exit .normal ⟨E', defs, H'⟩)) : Tr P (.code fs (.region id ops true) ⟨E, defs, H⟩) Q :=
  Tr.draw hx L _ (Valid.orc2 h1 h2) hd k
end
/-- Structs of integers, one cell each, are equal field by field. -/
def intFields (P : Program) (k : IntKind) : List Field → Nat → Bool
  | [], _ => true
  | f :: l, i => f.name != "_" && f.offset == i && (match pureRun P (isAgg f.type), pureRun P (underlying f.type) with
    | some false, some (.int k') => k' == k
    | _, _ => false) && intFields P k l (i + 1)
def structEqOK (P : Program) (t : TypeId) (k : IntKind) : Bool := match pureRun P (underlying t) with
  | some (.struct fields) => intFields P k fields.toList 0 && !P.eqGuardType P.depth t && !P.stoodInHeld t
  | _ => false
def sameI : List Int → List Int → Bool
  | [], [] => true
  | a :: l, b :: m => a == b && sameI l m
  | _, _ => false
theorem sameI_iff : ∀ {l m : List Int}, sameI l m = true ↔ l = m
  | [], [] => by simp [sameI]
  | [], _ :: _ => by simp [sameI]
  | _ :: _, [] => by simp [sameI]
  | a :: l, b :: m => by simp [sameI, sameI_iff]
def ints (k : IntKind) (l : List Int) : Value := .agg (l.map (Value.int k)).toArray
theorem flat_ints (k : IntKind) (l : List Int) : flat (ints k l) = true := by
  have : ∀ l : List Int, flatL (l.map (Value.int k)) = true := by
    intro l; induction l with
    | nil => rfl
    | cons a l ih => simp [flatL, flat, ih]
  simp [ints, flat, flatA, this]
theorem pure_part {P : Program} {t : TypeId} {cs : Array Value} {o : Nat} {v : Value} (ha : pureRun P (isAgg t) = some false) (hv : cs[o]? = some v) : pureRun P (part t cs o) = some v := by
  simp [part, pureRun_bind, ha, hv, pureRun_pure]
theorem eq_loop {P : Program} {k : IntKind} {d : Nat} {X Y : List Int} : ∀ (l : List Field) (i : Nat), intFields P k l i = true → i + l.length = X.length → i + l.length = Y.length →
    pureRun P (forIn (m := Sem) l ((none : Option Bool), ()) fun f _ =>
      if f.name ≠ "_" then do
        let a ← part f.type (X.map (Value.int k)).toArray f.offset
        let b ← part f.type (Y.map (Value.int k)).toArray f.offset
        let r ← Op.equalIn (d + 1) f.type a b
        if (!r) = true then pure (ForInStep.done (some false, ())) else pure (ForInStep.yield (none, ()))
      else pure (ForInStep.yield (none, ()))) = some (if X.drop i = Y.drop i then none else some false, ())
  | [], i, _, hx, hy => by
    simp only [List.length_nil, Nat.add_zero] at hx hy
    rw [List.drop_of_length_le (show X.length ≤ i by omega), List.drop_of_length_le (show Y.length ≤ i by omega)]
    simp [pureRun_pure]
  | f :: l, i, h, hx, hy => by
    simp only [intFields, Bool.and_eq_true, bne_iff_ne, beq_iff_eq] at h
    obtain ⟨⟨⟨h1, h2⟩, h3⟩, h4⟩ := h
    simp only [List.length_cons] at hx hy
    have hix : i < X.length := by omega
    have hiy : i < Y.length := by omega
    split at h3
    · rename_i k' ha hu
      have h3 := eq_of_beq h3
      subst h3
      have ih := eq_loop (P := P) (d := d) (X := X) (Y := Y) l (i + 1) h4 (by omega) (by omega)
      have p1 : ∀ Z : List Int, (hz : i < Z.length) → pureRun P (part f.type (Z.map (Value.int k')).toArray f.offset) = some (.int k' Z[i]) := fun Z hz => by
        refine pure_part ha ?_
        rw [h2]; simp [hz]
      have e1 : ∀ Z : List Int, (hz : i < Z.length) → Z.drop i = Z[i] :: Z.drop (i + 1) := fun Z hz => List.drop_eq_getElem_cons hz
      have q : ∀ a b : Int, pureRun P (Op.equalIn (d + 1) f.type (.int k' a) (.int k' b)) = some (a == b) := fun a b => by
        rw [Op.equalIn]
        simp [pureRun_bind, hu, pureRun_pure]
      have z1 := e1 X hix
      have z2 := e1 Y hiy
      have hdd : X.drop i = Y.drop i ↔ X[i] = Y[i] ∧ X.drop (i + 1) = Y.drop (i + 1) := by
        constructor
        · intro h; rw [z1, z2] at h; exact List.cons.inj h
        · rintro ⟨h, h'⟩; rw [z1, z2, h, h']
      generalize X.drop i = DX at hdd
      generalize Y.drop i = DY at hdd
      clear z1 z2 e1
      rw [List.forIn_cons]
      simp only [h1, ne_eq, not_false_iff, if_true, pureRun_bind, p1 X hix, p1 Y hiy, Option.bind_some, q]
      by_cases hab : X[i] = Y[i]
      · simp only [hab, beq_self_eq_true, Bool.not_true, Bool.false_eq_true, if_false, pureRun_pure, Option.bind_some]
        refine ih.trans ?_
        simp only [hdd, hab, true_and]
      · have : (X[i] == Y[i]) = false := by simpa using hab
        simp only [this, Bool.not_false, if_true, pureRun_pure, Option.bind_some, hdd, hab, false_and, if_false]
    · cases h3
theorem pure_equal {P : Program} {t : TypeId} {k : IntKind} {fields : Array Field} {X Y : List Int} (hu : pureRun P (underlying t) = some (.struct fields)) (hf : intFields P k fields.toList 0 = true) (hs : P.stoodInHeld t = false)
    (hx : fields.size = X.length) (hy : fields.size = Y.length) : pureRun P (Op.equal t (ints k X) (ints k Y)) = some (decide (X = Y)) := by
  unfold Op.equal ints
  rw [show Op.maxDepth = 9998 + 1 + 1 from rfl, Op.equalIn]
  simp only [pureRun_bind, hu, Option.bind_some, pureRun_program, hs, Bool.false_eq_true, if_false]
  have := eq_loop (P := P) (d := 9998) (X := X) (Y := Y) fields.toList 0 hf (by simpa using hx) (by simpa using hy)
  rw [← Array.forIn_toList]
  rw [this]
  by_cases h : X = Y <;> simp [h, pureRun_pure]
theorem aBin_eqS {P : Program} {t : TypeId} {xo yo : Operand} {k : IntKind} {fields : Array Field} {X Y : List Int} (hu : pureRun P (underlying t) = some (.struct fields)) (hf : intFields P k fields.toList 0 = true) (hs : P.stoodInHeld t = false)
    (hg : P.eqGuardType P.depth t = false) (hx : fields.size = X.length) (hy : fields.size = Y.length) : aBin P .eql t xo yo (ints k X) (ints k Y) = some (.bool (decide (X = Y))) := by
  have h := pure_equal hu hf hs hx hy
  have fx := flat_ints k X
  have fy := flat_ints k Y
  unfold aBin
  rw [fx, fy]
  simp only [ints] at h ⊢
  simp [eqGuard, pureRun_bind, pureRun_program, hg, binOp, pureRun_map, h, pureRun_pure, flat]
theorem aBin_neS {P : Program} {t : TypeId} {xo yo : Operand} {k : IntKind} {fields : Array Field} {X Y : List Int} (hu : pureRun P (underlying t) = some (.struct fields)) (hf : intFields P k fields.toList 0 = true) (hs : P.stoodInHeld t = false)
    (hg : P.eqGuardType P.depth t = false) (hx : fields.size = X.length) (hy : fields.size = Y.length) : aBin P .neq t xo yo (ints k X) (ints k Y) = some (.bool (!decide (X = Y))) := by
  have h := pure_equal hu hf hs hx hy
  have fx := flat_ints k X
  have fy := flat_ints k Y
  unfold aBin
  rw [fx, fy]
  simp only [ints] at h ⊢
  simp [eqGuard, pureRun_bind, pureRun_program, hg, binOp, pureRun_map, h, pureRun_pure, flat]
end Go.Ax
namespace Go.Ax
open Go.ChangeShapes Go.WideShapes Go.RowKit
/-- The cells of a plain datum, one field after the other. -/
def flatFs (P : Program) (g : TypeId → DataW Unit → Option (List Value)) : List Field → List (DataW Unit) → Nat → Option (List Value)
  | [], [], _ => some []
  | fd :: fs, d :: ds, k => if fd.offset = k then (g fd.type d).bind fun a => if a.length = P.cellsOf fd.type then (flatFs P g fs ds (k + a.length)).map fun b => a ++ b else none else none
  | _, _, _ => none
def flatEs (P : Program) (g : TypeId → DataW Unit → Option (List Value)) (e : TypeId) : List (DataW Unit) → Option (List Value)
  | [] => some []
  | d :: ds => (g e d).bind fun a => if a.length = P.cellsOf e then (flatEs P g e ds).map fun b => a ++ b else none
def flatD (P : Program) : Nat → TypeId → DataW Unit → Option (List Value)
  | 0, _, _ => none
  | f + 1, t, d => match P.underlying t, d with
    | some .bool, .lit (.bool b) => some [.bool b]
    | some (.int _), .lit (.int k n) => some [.int k n]
    | some .string, .lit (.string l) => some [.string ⟨l.toArray⟩]
    | some (.struct fs), .agg parts => (flatFs P (flatD P f) fs.toList parts 0).bind fun vs => if vs.length = P.cellsOf t then some vs else none
    | some (.array n e), .agg parts => if parts.length = n then (flatEs P (flatD P f) e parts).bind fun vs => if vs.length = P.cellsOf t then some vs else none else none
    | _, _ => none
section
variable {P : Program} {enc : TypeId × Value → Unit} {w : World} {base : Nat} {spare : Nat → Bool} {held : Bool}
theorem drop_piece {cs a b : List Value} {k : Nat} (h1 : (cs.drop k).take a.length = a) (h2 : (cs.drop (k + a.length)).take b.length = b) : (cs.drop k).take (a ++ b).length = a ++ b := by
  rw [List.length_append, List.take_add, h1, List.drop_drop, h2]
theorem flatFs_ok {g : TypeId → DataW Unit → Option (List Value)} {n : Nat} {cs : List Value} (hg : ∀ t d vs cs p, g t d = some vs → DataW.trod enc P w base spare held n t cs = some (d, p) → cs = vs) :
    ∀ (fs : List Field) (xs : List (DataW Unit × List MemPlace)) (k : Nat) (vs : List Value), flatFs P g fs (xs.map (·.1)) k = some vs →
    (∀ (i : Nat) (f : Field), fs[i]? = some f → DataW.trod enc P w base spare held n f.type ((cs.drop f.offset).take (P.cellsOf f.type)) = xs[i]?) → (cs.drop k).take vs.length = vs
  | [], [], k, vs, h, _ => by simp only [List.map_nil, flatFs, Option.some.injEq] at h; subst h; simp
  | [], _ :: _, k, vs, h, _ => by simp [flatFs] at h
  | _ :: _, [], k, vs, h, _ => by simp [flatFs] at h
  | fd :: fs, x :: xs, k, vs, h, ht => by
    simp only [List.map_cons, flatFs] at h
    split at h
    · rename_i ho
      rw [Option.bind_eq_some_iff] at h
      obtain ⟨a, ha, h⟩ := h
      split at h
      · rename_i hl
        rw [Option.map_eq_some_iff] at h
        obtain ⟨b, hb, rfl⟩ := h
        have h0 := ht 0 fd rfl
        rw [ho] at h0
        have e := hg _ _ _ _ _ ha (h0.trans rfl)
        have ih := flatFs_ok (cs := cs) hg fs xs _ b hb fun i f hf => ht (i + 1) f (by simpa using hf)
        refine drop_piece ?_ ih
        rw [hl]; exact e
      · cases h
    · cases h
theorem flatEs_ok {g : TypeId → DataW Unit → Option (List Value)} {n : Nat} {e : TypeId} {cs : List Value} (hg : ∀ t d vs cs p, g t d = some vs → DataW.trod enc P w base spare held n t cs = some (d, p) → cs = vs) :
    ∀ (xs : List (DataW Unit × List MemPlace)) (j : Nat) (vs : List Value), flatEs P g e (xs.map (·.1)) = some vs →
    (∀ (i : Nat), i < xs.length → DataW.trod enc P w base spare held n e ((cs.drop ((j + i) * P.cellsOf e)).take (P.cellsOf e)) = xs[i]?) → (cs.drop (j * P.cellsOf e)).take vs.length = vs
  | [], j, vs, h, _ => by simp only [List.map_nil, flatEs, Option.some.injEq] at h; subst h; simp
  | x :: xs, j, vs, h, ht => by
    simp only [List.map_cons, flatEs] at h
    rw [Option.bind_eq_some_iff] at h
    obtain ⟨a, ha, h⟩ := h
    split at h
    · rename_i hl
      rw [Option.map_eq_some_iff] at h
      obtain ⟨b, hb, rfl⟩ := h
      have h0 := ht 0 (by simp)
      rw [Nat.add_zero] at h0
      have e1 := hg _ _ _ _ _ ha (h0.trans rfl)
      have ih := flatEs_ok (cs := cs) hg xs (j + 1) b hb fun i hi => by
        have := ht (i + 1) (by simpa using hi)
        rw [show j + (i + 1) = j + 1 + i by omega] at this
        simpa using this
      refine drop_piece ?_ ?_
      · rw [hl]; exact e1
      · rw [hl, show j * P.cellsOf e + P.cellsOf e = (j + 1) * P.cellsOf e by rw [Nat.add_mul, Nat.one_mul]]; exact ih
    · cases h
theorem flatD_ok : ∀ (f : Nat) (t : TypeId) (d : DataW Unit) (vs : List Value) (fuel : Nat) (cs : List Value) (p : List MemPlace), flatD P f t d = some vs → DataW.trod enc P w base spare held fuel t cs = some (d, p) → cs = vs
  | 0, _, _, _, _, _, _, h, _ => by simp [flatD] at h
  | f + 1, t, d, vs, fuel, cs, p, h, ht => by
    unfold flatD at h
    split at h
    · rename_i b hu
      cases h
      cases fuel with
      | zero => simp [DataW.trod] at ht
      | succ n => unfold DataW.trod at ht; rw [hu] at ht; split at ht <;> simp_all
    · rename_i k k' n' hu
      cases h
      obtain ⟨m, rfl, hx, _⟩ := DataW.trod_int hu ht
      simp only [Prod.mk.injEq, DataW.lit.injEq, Lit.int.injEq] at hx
      obtain ⟨⟨rfl, rfl⟩, _⟩ := hx
      rfl
    · rename_i l hu
      cases h
      cases fuel with
      | zero => simp [DataW.trod] at ht
      | succ n =>
        unfold DataW.trod at ht; rw [hu] at ht
        split at ht <;> simp_all
        all_goals (obtain ⟨_, h1, _⟩ := ht; subst h1; rfl)
    · rename_i fs parts hu
      rw [Option.bind_eq_some_iff] at h
      obtain ⟨vs', hv, h⟩ := h
      split at h
      · rename_i hl; cases h
        obtain ⟨xs, n, rfl, hx, hcl, hxl, hf⟩ := DataW.trod_struct hu ht
        simp only [Prod.mk.injEq, DataW.agg.injEq] at hx
        obtain ⟨rfl, _⟩ := hx
        have := flatFs_ok (cs := cs) (g := flatD P f) (n := n) (fun t d vs cs p h1 h2 => flatD_ok f t d vs n cs p h1 h2) fs.toList xs 0 vs hv fun i fd hi => hf i fd (by simpa using hi)
        rw [List.drop_zero, hl, ← hcl, List.take_length] at this
        exact this
      · cases h
    · rename_i n e parts hu
      split at h
      · rename_i hpl
        rw [Option.bind_eq_some_iff] at h
        obtain ⟨vs', hv, h⟩ := h
        split at h
        · rename_i hl; cases h
          obtain ⟨xs, m, rfl, hx, hcl, hxl, hf⟩ := DataW.trod_array hu ht
          simp only [Prod.mk.injEq, DataW.agg.injEq] at hx
          obtain ⟨rfl, _⟩ := hx
          have := flatEs_ok (cs := cs) (e := e) (g := flatD P f) (n := m) (fun t d vs cs p h1 h2 => flatD_ok f t d vs m cs p h1 h2) xs 0 vs hv fun i hi => by rw [Nat.zero_add]; exact hf i (by omega)
          rw [Nat.zero_mul, List.drop_zero, hl, ← hcl, List.take_length] at this
          exact this
        · cases h
      · cases h
    · cases h
end
/-- What a listed plain variable holds. -/
theorem laid_cells {P : Program} {w : World} {ps : List MemPlace} {n : String} {d : DataW Unit} {r : List (String × DataW Unit)} (h : DataW.LaidVars P w ((n, d) :: r) ps) {g t f : Nat} {vs : List Value} (hg : P.globalNamed n = some g) (ht : (P.globals[g]?).map (·.type) = some t)
    (hf : flatD P f t d = some vs) : (∃ c e2 fz, w.heap[g]? = some (.cells c e2 fz) ∧ c.toList.take vs.length = vs) ∧ ∃ q, DataW.LaidVars P w r q := by
  obtain ⟨g', t', cs, fuel, p, q, h1, h2, h3, h4, h5, _⟩ := h
  obtain rfl := Option.some.inj (hg.symm.trans h1)
  obtain rfl := Option.some.inj (ht.symm.trans h2)
  refine ⟨?_, q, h5⟩
  unfold World.var? at h3
  rw [hg] at h3
  simp only [Option.bind_some] at h3
  split at h3
  · rename_i c e2 fz hc
    cases h3
    exact ⟨cs, e2, fz, hc, by rw [flatD_ok f t d vs fuel cs.toList p hf h4, List.take_length]⟩
  · cases h3
end Go.Ax
namespace Go.Ax
open Go.ChangeShapes Go.WideShapes Go.RowKit
section
variable {H : Type} {enc : TypeId × Value → H} {P : Program} {w : World} {base : Nat} {spare : Nat → Bool} {held : Bool}
theorem ints_of {k : IntKind} : ∀ (cs : List Value), (∀ j, j < cs.length → ∃ n, cs[j]? = some (.int k n) ∧ (Lit.int k n).wf = true) → ∃ l : List Int, cs = l.map (Value.int k) ∧ ∀ n ∈ l, (Lit.int k n).wf = true
  | [], _ => ⟨[], rfl, fun n h => by cases h⟩
  | c :: cs, h => by
    obtain ⟨n, h0, hw⟩ := h 0 (by simp)
    obtain ⟨l, hl, hl2⟩ := ints_of cs fun j hj => by simpa using h (j + 1) (by simpa using hj)
    simp only [List.getElem?_cons_zero, Option.some.injEq] at h0
    exact ⟨n :: l, by rw [h0, hl]; rfl, fun m hm => by rcases List.mem_cons.1 hm with rfl | hm; exact hw; exact hl2 m hm⟩
/-- All fields integers of one kind, one cell each. -/
def intStruct (P : Program) (k : IntKind) (fs : Array Field) : Bool := (List.range fs.size).all fun i => match fs[i]? with
  | some f => f.offset == i && P.cellsOf f.type == 1 && (match P.underlying f.type with | some (.int k') => k' == k | _ => false)
  | none => false
theorem piece_one {cs : List Value} {j : Nat} {v : Value} (h : (cs.drop j).take 1 = [v]) : cs[j]? = some v := by
  have := congrArg (·[0]?) h
  simpa using this
theorem open_ints_struct {r : Reach} {b0 : Nat} {t : TypeId} {k : IntKind} {fs : Array Field} {v : Value} {d : DataW H} {p : List MemPlace} (hs : P.underlying t = some (.struct fs)) (hi : intStruct P k fs = true) (hC : P.cellsOf t = fs.size)
    (hv : Value.okWide P w r b0 t v) (h : DataW.Trod enc P w base spare held t v d p) :
    ∃ l : List Int, v = .agg (l.map (Value.int k)).toArray ∧ l.length = fs.size ∧ ∀ n ∈ l, (Lit.int k n).wf = true := by
  obtain ⟨cs, rfl, hsz⟩ := okWide_struct hs hv
  obtain ⟨fuel, hf⟩ := h
  obtain ⟨xs, n, _, hx, hcl, hlen, hg⟩ := DataW.trod_struct hs hf
  obtain ⟨l, hl, hw⟩ := ints_of (k := k) cs.toList fun j hj => by
    have hjs : j < fs.size := by simp only [Value.cells] at hcl; omega
    have hi' := List.all_eq_true.1 hi j (List.mem_range.2 hjs)
    rw [Array.getElem?_eq_getElem hjs] at hi'
    simp only [Bool.and_eq_true, beq_iff_eq] at hi'
    obtain ⟨⟨h1, h2⟩, h3⟩ := hi'
    have h4 := hg j _ (Array.getElem?_eq_getElem hjs)
    rw [h1, h2] at h4
    rw [List.getElem?_eq_getElem (by omega)] at h4
    split at h3
    · rename_i k' hu
      obtain rfl := eq_of_beq h3
      obtain ⟨m, hm, _, hw⟩ := DataW.trod_int hu h4
      exact ⟨m, piece_one hm, hw⟩
    · cases h3
  refine ⟨l, ?_, ?_, hw⟩
  · rw [← hl]
  · have := congrArg List.length hl
    simp only [Array.length_toList, List.length_map] at this
    omega
theorem open_ints_array {t e : TypeId} {k : IntKind} {m : Nat} {v : Value} {d : DataW H} {p : List MemPlace} (hs : P.underlying t = some (.array m e)) (he : P.underlying e = some (.int k)) (hC1 : P.cellsOf e = 1) (hC : P.cellsOf t = m)
    (hv : ∃ cs : Array Value, v = .agg cs) (h : DataW.Trod enc P w base spare held t v d p) :
    ∃ l : List Int, v = .agg (l.map (Value.int k)).toArray ∧ l.length = m ∧ ∀ n ∈ l, (Lit.int k n).wf = true := by
  obtain ⟨cs, rfl⟩ := hv
  obtain ⟨fuel, hf⟩ := h
  obtain ⟨xs, n, _, hx, hcl, hlen, hg⟩ := DataW.trod_array hs hf
  simp only [Value.cells] at hcl
  obtain ⟨l, hl, hw⟩ := ints_of (k := k) cs.toList fun j hj => by
    have h4 := hg j (by omega)
    rw [hC1, Nat.mul_one, List.getElem?_eq_getElem (by omega)] at h4
    obtain ⟨m', hm, _, hw⟩ := DataW.trod_int he h4
    exact ⟨m', piece_one hm, hw⟩
  refine ⟨l, ?_, ?_, hw⟩
  · rw [← hl]
  · have := congrArg List.length hl
    simp only [Array.length_toList, List.length_map] at this
    simp only [Array.length_toList] at hcl
    omega
end
end Go.Ax
namespace Go.Ax
theorem flat_aggs (k : IntKind) (l : List Int) : flat (.agg (l.map (Value.int k)).toArray) = true := flat_ints k l
theorem okWide_arr {P : Program} {w : World} {r : Reach} {base : Nat} {t e : TypeId} {n : Nat} {v : Value} (ht : P.underlying t = some (.array n e)) (h : Value.okWide P w r base t v) : ∃ cs : Array Value, v = .agg cs := by
  simp only [Value.okWide, ht] at h
  obtain ⟨cs, h1, _⟩ := h
  exact ⟨cs, h1⟩
/-- A list of five, of four, of two. -/
theorem five {l : List Int} (h : l.length = 5) : ∃ a b c d e, l = [a, b, c, d, e] := by
  match l, h with
  | [a, b, c, d, e], _ => exact ⟨a, b, c, d, e, rfl⟩
theorem four {l : List Int} (h : l.length = 4) : ∃ a b c d, l = [a, b, c, d] := by
  match l, h with
  | [a, b, c, d], _ => exact ⟨a, b, c, d, rfl⟩
theorem two {l : List Int} (h : l.length = 2) : ∃ a b, l = [a, b] := by
  match l, h with
  | [a, b], _ => exact ⟨a, b, rfl⟩
end Go.Ax
namespace Go.Ax
theorem flatL_one {v : Value} {l : List Value} (h : flat v = true) (k : flatL l = true) : flatL (v :: l) = true := by simp [flatL, h, k]
end Go.Ax
