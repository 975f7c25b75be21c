/-
  A part of the proof: what the run over an abstract memory gives; conditions: those of each theorem.
-/
import Derived.Test.YtpfenodmchhglaaA31
import Derived.Laws.Strings
namespace Go.Ax
section
variable {P : Program} {F : FuncId → Option Func} {md : Md P} {n : Nat} {ops : Array Oper} {i : Nat} {l : List Nat} {E : T Value} {H : AHeap} {Q : T Value → AHeap → Prop}
  {d : Nat} {ty : TypeId} {pos : String} {af : Array Edge} {g : Option (Nat × Bool)}
theorem OT.bin {op : BinOp} {t yt : TypeId} {x y : Operand} {a b v : Value} (ho : ops[i]? = some ⟨some d, .binOp op t x y yt, ty, pos, af, g⟩) (hw : aWanted ops ⟨some d, .binOp op t x y yt, ty, pos, af, g⟩ E = some true) (hx : aEval E x = some a) (hy : aEval E y = some b)
    (hb : aBin P op t x y a b = some v) (hd : slotOK n d = true) (k : OT P F md n ops l (T.set 20 E d v) H Q) : OT P F md n ops (i :: l) E H Q := OT.op ho hw (by simp [aOp, hx, hy, hb]) (Side.pure rfl) hd k
theorem aBin_shr {t : TypeId} {xo yo : Operand} {k k2 : IntKind} {a b : Int} (h0 : 0 ≤ b) (h1 : b.toNat ≤ k.bits) : aBin P .shr t xo yo (.int k a) (.int k2 b) = some (.int k (a / 2 ^ b.toNat)) := by
  have e : a.fdiv (2 ^ b.toNat) = a / 2 ^ b.toNat := Int.fdiv_eq_ediv_of_nonneg _ (Int.le_of_lt (Int.pow_pos (by omega)))
  simp [aBin, flat, eqGuard, binOp, Op.shift, pureRun_pure, Int.not_lt.2 h0, Nat.min_eq_left h1, e]
theorem aBin_shl {t : TypeId} {xo yo : Operand} {k k2 : IntKind} {a b : Int} (h0 : 0 ≤ b) (h1 : b.toNat ≤ k.bits) (hc : k.wrap (a * 2 ^ b.toNat) = a * 2 ^ b.toNat) : aBin P .shl t xo yo (.int k a) (.int k2 b) = some (.int k (a * 2 ^ b.toNat)) := by
  simp [aBin, flat, eqGuard, binOp, Op.shift, pureRun_pure, Int.not_lt.2 h0, Nat.min_eq_left h1, hc]
theorem ofInt_toNat {w a : Nat} (h : a < 2 ^ w) : (BitVec.ofInt w (a : Int)).toNat = a := by
  rw [BitVec.toNat_ofInt]
  rw [show ((a : Int) % ((2 ^ w : Nat) : Int)) = ((a % 2 ^ w : Nat) : Int) from rfl, Int.toNat_natCast, Nat.mod_eq_of_lt h]
theorem aBin_mask {t : TypeId} {xo yo : Operand} {k : IntKind} {a : Int} (m : Nat) (h0 : 0 ≤ a) (h1 : a < 2 ^ k.bits) (hm : m ≤ k.bits) (hc : k.wrap (a % 2 ^ m) = a % 2 ^ m) :
    aBin P .and t xo yo (.int k a) (.int k (2 ^ m - 1)) = some (.int k (a % 2 ^ m)) := by
  obtain ⟨a, rfl⟩ : ∃ x : Nat, a = x := ⟨a.toNat, by omega⟩
  have h1' : a < 2 ^ k.bits := by exact_mod_cast h1
  have hp : 0 < 2 ^ m := Nat.two_pow_pos m
  have e2 : ((2 : Int) ^ m - 1) = ((2 ^ m - 1 : Nat) : Int) := by
    rw [Int.natCast_sub (by omega)]; simp
  have h2 : 2 ^ m - 1 < 2 ^ k.bits := by
    have := Nat.pow_le_pow_right (n := 2) (by omega) hm; omega
  have e : (((BitVec.ofInt k.bits (a : Int)) &&& (BitVec.ofInt k.bits ((2 ^ m - 1 : Nat) : Int))).toNat : Int) = (a : Int) % 2 ^ m := by
    rw [BitVec.toNat_and, ofInt_toNat h1', ofInt_toNat h2, Nat.and_two_pow_sub_one_eq_mod]
    simp
  simp only [aBin, flat, eqGuard, binOp, Op.intBits, e2, e, hc]
  simp [pureRun_pure, flat]
theorem aBin_or {t : TypeId} {xo yo : Operand} {k : IntKind} {a b : Int} (m : Nat) (h0 : 0 ≤ a) (h1 : a + b < 2 ^ k.bits) (h2 : a % 2 ^ m = 0) (h3 : 0 ≤ b) (h4 : b < 2 ^ m) (hc : k.wrap (a + b) = a + b) :
    aBin P .or t xo yo (.int k a) (.int k b) = some (.int k (a + b)) := by
  obtain ⟨a, rfl⟩ : ∃ x : Nat, a = x := ⟨a.toNat, by omega⟩
  obtain ⟨b, rfl⟩ : ∃ x : Nat, b = x := ⟨b.toNat, by omega⟩
  have h1' : a + b < 2 ^ k.bits := by exact_mod_cast h1
  have h2' : a % 2 ^ m = 0 := by exact_mod_cast h2
  have h4' : b < 2 ^ m := by exact_mod_cast h4
  have e : (((BitVec.ofInt k.bits (a : Int)) ||| (BitVec.ofInt k.bits (b : Int))).toNat : Int) = (a : Int) + b := by
    rw [BitVec.toNat_or, ofInt_toNat (by omega), ofInt_toNat (by omega)]
    obtain ⟨q, rfl⟩ := Nat.dvd_of_mod_eq_zero h2'
    rw [← Nat.two_pow_add_eq_or_of_lt h4']
    simp
  simp only [aBin, flat, eqGuard, binOp, Op.intBits, e, hc]
  simp [pureRun_pure, flat]
theorem OT.quo {t yt : TypeId} {x y : Operand} {kd : IntKind} {a b : Int} (ho : ops[i]? = some ⟨some d, .binOp .quo t x y yt, ty, pos, af, g⟩)
    (hw : aWanted ops ⟨some d, .binOp .quo t x y yt, ty, pos, af, g⟩ E = some true) (hx : aEval E x = some (.int kd a)) (hy : aEval E y = some (.int kd b)) (h0 : 0 ≤ a) (h1 : 0 < b) (hc : kd.wrap (a / b) = a / b) (hd : slotOK n d = true)
    (k : OT P F md n ops l (T.set 20 E d (.int kd (a / b))) H Q) : OT P F md n ops (i :: l) E H Q := OT.bin ho hw hx hy (by rw [aBin_quo (by omega), Int.tdiv_eq_ediv_of_nonneg h0, hc]) hd k
theorem OT.rem {t yt : TypeId} {x y : Operand} {kd : IntKind} {a b : Int} (ho : ops[i]? = some ⟨some d, .binOp .rem t x y yt, ty, pos, af, g⟩)
    (hw : aWanted ops ⟨some d, .binOp .rem t x y yt, ty, pos, af, g⟩ E = some true) (hx : aEval E x = some (.int kd a)) (hy : aEval E y = some (.int kd b)) (h0 : 0 ≤ a) (h1 : 0 < b) (hd : slotOK n d = true)
    (k : OT P F md n ops l (T.set 20 E d (.int kd (a % b))) H Q) : OT P F md n ops (i :: l) E H Q := OT.bin ho hw hx hy (by rw [aBin_rem (by omega), Int.tmod_eq_emod_of_nonneg h0]) hd k
theorem OT.not {t : TypeId} {x : Operand} {b : Bool} (ho : ops[i]? = some ⟨some d, .unOp .not t x, ty, pos, af, g⟩) (hw : aWanted ops ⟨some d, .unOp .not t x, ty, pos, af, g⟩ E = some true) (hx : aEval E x = some (.bool b)) (hd : slotOK n d = true)
    (k : OT P F md n ops l (T.set 20 E d (.bool (!b))) H Q) : OT P F md n ops (i :: l) E H Q := OT.op ho hw (by simp [aOp, hx, flat, Op.unary, pureRun_pure]) (Side.pure rfl) hd k
theorem OT.extract {x : Operand} {j : Nat} {vs : Array Value} {v : Value} (ho : ops[i]? = some ⟨some d, .extract x j, ty, pos, af, g⟩) (hw : aWanted ops ⟨some d, .extract x j, ty, pos, af, g⟩ E = some true) (hx : aEval E x = some (.tuple vs)) (hv : vs[j]? = some v) (hd : slotOK n d = true)
    (k : OT P F md n ops l (T.set 20 E d v) H Q) : OT P F md n ops (i :: l) E H Q := OT.op ho hw (by simp [aOp, hx, hv]) (Side.pure rfl) hd k
/-- Two texts, one behind the other. -/
theorem aBin_cat {t : TypeId} {xo yo : Operand} {a b : List UInt8} (hl : a.length + b.length < 2 ^ 62) : aBin P .add t xo yo (bstr a) (bstr b) = some (bstr (a ++ b)) := by
  have : (⟨a.toArray⟩ : ByteArray) ++ (⟨b.toArray⟩ : ByteArray) = ⟨(a ++ b).toArray⟩ := by
    apply ByteArray.ext; simp
  have h2 : ¬ ((9223372036854775807 : Int) < ((⟨a.toArray⟩ : ByteArray).size : Int) + ((⟨b.toArray⟩ : ByteArray).size : Int)) := by rw [size_bstr, size_bstr]; omega
  simp [aBin, bstr, flat, eqGuard, binOp, Op.stringOp, pureRun_pure, this, h2]
theorem bstr_inj {a b : List UInt8} : (⟨a.toArray⟩ : ByteArray) = ⟨b.toArray⟩ ↔ a = b := by
  constructor
  · intro h; have := congrArg (fun x : ByteArray => x.data.toList) h; simpa using this
  · rintro rfl; rfl
theorem aBin_eqT {t : TypeId} {xo yo : Operand} {a b : List UInt8} : aBin P .eql t xo yo (bstr a) (bstr b) = some (.bool (decide (a = b))) := by
  simp [aBin, bstr, flat, eqGuard, binOp, Op.stringOp, pureRun_pure, Go.ByteArray.toList_eq]
  exact Bool.beq_eq_decide_eq _ _
end
end Go.Ax
