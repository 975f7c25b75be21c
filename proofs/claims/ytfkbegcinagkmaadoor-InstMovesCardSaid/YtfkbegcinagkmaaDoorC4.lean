/-
  A part of the proof: what a piece of the program gives; conditions: those of each theorem.
-/
import Derived.Test.YtfkbegcinagkmaaDoorV4
set_option linter.unusedVariables false
namespace Go.Proofs.YtfkbegcinagkmaaDoor
open Go.Px Go.Ax
def kd (o : Int) : kindSh.D := gt kindSh kindsL o.toNat
def rg (w n j : Int) : Int := if j < n then octV w (1 + j) else 0
def rL (w n : Int) : List Int := [rg w n 0, rg w n 1, rg w n 2]
def numN (w a kb : Int) (kg kt : Bool) : Int := if kt then a + 4 * numV kg w kb else numV kg w kb
def decL (w a o n kb : Int) (kg kt : Bool) : List SV := [.agg [.int .i64 o, .int .i64 (rg w n 0), .int .i64 (rg w n 1), .int .i64 (rg w n 2), .int .i64 (numN w a kb kg kt)]]
theorem lowV_range (w b : Int) : 0 ≤ lowV w b ∧ lowV w b < 4294967296 :=
  div_bounds (by omega) (by omega) (Int.pow_pos (by decide))
theorem lowSV_range (w b : Int) : -2147483648 ≤ lowSV w b ∧ lowSV w b ≤ 2147483647 :=
  lowS_range _ _ (Int.pow_pos (by decide))
theorem numV_range (g : Bool) (w b : Int) : -2147483648 ≤ numV g w b ∧ numV g w b < 4294967296 := by
  have h1 := lowV_range w b
  have h2 := lowSV_range w b
  unfold numV
  split <;> omega
theorem rL_set (w i : Int) (h0 : 0 ≤ i) (h3 : i < 3) : (rL w i).set i.toNat (octV w (1 + i)) = rL w (i + 1) := by
  rcases (by omega : i = 0 ∨ i = 1 ∨ i = 2) with rfl | rfl | rfl <;> rfl
theorem dec_loop (w a o kr kb : Int) (ks : List UInt8) (kg kt : Bool) (hw : 0 ≤ w ∧ w < 4294967296) (ha : 0 ≤ a ∧ a ≤ 65540) {n : Int} (hn : 0 ≤ n ∧ n ≤ 3) (hb : 0 ≤ kb ∧ kb ≤ 32) : ∀ (m : Nat) (i : Int), 0 ≤ i → i ≤ n → (n - i).toNat = m →
    Px.Good Tryd.prog tt G0 13 Tryd.f13.ntmps Tryd.f13.results.toList (fun rs _ => rs = decL w a o n kb kg kt) (hd Tryd.f13 0) ⟨[(0, .int .u32 w), (1, .int .i64 a), (4, .ptr 4 0), (5, .int .u32 w), (6, .int .i64 o), (7, .ptr 7 0), (8, .ptr 8 0), (18, .int .i64 n), (19, .int .i64 i)], [(4, .var [.int .i64 0, .int .i64 0, .int .i64 0, .int .i64 0, .int .i64 0]), (7, .var [.str ks, .int .i64 kr, .int .i64 kb, .bool kg, .bool kt]), (8, .var [.arr 3 (.int .i64) (rL w i)])]⟩ := by
  intro m
  induction m with
  | zero =>
    intro i hi hin hm
    obtain rfl : i = n := by omega
    have hr := numV_range kg w kb
    refine sy_sound cx3 _ _ _ ((vc_decL w a o i i kr kb ks kg kt (rL w i) _ _).mpr ?_)
    rw [show decide (i < i) = false from decide_eq_false (by omega), bc_f, IntWalk.i64_in (4 * numV kg w kb) (by omega), IntWalk.i64_in (a + 4 * numV kg w kb) (by omega)]
    refine ⟨⟨hw, hb⟩, bc_of (fun h => ?_) (fun h => ?_)⟩
    · exact ⟨by decide, by decide, by decide, by decide, by decide, by decide, by decide, by decide, by decide, by rw [decL, numN, if_pos h]; rfl⟩
    · exact ⟨by decide, by decide, by decide, by decide, by decide, by decide, by decide, by decide, by decide, by rw [decL, numN, if_neg (by rw [h]; decide)]; rfl⟩
  | succ m ih =>
    intro i hi hin hm
    refine sy_sound cx3 _ _ _ ((vc_decL w a o n i kr kb ks kg kt (rL w i) _ _).mpr ?_)
    rw [show decide (i < n) = true from decide_eq_true (by omega), bc_t, IntWalk.i64_in (1 + i) (by omega), IntWalk.i64_in (i + 1) (by omega), rL_set w i hi (by omega)]
    exact ⟨⟨hw, (by omega : 0 ≤ 1 + i ∧ 1 + i < 4)⟩, hi, by show _ < (3 : Int); omega, by omega, (ih (i + 1) (by omega) (by omega) (by omega)).only ⟨rfl, rfl, rfl, rfl, rfl, rfl, rfl, rfl, rfl, trivial⟩ ⟨rfl, rfl, rfl, trivial⟩⟩
def decV (w a : Int) : List SV := decL w a (opV w) (regs (opV w)) (kd (opV w)).2.2.1 (kd (opV w)).2.2.2.1 (kd (opV w)).2.2.2.2
def preDec (w a : Int) : Prop := (0 ≤ w ∧ w < 4294967296) ∧ 0 ≤ a ∧ a ≤ 65540
def ctDec : Ctr := ⟨[.int .u32, .int .i64], fun x => preDec x.1 x.2.1, fun x => decV x.1 x.2.1, fun _ => []⟩
theorem opV_range (w : Int) : 0 ≤ opV w ∧ opV w < 9 := by
  have h := oct_nn w 0
  unfold opV
  repeat' split
  all_goals omega
theorem kd_bits (o : Int) (h0 : 0 ≤ o) (h9 : o < 9) : (fun b : Int => 0 ≤ b ∧ b ≤ 32) (kd o).2.2.1 := by
  rcases nine o h0 h9 with rfl | rfl | rfl | rfl | rfl | rfl | rfl | rfl | rfl <;> exact ⟨by decide, by decide⟩
theorem dec_held : Held Tryd.prog G0 13 ctDec := by
  refine Held.run cx3 (fn := Tryd.f13) rfl rfl ⟨by decide, by decide⟩ ?_
  rintro ⟨w, a, ⟨⟩⟩ hp
  replace hp : preDec w a := hp
  have ho := opV_range w
  refine (vc_dec w a _ _).mpr ⟨hp.1, ho.1, by show _ < (9 : Int); omega, ?_⟩
  have hk : (kd (opV w)).2.1 = regs (opV w) := regs_tab _ ho.1 ho.2
  have e := dec_loop w a (opV w) (kd (opV w)).2.1 (kd (opV w)).2.2.1 (kd (opV w)).1 (kd (opV w)).2.2.2.1 (kd (opV w)).2.2.2.2 hp.1 hp.2 (regs_le (opV w)) (kd_bits _ ho.1 ho.2) _ 0 (by omega) (regs_le (opV w)).1 rfl
  refine (e.post fun rs blk hq => QC.flat hq.symm rfl (by rw [hq]; rfl)).only ⟨rfl, rfl, rfl, rfl, rfl, rfl, rfl, ?_, rfl, trivial⟩ ⟨rfl, rfl, ?_, trivial⟩
  · exact congrArg (fun z => some (SV.int .i64 z)) hk
  · rfl
def C4 : CV := (13, ctDec) :: C3
theorem cx4 : CxOK Tryd.prog tt G0 C4 := cx3.cons dec_held (fn := Tryd.f13) rfl rfl rfl
end Go.Proofs.YtfkbegcinagkmaaDoor
