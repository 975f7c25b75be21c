/-
  A part of the proof: what a piece of the program gives; conditions: those of each theorem.
-/
import Derived.Test.YtijeaicbnfiegaaHD
import Derived.Test.YtijeaicbnfiegaaProg
set_option linter.unusedVariables false
namespace Go.Proofs.Ytijeaicbnfiegaa
open Go.Px Go.Ax
def tyL : List (Nat × (Nat × Nat × Bool × TK × Sh × Option IntKind)) := [
  (1, (1, 8, false, .other, .unit, none)),
  (2, (1, 8, false, (.int .i64), (.int .i64), none)),
  (3, (1, 8, false, (.int .i64), (.int .i64), none)),
  (4, (1, 1, false, .bool, .bool, none)),
  (5, (1, 1, false, (.int .u8), (.int .u8), none)),
  (6, (1, 1, false, (.int .u8), (.int .u8), none)),
  (7, (4, 24, true, (.struct [(0, 2), (1, 3), (2, 4), (3, 6)]), (.pair (.int .i64) (.pair (.int .i64) (.pair .bool (.int .u8)))), none)),
  (8, (4, 24, true, (.struct [(0, 2), (1, 3), (2, 4), (3, 6)]), (.pair (.int .i64) (.pair (.int .i64) (.pair .bool (.int .u8)))), none)),
  (9, (1, 16, false, .str, .str, none)),
  (10, (1, 16, false, .str, .str, none)),
  (11, (1, 16, false, .str, .str, none)),
  (12, (1, 8, false, (.int .u64), (.int .u64), none)),
  (13, (2, 24, true, (.struct [(0, 9), (1, 12)]), (.pair .str (.int .u64)), none)),
  (14, (2, 24, true, (.struct [(0, 9), (1, 12)]), (.pair .str (.int .u64)), none)),
  (21, (1, 4, false, (.int .i32), (.int .i32), none)),
  (22, (1, 24, false, (.slice 5), (.sl (.int .u8)), none)),
  (23, (1, 8, false, .other, .unit, none)),
  (24, (1, 8, false, .other, .unit, none)),
  (25, (1, 24, false, (.slice 3), (.sl (.int .i64)), none)),
  (26, (1, 8, false, .other, .unit, none)),
  (27, (1, 8, false, .other, .unit, none)),
  (28, (2, 16, true, (.struct [(0, 3), (1, 3)]), (.pair (.int .i64) (.int .i64)), (some .i64))),
  (29, (2, 16, true, (.struct [(0, 3), (1, 3)]), (.pair (.int .i64) (.int .i64)), (some .i64))),
  (30, (1, 8, false, .other, .unit, none)),
  (31, (1, 8, false, .other, .unit, none)),
  (32, (1, 8, false, .other, .unit, none)),
  (33, (1, 8, false, .other, .unit, none)),
  (34, (1, 8, false, .other, .unit, none)),
  (35, (1, 8, false, .other, .unit, none)),
  (36, (1, 8, false, .other, .unit, none)),
  (37, (2, 2, true, (.array 2 5), (.arr 2 (.int .u8)), none)),
  (38, (1, 8, false, .other, .unit, none)),
  (39, (1, 8, false, .other, .unit, none)),
  (40, (1, 8, false, .other, .unit, none)),
  (41, (1, 24, false, (.slice 45), (.sl (.arr 2 (.int .i64))), none)),
  (42, (1, 8, false, .other, .unit, none)),
  (43, (1, 8, false, .other, .unit, none)),
  (44, (2, 16, true, (.array 2 3), (.arr 2 (.int .i64)), none)),
  (45, (2, 16, true, (.array 2 3), (.arr 2 (.int .i64)), some .i64)),
  (46, (1, 8, false, .other, .unit, none)),
  (47, (1, 8, false, .other, .unit, none)),
  (48, (1, 8, false, .other, .unit, none)),
  (50, (1, 8, false, .other, .unit, none)),
  (51, (1, 8, false, .other, .unit, none)),
  (52, (1, 8, false, .other, .unit, none)),
  (53, (1, 8, false, .other, .unit, none)),
  (54, (1, 8, false, .other, .unit, none)),
  (55, (1, 24, false, (.slice 4), (.sl .bool), none)),
  (56, (1, 8, false, .other, .unit, none)),
  (57, (1, 8, false, .other, .unit, none)),
  (58, (1, 8, false, .other, .unit, none)),
  (64, (1, 8, false, .other, .unit, none)),
  (65, (1, 4, false, (.int .u32), (.int .u32), none)),
  (66, (1, 1, false, (.int .u8), (.int .u8), none)),
  (67, (1, 1, false, (.int .u8), (.int .u8), none)),
  (68, (1, 8, false, .other, .unit, none)),
  (70, (1, 4, false, (.int .i32), (.int .i32), none)),
  (71, (1, 4, false, (.int .i32), (.int .i32), none))]
abbrev tt : TT := ttOf tyL
set_option maxRecDepth 100000 in
theorem tyOK : ttB Try.prog tyL = true := by decide +kernel
theorem ty : TTOK Try.prog tt := ttB_ok tyOK
theorem mixed : Try.prog.follows .mixedOrders = true := by decide +kernel
def G0 : GV := ⟨[], .nil⟩
theorem cx0 : CxOK Try.prog tt G0 [] := CxOK.nil ty mixed
end Go.Proofs.Ytijeaicbnfiegaa
