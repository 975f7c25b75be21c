/-
  A part of the proof: what a piece of the program gives; conditions: those of each theorem.
-/
import Derived.Test.YtfkbegcinagkmaaDoorHD
import Derived.Test.YtfkbegcinagkmaaDoorProg
set_option linter.unusedVariables false
namespace Go.Proofs.YtfkbegcinagkmaaDoor
open Go.Px Go.Ax
def tyL : List (Nat × (Nat × Nat × Bool × TK × Sh × Option IntKind)) := [
  (2, (1, 8, false, (.int .i64), (.int .i64), none)),
  (3, (1, 8, false, (.int .i64), (.int .i64), none)),
  (4, (1, 1, false, .bool, .bool, none)),
  (5, (1, 1, false, (.int .u8), (.int .u8), none)),
  (6, (1, 1, false, (.int .u8), (.int .u8), none)),
  (7, (4, 24, true, (.struct [(0, 2), (1, 3), (2, 4), (3, 6)]), (.pair (.int .i64) (.pair (.int .i64) (.pair .bool (.int .u8)))), none)),
  (8, (4, 24, true, (.struct [(0, 2), (1, 3), (2, 4), (3, 6)]), (.pair (.int .i64) (.pair (.int .i64) (.pair .bool (.int .u8)))), none)),
  (9, (1, 16, false, .str, .str, none)),
  (10, (1, 16, false, .str, .str, none)),
  (11, (1, 16, false, .str, .str, none)),
  (12, (1, 8, false, (.int .u64), (.int .u64), none)),
  (13, (2, 24, true, (.struct [(0, 9), (1, 12)]), (.pair .str (.int .u64)), none)),
  (14, (2, 24, true, (.struct [(0, 9), (1, 12)]), (.pair .str (.int .u64)), none)),
  (21, (1, 4, false, (.int .i32), (.int .i32), none)),
  (22, (1, 4, false, (.int .u32), (.int .u32), none)),
  (23, (4, 4, true, (.array 4 5), (.arr 4 (.int .u8)), none)),
  (24, (4, 4, true, (.array 4 5), (.arr 4 (.int .u8)), none)),
  (25, (1, 2, false, (.int .u16), (.int .u16), none)),
  (29, (1, 24, false, (.slice 22), (.sl (.int .u32)), none)),
  (30, (5, 40, true, (.struct [(0, 3), (1, 3), (2, 3), (3, 3), (4, 3)]), (.pair (.int .i64) (.pair (.int .i64) (.pair (.int .i64) (.pair (.int .i64) (.int .i64))))), (some .i64))),
  (31, (5, 40, true, (.struct [(0, 3), (1, 3), (2, 3), (3, 3), (4, 3)]), (.pair (.int .i64) (.pair (.int .i64) (.pair (.int .i64) (.pair (.int .i64) (.int .i64))))), (some .i64))),
  (33, (1, 8, false, (.int .i64), (.int .i64), none)),
  (39, (2, 4, true, (.array 2 25), (.arr 2 (.int .u16)), none)),
  (42, (1, 2, false, (.int .i16), (.int .i16), none)),
  (43, (2, 4, true, (.array 2 42), (.arr 2 (.int .i16)), none)),
  (46, (1, 24, false, (.slice 5), (.sl (.int .u8)), none)),
  (52, (1, 8, false, (.int .u64), (.int .u64), none)),
  (56, (1, 4, false, (.int .u32), (.int .u32), none)),
  (58, (5, 40, true, (.struct [(0, 9), (1, 3), (2, 3), (3, 4), (4, 4)]), (.pair .str (.pair (.int .i64) (.pair (.int .i64) (.pair .bool .bool)))), none)),
  (59, (5, 40, true, (.struct [(0, 9), (1, 3), (2, 3), (3, 4), (4, 4)]), (.pair .str (.pair (.int .i64) (.pair (.int .i64) (.pair .bool .bool)))), none)),
  (60, (45, 360, true, (.array 9 59), (.arr 9 (.pair .str (.pair (.int .i64) (.pair (.int .i64) (.pair .bool .bool))))), none)),
  (61, (3, 24, true, (.array 3 3), (.arr 3 (.int .i64)), none)),
  (72, (1, 1, false, (.int .u8), (.int .u8), none)),
  (73, (1, 1, false, (.int .u8), (.int .u8), none)),
  (76, (1, 4, false, (.int .i32), (.int .i32), none)),
  (77, (1, 4, false, (.int .i32), (.int .i32), none))]
abbrev tt : TT := ttOf tyL
set_option maxRecDepth 100000 in
theorem tyOK : ttB Tryd.prog tyL = true := by decide +kernel
theorem ty : TTOK Tryd.prog tt := ttB_ok tyOK
theorem mixed : Tryd.prog.follows .mixedOrders = true := by decide +kernel
end Go.Proofs.YtfkbegcinagkmaaDoor
