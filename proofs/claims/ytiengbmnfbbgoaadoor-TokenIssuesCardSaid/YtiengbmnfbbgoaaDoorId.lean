/-
  The walks of the document's own fields.
-/
import Derived.Test.YtiengbmnfbbgoaaDoorIc
namespace Go.Proofs.YtiengbmnfbbgoaaDoor
open Go Go.RowKit
theorem idxW0 (W : World) : (Instr.index 94 (.agg #[.int .i64 1, .int .i64 2, .int .i64 4, .int .i64 8]) (.int .i64 0)).run Tryd.prog W = .ok (.int .i64 1) W := by kernel_rfl
theorem idxW1 (W : World) : (Instr.index 94 (.agg #[.int .i64 1, .int .i64 2, .int .i64 4, .int .i64 8]) (.int .i64 1)).run Tryd.prog W = .ok (.int .i64 2) W := by kernel_rfl
theorem idxW2 (W : World) : (Instr.index 94 (.agg #[.int .i64 1, .int .i64 2, .int .i64 4, .int .i64 8]) (.int .i64 2)).run Tryd.prog W = .ok (.int .i64 4) W := by kernel_rfl
theorem idxW3 (W : World) : (Instr.index 94 (.agg #[.int .i64 1, .int .i64 2, .int .i64 4, .int .i64 8]) (.int .i64 3)).run Tryd.prog W = .ok (.int .i64 8) W := by kernel_rfl
theorem idxM0 (W : World) : (Instr.index 94 (.agg #[.int .i64 255, .int .i64 65535, .int .i64 4294967295, .int .i64 9223372036854775807]) (.int .i64 0)).run Tryd.prog W = .ok (.int .i64 255) W := by kernel_rfl
theorem idxM1 (W : World) : (Instr.index 94 (.agg #[.int .i64 255, .int .i64 65535, .int .i64 4294967295, .int .i64 9223372036854775807]) (.int .i64 1)).run Tryd.prog W = .ok (.int .i64 65535) W := by kernel_rfl
theorem idxM2 (W : World) : (Instr.index 94 (.agg #[.int .i64 255, .int .i64 65535, .int .i64 4294967295, .int .i64 9223372036854775807]) (.int .i64 2)).run Tryd.prog W = .ok (.int .i64 4294967295) W := by kernel_rfl
theorem idxM3 (W : World) : (Instr.index 94 (.agg #[.int .i64 255, .int .i64 65535, .int .i64 4294967295, .int .i64 9223372036854775807]) (.int .i64 3)).run Tryd.prog W = .ok (.int .i64 9223372036854775807) W := by kernel_rfl
theorem rwidth_any (s : Int) (w : World) (h0 : 0 ≤ s) (h3 : s ≤ 3) : Calls Tryd.prog 62 #[.int .i64 s] w fun e w' => e = .returned (.int .i64 (wid s : Int)) ∧ w' = w := by
  rcases size_cases h0 h3 with rfl | rfl | rfl | rfl
  all_goals
    have q0 := idxW0
    have q1 := idxW1
    have q2 := idxW2
    have q3 := idxW3
    go_enter Tryd.func62, Tryd.ntmps62
    go_wp2
    go_ret
    exact ⟨rfl, rfl⟩
end Go.Proofs.YtiengbmnfbbgoaaDoor
