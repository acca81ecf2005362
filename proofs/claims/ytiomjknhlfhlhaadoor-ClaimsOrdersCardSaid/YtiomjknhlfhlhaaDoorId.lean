/-
  The walks of the document's own fields.
-/
import Derived.Test.YtiomjknhlfhlhaaDoorIc
namespace Go.Proofs.YtiomjknhlfhlhaaDoor
open Go Go.RowKit
theorem idxW0 (W : World) : (Instr.index 39 (.agg #[.int .i64 1, .int .i64 2, .int .i64 4, .int .i64 8]) (.int .i64 0)).run Tryd.prog W = .ok (.int .i64 1) W := by kernel_rfl
theorem idxW1 (W : World) : (Instr.index 39 (.agg #[.int .i64 1, .int .i64 2, .int .i64 4, .int .i64 8]) (.int .i64 1)).run Tryd.prog W = .ok (.int .i64 2) W := by kernel_rfl
theorem idxW2 (W : World) : (Instr.index 39 (.agg #[.int .i64 1, .int .i64 2, .int .i64 4, .int .i64 8]) (.int .i64 2)).run Tryd.prog W = .ok (.int .i64 4) W := by kernel_rfl
theorem idxW3 (W : World) : (Instr.index 39 (.agg #[.int .i64 1, .int .i64 2, .int .i64 4, .int .i64 8]) (.int .i64 3)).run Tryd.prog W = .ok (.int .i64 8) W := by kernel_rfl
theorem idxM0 (W : World) : (Instr.index 39 (.agg #[.int .i64 255, .int .i64 65535, .int .i64 4294967295, .int .i64 9223372036854775807]) (.int .i64 0)).run Tryd.prog W = .ok (.int .i64 255) W := by kernel_rfl
theorem idxM1 (W : World) : (Instr.index 39 (.agg #[.int .i64 255, .int .i64 65535, .int .i64 4294967295, .int .i64 9223372036854775807]) (.int .i64 1)).run Tryd.prog W = .ok (.int .i64 65535) W := by kernel_rfl
theorem idxM2 (W : World) : (Instr.index 39 (.agg #[.int .i64 255, .int .i64 65535, .int .i64 4294967295, .int .i64 9223372036854775807]) (.int .i64 2)).run Tryd.prog W = .ok (.int .i64 4294967295) W := by kernel_rfl
theorem idxM3 (W : World) : (Instr.index 39 (.agg #[.int .i64 255, .int .i64 65535, .int .i64 4294967295, .int .i64 9223372036854775807]) (.int .i64 3)).run Tryd.prog W = .ok (.int .i64 9223372036854775807) W := by kernel_rfl
end Go.Proofs.YtiomjknhlfhlhaaDoor
