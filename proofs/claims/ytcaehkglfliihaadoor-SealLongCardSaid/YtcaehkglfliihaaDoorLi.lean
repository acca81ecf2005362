/-
  Numbers that come in: their bounds.
-/
import Derived.Test.YtcaehkglfliihaaDoorOpn
namespace Go.Proofs.YtcaehkglfliihaaDoor
open Go Go.RowKit
theorem lit_i64 (n : Int) (h : (Lit.int .i64 n).wf = true) : -9223372036854775808 ≤ n ∧ n ≤ 9223372036854775807 := by
  have h2 : (decide (IntKind.i64.min ≤ n) && decide (n ≤ IntKind.i64.max)) = true := h
  rw [Bool.and_eq_true, decide_eq_true_eq, decide_eq_true_eq] at h2
  exact h2
theorem lit_u8 (n : Int) (h : (Lit.int .u8 n).wf = true) : ∃ y : UInt8, ub y = n := by
  have h2 : (decide (IntKind.u8.min ≤ n) && decide (n ≤ IntKind.u8.max)) = true := h
  rw [Bool.and_eq_true, decide_eq_true_eq, decide_eq_true_eq] at h2
  have h3 : (0 : Int) ≤ n ∧ n ≤ 255 := h2
  refine ⟨UInt8.ofNat n.toNat, ?_⟩
  unfold ub
  rw [UInt8.toNat_ofNat']
  omega
end Go.Proofs.YtcaehkglfliihaaDoor
