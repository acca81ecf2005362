/-
  The walk of a field's bytes, the document's.
-/
import Derived.Test.YtiomjknhlfhlhaaDoorId
namespace Go.Proofs.YtiomjknhlfhlhaaDoor
open Go Go.RowKit
theorem beN_two (L : Nat) (_ : L < 65536) : beN 2 L = [UInt8.ofNat (L / 256 % 256), UInt8.ofNat (L % 256)] := by
  simp [beN]
/-- What is left of a number behind k rounds. -/
theorem div_pow_succ (m k : Nat) : m / 256 ^ k / 256 = m / 256 ^ (k + 1) := by rw [Nat.div_div_eq_div_mul, Nat.pow_succ]
end Go.Proofs.YtiomjknhlfhlhaaDoor
