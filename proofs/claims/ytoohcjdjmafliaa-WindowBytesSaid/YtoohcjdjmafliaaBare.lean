/-
  A world to begin with, where no table is laid.
-/
import Derived.Test.YtoohcjdjmafliaaW2
namespace Go.Proofs.Ytoohcjdjmafliaa
open Go
/-- A world to begin with. -/
noncomputable def laidWorld (os : Os) : World := World.holding Try.prog os ⟨#[], #[], []⟩
end Go.Proofs.Ytoohcjdjmafliaa
