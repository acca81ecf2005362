/-
  The walk of Issue.
-/
import Derived.Test.YtdionedinmkeiaaDoorQh
namespace Go.Proofs.YtdionedinmkeiaaDoor
open Go Go.RowKit
theorem Tab.grown {w w1 : World} {M : Nat} (h : Tab w) (hg : w.grownBy w1 (some M)) (hlt : 0 < w.heap.size) (hne : 0 ≠ M) : Tab w1 := fun i hi => by
  rw [World.cell?_of_block (hg.block 0 hlt (fun e => hne (by injection e)))]
  exact h i hi
/-- No token, for a reason. -/
def NoTok (r : Int) (w : World) (e : Ending) (w' : World) : Prop := e = .returned (.tuple #[tkV c0 z32, .int .i64 r]) ∧ Below w.heap.size w w'
end Go.Proofs.YtdionedinmkeiaaDoor
namespace Go.Proofs.YtdionedinmkeiaaDoor
open Go Go.RowKit
end Go.Proofs.YtdionedinmkeiaaDoor
