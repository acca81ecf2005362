/-
  RevokeBytes, of any delta.
-/
import Derived.Test.YtnfgamekjbkbkaaDoorMl
import Derived.Test.YtnfgamekjbkbkaaDoorMm
namespace Go.Proofs.YtnfgamekjbkbkaaDoor
open Go Go.RowKit
theorem bytes_walk (v : V4) (x : VV) (m : L4) (b : List UInt8) (vb : Value) (w : World) (hx : RowsI w x m) (hm : Most m 9223372036854775807) (hb : Bytes w vb b) (hbl : b.length ≤ 9223372036854775807) (hF : Full w) (hf : 0 < w.heap.size) :
    Calls Tryd.prog 3 #[.agg (dC v x), vb] w fun e w' => e = .returned (.bool true) ∧ Below w.heap.size w w' := by
  cases hw : withinB v (m.take 40) with
  | false => exact bytes_bad v x m b vb w hx hm hb hbl hF hf hw
  | true => exact bytes_good v x m b vb w hx hm hb hbl hF hf hw
end Go.Proofs.YtnfgamekjbkbkaaDoor
