/-
  DeltaAnswers: the whole walk.
-/
import Derived.Test.YtnfgamekjbkbkaaDoorNn
import Derived.Test.YtnfgamekjbkbkaaDoorD18
namespace Go.Proofs.YtnfgamekjbkbkaaDoor
open Go Go.RowKit
theorem answers_all (x : VV) (m : L4) (v : V4) (room : Int) (w : World) (hx : RowsI w x m) (hm : Most m 9223372036854775807) (hr2 : room ≤ 9223372036854775807) (hF : Full w) (hf : 0 < w.heap.size) (hTab : Tab w) (hG : 1 < w.heap.size) :
    Calls Tryd.prog 5 #[.agg #[x.a, x.b, x.c, x.d], .agg #[.int .i64 v.a, .int .i64 v.b, .int .i64 v.c, .int .i64 v.d], .int .i64 room] w fun e w' => e = .returned (.bool true) ∧ Below w.heap.size w w' := by
  refine answers_walk x m v room w hx hm hr2 hF hf hTab hG fun h f x m W hx hm => ?_
  obtain ⟨n, rfl⟩ : ∃ n : Nat, room = n := ⟨room.toNat, by omega⟩
  rw [show (((n : Int) - 16) / 2).toNat = (n - 16) / 2 by omega]
  exact cut9 f x m n W hx hm (by omega) hr2
end Go.Proofs.YtnfgamekjbkbkaaDoor
