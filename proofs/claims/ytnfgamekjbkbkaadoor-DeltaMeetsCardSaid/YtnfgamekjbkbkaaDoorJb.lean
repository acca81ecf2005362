/-
  Revocations: deltas held against one another.
-/
import Derived.Test.YtnfgamekjbkbkaaDoorEo
namespace Go.Proofs.YtnfgamekjbkbkaaDoor
open Go Go.RowKit
theorem range_from8 {W : World} {b n : Nat} {l m : List Value} (h : W.rangeAt b 0 (l ++ m)) (hn : l.length = n) : W.rangeAt b n m := fun j u hj => by
  have := h (n + j) u (by rw [List.getElem?_append_right (by omega)]; simpa [hn] using hj)
  rw [Nat.zero_add] at this
  exact this
theorem range_to8 {W : World} {b o : Nat} {l m : List Value} (h : W.rangeAt b o (l ++ m)) : W.rangeAt b o l := fun j u hj => h j u (by rw [List.getElem?_append_left (List.getElem?_eq_some_iff.1 hj).1]; exact hj)
end Go.Proofs.YtnfgamekjbkbkaaDoor
