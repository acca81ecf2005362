/-
  A code's parts: what lies behind a region, and the part that holds it.
-/
import Derived.Test.YtnfgamekjbkbkaaDoorD1
namespace Go.Proofs.YtnfgamekjbkbkaaDoor
open Go Go.RowKit
def restOf9 (n : Nat) : Code → Code
  | .seq a b => if (regAt n a).isSome then b else restOf9 n b
  | c => c
def restAt9 (c : Option Code) (n : Nat) : Code := restOf9 n (c.getD .skip)
def partOf9 (n : Nat) : Code → Code
  | .seq a b => if (regAt n a).isSome then a else partOf9 n b
  | c => c
def partAt9 (c : Option Code) (n : Nat) : Code := partOf9 n (c.getD .skip)
end Go.Proofs.YtnfgamekjbkbkaaDoor
