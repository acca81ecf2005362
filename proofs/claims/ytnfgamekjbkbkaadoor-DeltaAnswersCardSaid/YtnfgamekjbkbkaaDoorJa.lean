/-
  Revocations: logs that are beginnings of the same ones.
-/
import Derived.Test.YtnfgamekjbkbkaaDoorEy
namespace Go.Proofs.YtnfgamekjbkbkaaDoor
open Go Go.RowKit
/-- Four counts. -/
structure N4 where
  a : Nat
  b : Nat
  c : Nat
  d : Nat
def N4.v (n : N4) : V4 := ⟨(n.a : Int), (n.b : Int), (n.c : Int), (n.d : Int)⟩
def N4.max (n m : N4) : N4 := ⟨Nat.max n.a m.a, Nat.max n.b m.b, Nat.max n.c m.c, Nat.max n.d m.d⟩
def L4.len (l : L4) : N4 := ⟨l.a.length, l.b.length, l.c.length, l.d.length⟩
/-- None of the logs has one twice. -/
structure NoDup (l : L4) : Prop where
  a : dupB l.a = false
  b : dupB l.b = false
  c : dupB l.c = false
  d : dupB l.d = false
theorem NoDup.nil : NoDup L4.nil := ⟨rfl, rfl, rfl, rfl⟩
theorem allS_of {l : List Int} (h : ∀ x ∈ l, okS x = true) : allS l = true := List.all_eq_true.2 h
end Go.Proofs.YtnfgamekjbkbkaaDoor
