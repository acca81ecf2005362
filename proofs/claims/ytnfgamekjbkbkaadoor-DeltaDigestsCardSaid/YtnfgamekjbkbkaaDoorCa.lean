/-
  Claims: the walks of their limits and of Check.
-/
import Derived.Test.YtnfgamekjbkbkaaDoorGa
namespace Go.Proofs.YtnfgamekjbkbkaaDoor
open Go Go.RowKit
/-- Claims, as numbers. -/
structure Cl where
  id : Int
  ro : Int
  ex : Int
  se : Int
/-- Claims, as a value. -/
def clV (c : Cl) : Value := .agg #[.int .i64 c.id, .int .i64 c.ro, .int .i64 c.ex, .int .i64 c.se]
/-- Are the four within their limits? -/
def okC (c : Cl) : Bool := decide (1 ≤ c.id) && decide (c.id ≤ 65535) && decide (0 ≤ c.ro) && decide (c.ro ≤ 255) && decide (0 ≤ c.ex) && decide (c.ex ≤ 1073741824) && decide (1 ≤ c.se) && decide (c.se ≤ 65535)
/-- The limits, as cells. -/
def limC (c : Cl) : Array Value := #[.int .i64 c.id, .int .i64 1, .int .i64 65535, .int .i64 c.ro, .int .i64 0, .int .i64 255, .int .i64 c.ex, .int .i64 0, .int .i64 1073741824, .int .i64 c.se, .int .i64 1, .int .i64 65535]
theorem cells_of {w : World} {g o : Nat} {a b c : Value} (h : w.rangeAt g o [a, b, c]) : w.cell? ⟨g, o, none⟩ = some a ∧ w.cell? ⟨g, o + 1, none⟩ = some b ∧ w.cell? ⟨g, o + 2, none⟩ = some c :=
  ⟨h 0 _ rfl, h 1 _ rfl, h 2 _ rfl⟩
/-- The limits, one by one. -/
def lims (c : Cl) : List (Int × Int × Int) := [(c.id, 1, 65535), (c.ro, 0, 255), (c.ex, 0, 1073741824), (c.se, 1, 65535)]
/-- Is a number within its limits? -/
def inL (l : Int × Int × Int) : Bool := decide (l.2.1 ≤ l.1) && decide (l.1 ≤ l.2.2)
theorem okC_all (c : Cl) : okC c = (lims c).all inL := by
  simp [okC, lims, inL, Bool.and_assoc]
theorem all_take_succ (l : List (Int × Int × Int)) (k : Nat) (hk : k < l.length) : (l.take (k + 1)).all inL = ((l.take k).all inL && inL (l.getD k (0, 0, 0))) := by
  rw [List.take_add_one, List.all_append, List.getElem?_eq_getElem hk, List.getD_eq_getElem?_getD, List.getElem?_eq_getElem hk]
  simp
theorem all_false (l : List (Int × Int × Int)) (k : Nat) (hk : k < l.length) (h : inL (l.getD k (0, 0, 0)) = false) : l.all inL = false := by
  rw [List.getD_eq_getElem?_getD, List.getElem?_eq_getElem hk] at h
  exact List.all_eq_false.mpr ⟨l[k], List.getElem_mem _, by simp at h; simp [h]⟩
end Go.Proofs.YtnfgamekjbkbkaaDoor
