/-
  DeltaAnswers: what is asked for.
-/
import Derived.Test.YtnfgamekjbkbkaaDoorD1
import Derived.Test.YtnfgamekjbkbkaaDoorD16
import Derived.Test.YtnfgamekjbkbkaaDoorJb
import Derived.Test.YtnfgamekjbkbkaaDoorD4
import Derived.Test.YtnfgamekjbkbkaaDoorMe
import Derived.Test.YtnfgamekjbkbkaaDoorD5
namespace Go.Proofs.YtnfgamekjbkbkaaDoor
open Go Go.RowKit
theorem revL_most {l : L4} {n : Int} {x : List Int} (h : Most l 40) (hx : x.length ≤ 40) (hg : l.get n = []) : Most (revL l n x).2 40 := revL_40 (m := l) l n x ⟨h, h⟩ hx hg
theorem revL_get (l : L4) (x : List Int) : (revL l 0 x).2.b = l.b ∧ (revL l 0 x).2.c = l.c ∧ (revL l 0 x).2.d = l.d ∧ (revL l 1 x).2.c = l.c ∧ (revL l 1 x).2.d = l.d ∧ (revL l 2 x).2.d = l.d := by
  unfold revL
  refine ⟨?_, ?_, ?_, ?_, ?_, ?_⟩ <;> (repeat' split) <;> rfl
theorem take_40 (x : List Int) : (x.take 40).length ≤ 40 := by rw [List.length_take]; omega
theorem mkL_40 (m : L4) : Most (mkL m 4) 40 := by
  have h0 : Most L4.nil 40 := ⟨by simp [L4.nil], by simp [L4.nil], by simp [L4.nil], by simp [L4.nil]⟩
  have h1 := revL_most (n := 0) h0 (take_40 m.a) rfl
  have g1 := revL_get L4.nil (m.a.take 40)
  have h2 := revL_most (n := 1) h1 (take_40 m.b) g1.1
  have g2 := revL_get (revL L4.nil 0 (m.a.take 40)).2 (m.b.take 40)
  have h3 := revL_most (n := 2) h2 (take_40 m.c) (g2.2.2.2.1.trans g1.2.1)
  have g3 := revL_get (revL (revL L4.nil 0 (m.a.take 40)).2 1 (m.b.take 40)).2 (m.c.take 40)
  exact revL_most (n := 3) h3 (take_40 m.d) (g3.2.2.2.2.2.trans (g2.2.2.2.2.1.trans g1.2.2.1))
end Go.Proofs.YtnfgamekjbkbkaaDoor
