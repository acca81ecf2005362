/-
  Revocations: deltas held against one another.
-/
import Derived.Test.YtnfgamekjbkbkaaDoorEo
namespace Go.Proofs.YtnfgamekjbkbkaaDoor
open Go Go.RowKit
theorem wpList_load_rowg {P : Program} {ops : Array Oper} {rest : List Oper} {o : Oper} {a : Act} {w : World} {Q : Exit → Act → World → Prop} (hw : Region.wanted o (yielded ops a.tmps) = true) (ty : TypeId) (x : Operand) (ho : o.op = .load ty x)
    (g : Nat) (hx : a.eval x = .pointer (some ⟨g, 0, none⟩)) (t : TypeId) (cs : Array Value) (fr : Nat × Nat) (d : TypeDesc) (hg : w.heap[g]? = some (.cells cs t fr))
    (hu : P.underlying ty = some d) (hd : (match d with | .struct _ | .array _ _ => true | _ => false) = true) (hi : (P.info? ty).map (·.size) = some cs.size)
    (h : wpList P ops Q rest (a.put o.dst (.agg cs)) w) : wpList P ops Q (o :: rest) a w := by
  refine wpList_step fun K hK => ?_
  rw [if_pos hw]
  exact wp_load_row ty x ho g hx t cs fr d hg hu hd hi (hK _ _ h)
theorem range_from8 {W : World} {b n : Nat} {l m : List Value} (h : W.rangeAt b 0 (l ++ m)) (hn : l.length = n) : W.rangeAt b n m := fun j u hj => by
  have := h (n + j) u (by rw [List.getElem?_append_right (by omega)]; simpa [hn] using hj)
  rw [Nat.zero_add] at this
  exact this
theorem range_to8 {W : World} {b o : Nat} {l m : List Value} (h : W.rangeAt b o (l ++ m)) : W.rangeAt b o l := fun j u hj => h j u (by rw [List.getElem?_append_left (List.getElem?_eq_some_iff.1 hj).1]; exact hj)
end Go.Proofs.YtnfgamekjbkbkaaDoor
