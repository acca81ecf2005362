/-
  Revocations: a delta's bytes.
  Revocations: the document's bytes of a delta.
-/
import Derived.Test.YtnfgamekjbkbkaaDoorMa
import Derived.Test.YtnfgamekjbkbkaaDoorJe
namespace Go.Proofs.YtnfgamekjbkbkaaDoor
open Go Go.RowKit
/-- What stays while a delta is written. -/
structure BW (w : World) (E q : Nat) (x : VV) (l : L4) (cs : Array Value) (bs : List UInt8) (W : World) : Prop where
  kr : KR w E [(E, (.cells cs 30))] W
  rows : Rows4 W x l
  wr : IsW W q (bs, 0)
  lt : E < q
theorem BW.later {w : World} {E q : Nat} {x : VV} {l : L4} {cs : Array Value} {bs : List UInt8} {W W1 : World} (h : BW w E q x l cs bs W) (hb : Below W.heap.size W W1) : BW w E q x l cs bs W1 := ⟨h.kr.later hb, h.rows.later hb, h.wr.later hb h.wr.lt, h.lt⟩
theorem BW.put {w : World} {E q : Nat} {x : VV} {l : L4} {cs : Array Value} {bs bs' : List UInt8} {W W1 : World} (h : BW w E q x l cs bs W) (hg : W.grownBy W1 (some q)) (hw : IsW W1 q (bs', 0)) : BW w E q x l cs bs' W1 := by
  obtain ⟨cs', hc⟩ := h.wr.typed
  exact ⟨h.kr.grown hg (by have := h.lt; omega) (by intro y hy; have := h.lt; simp at hy; subst hy; simp; omega), h.rows.grown hg hc wr_int, hw, h.lt⟩
end Go.Proofs.YtnfgamekjbkbkaaDoor
namespace Go.Proofs.YtnfgamekjbkbkaaDoor
open Go Go.RowKit
/-- What stays while the document's bytes are laid. -/
structure RB8 (w : World) (E : Nat) (cs : Array Value) (bs : List UInt8) (v : Value) (W : World) : Prop where
  kr : KR w E [(E, (.cells cs 26))] W
  o : OwnB W (E + 1) v bs
theorem RB8.later {w : World} {E : Nat} {cs : Array Value} {bs : List UInt8} {v : Value} {W W1 : World} (h : RB8 w E cs bs v W) (hb : Below W.heap.size W W1) : RB8 w E cs bs v W1 := ⟨h.kr.later hb, h.o.later hb (fun g hg => (h.o.lt g hg).1)⟩
theorem RB8.cell {w : World} {E : Nat} {cs : Array Value} {bs : List UInt8} {v : Value} {W : World} (h : RB8 w E cs bs v W) (i : Nat) {u : Value} (hu : cs[i]? = some u) : W.cell? ⟨E, i, none⟩ = some u := by
  rw [cell_of_row _ _ _ _ _ _ (h.kr.rows _ (.head _))]
  exact hu
theorem RB8.le {w : World} {E : Nat} {cs : Array Value} {bs : List UInt8} {v : Value} {W : World} (h : RB8 w E cs bs v W) : E + 1 ≤ W.heap.size := h.kr.lt (.head _)
end Go.Proofs.YtnfgamekjbkbkaaDoor
