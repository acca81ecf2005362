/-
  Delta: the document's answer: a log's serials, as long as there is room.
-/
import Derived.Test.YtnfgamekjbkbkaaDoorD5
namespace Go.Proofs.YtnfgamekjbkbkaaDoor
open Go Go.RowKit
/-- What stays while a log's serials are put, against the world at its start. -/
structure AI (W2 : World) (D : Nat) (cs : Array Value) (u : Value) (l : List Int) (W : World) : Prop where
  kb : W2.grownBy W (some D)
  row : W.heap[D]? = some (.cells cs 26 (0, 0))
  own : OwnI W W2.heap.size u l
theorem AI.later {W2 : World} {D : Nat} {cs : Array Value} {u : Value} {l : List Int} {W W1 : World} (h : AI W2 D cs u l W) (hb : Below W.heap.size W W1) : AI W2 D cs u l W1 :=
  ⟨kb_trans h.kb (kb_below _ hb), by rw [hb.block D (Array.getElem?_eq_some_iff.1 h.row).1]; exact h.row, h.own.later hb (fun g hg => (h.own.lt g hg).1)⟩
theorem ownI_off9 {W W1 : World} {base D : Nat} {u : Value} {l : List Int} (h : OwnI W base u l) (hD : D < base) (hg : W.grownBy W1 (some D)) : OwnI W1 base u l := by
  rcases h.2 with ⟨hn, h0⟩ | ⟨g, cap, cur, hv, hb, hr, h3⟩
  · exact ⟨h.1, .inl ⟨hn, h0⟩⟩
  · exact ⟨h.1, .inr ⟨g, cap, cur, hv, hb, by rw [hg.block g (Array.getElem?_eq_some_iff.1 hr).1 (fun e => by have := Option.some.inj e; omega)]; exact hr, h3⟩⟩
theorem AI.put {W2 : World} {D : Nat} {cs ds : Array Value} {u : Value} {l : List Int} {W W1 : World} (h : AI W2 D cs u l W) (hD : D < W2.heap.size) (hg : W.grownBy W1 (some D)) (hr : W1.heap[D]? = some (.cells ds 26 (0, 0))) : AI W2 D ds u l W1 :=
  ⟨kb_trans h.kb hg, hr, ownI_off9 h.own hD hg⟩
end Go.Proofs.YtnfgamekjbkbkaaDoor
