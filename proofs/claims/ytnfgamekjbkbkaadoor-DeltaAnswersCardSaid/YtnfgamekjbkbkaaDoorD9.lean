/-
  Delta: a digest that is read.
-/
import Derived.Test.YtnfgamekjbkbkaaDoorD7
import Derived.Test.YtnfgamekjbkbkaaDoorIp
namespace Go.Proofs.YtnfgamekjbkbkaaDoor
open Go Go.RowKit
def B8.zero : B8 := ⟨0, 0, 0, 0, 0, 0, 0, 0⟩
theorem dg_u8 : (62 : TypeId) ≠ 5 := by decide
/-- What stays while a digest is read. -/
structure RD9 (w : World) (E q : Nat) (cs : Array Value) (p : List UInt8 × Int) (W : World) : Prop where
  g : w.grownBy W (some q)
  row : W.heap[E + 1]? = some (.cells cs 62 (0, 0))
  res : W.heap[E]? = some (.cells #[.int .i64 0, .int .i64 0, .int .i64 0, .int .i64 0, .int .u8 0, .int .u8 0, .int .u8 0, .int .u8 0, .int .u8 0, .int .u8 0, .int .u8 0, .int .u8 0] 62 (0, 0))
  rd : IsR W q p.1 p.2
  lt : q < E
theorem RD9.put {w : World} {E q : Nat} {cs ds : Array Value} {p : List UInt8 × Int} {W W1 : World} (h : RD9 w E q cs p W) (hE : w.heap.size = E) (hg : W.grownBy W1 (some (E + 1))) (hr : W1.heap[E + 1]? = some (.cells ds 62 (0, 0))) : RD9 w E q ds p W1 :=
  ⟨kb_new h.g hg (by omega), hr, by rw [hg.block E (Array.getElem?_eq_some_iff.1 h.res).1 (fun e => by have := Option.some.inj e; omega)]; exact h.res, h.rd.asideT h.row dg_u8 hg (by have := h.lt; omega), h.lt⟩
theorem RD9.later {w : World} {E q : Nat} {cs : Array Value} {p : List UInt8 × Int} {W W1 : World} (h : RD9 w E q cs p W) (hb : Below W.heap.size W W1) : RD9 w E q cs p W1 :=
  ⟨kb_trans h.g (kb_below _ hb), by rw [hb.block (E + 1) (Array.getElem?_eq_some_iff.1 h.row).1]; exact h.row, by rw [hb.block E (Array.getElem?_eq_some_iff.1 h.res).1]; exact h.res, h.rd.later hb, h.lt⟩
end Go.Proofs.YtnfgamekjbkbkaaDoor
