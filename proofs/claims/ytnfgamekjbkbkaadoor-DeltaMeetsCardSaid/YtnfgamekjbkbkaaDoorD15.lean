/-
  Delta: the document's answer.
-/
import Derived.Test.YtnfgamekjbkbkaaDoorD14
import Derived.Test.YtnfgamekjbkbkaaDoorD6
import Derived.Test.YtnfgamekjbkbkaaDoorD12
namespace Go.Proofs.YtnfgamekjbkbkaaDoor
open Go Go.RowKit
def fN (v : Int) (L : List Int) : Nat := min v.toNat L.length
def tN (v : Int) (L : List Int) (n : Nat) : Nat := min (L.length - fN v L) n
/-- What is answered: serials, log by log, as long as there is room. -/
def ansL (l : L4) (v : V4) (n : Nat) : L4 :=
  ⟨(l.a.drop (fN v.a l.a)).take (tN v.a l.a n),
   (l.b.drop (fN v.b l.b)).take (tN v.b l.b (n - tN v.a l.a n)),
   (l.c.drop (fN v.c l.c)).take (tN v.c l.c (n - tN v.a l.a n - tN v.b l.b (n - tN v.a l.a n))),
   (l.d.drop (fN v.d l.d)).take (tN v.d l.d (n - tN v.a l.a n - tN v.b l.b (n - tN v.a l.a n) - tN v.c l.c (n - tN v.a l.a n - tN v.b l.b (n - tN v.a l.a n))))⟩
/-- What stays between two logs. -/
structure AO (w : World) (E : Nat) (v : V4) (cs : Array Value) (rs : List (Value × List Int)) (W : World) : Prop where
  kr : KR w E [(E + 2, .cells cs 26), (E + 1, .cells #[.int .i64 0, .int .i64 0, .int .i64 0, .int .i64 0, .slice none 0 0, .slice none 0 0, .slice none 0 0, .slice none 0 0] 26), (E, .cells #[.int .i64 v.a, .int .i64 v.b, .int .i64 v.c, .int .i64 v.d] 22)] W
  own : ∀ r ∈ rs, OwnI W (E + 3) r.1 r.2
theorem AO.later {w : World} {E : Nat} {v : V4} {cs : Array Value} {rs : List (Value × List Int)} {W W1 : World} (h : AO w E v cs rs W) (hb : Below W.heap.size W W1) : AO w E v cs rs W1 := ⟨h.kr.later hb, fun r hr => (h.own r hr).later hb (fun g hg => ((h.own r hr).lt g hg).1)⟩
theorem AO.sz {w : World} {E : Nat} {v : V4} {cs : Array Value} {rs : List (Value × List Int)} {W : World} (h : AO w E v cs rs W) : E + 2 < W.heap.size := h.kr.lt (.head _)
theorem AO.put {w : World} {E : Nat} {v : V4} {cs ds : Array Value} {rs : List (Value × List Int)} {W W1 : World} (h : AO w E v cs rs W) (hg : W.grownBy W1 (some (E + 2))) (hr : W1.heap[E + 2]? = some (.cells ds 26 (0, 0))) : AO w E v ds rs W1 :=
  ⟨h.kr.set hg hr (by omega) (by intro y hy; simp at hy; rcases hy with rfl | rfl <;> (simp only; omega)), fun r hr => ownI_off9 (h.own r hr) (by omega) hg⟩
end Go.Proofs.YtnfgamekjbkbkaaDoor
