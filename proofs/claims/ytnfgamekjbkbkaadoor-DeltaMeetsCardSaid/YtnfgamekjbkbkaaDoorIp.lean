/-
  The walks of a reader, whole.
  The walks of numbers that are read of any bytes.
  The walks of fields that are got of any bytes.
  The walks of a reader over any bytes.
  The walks of a reader's numbers and bytes, and of its end.
-/
import Derived.Test.YtnfgamekjbkbkaaDoorIm
import Derived.Test.YtnfgamekjbkbkaaDoorIi
namespace Go.Proofs.YtnfgamekjbkbkaaDoor
open Go Go.RowKit
end Go.Proofs.YtnfgamekjbkbkaaDoor
namespace Go.Proofs.YtnfgamekjbkbkaaDoor
open Go Go.RowKit
end Go.Proofs.YtnfgamekjbkbkaaDoor
namespace Go.Proofs.YtnfgamekjbkbkaaDoor
open Go Go.RowKit
end Go.Proofs.YtnfgamekjbkbkaaDoor
namespace Go.Proofs.YtnfgamekjbkbkaaDoor
open Go Go.RowKit
end Go.Proofs.YtnfgamekjbkbkaaDoor
namespace Go.Proofs.YtnfgamekjbkbkaaDoor
open Go Go.RowKit
/-- Bytes lie in no block of other cells. -/
theorem Bytes.offA {w : World} {D : Nat} {cs : Array Value} {t : TypeId} {fr : Nat × Nat} {v : Value} {l : List UInt8} (h : Bytes w v l) (hr : w.heap[D]? = some (.cells cs t fr)) (hc : ∀ (i : Nat) x, cs[i]? ≠ some (.int .u8 x)) (h0 : 0 < l.length) : v.ownBlock ≠ some D := by
  obtain ⟨ad, cap, rfl, -, -, hr2⟩ := h
  obtain ⟨g, o, rfl, hcell⟩ := hr2 h0
  intro e
  injection e with e
  simp only at e
  subst e
  have h1 := hcell 0 h0
  rw [cell_of_row _ _ _ _ _ _ hr] at h1
  exact hc _ _ h1
theorem IsR.asideA {w w1 : World} {q D : Nat} {cs : Array Value} {t : TypeId} {fr : Nat × Nat} {l : List UInt8} {e : Int} (h : IsR w q l e) (hr : w.heap[D]? = some (.cells cs t fr)) (hc : ∀ (i : Nat) x, cs[i]? ≠ some (.int .u8 x)) (hg : w.grownBy w1 (some D)) (hne : q ≠ D) : IsR w1 q l e := by
  have hq := h.lt
  obtain ⟨v, h1, h2⟩ := h
  exact ⟨v, by rw [hg.block q hq (fun e => hne (by injection e))]; exact h1, ⟨(BytesN.grown (p := D) ⟨h2.1.1, h2.1.1.offA hr hc⟩ hg).1, h2.1.2⟩, h2.2.grown hg (h2.1.1.offA hr hc)⟩
end Go.Proofs.YtnfgamekjbkbkaaDoor
