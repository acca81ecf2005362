/-
  The walk of the document's example: two fields.
-/
import Derived.Test.YtiengbmnfbbgoaaDoorIj
namespace Go.Proofs.YtiengbmnfbbgoaaDoor
open Go Go.RowKit
/-- A new writer. -/
theorem zero_wr : ∃ z : Array Value, (∀ W : World, (zeroValue 109).run Tryd.prog W = .ok (.agg z) W) ∧ z = wrC (List.replicate 1024 0) 0 0 := ⟨_, fun W => by kernel_rfl, rfl⟩
theorem new_wr (W : World) (z : Array Value) (hz : z = wrC (List.replicate 1024 0) 0 0) : IsW (W.alloc (.cells z 109)) W.heap.size ([], 0) := by
  subst hz
  exact ⟨List.replicate 1024 0, List.length_replicate, Nat.zero_le _, List.take_zero, by rw [hnew _ _ _ rfl]; rfl⟩
theorem ints_one (W : World) (p : Nat) (n : Int) (t : TypeId) (hp : p < W.heap.size) : IntsN (W.alloc (.cells #[.int .i64 n] t)) p (.slice (some ⟨W.heap.size, 0, none⟩) 1 1) [n] := by
  refine ⟨_, 1, rfl, Nat.le_refl _, fun _ => ⟨W.heap.size, 0, rfl, by omega, fun i hi => ?_⟩⟩
  obtain rfl : i = 0 := by simp at hi; omega
  rw [cell_of_row _ _ _ _ _ _ (hnew _ _ _ rfl)]
  rfl
theorem parts_one (W : World) (p : Nat) (vb : Value) (b : List UInt8) (t : TypeId) (hb : BytesN W p vb b) (hp : p < W.heap.size) : PartsN (W.alloc (.cells #[vb] t)) p (.slice (some ⟨W.heap.size, 0, none⟩) 1 1) [b] := by
  refine ⟨_, 1, rfl, Nat.le_refl _, fun _ => ⟨W.heap.size, 0, rfl, by omega, fun i hi => ?_⟩⟩
  obtain rfl : i = 0 := by simp at hi; omega
  exact ⟨vb, by rw [cell_of_row _ _ _ _ _ _ (hnew _ _ _ rfl)]; rfl, hb.grown (kb_below _ (below_a _))⟩
theorem exBytes : [fByt [97]].foldl putS ([fNum 1 258].foldl putS ([], 0)) = ([1, 2, 0, 1, 97], 0) := by decide +kernel
theorem grown_below {w w1 : World} {p : Nat} (h : w.grownBy w1 (some p)) {B : Nat} (hB : B ≤ p) (hs : B ≤ w.heap.size) : Below B w w1 := ⟨h.os, h.tape, h.output, h.size, fun i hi => h.block i (by omega) (fun e => by injection e with e; omega)⟩
end Go.Proofs.YtiengbmnfbbgoaaDoor
