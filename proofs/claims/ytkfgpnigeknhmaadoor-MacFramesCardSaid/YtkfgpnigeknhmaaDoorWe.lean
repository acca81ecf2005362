/-
  The walks of the words so far, and of what takes bytes in.
-/
import Derived.Test.YtkfgpnigeknhmaaDoorSt
import Derived.Laws.CopyOwn
namespace Go.Proofs.YtkfgpnigeknhmaaDoor
open Go Go.RowKit
theorem st_range {w : World} {b : Nat} {t : TypeId} {ws : List (BitVec 32)} {rest : List UInt8} {n : Nat} (h : w.heap[b]? = some (.cells (stC ws rest n) t (0, 0))) (h8 : ws.length = 8) : w.rangeAt b 0 (u32s ws).toList := fun j v hv => by
  rw [cell_of_row _ _ _ _ _ _ h, Nat.zero_add]
  have hj : j < 8 := by have := (List.getElem?_eq_some_iff.1 hv).1; simpa [u32s_size, h8] using this
  rw [stC_words ws rest n j h8 hj]
  rw [Array.getElem?_toList, u32s_get ws j (by omega)] at hv
  exact hv
theorem st_range8 {w : World} {b : Nat} {t : TypeId} {ws : List (BitVec 32)} {rest : List UInt8} {n : Nat} (h : w.heap[b]? = some (.cells (stC ws rest n) t (0, 0))) (h8 : ws.length = 8) (h64 : rest.length = 64) : w.rangeAt b 8 (u8s rest).toList := fun j v hv => by
  rw [cell_of_row _ _ _ _ _ _ h]
  have hj : j < 64 := by have := (List.getElem?_eq_some_iff.1 hv).1; simpa [u8s_size, h64] using this
  rw [stC_rest ws rest n j h8 h64 hj]
  rw [Array.getElem?_toList, u8s_get rest j (by omega)] at hv
  exact hv
theorem back_u32s (l : List (BitVec 32)) : (u32s l).toList.toArray = u32s l := by simp
theorem back_u8s (l : List UInt8) : (u8s l).toList.toArray = u8s l := by simp
theorem zero8 : (u32s (List.replicate 8 0)) = #[.int .u32 0, .int .u32 0, .int .u32 0, .int .u32 0, .int .u32 0, .int .u32 0, .int .u32 0, .int .u32 0] := by kernel_rfl
set_option maxRecDepth 100000 in
set_option maxHeartbeats 400000 in
theorem now_any (b : Nat) (t : TypeId) (ws : List (BitVec 32)) (rest : List UInt8) (n : Nat) (w : World) (h : w.heap[b]? = some (.cells (stC ws rest n) t (0, 0))) (h8 : ws.length = 8) (h64 : rest.length = 64) (hn : n < 2305843009213693952) :
    Calls Tryd.prog 53 #[.pointer (some ⟨b, 0, none⟩)] w fun e w' => e = .returned (.agg (u32s (if n < 64 then hTab else ws))) ∧ Below w.heap.size w w' := by
  have hb : b < w.heap.size := (Array.getElem?_eq_some_iff.1 h).1
  have ct : w.cell? ⟨b, 72, none⟩ = some (.int .u64 (n : Int)) := by rw [cell_of_row _ _ _ _ _ _ h]; exact stC_told ws rest n h8 h64
  have HR : Bx ((w.alloc (.cells #[.int .u32 0, .int .u32 0, .int .u32 0, .int .u32 0, .int .u32 0, .int .u32 0, .int .u32 0, .int .u32 0] 30)).rangeAt b 0 (u32s ws).toList) := Bx.mk (World.rangeAt_alloc (st_range h h8) _)
  have HZ : Bx ((w.alloc (.cells #[.int .u32 0, .int .u32 0, .int .u32 0, .int .u32 0, .int .u32 0, .int .u32 0, .int .u32 0, .int .u32 0] 30)).heap[w.heap.size]? = some (.cells (u32s (List.replicate 8 0)) 30 (0, 0))) := Bx.mk (by rw [hnew _ _ _ rfl, zero8])
  have HL : Bx (Below w.heap.size w (w.alloc (.cells #[.int .u32 0, .int .u32 0, .int .u32 0, .int .u32 0, .int .u32 0, .int .u32 0, .int .u32 0, .int .u32 0] 30))) := Bx.mk ((Below.refl _ _).alloc (Nat.le_refl _) _)
  have H8 := Bx.mk h8
  clear h h8 h64
  by_cases hlt : n < 64
  · rw [if_pos hlt]
    have hfw : Bx (∀ w : World, Calls Tryd.prog 62 #[] w fun e w' => e = .returned (.agg (u32s hTab)) ∧ Below w.heap.size w w') := Bx.mk firstWords_any
    have hfl : Bx (hTab.length = 8) := Bx.mk rfl
    generalize hTab = H at *
    go_enter Tryd.func53, Tryd.ntmps53
    go_wp2_with fail
    refine (hfw.out _).mono ?_
    rintro e w1 ⟨rfl, hb1⟩
    have HQ : Bx (w1.heap[w.heap.size]? = some (.cells (u32s (List.replicate 8 0)) 30 (0, 0))) := Bx.mk (by rw [hb1.block _ (by simp)]; exact HZ.out)
    have HW : Bx (Below w.heap.size w w1) := Bx.mk (HL.out.trans (hb1.mono (by simp)))
    clear hb1 HZ HR HL
    have HI : Bx ((Tryd.prog.info? 30).map (·.size) = some (u32s H).size) := Bx.mk (by rw [u32s_size, hfl.out]; kernel_rfl)
    have HT : Bx (w1.there w.heap.size 0 (u32s H).size) := Bx.mk (there_row HQ.out 0 _ (by rw [u32s_size, u32s_size]; rw [hfl.out]; simp))
    have HY : Bx ((w1.setCells w.heap.size 0 (u32s H).toList).heap[w.heap.size]? = some (.cells (u32s H) 30 (0, 0))) := Bx.mk (heap_setCells_all HQ.out (by rw [u32s_size, u32s_size]; rw [hfl.out]; simp))
    go_wp2_with (refine wpList_store_mid rfl 30 _ _ rfl w.heap.size 0 _ (by rfl) (by rfl) HT.out HI.out (one_u32s _) ?_)
    refine bodyPost_ret (results_cell_row rfl _ _ w.heap.size _ (u32s H) _ _ rfl HY.out Tryd.underlying30 rfl HI.out) rfl ?_
    exact ⟨rfl, below_setCells (Nat.le_refl _) _ _ _ _ HW.out⟩
  · rw [if_neg hlt]
    have HI : Bx ((Tryd.prog.info? 30).map (·.size) = some (u32s ws).size) := Bx.mk (by rw [u32s_size, H8.out]; kernel_rfl)
    have HJ : Bx ((Tryd.prog.info? 30).map (·.size) = some (u32s ws).toList.length) := Bx.mk (by rw [Array.length_toList]; exact HI.out)
    have HT : Bx ((w.alloc (.cells #[.int .u32 0, .int .u32 0, .int .u32 0, .int .u32 0, .int .u32 0, .int .u32 0, .int .u32 0, .int .u32 0] 30)).there w.heap.size 0 (u32s ws).size) := Bx.mk (there_row HZ.out 0 _ (by rw [u32s_size, u32s_size, H8.out]; simp))
    have HY : Bx (((w.alloc (.cells #[.int .u32 0, .int .u32 0, .int .u32 0, .int .u32 0, .int .u32 0, .int .u32 0, .int .u32 0, .int .u32 0] 30)).setCells w.heap.size 0 (u32s ws).toList).heap[w.heap.size]? = some (.cells (u32s ws) 30 (0, 0))) := Bx.mk (heap_setCells_all HZ.out (by rw [u32s_size, u32s_size, H8.out]; simp))
    go_enter Tryd.func53, Tryd.ntmps53
    go_wp2_with (first | (refine wpList_load_mid rfl 30 _ rfl b 0 (by rfl) (u32s ws).toList _ HR.out Tryd.underlying30 rfl HJ.out ?_; rw [back_u32s]) | (refine wpList_store_mid rfl 30 _ _ rfl w.heap.size 0 (u32s ws) (by rfl) (by rfl) HT.out HI.out (one_u32s _) ?_))
    refine bodyPost_ret (results_cell_row rfl _ _ w.heap.size _ (u32s ws) _ _ rfl HY.out Tryd.underlying30 rfl HI.out) rfl ?_
    exact ⟨rfl, below_setCells (Nat.le_refl _) _ _ _ _ HL.out⟩
end Go.Proofs.YtkfgpnigeknhmaaDoor
