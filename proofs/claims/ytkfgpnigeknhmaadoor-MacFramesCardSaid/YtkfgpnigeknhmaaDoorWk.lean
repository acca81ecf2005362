/-
  The chapter's example: the digest of abc.
-/
import Derived.Test.YtkfgpnigeknhmaaDoorWj
import Derived.Lib.SlBytesConst
namespace Go.Proofs.YtkfgpnigeknhmaaDoor
open Go Go.RowKit
/-- The signs of the digest of abc. -/
def abcSigns : List UInt8 := [98, 97, 55, 56, 49, 54, 98, 102, 56, 102, 48, 49, 99, 102, 101, 97, 52, 49, 52, 49, 52, 48, 100, 101, 53, 100, 97, 101, 50, 50, 50, 51, 98, 48, 48, 51, 54, 49, 97, 51, 57, 54, 49, 55, 55, 97, 57, 99, 98, 52, 49, 48, 102, 102, 54, 49, 102, 50, 48, 48, 49, 53, 97, 100]
theorem sha_abc : hexOf (sha [97, 98, 99]) = abcSigns := by decide +kernel
set_option maxRecDepth 100000 in
set_option maxHeartbeats 400000 in
theorem known_any (w : World) (hTab : Tab w) (hg : 0 < w.heap.size) : Calls Tryd.prog 14 #[] w fun e w' => e = .returned (.bool true) ∧ Below w.heap.size w w' := by
  have HA := Bx.mk hTab
  clear hTab
  have kc := fun (w : World) (C : Array Value) (n c : Nat) => Lib.run_convert_bytes_const (P := Tryd.prog) w 23 5 C n c Tryd.underlying23 Tryd.underlying5
  go_enter Tryd.func14, Tryd.ntmps14
  go_wp2_with fail
  obtain ⟨w1, hw1⟩ : ∃ w1, (w.alloc (Obj.cells #[Value.int IntKind.u8 97, Value.int IntKind.u8 98, Value.int IntKind.u8 99] 5 (3, 4))).alloc (Obj.cells #[Value.slice (some ⟨w.heap.size, 0, none⟩) 3 3] 23) = w1 := ⟨_, rfl⟩
  have H1 : Bx (Below w.heap.size w w1 ∧ w1.heap.size = w.heap.size + 2 ∧ PartsAt w1 (w1.heap.size + 1) (.slice (some ⟨w.heap.size + 1, 0, none⟩) 1 1) [[97, 98, 99]]) := Bx.mk (by
    rw [← hw1]
    refine ⟨((Below.refl _ _).alloc (Nat.le_refl _) _).alloc (by simp) _, by simp, _, 1, rfl, fun _ => ⟨w.heap.size + 1, 0, by simp, rfl, fun j hj => ?_⟩⟩
    have hj0 : j = 0 := by simp at hj; omega
    subst hj0
    refine ⟨.slice (some ⟨w.heap.size, 0, none⟩) 3 3, ?_, _, 3, rfl, Nat.le_refl _, fun _ => ⟨w.heap.size, 0, by simp; omega, rfl, fun i hi => ?_⟩⟩
    · rw [cell_of_row _ _ _ _ _ _ (hnew _ _ _ (by simp))]; rfl
    · rw [cell_of_row _ _ _ _ _ _ ((hold _ _ _ (by simp)).trans (hnew _ _ _ rfl))]
      have hc : i = 0 ∨ i = 1 ∨ i = 2 := by simp at hi; omega
      rcases hc with rfl | rfl | rfl <;> rfl)
  rw [hw1]
  clear hw1 kc
  refine (dsum_any [[97, 98, 99]] _ w1 H1.out.2.2 (by simp) (by simp) (HA.out.later H1.out.1 hg) (by have := H1.out.2.1; omega)).mono ?_
  rintro e w2 ⟨rfl, hb2⟩
  have e3 : ([[97, 98, 99]] : List (List UInt8)).flatten = [97, 98, 99] := rfl
  rw [e3]
  clear e3
  have H2 : Bx (Below w.heap.size w w2) := Bx.mk (H1.out.1.trans (hb2.mono (by have := H1.out.2.1; omega)))
  have HS : Bx (hexOf (sha [97, 98, 99]) = abcSigns) := Bx.mk sha_abc
  have HL : Bx ((sha [97, 98, 99]).length = 32) := Bx.mk (sha_length _)
  clear H1 hb2 HA
  generalize sha [97, 98, 99] = out at *
  have HI : Bx ((Tryd.prog.info? 26).map (·.size) = some (u8s out).size) := Bx.mk (by rw [u8s_size, HL.out]; kernel_rfl)
  have HN : Bx ((w2.alloc (.cells #[.int .u8 0, .int .u8 0, .int .u8 0, .int .u8 0, .int .u8 0, .int .u8 0, .int .u8 0, .int .u8 0, .int .u8 0, .int .u8 0, .int .u8 0, .int .u8 0, .int .u8 0, .int .u8 0, .int .u8 0, .int .u8 0, .int .u8 0, .int .u8 0, .int .u8 0, .int .u8 0, .int .u8 0, .int .u8 0, .int .u8 0, .int .u8 0, .int .u8 0, .int .u8 0, .int .u8 0, .int .u8 0, .int .u8 0, .int .u8 0, .int .u8 0, .int .u8 0] 26)).heap[w2.heap.size]? = some (.cells (u8s (List.replicate 32 0)) 26 (0, 0))) := Bx.mk (by rw [hnew _ _ _ rfl, ← zero32])
  have HT : Bx ((w2.alloc (.cells #[.int .u8 0, .int .u8 0, .int .u8 0, .int .u8 0, .int .u8 0, .int .u8 0, .int .u8 0, .int .u8 0, .int .u8 0, .int .u8 0, .int .u8 0, .int .u8 0, .int .u8 0, .int .u8 0, .int .u8 0, .int .u8 0, .int .u8 0, .int .u8 0, .int .u8 0, .int .u8 0, .int .u8 0, .int .u8 0, .int .u8 0, .int .u8 0, .int .u8 0, .int .u8 0, .int .u8 0, .int .u8 0, .int .u8 0, .int .u8 0, .int .u8 0, .int .u8 0] 26)).there w2.heap.size 0 (u8s out).size) := Bx.mk (there_row HN.out 0 _ (by rw [u8s_size, u8s_size, HL.out]; simp))
  have HQ : Bx (((w2.alloc (.cells #[.int .u8 0, .int .u8 0, .int .u8 0, .int .u8 0, .int .u8 0, .int .u8 0, .int .u8 0, .int .u8 0, .int .u8 0, .int .u8 0, .int .u8 0, .int .u8 0, .int .u8 0, .int .u8 0, .int .u8 0, .int .u8 0, .int .u8 0, .int .u8 0, .int .u8 0, .int .u8 0, .int .u8 0, .int .u8 0, .int .u8 0, .int .u8 0, .int .u8 0, .int .u8 0, .int .u8 0, .int .u8 0, .int .u8 0, .int .u8 0, .int .u8 0, .int .u8 0] 26)).setCells w2.heap.size 0 (u8s out).toList).heap[w2.heap.size]? = some (.cells (u8s out) 26 (0, 0)) ∧ Below w.heap.size w ((w2.alloc (.cells #[.int .u8 0, .int .u8 0, .int .u8 0, .int .u8 0, .int .u8 0, .int .u8 0, .int .u8 0, .int .u8 0, .int .u8 0, .int .u8 0, .int .u8 0, .int .u8 0, .int .u8 0, .int .u8 0, .int .u8 0, .int .u8 0, .int .u8 0, .int .u8 0, .int .u8 0, .int .u8 0, .int .u8 0, .int .u8 0, .int .u8 0, .int .u8 0, .int .u8 0, .int .u8 0, .int .u8 0, .int .u8 0, .int .u8 0, .int .u8 0, .int .u8 0, .int .u8 0] 26)).setCells w2.heap.size 0 (u8s out).toList)) := Bx.mk ⟨heap_setCells_all HN.out (by rw [u8s_size, u8s_size, HL.out]; simp), below_setCells H2.out.size _ _ _ _ (H2.out.alloc H2.out.size _)⟩
  go_wp2_with (refine wpList_store_mid rfl 26 _ _ rfl w2.heap.size 0 _ (by rfl) (by rfl) HT.out HI.out (one_u8s _) ?_)
  clear HI HN HT
  generalize (w2.alloc (.cells #[.int .u8 0, .int .u8 0, .int .u8 0, .int .u8 0, .int .u8 0, .int .u8 0, .int .u8 0, .int .u8 0, .int .u8 0, .int .u8 0, .int .u8 0, .int .u8 0, .int .u8 0, .int .u8 0, .int .u8 0, .int .u8 0, .int .u8 0, .int .u8 0, .int .u8 0, .int .u8 0, .int .u8 0, .int .u8 0, .int .u8 0, .int .u8 0, .int .u8 0, .int .u8 0, .int .u8 0, .int .u8 0, .int .u8 0, .int .u8 0, .int .u8 0, .int .u8 0] 26)).setCells w2.heap.size 0 (u8s out).toList = w3 at *
  have HB : Bx (Bytes w3 (.slice (some ⟨w2.heap.size, 0, none⟩) 32 32) out) := Bx.mk ⟨_, 32, by rw [HL.out], by rw [HL.out]; omega, (fun h => by cases h), fun _ => ⟨w2.heap.size, 0, rfl, fun j hj => by rw [cell_of_row _ _ _ _ _ _ HQ.out.1, Nat.zero_add]; exact u8s_get _ _ hj⟩⟩
  refine (hex_any out _ w3 HB.out (by rw [HL.out]; omega)).mono ?_
  rintro e w4 ⟨rfl, hb4⟩
  have H4 : Bx (Below w.heap.size w w4) := Bx.mk (HQ.out.2.trans (hb4.mono HQ.out.2.size))
  clear hb4 HQ HB
  rw [HS.out]
  unfold abcSigns
  go_wp2
  go_ret
  exact ⟨rfl, H4.out⟩
end Go.Proofs.YtkfgpnigeknhmaaDoor
