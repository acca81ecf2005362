/-
  The walks of a running digest's copy, and of the digest of parts.
-/
import Derived.Test.YtkfgpnigeknhmaaDoorWh
namespace Go.Proofs.YtkfgpnigeknhmaaDoor
open Go Go.RowKit
theorem one_stC (ws : List (BitVec 32)) (rest : List UInt8) (t : Nat) : (stC ws rest t).all (·.oneCell') = true := by
  rw [Array.all_eq_true']
  intro x hx
  simp only [stC, List.mem_toArray, List.mem_append, Array.mem_toList_iff, List.mem_singleton] at hx
  rcases hx with h | h | h
  · exact (Array.all_eq_true'.1 (one_u32s ws)) x h
  · exact (Array.all_eq_true'.1 (one_u8s rest)) x h
  · rw [h]; rfl
set_option maxRecDepth 100000 in
theorem copy_any (b : Nat) (bs : List UInt8) (w : World) (hT : Took w b 42 bs w) :
    Calls Tryd.prog 19 #[.pointer (some ⟨b, 0, none⟩)] w fun e w' => e = .returned (.pointer (some ⟨w.heap.size, 0, none⟩)) ∧ Below w.heap.size w w' ∧ w'.heap.size = w.heap.size + 1 ∧ Took w' w.heap.size 42 bs w' := by
  obtain ⟨ws, rest, h1, h2, _⟩ := hT
  obtain ⟨zc, hzc⟩ : ∃ zc, stC (List.replicate 8 0) (List.replicate 64 0) 0 = zc := ⟨_, rfl⟩
  have hzv : ∀ W : World, (zeroValue 42).run Tryd.prog W = .ok (.agg zc) W := fun W => by rw [← hzc, zero73]; kernel_rfl
  have HZ := Bx.mk hzc
  clear hzc
  have H1 := Bx.mk h1
  have HI : Bx ((Tryd.prog.info? 42).map (·.size) = some (stC ws rest bs.length).size) := Bx.mk (by rw [stC_size _ _ _ h2.w8 h2.r64]; kernel_rfl)
  have H2 : Bx (StIs bs ws rest) := Bx.mk h2
  have HN : Bx ((w.alloc (.cells zc 42)).heap[w.heap.size]? = some (.cells (stC (List.replicate 8 0) (List.replicate 64 0) 0) 42 (0, 0))) := Bx.mk (by rw [hnew _ _ _ rfl, HZ.out])
  have HS : Bx ((stC ws rest bs.length).size = (stC (List.replicate 8 0) (List.replicate 64 0) 0).size) := Bx.mk (by rw [stC_size _ _ _ h2.w8 h2.r64, stC_size _ _ _ (by simp) (by simp)])
  have HO := Bx.mk (one_stC ws rest bs.length)
  have HE : Bx (∃ ws rest, stC ws rest bs.length = stC ws rest bs.length ∧ StIs bs ws rest) := Bx.mk ⟨ws, rest, rfl, h2⟩
  clear h1 h2
  obtain ⟨cs, hcs⟩ : ∃ cs, stC ws rest bs.length = cs := ⟨_, rfl⟩
  have HC := Bx.mk hcs
  rw [hcs] at H1 HI HS HO
  clear hcs HE
  have HT : Bx ((w.alloc (.cells zc 42)).there w.heap.size 0 cs.size) := Bx.mk (there_row HN.out 0 _ (by rw [HS.out]; omega))
  go_enter Tryd.func19, Tryd.ntmps19
  go_wp2_with (first | (refine wpList_load_row rfl 42 _ rfl b (by rfl) _ _ _ _ H1.out Tryd.underlying42 rfl HI.out ?_) | (refine wpList_store_mid rfl 42 _ _ rfl w.heap.size 0 _ (by rfl) (by rfl) HT.out HI.out HO.out ?_))
  go_ret
  refine ⟨rfl, below_setCells (Nat.le_refl _) _ _ _ _ ((Below.refl _ _).alloc (Nat.le_refl _) _), by rw [size_setCells]; simp, ws, rest, ?_, H2.out, kb_refl _ _⟩
  rw [HC.out]
  exact heap_setCells_all HN.out HS.out
set_option maxRecDepth 100000 in
theorem dsum_any (pss : List (List UInt8)) (v : Value) (w : World) (hv : PartsAt w (w.heap.size + 1) v pss) (hl : pss.length < 281474976710656) (hN : pss.flatten.length < 1152921504606846976) (hTab : Tab w) (hg : 0 < w.heap.size) :
    Calls Tryd.prog 15 #[v] w fun e w' => e = .returned (.agg (u8s (sha pss.flatten))) ∧ Below w.heap.size w w' := by
  obtain ⟨zc, hzc⟩ : ∃ zc, stC (List.replicate 8 0) (List.replicate 64 0) 0 = zc := ⟨_, rfl⟩
  have hzv : ∀ W : World, (zeroValue 42).run Tryd.prog W = .ok (.agg zc) W := fun W => by rw [← hzc, zero73]; kernel_rfl
  have HZ := Bx.mk hzc
  clear hzc
  have HP := Bx.mk hv
  have HM := Bx.mk (And.intro hl hN)
  have HA := Bx.mk hTab
  have HL := Bx.mk (sha_length pss.flatten)
  clear hv hl hN hTab
  go_enter Tryd.func15, Tryd.ntmps15
  go_wp2_with fail
  obtain ⟨w1, hw1⟩ : ∃ w1, (w.alloc (.cells #[.int .u8 0, .int .u8 0, .int .u8 0, .int .u8 0, .int .u8 0, .int .u8 0, .int .u8 0, .int .u8 0, .int .u8 0, .int .u8 0, .int .u8 0, .int .u8 0, .int .u8 0, .int .u8 0, .int .u8 0, .int .u8 0, .int .u8 0, .int .u8 0, .int .u8 0, .int .u8 0, .int .u8 0, .int .u8 0, .int .u8 0, .int .u8 0, .int .u8 0, .int .u8 0, .int .u8 0, .int .u8 0, .int .u8 0, .int .u8 0, .int .u8 0, .int .u8 0] 26)).alloc (.cells zc 42) = w1 := ⟨_, rfl⟩
  have H1 : Bx (Below w.heap.size w w1 ∧ w1.heap.size = w.heap.size + 2 ∧ w1.heap[w.heap.size]? = some (.cells (u8s (List.replicate 32 0)) 26 (0, 0)) ∧ Took w1 (w.heap.size + 1) 42 [] w1) := Bx.mk (by
    rw [← hw1]
    refine ⟨((Below.refl _ _).alloc (Nat.le_refl _) _).alloc (by simp) _, by simp, ?_, _, _, ?_, StIs.zero, kb_refl _ _⟩
    · rw [hold _ _ _ (by simp), hnew _ _ _ rfl, ← zero32]
    · rw [hnew _ _ _ (by simp), ← HZ.out]; rfl)
  rw [hw1]
  clear hw1
  refine (add_any (w.heap.size + 1) [] pss v w1 H1.out.2.2.2 (HP.out.later (kb_below _ H1.out.1)) HM.out.1 (by simpa using HM.out.2) (HA.out.later H1.out.1 hg) (by omega)).mono ?_
  rintro e w2 ⟨rfl, h2⟩
  rw [List.nil_append] at h2
  have H2 : Bx (Below w.heap.size w w2 ∧ w.heap.size + 2 ≤ w2.heap.size ∧ w2.heap[w.heap.size]? = some (.cells (u8s (List.replicate 32 0)) 26 (0, 0)) ∧ Took w2 (w.heap.size + 1) 42 pss.flatten w2) := Bx.mk (by
    obtain ⟨q1, q2, q3, _⟩ := H1.out
    have k := h2.kept
    exact ⟨q1.trans ⟨k.os, k.tape, k.output, Nat.le_trans (by omega) k.size, fun i hi => k.block i (by omega) (by simp; omega)⟩, by have := k.size; omega, by rw [k.block _ (by omega) (by simp)]; exact q3, h2.self⟩)
  clear h2 H1 HP
  go_wp2_with fail
  refine (sum_any (w.heap.size + 1) pss.flatten w2 H2.out.2.2.2 HM.out.2 (HA.out.later H2.out.1 hg) (by have := H2.out.2.1; omega)).mono ?_
  rintro e w3 ⟨rfl, hb⟩
  have HR : Bx (_ ∧ _ ∧ _ ∧ _) := Bx.mk (res32 (w := w) (wr := w3) (B := w.heap.size) (out := sha pss.flatten) (by rw [hb.block _ (by have := H2.out.2.1; omega)]; exact H2.out.2.2.1) HL.out (H2.out.1.trans (hb.mono (by have := H2.out.2.1; omega))) (Nat.le_refl _))
  clear hb H2 HA HM HL
  obtain ⟨out, ho⟩ : ∃ out, sha pss.flatten = out := ⟨_, rfl⟩
  rw [ho] at HR ⊢
  have HO := Bx.mk ho
  clear ho
  go_wp2_with (refine wpList_store_mid rfl 26 _ _ rfl w.heap.size 0 _ (by rfl) (by rfl) HR.out.2.1 HR.out.1 (one_u8s _) ?_)
  refine bodyPost_ret (results_cell_row rfl _ _ w.heap.size _ (u8s out) _ _ rfl HR.out.2.2.1 Tryd.underlying26 rfl HR.out.1) rfl ?_
  exact ⟨by rw [HO.out], HR.out.2.2.2⟩
end Go.Proofs.YtkfgpnigeknhmaaDoor
