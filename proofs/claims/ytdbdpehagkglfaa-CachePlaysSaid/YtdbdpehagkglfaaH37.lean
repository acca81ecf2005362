/-
  The law's 'tells': a book is the document's.
-/
import Derived.Test.YtdbdpehagkglfaaH36
namespace Go.Proofs.Ytdbdpehagkglfaa
open Go Go.RowKit
set_option maxRecDepth 100000 in
set_option maxHeartbeats 4000000 in
theorem tells_out (B : Nat) (w0 : World) (n : Nat) (zs : List Zz) (mv : Value) (c : Cl) (hc : Cl64 c) (nn : Nn) (hfn : nn.fit) (w : World) (h : StL B w0 n zs mv w) (hn : n ≤ 1000) (hn0 : ∀ z ∈ zs, z.e.c ≠ c) :
    Calls Try.prog 23 #[ptr B, mv, clV c, nv nn] w fun x w' => x = .returned (.bool true) ∧ Below w.heap.size w w' := by
  have hz : zs.length ≤ 100 := by have := h.le; omega
  have HTo := Bx.mk fun W => cto_any c W
  have HT12 := Bx.mk fun W => to12_any nn W
  obtain ⟨D, hD⟩ := h.look hn c hc nn hfn
  have HLk := Bx.mk hD
  have HLn := Bx.mk fun W (hB : Below w.heap.size w W) => len_any15 B B (ens zs) W (h.book.later hB)
  rw [show (ens zs).length = zs.length by simp [ens]] at HLn
  have HKn := Bx.mk fun W (hB : Below w.heap.size w W) => known15_any B B (ens zs) W (h.book.later hB) (by simp [ens]; omega)
  have HWn := Bx.mk fun W (hB : Below w.heap.size w W) => wanted15_any B B (ens zs) W (h.book.later hB) (by simp [ens]; omega)
  rw [who_known h.srt] at HKn
  rw [who_wanted h.srt] at HWn
  have HOf := Bx.mk fun is W (hB : Below w.heap.size w W) => lof_any is B mv zs W (OwnG.later h.row hB) hz
  have HSa := Bx.mk fun va vb is W (h1 : RowC W va (ofZ is zs)) (h2 : RowC W vb (ofZ is zs)) => lsame15 va vb (ofZ is zs) W h1 h2 (Nat.le_trans (ofZ_len is zs) (by omega))
  have HKe : Bx (∀ W, Below w.heap.size w W → Calls Try.prog 26 #[ptr B, clV c] W fun x w' => x = .returned (.tuple #[.pointer none, .int .i64 7]) ∧ Below W.heap.size W w') := Bx.mk fun W hB => key_err (ptr B) c 7 (by decide) W (fun W2 hb2 => find_out B B (ens zs) c hc (ens_out hn0) W2 ((h.book.later hB).later hb2))
  have HFi := Bx.mk fun W (hB : Below w.heap.size w W) => rfind_out B mv zs c W (OwnG.later h.row hB) (by omega) hn0
  obtain ⟨a, cap, rfl, -, -⟩ := OwnG.form h.row
  obtain ⟨zn, hzn⟩ : ∃ zn, zs.length = zn := ⟨_, rfl⟩
  rw [hzn] at HLk HLn HFi HOf ⊢
  clear h hD hn0 hzn hz
  obtain ⟨i, r, x, q⟩ := c
  obtain ⟨nb, nc⟩ := nn
  unfold clV nv ptr at *
  simp only at HTo HT12 HLk HKe HFi ⊢
  obtain ⟨X, hX⟩ : ∃ X, w.heap.size = X := ⟨_, rfl⟩
  have R0 : Bx (((w.alloc (.cells #[.int .i64 i, .int .i64 r, .int .i64 x, .int .i64 q] 24)).alloc (.cells #[.int .i64 nb, .int .i64 nc] 26)).heap[X]? = some (.cells #[.int .i64 i, .int .i64 r, .int .i64 x, .int .i64 q] 24 (0, 0)) ∧ ((w.alloc (.cells #[.int .i64 i, .int .i64 r, .int .i64 x, .int .i64 q] 24)).alloc (.cells #[.int .i64 nb, .int .i64 nc] 26)).heap[X + 1]? = some (.cells #[.int .i64 nb, .int .i64 nc] 26 (0, 0)) ∧ Below X w ((w.alloc (.cells #[.int .i64 i, .int .i64 r, .int .i64 x, .int .i64 q] 24)).alloc (.cells #[.int .i64 nb, .int .i64 nc] 26))) := Bx.mk ⟨by
    rw [hold _ _ _ (by rw [World.size_alloc]; omega)]
    exact hnew _ _ _ hX.symm, hnew _ _ _ (by rw [World.size_alloc, hX]), by rw [← hX]; exact (below_a _).alloc (by rw [World.size_alloc]; omega) _⟩
  rw [hX] at HLk HLn HKn HWn HOf HKe HFi ⊢
  have hr0 := row_rng15 (l := [.int .i64 i, .int .i64 r, .int .i64 x, .int .i64 q]) R0.out.1
  go_enter Try.func23, Try.ntmps23
  go_wp2_with (refine wpList_load_mid rfl _ _ rfl _ _ rfl _ _ hr0 Try.underlying24 rfl (by kernel_rfl) ?_)
  refine (HTo.out _).mono ?_
  rintro e w1 ⟨rfl, hb⟩
  have R1 : Bx (w1.heap[X]? = some (.cells #[.int .i64 i, .int .i64 r, .int .i64 x, .int .i64 q] 24 (0, 0)) ∧ w1.heap[X + 1]? = some (.cells #[.int .i64 nb, .int .i64 nc] 26 (0, 0)) ∧ Below X w w1) := Bx.mk ⟨(hb.block X (Array.getElem?_eq_some_iff.1 R0.out.1).1).trans R0.out.1, (hb.block (X + 1) (Array.getElem?_eq_some_iff.1 R0.out.2.1).1).trans R0.out.2.1, R0.out.2.2.trans (hb.mono (by have := R0.out.2.2.size; omega))⟩
  clear hb R0 hr0
  go_wp2_with fail
  refine (HKe.out _ R1.out.2.2).mono ?_
  rintro e w2 ⟨rfl, hb⟩
  have R2 : Bx (w2.heap[X]? = some (.cells #[.int .i64 i, .int .i64 r, .int .i64 x, .int .i64 q] 24 (0, 0)) ∧ w2.heap[X + 1]? = some (.cells #[.int .i64 nb, .int .i64 nc] 26 (0, 0)) ∧ Below X w w2) := Bx.mk ⟨(hb.block X (Array.getElem?_eq_some_iff.1 R1.out.1).1).trans R1.out.1, (hb.block (X + 1) (Array.getElem?_eq_some_iff.1 R1.out.2.1).1).trans R1.out.2.1, R1.out.2.2.trans (hb.mono (by have := R1.out.2.2.size; omega))⟩
  clear hb R1 HKe
  have hr2 := row_rng15 (l := [.int .i64 i, .int .i64 r, .int .i64 x, .int .i64 q]) R2.out.1
  go_wp2_with (refine wpList_load_mid rfl _ _ rfl _ _ rfl _ _ hr2 Try.underlying24 rfl (by kernel_rfl) ?_)
  refine (HFi.out _ R2.out.2.2).mono ?_
  rintro e w3 ⟨rfl, hb⟩
  have R3 : Bx (w3.heap[X]? = some (.cells #[.int .i64 i, .int .i64 r, .int .i64 x, .int .i64 q] 24 (0, 0)) ∧ w3.heap[X + 1]? = some (.cells #[.int .i64 nb, .int .i64 nc] 26 (0, 0)) ∧ Below X w w3) := Bx.mk ⟨(hb.block X (Array.getElem?_eq_some_iff.1 R2.out.1).1).trans R2.out.1, (hb.block (X + 1) (Array.getElem?_eq_some_iff.1 R2.out.2.1).1).trans R2.out.2.1, R2.out.2.2.trans (hb.mono (by have := R2.out.2.2.size; omega))⟩
  clear hb R2 hr2 HFi
  go_upto_region 11 with fail
  have R4 : Bx (w3.drew.heap[X]? = some (.cells #[.int .i64 i, .int .i64 r, .int .i64 x, .int .i64 q] 24 (0, 0)) ∧ w3.drew.heap[X + 1]? = some (.cells #[.int .i64 nb, .int .i64 nc] 26 (0, 0)) ∧ Below X w w3.drew) := Bx.mk ⟨R3.out.1, R3.out.2.1, R3.out.2.2.drew⟩
  clear R3
  refine wp_region_noPanic ?_
  refine wp_region_held_drew (S := fun W => W.rangeAt X 0 [.int .i64 i, .int .i64 r, .int .i64 x, .int .i64 q] ∧ W.rangeAt (X + 1) 0 [.int .i64 nb, .int .i64 nc]) (by kernel_rfl) (⟨row_rng15 (l := [.int .i64 i, .int .i64 r, .int .i64 x, .int .i64 q]) R4.out.1, row_rng15 (l := [.int .i64 nb, .int .i64 nc]) R4.out.2.1⟩) (fun hHeld => ?_)
  generalize w3.drew = w4 at *
  refine takeL 0 (v := ?_) rfl (by kernel_rfl) (by kernel_rfl) (by kernel_rfl) (fun _ _ _ h => h) (Or.inl ⟨by rfl, ?_⟩) hHeld ?_
  rotate_left 1
  · (intro w hSw; go_simp; try with_reducible rfl)
  try simp only [Act.put, List.setIfInBounds_toArray, List.set_cons_zero, List.set_cons_succ]
  refine takeL 2 (v := ?_) rfl (by kernel_rfl) (by kernel_rfl) (by kernel_rfl) (fun _ _ _ h => h) (Or.inl ⟨by rfl, ?_⟩) hHeld ?_
  rotate_left 1
  · (intro w hSw; go_simp; try with_reducible rfl)
  try simp only [Act.put, List.setIfInBounds_toArray, List.set_cons_zero, List.set_cons_succ]
  refine takeL 3 (v := ?_) rfl (by kernel_rfl) (by kernel_rfl) (by kernel_rfl) (fun _ _ _ h => h) (Or.inl ⟨by rfl, ?_⟩) hHeld ?_
  rotate_left 1
  · (intro w hSw; go_simp; try with_reducible rfl)
  try simp only [Act.put, List.setIfInBounds_toArray, List.set_cons_zero, List.set_cons_succ]
  refine stepL 1 (by kernel_rfl) rfl (fun K' hK => ?_)
  go_simp
  refine (HLn.out _ R4.out.2.2).mono ?_
  rintro e w5 ⟨rfl, hw⟩
  show K' _ _
  have hb : Below w4.heap.size w4 w5 := by rw [hw]; exact Below.refl _ _
  have R5 : Bx (w5.heap[X]? = some (.cells #[.int .i64 i, .int .i64 r, .int .i64 x, .int .i64 q] 24 (0, 0)) ∧ w5.heap[X + 1]? = some (.cells #[.int .i64 nb, .int .i64 nc] 26 (0, 0)) ∧ Below X w w5) := Bx.mk ⟨(hb.block X (Array.getElem?_eq_some_iff.1 R4.out.1).1).trans R4.out.1, (hb.block (X + 1) (Array.getElem?_eq_some_iff.1 R4.out.2.1).1).trans R4.out.2.1, R4.out.2.2.trans (hb.mono (by have := R4.out.2.2.size; omega))⟩
  refine hK.out _ _ ⟨row_rng15 (l := [.int .i64 i, .int .i64 r, .int .i64 x, .int .i64 q]) R5.out.1, row_rng15 (l := [.int .i64 nb, .int .i64 nc]) R5.out.2.1⟩ (fun hHeld => ?_)
  clear hK K' hb R4 hw
  try simp only [Act.put, List.setIfInBounds_toArray, List.set_cons_zero, List.set_cons_succ]
  refine takeL 4 (v := ?_) rfl (by kernel_rfl) (by kernel_rfl) (by kernel_rfl) (fun _ _ _ h => h) (Or.inl ⟨by rfl, ?_⟩) hHeld ?_
  rotate_left 1
  · (intro w hSw; go_simp; try with_reducible rfl)
  try simp only [Act.put, List.setIfInBounds_toArray, List.set_cons_zero, List.set_cons_succ]
  refine takeL 5 (v := ?_) rfl (by kernel_rfl) (by kernel_rfl) (by kernel_rfl) (fun _ _ _ h => h) (Or.inl ⟨by rfl, ?_⟩) hHeld ?_
  rotate_left 1
  · (intro w hSw; go_simp; try with_reducible rfl)
  try simp only [Act.put, List.setIfInBounds_toArray, List.set_cons_zero, List.set_cons_succ]
  refine takeL 6 (v := ?_) rfl (by kernel_rfl) (by kernel_rfl) (by kernel_rfl) (fun _ _ _ h => h) (Or.inl ⟨by rfl, ?_⟩) hHeld ?_
  rotate_left 1
  · (intro w hSw; go_simp; try with_reducible rfl)
  try simp only [Act.put, List.setIfInBounds_toArray, List.set_cons_zero, List.set_cons_succ]
  refine takeL 8 (v := ?_) rfl (by kernel_rfl) (by kernel_rfl) (by kernel_rfl) (fun _ _ _ h => h) (Or.inl ⟨by rfl, ?_⟩) hHeld ?_
  rotate_left 1
  · (intro w hSw; go_simp; try with_reducible rfl)
  try simp only [Act.put, List.setIfInBounds_toArray, List.set_cons_zero, List.set_cons_succ]
  refine stepL 7 (by kernel_rfl) rfl (fun K' hK => ?_)
  go_simp
  refine (HKn.out _ R5.out.2.2).mono ?_
  rintro e w6 ⟨va, rfl, ha, hb⟩
  show K' _ _
  have HVa := Bx.mk ha.1
  obtain ⟨aa, ac, hva⟩ := ha.1.form
  subst hva
  have R6 : Bx (w6.heap[X]? = some (.cells #[.int .i64 i, .int .i64 r, .int .i64 x, .int .i64 q] 24 (0, 0)) ∧ w6.heap[X + 1]? = some (.cells #[.int .i64 nb, .int .i64 nc] 26 (0, 0)) ∧ Below X w w6) := Bx.mk ⟨(hb.block X (Array.getElem?_eq_some_iff.1 R5.out.1).1).trans R5.out.1, (hb.block (X + 1) (Array.getElem?_eq_some_iff.1 R5.out.2.1).1).trans R5.out.2.1, R5.out.2.2.trans (hb.mono (by have := R5.out.2.2.size; omega))⟩
  refine hK.out _ _ ⟨row_rng15 (l := [.int .i64 i, .int .i64 r, .int .i64 x, .int .i64 q]) R6.out.1, row_rng15 (l := [.int .i64 nb, .int .i64 nc]) R6.out.2.1⟩ (fun hHeld => ?_)
  clear hK K' hb R5
  try simp only [Act.put, List.setIfInBounds_toArray, List.set_cons_zero, List.set_cons_succ]
  refine stepL 9 (by kernel_rfl) rfl (fun K' hK => ?_)
  go_simp
  refine (HOf.out _ _ R6.out.2.2).mono ?_
  rintro e w7 ⟨vb, rfl, ha, hb⟩
  show K' _ _
  have HVb := Bx.mk ha.rowT
  have HVa2 := Bx.mk (HVa.out.later hb)
  obtain ⟨ba', bc', hvb⟩ := ha.rowT.form
  subst hvb
  have R7 : Bx (w7.heap[X]? = some (.cells #[.int .i64 i, .int .i64 r, .int .i64 x, .int .i64 q] 24 (0, 0)) ∧ w7.heap[X + 1]? = some (.cells #[.int .i64 nb, .int .i64 nc] 26 (0, 0)) ∧ Below X w w7) := Bx.mk ⟨(hb.block X (Array.getElem?_eq_some_iff.1 R6.out.1).1).trans R6.out.1, (hb.block (X + 1) (Array.getElem?_eq_some_iff.1 R6.out.2.1).1).trans R6.out.2.1, R6.out.2.2.trans (hb.mono (by have := R6.out.2.2.size; omega))⟩
  refine hK.out _ _ ⟨row_rng15 (l := [.int .i64 i, .int .i64 r, .int .i64 x, .int .i64 q]) R7.out.1, row_rng15 (l := [.int .i64 nb, .int .i64 nc]) R7.out.2.1⟩ (fun hHeld => ?_)
  clear hK K' hb R6
  try simp only [Act.put, List.setIfInBounds_toArray, List.set_cons_zero, List.set_cons_succ]
  refine stepL 10 (by kernel_rfl) rfl (fun K' hK => ?_)
  go_simp
  refine (HSa.out _ _ _ _ HVa2.out HVb.out).mono ?_
  rintro e w8 ⟨rfl, hb⟩
  show K' _ _
  clear HVa HVa2 HVb
  have R8 : Bx (w8.heap[X]? = some (.cells #[.int .i64 i, .int .i64 r, .int .i64 x, .int .i64 q] 24 (0, 0)) ∧ w8.heap[X + 1]? = some (.cells #[.int .i64 nb, .int .i64 nc] 26 (0, 0)) ∧ Below X w w8) := Bx.mk ⟨(hb.block X (Array.getElem?_eq_some_iff.1 R7.out.1).1).trans R7.out.1, (hb.block (X + 1) (Array.getElem?_eq_some_iff.1 R7.out.2.1).1).trans R7.out.2.1, R7.out.2.2.trans (hb.mono (by have := R7.out.2.2.size; omega))⟩
  refine hK.out _ _ ⟨row_rng15 (l := [.int .i64 i, .int .i64 r, .int .i64 x, .int .i64 q]) R8.out.1, row_rng15 (l := [.int .i64 nb, .int .i64 nc]) R8.out.2.1⟩ (fun hHeld => ?_)
  clear hK K' hb R7
  try simp only [Act.put, List.setIfInBounds_toArray, List.set_cons_zero, List.set_cons_succ]
  refine takeL 11 (v := ?_) rfl (by kernel_rfl) (by kernel_rfl) (by kernel_rfl) (fun _ _ _ h => h) (Or.inl ⟨by rfl, ?_⟩) hHeld ?_
  rotate_left 1
  · (intro w hSw; go_simp; try with_reducible rfl)
  try simp only [Act.put, List.setIfInBounds_toArray, List.set_cons_zero, List.set_cons_succ]
  refine takeL 12 (v := ?_) rfl (by kernel_rfl) (by kernel_rfl) (by kernel_rfl) (fun _ _ _ h => h) (Or.inl ⟨by rfl, ?_⟩) hHeld ?_
  rotate_left 1
  · (intro w hSw; go_simp; try with_reducible rfl)
  try simp only [Act.put, List.setIfInBounds_toArray, List.set_cons_zero, List.set_cons_succ]
  refine takeL 13 (v := ?_) rfl (by kernel_rfl) (by kernel_rfl) (by kernel_rfl) (fun _ _ _ h => h) (Or.inl ⟨by rfl, ?_⟩) hHeld ?_
  rotate_left 1
  · (intro w hSw; go_simp; try with_reducible rfl)
  try simp only [Act.put, List.setIfInBounds_toArray, List.set_cons_zero, List.set_cons_succ]
  refine takeL 15 (v := ?_) rfl (by kernel_rfl) (by kernel_rfl) (by kernel_rfl) (fun _ _ _ h => h) (Or.inl ⟨by rfl, ?_⟩) hHeld ?_
  rotate_left 1
  · (intro w hSw; go_simp; try with_reducible rfl)
  try simp only [Act.put, List.setIfInBounds_toArray, List.set_cons_zero, List.set_cons_succ]
  refine stepL 14 (by kernel_rfl) rfl (fun K' hK => ?_)
  go_simp
  refine (HWn.out _ R8.out.2.2).mono ?_
  rintro e w9 ⟨va, rfl, ha, hb⟩
  show K' _ _
  have HVa := Bx.mk ha.1
  obtain ⟨aa, ac, hva⟩ := ha.1.form
  subst hva
  have R9 : Bx (w9.heap[X]? = some (.cells #[.int .i64 i, .int .i64 r, .int .i64 x, .int .i64 q] 24 (0, 0)) ∧ w9.heap[X + 1]? = some (.cells #[.int .i64 nb, .int .i64 nc] 26 (0, 0)) ∧ Below X w w9) := Bx.mk ⟨(hb.block X (Array.getElem?_eq_some_iff.1 R8.out.1).1).trans R8.out.1, (hb.block (X + 1) (Array.getElem?_eq_some_iff.1 R8.out.2.1).1).trans R8.out.2.1, R8.out.2.2.trans (hb.mono (by have := R8.out.2.2.size; omega))⟩
  refine hK.out _ _ ⟨row_rng15 (l := [.int .i64 i, .int .i64 r, .int .i64 x, .int .i64 q]) R9.out.1, row_rng15 (l := [.int .i64 nb, .int .i64 nc]) R9.out.2.1⟩ (fun hHeld => ?_)
  clear hK K' hb R8
  try simp only [Act.put, List.setIfInBounds_toArray, List.set_cons_zero, List.set_cons_succ]
  refine stepL 16 (by kernel_rfl) rfl (fun K' hK => ?_)
  go_simp
  refine (HOf.out _ _ R9.out.2.2).mono ?_
  rintro e w10 ⟨vb, rfl, ha, hb⟩
  show K' _ _
  have HVb := Bx.mk ha.rowT
  have HVa2 := Bx.mk (HVa.out.later hb)
  obtain ⟨ba', bc', hvb⟩ := ha.rowT.form
  subst hvb
  have R10 : Bx (w10.heap[X]? = some (.cells #[.int .i64 i, .int .i64 r, .int .i64 x, .int .i64 q] 24 (0, 0)) ∧ w10.heap[X + 1]? = some (.cells #[.int .i64 nb, .int .i64 nc] 26 (0, 0)) ∧ Below X w w10) := Bx.mk ⟨(hb.block X (Array.getElem?_eq_some_iff.1 R9.out.1).1).trans R9.out.1, (hb.block (X + 1) (Array.getElem?_eq_some_iff.1 R9.out.2.1).1).trans R9.out.2.1, R9.out.2.2.trans (hb.mono (by have := R9.out.2.2.size; omega))⟩
  refine hK.out _ _ ⟨row_rng15 (l := [.int .i64 i, .int .i64 r, .int .i64 x, .int .i64 q]) R10.out.1, row_rng15 (l := [.int .i64 nb, .int .i64 nc]) R10.out.2.1⟩ (fun hHeld => ?_)
  clear hK K' hb R9
  try simp only [Act.put, List.setIfInBounds_toArray, List.set_cons_zero, List.set_cons_succ]
  refine stepL 17 (by kernel_rfl) rfl (fun K' hK => ?_)
  go_simp
  refine (HSa.out _ _ _ _ HVa2.out HVb.out).mono ?_
  rintro e w11 ⟨rfl, hb⟩
  show K' _ _
  clear HVa HVa2 HVb
  have R11 : Bx (w11.heap[X]? = some (.cells #[.int .i64 i, .int .i64 r, .int .i64 x, .int .i64 q] 24 (0, 0)) ∧ w11.heap[X + 1]? = some (.cells #[.int .i64 nb, .int .i64 nc] 26 (0, 0)) ∧ Below X w w11) := Bx.mk ⟨(hb.block X (Array.getElem?_eq_some_iff.1 R10.out.1).1).trans R10.out.1, (hb.block (X + 1) (Array.getElem?_eq_some_iff.1 R10.out.2.1).1).trans R10.out.2.1, R10.out.2.2.trans (hb.mono (by have := R10.out.2.2.size; omega))⟩
  refine hK.out _ _ ⟨row_rng15 (l := [.int .i64 i, .int .i64 r, .int .i64 x, .int .i64 q]) R11.out.1, row_rng15 (l := [.int .i64 nb, .int .i64 nc]) R11.out.2.1⟩ (fun hHeld => ?_)
  clear hK K' hb R10
  try simp only [Act.put, List.setIfInBounds_toArray, List.set_cons_zero, List.set_cons_succ]
  refine takeL 18 (v := ?_) rfl (by kernel_rfl) (by kernel_rfl) (by kernel_rfl) (fun _ _ _ h => h) (Or.inl ⟨by rfl, ?_⟩) hHeld ?_
  rotate_left 1
  · (intro w hSw; go_simp; try with_reducible rfl)
  try simp only [Act.put, List.setIfInBounds_toArray, List.set_cons_zero, List.set_cons_succ]
  refine takeL 19 (v := ?_) rfl (by kernel_rfl) (by kernel_rfl) (by kernel_rfl) (fun _ _ _ h => h) (Or.inl ⟨by rfl, ?_⟩) hHeld ?_
  rotate_left 1
  · (intro w hSw; go_simp; try with_reducible rfl)
  try simp only [Act.put, List.setIfInBounds_toArray, List.set_cons_zero, List.set_cons_succ]
  refine takeL 20 (v := ?_) rfl (by kernel_rfl) (by kernel_rfl) (by kernel_rfl) (fun _ _ _ h => h) (Or.inl ⟨by rfl, ?_⟩) hHeld ?_
  rotate_left 1
  · (intro w hSw; go_simp; try with_reducible rfl)
  try simp only [Act.put, List.setIfInBounds_toArray, List.set_cons_zero, List.set_cons_succ]
  refine takeL 21 rfl (by kernel_rfl) (by kernel_rfl) (by kernel_rfl) (fun _ _ _ h => h) (yieldsIf_load_mid (by rfl) _ _ rfl _ _ rfl _ _ (fun w hSw => hSw.1) Try.underlying24 rfl (by kernel_rfl)) hHeld ?_
  try simp only [Act.put, List.setIfInBounds_toArray, List.set_cons_zero, List.set_cons_succ]
  refine takeL 23 rfl (by kernel_rfl) (by kernel_rfl) (by kernel_rfl) (fun _ _ _ h => h) (yieldsIf_load_mid (by rfl) _ _ rfl _ _ rfl _ _ (fun w hSw => hSw.2) Try.underlying26 rfl (by kernel_rfl)) hHeld ?_
  try simp only [Act.put, List.setIfInBounds_toArray, List.set_cons_zero, List.set_cons_succ]
  refine takeL 26 (v := ?_) rfl (by kernel_rfl) (by kernel_rfl) (by kernel_rfl) (fun _ _ _ h => h) (Or.inl ⟨by rfl, ?_⟩) hHeld ?_
  rotate_left 1
  · (intro w hSw; go_simp; try with_reducible rfl)
  try simp only [Act.put, List.setIfInBounds_toArray, List.set_cons_zero, List.set_cons_succ]
  refine takeL 27 rfl (by kernel_rfl) (by kernel_rfl) (by kernel_rfl) (fun _ _ _ h => h) (yieldsIf_load_mid (by rfl) _ _ rfl _ _ rfl _ _ (fun w hSw => hSw.1) Try.underlying24 rfl (by kernel_rfl)) hHeld ?_
  try simp only [Act.put, List.setIfInBounds_toArray, List.set_cons_zero, List.set_cons_succ]
  refine takeL 28 rfl (by kernel_rfl) (by kernel_rfl) (by kernel_rfl) (fun _ _ _ h => h) (yieldsIf_load_mid (by rfl) _ _ rfl _ _ rfl _ _ (fun w hSw => hSw.2) Try.underlying26 rfl (by kernel_rfl)) hHeld ?_
  try simp only [Act.put, List.setIfInBounds_toArray, List.set_cons_zero, List.set_cons_succ]
  refine stepL 22 (by kernel_rfl) rfl (fun K' hK => ?_)
  go_simp
  refine (HTo.out _).mono ?_
  rintro e w12 ⟨rfl, hb⟩
  show K' _ _
  have R12 : Bx (w12.heap[X]? = some (.cells #[.int .i64 i, .int .i64 r, .int .i64 x, .int .i64 q] 24 (0, 0)) ∧ w12.heap[X + 1]? = some (.cells #[.int .i64 nb, .int .i64 nc] 26 (0, 0)) ∧ Below X w w12) := Bx.mk ⟨(hb.block X (Array.getElem?_eq_some_iff.1 R11.out.1).1).trans R11.out.1, (hb.block (X + 1) (Array.getElem?_eq_some_iff.1 R11.out.2.1).1).trans R11.out.2.1, R11.out.2.2.trans (hb.mono (by have := R11.out.2.2.size; omega))⟩
  refine hK.out _ _ ⟨row_rng15 (l := [.int .i64 i, .int .i64 r, .int .i64 x, .int .i64 q]) R12.out.1, row_rng15 (l := [.int .i64 nb, .int .i64 nc]) R12.out.2.1⟩ (fun hHeld => ?_)
  clear hK K' hb R11
  try simp only [Act.put, List.setIfInBounds_toArray, List.set_cons_zero, List.set_cons_succ]
  refine stepL 24 (by kernel_rfl) rfl (fun K' hK => ?_)
  go_simp
  refine (HT12.out _).mono ?_
  rintro e w13 ⟨rfl, hb⟩
  show K' _ _
  have R13 : Bx (w13.heap[X]? = some (.cells #[.int .i64 i, .int .i64 r, .int .i64 x, .int .i64 q] 24 (0, 0)) ∧ w13.heap[X + 1]? = some (.cells #[.int .i64 nb, .int .i64 nc] 26 (0, 0)) ∧ Below X w w13) := Bx.mk ⟨(hb.block X (Array.getElem?_eq_some_iff.1 R12.out.1).1).trans R12.out.1, (hb.block (X + 1) (Array.getElem?_eq_some_iff.1 R12.out.2.1).1).trans R12.out.2.1, R12.out.2.2.trans (hb.mono (by have := R12.out.2.2.size; omega))⟩
  refine hK.out _ _ ⟨row_rng15 (l := [.int .i64 i, .int .i64 r, .int .i64 x, .int .i64 q]) R13.out.1, row_rng15 (l := [.int .i64 nb, .int .i64 nc]) R13.out.2.1⟩ (fun hHeld => ?_)
  clear hK K' hb R12
  try simp only [Act.put, List.setIfInBounds_toArray, List.set_cons_zero, List.set_cons_succ]
  refine stepL 25 (by kernel_rfl) rfl (fun K' hK => ?_)
  go_simp
  refine ((HLk.out _ R13.out.2.2).1).mono ?_
  rintro e w14 ⟨rfl, hb⟩
  show K' _ _
  have R14 : Bx (w14.heap[X]? = some (.cells #[.int .i64 i, .int .i64 r, .int .i64 x, .int .i64 q] 24 (0, 0)) ∧ w14.heap[X + 1]? = some (.cells #[.int .i64 nb, .int .i64 nc] 26 (0, 0)) ∧ Below X w w14) := Bx.mk ⟨(hb.block X (Array.getElem?_eq_some_iff.1 R13.out.1).1).trans R13.out.1, (hb.block (X + 1) (Array.getElem?_eq_some_iff.1 R13.out.2.1).1).trans R13.out.2.1, R13.out.2.2.trans (hb.mono (by have := R13.out.2.2.size; omega))⟩
  refine hK.out _ _ ⟨row_rng15 (l := [.int .i64 i, .int .i64 r, .int .i64 x, .int .i64 q]) R14.out.1, row_rng15 (l := [.int .i64 nb, .int .i64 nc]) R14.out.2.1⟩ (fun hHeld => ?_)
  clear hK K' hb R13
  try simp only [Act.put, List.setIfInBounds_toArray, List.set_cons_zero, List.set_cons_succ]
  refine stepL 29 (by kernel_rfl) rfl (fun K' hK => ?_)
  go_simp
  refine ((HLk.out _ R14.out.2.2).2).mono ?_
  rintro e w15 ⟨rfl, hb⟩
  show K' _ _
  have R15 : Bx (w15.heap[X]? = some (.cells #[.int .i64 i, .int .i64 r, .int .i64 x, .int .i64 q] 24 (0, 0)) ∧ w15.heap[X + 1]? = some (.cells #[.int .i64 nb, .int .i64 nc] 26 (0, 0)) ∧ Below X w w15) := Bx.mk ⟨(hb.block X (Array.getElem?_eq_some_iff.1 R14.out.1).1).trans R14.out.1, (hb.block (X + 1) (Array.getElem?_eq_some_iff.1 R14.out.2.1).1).trans R14.out.2.1, R14.out.2.2.trans (hb.mono (by have := R14.out.2.2.size; omega))⟩
  refine hK.out _ _ ⟨row_rng15 (l := [.int .i64 i, .int .i64 r, .int .i64 x, .int .i64 q]) R15.out.1, row_rng15 (l := [.int .i64 nb, .int .i64 nc]) R15.out.2.1⟩ (fun hHeld => ?_)
  clear hK K' hb R14
  try simp only [Act.put, List.setIfInBounds_toArray, List.set_cons_zero, List.set_cons_succ]
  refine takeL 30 (v := ?_) rfl (by kernel_rfl) (by kernel_rfl) (by kernel_rfl) (fun _ _ _ h => h) (Or.inl ⟨by rfl, ?_⟩) hHeld ?_
  rotate_left 1
  · (intro w hSw; go_simp; try with_reducible rfl)
  try simp only [Act.put, List.setIfInBounds_toArray, List.set_cons_zero, List.set_cons_succ]
  refine takeL 31 (v := ?_) rfl (by kernel_rfl) (by kernel_rfl) (by kernel_rfl) (fun _ _ _ h => h) (Or.inl ⟨by rfl, ?_⟩) hHeld ?_
  rotate_left 1
  · (intro w hSw; go_simp; try with_reducible rfl)
  try simp only [Act.put, List.setIfInBounds_toArray, List.set_cons_zero, List.set_cons_succ]
  refine takeL 32 (v := ?_) rfl (by kernel_rfl) (by kernel_rfl) (by kernel_rfl) (fun _ _ _ h => h) (Or.inl ⟨by rfl, ?_⟩) hHeld ?_
  rotate_left 1
  · (intro w hSw; go_simp; try with_reducible rfl)
  try simp only [Act.put, List.setIfInBounds_toArray, List.set_cons_zero, List.set_cons_succ]
  refine wpAnyH_done (by kernel_rfl) ?_ _
  refine NoPanic.normal ?_
  clear hHeld
  go_wp2
  go_ret
  exact ⟨rfl, R15.out.2.2⟩
set_option maxRecDepth 100000 in
set_option maxHeartbeats 4000000 in
theorem tells_wanted (B : Nat) (w0 : World) (n : Nat) (zs : List Zz) (mv : Value) (c : Cl) (hc : Cl64 c) (nn : Nn) (hfn : nn.fit) (w : World) (h : StL B w0 n zs mv w) (hn : n ≤ 1000) (K : Nat) (hK : K < zs.length) (hcK : (zs[K]).e.c = c) (hb : ∀ j (hj : j < zs.length), j < K → (zs[j]).e.c ≠ c) (hk : (zs[K]).e.k = none) :
    Calls Try.prog 23 #[ptr B, mv, clV c, nv nn] w fun x w' => x = .returned (.bool true) ∧ Below w.heap.size w w' := by
  have hz : zs.length ≤ 100 := by have := h.le; omega
  have HTo := Bx.mk fun W => cto_any c W
  have HT12 := Bx.mk fun W => to12_any nn W
  obtain ⟨D, hD⟩ := h.look hn c hc nn hfn
  have HLk := Bx.mk hD
  have HLn := Bx.mk fun W (hB : Below w.heap.size w W) => len_any15 B B (ens zs) W (h.book.later hB)
  rw [show (ens zs).length = zs.length by simp [ens]] at HLn
  have HKn := Bx.mk fun W (hB : Below w.heap.size w W) => known15_any B B (ens zs) W (h.book.later hB) (by simp [ens]; omega)
  have HWn := Bx.mk fun W (hB : Below w.heap.size w W) => wanted15_any B B (ens zs) W (h.book.later hB) (by simp [ens]; omega)
  rw [who_known h.srt] at HKn
  rw [who_wanted h.srt] at HWn
  have HOf := Bx.mk fun is W (hB : Below w.heap.size w W) => lof_any is B mv zs W (OwnG.later h.row hB) hz
  have HSa := Bx.mk fun va vb is W (h1 : RowC W va (ofZ is zs)) (h2 : RowC W vb (ofZ is zs)) => lsame15 va vb (ofZ is zs) W h1 h2 (Nat.le_trans (ofZ_len is zs) (by omega))
  have HKe : Bx (∀ W, Below w.heap.size w W → Calls Try.prog 26 #[ptr B, clV c] W fun x w' => x = .returned (.tuple #[.pointer none, .int .i64 11]) ∧ Below W.heap.size W w') := Bx.mk fun W hB => key_err (ptr B) c 11 (by decide) W (fun W2 hb2 => by rw [← hcK]; exact find_wanted B B (ens zs) _ (ens_in hK) (by rw [hk]; rfl) W2 ((h.book.later hB).later hb2))
  have HFi := Bx.mk fun W (hB : Below w.heap.size w W) => rfind_at B mv zs c W (OwnG.later h.row hB) (by omega) K hK hcK hb
  obtain ⟨g, cap, hmv⟩ := OwnG.start h.row (by omega)
  subst hmv
  have HC := Bx.mk (fun W (hB : Below w.heap.size w W) => rngZ ((OwnG.later h.row hB).at_ encZ_len K hK))
  rw [hk] at HC
  have hKz : (K : Int) < (zs.length : Int) := by omega
  have hK0 : (0 : Int) ≤ (K : Int) := by omega
  have hKn : ¬ (K : Int) < 0 := by omega
  obtain ⟨zn, hzn⟩ : ∃ zn, zs.length = zn := ⟨_, rfl⟩
  rw [hzn] at HLk HLn HFi HOf hKz ⊢
  clear h hD hcK hb hk hzn hz
  obtain ⟨i, r, x, q⟩ := c
  obtain ⟨nb, nc⟩ := nn
  unfold clV nv ptr at *
  simp only at HTo HT12 HLk HKe HFi ⊢
  obtain ⟨X, hX⟩ : ∃ X, w.heap.size = X := ⟨_, rfl⟩
  have R0 : Bx (((w.alloc (.cells #[.int .i64 i, .int .i64 r, .int .i64 x, .int .i64 q] 24)).alloc (.cells #[.int .i64 nb, .int .i64 nc] 26)).heap[X]? = some (.cells #[.int .i64 i, .int .i64 r, .int .i64 x, .int .i64 q] 24 (0, 0)) ∧ ((w.alloc (.cells #[.int .i64 i, .int .i64 r, .int .i64 x, .int .i64 q] 24)).alloc (.cells #[.int .i64 nb, .int .i64 nc] 26)).heap[X + 1]? = some (.cells #[.int .i64 nb, .int .i64 nc] 26 (0, 0)) ∧ Below X w ((w.alloc (.cells #[.int .i64 i, .int .i64 r, .int .i64 x, .int .i64 q] 24)).alloc (.cells #[.int .i64 nb, .int .i64 nc] 26))) := Bx.mk ⟨by
    rw [hold _ _ _ (by rw [World.size_alloc]; omega)]
    exact hnew _ _ _ hX.symm, hnew _ _ _ (by rw [World.size_alloc, hX]), by rw [← hX]; exact (below_a _).alloc (by rw [World.size_alloc]; omega) _⟩
  rw [hX] at HLk HLn HKn HWn HOf HKe HFi HC ⊢
  have hr0 := row_rng15 (l := [.int .i64 i, .int .i64 r, .int .i64 x, .int .i64 q]) R0.out.1
  go_enter Try.func23, Try.ntmps23
  go_wp2_with (refine wpList_load_mid rfl _ _ rfl _ _ rfl _ _ hr0 Try.underlying24 rfl (by kernel_rfl) ?_)
  refine (HTo.out _).mono ?_
  rintro e w1 ⟨rfl, hb⟩
  have R1 : Bx (w1.heap[X]? = some (.cells #[.int .i64 i, .int .i64 r, .int .i64 x, .int .i64 q] 24 (0, 0)) ∧ w1.heap[X + 1]? = some (.cells #[.int .i64 nb, .int .i64 nc] 26 (0, 0)) ∧ Below X w w1) := Bx.mk ⟨(hb.block X (Array.getElem?_eq_some_iff.1 R0.out.1).1).trans R0.out.1, (hb.block (X + 1) (Array.getElem?_eq_some_iff.1 R0.out.2.1).1).trans R0.out.2.1, R0.out.2.2.trans (hb.mono (by have := R0.out.2.2.size; omega))⟩
  clear hb R0 hr0
  go_wp2_with fail
  refine (HKe.out _ R1.out.2.2).mono ?_
  rintro e w2 ⟨rfl, hb⟩
  have R2 : Bx (w2.heap[X]? = some (.cells #[.int .i64 i, .int .i64 r, .int .i64 x, .int .i64 q] 24 (0, 0)) ∧ w2.heap[X + 1]? = some (.cells #[.int .i64 nb, .int .i64 nc] 26 (0, 0)) ∧ Below X w w2) := Bx.mk ⟨(hb.block X (Array.getElem?_eq_some_iff.1 R1.out.1).1).trans R1.out.1, (hb.block (X + 1) (Array.getElem?_eq_some_iff.1 R1.out.2.1).1).trans R1.out.2.1, R1.out.2.2.trans (hb.mono (by have := R1.out.2.2.size; omega))⟩
  clear hb R1 HKe
  have hr2 := row_rng15 (l := [.int .i64 i, .int .i64 r, .int .i64 x, .int .i64 q]) R2.out.1
  go_wp2_with (refine wpList_load_mid rfl _ _ rfl _ _ rfl _ _ hr2 Try.underlying24 rfl (by kernel_rfl) ?_)
  refine (HFi.out _ R2.out.2.2).mono ?_
  rintro e w3 ⟨rfl, hb⟩
  have R3 : Bx (w3.heap[X]? = some (.cells #[.int .i64 i, .int .i64 r, .int .i64 x, .int .i64 q] 24 (0, 0)) ∧ w3.heap[X + 1]? = some (.cells #[.int .i64 nb, .int .i64 nc] 26 (0, 0)) ∧ Below X w w3) := Bx.mk ⟨(hb.block X (Array.getElem?_eq_some_iff.1 R2.out.1).1).trans R2.out.1, (hb.block (X + 1) (Array.getElem?_eq_some_iff.1 R2.out.2.1).1).trans R2.out.2.1, R2.out.2.2.trans (hb.mono (by have := R2.out.2.2.size; omega))⟩
  clear hb R2 hr2 HFi
  obtain ⟨q4, -, q6, -⟩ := HC.out _ R3.out.2.2
  go_upto_region 11 with fail
  have R4 : Bx (w3.drew.heap[X]? = some (.cells #[.int .i64 i, .int .i64 r, .int .i64 x, .int .i64 q] 24 (0, 0)) ∧ w3.drew.heap[X + 1]? = some (.cells #[.int .i64 nb, .int .i64 nc] 26 (0, 0)) ∧ Below X w w3.drew) := Bx.mk ⟨R3.out.1, R3.out.2.1, R3.out.2.2.drew⟩
  clear q4 q6 R3
  refine wp_region_noPanic ?_
  refine wp_region_held_drew (S := fun W => W.rangeAt X 0 [.int .i64 i, .int .i64 r, .int .i64 x, .int .i64 q] ∧ W.rangeAt (X + 1) 0 [.int .i64 nb, .int .i64 nc]) (by kernel_rfl) (⟨row_rng15 (l := [.int .i64 i, .int .i64 r, .int .i64 x, .int .i64 q]) R4.out.1, row_rng15 (l := [.int .i64 nb, .int .i64 nc]) R4.out.2.1⟩) (fun hHeld => ?_)
  generalize w3.drew = w4 at *
  refine takeL 0 (v := ?_) rfl (by kernel_rfl) (by kernel_rfl) (by kernel_rfl) (fun _ _ _ h => h) (Or.inl ⟨by rfl, ?_⟩) hHeld ?_
  rotate_left 1
  · (intro w hSw; go_simp; try with_reducible rfl)
  try simp only [Act.put, List.setIfInBounds_toArray, List.set_cons_zero, List.set_cons_succ]
  refine takeL 2 (v := ?_) rfl (by kernel_rfl) (by kernel_rfl) (by kernel_rfl) (fun _ _ _ h => h) (Or.inl ⟨by rfl, ?_⟩) hHeld ?_
  rotate_left 1
  · (intro w hSw; go_simp; try with_reducible rfl)
  try simp only [Act.put, List.setIfInBounds_toArray, List.set_cons_zero, List.set_cons_succ]
  refine takeL 3 (v := ?_) rfl (by kernel_rfl) (by kernel_rfl) (by kernel_rfl) (fun _ _ _ h => h) (Or.inl ⟨by rfl, ?_⟩) hHeld ?_
  rotate_left 1
  · (intro w hSw; go_simp; try with_reducible rfl)
  try simp only [Act.put, List.setIfInBounds_toArray, List.set_cons_zero, List.set_cons_succ]
  refine stepL 1 (by kernel_rfl) rfl (fun K' hK => ?_)
  go_simp
  refine (HLn.out _ R4.out.2.2).mono ?_
  rintro e w5 ⟨rfl, hw⟩
  show K' _ _
  have hb : Below w4.heap.size w4 w5 := by rw [hw]; exact Below.refl _ _
  have R5 : Bx (w5.heap[X]? = some (.cells #[.int .i64 i, .int .i64 r, .int .i64 x, .int .i64 q] 24 (0, 0)) ∧ w5.heap[X + 1]? = some (.cells #[.int .i64 nb, .int .i64 nc] 26 (0, 0)) ∧ Below X w w5) := Bx.mk ⟨(hb.block X (Array.getElem?_eq_some_iff.1 R4.out.1).1).trans R4.out.1, (hb.block (X + 1) (Array.getElem?_eq_some_iff.1 R4.out.2.1).1).trans R4.out.2.1, R4.out.2.2.trans (hb.mono (by have := R4.out.2.2.size; omega))⟩
  refine hK.out _ _ ⟨row_rng15 (l := [.int .i64 i, .int .i64 r, .int .i64 x, .int .i64 q]) R5.out.1, row_rng15 (l := [.int .i64 nb, .int .i64 nc]) R5.out.2.1⟩ (fun hHeld => ?_)
  clear hK K' hb R4 hw
  try simp only [Act.put, List.setIfInBounds_toArray, List.set_cons_zero, List.set_cons_succ]
  refine takeL 4 (v := ?_) rfl (by kernel_rfl) (by kernel_rfl) (by kernel_rfl) (fun _ _ _ h => h) (Or.inl ⟨by rfl, ?_⟩) hHeld ?_
  rotate_left 1
  · (intro w hSw; go_simp; try with_reducible rfl)
  try simp only [Act.put, List.setIfInBounds_toArray, List.set_cons_zero, List.set_cons_succ]
  refine takeL 5 (v := ?_) rfl (by kernel_rfl) (by kernel_rfl) (by kernel_rfl) (fun _ _ _ h => h) (Or.inl ⟨by rfl, ?_⟩) hHeld ?_
  rotate_left 1
  · (intro w hSw; go_simp; try with_reducible rfl)
  try simp only [Act.put, List.setIfInBounds_toArray, List.set_cons_zero, List.set_cons_succ]
  refine takeL 6 (v := ?_) rfl (by kernel_rfl) (by kernel_rfl) (by kernel_rfl) (fun _ _ _ h => h) (Or.inl ⟨by rfl, ?_⟩) hHeld ?_
  rotate_left 1
  · (intro w hSw; go_simp; try with_reducible rfl)
  try simp only [Act.put, List.setIfInBounds_toArray, List.set_cons_zero, List.set_cons_succ]
  refine takeL 8 (v := ?_) rfl (by kernel_rfl) (by kernel_rfl) (by kernel_rfl) (fun _ _ _ h => h) (Or.inl ⟨by rfl, ?_⟩) hHeld ?_
  rotate_left 1
  · (intro w hSw; go_simp; try with_reducible rfl)
  try simp only [Act.put, List.setIfInBounds_toArray, List.set_cons_zero, List.set_cons_succ]
  refine stepL 7 (by kernel_rfl) rfl (fun K' hK => ?_)
  go_simp
  refine (HKn.out _ R5.out.2.2).mono ?_
  rintro e w6 ⟨va, rfl, ha, hb⟩
  show K' _ _
  have HVa := Bx.mk ha.1
  obtain ⟨aa, ac, hva⟩ := ha.1.form
  subst hva
  have R6 : Bx (w6.heap[X]? = some (.cells #[.int .i64 i, .int .i64 r, .int .i64 x, .int .i64 q] 24 (0, 0)) ∧ w6.heap[X + 1]? = some (.cells #[.int .i64 nb, .int .i64 nc] 26 (0, 0)) ∧ Below X w w6) := Bx.mk ⟨(hb.block X (Array.getElem?_eq_some_iff.1 R5.out.1).1).trans R5.out.1, (hb.block (X + 1) (Array.getElem?_eq_some_iff.1 R5.out.2.1).1).trans R5.out.2.1, R5.out.2.2.trans (hb.mono (by have := R5.out.2.2.size; omega))⟩
  refine hK.out _ _ ⟨row_rng15 (l := [.int .i64 i, .int .i64 r, .int .i64 x, .int .i64 q]) R6.out.1, row_rng15 (l := [.int .i64 nb, .int .i64 nc]) R6.out.2.1⟩ (fun hHeld => ?_)
  clear hK K' hb R5
  try simp only [Act.put, List.setIfInBounds_toArray, List.set_cons_zero, List.set_cons_succ]
  refine stepL 9 (by kernel_rfl) rfl (fun K' hK => ?_)
  go_simp
  refine (HOf.out _ _ R6.out.2.2).mono ?_
  rintro e w7 ⟨vb, rfl, ha, hb⟩
  show K' _ _
  have HVb := Bx.mk ha.rowT
  have HVa2 := Bx.mk (HVa.out.later hb)
  obtain ⟨ba', bc', hvb⟩ := ha.rowT.form
  subst hvb
  have R7 : Bx (w7.heap[X]? = some (.cells #[.int .i64 i, .int .i64 r, .int .i64 x, .int .i64 q] 24 (0, 0)) ∧ w7.heap[X + 1]? = some (.cells #[.int .i64 nb, .int .i64 nc] 26 (0, 0)) ∧ Below X w w7) := Bx.mk ⟨(hb.block X (Array.getElem?_eq_some_iff.1 R6.out.1).1).trans R6.out.1, (hb.block (X + 1) (Array.getElem?_eq_some_iff.1 R6.out.2.1).1).trans R6.out.2.1, R6.out.2.2.trans (hb.mono (by have := R6.out.2.2.size; omega))⟩
  refine hK.out _ _ ⟨row_rng15 (l := [.int .i64 i, .int .i64 r, .int .i64 x, .int .i64 q]) R7.out.1, row_rng15 (l := [.int .i64 nb, .int .i64 nc]) R7.out.2.1⟩ (fun hHeld => ?_)
  clear hK K' hb R6
  try simp only [Act.put, List.setIfInBounds_toArray, List.set_cons_zero, List.set_cons_succ]
  refine stepL 10 (by kernel_rfl) rfl (fun K' hK => ?_)
  go_simp
  refine (HSa.out _ _ _ _ HVa2.out HVb.out).mono ?_
  rintro e w8 ⟨rfl, hb⟩
  show K' _ _
  clear HVa HVa2 HVb
  have R8 : Bx (w8.heap[X]? = some (.cells #[.int .i64 i, .int .i64 r, .int .i64 x, .int .i64 q] 24 (0, 0)) ∧ w8.heap[X + 1]? = some (.cells #[.int .i64 nb, .int .i64 nc] 26 (0, 0)) ∧ Below X w w8) := Bx.mk ⟨(hb.block X (Array.getElem?_eq_some_iff.1 R7.out.1).1).trans R7.out.1, (hb.block (X + 1) (Array.getElem?_eq_some_iff.1 R7.out.2.1).1).trans R7.out.2.1, R7.out.2.2.trans (hb.mono (by have := R7.out.2.2.size; omega))⟩
  refine hK.out _ _ ⟨row_rng15 (l := [.int .i64 i, .int .i64 r, .int .i64 x, .int .i64 q]) R8.out.1, row_rng15 (l := [.int .i64 nb, .int .i64 nc]) R8.out.2.1⟩ (fun hHeld => ?_)
  clear hK K' hb R7
  try simp only [Act.put, List.setIfInBounds_toArray, List.set_cons_zero, List.set_cons_succ]
  refine takeL 11 (v := ?_) rfl (by kernel_rfl) (by kernel_rfl) (by kernel_rfl) (fun _ _ _ h => h) (Or.inl ⟨by rfl, ?_⟩) hHeld ?_
  rotate_left 1
  · (intro w hSw; go_simp; try with_reducible rfl)
  try simp only [Act.put, List.setIfInBounds_toArray, List.set_cons_zero, List.set_cons_succ]
  refine takeL 12 (v := ?_) rfl (by kernel_rfl) (by kernel_rfl) (by kernel_rfl) (fun _ _ _ h => h) (Or.inl ⟨by rfl, ?_⟩) hHeld ?_
  rotate_left 1
  · (intro w hSw; go_simp; try with_reducible rfl)
  try simp only [Act.put, List.setIfInBounds_toArray, List.set_cons_zero, List.set_cons_succ]
  refine takeL 13 (v := ?_) rfl (by kernel_rfl) (by kernel_rfl) (by kernel_rfl) (fun _ _ _ h => h) (Or.inl ⟨by rfl, ?_⟩) hHeld ?_
  rotate_left 1
  · (intro w hSw; go_simp; try with_reducible rfl)
  try simp only [Act.put, List.setIfInBounds_toArray, List.set_cons_zero, List.set_cons_succ]
  refine takeL 15 (v := ?_) rfl (by kernel_rfl) (by kernel_rfl) (by kernel_rfl) (fun _ _ _ h => h) (Or.inl ⟨by rfl, ?_⟩) hHeld ?_
  rotate_left 1
  · (intro w hSw; go_simp; try with_reducible rfl)
  try simp only [Act.put, List.setIfInBounds_toArray, List.set_cons_zero, List.set_cons_succ]
  refine stepL 14 (by kernel_rfl) rfl (fun K' hK => ?_)
  go_simp
  refine (HWn.out _ R8.out.2.2).mono ?_
  rintro e w9 ⟨va, rfl, ha, hb⟩
  show K' _ _
  have HVa := Bx.mk ha.1
  obtain ⟨aa, ac, hva⟩ := ha.1.form
  subst hva
  have R9 : Bx (w9.heap[X]? = some (.cells #[.int .i64 i, .int .i64 r, .int .i64 x, .int .i64 q] 24 (0, 0)) ∧ w9.heap[X + 1]? = some (.cells #[.int .i64 nb, .int .i64 nc] 26 (0, 0)) ∧ Below X w w9) := Bx.mk ⟨(hb.block X (Array.getElem?_eq_some_iff.1 R8.out.1).1).trans R8.out.1, (hb.block (X + 1) (Array.getElem?_eq_some_iff.1 R8.out.2.1).1).trans R8.out.2.1, R8.out.2.2.trans (hb.mono (by have := R8.out.2.2.size; omega))⟩
  refine hK.out _ _ ⟨row_rng15 (l := [.int .i64 i, .int .i64 r, .int .i64 x, .int .i64 q]) R9.out.1, row_rng15 (l := [.int .i64 nb, .int .i64 nc]) R9.out.2.1⟩ (fun hHeld => ?_)
  clear hK K' hb R8
  try simp only [Act.put, List.setIfInBounds_toArray, List.set_cons_zero, List.set_cons_succ]
  refine stepL 16 (by kernel_rfl) rfl (fun K' hK => ?_)
  go_simp
  refine (HOf.out _ _ R9.out.2.2).mono ?_
  rintro e w10 ⟨vb, rfl, ha, hb⟩
  show K' _ _
  have HVb := Bx.mk ha.rowT
  have HVa2 := Bx.mk (HVa.out.later hb)
  obtain ⟨ba', bc', hvb⟩ := ha.rowT.form
  subst hvb
  have R10 : Bx (w10.heap[X]? = some (.cells #[.int .i64 i, .int .i64 r, .int .i64 x, .int .i64 q] 24 (0, 0)) ∧ w10.heap[X + 1]? = some (.cells #[.int .i64 nb, .int .i64 nc] 26 (0, 0)) ∧ Below X w w10) := Bx.mk ⟨(hb.block X (Array.getElem?_eq_some_iff.1 R9.out.1).1).trans R9.out.1, (hb.block (X + 1) (Array.getElem?_eq_some_iff.1 R9.out.2.1).1).trans R9.out.2.1, R9.out.2.2.trans (hb.mono (by have := R9.out.2.2.size; omega))⟩
  refine hK.out _ _ ⟨row_rng15 (l := [.int .i64 i, .int .i64 r, .int .i64 x, .int .i64 q]) R10.out.1, row_rng15 (l := [.int .i64 nb, .int .i64 nc]) R10.out.2.1⟩ (fun hHeld => ?_)
  clear hK K' hb R9
  try simp only [Act.put, List.setIfInBounds_toArray, List.set_cons_zero, List.set_cons_succ]
  refine stepL 17 (by kernel_rfl) rfl (fun K' hK => ?_)
  go_simp
  refine (HSa.out _ _ _ _ HVa2.out HVb.out).mono ?_
  rintro e w11 ⟨rfl, hb⟩
  show K' _ _
  clear HVa HVa2 HVb
  have R11 : Bx (w11.heap[X]? = some (.cells #[.int .i64 i, .int .i64 r, .int .i64 x, .int .i64 q] 24 (0, 0)) ∧ w11.heap[X + 1]? = some (.cells #[.int .i64 nb, .int .i64 nc] 26 (0, 0)) ∧ Below X w w11) := Bx.mk ⟨(hb.block X (Array.getElem?_eq_some_iff.1 R10.out.1).1).trans R10.out.1, (hb.block (X + 1) (Array.getElem?_eq_some_iff.1 R10.out.2.1).1).trans R10.out.2.1, R10.out.2.2.trans (hb.mono (by have := R10.out.2.2.size; omega))⟩
  refine hK.out _ _ ⟨row_rng15 (l := [.int .i64 i, .int .i64 r, .int .i64 x, .int .i64 q]) R11.out.1, row_rng15 (l := [.int .i64 nb, .int .i64 nc]) R11.out.2.1⟩ (fun hHeld => ?_)
  clear hK K' hb R10
  try simp only [Act.put, List.setIfInBounds_toArray, List.set_cons_zero, List.set_cons_succ]
  refine takeL 18 (v := ?_) rfl (by kernel_rfl) (by kernel_rfl) (by kernel_rfl) (fun _ _ _ h => h) (Or.inl ⟨by rfl, ?_⟩) hHeld ?_
  rotate_left 1
  · (intro w hSw; go_simp; try with_reducible rfl)
  try simp only [Act.put, List.setIfInBounds_toArray, List.set_cons_zero, List.set_cons_succ]
  refine takeL 19 (v := ?_) rfl (by kernel_rfl) (by kernel_rfl) (by kernel_rfl) (fun _ _ _ h => h) (Or.inl ⟨by rfl, ?_⟩) hHeld ?_
  rotate_left 1
  · (intro w hSw; go_simp; try with_reducible rfl)
  try simp only [Act.put, List.setIfInBounds_toArray, List.set_cons_zero, List.set_cons_succ]
  refine takeL 20 (v := ?_) rfl (by kernel_rfl) (by kernel_rfl) (by kernel_rfl) (fun _ _ _ h => h) (Or.inl ⟨by rfl, ?_⟩) hHeld ?_
  rotate_left 1
  · (intro w hSw; go_simp; try with_reducible rfl)
  try simp only [Act.put, List.setIfInBounds_toArray, List.set_cons_zero, List.set_cons_succ]
  refine takeL 21 rfl (by kernel_rfl) (by kernel_rfl) (by kernel_rfl) (fun _ _ _ h => h) (yieldsIf_load_mid (by rfl) _ _ rfl _ _ rfl _ _ (fun w hSw => hSw.1) Try.underlying24 rfl (by kernel_rfl)) hHeld ?_
  try simp only [Act.put, List.setIfInBounds_toArray, List.set_cons_zero, List.set_cons_succ]
  refine takeL 23 rfl (by kernel_rfl) (by kernel_rfl) (by kernel_rfl) (fun _ _ _ h => h) (yieldsIf_load_mid (by rfl) _ _ rfl _ _ rfl _ _ (fun w hSw => hSw.2) Try.underlying26 rfl (by kernel_rfl)) hHeld ?_
  try simp only [Act.put, List.setIfInBounds_toArray, List.set_cons_zero, List.set_cons_succ]
  refine takeL 26 (v := ?_) rfl (by kernel_rfl) (by kernel_rfl) (by kernel_rfl) (fun _ _ _ h => h) (Or.inl ⟨by rfl, ?_⟩) hHeld ?_
  rotate_left 1
  · (intro w hSw; go_simp; try with_reducible rfl)
  try simp only [Act.put, List.setIfInBounds_toArray, List.set_cons_zero, List.set_cons_succ]
  refine takeL 27 rfl (by kernel_rfl) (by kernel_rfl) (by kernel_rfl) (fun _ _ _ h => h) (yieldsIf_load_mid (by rfl) _ _ rfl _ _ rfl _ _ (fun w hSw => hSw.1) Try.underlying24 rfl (by kernel_rfl)) hHeld ?_
  try simp only [Act.put, List.setIfInBounds_toArray, List.set_cons_zero, List.set_cons_succ]
  refine takeL 28 rfl (by kernel_rfl) (by kernel_rfl) (by kernel_rfl) (fun _ _ _ h => h) (yieldsIf_load_mid (by rfl) _ _ rfl _ _ rfl _ _ (fun w hSw => hSw.2) Try.underlying26 rfl (by kernel_rfl)) hHeld ?_
  try simp only [Act.put, List.setIfInBounds_toArray, List.set_cons_zero, List.set_cons_succ]
  refine stepL 22 (by kernel_rfl) rfl (fun K' hK => ?_)
  go_simp
  refine (HTo.out _).mono ?_
  rintro e w12 ⟨rfl, hb⟩
  show K' _ _
  have R12 : Bx (w12.heap[X]? = some (.cells #[.int .i64 i, .int .i64 r, .int .i64 x, .int .i64 q] 24 (0, 0)) ∧ w12.heap[X + 1]? = some (.cells #[.int .i64 nb, .int .i64 nc] 26 (0, 0)) ∧ Below X w w12) := Bx.mk ⟨(hb.block X (Array.getElem?_eq_some_iff.1 R11.out.1).1).trans R11.out.1, (hb.block (X + 1) (Array.getElem?_eq_some_iff.1 R11.out.2.1).1).trans R11.out.2.1, R11.out.2.2.trans (hb.mono (by have := R11.out.2.2.size; omega))⟩
  refine hK.out _ _ ⟨row_rng15 (l := [.int .i64 i, .int .i64 r, .int .i64 x, .int .i64 q]) R12.out.1, row_rng15 (l := [.int .i64 nb, .int .i64 nc]) R12.out.2.1⟩ (fun hHeld => ?_)
  clear hK K' hb R11
  try simp only [Act.put, List.setIfInBounds_toArray, List.set_cons_zero, List.set_cons_succ]
  refine stepL 24 (by kernel_rfl) rfl (fun K' hK => ?_)
  go_simp
  refine (HT12.out _).mono ?_
  rintro e w13 ⟨rfl, hb⟩
  show K' _ _
  have R13 : Bx (w13.heap[X]? = some (.cells #[.int .i64 i, .int .i64 r, .int .i64 x, .int .i64 q] 24 (0, 0)) ∧ w13.heap[X + 1]? = some (.cells #[.int .i64 nb, .int .i64 nc] 26 (0, 0)) ∧ Below X w w13) := Bx.mk ⟨(hb.block X (Array.getElem?_eq_some_iff.1 R12.out.1).1).trans R12.out.1, (hb.block (X + 1) (Array.getElem?_eq_some_iff.1 R12.out.2.1).1).trans R12.out.2.1, R12.out.2.2.trans (hb.mono (by have := R12.out.2.2.size; omega))⟩
  refine hK.out _ _ ⟨row_rng15 (l := [.int .i64 i, .int .i64 r, .int .i64 x, .int .i64 q]) R13.out.1, row_rng15 (l := [.int .i64 nb, .int .i64 nc]) R13.out.2.1⟩ (fun hHeld => ?_)
  clear hK K' hb R12
  try simp only [Act.put, List.setIfInBounds_toArray, List.set_cons_zero, List.set_cons_succ]
  refine stepL 25 (by kernel_rfl) rfl (fun K' hK => ?_)
  go_simp
  refine ((HLk.out _ R13.out.2.2).1).mono ?_
  rintro e w14 ⟨rfl, hb⟩
  show K' _ _
  have R14 : Bx (w14.heap[X]? = some (.cells #[.int .i64 i, .int .i64 r, .int .i64 x, .int .i64 q] 24 (0, 0)) ∧ w14.heap[X + 1]? = some (.cells #[.int .i64 nb, .int .i64 nc] 26 (0, 0)) ∧ Below X w w14) := Bx.mk ⟨(hb.block X (Array.getElem?_eq_some_iff.1 R13.out.1).1).trans R13.out.1, (hb.block (X + 1) (Array.getElem?_eq_some_iff.1 R13.out.2.1).1).trans R13.out.2.1, R13.out.2.2.trans (hb.mono (by have := R13.out.2.2.size; omega))⟩
  refine hK.out _ _ ⟨row_rng15 (l := [.int .i64 i, .int .i64 r, .int .i64 x, .int .i64 q]) R14.out.1, row_rng15 (l := [.int .i64 nb, .int .i64 nc]) R14.out.2.1⟩ (fun hHeld => ?_)
  clear hK K' hb R13
  try simp only [Act.put, List.setIfInBounds_toArray, List.set_cons_zero, List.set_cons_succ]
  refine stepL 29 (by kernel_rfl) rfl (fun K' hK => ?_)
  go_simp
  refine ((HLk.out _ R14.out.2.2).2).mono ?_
  rintro e w15 ⟨rfl, hb⟩
  show K' _ _
  have R15 : Bx (w15.heap[X]? = some (.cells #[.int .i64 i, .int .i64 r, .int .i64 x, .int .i64 q] 24 (0, 0)) ∧ w15.heap[X + 1]? = some (.cells #[.int .i64 nb, .int .i64 nc] 26 (0, 0)) ∧ Below X w w15) := Bx.mk ⟨(hb.block X (Array.getElem?_eq_some_iff.1 R14.out.1).1).trans R14.out.1, (hb.block (X + 1) (Array.getElem?_eq_some_iff.1 R14.out.2.1).1).trans R14.out.2.1, R14.out.2.2.trans (hb.mono (by have := R14.out.2.2.size; omega))⟩
  refine hK.out _ _ ⟨row_rng15 (l := [.int .i64 i, .int .i64 r, .int .i64 x, .int .i64 q]) R15.out.1, row_rng15 (l := [.int .i64 nb, .int .i64 nc]) R15.out.2.1⟩ (fun hHeld => ?_)
  clear hK K' hb R14
  try simp only [Act.put, List.setIfInBounds_toArray, List.set_cons_zero, List.set_cons_succ]
  refine takeL 30 (v := ?_) rfl (by kernel_rfl) (by kernel_rfl) (by kernel_rfl) (fun _ _ _ h => h) (Or.inl ⟨by rfl, ?_⟩) hHeld ?_
  rotate_left 1
  · (intro w hSw; go_simp; try with_reducible rfl)
  try simp only [Act.put, List.setIfInBounds_toArray, List.set_cons_zero, List.set_cons_succ]
  refine takeL 31 (v := ?_) rfl (by kernel_rfl) (by kernel_rfl) (by kernel_rfl) (fun _ _ _ h => h) (Or.inl ⟨by rfl, ?_⟩) hHeld ?_
  rotate_left 1
  · (intro w hSw; go_simp; try with_reducible rfl)
  try simp only [Act.put, List.setIfInBounds_toArray, List.set_cons_zero, List.set_cons_succ]
  refine takeL 32 (v := ?_) rfl (by kernel_rfl) (by kernel_rfl) (by kernel_rfl) (fun _ _ _ h => h) (Or.inl ⟨by rfl, ?_⟩) hHeld ?_
  rotate_left 1
  · (intro w hSw; go_simp; try with_reducible rfl)
  try simp only [Act.put, List.setIfInBounds_toArray, List.set_cons_zero, List.set_cons_succ]
  refine wpAnyH_done (by kernel_rfl) ?_ _
  refine NoPanic.normal ?_
  clear hHeld
  go_wp2
  go_ret
  exact ⟨rfl, R15.out.2.2⟩
set_option maxRecDepth 100000 in
set_option maxHeartbeats 4000000 in
theorem tells_known (B : Nat) (w0 : World) (n : Nat) (zs : List Zz) (mv : Value) (c : Cl) (hc : Cl64 c) (nn : Nn) (hfn : nn.fit) (w : World) (h : StL B w0 n zs mv w) (hn : n ≤ 1000) (K : Nat) (hK : K < zs.length) (hcK : (zs[K]).e.c = c) (hb : ∀ j (hj : j < zs.length), j < K → (zs[j]).e.c ≠ c) (bs : List UInt8) (hk : (zs[K]).e.k = some bs) :
    Calls Try.prog 23 #[ptr B, mv, clV c, nv nn] w fun x w' => x = .returned (.bool true) ∧ Below w.heap.size w w' := by
  have hz : zs.length ≤ 100 := by have := h.le; omega
  have HTo := Bx.mk fun W => cto_any c W
  have HT12 := Bx.mk fun W => to12_any nn W
  obtain ⟨D, hD⟩ := h.look hn c hc nn hfn
  have HLk := Bx.mk hD
  have HLn := Bx.mk fun W (hB : Below w.heap.size w W) => len_any15 B B (ens zs) W (h.book.later hB)
  rw [show (ens zs).length = zs.length by simp [ens]] at HLn
  have HKn := Bx.mk fun W (hB : Below w.heap.size w W) => known15_any B B (ens zs) W (h.book.later hB) (by simp [ens]; omega)
  have HWn := Bx.mk fun W (hB : Below w.heap.size w W) => wanted15_any B B (ens zs) W (h.book.later hB) (by simp [ens]; omega)
  rw [who_known h.srt] at HKn
  rw [who_wanted h.srt] at HWn
  have HOf := Bx.mk fun is W (hB : Below w.heap.size w W) => lof_any is B mv zs W (OwnG.later h.row hB) hz
  have HSa := Bx.mk fun va vb is W (h1 : RowC W va (ofZ is zs)) (h2 : RowC W vb (ofZ is zs)) => lsame15 va vb (ofZ is zs) W h1 h2 (Nat.le_trans (ofZ_len is zs) (by omega))
  have HKe : Bx (∀ W, Below w.heap.size w W → Calls Try.prog 26 #[ptr B, clV c] W fun x w' => ∃ v, x = .returned (.tuple #[v, .int .i64 0]) ∧ KeyO w' W.heap.size v bs ∧ Below W.heap.size W w') := Bx.mk fun W hB => by rw [← hcK]; exact key_known B B (ens zs) _ (ens_in hK) bs hk W (h.book.later hB)
  have HFi := Bx.mk fun W (hB : Below w.heap.size w W) => rfind_at B mv zs c W (OwnG.later h.row hB) (by omega) K hK hcK hb
  obtain ⟨hkb, hkl⟩ : OwnB w B (zs[K]).kv bs ∧ bs.length ≤ 1000 := by
    rcases (h.each _ (List.getElem_mem hK)).key with h1 | ⟨bs', h1, h2, h3⟩
    · rw [hk] at h1; cases h1
    · rw [hk] at h1
      injection h1 with h1
      subst h1
      exact ⟨h2, h3⟩
  have HBy := Bx.mk fun v W (hv : IsKey W v bs) => kbytes_any bs v W hv (by omega)
  have HSm : Bx (∀ v W, Below w.heap.size w W → Bytes W v bs → Calls Try.prog 46 #[v, (zs[K]).kv] W fun x w' => x = .returned (.bool true) ∧ Below W.heap.size W w') := Bx.mk fun v W hB hv => by
    refine (same_any bs bs v (zs[K]).kv W hv (hkb.bytes.later hB) (by omega) (by omega)).mono ?_
    rintro x w' ⟨rfl, m, rfl⟩
    exact ⟨by rw [decide_eq_true rfl], below_drewN (Below.refl _ _) _⟩
  obtain ⟨g, cap, hmv⟩ := OwnG.start h.row (by omega)
  subst hmv
  have HC := Bx.mk (fun W (hB : Below w.heap.size w W) => rngZ ((OwnG.later h.row hB).at_ encZ_len K hK))
  rw [hk] at HC
  generalize (zs[K]).kv = zkv at *
  obtain ⟨za, zc, hzv⟩ := own_form hkb
  obtain ⟨zl, hzl⟩ : ∃ zl, bs.length = zl := ⟨_, rfl⟩
  rw [hzl] at hzv
  subst hzv
  have hKz : (K : Int) < (zs.length : Int) := by omega
  have hK0 : (0 : Int) ≤ (K : Int) := by omega
  have hKn : ¬ (K : Int) < 0 := by omega
  obtain ⟨zn, hzn⟩ : ∃ zn, zs.length = zn := ⟨_, rfl⟩
  rw [hzn] at HLk HLn HFi HOf hKz ⊢
  clear h hD hcK hb hk hzn hz hkb hzl
  obtain ⟨i, r, x, q⟩ := c
  obtain ⟨nb, nc⟩ := nn
  unfold clV nv ptr at *
  simp only at HTo HT12 HLk HKe HFi ⊢
  obtain ⟨X, hX⟩ : ∃ X, w.heap.size = X := ⟨_, rfl⟩
  have R0 : Bx (((w.alloc (.cells #[.int .i64 i, .int .i64 r, .int .i64 x, .int .i64 q] 24)).alloc (.cells #[.int .i64 nb, .int .i64 nc] 26)).heap[X]? = some (.cells #[.int .i64 i, .int .i64 r, .int .i64 x, .int .i64 q] 24 (0, 0)) ∧ ((w.alloc (.cells #[.int .i64 i, .int .i64 r, .int .i64 x, .int .i64 q] 24)).alloc (.cells #[.int .i64 nb, .int .i64 nc] 26)).heap[X + 1]? = some (.cells #[.int .i64 nb, .int .i64 nc] 26 (0, 0)) ∧ Below X w ((w.alloc (.cells #[.int .i64 i, .int .i64 r, .int .i64 x, .int .i64 q] 24)).alloc (.cells #[.int .i64 nb, .int .i64 nc] 26))) := Bx.mk ⟨by
    rw [hold _ _ _ (by rw [World.size_alloc]; omega)]
    exact hnew _ _ _ hX.symm, hnew _ _ _ (by rw [World.size_alloc, hX]), by rw [← hX]; exact (below_a _).alloc (by rw [World.size_alloc]; omega) _⟩
  rw [hX] at HLk HLn HKn HWn HOf HKe HFi HC HSm ⊢
  have hr0 := row_rng15 (l := [.int .i64 i, .int .i64 r, .int .i64 x, .int .i64 q]) R0.out.1
  go_enter Try.func23, Try.ntmps23
  go_wp2_with (refine wpList_load_mid rfl _ _ rfl _ _ rfl _ _ hr0 Try.underlying24 rfl (by kernel_rfl) ?_)
  refine (HTo.out _).mono ?_
  rintro e w1 ⟨rfl, hb⟩
  have R1 : Bx (w1.heap[X]? = some (.cells #[.int .i64 i, .int .i64 r, .int .i64 x, .int .i64 q] 24 (0, 0)) ∧ w1.heap[X + 1]? = some (.cells #[.int .i64 nb, .int .i64 nc] 26 (0, 0)) ∧ Below X w w1) := Bx.mk ⟨(hb.block X (Array.getElem?_eq_some_iff.1 R0.out.1).1).trans R0.out.1, (hb.block (X + 1) (Array.getElem?_eq_some_iff.1 R0.out.2.1).1).trans R0.out.2.1, R0.out.2.2.trans (hb.mono (by have := R0.out.2.2.size; omega))⟩
  clear hb R0 hr0
  go_wp2_with fail
  refine (HKe.out _ R1.out.2.2).mono ?_
  rintro e w2 ⟨kv, rfl, hk, hb⟩
  have R2 : Bx (w2.heap[X]? = some (.cells #[.int .i64 i, .int .i64 r, .int .i64 x, .int .i64 q] 24 (0, 0)) ∧ w2.heap[X + 1]? = some (.cells #[.int .i64 nb, .int .i64 nc] 26 (0, 0)) ∧ Below X w w2) := Bx.mk ⟨(hb.block X (Array.getElem?_eq_some_iff.1 R1.out.1).1).trans R1.out.1, (hb.block (X + 1) (Array.getElem?_eq_some_iff.1 R1.out.2.1).1).trans R1.out.2.1, R1.out.2.2.trans (hb.mono (by have := R1.out.2.2.size; omega))⟩
  have HK := Bx.mk hk.key
  obtain ⟨kp, ks, rfl, -⟩ := hk
  clear hb R1 HKe
  have hr2 := row_rng15 (l := [.int .i64 i, .int .i64 r, .int .i64 x, .int .i64 q]) R2.out.1
  go_wp2_with (refine wpList_load_mid rfl _ _ rfl _ _ rfl _ _ hr2 Try.underlying24 rfl (by kernel_rfl) ?_)
  refine (HFi.out _ R2.out.2.2).mono ?_
  rintro e w3 ⟨rfl, hb⟩
  have R3 : Bx (w3.heap[X]? = some (.cells #[.int .i64 i, .int .i64 r, .int .i64 x, .int .i64 q] 24 (0, 0)) ∧ w3.heap[X + 1]? = some (.cells #[.int .i64 nb, .int .i64 nc] 26 (0, 0)) ∧ Below X w w3) := Bx.mk ⟨(hb.block X (Array.getElem?_eq_some_iff.1 R2.out.1).1).trans R2.out.1, (hb.block (X + 1) (Array.getElem?_eq_some_iff.1 R2.out.2.1).1).trans R2.out.2.1, R2.out.2.2.trans (hb.mono (by have := R2.out.2.2.size; omega))⟩
  have HK3 := Bx.mk (HK.out.later hb)
  clear hb R2 hr2 HFi
  obtain ⟨q4, -, q6, -⟩ := HC.out _ R3.out.2.2
  go_upto_region 9 with fail
  have R4 : Bx (w3.drew.heap[X]? = some (.cells #[.int .i64 i, .int .i64 r, .int .i64 x, .int .i64 q] 24 (0, 0)) ∧ w3.drew.heap[X + 1]? = some (.cells #[.int .i64 nb, .int .i64 nc] 26 (0, 0)) ∧ Below X w w3.drew) := Bx.mk ⟨R3.out.1, R3.out.2.1, R3.out.2.2.drew⟩
  have HK4 : Bx (IsKey w3.drew (.pointer (some ⟨kp, 0, none⟩)) bs) := Bx.mk (HK3.out.later (Below.refl _ _).drew)
  clear q4 q6 R3 HK HK3
  refine wp_region_noPanic ?_
  refine wp_region_held_drew (S := fun W => W.cell? ⟨g, K * 8 + 6, none⟩ = some (.slice za zl zc)) (by kernel_rfl) ((HC.out _ R4.out.2.2).2.2.1) (fun hHeld => ?_)
  generalize w3.drew = w4 at *
  refine takeL 0 (v := ?_) rfl (by kernel_rfl) (by kernel_rfl) (by kernel_rfl) (fun _ _ _ h => h) (Or.inl ⟨by rfl, ?_⟩) hHeld ?_
  rotate_left 1
  · (intro w hSw; go_simp; try with_reducible rfl)
  try simp only [Act.put, List.setIfInBounds_toArray, List.set_cons_zero, List.set_cons_succ]
  refine takeL 1 (v := ?_) rfl (by kernel_rfl) (by kernel_rfl) (by kernel_rfl) (fun _ _ _ h => h) (Or.inl ⟨by rfl, ?_⟩) hHeld ?_
  rotate_left 1
  · (intro w hSw; go_simp; try with_reducible rfl)
  try simp only [Act.put, List.setIfInBounds_toArray, List.set_cons_zero, List.set_cons_succ]
  refine takeL 2 (v := ?_) rfl (by kernel_rfl) (by kernel_rfl) (by kernel_rfl) (fun _ _ _ h => h) (Or.inl ⟨by rfl, ?_⟩) hHeld ?_
  rotate_left 1
  · (intro w hSw; go_simp; try with_reducible rfl)
  try simp only [Act.put, List.setIfInBounds_toArray, List.set_cons_zero, List.set_cons_succ]
  refine takeL 3 (v := ?_) rfl (by kernel_rfl) (by kernel_rfl) (by kernel_rfl) (fun _ _ _ h => h) (Or.inl ⟨by rfl, ?_⟩) hHeld ?_
  rotate_left 1
  · (intro w hSw; go_simp; try with_reducible rfl)
  try simp only [Act.put, List.setIfInBounds_toArray, List.set_cons_zero, List.set_cons_succ]
  refine takeL 5 (v := ?_) rfl (by kernel_rfl) (by kernel_rfl) (by kernel_rfl) (fun _ _ _ h => h) (Or.inl ⟨by rfl, ?_⟩) hHeld ?_
  rotate_left 1
  · (intro w hSw; go_simp; try with_reducible rfl)
  try simp only [Act.put, List.setIfInBounds_toArray, List.set_cons_zero, List.set_cons_succ]
  refine takeL 6 (v := ?_) rfl (by kernel_rfl) (by kernel_rfl) (by kernel_rfl) (fun _ _ _ h => h) (Or.inl ⟨by rfl, ?_⟩) hHeld ?_
  rotate_left 1
  · (intro w hSw; go_simp; try with_reducible rfl)
  try simp only [Act.put, List.setIfInBounds_toArray, List.set_cons_zero, List.set_cons_succ]
  refine takeL 7 (v := ?_) rfl (by kernel_rfl) (by kernel_rfl) (by kernel_rfl) (fun _ _ _ h => h) (Or.inl ⟨by rfl, ?_⟩) hHeld ?_
  rotate_left 1
  · (intro w hSw; go_simp; try with_reducible rfl)
  try simp only [Act.put, List.setIfInBounds_toArray, List.set_cons_zero, List.set_cons_succ]
  refine takeL 8 (v := ?_) rfl (by kernel_rfl) (by kernel_rfl) (by kernel_rfl) (fun _ _ _ h => h) (Or.inl ⟨by rfl, ?_⟩) hHeld ?_
  rotate_left 1
  · (intro w hSw; go_simp; try with_reducible rfl)
  try simp only [Act.put, List.setIfInBounds_toArray, List.set_cons_zero, List.set_cons_succ]
  refine takeL 9 (v := ?_) rfl (by kernel_rfl) (by kernel_rfl) (by kernel_rfl) (fun _ _ _ h => h) (Or.inl ⟨by rfl, ?_⟩) hHeld ?_
  rotate_left 1
  · (intro w hSw; have h1 : w.cell? ⟨g, K * 8 + 6, none⟩ = some (.slice za zl zc) := hSw; go_simp; try with_reducible rfl)
  try simp only [Act.put, List.setIfInBounds_toArray, List.set_cons_zero, List.set_cons_succ]
  refine stepL 4 (by kernel_rfl) rfl (fun K' hK => ?_)
  go_simp
  refine (HBy.out _ _ HK4.out).mono ?_
  rintro e w5 ⟨bv, rfl, ho, hb⟩
  show K' _ _
  have R5 : Bx (w5.heap[X]? = some (.cells #[.int .i64 i, .int .i64 r, .int .i64 x, .int .i64 q] 24 (0, 0)) ∧ w5.heap[X + 1]? = some (.cells #[.int .i64 nb, .int .i64 nc] 26 (0, 0)) ∧ Below X w w5) := Bx.mk ⟨(hb.block X (Array.getElem?_eq_some_iff.1 R4.out.1).1).trans R4.out.1, (hb.block (X + 1) (Array.getElem?_eq_some_iff.1 R4.out.2.1).1).trans R4.out.2.1, R4.out.2.2.trans (hb.mono (by have := R4.out.2.2.size; omega))⟩
  have HBv := Bx.mk ho.bytes
  obtain ⟨ba, bc, hbv⟩ := own_form ho
  subst hbv
  refine hK.out _ _ (HC.out _ R5.out.2.2).2.2.1 (fun hHeld => ?_)
  clear hK K' hb R4
  try simp only [Act.put, List.setIfInBounds_toArray, List.set_cons_zero, List.set_cons_succ]
  refine stepL 10 (by kernel_rfl) rfl (fun K' hK => ?_)
  go_simp
  refine (HSm.out _ _ R5.out.2.2 HBv.out).mono ?_
  rintro e w6 ⟨rfl, hb⟩
  show K' _ _
  have R6 : Bx (w6.heap[X]? = some (.cells #[.int .i64 i, .int .i64 r, .int .i64 x, .int .i64 q] 24 (0, 0)) ∧ w6.heap[X + 1]? = some (.cells #[.int .i64 nb, .int .i64 nc] 26 (0, 0)) ∧ Below X w w6) := Bx.mk ⟨(hb.block X (Array.getElem?_eq_some_iff.1 R5.out.1).1).trans R5.out.1, (hb.block (X + 1) (Array.getElem?_eq_some_iff.1 R5.out.2.1).1).trans R5.out.2.1, R5.out.2.2.trans (hb.mono (by have := R5.out.2.2.size; omega))⟩
  refine hK.out _ _ (HC.out _ R6.out.2.2).2.2.1 (fun hHeld => ?_)
  clear hK K' hb R5
  try simp only [Act.put, List.setIfInBounds_toArray, List.set_cons_zero, List.set_cons_succ]
  refine takeL 11 (v := ?_) rfl (by kernel_rfl) (by kernel_rfl) (by kernel_rfl) (fun _ _ _ h => h) (Or.inl ⟨by rfl, ?_⟩) hHeld ?_
  rotate_left 1
  · (intro w hSw; go_simp; try with_reducible rfl)
  try simp only [Act.put, List.setIfInBounds_toArray, List.set_cons_zero, List.set_cons_succ]
  refine takeL 12 (v := ?_) rfl (by kernel_rfl) (by kernel_rfl) (by kernel_rfl) (fun _ _ _ h => h) (Or.inl ⟨by rfl, ?_⟩) hHeld ?_
  rotate_left 1
  · (intro w hSw; go_simp; try with_reducible rfl)
  try simp only [Act.put, List.setIfInBounds_toArray, List.set_cons_zero, List.set_cons_succ]
  refine takeL 13 (v := ?_) rfl (by kernel_rfl) (by kernel_rfl) (by kernel_rfl) (fun _ _ _ h => h) (Or.inl ⟨by rfl, ?_⟩) hHeld ?_
  rotate_left 1
  · (intro w hSw; go_simp; try with_reducible rfl)
  try simp only [Act.put, List.setIfInBounds_toArray, List.set_cons_zero, List.set_cons_succ]
  refine wpAnyH_done (by kernel_rfl) ?_ _
  refine NoPanic.normal ?_
  clear hHeld
  go_upto_region 11 with fail
  have R7 : Bx (w6.drew.heap[X]? = some (.cells #[.int .i64 i, .int .i64 r, .int .i64 x, .int .i64 q] 24 (0, 0)) ∧ w6.drew.heap[X + 1]? = some (.cells #[.int .i64 nb, .int .i64 nc] 26 (0, 0)) ∧ Below X w w6.drew) := Bx.mk ⟨R6.out.1, R6.out.2.1, R6.out.2.2.drew⟩
  clear R6
  refine wp_region_noPanic ?_
  refine wp_region_held_drew (S := fun W => W.rangeAt X 0 [.int .i64 i, .int .i64 r, .int .i64 x, .int .i64 q] ∧ W.rangeAt (X + 1) 0 [.int .i64 nb, .int .i64 nc]) (by kernel_rfl) (⟨row_rng15 (l := [.int .i64 i, .int .i64 r, .int .i64 x, .int .i64 q]) R7.out.1, row_rng15 (l := [.int .i64 nb, .int .i64 nc]) R7.out.2.1⟩) (fun hHeld => ?_)
  generalize w6.drew = w7 at *
  refine takeL 0 (v := ?_) rfl (by kernel_rfl) (by kernel_rfl) (by kernel_rfl) (fun _ _ _ h => h) (Or.inl ⟨by rfl, ?_⟩) hHeld ?_
  rotate_left 1
  · (intro w hSw; go_simp; try with_reducible rfl)
  try simp only [Act.put, List.setIfInBounds_toArray, List.set_cons_zero, List.set_cons_succ]
  refine takeL 2 (v := ?_) rfl (by kernel_rfl) (by kernel_rfl) (by kernel_rfl) (fun _ _ _ h => h) (Or.inl ⟨by rfl, ?_⟩) hHeld ?_
  rotate_left 1
  · (intro w hSw; go_simp; try with_reducible rfl)
  try simp only [Act.put, List.setIfInBounds_toArray, List.set_cons_zero, List.set_cons_succ]
  refine takeL 3 (v := ?_) rfl (by kernel_rfl) (by kernel_rfl) (by kernel_rfl) (fun _ _ _ h => h) (Or.inl ⟨by rfl, ?_⟩) hHeld ?_
  rotate_left 1
  · (intro w hSw; go_simp; try with_reducible rfl)
  try simp only [Act.put, List.setIfInBounds_toArray, List.set_cons_zero, List.set_cons_succ]
  refine stepL 1 (by kernel_rfl) rfl (fun K' hK => ?_)
  go_simp
  refine (HLn.out _ R7.out.2.2).mono ?_
  rintro e w8 ⟨rfl, hw⟩
  show K' _ _
  have hb : Below w7.heap.size w7 w8 := by rw [hw]; exact Below.refl _ _
  have R8 : Bx (w8.heap[X]? = some (.cells #[.int .i64 i, .int .i64 r, .int .i64 x, .int .i64 q] 24 (0, 0)) ∧ w8.heap[X + 1]? = some (.cells #[.int .i64 nb, .int .i64 nc] 26 (0, 0)) ∧ Below X w w8) := Bx.mk ⟨(hb.block X (Array.getElem?_eq_some_iff.1 R7.out.1).1).trans R7.out.1, (hb.block (X + 1) (Array.getElem?_eq_some_iff.1 R7.out.2.1).1).trans R7.out.2.1, R7.out.2.2.trans (hb.mono (by have := R7.out.2.2.size; omega))⟩
  refine hK.out _ _ ⟨row_rng15 (l := [.int .i64 i, .int .i64 r, .int .i64 x, .int .i64 q]) R8.out.1, row_rng15 (l := [.int .i64 nb, .int .i64 nc]) R8.out.2.1⟩ (fun hHeld => ?_)
  clear hK K' hb R7 hw
  try simp only [Act.put, List.setIfInBounds_toArray, List.set_cons_zero, List.set_cons_succ]
  refine takeL 4 (v := ?_) rfl (by kernel_rfl) (by kernel_rfl) (by kernel_rfl) (fun _ _ _ h => h) (Or.inl ⟨by rfl, ?_⟩) hHeld ?_
  rotate_left 1
  · (intro w hSw; go_simp; try with_reducible rfl)
  try simp only [Act.put, List.setIfInBounds_toArray, List.set_cons_zero, List.set_cons_succ]
  refine takeL 5 (v := ?_) rfl (by kernel_rfl) (by kernel_rfl) (by kernel_rfl) (fun _ _ _ h => h) (Or.inl ⟨by rfl, ?_⟩) hHeld ?_
  rotate_left 1
  · (intro w hSw; go_simp; try with_reducible rfl)
  try simp only [Act.put, List.setIfInBounds_toArray, List.set_cons_zero, List.set_cons_succ]
  refine takeL 6 (v := ?_) rfl (by kernel_rfl) (by kernel_rfl) (by kernel_rfl) (fun _ _ _ h => h) (Or.inl ⟨by rfl, ?_⟩) hHeld ?_
  rotate_left 1
  · (intro w hSw; go_simp; try with_reducible rfl)
  try simp only [Act.put, List.setIfInBounds_toArray, List.set_cons_zero, List.set_cons_succ]
  refine takeL 8 (v := ?_) rfl (by kernel_rfl) (by kernel_rfl) (by kernel_rfl) (fun _ _ _ h => h) (Or.inl ⟨by rfl, ?_⟩) hHeld ?_
  rotate_left 1
  · (intro w hSw; go_simp; try with_reducible rfl)
  try simp only [Act.put, List.setIfInBounds_toArray, List.set_cons_zero, List.set_cons_succ]
  refine stepL 7 (by kernel_rfl) rfl (fun K' hK => ?_)
  go_simp
  refine (HKn.out _ R8.out.2.2).mono ?_
  rintro e w9 ⟨va, rfl, ha, hb⟩
  show K' _ _
  have HVa := Bx.mk ha.1
  obtain ⟨aa, ac, hva⟩ := ha.1.form
  subst hva
  have R9 : Bx (w9.heap[X]? = some (.cells #[.int .i64 i, .int .i64 r, .int .i64 x, .int .i64 q] 24 (0, 0)) ∧ w9.heap[X + 1]? = some (.cells #[.int .i64 nb, .int .i64 nc] 26 (0, 0)) ∧ Below X w w9) := Bx.mk ⟨(hb.block X (Array.getElem?_eq_some_iff.1 R8.out.1).1).trans R8.out.1, (hb.block (X + 1) (Array.getElem?_eq_some_iff.1 R8.out.2.1).1).trans R8.out.2.1, R8.out.2.2.trans (hb.mono (by have := R8.out.2.2.size; omega))⟩
  refine hK.out _ _ ⟨row_rng15 (l := [.int .i64 i, .int .i64 r, .int .i64 x, .int .i64 q]) R9.out.1, row_rng15 (l := [.int .i64 nb, .int .i64 nc]) R9.out.2.1⟩ (fun hHeld => ?_)
  clear hK K' hb R8
  try simp only [Act.put, List.setIfInBounds_toArray, List.set_cons_zero, List.set_cons_succ]
  refine stepL 9 (by kernel_rfl) rfl (fun K' hK => ?_)
  go_simp
  refine (HOf.out _ _ R9.out.2.2).mono ?_
  rintro e w10 ⟨vb, rfl, ha, hb⟩
  show K' _ _
  have HVb := Bx.mk ha.rowT
  have HVa2 := Bx.mk (HVa.out.later hb)
  obtain ⟨ba', bc', hvb⟩ := ha.rowT.form
  subst hvb
  have R10 : Bx (w10.heap[X]? = some (.cells #[.int .i64 i, .int .i64 r, .int .i64 x, .int .i64 q] 24 (0, 0)) ∧ w10.heap[X + 1]? = some (.cells #[.int .i64 nb, .int .i64 nc] 26 (0, 0)) ∧ Below X w w10) := Bx.mk ⟨(hb.block X (Array.getElem?_eq_some_iff.1 R9.out.1).1).trans R9.out.1, (hb.block (X + 1) (Array.getElem?_eq_some_iff.1 R9.out.2.1).1).trans R9.out.2.1, R9.out.2.2.trans (hb.mono (by have := R9.out.2.2.size; omega))⟩
  refine hK.out _ _ ⟨row_rng15 (l := [.int .i64 i, .int .i64 r, .int .i64 x, .int .i64 q]) R10.out.1, row_rng15 (l := [.int .i64 nb, .int .i64 nc]) R10.out.2.1⟩ (fun hHeld => ?_)
  clear hK K' hb R9
  try simp only [Act.put, List.setIfInBounds_toArray, List.set_cons_zero, List.set_cons_succ]
  refine stepL 10 (by kernel_rfl) rfl (fun K' hK => ?_)
  go_simp
  refine (HSa.out _ _ _ _ HVa2.out HVb.out).mono ?_
  rintro e w11 ⟨rfl, hb⟩
  show K' _ _
  clear HVa HVa2 HVb
  have R11 : Bx (w11.heap[X]? = some (.cells #[.int .i64 i, .int .i64 r, .int .i64 x, .int .i64 q] 24 (0, 0)) ∧ w11.heap[X + 1]? = some (.cells #[.int .i64 nb, .int .i64 nc] 26 (0, 0)) ∧ Below X w w11) := Bx.mk ⟨(hb.block X (Array.getElem?_eq_some_iff.1 R10.out.1).1).trans R10.out.1, (hb.block (X + 1) (Array.getElem?_eq_some_iff.1 R10.out.2.1).1).trans R10.out.2.1, R10.out.2.2.trans (hb.mono (by have := R10.out.2.2.size; omega))⟩
  refine hK.out _ _ ⟨row_rng15 (l := [.int .i64 i, .int .i64 r, .int .i64 x, .int .i64 q]) R11.out.1, row_rng15 (l := [.int .i64 nb, .int .i64 nc]) R11.out.2.1⟩ (fun hHeld => ?_)
  clear hK K' hb R10
  try simp only [Act.put, List.setIfInBounds_toArray, List.set_cons_zero, List.set_cons_succ]
  refine takeL 11 (v := ?_) rfl (by kernel_rfl) (by kernel_rfl) (by kernel_rfl) (fun _ _ _ h => h) (Or.inl ⟨by rfl, ?_⟩) hHeld ?_
  rotate_left 1
  · (intro w hSw; go_simp; try with_reducible rfl)
  try simp only [Act.put, List.setIfInBounds_toArray, List.set_cons_zero, List.set_cons_succ]
  refine takeL 12 (v := ?_) rfl (by kernel_rfl) (by kernel_rfl) (by kernel_rfl) (fun _ _ _ h => h) (Or.inl ⟨by rfl, ?_⟩) hHeld ?_
  rotate_left 1
  · (intro w hSw; go_simp; try with_reducible rfl)
  try simp only [Act.put, List.setIfInBounds_toArray, List.set_cons_zero, List.set_cons_succ]
  refine takeL 13 (v := ?_) rfl (by kernel_rfl) (by kernel_rfl) (by kernel_rfl) (fun _ _ _ h => h) (Or.inl ⟨by rfl, ?_⟩) hHeld ?_
  rotate_left 1
  · (intro w hSw; go_simp; try with_reducible rfl)
  try simp only [Act.put, List.setIfInBounds_toArray, List.set_cons_zero, List.set_cons_succ]
  refine takeL 15 (v := ?_) rfl (by kernel_rfl) (by kernel_rfl) (by kernel_rfl) (fun _ _ _ h => h) (Or.inl ⟨by rfl, ?_⟩) hHeld ?_
  rotate_left 1
  · (intro w hSw; go_simp; try with_reducible rfl)
  try simp only [Act.put, List.setIfInBounds_toArray, List.set_cons_zero, List.set_cons_succ]
  refine stepL 14 (by kernel_rfl) rfl (fun K' hK => ?_)
  go_simp
  refine (HWn.out _ R11.out.2.2).mono ?_
  rintro e w12 ⟨va, rfl, ha, hb⟩
  show K' _ _
  have HVa := Bx.mk ha.1
  obtain ⟨aa, ac, hva⟩ := ha.1.form
  subst hva
  have R12 : Bx (w12.heap[X]? = some (.cells #[.int .i64 i, .int .i64 r, .int .i64 x, .int .i64 q] 24 (0, 0)) ∧ w12.heap[X + 1]? = some (.cells #[.int .i64 nb, .int .i64 nc] 26 (0, 0)) ∧ Below X w w12) := Bx.mk ⟨(hb.block X (Array.getElem?_eq_some_iff.1 R11.out.1).1).trans R11.out.1, (hb.block (X + 1) (Array.getElem?_eq_some_iff.1 R11.out.2.1).1).trans R11.out.2.1, R11.out.2.2.trans (hb.mono (by have := R11.out.2.2.size; omega))⟩
  refine hK.out _ _ ⟨row_rng15 (l := [.int .i64 i, .int .i64 r, .int .i64 x, .int .i64 q]) R12.out.1, row_rng15 (l := [.int .i64 nb, .int .i64 nc]) R12.out.2.1⟩ (fun hHeld => ?_)
  clear hK K' hb R11
  try simp only [Act.put, List.setIfInBounds_toArray, List.set_cons_zero, List.set_cons_succ]
  refine stepL 16 (by kernel_rfl) rfl (fun K' hK => ?_)
  go_simp
  refine (HOf.out _ _ R12.out.2.2).mono ?_
  rintro e w13 ⟨vb, rfl, ha, hb⟩
  show K' _ _
  have HVb := Bx.mk ha.rowT
  have HVa2 := Bx.mk (HVa.out.later hb)
  obtain ⟨ba', bc', hvb⟩ := ha.rowT.form
  subst hvb
  have R13 : Bx (w13.heap[X]? = some (.cells #[.int .i64 i, .int .i64 r, .int .i64 x, .int .i64 q] 24 (0, 0)) ∧ w13.heap[X + 1]? = some (.cells #[.int .i64 nb, .int .i64 nc] 26 (0, 0)) ∧ Below X w w13) := Bx.mk ⟨(hb.block X (Array.getElem?_eq_some_iff.1 R12.out.1).1).trans R12.out.1, (hb.block (X + 1) (Array.getElem?_eq_some_iff.1 R12.out.2.1).1).trans R12.out.2.1, R12.out.2.2.trans (hb.mono (by have := R12.out.2.2.size; omega))⟩
  refine hK.out _ _ ⟨row_rng15 (l := [.int .i64 i, .int .i64 r, .int .i64 x, .int .i64 q]) R13.out.1, row_rng15 (l := [.int .i64 nb, .int .i64 nc]) R13.out.2.1⟩ (fun hHeld => ?_)
  clear hK K' hb R12
  try simp only [Act.put, List.setIfInBounds_toArray, List.set_cons_zero, List.set_cons_succ]
  refine stepL 17 (by kernel_rfl) rfl (fun K' hK => ?_)
  go_simp
  refine (HSa.out _ _ _ _ HVa2.out HVb.out).mono ?_
  rintro e w14 ⟨rfl, hb⟩
  show K' _ _
  clear HVa HVa2 HVb
  have R14 : Bx (w14.heap[X]? = some (.cells #[.int .i64 i, .int .i64 r, .int .i64 x, .int .i64 q] 24 (0, 0)) ∧ w14.heap[X + 1]? = some (.cells #[.int .i64 nb, .int .i64 nc] 26 (0, 0)) ∧ Below X w w14) := Bx.mk ⟨(hb.block X (Array.getElem?_eq_some_iff.1 R13.out.1).1).trans R13.out.1, (hb.block (X + 1) (Array.getElem?_eq_some_iff.1 R13.out.2.1).1).trans R13.out.2.1, R13.out.2.2.trans (hb.mono (by have := R13.out.2.2.size; omega))⟩
  refine hK.out _ _ ⟨row_rng15 (l := [.int .i64 i, .int .i64 r, .int .i64 x, .int .i64 q]) R14.out.1, row_rng15 (l := [.int .i64 nb, .int .i64 nc]) R14.out.2.1⟩ (fun hHeld => ?_)
  clear hK K' hb R13
  try simp only [Act.put, List.setIfInBounds_toArray, List.set_cons_zero, List.set_cons_succ]
  refine takeL 18 (v := ?_) rfl (by kernel_rfl) (by kernel_rfl) (by kernel_rfl) (fun _ _ _ h => h) (Or.inl ⟨by rfl, ?_⟩) hHeld ?_
  rotate_left 1
  · (intro w hSw; go_simp; try with_reducible rfl)
  try simp only [Act.put, List.setIfInBounds_toArray, List.set_cons_zero, List.set_cons_succ]
  refine takeL 19 (v := ?_) rfl (by kernel_rfl) (by kernel_rfl) (by kernel_rfl) (fun _ _ _ h => h) (Or.inl ⟨by rfl, ?_⟩) hHeld ?_
  rotate_left 1
  · (intro w hSw; go_simp; try with_reducible rfl)
  try simp only [Act.put, List.setIfInBounds_toArray, List.set_cons_zero, List.set_cons_succ]
  refine takeL 20 (v := ?_) rfl (by kernel_rfl) (by kernel_rfl) (by kernel_rfl) (fun _ _ _ h => h) (Or.inl ⟨by rfl, ?_⟩) hHeld ?_
  rotate_left 1
  · (intro w hSw; go_simp; try with_reducible rfl)
  try simp only [Act.put, List.setIfInBounds_toArray, List.set_cons_zero, List.set_cons_succ]
  refine takeL 21 rfl (by kernel_rfl) (by kernel_rfl) (by kernel_rfl) (fun _ _ _ h => h) (yieldsIf_load_mid (by rfl) _ _ rfl _ _ rfl _ _ (fun w hSw => hSw.1) Try.underlying24 rfl (by kernel_rfl)) hHeld ?_
  try simp only [Act.put, List.setIfInBounds_toArray, List.set_cons_zero, List.set_cons_succ]
  refine takeL 23 rfl (by kernel_rfl) (by kernel_rfl) (by kernel_rfl) (fun _ _ _ h => h) (yieldsIf_load_mid (by rfl) _ _ rfl _ _ rfl _ _ (fun w hSw => hSw.2) Try.underlying26 rfl (by kernel_rfl)) hHeld ?_
  try simp only [Act.put, List.setIfInBounds_toArray, List.set_cons_zero, List.set_cons_succ]
  refine takeL 26 (v := ?_) rfl (by kernel_rfl) (by kernel_rfl) (by kernel_rfl) (fun _ _ _ h => h) (Or.inl ⟨by rfl, ?_⟩) hHeld ?_
  rotate_left 1
  · (intro w hSw; go_simp; try with_reducible rfl)
  try simp only [Act.put, List.setIfInBounds_toArray, List.set_cons_zero, List.set_cons_succ]
  refine takeL 27 rfl (by kernel_rfl) (by kernel_rfl) (by kernel_rfl) (fun _ _ _ h => h) (yieldsIf_load_mid (by rfl) _ _ rfl _ _ rfl _ _ (fun w hSw => hSw.1) Try.underlying24 rfl (by kernel_rfl)) hHeld ?_
  try simp only [Act.put, List.setIfInBounds_toArray, List.set_cons_zero, List.set_cons_succ]
  refine takeL 28 rfl (by kernel_rfl) (by kernel_rfl) (by kernel_rfl) (fun _ _ _ h => h) (yieldsIf_load_mid (by rfl) _ _ rfl _ _ rfl _ _ (fun w hSw => hSw.2) Try.underlying26 rfl (by kernel_rfl)) hHeld ?_
  try simp only [Act.put, List.setIfInBounds_toArray, List.set_cons_zero, List.set_cons_succ]
  refine stepL 22 (by kernel_rfl) rfl (fun K' hK => ?_)
  go_simp
  refine (HTo.out _).mono ?_
  rintro e w15 ⟨rfl, hb⟩
  show K' _ _
  have R15 : Bx (w15.heap[X]? = some (.cells #[.int .i64 i, .int .i64 r, .int .i64 x, .int .i64 q] 24 (0, 0)) ∧ w15.heap[X + 1]? = some (.cells #[.int .i64 nb, .int .i64 nc] 26 (0, 0)) ∧ Below X w w15) := Bx.mk ⟨(hb.block X (Array.getElem?_eq_some_iff.1 R14.out.1).1).trans R14.out.1, (hb.block (X + 1) (Array.getElem?_eq_some_iff.1 R14.out.2.1).1).trans R14.out.2.1, R14.out.2.2.trans (hb.mono (by have := R14.out.2.2.size; omega))⟩
  refine hK.out _ _ ⟨row_rng15 (l := [.int .i64 i, .int .i64 r, .int .i64 x, .int .i64 q]) R15.out.1, row_rng15 (l := [.int .i64 nb, .int .i64 nc]) R15.out.2.1⟩ (fun hHeld => ?_)
  clear hK K' hb R14
  try simp only [Act.put, List.setIfInBounds_toArray, List.set_cons_zero, List.set_cons_succ]
  refine stepL 24 (by kernel_rfl) rfl (fun K' hK => ?_)
  go_simp
  refine (HT12.out _).mono ?_
  rintro e w16 ⟨rfl, hb⟩
  show K' _ _
  have R16 : Bx (w16.heap[X]? = some (.cells #[.int .i64 i, .int .i64 r, .int .i64 x, .int .i64 q] 24 (0, 0)) ∧ w16.heap[X + 1]? = some (.cells #[.int .i64 nb, .int .i64 nc] 26 (0, 0)) ∧ Below X w w16) := Bx.mk ⟨(hb.block X (Array.getElem?_eq_some_iff.1 R15.out.1).1).trans R15.out.1, (hb.block (X + 1) (Array.getElem?_eq_some_iff.1 R15.out.2.1).1).trans R15.out.2.1, R15.out.2.2.trans (hb.mono (by have := R15.out.2.2.size; omega))⟩
  refine hK.out _ _ ⟨row_rng15 (l := [.int .i64 i, .int .i64 r, .int .i64 x, .int .i64 q]) R16.out.1, row_rng15 (l := [.int .i64 nb, .int .i64 nc]) R16.out.2.1⟩ (fun hHeld => ?_)
  clear hK K' hb R15
  try simp only [Act.put, List.setIfInBounds_toArray, List.set_cons_zero, List.set_cons_succ]
  refine stepL 25 (by kernel_rfl) rfl (fun K' hK => ?_)
  go_simp
  refine ((HLk.out _ R16.out.2.2).1).mono ?_
  rintro e w17 ⟨rfl, hb⟩
  show K' _ _
  have R17 : Bx (w17.heap[X]? = some (.cells #[.int .i64 i, .int .i64 r, .int .i64 x, .int .i64 q] 24 (0, 0)) ∧ w17.heap[X + 1]? = some (.cells #[.int .i64 nb, .int .i64 nc] 26 (0, 0)) ∧ Below X w w17) := Bx.mk ⟨(hb.block X (Array.getElem?_eq_some_iff.1 R16.out.1).1).trans R16.out.1, (hb.block (X + 1) (Array.getElem?_eq_some_iff.1 R16.out.2.1).1).trans R16.out.2.1, R16.out.2.2.trans (hb.mono (by have := R16.out.2.2.size; omega))⟩
  refine hK.out _ _ ⟨row_rng15 (l := [.int .i64 i, .int .i64 r, .int .i64 x, .int .i64 q]) R17.out.1, row_rng15 (l := [.int .i64 nb, .int .i64 nc]) R17.out.2.1⟩ (fun hHeld => ?_)
  clear hK K' hb R16
  try simp only [Act.put, List.setIfInBounds_toArray, List.set_cons_zero, List.set_cons_succ]
  refine stepL 29 (by kernel_rfl) rfl (fun K' hK => ?_)
  go_simp
  refine ((HLk.out _ R17.out.2.2).2).mono ?_
  rintro e w18 ⟨rfl, hb⟩
  show K' _ _
  have R18 : Bx (w18.heap[X]? = some (.cells #[.int .i64 i, .int .i64 r, .int .i64 x, .int .i64 q] 24 (0, 0)) ∧ w18.heap[X + 1]? = some (.cells #[.int .i64 nb, .int .i64 nc] 26 (0, 0)) ∧ Below X w w18) := Bx.mk ⟨(hb.block X (Array.getElem?_eq_some_iff.1 R17.out.1).1).trans R17.out.1, (hb.block (X + 1) (Array.getElem?_eq_some_iff.1 R17.out.2.1).1).trans R17.out.2.1, R17.out.2.2.trans (hb.mono (by have := R17.out.2.2.size; omega))⟩
  refine hK.out _ _ ⟨row_rng15 (l := [.int .i64 i, .int .i64 r, .int .i64 x, .int .i64 q]) R18.out.1, row_rng15 (l := [.int .i64 nb, .int .i64 nc]) R18.out.2.1⟩ (fun hHeld => ?_)
  clear hK K' hb R17
  try simp only [Act.put, List.setIfInBounds_toArray, List.set_cons_zero, List.set_cons_succ]
  refine takeL 30 (v := ?_) rfl (by kernel_rfl) (by kernel_rfl) (by kernel_rfl) (fun _ _ _ h => h) (Or.inl ⟨by rfl, ?_⟩) hHeld ?_
  rotate_left 1
  · (intro w hSw; go_simp; try with_reducible rfl)
  try simp only [Act.put, List.setIfInBounds_toArray, List.set_cons_zero, List.set_cons_succ]
  refine takeL 31 (v := ?_) rfl (by kernel_rfl) (by kernel_rfl) (by kernel_rfl) (fun _ _ _ h => h) (Or.inl ⟨by rfl, ?_⟩) hHeld ?_
  rotate_left 1
  · (intro w hSw; go_simp; try with_reducible rfl)
  try simp only [Act.put, List.setIfInBounds_toArray, List.set_cons_zero, List.set_cons_succ]
  refine takeL 32 (v := ?_) rfl (by kernel_rfl) (by kernel_rfl) (by kernel_rfl) (fun _ _ _ h => h) (Or.inl ⟨by rfl, ?_⟩) hHeld ?_
  rotate_left 1
  · (intro w hSw; go_simp; try with_reducible rfl)
  try simp only [Act.put, List.setIfInBounds_toArray, List.set_cons_zero, List.set_cons_succ]
  refine wpAnyH_done (by kernel_rfl) ?_ _
  refine NoPanic.normal ?_
  clear hHeld
  go_wp2
  go_ret
  exact ⟨rfl, R18.out.2.2⟩
theorem tells_any (B : Nat) (w0 : World) (n : Nat) (zs : List Zz) (mv : Value) (c : Cl) (hc : Cl64 c) (nn : Nn) (hfn : nn.fit) (w : World) (h : StL B w0 n zs mv w) (hn : n ≤ 1000) :
    Calls Try.prog 23 #[ptr B, mv, clV c, nv nn] w fun x w' => x = .returned (.bool true) ∧ Below w.heap.size w w' := by
  rcases h.cases c with hn0 | ⟨K, hK, hcK, hb⟩
  · exact tells_out B w0 n zs mv c hc nn hfn w h hn hn0
  · cases hk : (zs[K]).e.k with
    | none => exact tells_wanted B w0 n zs mv c hc nn hfn w h hn K hK hcK hb hk
    | some bs => exact tells_known B w0 n zs mv c hc nn hfn w h hn K hK hcK hb bs hk
end Go.Proofs.Ytdbdpehagkglfaa
