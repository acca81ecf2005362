/-
  CacheNil: the walk.
-/
import Derived.Test.YtdbdpehagkglfaaH22
import Derived.Test.YtdbdpehagkglfaaH7
import Derived.Test.YtdbdpehagkglfaaCb
namespace Go.Proofs.Ytdbdpehagkglfaa
open Go Go.RowKit
set_option maxRecDepth 100000 in
set_option maxHeartbeats 4000000 in
theorem nil_walk (c : Cl) (n : Nn) (tk : Int) (w : World) : Calls Try.prog 5 #[clV c, nv n, .int .i64 tk] w fun x w' => x = .returned (.bool true) ∧ Below w.heap.size w w' := by
  have HTo := Bx.mk fun W => cto_any c W
  have HNt := Bx.mk fun W => to12_any n W
  have HFi : Bx (∀ W0 : World, ∀ W, Below W0.heap.size W0 W → Calls Try.prog 42 #[.pointer none, clV c] W fun x w' => x = .returned (.tuple #[.pointer none, .int .i64 11]) ∧ Below W.heap.size W w') := Bx.mk fun W0 W _ => find_nil15 c W
  have HKe := Bx.mk fun W => key_err (.pointer none) c 11 (by decide) W (HFi.out W)
  have HKn := Bx.mk known15_ex
  have HWa := Bx.mk fun W => want_nil15 c tk W
  have HDu := Bx.mk fun W => due_nil15 tk W
  have HMn := Bx.mk fun W => new_any [] (.slice none 0 0) W (Bytes.nil W) (by simp)
  have HPu := Bx.mk fun v W => put_nil15 c v W
  have HLo := Bx.mk fun W => look_err15 (.pointer none) c n 11 (by decide) W (HFi.out W)
  have HTa := Bx.mk fun W => take_err15 (.pointer none) c ⟨0, 0⟩ 11 (by decide) W (HFi.out W)
  have HDr := Bx.mk fun v W => drop_nil15 v W
  have HOn := Bx.mk fun a n cap W => only_nil15 a n cap W
  have HK := Bx.mk fun W => known15_nil W
  have HW := Bx.mk fun W => wanted15_nil W
  have HL := Bx.mk fun W => len_nil15 W
  clear HFi
  obtain ⟨i, r, x, q⟩ := c
  obtain ⟨nb, nc⟩ := n
  unfold clV nv at *
  simp only at HTo HNt HKe HWa HPu HLo HTa ⊢
  obtain ⟨E, hE⟩ : ∃ E, w.heap.size = E := ⟨_, rfl⟩
  rw [hE]
  have H0 : Bx (((w.alloc (.cells #[.int .i64 i, .int .i64 r, .int .i64 x, .int .i64 q] 24)).alloc (.cells #[.int .i64 nb, .int .i64 nc] 26)).rangeAt E 0 [.int .i64 i, .int .i64 r, .int .i64 x, .int .i64 q] ∧ ((w.alloc (.cells #[.int .i64 i, .int .i64 r, .int .i64 x, .int .i64 q] 24)).alloc (.cells #[.int .i64 nb, .int .i64 nc] 26)).rangeAt (E + 1) 0 [.int .i64 nb, .int .i64 nc] ∧ Below E w ((w.alloc (.cells #[.int .i64 i, .int .i64 r, .int .i64 x, .int .i64 q] 24)).alloc (.cells #[.int .i64 nb, .int .i64 nc] 26))) := Bx.mk ⟨by
    rw [← hE]
    exact rng_later (box_rng w ⟨i, r, x, q⟩ 24) (below_a _), by
    have := nn_rng (w.alloc (.cells #[.int .i64 i, .int .i64 r, .int .i64 x, .int .i64 q] 24)) nb nc 26
    rw [World.size_alloc, hE] at this
    exact this, by rw [← hE]; exact (below_a _).alloc (by simp) _⟩
  have hr0 := H0.out.1
  go_enter Try.func5, Try.ntmps5
  go_wp2_with (refine wpList_load_mid rfl _ _ rfl _ _ rfl _ _ hr0 Try.underlying24 rfl (by kernel_rfl) ?_)
  refine (HTo.out _).mono ?_
  rintro e w1 ⟨rfl, hb⟩
  obtain ⟨X, hX⟩ : ∃ X, w1.heap.size = X := ⟨_, rfl⟩
  have H1 : Bx ((w1.alloc (.cells #[.int .i64 i, .int .i64 r, .int .i64 x, .int .i64 q] 34)).rangeAt X 0 [.int .i64 i, .int .i64 r, .int .i64 x, .int .i64 q] ∧ (w1.alloc (.cells #[.int .i64 i, .int .i64 r, .int .i64 x, .int .i64 q] 34)).rangeAt (E + 1) 0 [.int .i64 nb, .int .i64 nc] ∧ Below E w (w1.alloc (.cells #[.int .i64 i, .int .i64 r, .int .i64 x, .int .i64 q] 34))) := Bx.mk (by
    have h1 : Below E w w1 := H0.out.2.2.trans (hb.mono (hE ▸ H0.out.2.2.size))
    exact ⟨hX ▸ box_rng w1 ⟨i, r, x, q⟩ 34, rng_later (rng_later H0.out.2.1 hb) (below_a _), h1.alloc (hE ▸ h1.size) _⟩)
  clear hb HTo H0 hr0
  have hr1 := H1.out.1
  go_wp2_with (refine wpList_load_mid rfl _ _ rfl _ _ rfl _ _ hr1 Try.underlying34 rfl (by kernel_rfl) ?_)
  refine (HKe.out _).mono ?_
  rintro e w2 ⟨rfl, hb⟩
  have H2 : Bx (w2.rangeAt X 0 [.int .i64 i, .int .i64 r, .int .i64 x, .int .i64 q] ∧ w2.rangeAt (E + 1) 0 [.int .i64 nb, .int .i64 nc] ∧ Below E w w2) := Bx.mk ⟨rng_later H1.out.1 hb, rng_later H1.out.2.1 hb, H1.out.2.2.trans (hb.mono (hE ▸ H1.out.2.2.size))⟩
  clear hb hr1 H1 HKe
  go_upto_region 4 with fail
  have R0 : Bx (w2.drew.rangeAt X 0 [.int .i64 i, .int .i64 r, .int .i64 x, .int .i64 q] ∧ w2.drew.rangeAt (E + 1) 0 [.int .i64 nb, .int .i64 nc] ∧ Below E w w2.drew) := Bx.mk ⟨H2.out.1, H2.out.2.1, H2.out.2.2.drew⟩
  clear H2
  refine wp_region_noPanic ?_
  refine wp_region_held_drew (S := fun W => W.rangeAt X 0 [.int .i64 i, .int .i64 r, .int .i64 x, .int .i64 q] ∧ W.rangeAt (E + 1) 0 [.int .i64 nb, .int .i64 nc]) (by kernel_rfl) (⟨R0.out.1, R0.out.2.1⟩) (fun hHeld => ?_)
  generalize w2.drew = W0 at *
  refine stepL 0 (by kernel_rfl) rfl (fun K hK => ?_)
  go_simp
  refine (HKn.out _).mono ?_
  rintro e W1 ⟨rfl, hb⟩
  show K _ _
  have R1 : Bx (W1.rangeAt X 0 [.int .i64 i, .int .i64 r, .int .i64 x, .int .i64 q] ∧ W1.rangeAt (E + 1) 0 [.int .i64 nb, .int .i64 nc] ∧ Below E w W1) := Bx.mk ⟨rng_later R0.out.1 hb, rng_later R0.out.2.1 hb, R0.out.2.2.trans (hb.mono (hE ▸ R0.out.2.2.size))⟩
  refine hK.out _ _ ⟨R1.out.1, R1.out.2.1⟩ (fun hHeld => ?_)
  clear hK K hb R0
  try simp only [Act.put, List.setIfInBounds_toArray, List.set_cons_zero, List.set_cons_succ]
  refine takeL 1 (v := ?_) rfl (by kernel_rfl) (by kernel_rfl) (by kernel_rfl) (fun _ _ _ h => h) (Or.inl ⟨by rfl, ?_⟩) hHeld ?_
  rotate_left 1
  · (intro w hSw; go_simp; try with_reducible rfl)
  try simp only [Act.put, List.setIfInBounds_toArray, List.set_cons_zero, List.set_cons_succ]
  refine takeL 2 (v := ?_) rfl (by kernel_rfl) (by kernel_rfl) (by kernel_rfl) (fun _ _ _ h => h) (Or.inl ⟨by rfl, ?_⟩) hHeld ?_
  rotate_left 1
  · (intro w hSw; go_simp; try with_reducible rfl)
  try simp only [Act.put, List.setIfInBounds_toArray, List.set_cons_zero, List.set_cons_succ]
  refine takeL 3 rfl (by kernel_rfl) (by kernel_rfl) (by kernel_rfl) (fun _ _ _ h => h) (yieldsIf_load_mid (by rfl) _ _ rfl _ _ rfl _ _ (fun w hSw => hSw.1) Try.underlying34 rfl (by kernel_rfl)) hHeld ?_
  try simp only [Act.put, List.setIfInBounds_toArray, List.set_cons_zero, List.set_cons_succ]
  refine takeL 4 (v := ?_) rfl (by kernel_rfl) (by kernel_rfl) (by kernel_rfl) (fun _ _ _ h => h) (Or.inl ⟨by rfl, ?_⟩) hHeld ?_
  rotate_left 1
  · (intro w hSw; go_simp; try with_reducible rfl)
  try simp only [Act.put, List.setIfInBounds_toArray, List.set_cons_zero, List.set_cons_succ]
  refine stepL 5 (by kernel_rfl) rfl (fun K hK => ?_)
  go_simp
  refine (HWa.out _).mono ?_
  rintro e W2 ⟨rfl, hb⟩
  show K _ _
  have R2 : Bx (W2.rangeAt X 0 [.int .i64 i, .int .i64 r, .int .i64 x, .int .i64 q] ∧ W2.rangeAt (E + 1) 0 [.int .i64 nb, .int .i64 nc] ∧ Below E w W2) := Bx.mk ⟨rng_later R1.out.1 hb, rng_later R1.out.2.1 hb, R1.out.2.2.trans (hb.mono (hE ▸ R1.out.2.2.size))⟩
  refine hK.out _ _ ⟨R2.out.1, R2.out.2.1⟩ (fun hHeld => ?_)
  clear hK K hb R1
  try simp only [Act.put, List.setIfInBounds_toArray, List.set_cons_zero, List.set_cons_succ]
  refine takeL 6 (v := ?_) rfl (by kernel_rfl) (by kernel_rfl) (by kernel_rfl) (fun _ _ _ h => h) (Or.inl ⟨by rfl, ?_⟩) hHeld ?_
  rotate_left 1
  · (intro w hSw; go_simp; try with_reducible rfl)
  try simp only [Act.put, List.setIfInBounds_toArray, List.set_cons_zero, List.set_cons_succ]
  refine takeL 7 (v := ?_) rfl (by kernel_rfl) (by kernel_rfl) (by kernel_rfl) (fun _ _ _ h => h) (Or.inl ⟨by rfl, ?_⟩) hHeld ?_
  rotate_left 1
  · (intro w hSw; go_simp; try with_reducible rfl)
  try simp only [Act.put, List.setIfInBounds_toArray, List.set_cons_zero, List.set_cons_succ]
  refine takeL 8 (v := ?_) rfl (by kernel_rfl) (by kernel_rfl) (by kernel_rfl) (fun _ _ _ h => h) (Or.inl ⟨by rfl, ?_⟩) hHeld ?_
  rotate_left 1
  · (intro w hSw; go_simp; try with_reducible rfl)
  try simp only [Act.put, List.setIfInBounds_toArray, List.set_cons_zero, List.set_cons_succ]
  refine takeL 9 (v := ?_) rfl (by kernel_rfl) (by kernel_rfl) (by kernel_rfl) (fun _ _ _ h => h) (Or.inl ⟨by rfl, ?_⟩) hHeld ?_
  rotate_left 1
  · (intro w hSw; go_simp; try with_reducible rfl)
  try simp only [Act.put, List.setIfInBounds_toArray, List.set_cons_zero, List.set_cons_succ]
  refine takeL 10 (v := ?_) rfl (by kernel_rfl) (by kernel_rfl) (by kernel_rfl) (fun _ _ _ h => h) (Or.inl ⟨by rfl, ?_⟩) hHeld ?_
  rotate_left 1
  · (intro w hSw; go_simp; try with_reducible rfl)
  try simp only [Act.put, List.setIfInBounds_toArray, List.set_cons_zero, List.set_cons_succ]
  refine stepL 11 (by kernel_rfl) rfl (fun K hK => ?_)
  go_simp
  refine (HDu.out _).mono ?_
  rintro e W3 ⟨rfl, hb⟩
  show K _ _
  have R3 : Bx (W3.rangeAt X 0 [.int .i64 i, .int .i64 r, .int .i64 x, .int .i64 q] ∧ W3.rangeAt (E + 1) 0 [.int .i64 nb, .int .i64 nc] ∧ Below E w W3) := Bx.mk ⟨rng_later R2.out.1 hb, rng_later R2.out.2.1 hb, R2.out.2.2.trans (hb.mono (hE ▸ R2.out.2.2.size))⟩
  refine hK.out _ _ ⟨R3.out.1, R3.out.2.1⟩ (fun hHeld => ?_)
  clear hK K hb R2
  try simp only [Act.put, List.setIfInBounds_toArray, List.set_cons_zero, List.set_cons_succ]
  refine takeL 12 (v := ?_) rfl (by kernel_rfl) (by kernel_rfl) (by kernel_rfl) (fun _ _ _ h => h) (Or.inl ⟨by rfl, ?_⟩) hHeld ?_
  rotate_left 1
  · (intro w hSw; go_simp; try with_reducible rfl)
  try simp only [Act.put, List.setIfInBounds_toArray, List.set_cons_zero, List.set_cons_succ]
  refine takeL 13 (v := ?_) rfl (by kernel_rfl) (by kernel_rfl) (by kernel_rfl) (fun _ _ _ h => h) (Or.inl ⟨by rfl, ?_⟩) hHeld ?_
  rotate_left 1
  · (intro w hSw; go_simp; try with_reducible rfl)
  try simp only [Act.put, List.setIfInBounds_toArray, List.set_cons_zero, List.set_cons_succ]
  refine takeL 14 (v := ?_) rfl (by kernel_rfl) (by kernel_rfl) (by kernel_rfl) (fun _ _ _ h => h) (Or.inl ⟨by rfl, ?_⟩) hHeld ?_
  rotate_left 1
  · (intro w hSw; go_simp; try with_reducible rfl)
  try simp only [Act.put, List.setIfInBounds_toArray, List.set_cons_zero, List.set_cons_succ]
  refine takeL 15 (v := ?_) rfl (by kernel_rfl) (by kernel_rfl) (by kernel_rfl) (fun _ _ _ h => h) (Or.inl ⟨by rfl, ?_⟩) hHeld ?_
  rotate_left 1
  · (intro w hSw; go_simp; try with_reducible rfl)
  try simp only [Act.put, List.setIfInBounds_toArray, List.set_cons_zero, List.set_cons_succ]
  refine takeL 16 (v := ?_) rfl (by kernel_rfl) (by kernel_rfl) (by kernel_rfl) (fun _ _ _ h => h) (Or.inl ⟨by rfl, ?_⟩) hHeld ?_
  rotate_left 1
  · (intro w hSw; go_simp; try with_reducible rfl)
  try simp only [Act.put, List.setIfInBounds_toArray, List.set_cons_zero, List.set_cons_succ]
  refine takeL 17 rfl (by kernel_rfl) (by kernel_rfl) (by kernel_rfl) (fun _ _ _ h => h) (yieldsIf_load_mid (by rfl) _ _ rfl _ _ rfl _ _ (fun w hSw => hSw.1) Try.underlying34 rfl (by kernel_rfl)) hHeld ?_
  try simp only [Act.put, List.setIfInBounds_toArray, List.set_cons_zero, List.set_cons_succ]
  refine stepL 18 (by kernel_rfl) rfl (fun K hK => ?_)
  go_simp
  refine (HMn.out _).mono ?_
  rintro e W4 ⟨mv, rfl, hmk, hb⟩
  show K _ _
  obtain ⟨mp, ms, rfl, -⟩ := hmk
  have R4 : Bx (W4.rangeAt X 0 [.int .i64 i, .int .i64 r, .int .i64 x, .int .i64 q] ∧ W4.rangeAt (E + 1) 0 [.int .i64 nb, .int .i64 nc] ∧ Below E w W4) := Bx.mk ⟨rng_later R3.out.1 hb, rng_later R3.out.2.1 hb, R3.out.2.2.trans (hb.mono (hE ▸ R3.out.2.2.size))⟩
  refine hK.out _ _ ⟨R4.out.1, R4.out.2.1⟩ (fun hHeld => ?_)
  clear hK K hb R3
  try simp only [Act.put, List.setIfInBounds_toArray, List.set_cons_zero, List.set_cons_succ]
  refine stepL 19 (by kernel_rfl) rfl (fun K hK => ?_)
  go_simp
  refine (HPu.out _ _).mono ?_
  rintro e W5 ⟨rfl, hb⟩
  show K _ _
  have R5 : Bx (W5.rangeAt X 0 [.int .i64 i, .int .i64 r, .int .i64 x, .int .i64 q] ∧ W5.rangeAt (E + 1) 0 [.int .i64 nb, .int .i64 nc] ∧ Below E w W5) := Bx.mk ⟨rng_later R4.out.1 hb, rng_later R4.out.2.1 hb, R4.out.2.2.trans (hb.mono (hE ▸ R4.out.2.2.size))⟩
  refine hK.out _ _ ⟨R5.out.1, R5.out.2.1⟩ (fun hHeld => ?_)
  clear hK K hb R4
  try simp only [Act.put, List.setIfInBounds_toArray, List.set_cons_zero, List.set_cons_succ]
  refine takeL 20 (v := ?_) rfl (by kernel_rfl) (by kernel_rfl) (by kernel_rfl) (fun _ _ _ h => h) (Or.inl ⟨by rfl, ?_⟩) hHeld ?_
  rotate_left 1
  · (intro w hSw; go_simp; try with_reducible rfl)
  try simp only [Act.put, List.setIfInBounds_toArray, List.set_cons_zero, List.set_cons_succ]
  refine takeL 21 (v := ?_) rfl (by kernel_rfl) (by kernel_rfl) (by kernel_rfl) (fun _ _ _ h => h) (Or.inl ⟨by rfl, ?_⟩) hHeld ?_
  rotate_left 1
  · (intro w hSw; go_simp; try with_reducible rfl)
  try simp only [Act.put, List.setIfInBounds_toArray, List.set_cons_zero, List.set_cons_succ]
  refine takeL 22 (v := ?_) rfl (by kernel_rfl) (by kernel_rfl) (by kernel_rfl) (fun _ _ _ h => h) (Or.inl ⟨by rfl, ?_⟩) hHeld ?_
  rotate_left 1
  · (intro w hSw; go_simp; try with_reducible rfl)
  try simp only [Act.put, List.setIfInBounds_toArray, List.set_cons_zero, List.set_cons_succ]
  refine takeL 23 (v := ?_) rfl (by kernel_rfl) (by kernel_rfl) (by kernel_rfl) (fun _ _ _ h => h) (Or.inl ⟨by rfl, ?_⟩) hHeld ?_
  rotate_left 1
  · (intro w hSw; go_simp; try with_reducible rfl)
  try simp only [Act.put, List.setIfInBounds_toArray, List.set_cons_zero, List.set_cons_succ]
  refine takeL 24 (v := ?_) rfl (by kernel_rfl) (by kernel_rfl) (by kernel_rfl) (fun _ _ _ h => h) (Or.inl ⟨by rfl, ?_⟩) hHeld ?_
  rotate_left 1
  · (intro w hSw; go_simp; try with_reducible rfl)
  try simp only [Act.put, List.setIfInBounds_toArray, List.set_cons_zero, List.set_cons_succ]
  refine takeL 25 (v := ?_) rfl (by kernel_rfl) (by kernel_rfl) (by kernel_rfl) (fun _ _ _ h => h) (Or.inl ⟨by rfl, ?_⟩) hHeld ?_
  rotate_left 1
  · (intro w hSw; go_simp; try with_reducible rfl)
  try simp only [Act.put, List.setIfInBounds_toArray, List.set_cons_zero, List.set_cons_succ]
  refine takeL 26 (v := ?_) rfl (by kernel_rfl) (by kernel_rfl) (by kernel_rfl) (fun _ _ _ h => h) (Or.inl ⟨by rfl, ?_⟩) hHeld ?_
  rotate_left 1
  · (intro w hSw; go_simp; try with_reducible rfl)
  try simp only [Act.put, List.setIfInBounds_toArray, List.set_cons_zero, List.set_cons_succ]
  refine takeL 27 (v := ?_) rfl (by kernel_rfl) (by kernel_rfl) (by kernel_rfl) (fun _ _ _ h => h) (Or.inl ⟨by rfl, ?_⟩) hHeld ?_
  rotate_left 1
  · (intro w hSw; go_simp; try with_reducible rfl)
  try simp only [Act.put, List.setIfInBounds_toArray, List.set_cons_zero, List.set_cons_succ]
  refine takeL 28 rfl (by kernel_rfl) (by kernel_rfl) (by kernel_rfl) (fun _ _ _ h => h) (yieldsIf_load_mid (by rfl) _ _ rfl _ _ rfl _ _ (fun w hSw => hSw.1) Try.underlying34 rfl (by kernel_rfl)) hHeld ?_
  try simp only [Act.put, List.setIfInBounds_toArray, List.set_cons_zero, List.set_cons_succ]
  refine takeL 29 rfl (by kernel_rfl) (by kernel_rfl) (by kernel_rfl) (fun _ _ _ h => h) (yieldsIf_load_mid (by rfl) _ _ rfl _ _ rfl _ _ (fun w hSw => hSw.2) Try.underlying26 rfl (by kernel_rfl)) hHeld ?_
  try simp only [Act.put, List.setIfInBounds_toArray, List.set_cons_zero, List.set_cons_succ]
  refine stepL 30 (by kernel_rfl) rfl (fun K hK => ?_)
  go_simp
  refine (HNt.out _).mono ?_
  rintro e W6 ⟨rfl, hb⟩
  show K _ _
  have R6 : Bx (W6.rangeAt X 0 [.int .i64 i, .int .i64 r, .int .i64 x, .int .i64 q] ∧ W6.rangeAt (E + 1) 0 [.int .i64 nb, .int .i64 nc] ∧ Below E w W6) := Bx.mk ⟨rng_later R5.out.1 hb, rng_later R5.out.2.1 hb, R5.out.2.2.trans (hb.mono (hE ▸ R5.out.2.2.size))⟩
  refine hK.out _ _ ⟨R6.out.1, R6.out.2.1⟩ (fun hHeld => ?_)
  clear hK K hb R5
  try simp only [Act.put, List.setIfInBounds_toArray, List.set_cons_zero, List.set_cons_succ]
  refine stepL 31 (by kernel_rfl) rfl (fun K hK => ?_)
  go_simp
  refine (HLo.out _).mono ?_
  rintro e W7 ⟨rfl, hb⟩
  show K _ _
  have R7 : Bx (W7.rangeAt X 0 [.int .i64 i, .int .i64 r, .int .i64 x, .int .i64 q] ∧ W7.rangeAt (E + 1) 0 [.int .i64 nb, .int .i64 nc] ∧ Below E w W7) := Bx.mk ⟨rng_later R6.out.1 hb, rng_later R6.out.2.1 hb, R6.out.2.2.trans (hb.mono (hE ▸ R6.out.2.2.size))⟩
  refine hK.out _ _ ⟨R7.out.1, R7.out.2.1⟩ (fun hHeld => ?_)
  clear hK K hb R6
  try simp only [Act.put, List.setIfInBounds_toArray, List.set_cons_zero, List.set_cons_succ]
  refine takeL 32 (v := ?_) rfl (by kernel_rfl) (by kernel_rfl) (by kernel_rfl) (fun _ _ _ h => h) (Or.inl ⟨by rfl, ?_⟩) hHeld ?_
  rotate_left 1
  · (intro w hSw; go_simp; try with_reducible rfl)
  try simp only [Act.put, List.setIfInBounds_toArray, List.set_cons_zero, List.set_cons_succ]
  refine takeL 33 (v := ?_) rfl (by kernel_rfl) (by kernel_rfl) (by kernel_rfl) (fun _ _ _ h => h) (Or.inl ⟨by rfl, ?_⟩) hHeld ?_
  rotate_left 1
  · (intro w hSw; go_simp; try with_reducible rfl)
  try simp only [Act.put, List.setIfInBounds_toArray, List.set_cons_zero, List.set_cons_succ]
  refine takeL 34 (v := ?_) rfl (by kernel_rfl) (by kernel_rfl) (by kernel_rfl) (fun _ _ _ h => h) (Or.inl ⟨by rfl, ?_⟩) hHeld ?_
  rotate_left 1
  · (intro w hSw; go_simp; try with_reducible rfl)
  try simp only [Act.put, List.setIfInBounds_toArray, List.set_cons_zero, List.set_cons_succ]
  refine takeL 35 (v := ?_) rfl (by kernel_rfl) (by kernel_rfl) (by kernel_rfl) (fun _ _ _ h => h) (Or.inl ⟨by rfl, ?_⟩) hHeld ?_
  rotate_left 1
  · (intro w hSw; go_simp; try with_reducible rfl)
  try simp only [Act.put, List.setIfInBounds_toArray, List.set_cons_zero, List.set_cons_succ]
  refine takeL 36 rfl (by kernel_rfl) (by kernel_rfl) (by kernel_rfl) (fun _ _ _ h => h) (yieldsIf_load_mid (by rfl) _ _ rfl _ _ rfl _ _ (fun w hSw => hSw.1) Try.underlying34 rfl (by kernel_rfl)) hHeld ?_
  try simp only [Act.put, List.setIfInBounds_toArray, List.set_cons_zero, List.set_cons_succ]
  refine takeL 37 rfl (by kernel_rfl) (by kernel_rfl) (by kernel_rfl) (fun _ _ _ h => h) (yieldsIf_build (by rfl) 51 _ rfl #[.int .i64 0, .int .i64 0] (by kernel_rfl)) hHeld ?_
  try simp only [Act.put, List.setIfInBounds_toArray, List.set_cons_zero, List.set_cons_succ]
  refine stepL 38 (by kernel_rfl) rfl (fun K hK => ?_)
  go_simp
  refine (HTa.out _).mono ?_
  rintro e W8 ⟨rfl, hb⟩
  show K _ _
  have R8 : Bx (W8.rangeAt X 0 [.int .i64 i, .int .i64 r, .int .i64 x, .int .i64 q] ∧ W8.rangeAt (E + 1) 0 [.int .i64 nb, .int .i64 nc] ∧ Below E w W8) := Bx.mk ⟨rng_later R7.out.1 hb, rng_later R7.out.2.1 hb, R7.out.2.2.trans (hb.mono (hE ▸ R7.out.2.2.size))⟩
  refine hK.out _ _ ⟨R8.out.1, R8.out.2.1⟩ (fun hHeld => ?_)
  clear hK K hb R7
  try simp only [Act.put, List.setIfInBounds_toArray, List.set_cons_zero, List.set_cons_succ]
  refine takeL 39 (v := ?_) rfl (by kernel_rfl) (by kernel_rfl) (by kernel_rfl) (fun _ _ _ h => h) (Or.inl ⟨by rfl, ?_⟩) hHeld ?_
  rotate_left 1
  · (intro w hSw; go_simp; try with_reducible rfl)
  try simp only [Act.put, List.setIfInBounds_toArray, List.set_cons_zero, List.set_cons_succ]
  refine takeL 40 (v := ?_) rfl (by kernel_rfl) (by kernel_rfl) (by kernel_rfl) (fun _ _ _ h => h) (Or.inl ⟨by rfl, ?_⟩) hHeld ?_
  rotate_left 1
  · (intro w hSw; go_simp; try with_reducible rfl)
  try simp only [Act.put, List.setIfInBounds_toArray, List.set_cons_zero, List.set_cons_succ]
  refine takeL 41 (v := ?_) rfl (by kernel_rfl) (by kernel_rfl) (by kernel_rfl) (fun _ _ _ h => h) (Or.inl ⟨by rfl, ?_⟩) hHeld ?_
  rotate_left 1
  · (intro w hSw; go_simp; try with_reducible rfl)
  try simp only [Act.put, List.setIfInBounds_toArray, List.set_cons_zero, List.set_cons_succ]
  refine takeL 42 (v := ?_) rfl (by kernel_rfl) (by kernel_rfl) (by kernel_rfl) (fun _ _ _ h => h) (Or.inl ⟨by rfl, ?_⟩) hHeld ?_
  rotate_left 1
  · (intro w hSw; go_simp; try with_reducible rfl)
  try simp only [Act.put, List.setIfInBounds_toArray, List.set_cons_zero, List.set_cons_succ]
  refine takeL 43 rfl (by kernel_rfl) (by kernel_rfl) (by kernel_rfl) (fun _ _ _ h => h) (yieldsIf_load_mid (by rfl) _ _ rfl _ _ rfl _ _ (fun w hSw => hSw.1) Try.underlying34 rfl (by kernel_rfl)) hHeld ?_
  try simp only [Act.put, List.setIfInBounds_toArray, List.set_cons_zero, List.set_cons_succ]
  refine stepL 44 (by kernel_rfl) rfl (fun K hK => ?_)
  go_simp
  have hb := below_a (W := W8) (.cells #[.int .i64 i, .int .i64 r, .int .i64 x, .int .i64 q] 34)
  have R9 : Bx ((W8.alloc (.cells #[.int .i64 i, .int .i64 r, .int .i64 x, .int .i64 q] 34)).rangeAt X 0 [.int .i64 i, .int .i64 r, .int .i64 x, .int .i64 q] ∧ (W8.alloc (.cells #[.int .i64 i, .int .i64 r, .int .i64 x, .int .i64 q] 34)).rangeAt (E + 1) 0 [.int .i64 nb, .int .i64 nc] ∧ Below E w (W8.alloc (.cells #[.int .i64 i, .int .i64 r, .int .i64 x, .int .i64 q] 34))) := Bx.mk ⟨rng_later R8.out.1 hb, rng_later R8.out.2.1 hb, R8.out.2.2.trans (hb.mono (hE ▸ R8.out.2.2.size))⟩
  refine hK.out _ _ ⟨R9.out.1, R9.out.2.1⟩ (fun hHeld => ?_)
  clear hK K hb R8
  generalize W8.alloc (.cells #[.int .i64 i, .int .i64 r, .int .i64 x, .int .i64 q] 34) = W9 at *
  try simp only [Act.put, List.setIfInBounds_toArray, List.set_cons_zero, List.set_cons_succ]
  refine stepL 45 (by kernel_rfl) rfl (fun K hK => ?_)
  go_simp
  refine (HDr.out _ _).mono ?_
  rintro e W10 ⟨rfl, hb⟩
  show K _ _
  have R10 : Bx (W10.rangeAt X 0 [.int .i64 i, .int .i64 r, .int .i64 x, .int .i64 q] ∧ W10.rangeAt (E + 1) 0 [.int .i64 nb, .int .i64 nc] ∧ Below E w W10) := Bx.mk ⟨rng_later R9.out.1 hb, rng_later R9.out.2.1 hb, R9.out.2.2.trans (hb.mono (hE ▸ R9.out.2.2.size))⟩
  refine hK.out _ _ ⟨R10.out.1, R10.out.2.1⟩ (fun hHeld => ?_)
  clear hK K hb R9
  try simp only [Act.put, List.setIfInBounds_toArray, List.set_cons_zero, List.set_cons_succ]
  refine takeL 46 (v := ?_) rfl (by kernel_rfl) (by kernel_rfl) (by kernel_rfl) (fun _ _ _ h => h) (Or.inl ⟨by rfl, ?_⟩) hHeld ?_
  rotate_left 1
  · (intro w hSw; go_simp; try with_reducible rfl)
  try simp only [Act.put, List.setIfInBounds_toArray, List.set_cons_zero, List.set_cons_succ]
  refine takeL 47 (v := ?_) rfl (by kernel_rfl) (by kernel_rfl) (by kernel_rfl) (fun _ _ _ h => h) (Or.inl ⟨by rfl, ?_⟩) hHeld ?_
  rotate_left 1
  · (intro w hSw; go_simp; try with_reducible rfl)
  try simp only [Act.put, List.setIfInBounds_toArray, List.set_cons_zero, List.set_cons_succ]
  refine takeL 48 (v := ?_) rfl (by kernel_rfl) (by kernel_rfl) (by kernel_rfl) (fun _ _ _ h => h) (Or.inl ⟨by rfl, ?_⟩) hHeld ?_
  rotate_left 1
  · (intro w hSw; go_simp; try with_reducible rfl)
  try simp only [Act.put, List.setIfInBounds_toArray, List.set_cons_zero, List.set_cons_succ]
  refine takeL 49 (v := ?_) rfl (by kernel_rfl) (by kernel_rfl) (by kernel_rfl) (fun _ _ _ h => h) (Or.inl ⟨by rfl, ?_⟩) hHeld ?_
  rotate_left 1
  · (intro w hSw; go_simp; try with_reducible rfl)
  try simp only [Act.put, List.setIfInBounds_toArray, List.set_cons_zero, List.set_cons_succ]
  refine takeL 50 rfl (by kernel_rfl) (by kernel_rfl) (by kernel_rfl) (fun _ _ _ h => h) (yieldsIf_load_mid (by rfl) _ _ rfl _ _ rfl _ _ (fun w hSw => hSw.1) Try.underlying34 rfl (by kernel_rfl)) hHeld ?_
  try simp only [Act.put, List.setIfInBounds_toArray, List.set_cons_zero, List.set_cons_succ]
  refine stepL 51 (by kernel_rfl) rfl (fun K hK => ?_)
  go_simp
  have hb := below_a (W := W10) (.cells #[.int .i64 i, .int .i64 r, .int .i64 x, .int .i64 q] 34)
  have R11 : Bx ((W10.alloc (.cells #[.int .i64 i, .int .i64 r, .int .i64 x, .int .i64 q] 34)).rangeAt X 0 [.int .i64 i, .int .i64 r, .int .i64 x, .int .i64 q] ∧ (W10.alloc (.cells #[.int .i64 i, .int .i64 r, .int .i64 x, .int .i64 q] 34)).rangeAt (E + 1) 0 [.int .i64 nb, .int .i64 nc] ∧ Below E w (W10.alloc (.cells #[.int .i64 i, .int .i64 r, .int .i64 x, .int .i64 q] 34))) := Bx.mk ⟨rng_later R10.out.1 hb, rng_later R10.out.2.1 hb, R10.out.2.2.trans (hb.mono (hE ▸ R10.out.2.2.size))⟩
  refine hK.out _ _ ⟨R11.out.1, R11.out.2.1⟩ (fun hHeld => ?_)
  clear hK K hb R10
  generalize W10.alloc (.cells #[.int .i64 i, .int .i64 r, .int .i64 x, .int .i64 q] 34) = W11 at *
  try simp only [Act.put, List.setIfInBounds_toArray, List.set_cons_zero, List.set_cons_succ]
  refine stepL 52 (by kernel_rfl) rfl (fun K hK => ?_)
  go_simp
  refine (HOn.out _ _ _ _).mono ?_
  rintro e W12 ⟨rfl, hb⟩
  show K _ _
  have R12 : Bx (W12.rangeAt X 0 [.int .i64 i, .int .i64 r, .int .i64 x, .int .i64 q] ∧ W12.rangeAt (E + 1) 0 [.int .i64 nb, .int .i64 nc] ∧ Below E w W12) := Bx.mk ⟨rng_later R11.out.1 hb, rng_later R11.out.2.1 hb, R11.out.2.2.trans (hb.mono (hE ▸ R11.out.2.2.size))⟩
  refine hK.out _ _ ⟨R12.out.1, R12.out.2.1⟩ (fun hHeld => ?_)
  clear hK K hb R11
  try simp only [Act.put, List.setIfInBounds_toArray, List.set_cons_zero, List.set_cons_succ]
  refine takeL 53 (v := ?_) rfl (by kernel_rfl) (by kernel_rfl) (by kernel_rfl) (fun _ _ _ h => h) (Or.inl ⟨by rfl, ?_⟩) hHeld ?_
  rotate_left 1
  · (intro w hSw; go_simp; try with_reducible rfl)
  try simp only [Act.put, List.setIfInBounds_toArray, List.set_cons_zero, List.set_cons_succ]
  refine takeL 54 (v := ?_) rfl (by kernel_rfl) (by kernel_rfl) (by kernel_rfl) (fun _ _ _ h => h) (Or.inl ⟨by rfl, ?_⟩) hHeld ?_
  rotate_left 1
  · (intro w hSw; go_simp; try with_reducible rfl)
  try simp only [Act.put, List.setIfInBounds_toArray, List.set_cons_zero, List.set_cons_succ]
  refine takeL 55 (v := ?_) rfl (by kernel_rfl) (by kernel_rfl) (by kernel_rfl) (fun _ _ _ h => h) (Or.inl ⟨by rfl, ?_⟩) hHeld ?_
  rotate_left 1
  · (intro w hSw; go_simp; try with_reducible rfl)
  try simp only [Act.put, List.setIfInBounds_toArray, List.set_cons_zero, List.set_cons_succ]
  refine takeL 56 (v := ?_) rfl (by kernel_rfl) (by kernel_rfl) (by kernel_rfl) (fun _ _ _ h => h) (Or.inl ⟨by rfl, ?_⟩) hHeld ?_
  rotate_left 1
  · (intro w hSw; go_simp; try with_reducible rfl)
  try simp only [Act.put, List.setIfInBounds_toArray, List.set_cons_zero, List.set_cons_succ]
  refine takeL 57 (v := ?_) rfl (by kernel_rfl) (by kernel_rfl) (by kernel_rfl) (fun _ _ _ h => h) (Or.inl ⟨by rfl, ?_⟩) hHeld ?_
  rotate_left 1
  · (intro w hSw; go_simp; try with_reducible rfl)
  try simp only [Act.put, List.setIfInBounds_toArray, List.set_cons_zero, List.set_cons_succ]
  refine takeL 60 (v := ?_) rfl (by kernel_rfl) (by kernel_rfl) (by kernel_rfl) (fun _ _ _ h => h) (Or.inl ⟨by rfl, ?_⟩) hHeld ?_
  rotate_left 1
  · (intro w hSw; go_simp; try with_reducible rfl)
  try simp only [Act.put, List.setIfInBounds_toArray, List.set_cons_zero, List.set_cons_succ]
  refine takeL 64 (v := ?_) rfl (by kernel_rfl) (by kernel_rfl) (by kernel_rfl) (fun _ _ _ h => h) (Or.inl ⟨by rfl, ?_⟩) hHeld ?_
  rotate_left 1
  · (intro w hSw; go_simp; try with_reducible rfl)
  try simp only [Act.put, List.setIfInBounds_toArray, List.set_cons_zero, List.set_cons_succ]
  refine stepL 58 (by kernel_rfl) rfl (fun K hK => ?_)
  go_simp
  refine (HK.out _).mono ?_
  rintro e W13 ⟨rfl, hb⟩
  show K _ _
  have R13 : Bx (W13.rangeAt X 0 [.int .i64 i, .int .i64 r, .int .i64 x, .int .i64 q] ∧ W13.rangeAt (E + 1) 0 [.int .i64 nb, .int .i64 nc] ∧ Below E w W13) := Bx.mk ⟨rng_later R12.out.1 hb, rng_later R12.out.2.1 hb, R12.out.2.2.trans (hb.mono (hE ▸ R12.out.2.2.size))⟩
  refine hK.out _ _ ⟨R13.out.1, R13.out.2.1⟩ (fun hHeld => ?_)
  clear hK K hb R12
  try simp only [Act.put, List.setIfInBounds_toArray, List.set_cons_zero, List.set_cons_succ]
  refine takeL 59 (v := ?_) rfl (by kernel_rfl) (by kernel_rfl) (by kernel_rfl) (fun _ _ _ h => h) (Or.inl ⟨by rfl, ?_⟩) hHeld ?_
  rotate_left 1
  · (intro w hSw; go_simp; try with_reducible rfl)
  try simp only [Act.put, List.setIfInBounds_toArray, List.set_cons_zero, List.set_cons_succ]
  refine stepL 61 (by kernel_rfl) rfl (fun K hK => ?_)
  go_simp
  refine (HW.out _).mono ?_
  rintro e W14 ⟨rfl, hb⟩
  show K _ _
  have R14 : Bx (W14.rangeAt X 0 [.int .i64 i, .int .i64 r, .int .i64 x, .int .i64 q] ∧ W14.rangeAt (E + 1) 0 [.int .i64 nb, .int .i64 nc] ∧ Below E w W14) := Bx.mk ⟨rng_later R13.out.1 hb, rng_later R13.out.2.1 hb, R13.out.2.2.trans (hb.mono (hE ▸ R13.out.2.2.size))⟩
  refine hK.out _ _ ⟨R14.out.1, R14.out.2.1⟩ (fun hHeld => ?_)
  clear hK K hb R13
  try simp only [Act.put, List.setIfInBounds_toArray, List.set_cons_zero, List.set_cons_succ]
  refine takeL 62 (v := ?_) rfl (by kernel_rfl) (by kernel_rfl) (by kernel_rfl) (fun _ _ _ h => h) (Or.inl ⟨by rfl, ?_⟩) hHeld ?_
  rotate_left 1
  · (intro w hSw; go_simp; try with_reducible rfl)
  try simp only [Act.put, List.setIfInBounds_toArray, List.set_cons_zero, List.set_cons_succ]
  refine takeL 63 (v := ?_) rfl (by kernel_rfl) (by kernel_rfl) (by kernel_rfl) (fun _ _ _ h => h) (Or.inl ⟨by rfl, ?_⟩) hHeld ?_
  rotate_left 1
  · (intro w hSw; go_simp; try with_reducible rfl)
  try simp only [Act.put, List.setIfInBounds_toArray, List.set_cons_zero, List.set_cons_succ]
  refine stepL 65 (by kernel_rfl) rfl (fun K hK => ?_)
  go_simp
  refine (HL.out _).mono ?_
  rintro e W15 ⟨rfl, hw⟩
  show K _ _
  have hb : Below W14.heap.size W14 W15 := by rw [hw]; exact Below.refl _ _
  have R15 : Bx (W15.rangeAt X 0 [.int .i64 i, .int .i64 r, .int .i64 x, .int .i64 q] ∧ W15.rangeAt (E + 1) 0 [.int .i64 nb, .int .i64 nc] ∧ Below E w W15) := Bx.mk ⟨rng_later R14.out.1 hb, rng_later R14.out.2.1 hb, R14.out.2.2.trans (hb.mono (hE ▸ R14.out.2.2.size))⟩
  refine hK.out _ _ ⟨R15.out.1, R15.out.2.1⟩ (fun hHeld => ?_)
  clear hK K hb R14 hw
  try simp only [Act.put, List.setIfInBounds_toArray, List.set_cons_zero, List.set_cons_succ]
  refine takeL 66 (v := ?_) rfl (by kernel_rfl) (by kernel_rfl) (by kernel_rfl) (fun _ _ _ h => h) (Or.inl ⟨by rfl, ?_⟩) hHeld ?_
  rotate_left 1
  · (intro w hSw; go_simp; try with_reducible rfl)
  try simp only [Act.put, List.setIfInBounds_toArray, List.set_cons_zero, List.set_cons_succ]
  refine takeL 67 (v := ?_) rfl (by kernel_rfl) (by kernel_rfl) (by kernel_rfl) (fun _ _ _ h => h) (Or.inl ⟨by rfl, ?_⟩) hHeld ?_
  rotate_left 1
  · (intro w hSw; go_simp; try with_reducible rfl)
  try simp only [Act.put, List.setIfInBounds_toArray, List.set_cons_zero, List.set_cons_succ]
  refine takeL 68 (v := ?_) rfl (by kernel_rfl) (by kernel_rfl) (by kernel_rfl) (fun _ _ _ h => h) (Or.inl ⟨by rfl, ?_⟩) hHeld ?_
  rotate_left 1
  · (intro w hSw; go_simp; try with_reducible rfl)
  try simp only [Act.put, List.setIfInBounds_toArray, List.set_cons_zero, List.set_cons_succ]
  refine takeL 69 (v := ?_) rfl (by kernel_rfl) (by kernel_rfl) (by kernel_rfl) (fun _ _ _ h => h) (Or.inl ⟨by rfl, ?_⟩) hHeld ?_
  rotate_left 1
  · (intro w hSw; go_simp; try with_reducible rfl)
  try simp only [Act.put, List.setIfInBounds_toArray, List.set_cons_zero, List.set_cons_succ]
  refine wpAnyH_done (by kernel_rfl) ?_ _
  refine NoPanic.normal ?_
  clear hHeld
  go_wp2
  go_ret
  exact ⟨rfl, R15.out.2.2⟩
end Go.Proofs.Ytdbdpehagkglfaa
namespace Go.Proofs.Ytdbdpehagkglfaa
open Go
/-- A world to begin with. -/
noncomputable def laidWorld (os : Os) : World := World.holding Try.prog os ⟨#[], #[], []⟩
end Go.Proofs.Ytdbdpehagkglfaa
