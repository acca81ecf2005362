/-
  A book: Put.
-/
import Derived.Test.YtdbdpehagkglfaaH14
import Derived.Test.YtdbdpehagkglfaaH6
namespace Go.Proofs.Ytdbdpehagkglfaa
open Go Go.RowKit
theorem row_rng15 {W : World} {X : Nat} {l : List Value} {T : TypeId} {fr : Nat × Nat} (h : W.heap[X]? = some (.cells l.toArray T fr)) : W.rangeAt X 0 l := fun j u hj => by
  rw [cell_of_row _ _ _ _ _ _ h, Nat.zero_add, ← Array.getElem?_toList]
  exact hj
set_option maxRecDepth 100000 in
set_option maxHeartbeats 1000000 in
theorem put_arg (Q : Nat) (c : Cl) (w : World) : Calls Try.prog 13 #[ptr Q, clV c, .pointer none] w fun e w' => e = .returned (.int .i64 1) ∧ Below w.heap.size w w' := by
  obtain ⟨i, r, x, q⟩ := c
  unfold clV ptr
  simp only
  go_enter Try.func13, Try.ntmps13
  go_wp2
  go_ret
  exact ⟨rfl, below_a _⟩
set_option maxRecDepth 100000 in
set_option maxHeartbeats 1000000 in
theorem put_none (B Q : Nat) (l : List En) (w : World) (h : BookAt B Q l w) (c : Cl) (hc : Cl64 c) (hn : ∀ e ∈ l, e.c ≠ c) (g : Nat) : Calls Try.prog 13 #[ptr Q, clV c, ptr g] w fun x w' => x = .returned (.int .i64 7) ∧ Below w.heap.size w w' := by
  obtain ⟨mb, hmb⟩ := h.looks c hc
  rw [posE_out hn] at hmb
  have HLo := Bx.mk hmb
  clear h hmb hc hn
  obtain ⟨i, r, x, q⟩ := c
  unfold clV ptr at *
  unfold ptrO at HLo
  simp only at HLo ⊢
  have HBo : Bx ((w.alloc (.cells #[.int .i64 i, .int .i64 r, .int .i64 x, .int .i64 q] 34)).heap[w.heap.size]? = some (.cells #[.int .i64 i, .int .i64 r, .int .i64 x, .int .i64 q] 34 (0, 0))) := Bx.mk (hnew _ _ _ rfl)
  have HBe := Bx.mk (below_a (W := w) (.cells #[.int .i64 i, .int .i64 r, .int .i64 x, .int .i64 q] 34))
  go_enter Try.func13, Try.ntmps13
  go_upto_region 5 with fail
  generalize w.alloc (.cells #[.int .i64 i, .int .i64 r, .int .i64 x, .int .i64 q] 34) = w1 at *
  have R0 : Bx (Below w.heap.size w w1.drew ∧ w1.drew.heap[w.heap.size]? = some (.cells #[.int .i64 i, .int .i64 r, .int .i64 x, .int .i64 q] 34 (0, 0))) := Bx.mk ⟨HBe.out.drew, HBo.out⟩
  clear HBe HBo
  refine wp_region_noPanic ?_
  refine wp_region_held_drew (S := fun W => W.cell? ⟨Q, 0, none⟩ = some (.map mb) ∧ (W.rangeAt w.heap.size 0 [.int .i64 i, .int .i64 r, .int .i64 x, .int .i64 q] ∧ (Instr.lookup 69 (.map mb) (.agg #[.int .i64 i, .int .i64 r, .int .i64 x, .int .i64 q]) false).run Try.prog W = .ok (.pointer none) W)) (by kernel_rfl) (⟨(HLo.out _ R0.out.1).1, row_rng15 (l := [.int .i64 i, .int .i64 r, .int .i64 x, .int .i64 q]) R0.out.2, (HLo.out _ R0.out.1).2.1⟩) (fun hHeld => ?_)
  refine takeL 0 (v := ?_) rfl (by kernel_rfl) (by kernel_rfl) (by kernel_rfl) (fun _ _ _ h => h) (Or.inl ⟨by rfl, ?_⟩) hHeld ?_
  rotate_left 1
  · (intro w hSw; go_simp; try with_reducible rfl)
  try simp only [Act.put, List.setIfInBounds_toArray, List.set_cons_zero, List.set_cons_succ]
  refine takeL 1 (v := ?_) rfl (by kernel_rfl) (by kernel_rfl) (by kernel_rfl) (fun _ _ _ h => h) (Or.inl ⟨by rfl, ?_⟩) hHeld ?_
  rotate_left 1
  · (intro w hSw; go_simp; try with_reducible rfl)
  try simp only [Act.put, List.setIfInBounds_toArray, List.set_cons_zero, List.set_cons_succ]
  refine takeL 2 (v := ?_) rfl (by kernel_rfl) (by kernel_rfl) (by kernel_rfl) (fun _ _ _ h => h) (Or.inl ⟨by rfl, ?_⟩) hHeld ?_
  rotate_left 1
  · (intro w hSw; go_simp; try with_reducible rfl)
  try simp only [Act.put, List.setIfInBounds_toArray, List.set_cons_zero, List.set_cons_succ]
  refine takeL 3 (v := ?_) rfl (by kernel_rfl) (by kernel_rfl) (by kernel_rfl) (fun _ _ _ h => h) (Or.inl ⟨by rfl, ?_⟩) hHeld ?_
  rotate_left 1
  · (intro w hSw; have h1 := hSw.1; go_simp; try with_reducible rfl)
  try simp only [Act.put, List.setIfInBounds_toArray, List.set_cons_zero, List.set_cons_succ]
  refine takeL 4 rfl (by kernel_rfl) (by kernel_rfl) (by kernel_rfl) (fun _ _ _ h => h) (yieldsIf_load_mid (by rfl) _ _ rfl _ _ rfl _ _ (fun w hSw => hSw.2.1) Try.underlying34 rfl (by kernel_rfl)) hHeld ?_
  try simp only [Act.put, List.setIfInBounds_toArray, List.set_cons_zero, List.set_cons_succ]
  refine takeL 5 (v := ?_) rfl (by kernel_rfl) (by kernel_rfl) (by kernel_rfl) (fun _ _ _ h => h) (Or.inl ⟨by rfl, ?_⟩) hHeld ?_
  rotate_left 1
  · (intro w hSw; have h3 := hSw.2.2; go_simp; try with_reducible rfl)
  try simp only [Act.put, List.setIfInBounds_toArray, List.set_cons_zero, List.set_cons_succ]
  refine takeL 6 (v := ?_) rfl (by kernel_rfl) (by kernel_rfl) (by kernel_rfl) (fun _ _ _ h => h) (Or.inl ⟨by rfl, ?_⟩) hHeld ?_
  rotate_left 1
  · (intro w hSw; go_simp; try with_reducible rfl)
  try simp only [Act.put, List.setIfInBounds_toArray, List.set_cons_zero, List.set_cons_succ]
  refine wpAnyH_done (by kernel_rfl) ?_ _
  refine NoPanic.normal ?_
  clear hHeld
  go_wp2
  go_ret
  exact ⟨rfl, R0.out.1⟩
set_option maxRecDepth 100000 in
set_option maxHeartbeats 1000000 in
theorem put_known (B Q : Nat) (l : List En) (w : World) (h : BookAt B Q l w) (e : En) (he : e ∈ l) (hk : e.k.isNone = false) (g : Nat) : Calls Try.prog 13 #[ptr Q, clV e.c, ptr g] w fun x w' => x = .returned (.int .i64 7) ∧ Below w.heap.size w w' := by
  obtain ⟨mb, hmb⟩ := h.looks e.c (h.ent e he).fit
  rw [posE_in h.keys he] at hmb
  have HLo := Bx.mk hmb
  have HW : Bx (∀ W, Below w.heap.size w W → Calls Try.prog 38 #[.pointer (some ⟨e.p, 0, none⟩)] W fun x w' => x = .returned (.bool false) ∧ w' = W) := Bx.mk fun W hb => by
    have := wanted_any B e W ((h.ent e he).later hb)
    rw [hk] at this
    exact this
  clear h hmb he hk
  obtain ⟨c, p, s, k, a⟩ := e
  simp only at HLo HW ⊢
  obtain ⟨i, r, x, q⟩ := c
  unfold clV ptr at *
  unfold ptrO at HLo
  simp only at HLo ⊢
  have HBo : Bx ((w.alloc (.cells #[.int .i64 i, .int .i64 r, .int .i64 x, .int .i64 q] 34)).heap[w.heap.size]? = some (.cells #[.int .i64 i, .int .i64 r, .int .i64 x, .int .i64 q] 34 (0, 0))) := Bx.mk (hnew _ _ _ rfl)
  have HBe := Bx.mk (below_a (W := w) (.cells #[.int .i64 i, .int .i64 r, .int .i64 x, .int .i64 q] 34))
  go_enter Try.func13, Try.ntmps13
  go_upto_region 5 with fail
  generalize w.alloc (.cells #[.int .i64 i, .int .i64 r, .int .i64 x, .int .i64 q] 34) = w1 at *
  have R0 : Bx (Below w.heap.size w w1.drew ∧ w1.drew.heap[w.heap.size]? = some (.cells #[.int .i64 i, .int .i64 r, .int .i64 x, .int .i64 q] 34 (0, 0))) := Bx.mk ⟨HBe.out.drew, HBo.out⟩
  clear HBe HBo
  refine wp_region_noPanic ?_
  refine wp_region_held_drew (S := fun W => W.cell? ⟨Q, 0, none⟩ = some (.map mb) ∧ (W.rangeAt w.heap.size 0 [.int .i64 i, .int .i64 r, .int .i64 x, .int .i64 q] ∧ (Instr.lookup 69 (.map mb) (.agg #[.int .i64 i, .int .i64 r, .int .i64 x, .int .i64 q]) false).run Try.prog W = .ok (.pointer (some ⟨p, 0, none⟩)) W)) (by kernel_rfl) (⟨(HLo.out _ R0.out.1).1, row_rng15 (l := [.int .i64 i, .int .i64 r, .int .i64 x, .int .i64 q]) R0.out.2, (HLo.out _ R0.out.1).2.1⟩) (fun hHeld => ?_)
  refine takeL 0 (v := ?_) rfl (by kernel_rfl) (by kernel_rfl) (by kernel_rfl) (fun _ _ _ h => h) (Or.inl ⟨by rfl, ?_⟩) hHeld ?_
  rotate_left 1
  · (intro w hSw; go_simp; try with_reducible rfl)
  try simp only [Act.put, List.setIfInBounds_toArray, List.set_cons_zero, List.set_cons_succ]
  refine takeL 1 (v := ?_) rfl (by kernel_rfl) (by kernel_rfl) (by kernel_rfl) (fun _ _ _ h => h) (Or.inl ⟨by rfl, ?_⟩) hHeld ?_
  rotate_left 1
  · (intro w hSw; go_simp; try with_reducible rfl)
  try simp only [Act.put, List.setIfInBounds_toArray, List.set_cons_zero, List.set_cons_succ]
  refine takeL 2 (v := ?_) rfl (by kernel_rfl) (by kernel_rfl) (by kernel_rfl) (fun _ _ _ h => h) (Or.inl ⟨by rfl, ?_⟩) hHeld ?_
  rotate_left 1
  · (intro w hSw; go_simp; try with_reducible rfl)
  try simp only [Act.put, List.setIfInBounds_toArray, List.set_cons_zero, List.set_cons_succ]
  refine takeL 3 (v := ?_) rfl (by kernel_rfl) (by kernel_rfl) (by kernel_rfl) (fun _ _ _ h => h) (Or.inl ⟨by rfl, ?_⟩) hHeld ?_
  rotate_left 1
  · (intro w hSw; have h1 := hSw.1; go_simp; try with_reducible rfl)
  try simp only [Act.put, List.setIfInBounds_toArray, List.set_cons_zero, List.set_cons_succ]
  refine takeL 4 rfl (by kernel_rfl) (by kernel_rfl) (by kernel_rfl) (fun _ _ _ h => h) (yieldsIf_load_mid (by rfl) _ _ rfl _ _ rfl _ _ (fun w hSw => hSw.2.1) Try.underlying34 rfl (by kernel_rfl)) hHeld ?_
  try simp only [Act.put, List.setIfInBounds_toArray, List.set_cons_zero, List.set_cons_succ]
  refine takeL 5 (v := ?_) rfl (by kernel_rfl) (by kernel_rfl) (by kernel_rfl) (fun _ _ _ h => h) (Or.inl ⟨by rfl, ?_⟩) hHeld ?_
  rotate_left 1
  · (intro w hSw; have h3 := hSw.2.2; go_simp; try with_reducible rfl)
  try simp only [Act.put, List.setIfInBounds_toArray, List.set_cons_zero, List.set_cons_succ]
  refine takeL 6 (v := ?_) rfl (by kernel_rfl) (by kernel_rfl) (by kernel_rfl) (fun _ _ _ h => h) (Or.inl ⟨by rfl, ?_⟩) hHeld ?_
  rotate_left 1
  · (intro w hSw; go_simp; try with_reducible rfl)
  try simp only [Act.put, List.setIfInBounds_toArray, List.set_cons_zero, List.set_cons_succ]
  refine wpAnyH_done (by kernel_rfl) ?_ _
  refine NoPanic.normal ?_
  clear hHeld
  go_wp2_with fail
  refine (HW.out _ R0.out.1).mono ?_
  rintro e w2 ⟨rfl, hw⟩
  obtain rfl : w1.drew = w2 := hw.symm
  go_wp2
  go_ret
  exact ⟨rfl, R0.out.1⟩
set_option maxRecDepth 100000 in
set_option maxHeartbeats 1000000 in
theorem put_ok (B Q : Nat) (l : List En) (w : World) (h : BookAt B Q l w) (e : En) (he : e ∈ l) (hk : e.k.isNone = true) (g : Nat) (bs : List UInt8) (hv : IsKey w (ptr g) bs) (hbl : bs.length ≤ 1000) (hB : B ≤ w.heap.size) : Calls Try.prog 13 #[ptr Q, clV e.c, ptr g] w fun x w' => x = .returned (.int .i64 0) ∧ ∃ p, Keeps B Q (setC l ⟨e.c, p, Ws.zero, some bs, 0⟩) w w' := by
  obtain ⟨mb, hmb⟩ := h.looks e.c (h.ent e he).fit
  rw [posE_in h.keys he] at hmb
  have HLo := Bx.mk hmb
  have HW : Bx (∀ W, Below w.heap.size w W → Calls Try.prog 38 #[.pointer (some ⟨e.p, 0, none⟩)] W fun x w' => x = .returned (.bool true) ∧ w' = W) := Bx.mk fun W hb => by
    have := wanted_any B e W ((h.ent e he).later hb)
    rw [hk] at this
    exact this
  have HCp : Bx (∀ W, Below w.heap.size w W → Calls Try.prog 39 #[ptr g] W fun x w' => ∃ v', x = .returned v' ∧ KeyO w' W.heap.size v' bs ∧ Below W.heap.size W w') := Bx.mk fun W hb => copied15 bs _ W (hv.later hb) (by omega)
  have HKp : Bx (∀ W kv, Below w.heap.size w W → KeyO W w.heap.size kv bs → Calls Try.prog 33 #[ptr Q, clV e.c, ptr W.heap.size] (W.alloc (.cells #[.int .i64 0, .int .i64 0, .int .u64 0, kv, .int .i64 0] 80)) fun x w' => x = .returned (.tuple #[]) ∧ (∃ p, Keeps B Q (setC l ⟨e.c, p, Ws.zero, some bs, 0⟩) w w') ∧ KB B W w') := Bx.mk fun W kv hb hkv => by
    have hs : B ≤ W.heap.size := Nat.le_trans hB hb.size
    have hE : EntAt B (W.alloc (.cells #[.int .i64 0, .int .i64 0, .int .u64 0, kv, .int .i64 0] 80)) ⟨e.c, W.heap.size, Ws.zero, some bs, 0⟩ := ⟨⟨kv, hnew _ _ _ rfl, .inr ⟨bs, rfl, (hkv.weak hB).later (below_a _), hbl⟩⟩, zero_ok, hs, (h.ent e he).fit, by simp⟩
    refine (keep_old B Q l ⟨e.c, W.heap.size, Ws.zero, some bs, 0⟩ e he rfl _ ((h.later hb).later (below_a _)) hE (fun y hy => ?_)).mono ?_
    · have := ((h.later hb).ent y hy).lt
      show y.p ≠ W.heap.size
      omega
    · rintro x w' ⟨rfl, h1, h2⟩
      exact ⟨rfl, ⟨W.heap.size, h1, ((KB.of hb).trans (KB.of (below_a _))).trans h2⟩, (KB.of (below_a _)).trans h2⟩
  clear h hmb he hk hv hbl hB
  obtain ⟨c, p, s, k, a⟩ := e
  simp only at HLo HW HKp ⊢
  obtain ⟨i, r, x, q⟩ := c
  unfold clV ptr at *
  unfold ptrO at HLo
  simp only at HLo HKp ⊢
  have HBo : Bx ((w.alloc (.cells #[.int .i64 i, .int .i64 r, .int .i64 x, .int .i64 q] 34)).heap[w.heap.size]? = some (.cells #[.int .i64 i, .int .i64 r, .int .i64 x, .int .i64 q] 34 (0, 0))) := Bx.mk (hnew _ _ _ rfl)
  have HBe := Bx.mk (below_a (W := w) (.cells #[.int .i64 i, .int .i64 r, .int .i64 x, .int .i64 q] 34))
  go_enter Try.func13, Try.ntmps13
  go_upto_region 5 with fail
  generalize w.alloc (.cells #[.int .i64 i, .int .i64 r, .int .i64 x, .int .i64 q] 34) = w1 at *
  have R0 : Bx (Below w.heap.size w w1.drew ∧ w1.drew.heap[w.heap.size]? = some (.cells #[.int .i64 i, .int .i64 r, .int .i64 x, .int .i64 q] 34 (0, 0))) := Bx.mk ⟨HBe.out.drew, HBo.out⟩
  clear HBe HBo
  refine wp_region_noPanic ?_
  refine wp_region_held_drew (S := fun W => W.cell? ⟨Q, 0, none⟩ = some (.map mb) ∧ (W.rangeAt w.heap.size 0 [.int .i64 i, .int .i64 r, .int .i64 x, .int .i64 q] ∧ (Instr.lookup 69 (.map mb) (.agg #[.int .i64 i, .int .i64 r, .int .i64 x, .int .i64 q]) false).run Try.prog W = .ok (.pointer (some ⟨p, 0, none⟩)) W)) (by kernel_rfl) (⟨(HLo.out _ R0.out.1).1, row_rng15 (l := [.int .i64 i, .int .i64 r, .int .i64 x, .int .i64 q]) R0.out.2, (HLo.out _ R0.out.1).2.1⟩) (fun hHeld => ?_)
  refine takeL 0 (v := ?_) rfl (by kernel_rfl) (by kernel_rfl) (by kernel_rfl) (fun _ _ _ h => h) (Or.inl ⟨by rfl, ?_⟩) hHeld ?_
  rotate_left 1
  · (intro w hSw; go_simp; try with_reducible rfl)
  try simp only [Act.put, List.setIfInBounds_toArray, List.set_cons_zero, List.set_cons_succ]
  refine takeL 1 (v := ?_) rfl (by kernel_rfl) (by kernel_rfl) (by kernel_rfl) (fun _ _ _ h => h) (Or.inl ⟨by rfl, ?_⟩) hHeld ?_
  rotate_left 1
  · (intro w hSw; go_simp; try with_reducible rfl)
  try simp only [Act.put, List.setIfInBounds_toArray, List.set_cons_zero, List.set_cons_succ]
  refine takeL 2 (v := ?_) rfl (by kernel_rfl) (by kernel_rfl) (by kernel_rfl) (fun _ _ _ h => h) (Or.inl ⟨by rfl, ?_⟩) hHeld ?_
  rotate_left 1
  · (intro w hSw; go_simp; try with_reducible rfl)
  try simp only [Act.put, List.setIfInBounds_toArray, List.set_cons_zero, List.set_cons_succ]
  refine takeL 3 (v := ?_) rfl (by kernel_rfl) (by kernel_rfl) (by kernel_rfl) (fun _ _ _ h => h) (Or.inl ⟨by rfl, ?_⟩) hHeld ?_
  rotate_left 1
  · (intro w hSw; have h1 := hSw.1; go_simp; try with_reducible rfl)
  try simp only [Act.put, List.setIfInBounds_toArray, List.set_cons_zero, List.set_cons_succ]
  refine takeL 4 rfl (by kernel_rfl) (by kernel_rfl) (by kernel_rfl) (fun _ _ _ h => h) (yieldsIf_load_mid (by rfl) _ _ rfl _ _ rfl _ _ (fun w hSw => hSw.2.1) Try.underlying34 rfl (by kernel_rfl)) hHeld ?_
  try simp only [Act.put, List.setIfInBounds_toArray, List.set_cons_zero, List.set_cons_succ]
  refine takeL 5 (v := ?_) rfl (by kernel_rfl) (by kernel_rfl) (by kernel_rfl) (fun _ _ _ h => h) (Or.inl ⟨by rfl, ?_⟩) hHeld ?_
  rotate_left 1
  · (intro w hSw; have h3 := hSw.2.2; go_simp; try with_reducible rfl)
  try simp only [Act.put, List.setIfInBounds_toArray, List.set_cons_zero, List.set_cons_succ]
  refine takeL 6 (v := ?_) rfl (by kernel_rfl) (by kernel_rfl) (by kernel_rfl) (fun _ _ _ h => h) (Or.inl ⟨by rfl, ?_⟩) hHeld ?_
  rotate_left 1
  · (intro w hSw; go_simp; try with_reducible rfl)
  try simp only [Act.put, List.setIfInBounds_toArray, List.set_cons_zero, List.set_cons_succ]
  refine wpAnyH_done (by kernel_rfl) ?_ _
  refine NoPanic.normal ?_
  clear hHeld
  go_wp2_with fail
  refine (HW.out _ R0.out.1).mono ?_
  rintro e w2 ⟨rfl, hw⟩
  obtain rfl : w1.drew = w2 := hw.symm
  clear HW HLo
  generalize w1.drew = v1 at *
  go_upto_region 8 with fail
  have R1 : Bx (Below w.heap.size w v1.drew ∧ v1.drew.heap[w.heap.size]? = some (.cells #[.int .i64 i, .int .i64 r, .int .i64 x, .int .i64 q] 34 (0, 0))) := Bx.mk ⟨R0.out.1.drew, R0.out.2⟩
  clear R0
  refine wp_region_noPanic ?_
  refine wp_region_held_drew (S := fun W => W.rangeAt w.heap.size 0 [.int .i64 i, .int .i64 r, .int .i64 x, .int .i64 q]) (by kernel_rfl) (row_rng15 (l := [.int .i64 i, .int .i64 r, .int .i64 x, .int .i64 q]) R1.out.2) (fun hHeld => ?_)
  generalize v1.drew = W0 at *
  refine takeL 0 (v := ?_) rfl (by kernel_rfl) (by kernel_rfl) (by kernel_rfl) (fun _ _ _ h => h) (Or.inl ⟨by rfl, ?_⟩) hHeld ?_
  rotate_left 1
  · (intro w hSw; go_simp; try with_reducible rfl)
  try simp only [Act.put, List.setIfInBounds_toArray, List.set_cons_zero, List.set_cons_succ]
  refine takeL 1 rfl (by kernel_rfl) (by kernel_rfl) (by kernel_rfl) (fun _ _ _ h => h) (yieldsIf_load_mid (by rfl) _ _ rfl _ _ rfl _ _ (fun w hSw => hSw) Try.underlying34 rfl (by kernel_rfl)) hHeld ?_
  try simp only [Act.put, List.setIfInBounds_toArray, List.set_cons_zero, List.set_cons_succ]
  refine takeL 2 (v := ?_) rfl (by kernel_rfl) (by kernel_rfl) (by kernel_rfl) (fun _ _ _ h => h) (Or.inl ⟨by rfl, ?_⟩) hHeld ?_
  rotate_left 1
  · (intro w hSw; go_simp; try with_reducible rfl)
  try simp only [Act.put, List.setIfInBounds_toArray, List.set_cons_zero, List.set_cons_succ]
  refine stepL 3 (by kernel_rfl) rfl (fun K hK => ?_)
  go_simp
  refine (HCp.out _ R1.out.1).mono ?_
  rintro e W1 ⟨kv, rfl, hk, hb⟩
  show K _ _
  have R2 : Bx (KeyO W1 w.heap.size kv bs ∧ Below w.heap.size w W1 ∧ W1.heap[w.heap.size]? = some (.cells #[.int .i64 i, .int .i64 r, .int .i64 x, .int .i64 q] 34 (0, 0))) := Bx.mk ⟨hk.weak R1.out.1.size, R1.out.1.trans (hb.mono R1.out.1.size), (hb.block _ (Array.getElem?_eq_some_iff.1 R1.out.2).1).trans R1.out.2⟩
  obtain ⟨kp, ks, rfl, -⟩ := hk
  refine hK.out _ _ (row_rng15 (l := [.int .i64 i, .int .i64 r, .int .i64 x, .int .i64 q]) R2.out.2.2) (fun hHeld => ?_)
  clear hK K hb R1 HCp
  try simp only [Act.put, List.setIfInBounds_toArray, List.set_cons_zero, List.set_cons_succ]
  refine takeL 4 rfl (by kernel_rfl) (by kernel_rfl) (by kernel_rfl) (fun _ _ _ h => h) (yieldsIf_build (by rfl) 80 _ rfl #[.int .i64 0, .int .i64 0, .int .u64 0, .pointer (some ⟨kp, 0, none⟩), .int .i64 0] (by kernel_rfl)) hHeld ?_
  try simp only [Act.put, List.setIfInBounds_toArray, List.set_cons_zero, List.set_cons_succ]
  refine stepL 5 (by kernel_rfl) rfl (fun K hK => ?_)
  go_simp
  have R3 : Bx ((W1.alloc (.cells #[.int .i64 0, .int .i64 0, .int .u64 0, .pointer (some ⟨kp, 0, none⟩), .int .i64 0] 80)).heap[w.heap.size]? = some (.cells #[.int .i64 i, .int .i64 r, .int .i64 x, .int .i64 q] 34 (0, 0))) := Bx.mk ((hold _ _ _ (Array.getElem?_eq_some_iff.1 R2.out.2.2).1).trans R2.out.2.2)
  refine hK.out _ _ (row_rng15 (l := [.int .i64 i, .int .i64 r, .int .i64 x, .int .i64 q]) R3.out) (fun hHeld => ?_)
  clear hK K
  try simp only [Act.put, List.setIfInBounds_toArray, List.set_cons_zero, List.set_cons_succ]
  refine stepL 6 (by kernel_rfl) rfl (fun K hK => ?_)
  go_simp
  refine (HKp.out W1 _ R2.out.2.1 R2.out.1).mono ?_
  rintro e W2 ⟨rfl, hp, hk⟩
  show K _ _
  have R4 := Bx.mk hp
  refine hK.out _ _ (row_rng15 (l := [.int .i64 i, .int .i64 r, .int .i64 x, .int .i64 q]) (hk.block _ _ R2.out.2.2 (.inr (hard_cells (by decide) (by decide))))) (fun hHeld => ?_)
  clear hK K hk hp
  try simp only [Act.put, List.setIfInBounds_toArray, List.set_cons_zero, List.set_cons_succ]
  refine wpAnyH_done (by kernel_rfl) ?_ _
  refine NoPanic.normal ?_
  clear hHeld
  go_wp2
  go_ret
  exact ⟨rfl, R4.out⟩
end Go.Proofs.Ytdbdpehagkglfaa
namespace Go.Proofs.Ytdbdpehagkglfaa
open Go Go.RowKit Go.Sort Go.Shelf
theorem encC_len (c : Cl) : (encC c).length = 4 := by simp [encC, clC]
theorem encC_one (c : Cl) : ∀ u ∈ encC c, u.oneCell' = true := fun u hu => by
  simp [encC, clC] at hu
  rcases hu with rfl | rfl | rfl | rfl <;> rfl
theorem RowC.form {w : World} {v : Value} {ss : List Cl} (h : RowC w v ss) : ∃ a cap, v = .slice a ss.length cap := by
  rcases h with ⟨h1, h2⟩ | ⟨g, cap, hv, _⟩
  · exact ⟨none, 0, by rw [h2, h1]; rfl⟩
  · exact ⟨_, cap, hv⟩
theorem RowC.at_ {w : World} {a : Option Addr} {n cap : Nat} {ss : List Cl} (h : RowC w (.slice a n cap) ss) (k : Nat) (hk : k < ss.length) : ∃ g, a = some ⟨g, 0, none⟩ ∧ n = ss.length ∧ w.rangeAt g (k * 4) [.int .i64 (ss.getD k c0).id, .int .i64 (ss.getD k c0).ro, .int .i64 (ss.getD k c0).ex, .int .i64 (ss.getD k c0).se] := by
  rcases h with ⟨h1, h2⟩ | ⟨g, cap', hv, hr⟩
  · rw [h1] at hk; simp at hk
  · injection hv with h1 h2 h3
    exact ⟨g, h1, h2, hr k hk⟩
set_option maxRecDepth 100000 in
set_option maxHeartbeats 2000000 in
theorem index15 (c : Cl) (ss : List Cl) (v : Value) (w : World) (hv : RowC w v ss) (hn : ss.length ≤ 1000) : Calls Try.prog 60 #[v, clV c] w fun e w' => ∃ n : Int, e = .returned (.int .i64 n) ∧ decide (0 ≤ n) = decide (c ∈ ss) ∧ Below w.heap.size w w' := by
  obtain ⟨a, cap, rfl⟩ := hv.form
  have HV := Bx.mk hv
  obtain ⟨X, hX⟩ : ∃ X, w.heap.size = X := ⟨_, rfl⟩
  obtain ⟨n, hns⟩ : ∃ n, ss.length = n := ⟨_, rfl⟩
  rw [hns] at HV hn ⊢
  have HN := Bx.mk hns
  clear hv hns
  obtain ⟨i, r, x, q⟩ := c
  have HBo : Bx ((w.alloc (.cells #[.int .i64 i, .int .i64 r, .int .i64 x, .int .i64 q] 34)).rangeAt X 0 [.int .i64 i, .int .i64 r, .int .i64 x, .int .i64 q] ∧ RowC (w.alloc (.cells #[.int .i64 i, .int .i64 r, .int .i64 x, .int .i64 q] 34)) (.slice a n cap) ss ∧ Below w.heap.size w (w.alloc (.cells #[.int .i64 i, .int .i64 r, .int .i64 x, .int .i64 q] 34))) := Bx.mk ⟨hX ▸ box_rng w ⟨i, r, x, q⟩ 34, HV.out.later (below_a _), below_a _⟩
  unfold clV
  simp only
  clear HV
  go_enter Try.func60, Try.ntmps60
  go_wp2
  generalize w.alloc (.cells #[.int .i64 i, .int .i64 r, .int .i64 x, .int .i64 q] 34) = w1 at *
  go_loopw [8] (fun j wr => ∃ k : Nat, k ≤ n ∧ j = .int .i64 (k : Int) ∧ Bx (∀ y ∈ ss.take k, (⟨i, r, x, q⟩ : Cl) ≠ y) ∧ (wr.rangeAt X 0 [.int .i64 i, .int .i64 r, .int .i64 x, .int .i64 q] ∧ RowC wr (.slice a n cap) ss) ∧ Below w.heap.size w wr) (fun j _ => n - (intOf j).toNat)
  case atStart => exact ⟨0, Nat.zero_le _, rfl, Bx.mk (by simp), ⟨HBo.out.1, HBo.out.2.1⟩, HBo.out.2.2⟩
  case round =>
    obtain ⟨k, hk, rfl, HI, HR1, HB1⟩ := hrel
    by_cases hlt : k < n
    · have hlt' : (k : Int) < (n : Int) := by omega
      obtain ⟨g, rfl, -, hrg⟩ := HR1.2.at_ k (by rw [HN.out]; exact hlt)
      have R0 : Bx ((wr.drew.rangeAt X 0 [.int .i64 i, .int .i64 r, .int .i64 x, .int .i64 q] ∧ RowC wr.drew (.slice (some ⟨g, 0, none⟩) n cap) ss) ∧ wr.drew.rangeAt g (k * 4) [.int .i64 (ss.getD k c0).id, .int .i64 (ss.getD k c0).ro, .int .i64 (ss.getD k c0).ex, .int .i64 (ss.getD k c0).se] ∧ Below w.heap.size w wr.drew) := Bx.mk ⟨⟨HR1.1, HR1.2.later (Below.refl _ wr).drew⟩, hrg, HB1.drew⟩
      have htk : ss.take (k + 1) = ss.take k ++ [ss.getD k c0] := by
        rw [List.take_add_one, show ss[k]? = some (ss.getD k c0) by simp [show k < ss.length by rw [HN.out]; exact hlt]]
        rfl
      clear HR1 HB1 hrg
      by_cases hit : (⟨i, r, x, q⟩ : Cl) = ss.getD k c0
      · have HH : Bx (decide ((0 : Int) ≤ (k : Int)) = decide ((⟨i, r, x, q⟩ : Cl) ∈ ss) ∧ True) := Bx.mk ⟨by
          rw [decide_eq_true (by omega), decide_eq_true]
          rw [hit]
          have hks : k < ss.length := by rw [HN.out]; exact hlt
          rw [show ss.getD k c0 = ss[k] by simp [hks]]
          exact List.getElem_mem hks, trivial⟩
        clear HI htk
        generalize ss.getD k c0 = y at *
        obtain ⟨y0, y1, y2, y3⟩ := y
        simp only at R0
        injection hit with e0 e1 e2 e3
        subst e0 e1 e2 e3
        go_upto_region 4 with fail
        refine wp_region_noPanic ?_
        refine wp_region_held_drew (S := fun W => W.rangeAt X 0 [.int .i64 i, .int .i64 r, .int .i64 x, .int .i64 q] ∧ W.rangeAt g (k * 4) [.int .i64 i, .int .i64 r, .int .i64 x, .int .i64 q]) (by kernel_rfl) (⟨R0.out.1.1, R0.out.2.1⟩) (fun hHeld => ?_)
        refine takeL 0 rfl (by kernel_rfl) (by kernel_rfl) (by kernel_rfl) (fun _ _ _ h => h) (yieldsIf_load_mid (by rfl) _ _ rfl _ _ rfl _ _ (fun w hSw => hSw.1) Try.underlying34 rfl (by kernel_rfl)) hHeld ?_
        try simp only [Act.put, List.setIfInBounds_toArray, List.set_cons_zero, List.set_cons_succ]
        refine takeL 1 (v := ?_) rfl (by kernel_rfl) (by kernel_rfl) (by kernel_rfl) (fun _ _ _ h => h) (Or.inl ⟨by rfl, ?_⟩) hHeld ?_
        rotate_left 1
        · (intro w hSw; go_simp; try with_reducible rfl)
        try simp only [Act.put, List.setIfInBounds_toArray, List.set_cons_zero, List.set_cons_succ]
        refine takeL 2 (v := ?_) rfl (by kernel_rfl) (by kernel_rfl) (by kernel_rfl) (fun _ _ _ h => h) (Or.inl ⟨by rfl, ?_⟩) hHeld ?_
        rotate_left 1
        · (intro w hSw; go_simp; try with_reducible rfl)
        try simp only [Act.put, List.setIfInBounds_toArray, List.set_cons_zero, List.set_cons_succ]
        refine takeL 3 (v := ?_) rfl (by kernel_rfl) (by kernel_rfl) (by kernel_rfl) (fun _ _ _ h => h) (Or.inl ⟨by rfl, ?_⟩) hHeld ?_
        rotate_left 1
        · (intro w hSw; go_simp; try with_reducible rfl)
        try simp only [Act.put, List.setIfInBounds_toArray, List.set_cons_zero, List.set_cons_succ]
        refine takeL 4 rfl (by kernel_rfl) (by kernel_rfl) (by kernel_rfl) (fun _ _ _ h => h) (yieldsIf_load_mid (by rfl) _ _ rfl _ _ rfl _ _ (fun w hSw => hSw.2) Try.underlying34 rfl (by kernel_rfl)) hHeld ?_
        try simp only [Act.put, List.setIfInBounds_toArray, List.set_cons_zero, List.set_cons_succ]
        refine takeL 5 (v := ?_) rfl (by kernel_rfl) (by kernel_rfl) (by kernel_rfl) (fun _ _ _ h => h) (Or.inl ⟨by rfl, ?_⟩) hHeld ?_
        rotate_left 1
        · (intro w hSw; go_simp; try with_reducible rfl)
        try simp only [Act.put, List.setIfInBounds_toArray, List.set_cons_zero, List.set_cons_succ]
        refine wpAnyH_done (by kernel_rfl) ?_ _
        refine NoPanic.normal ?_
        clear hHeld
        go_wp2
        go_ret
        exact ⟨(k : Int), rfl, by first | exact HH.out.1 | exact decide_eq_decide.1 HH.out.1, by first | exact R0.out.2.2 | (rw [← hX]; exact R0.out.2.2)⟩
      · have HH : Bx (True ∧ Bx (∀ y ∈ ss.take (k + 1), (⟨i, r, x, q⟩ : Cl) ≠ y)) := Bx.mk ⟨trivial, Bx.mk fun y hy => by
          rw [htk] at hy
          rcases List.mem_append.1 hy with hy | hy
          · exact HI.out y hy
          · have : y = ss.getD k c0 := by simpa using hy
            rw [this]
            exact hit⟩
        clear HI htk
        generalize ss.getD k c0 = y at *
        obtain ⟨y0, y1, y2, y3⟩ := y
        simp only at R0
        have HM := Bx.mk hit
        clear hit
        go_upto_region 4 with fail
        refine wp_region_noPanic ?_
        refine wp_region_held_drew (S := fun W => W.rangeAt X 0 [.int .i64 i, .int .i64 r, .int .i64 x, .int .i64 q] ∧ W.rangeAt g (k * 4) [.int .i64 y0, .int .i64 y1, .int .i64 y2, .int .i64 y3]) (by kernel_rfl) (⟨R0.out.1.1, R0.out.2.1⟩) (fun hHeld => ?_)
        refine takeL 0 rfl (by kernel_rfl) (by kernel_rfl) (by kernel_rfl) (fun _ _ _ h => h) (yieldsIf_load_mid (by rfl) _ _ rfl _ _ rfl _ _ (fun w hSw => hSw.1) Try.underlying34 rfl (by kernel_rfl)) hHeld ?_
        try simp only [Act.put, List.setIfInBounds_toArray, List.set_cons_zero, List.set_cons_succ]
        refine takeL 1 (v := ?_) rfl (by kernel_rfl) (by kernel_rfl) (by kernel_rfl) (fun _ _ _ h => h) (Or.inl ⟨by rfl, ?_⟩) hHeld ?_
        rotate_left 1
        · (intro w hSw; go_simp; try with_reducible rfl)
        try simp only [Act.put, List.setIfInBounds_toArray, List.set_cons_zero, List.set_cons_succ]
        refine takeL 2 (v := ?_) rfl (by kernel_rfl) (by kernel_rfl) (by kernel_rfl) (fun _ _ _ h => h) (Or.inl ⟨by rfl, ?_⟩) hHeld ?_
        rotate_left 1
        · (intro w hSw; go_simp; try with_reducible rfl)
        try simp only [Act.put, List.setIfInBounds_toArray, List.set_cons_zero, List.set_cons_succ]
        refine takeL 3 (v := ?_) rfl (by kernel_rfl) (by kernel_rfl) (by kernel_rfl) (fun _ _ _ h => h) (Or.inl ⟨by rfl, ?_⟩) hHeld ?_
        rotate_left 1
        · (intro w hSw; go_simp; try with_reducible rfl)
        try simp only [Act.put, List.setIfInBounds_toArray, List.set_cons_zero, List.set_cons_succ]
        refine takeL 4 rfl (by kernel_rfl) (by kernel_rfl) (by kernel_rfl) (fun _ _ _ h => h) (yieldsIf_load_mid (by rfl) _ _ rfl _ _ rfl _ _ (fun w hSw => hSw.2) Try.underlying34 rfl (by kernel_rfl)) hHeld ?_
        try simp only [Act.put, List.setIfInBounds_toArray, List.set_cons_zero, List.set_cons_succ]
        refine takeL 5 (v := ?_) rfl (by kernel_rfl) (by kernel_rfl) (by kernel_rfl) (fun _ _ _ h => h) (Or.inl ⟨by rfl, ?_⟩) hHeld ?_
        rotate_left 1
        · (intro w hSw; have hm := HM.out; go_simp; show _ = Result.ok (Next.value (Value.bool false)) w; (repeat' split) <;> simp_all)
        try simp only [Act.put, List.setIfInBounds_toArray, List.set_cons_zero, List.set_cons_succ]
        refine wpAnyH_done (by kernel_rfl) ?_ _
        refine NoPanic.normal ?_
        clear hHeld
        go_wp2
        go_roundw
        case rel => exact ⟨k + 1, by omega, by go_num, HH.out.2, R0.out.1, R0.out.2.2⟩
        case measure => simp [intOf]; omega
    · have ek : k = n := by omega
      have HD : Bx (decide ((0 : Int) ≤ -1) = decide ((⟨i, r, x, q⟩ : Cl) ∈ ss)) := Bx.mk (by
        rw [decide_eq_false (by omega), decide_eq_false]
        intro hm
        have h1 := HI.out
        rw [ek, ← HN.out, List.take_length] at h1
        exact h1 _ hm rfl)
      have hlt' : ¬ (k : Int) < (n : Int) := by omega
      clear ek HI
      go_wp2
      go_ret
      exact ⟨-1, rfl, by first | exact HD.out | exact decide_eq_decide.1 HD.out, by first | exact HB1 | (rw [← hX]; exact HB1)⟩
set_option maxRecDepth 100000 in
set_option maxHeartbeats 2000000 in
theorem contains15 (c : Cl) (ss : List Cl) (v : Value) (w : World) (hv : RowC w v ss) (hn : ss.length ≤ 1000) : Calls Try.prog 45 #[v, clV c] w fun e w' => e = .returned (.bool (decide (c ∈ ss))) ∧ Below w.heap.size w w' := by
  obtain ⟨i, r, x, q⟩ := c
  have HI : Bx (∀ W, Below w.heap.size w W → Calls Try.prog 60 #[v, .agg #[.int .i64 i, .int .i64 r, .int .i64 x, .int .i64 q]] W fun e w' => ∃ n : Int, e = .returned (.int .i64 n) ∧ decide (0 ≤ n) = decide ((⟨i, r, x, q⟩ : Cl) ∈ ss) ∧ Below W.heap.size W w') := Bx.mk fun W hb => index15 ⟨i, r, x, q⟩ ss v W (hv.later hb) hn
  obtain ⟨a, cap, rfl⟩ := hv.form
  obtain ⟨D, hD⟩ : ∃ D, decide ((⟨i, r, x, q⟩ : Cl) ∈ ss) = D := ⟨_, rfl⟩
  rw [hD] at HI ⊢
  generalize ss.length = n at *
  clear hv hn hD
  unfold clV
  simp only
  have HBe := Bx.mk (below_a (W := w) (.cells #[.int .i64 i, .int .i64 r, .int .i64 x, .int .i64 q] 34))
  go_enter Try.func45, Try.ntmps45
  go_wp2_with fail
  refine (HI.out _ HBe.out).mono ?_
  rintro e w2 ⟨n', rfl, hd, hb⟩
  have H2 := Bx.mk (HBe.out.trans (hb.mono HBe.out.size))
  have HD := Bx.mk hd
  clear hb HBe HI hd
  go_wp2
  go_ret
  exact ⟨by first | rfl | (rw [HD.out]; rfl), H2.out⟩
set_option maxRecDepth 100000 in
set_option maxHeartbeats 2000000 in
theorem sortRow (base : Nat) (v : Value) (ss : List Cl) (w : World) (h : OwnG 34 4 encC w base v ss) (hn : ss.length ≤ 1000) (hb : base ≤ w.heap.size) : Calls Try.prog 53 #[v, .func (.func 54) #[] #[]] w fun e w' => e = .returned (.tuple #[]) ∧ RowC w' v (sortC ss) ∧ Below base w w' := by
  rcases h.2 with ⟨rfl, h0⟩ | ⟨g, cap, cur, rfl, hbg, hg, h1, h2, h3, h4⟩
  · have hss : ss = [] := List.length_eq_zero_iff.1 h0
    subst hss
    have hs := AnyF.slices_SortFunc_none Try.sortL none 0 (.func (.func 54) #[] #[]) w
    change Calls Try.prog 53 _ _ _ at hs
    refine hs.mono ?_
    rintro e w2 ⟨rfl, rfl⟩
    exact ⟨rfl, .inl ⟨by simp [sortC], rfl⟩, Below.refl _ _⟩
  · have hH := holds_row (base := base) (g := g) (cap := cap) (ss := ss) h
    have hgl := (Array.getElem?_eq_some_iff.1 hg).1
    have hsz : ss.length < 4611686018427387904 := by omega
    have hs := AnyQ.slices_SortFunc_total Try.sortL 4 Try.isAgg34 Try.sizeOf34 encC (fun x => by simp [encC, clC]) (fun x u hu => by simp [encC, clC] at hu; rcases hu with rfl | rfl | rfl | rfl <;> rfl) cmpC cmp_swo 54 #[] g 0 cap ss.toArray w (enters_of Try.func54 (by kernel_rfl) rfl) (cmp_lays g 0 _ w) hH hgl (by simpa using hsz) (fun x y a b => by
      rw [lt_less] at a b
      rcases less_cases x y with h | h | h
      · rw [h] at a; cases a
      · exact h
      · rw [h] at b; cases b)
    change Calls Try.prog 53 #[.slice (some ⟨g, 0, none⟩) ss.length cap, .func (.func 54) #[] #[]] _ _ at hs
    refine hs.mono ?_
    rintro e w2 ⟨rfl, m, os, hw⟩
    have hw2 : w2 = sortWorldK encC 4 w g 0 m (sortC ss).toArray os := hw
    rw [hw2]
    exact ⟨rfl, row_holds (cap := cap) (holdsK_sortWorldK_c encC 4 w g 0 ss.toArray (sortC ss).toArray m os hH hgl (by simp [sortC_length])) (show ss.length = (sortC ss).length by rw [sortC_length]), below_sortW w g 0 m (sortC ss).toArray os hbg hb⟩
end Go.Proofs.Ytdbdpehagkglfaa
namespace Go.Proofs.Ytdbdpehagkglfaa
open Go Go.RowKit Go.Sort Go.Shelf Go.Maps
theorem ranges_map {W : World} {M R n : Nat} {D : DataW Unit} {left : Lit → Bool} {cnt : Nat} (h : W.ranges Try.prog 34 RPp M R n D left cnt) : (∃ es clock, W.heap[M]? = some (.map es clock)) ∧ ∃ a b c d, W.heap[R]? = some (.mapIter a b c d) := by
  obtain ⟨es, clock, since, seen, c0, h1, _, _, _, h2, _⟩ := h
  exact ⟨⟨es, clock, h1⟩, ⟨_, _, _, _, h2⟩⟩
theorem ranges_row {W W1 : World} {M R n : Nat} {D : DataW Unit} {left : Lit → Bool} {cnt : Nat} (h : W.ranges Try.prog 34 RPp M R n D left cnt) {base : Nat} {v : Value} {ss : List Cl} (ho : OwnG 34 4 encC W base v ss) (hg : W.grownBy W1 v.ownBlock) : W1.ranges Try.prog 34 RPp M R n D left cnt := by
  obtain ⟨⟨es, clock, h1⟩, a, b, c, d, h2⟩ := ranges_map h
  refine h.kept hg (fun e => ?_) (fun e => ?_)
  · obtain ⟨cs, fr, hk⟩ := ho.kind M e.symm
    rw [h1] at hk
    cases hk
  · obtain ⟨cs, fr, hk⟩ := ho.kind R e.symm
    rw [h2] at hk
    cases hk
/-- A row of claims that is not older. -/
def RowF (base : Nat) (W : World) (v : Value) (ss : List Cl) : Prop := RowC W v ss ∧ ∀ g, v.ownBlock = some g → base ≤ g
theorem RowF.later {base : Nat} {W W1 : World} {v : Value} {ss : List Cl} (h : RowF base W v ss) (hb : Below W.heap.size W W1) : RowF base W1 v ss := ⟨h.1.later hb, h.2⟩
theorem RowF.aside {base p : Nat} {W W1 : World} {v : Value} {ss : List Cl} (h : RowF base W v ss) (hg : W.grownBy W1 (some p)) (hp : p < base) : RowF base W1 v ss := by
  refine ⟨?_, h.2⟩
  rcases h.1 with h1 | ⟨g, cap, hv, hr⟩
  · exact .inl h1
  · refine .inr ⟨g, cap, hv, fun j hj i u hu => ?_⟩
    have hc := hr j hj i u hu
    have hge := h.2 g (by rw [hv]; rfl)
    have hlt := World.block_lt_of_cell? _ _ hc
    have := cell_aside (Y := g) (j := j * 4 + i) hg ⟨hlt, by omega⟩
    exact this.trans hc
/-- A row of claims stays where a map changes. -/
theorem RowC.map_aside {M : Nat} {W W1 : World} {v : Value} {ss : List Cl} (h : RowC W v ss) (hg : W.grownBy W1 (some M)) (hm : ∃ es clock, W.heap[M]? = some (.map es clock)) : RowC W1 v ss := by
  rcases h with h1 | ⟨g, cap, hv, hr⟩
  · exact .inl h1
  · refine .inr ⟨g, cap, hv, fun j hj i u hu => ?_⟩
    have hc := hr j hj i u hu
    have hlt := World.block_lt_of_cell? _ _ hc
    obtain ⟨es, clock, hb⟩ := hm
    have hne : g ≠ M := fun e => by
      have h2 : W.cell? ⟨g, j * 4 + i, none⟩ = some u := hc
      unfold World.cell? at h2
      simp only [e, hb] at h2
      cases h2
    exact (cell_aside (Y := g) (j := j * 4 + i) hg ⟨hlt, hne⟩).trans hc
/-- Whose they are, of those that are looked for. -/
def lookedC (f : Cl × Nat → Bool) (ps : List (Cl × Nat)) : List Cl := (ps.filter f).map (·.1)
theorem lookedC_snoc (f : Cl × Nat → Bool) (ps : List (Cl × Nat)) (x : Cl × Nat) : lookedC f (ps ++ [x]) = lookedC f ps ++ if f x then [x.1] else [] := by
  unfold lookedC
  rw [List.filter_append, List.map_append]
  cases h : f x <;> simp [h]
theorem lookedC_len (f : Cl × Nat → Bool) (ps : List (Cl × Nat)) : (lookedC f ps).length ≤ ps.length := by
  unfold lookedC
  rw [List.length_map]
  exact List.length_filter_le _ _
set_option maxRecDepth 100000 in
set_option maxHeartbeats 4000000 in
theorem whose_nil (Q g : Nat) (lb : Array Value) (w : World) (hM : w.cell? ⟨Q, 0, none⟩ = some (.map none)) : Calls Try.prog 35 #[.pointer (some ⟨Q, 0, none⟩), .func (.func g) #[] lb] w fun e w' => ∃ v, e = .returned v ∧ RowF w.heap.size w' v [] ∧ Below w.heap.size w w' := by
  have hrg := run_range_nilMap (P := Try.prog) w 69 34 75 Try.underlying69
  have hnx : ∀ ty, (Instr.next (.pointer (some ⟨w.heap.size, 0, none⟩)) false ty).run Try.prog (w.alloc (.mapIter none 0 #[] 0)) = _ := fun ty => run_next_nilMap w ty 0 0 #[]
  have HS := Bx.mk (sortRow (w.alloc (.mapIter none 0 #[] 0)).heap.size (.slice none 0 0) [] (w.alloc (.mapIter none 0 #[] 0)) (OwnG.nil _ _ _ _ _) (by simp) (Nat.le_refl _))
  go_enter Try.func35, Try.ntmps35
  go_wp2
  refine wp_loop_rounds 1 ?_
  rw [rounds_succ]
  go_wp2_with fail
  refine HS.out.mono ?_
  rintro e w2 ⟨rfl, h1, h2⟩
  have H2 := Bx.mk (And.intro h1 h2)
  clear h1 h2 HS hrg hnx hM
  go_wp2
  go_ret
  exact ⟨_, rfl, ⟨by simpa [sortC] using H2.out.1, fun g hg => by cases hg⟩, (below_a _).trans (H2.out.2.mono (by simp))⟩
set_option maxRecDepth 100000 in
set_option maxHeartbeats 4000000 in
theorem whose_map (Q M g : Nat) (lb : Array Value) (L : List (Cl × Nat)) (f : Cl × Nat → Bool) (w : World) (hM : w.cell? ⟨Q, 0, none⟩ = some (.map (some M))) (m : MapL w M L) (hL : L.length ≤ 1000) (eg : ∀ args w, (callFunc g args).run Try.prog w = .ok (.enter g args) w)
    (hf : ∀ x ∈ L, ∀ W, Below w.heap.size w W → Calls Try.prog g (#[clV x.1, ptr x.2] ++ lb) W fun e W' => e = .returned (.bool (f x)) ∧ Below W.heap.size W W') :
    Calls Try.prog 35 #[.pointer (some ⟨Q, 0, none⟩), .func (.func g) #[] lb] w fun e w' => ∃ v ps, e = .returned v ∧ ps.Perm L ∧ RowF w.heap.size w' v (sortC (lookedC f ps)) ∧ Below w.heap.size w w' := by
  obtain ⟨D0, hown, hkd, hsz⟩ := m.ownsP hL
  have HM := Bx.mk m
  have HKD := Bx.mk hkd
  have HSZ := Bx.mk hsz
  have HF := Bx.mk hf
  have HL := Bx.mk hL
  obtain ⟨nn, hnn⟩ : ∃ nn, L.length = nn := ⟨_, rfl⟩
  rw [hnn] at hown HSZ
  have HN := Bx.mk hnn
  clear hkd hsz m hnn hf hL
  go_enter Try.func35, Try.ntmps35
  go_wp2_with (first
    | (at_range; refine wpList_range_own _ rfl _ 69 rfl 34 75 clKeyed Try.underlying69 _ M nn _ rfl hown ?_; intro w0 hrg0 hg0 hs0)
    | fail)
  go_frame
  have HB0 : Bx (Below w.heap.size w w0) := Bx.mk ⟨hg0.os, hg0.tape, hg0.output, hg0.size, fun i hi => hg0.block i hi (by simp)⟩
  go_loopw [5] (fun v wr => ∃ (left : Lit → Bool) (cnt : Nat) (ps : List (Cl × Nat)), wr.ranges Try.prog 34 RPp M w.heap.size nn D0 left cnt ∧ ps.length + cnt ≤ nn ∧ Bx (CollP L left ps ∧ OwnG 34 4 encC wr w.heap.size v (lookedC f ps) ∧ Below w.heap.size w wr))
    (fun _ wr => wr.rangeLeft M w.heap.size)
  case atStart => exact ⟨_, _, [], hrg0, by rw [HSZ.out]; simp, Bx.mk ⟨CollP.start HKD.out, OwnG.nil _ _ _ _ _, HB0.out⟩⟩
  case round =>
    obtain ⟨left, cnt, ps, hrg, hcs, hC⟩ := hrel
    obtain ⟨av, cv, rfl, -, -⟩ := hC.out.2.1.form
    obtain ⟨nl, hnl⟩ : ∃ nl, (lookedC f ps).length = nl := ⟨_, rfl⟩
    rw [hnl] at hC ⊢
    have HNl := Bx.mk hnl
    clear hnl
    go_wp2_with (first
      | (at_next; refine wpList_next_ranges (α := Value) (β := Value) _ rfl _ rfl 34 clKeyed RPp id id (fun key kl hk => ⟨key, rfl⟩) (fun v _ _ => ⟨v, rfl⟩) M w.heap.size nn _ _ _ rfl hrg ?_ ?_)
      | fail)
    · intro hc0 hl0
      have HE : Bx (ps.Perm L) := Bx.mk (hC.out.1.perm HM.out.wf HM.out.nd hl0)
      have HS := Bx.mk (sortRow w.heap.size _ _ wr hC.out.2.1 (Nat.le_trans (lookedC_len f ps) (by have := HE.out.length_eq; have := HL.out; omega)) (by have := hC.out.2.2.size; omega))
      have HFr := Bx.mk fun g hg => (hC.out.2.1.lt g hg).2
      clear hl0 hrg hcs hc0
      go_wp2_with fail
      refine HS.out.mono ?_
      rintro e w2 ⟨rfl, h1, h2⟩
      have H2 : Bx (RowC w2 (.slice av nl cv) (sortC (lookedC f ps)) ∧ Below w.heap.size w w2) := Bx.mk ⟨h1, hC.out.2.2.trans h2⟩
      clear h1 h2 HS hC
      go_wp2
      go_ret
      exact ⟨_, ps, rfl, HE.out, ⟨H2.out.1, HFr.out⟩, H2.out.2⟩
    · intro vk vu kl yd yp w2 cnt2 hkey hlk hv hat hrg2 hlt hg2 hs2 hen
      obtain ⟨xx, hxl, e1, e2, hC2⟩ := hC.out.1.step HM.out.nd HKD.out hkey hlk hv hat
      obtain rfl : vk = clV xx.1 := e1
      obtain rfl : vu = ptr xx.2 := e2
      have HC2 := Bx.mk hC2
      have HX := Bx.mk hxl
      have HO2 : Bx (OwnG 34 4 encC w2 w.heap.size (.slice av nl cv) (lookedC f ps) ∧ Below w.heap.size w w2) := Bx.mk ⟨hC.out.2.1.aside (fun Mx cs fr e => by
        injection e with e
        subst e
        obtain ⟨_, a, b, c, d, h2⟩ := ranges_map hrg
        rw [h2]
        intro h3
        cases h3) hg2, hC.out.2.2.grown hg2 hC.out.2.2.size (fun k e => by injection e with e; subst e; exact Nat.le_refl _)⟩
      have HSn := Bx.mk (lookedC_snoc f ps xx)
      have HFx : Bx (∀ W, Below w.heap.size w W → Calls Try.prog g (#[clV xx.1, ptr xx.2] ++ lb) W fun e W' => e = .returned (.bool (f xx)) ∧ Below W.heap.size W W') := Bx.mk (HF.out xx hxl)
      have HLt := Bx.mk hlt
      have HOld := Bx.mk hrg
      clear hkey hlk hv hat hg2 hs2 hC2 hxl hC hlt hrg
      obtain ⟨b, hb⟩ : ∃ b, f xx = b := ⟨_, rfl⟩
      rw [hb] at HFx HSn
      obtain ⟨⟨i, r, x, q⟩, p⟩ := xx
      unfold clV ptr at *
      simp only [id_eq] at hen HFx HSn ⊢
      have HB3 : Bx ((w2.alloc (.cells #[.int .i64 i, .int .i64 r, .int .i64 x, .int .i64 q] 34)).rangeAt w2.heap.size 0 [.int .i64 i, .int .i64 r, .int .i64 x, .int .i64 q] ∧ OwnG 34 4 encC (w2.alloc (.cells #[.int .i64 i, .int .i64 r, .int .i64 x, .int .i64 q] 34)) w.heap.size (.slice av nl cv) (lookedC f ps) ∧ Below w.heap.size w (w2.alloc (.cells #[.int .i64 i, .int .i64 r, .int .i64 x, .int .i64 q] 34))) := Bx.mk ⟨box_rng w2 ⟨i, r, x, q⟩ 34, HO2.out.1.later (below_a _), HO2.out.2.alloc HO2.out.2.size _⟩
      have hrg3 := hrg2.alloc (.cells #[.int .i64 i, .int .i64 r, .int .i64 x, .int .i64 q] 34)
      have hrB := HB3.out.1
      clear hrg2 HO2
      cases b with
      | false =>
        go_wp2_with (go_at_fn g; refine (HFx.out _ HB3.out.2.2).mono ?_; rintro e w3 ⟨rfl, hb3⟩; have hrg4 := hrg3.kept (kb_below none hb3) (by simp) (by simp); have H4 := Bx.mk (And.intro (HB3.out.2.1.later hb3) (HB3.out.2.2.trans (hb3.mono HB3.out.2.2.size))); clear hb3 hrg3 hrB HB3)
        go_roundw
        case rel => exact ⟨_, cnt2, ps ++ [(⟨i, r, x, q⟩, p)], hrg4, by have := HLt.out; simp; omega, Bx.mk ⟨HC2.out, by rw [HSn.out]; simpa using H4.out.1, H4.out.2⟩⟩
        case measure => rw [hrg4.left_eq, HOld.out.left_eq]; exact HLt.out
      | true =>
        go_wp2_with (first
          | (go_at_fn g; refine (HFx.out _ HB3.out.2.2).mono ?_; rintro e w3 ⟨rfl, hb3⟩; have hrg4 := hrg3.kept (kb_below none hb3) (by simp) (by simp); have hr4 := rng_later hrB hb3; have H4 := Bx.mk (And.intro (HB3.out.2.1.later hb3) (HB3.out.2.2.trans (hb3.mono HB3.out.2.2.size))); clear hb3 hrg3 hrB HB3)
          | (refine wpList_load_mid rfl _ _ rfl _ _ rfl _ _ hr4 Try.underlying34 rfl (by kernel_rfl) ?_)
          | (refine wpList_apG (T := 34) (n := 4) (enc := encC) elCl rfl _ _ rfl w.heap.size (.slice av nl cv) (lookedC f ps) (by rfl) (H4.out.1.later (below_a (.cells #[.int .i64 i, .int .i64 r, .int .i64 x, .int .i64 q] 34))) w3.heap.size 0 ⟨i, r, x, q⟩ 1 (by rfl) (box_rng w3 ⟨i, r, x, q⟩ 34) (encC_len _) (encC_one _) (Nat.le_trans (lookedC_len f ps) (by have := HL.out; have := HN.out; omega)) (by have := H4.out.2.size; rw [World.size_alloc]; omega) ?_; intro v5 w5 ho5 hg5; have hrg5 := ranges_row (hrg4.alloc (.cells #[.int .i64 i, .int .i64 r, .int .i64 x, .int .i64 q] 34)) (H4.out.1.later (below_a (.cells #[.int .i64 i, .int .i64 r, .int .i64 x, .int .i64 q] 34))) hg5; have H5 := Bx.mk (And.intro ho5 ((H4.out.2.alloc H4.out.2.size (.cells #[.int .i64 i, .int .i64 r, .int .i64 x, .int .i64 q] 34)).trans ((H4.out.1.later (below_a (.cells #[.int .i64 i, .int .i64 r, .int .i64 x, .int .i64 q] 34))).below hg5 (by have := H4.out.2.size; rw [World.size_alloc]; omega)))); clear ho5 hg5 hrg4 hr4 H4))
        go_roundw
        case rel => exact ⟨_, cnt2, ps ++ [(⟨i, r, x, q⟩, p)], hrg5, by have := HLt.out; simp; omega, Bx.mk ⟨HC2.out, by rw [HSn.out]; simpa using H5.out.1, H5.out.2⟩⟩
        case measure => rw [hrg5.left_eq, HOld.out.left_eq]; exact HLt.out
end Go.Proofs.Ytdbdpehagkglfaa
namespace Go.Proofs.Ytdbdpehagkglfaa
open Go Go.RowKit
/-- Whose they are, in order. -/
def whoE (f : En → Bool) (l : List En) : List Cl := sortC ((l.filter f).map (·.c))
theorem looked_prs {l : List En} (hk : l.Pairwise (fun x y => x.c ≠ y.c)) (f : En → Bool) : lookedC (fun x => (l.find? fun e => decide (e.c = x.1)).elim false f) (prsE l) = (l.filter f).map (·.c) := by
  unfold lookedC prsE
  rw [List.filter_map, List.map_map]
  have h1 : ∀ e ∈ l, ((fun x : Cl × Nat => (l.find? fun e => decide (e.c = x.1)).elim false f) ∘ fun e : En => (e.c, e.p)) e = f e := fun e he => by
    have h2 : (l.find? fun y => decide (y.c = e.c)) = some e := by
      cases h3 : l.find? fun y => decide (y.c = e.c) with
      | none =>
        have := List.find?_eq_none.1 h3 e he
        simp at this
      | some y =>
        have h4 := List.mem_of_find?_eq_some h3
        have h5 := List.find?_some h3
        rw [pw_inj hk he h4 (by simpa using h5)]
    simp only [Function.comp, h2, Option.elim]
  rw [List.filter_congr h1]
  rfl
theorem lookedC_perm (f : Cl × Nat → Bool) {a b : List (Cl × Nat)} (h : a.Perm b) : (lookedC f a).Perm (lookedC f b) := (h.filter f).map _
set_option maxRecDepth 100000 in
set_option maxHeartbeats 4000000 in
theorem BookAt.whose {B Q : Nat} {l : List En} {w : World} (h : BookAt B Q l w) (hl : l.length ≤ 1000) (g : Nat) (lb : Array Value) (f : En → Bool) (eg : ∀ args w, (callFunc g args).run Try.prog w = .ok (.enter g args) w)
    (hf : ∀ e ∈ l, ∀ W, Below w.heap.size w W → Calls Try.prog g (#[clV e.c, ptr e.p] ++ lb) W fun x W' => x = .returned (.bool (f e)) ∧ Below W.heap.size W W') :
    Calls Try.prog 35 #[ptr Q, .func (.func g) #[] lb] w fun x w' => ∃ v, x = .returned v ∧ RowF w.heap.size w' v (whoE f l) ∧ Below w.heap.size w w' := by
  obtain ⟨mb, ml, h1, h2, h3⟩ := h.row
  have hM : w.cell? ⟨Q, 0, none⟩ = some (.map mb) := by rw [cell_of_row _ _ _ _ _ _ h1]; rfl
  cases mb with
  | none =>
    have h4 := MapL.none_nil h2
    subst h4
    have h5 : l = [] := List.map_eq_nil_iff.1 h3.symm.eq_nil
    subst h5
    refine (whose_nil Q g lb w hM).mono ?_
    rintro x w' ⟨v, rfl, h6, h7⟩
    exact ⟨v, rfl, by simpa [whoE, sortC] using h6, h7⟩
  | some M =>
    obtain ⟨ml, -, -, h6, h7⟩ := h.mapOf hM
    have hlen : ml.length ≤ 1000 := by rw [h7.length_eq]; simpa [prsE] using hl
    refine (whose_map Q M g lb ml (fun x => (l.find? fun e => decide (e.c = x.1)).elim false f) w hM h6 hlen eg (fun x hx W hb => ?_)).mono ?_
    · obtain ⟨e, he, rfl⟩ := List.mem_map.1 (h7.mem_iff.1 hx)
      have h8 := hf e he W hb
      have h9 : (l.find? fun y => decide (y.c = e.c)) = some e := by
        cases h3 : l.find? fun y => decide (y.c = e.c) with
        | none =>
          have := List.find?_eq_none.1 h3 e he
          simp at this
        | some y =>
          have h4 := List.mem_of_find?_eq_some h3
          have h5 := List.find?_some h3
          rw [pw_inj h.keys he h4 (by simpa using h5)]
      simp only [h9, Option.elim]
      exact h8
    · rintro x w' ⟨v, ps, rfl, hp, h8, h9⟩
      refine ⟨v, rfl, ?_, h9⟩
      rw [sortC_of_perm (lookedC_perm _ (hp.trans h7)), looked_prs h.keys] at h8
      exact h8
set_option maxRecDepth 100000 in
set_option maxHeartbeats 4000000 in
theorem wanted1_any (B : Nat) (e : En) (w : World) (h : EntAt B w e) : Calls Try.prog 49 #[clV e.c, ptr e.p] w fun x w' => x = .returned (.bool (e.k.isNone)) ∧ Below w.heap.size w w' := by
  have HW : Bx (∀ W, Below w.heap.size w W → Calls Try.prog 38 #[.pointer (some ⟨e.p, 0, none⟩)] W fun x w' => x = .returned (.bool e.k.isNone) ∧ w' = W) := Bx.mk fun W hb => wanted_any B e W (h.later hb)
  clear h
  obtain ⟨⟨i, r, x, q⟩, p, s, k, a⟩ := e
  unfold clV ptr
  simp only at HW ⊢
  generalize k.isNone = b at *
  have HBe := Bx.mk (below_a (W := w) (.cells #[.int .i64 i, .int .i64 r, .int .i64 x, .int .i64 q] 34))
  go_enter Try.func49, Try.ntmps49
  go_wp2_with fail
  refine (HW.out _ HBe.out).mono ?_
  rintro e w2 ⟨rfl, hw⟩
  obtain rfl : (w.alloc (.cells #[.int .i64 i, .int .i64 r, .int .i64 x, .int .i64 q] 34)) = w2 := hw.symm
  go_wp2
  go_ret
  exact ⟨by first | rfl | (cases b <;> rfl), HBe.out⟩
set_option maxRecDepth 100000 in
set_option maxHeartbeats 4000000 in
theorem known1_any (B : Nat) (e : En) (w : World) (h : EntAt B w e) : Calls Try.prog 51 #[clV e.c, ptr e.p] w fun x w' => x = .returned (.bool (!e.k.isNone)) ∧ Below w.heap.size w w' := by
  have HW : Bx (∀ W, Below w.heap.size w W → Calls Try.prog 38 #[.pointer (some ⟨e.p, 0, none⟩)] W fun x w' => x = .returned (.bool e.k.isNone) ∧ w' = W) := Bx.mk fun W hb => wanted_any B e W (h.later hb)
  clear h
  obtain ⟨⟨i, r, x, q⟩, p, s, k, a⟩ := e
  unfold clV ptr
  simp only at HW ⊢
  generalize k.isNone = b at *
  have HBe := Bx.mk (below_a (W := w) (.cells #[.int .i64 i, .int .i64 r, .int .i64 x, .int .i64 q] 34))
  go_enter Try.func51, Try.ntmps51
  go_wp2_with fail
  refine (HW.out _ HBe.out).mono ?_
  rintro e w2 ⟨rfl, hw⟩
  obtain rfl : (w.alloc (.cells #[.int .i64 i, .int .i64 r, .int .i64 x, .int .i64 q] 34)) = w2 := hw.symm
  go_wp2
  go_ret
  exact ⟨by first | rfl | (cases b <;> rfl), HBe.out⟩
set_option maxRecDepth 100000 in
set_option maxHeartbeats 4000000 in
theorem known15_any (B Q : Nat) (l : List En) (w : World) (h : BookAt B Q l w) (hl : l.length ≤ 1000) : Calls Try.prog 28 #[ptr Q] w fun x w' => ∃ v, x = .returned v ∧ RowF w.heap.size w' v (whoE (fun e => !e.k.isNone) l) ∧ Below w.heap.size w w' := by
  have HN := Bx.mk (h.whose hl 51 #[] (fun e => !e.k.isNone) (enters_of Try.func51 (by kernel_rfl) rfl) (fun e he W hb => known1_any B e W ((h.later hb).ent e he)))
  clear h hl
  unfold ptr at *
  go_enter Try.func28, Try.ntmps28
  go_wp2_with fail
  refine HN.out.mono ?_
  rintro e w2 ⟨v, rfl, h1, h2⟩
  have HB := Bx.mk (And.intro h1 h2)
  clear h1 h2 HN
  go_wp2
  go_ret
  exact ⟨v, rfl, HB.out⟩
set_option maxRecDepth 100000 in
set_option maxHeartbeats 4000000 in
theorem wanted15_any (B Q : Nat) (l : List En) (w : World) (h : BookAt B Q l w) (hl : l.length ≤ 1000) : Calls Try.prog 25 #[ptr Q] w fun x w' => ∃ v, x = .returned v ∧ RowF w.heap.size w' v (whoE (fun e => e.k.isNone) l) ∧ Below w.heap.size w w' := by
  have HN := Bx.mk (h.whose hl 49 #[] (fun e => e.k.isNone) (enters_of Try.func49 (by kernel_rfl) rfl) (fun e he W hb => wanted1_any B e W ((h.later hb).ent e he)))
  clear h hl
  unfold ptr at *
  go_enter Try.func25, Try.ntmps25
  go_wp2_with fail
  refine HN.out.mono ?_
  rintro e w2 ⟨v, rfl, h1, h2⟩
  have HB := Bx.mk (And.intro h1 h2)
  clear h1 h2 HN
  go_wp2
  go_ret
  exact ⟨v, rfl, HB.out⟩
end Go.Proofs.Ytdbdpehagkglfaa
