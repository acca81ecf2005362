/-
  The walk of Tag.
-/
import Derived.Test.YtkfgpnigeknhmaaDoorMc
import Derived.Test.YtkfgpnigeknhmaaDoorRu
namespace Go.Proofs.YtkfgpnigeknhmaaDoor
open Go Go.RowKit
theorem Parts.apart {w W : World} {v : Value} {pss : List (List UInt8)} (h : Parts w v pss) (hb : Below w.heap.size w W) (b : Nat) (hB : w.heap.size ≤ b) : PartsAt W b v pss := by
  obtain ⟨a, cap, hv, hr⟩ := h
  refine ⟨a, cap, hv, fun hp => ?_⟩
  obtain ⟨p, o, ha, hcell⟩ := hr hp
  refine ⟨p, o, ?_, ha, fun j hj => ?_⟩
  · obtain ⟨x, hx, -⟩ := hcell 0 hp
    have := World.block_lt_of_cell? _ _ hx
    simp only at this
    omega
  · obtain ⟨x, hx, hxb⟩ := hcell j hj
    exact ⟨x, by rw [hb.cell (p := ⟨p, o + j, none⟩) (World.block_lt_of_cell? _ _ hx)]; exact hx, hxb.apart hb b hB⟩
theorem one_row {W : World} {c b n : Nat} {l : List UInt8} {t : TypeId} (h : W.heap[c]? = some (.cells (u8s l) t (0, 0))) (hn : l.length = n) (hne : c ≠ b) (hb : b < W.heap.size) :
    PartsAt (W.alloc (.cells #[.slice (some ⟨c, 0, none⟩) n n] 23)) b (.slice (some ⟨W.heap.size, 0, none⟩) 1 1) [l] := by
  refine ⟨_, 1, rfl, fun _ => ⟨W.heap.size, 0, by omega, rfl, fun j hj => ?_⟩⟩
  have hj0 : j = 0 := by simp at hj; omega
  subst hj0
  have hc : c < W.heap.size := (Array.getElem?_eq_some_iff.1 h).1
  refine ⟨.slice (some ⟨c, 0, none⟩) n n, by rw [cell_of_row _ _ _ _ _ _ (hnew _ _ _ rfl)]; rfl, some ⟨c, 0, none⟩, n, by show _ = Value.slice _ l.length n; rw [hn], by show l.length ≤ n; omega, fun _ => ⟨c, 0, hne, rfl, fun i hi => ?_⟩⟩
  rw [cell_of_row _ _ _ _ _ _ ((hold _ _ _ hc).trans h), Nat.zero_add]
  exact u8s_get _ _ hi
theorem two_parts {W : World} {s1 s2 : Value} {l1 l2 : List UInt8} (h1 : Bytes W s1 l1) (h2 : Bytes W s2 l2) : Parts (W.alloc (.cells #[s1, s2] 23)) (.slice (some ⟨W.heap.size, 0, none⟩) 2 2) [l1, l2] := by
  refine ⟨_, 2, rfl, fun _ => ⟨W.heap.size, 0, rfl, fun j hj => ?_⟩⟩
  have hj0 : j = 0 ∨ j = 1 := by simp at hj; omega
  rcases hj0 with rfl | rfl
  · exact ⟨s1, by rw [cell_of_row _ _ _ _ _ _ (hnew _ _ _ rfl)]; rfl, h1.later (below_a _)⟩
  · exact ⟨s2, by rw [cell_of_row _ _ _ _ _ _ (hnew _ _ _ rfl)]; rfl, h2.later (below_a _)⟩
/-- The memory of Tag: the result's place, the key's block, the running digest. -/
structure Tg (w : World) (F : Nat) (kb : List UInt8) (W : World) : Prop where
  below : Below w.heap.size w W
  res : W.heap[w.heap.size]? = some (.cells (u8s (List.replicate 32 0)) 26 (0, 0))
  row : W.heap[F]? = some (.cells (u8s kb) 37 (0, 0))
  lt : w.heap.size < F
theorem Tg.size {w W : World} {F : Nat} {kb : List UInt8} (h : Tg w F kb W) : F < W.heap.size := (Array.getElem?_eq_some_iff.1 h.row).1
theorem Tg.later {w W W1 : World} {F : Nat} {kb : List UInt8} (h : Tg w F kb W) (hb : Below W.heap.size W W1) : Tg w F kb W1 :=
  ⟨h.below.trans (hb.mono h.below.size), by rw [hb.block _ (by have := h.size; have := h.lt; omega)]; exact h.res, by rw [hb.block _ h.size]; exact h.row, h.lt⟩
theorem Tg.kb {w W W1 : World} {F b : Nat} {kb : List UInt8} (h : Tg w F kb W) (hk : W.grownBy W1 (some b)) (hb : F < b) : Tg w F kb W1 :=
  ⟨below_kb h.below h.below.size hk (by have := h.lt; omega), by rw [hk.block _ (by have := h.size; have := h.lt; omega) (by intro e; injection e with e; have := h.lt; omega)]; exact h.res, by rw [hk.block _ h.size (by intro e; injection e with e; omega)]; exact h.row, h.lt⟩
set_option maxRecDepth 100000 in
set_option maxHeartbeats 2000000 in
theorem tag_any (key : List UInt8) (pss : List (List UInt8)) (v vp : Value) (w : World) (hv : Bytes w v key) (hp : Parts w vp pss) (hl : key.length ≤ 1000000) (hl2 : pss.length ≤ 1000000) (hl3 : pss.flatten.length ≤ 100000000) (hTab : Tab w) (hg : 0 < w.heap.size) :
    Calls Tryd.prog 28 #[v, vp] w fun e w' => e = .returned (.agg (u8s (hmac key pss.flatten))) ∧ Below w.heap.size w w' := by
  have HV := Bx.mk hv
  have HP := Bx.mk hp
  have HL := Bx.mk (And.intro hl (And.intro hl2 hl3))
  have HA := Bx.mk hTab
  obtain ⟨a, cap, rfl, -⟩ := hv
  obtain ⟨n, hn⟩ : ∃ n, key.length = n := ⟨_, rfl⟩
  rw [hn] at HV ⊢
  obtain ⟨ap, cp, rfl, -⟩ := hp
  obtain ⟨np, hnp⟩ : ∃ n, pss.length = n := ⟨_, rfl⟩
  rw [hnp] at HP ⊢
  clear hn hnp hl hl2 hl3 hTab
  obtain ⟨zc, hzc⟩ : ∃ zc, stC (List.replicate 8 0) (List.replicate 64 0) 0 = zc := ⟨_, rfl⟩
  have hzv : ∀ W : World, (zeroValue 42).run Tryd.prog W = .ok (.agg zc) W := fun W => by rw [← hzc, zero73]; kernel_rfl
  obtain ⟨z32, hz32⟩ : ∃ z, u8s (List.replicate 32 0) = z := ⟨_, rfl⟩
  have hz32v : ∀ W : World, (zeroValue 26).run Tryd.prog W = .ok (.agg z32) W := fun W => by rw [← hz32, zero32]; kernel_rfl
  obtain ⟨z64, hz64⟩ : ∃ z, u8s (List.replicate 64 0) = z := ⟨_, rfl⟩
  have hz64v : ∀ W : World, (zeroValue 37).run Tryd.prog W = .ok (.agg z64) W := fun W => by rw [← hz64, zero64]; kernel_rfl
  have HZ := Bx.mk (And.intro hzc (And.intro hz32 hz64))
  clear hzc hz32 hz64
  obtain ⟨hm, hhm⟩ : ∃ hm, hmac key pss.flatten = hm := ⟨_, rfl⟩
  have HHM : Bx (sha (turn 92 (keyB key) ++ sha (turn 54 (keyB key) ++ pss.flatten)) = hm) := Bx.mk hhm
  rw [hhm]
  clear hhm
  go_enter Tryd.func28, Tryd.ntmps28
  go_wp2_with fail
  have H0 : Bx (Below w.heap.size w (w.alloc (.cells z32 26)) ∧ (w.alloc (.cells z32 26)).heap[w.heap.size]? = some (.cells (u8s (List.replicate 32 0)) 26 (0, 0)) ∧ w.heap.size < (w.alloc (.cells z32 26)).heap.size) := Bx.mk ⟨below_a _, by rw [hnew _ _ _ rfl, HZ.out.2.1], by simp⟩
  generalize w.alloc (.cells z32 26) = w0 at *
  refine (filled_any key _ w0 (HV.out.later H0.out.1) HL.out.1 (HA.out.later H0.out.1 hg) (Nat.lt_of_lt_of_le hg H0.out.1.size)).mono ?_
  rintro e w1 ⟨rfl, hb1⟩
  have H1 : Bx (Below w.heap.size w w1 ∧ w1.heap[w.heap.size]? = some (.cells (u8s (List.replicate 32 0)) 26 (0, 0)) ∧ w.heap.size < w1.heap.size) := Bx.mk ⟨H0.out.1.trans (hb1.mono H0.out.1.size), by rw [hb1.block _ H0.out.2.2]; exact H0.out.2.1, Nat.lt_of_lt_of_le H0.out.2.2 hb1.size⟩
  clear hb1 H0
  have HKL : Bx ((keyB key).length = 64) := Bx.mk (keyB_length key)
  generalize keyB key = kb at *
  have HI : Bx ((Tryd.prog.info? 37).map (·.size) = some (u8s kb).size) := Bx.mk (by rw [u8s_size, HKL.out]; kernel_rfl)
  have HZ6 : Bx ((u8s kb).size = z64.size) := Bx.mk (by rw [u8s_size, HKL.out, ← HZ.out.2.2]; rfl)
  go_upto_region 3 with (refine wpList_store_var rfl 37 _ _ rfl w1 _ _ rfl (by rfl) (u8s kb) (by rfl) HZ6.out HI.out (one_u8s _) ?_; intro w2 hb2 hr2 hl2)
  have H2 : Bx (Tg w w1.heap.size kb w2) := Bx.mk ⟨H1.out.1.trans (hb2.mono H1.out.1.size), by rw [hb2.block _ H1.out.2.2]; exact H1.out.2.1, hr2, H1.out.2.2⟩
  clear hb2 hr2 hl2 H1 HZ6
  generalize w1.heap.size = F at *
  have HT3 : Bx (Took (w2.alloc (.cells zc 42)) w2.heap.size 42 [] (w2.alloc (.cells zc 42))) := Bx.mk ⟨_, _, by rw [hnew _ _ _ rfl, ← HZ.out.1]; rfl, StIs.zero, kb_refl _ _⟩
  have H3 : Bx (Tg w F kb (w2.alloc (.cells zc 42)) ∧ F < w2.heap.size) := Bx.mk ⟨H2.out.later (below_a _), H2.out.size⟩
  generalize w2.alloc (.cells zc 42) = w3 at *
  generalize w2.heap.size = Rb at *
  clear H2
  have HTu : Bx (∀ W, Calls Tryd.prog 47 #[.agg (u8s kb), .int .u8 54] W fun e w' => e = .returned (.slice (some ⟨W.heap.size, 0, none⟩) 64 64) ∧ Below W.heap.size W w' ∧ w'.heap[W.heap.size]? = some (.cells (u8s (turn 54 kb)) 37 (0, 0))) := Bx.mk (fun W => turned_any kb 54 W HKL.out)
  have HTv : Bx (∀ W, Calls Tryd.prog 47 #[.agg (u8s kb), .int .u8 92] W fun e w' => e = .returned (.slice (some ⟨W.heap.size, 0, none⟩) 64 64) ∧ Below W.heap.size W w' ∧ w'.heap[W.heap.size]? = some (.cells (u8s (turn 92 kb)) 37 (0, 0))) := Bx.mk (fun W => turned_any kb 92 W HKL.out)
  go_wp2_with (refine wpList_load_row rfl 37 _ rfl F (by rfl) _ _ _ _ H3.out.1.row Tryd.underlying37 rfl HI.out ?_)
  refine (HTu.out _).mono ?_
  rintro e w4 ⟨rfl, hb4, hr4⟩
  have H4 : Bx (Tg w F kb w4 ∧ F < Rb ∧ Took w4 Rb 42 [] w4 ∧ w4.heap[w3.heap.size]? = some (.cells (u8s (turn 54 kb)) 37 (0, 0)) ∧ Rb ≠ w3.heap.size ∧ Rb < w4.heap.size) := Bx.mk ⟨H3.out.1.later hb4, H3.out.2, HT3.out.later hb4, hr4, by have := HT3.out.lt; omega, Nat.lt_of_lt_of_le HT3.out.lt hb4.size⟩
  clear hb4 hr4 H3 HT3 HTu
  generalize w3.heap.size = T1 at *
  have HTL : Bx ((turn 54 kb).length = 64) := Bx.mk (by rw [turn_length]; exact HKL.out)
  generalize turn 54 kb = t54 at *
  go_wp2_with fail
  refine (add_any Rb [] [t54] _ _ (H4.out.2.2.1.later (below_a _)) (one_row H4.out.2.2.2.1 HTL.out (fun e => H4.out.2.2.2.2.1 e.symm) H4.out.2.2.2.2.2) (by simp) (by rw [List.flatten_singleton, HTL.out]; simp) (HA.out.later (H4.out.1.later (below_a _)).below hg) (by have := H4.out.2.1; have := H4.out.1.lt; omega)).mono ?_
  rintro e w5 ⟨rfl, ht5⟩
  have H5 : Bx (Tg w F kb w5 ∧ F < Rb ∧ Took w5 Rb 42 t54 w5) := Bx.mk ⟨(H4.out.1.later (below_a _)).kb ht5.kept H4.out.2.1, H4.out.2.1, by have h := ht5.self; rw [List.flatten_singleton, List.nil_append] at h; exact h⟩
  clear ht5 H4
  go_wp2_with fail
  refine (add_any Rb t54 pss _ _ H5.out.2.2 (HP.out.apart H5.out.1.below Rb (by have := H5.out.2.1; have := H5.out.1.lt; omega)) (by have := HL.out; omega) (by have := HL.out; rw [HTL.out]; omega) (HA.out.later H5.out.1.below hg) (by have := H5.out.2.1; have := H5.out.1.lt; omega)).mono ?_
  rintro e w6 ⟨rfl, ht6⟩
  have H6 : Bx (Tg w F kb w6 ∧ Took w6 Rb 42 (t54 ++ pss.flatten) w6) := Bx.mk ⟨H5.out.1.kb ht6.kept H5.out.2.1, ht6.self⟩
  clear ht6 H5
  go_wp2_with fail
  refine (sum_any Rb (t54 ++ pss.flatten) _ H6.out.2 (by have := HL.out; rw [List.length_append, HTL.out]; omega) (HA.out.later H6.out.1.below hg) (Nat.lt_of_lt_of_le hg H6.out.1.below.size)).mono ?_
  rintro e w7 ⟨rfl, hb7⟩
  have H7 : Bx (Tg w F kb w7) := Bx.mk (H6.out.1.later hb7)
  clear hb7 H6 HTL
  have HIL : Bx ((sha (t54 ++ pss.flatten)).length = 32) := Bx.mk (sha_length _)
  generalize sha (t54 ++ pss.flatten) = inn at *
  have HI3 : Bx ((Tryd.prog.info? 26).map (·.size) = some (u8s inn).size) := Bx.mk (by rw [u8s_size, HIL.out]; kernel_rfl)
  have HZ3 : Bx ((u8s inn).size = z32.size) := Bx.mk (by rw [u8s_size, HIL.out, ← HZ.out.2.1]; rfl)
  go_upto_region 4 with (refine wpList_store_var rfl 26 _ _ rfl w7 _ _ rfl (by rfl) (u8s inn) (by rfl) HZ3.out HI3.out (one_u8s _) ?_; intro w8 hb8 hr8 hl8)
  have H8 : Bx (Tg w F kb w8 ∧ w8.heap[w7.heap.size]? = some (.cells (u8s inn) 26 (0, 0)) ∧ w7.heap.size < w8.heap.size) := Bx.mk ⟨H7.out.later hb8, hr8, hl8⟩
  clear hb8 hr8 hl8 H7 HI3 HZ3 hzv hz32v hz64v HZ
  generalize w7.heap.size = Ib at *
  have hu64 := Tryd.underlying37
  have hi64 : (Tryd.prog.info? 37).map (·.size) = some (vs8 kb).length := by rw [vs8_length, ← u8s_size]; exact HI.out
  have HMk : Bx (∀ W, Tg w F kb W → W.rangeAt F 0 (vs8 kb) ∧ Bx (Below w.heap.size w W)) := Bx.mk (fun W h => ⟨range_u8 h.row, ⟨h.below⟩⟩)
  have H9 : Bx (Tg w F kb w8.drew ∧ w8.drew.heap[Ib]? = some (.cells (u8s inn) 26 (0, 0)) ∧ Ib < w8.drew.heap.size) := Bx.mk ⟨H8.out.1.later (Below.refl _ _).drew, H8.out.2.1, H8.out.2.2⟩
  have HTw : Bx (∀ W, Calls Tryd.prog 47 #[.agg (vs8 kb).toArray, .int .u8 92] W fun e w' => e = .returned (.slice (some ⟨W.heap.size, 0, none⟩) 64 64) ∧ Below W.heap.size W w' ∧ w'.heap[W.heap.size]? = some (.cells (u8s (turn 92 kb)) 37 (0, 0))) := HTv
  have HTL : Bx ((turn 92 kb).length = 64) := Bx.mk (by rw [turn_length]; exact HKL.out)
  have HML : Bx (hm.length = 32) := Bx.mk (by rw [← HHM.out, sha_length])
  generalize turn 92 kb = t92 at *
  clear H8 HTv
  refine wp_region_noPanic ?_
  refine wp_region_held_drew (S := fun W => W.rangeAt F 0 (vs8 kb) ∧ Bx (Below w.heap.size w W)) (by kernel_rfl) (HMk.out _ H9.out.1) (fun hHeld => ?_)
  refine takeL 0 rfl (by kernel_rfl) (by kernel_rfl) (by kernel_rfl) (fun _ _ _ h => h) (yieldsIf_load_mid (by rfl) _ _ rfl _ _ rfl _ _ (fun w hSw => hSw.1) hu64 rfl hi64) hHeld ?_
  try simp only [Act.put, List.setIfInBounds_toArray, List.set_cons_zero, List.set_cons_succ]
  refine takeL 2 (v := ?_) rfl (by kernel_rfl) (by kernel_rfl) (by kernel_rfl) (fun _ _ _ h => h) (Or.inl ⟨by rfl, ?_⟩) hHeld ?_
  rotate_left 1
  · (intro w hSw; go_simp; try with_reducible rfl)
  try simp only [Act.put, List.setIfInBounds_toArray, List.set_cons_zero, List.set_cons_succ]
  refine stepL 1 (by kernel_rfl) rfl (fun K hK => ?_)
  go_simp
  refine (HTw.out _).mono ?_
  rintro e W1 ⟨rfl, hb1, hr1⟩
  show K _ _
  have Ha : Bx (Tg w F kb W1 ∧ Bytes W1 (.slice (some ⟨w8.drew.heap.size, 0, none⟩) 64 64) t92 ∧ Bytes W1 (.slice (some ⟨Ib, 0, none⟩) 32 32) inn) := Bx.mk ⟨H9.out.1.later hb1, row_bytes hr1 HTL.out, (row_bytes H9.out.2.1 HIL.out).later hb1⟩
  clear hb1 hr1
  refine hK.out _ _ (HMk.out _ Ha.out.1) (fun hHeld => ?_)
  clear hK K
  try simp only [Act.put, List.setIfInBounds_toArray, List.set_cons_zero, List.set_cons_succ]
  refine stepL 3 (by kernel_rfl) rfl (fun K hK => ?_)
  go_simp
  refine hK.out _ _ (HMk.out _ (Ha.out.1.later (below_a _))) (fun hHeld => ?_)
  clear hK K
  try simp only [Act.put, List.setIfInBounds_toArray, List.set_cons_zero, List.set_cons_succ]
  have Hb : Bx (Tg w F kb (W1.alloc (.cells #[.slice (some ⟨w8.drew.heap.size, 0, none⟩) 64 64, .slice (some ⟨Ib, 0, none⟩) 32 32] 23)) ∧ Parts (W1.alloc (.cells #[.slice (some ⟨w8.drew.heap.size, 0, none⟩) 64 64, .slice (some ⟨Ib, 0, none⟩) 32 32] 23)) (.slice (some ⟨W1.heap.size, 0, none⟩) 2 2) [t92, inn]) := Bx.mk ⟨Ha.out.1.later (below_a _), two_parts Ha.out.2.1 Ha.out.2.2⟩
  refine stepL 4 (by kernel_rfl) rfl (fun K hK => ?_)
  go_simp
  refine (dsum_parts [t92, inn] _ _ Hb.out.2 (by simp) (by have h1 := HTL.out; have h2 := HIL.out; simp only [List.flatten_cons, List.flatten_nil, List.append_nil, List.length_append]; omega) (HA.out.later Hb.out.1.below hg) (Nat.lt_of_lt_of_le hg Hb.out.1.below.size)).mono ?_
  rintro e W2 ⟨rfl, hb2⟩
  show K _ _
  have Hc : Bx (Tg w F kb W2) := Bx.mk (Hb.out.1.later hb2)
  clear hb2
  refine hK.out _ _ (HMk.out _ Hc.out) (fun hHeld => ?_)
  clear hK K
  try simp only [Act.put, List.setIfInBounds_toArray, List.set_cons_zero, List.set_cons_succ]
  have HE : Bx (sha ([t92, inn] : List (List UInt8)).flatten = hm) := Bx.mk (by rw [← HHM.out]; simp)
  rw [HE.out]
  have HI3 : Bx ((Tryd.prog.info? 26).map (·.size) = some (u8s hm).size) := Bx.mk (by rw [u8s_size, HML.out]; kernel_rfl)
  have Hd : Bx (Below w.heap.size w (W2.setCells w.heap.size 0 (u8s hm).toList) ∧ (W2.setCells w.heap.size 0 (u8s hm).toList).heap[w.heap.size]? = some (.cells (u8s hm) 26 (0, 0))) := Bx.mk ⟨below_setCells (Nat.le_refl _) _ _ _ _ Hc.out.below, heap_setCells_all Hc.out.res (by rw [u8s_size, u8s_size, HML.out]; rfl)⟩
  have Hr : Bx ((W2.setCells w.heap.size 0 (u8s hm).toList).rangeAt F 0 (vs8 kb)) := Bx.mk (range_u8 (by rw [heap_setCells_other _ _ (by have := Hc.out.lt; omega)]; exact Hc.out.row))
  refine stepL 5 (by kernel_rfl) rfl (fun K hK => ?_)
  refine step_st rfl 26 _ _ rfl w.heap.size (u8s hm) (by rfl) (by rfl) (there_row Hc.out.res 0 _ (by rw [u8s_size, u8s_size, HML.out]; simp)) HI3.out (one_u8s _) ?_
  refine hK.out _ _ ⟨Hr.out, ⟨Hd.out.1⟩⟩ (fun hHeld => ?_)
  refine wpAnyH_done (by kernel_rfl) ?_ _
  refine NoPanic.normal ?_
  clear hK K hHeld
  go_wp2
  refine bodyPost_ret (results_cell_row rfl _ _ w.heap.size _ (u8s hm) _ _ rfl Hd.out.2 Tryd.underlying26 rfl HI3.out) rfl ?_
  exact ⟨rfl, Hd.out.1⟩
end Go.Proofs.YtkfgpnigeknhmaaDoor
