/-
  The walk of ClaimsReads.
-/
import Derived.Test.YtiomjknhlfhlhaaLb
import Derived.Test.YtiomjknhlfhlhaaCi
namespace Go.Proofs.Ytiomjknhlfhlhaa
open Go Go.RowKit
theorem row_range {W : World} {g : Nat} {a b c d : Value} {t : TypeId} (h : W.heap[g]? = some (.cells #[a, b, c, d] t (0, 0))) : W.rangeAt g 0 [a, b, c, d] := by
  obtain ⟨h0, h1, h2, h3⟩ := four_cells h
  intro j v hj
  match j, hj with
  | 0, hj => simp at hj; subst hj; exact h0
  | 1, hj => simp at hj; subst hj; exact h1
  | 2, hj => simp at hj; subst hj; exact h2
  | 3, hj => simp at hj; subst hj; exact h3
  | j + 4, hj => simp at hj
/-- Over a store into a block of numbers. -/
theorem LS.put {w : World} {B Y : Nat} {k : Nat × Obj} {o : Obj} {p q r s : Int} {v6 : Value} {cb : List UInt8} {vb : Value} {bh : List UInt8} {W W1 : World} {t : TypeId} (h : LS w B [(Y, .cells #[.int .i64 p, .int .i64 q, .int .i64 r, .int .i64 s] t), k] v6 cb vb bh W) (hg : W.grownBy W1 (some Y)) (hY : W1.heap[Y]? = some o) (hk : k.1 ≠ Y) (hB : B ≤ Y) : LS w B [(Y, o), k] v6 cb vb bh W1 := by
  have hr := h.rows _ (.head _)
  refine ⟨fun x hx => ?_, h.below.trans (grown_below hg hB h.le), (BytesN.grown (p := Y) ⟨h.b6, h.b6.offA hr (four_off _ _ _ _)⟩ hg).1, (BytesN.grown (p := Y) ⟨h.bb, h.bb.offA hr (four_off _ _ _ _)⟩ hg).1, Nat.le_trans h.le hg.size⟩
  simp at hx
  rcases hx with rfl | rfl
  · exact hY
  · have hr2 := h.rows x (.tail _ (.head _))
    rw [hg.block x.1 (Array.getElem?_eq_some_iff.1 hr2).1 (fun e => hk (by injection e))]
    exact hr2
set_option maxRecDepth 100000 in
set_option maxHeartbeats 4000000 in
theorem creads_law (bs : List UInt8) (v : Value) (w : World) (hv : Bytes w v bs) (hl : bs.length ≤ 9223372036854775807) :
    Calls Try.prog 4 #[v] w fun e w' => e = .returned (.bool true) ∧ Below w.heap.size w w' := by
  have HV := Bx.mk hv
  obtain ⟨a, cap, rfl, hc, hnone, -⟩ := hv
  obtain ⟨n, hnn⟩ : ∃ n, bs.length = n := ⟨_, rfl⟩
  obtain ⟨m, hm⟩ : ∃ m, m = min n 20 := ⟨_, rfl⟩
  have m1 : (if (20 : Int) < (n : Int) then (20 : Int) else (n : Int)) = (m : Int) := by split <;> omega
  have s1 := fun W => cut_bytes a n cap m (by omega) (by omega) hnone W
  rw [hnn] at hl hc HV ⊢
  have HM : Bx (Bytes w (.slice a m cap) (bs.take m)) := Bx.mk (HV.out.take m (by omega))
  have HML : Bx ((bs.take m).length = m ∧ m ≤ 20) := Bx.mk (by rw [List.length_take]; omega)
  generalize bs.take m = bb at *
  have hn1 : (n : Int) ≤ 9223372036854775807 := by omega
  clear hnn hm hc hnone hl HV
  obtain ⟨B, hB⟩ : ∃ B, w.heap.size = B := ⟨_, rfl⟩
  rw [hB]
  have HPE := Bx.mk (psE_is bb)
  have HPC := Bx.mk (psC_is bb)
  have HDC : Bx (dC bb = if dE bb = 0 then c9 bb else clZ) := Bx.mk rfl
  have H9 : Bx (dE bb = 0 → 9 ≤ bb.length ∧ okC (c9 bb) = true) := Bx.mk (fun h => by
    unfold dE at h
    by_cases h9 : bb.length < 9
    · rw [if_pos h9] at h; omega
    · rw [if_neg h9] at h
      by_cases ho : okC (c9 bb) = true
      · exact ⟨by omega, ho⟩
      · rw [if_neg ho] at h; omega)
  go_enter Try.func4, Try.ntmps4
  go_wp2_with fail
  refine (parse_any bb _ w HM.out (by have := HML.out; omega)).mono ?_
  rintro e w1 ⟨rfl, hb1⟩
  obtain ⟨X, hX⟩ : ∃ X, w1.heap.size = X := ⟨_, rfl⟩
  obtain ⟨⟨x0, x1, x2, x3⟩, hpc⟩ : ∃ c, psC bb = c := ⟨_, rfl⟩
  obtain ⟨er, her⟩ : ∃ e, psE bb = e := ⟨_, rfl⟩
  rw [hpc] at HPC ⊢
  rw [her] at HPE ⊢
  unfold clV
  simp only
  have H1 : Bx (LS w B [(X, .cells #[.int .i64 x0, .int .i64 x1, .int .i64 x2, .int .i64 x3] 25)] (.slice none 0 0) [] (.slice a m cap) bb (w1.alloc (.cells #[.int .i64 x0, .int .i64 x1, .int .i64 x2, .int .i64 x3] 25)) ∧ B ≤ X) := Bx.mk ⟨⟨fun k hk => by simp at hk; subst hk; exact hnew _ _ _ hX.symm, by rw [← hB]; exact hb1.alloc hb1.size _, Bytes.nil _, (HM.out.later hb1).later (below_a _), by have := hb1.size; simp; omega⟩, by rw [← hX, ← hB]; exact hb1.size⟩
  clear hb1 HM hpc her
  go_wp2_with fail
  generalize w1.alloc (.cells #[.int .i64 x0, .int .i64 x1, .int .i64 x2, .int .i64 x3] 25) = w2 at *
  clear hX
  refine (dparse_any bb _ w2 H1.out.1.bb (by have := HML.out; omega)).mono ?_
  rintro e w3 ⟨rfl, hb3⟩
  obtain ⟨Y, hY⟩ : ∃ Y, w3.heap.size = Y := ⟨_, rfl⟩
  obtain ⟨⟨y0, y1, y2, y3⟩, hdc⟩ : ∃ c, dC bb = c := ⟨_, rfl⟩
  obtain ⟨fr, hfr⟩ : ∃ e, dE bb = e := ⟨_, rfl⟩
  rw [hdc] at HDC ⊢
  rw [hfr] at HPE HPC HDC H9 ⊢
  unfold clV
  simp only
  have H2 : Bx (LS w B [(Y, .cells #[.int .i64 y0, .int .i64 y1, .int .i64 y2, .int .i64 y3] 23), (X, .cells #[.int .i64 x0, .int .i64 x1, .int .i64 x2, .int .i64 x3] 25)] (.slice none 0 0) [] (.slice a m cap) bb (w3.alloc (.cells #[.int .i64 y0, .int .i64 y1, .int .i64 y2, .int .i64 y3] 23))) := Bx.mk (((H1.out.1.later hb3).later (below_a _)).add _ _ (hnew _ _ _ hY.symm))
  have HXY : Bx (X < Y ∧ B ≤ X) := Bx.mk ⟨by rw [← hY]; exact (H1.out.1.later hb3).rows.lt _ (.head _), H1.out.2⟩
  clear hb3 H1 hdc hfr
  by_cases hf : fr = 0
  · subst hf
    obtain ⟨h9, ho⟩ := H9.out rfl
    by_cases hm9 : 9 < m
    · have hm9i : (9 : Int) < (m : Int) := by omega
      have e1 : er = 3 := by rw [HPE.out, if_pos ⟨rfl, by rw [HML.out.1]; exact hm9⟩]
      have e2 : (⟨x0, x1, x2, x3⟩ : Cl) = clZ := by rw [HPC.out, if_neg (by rw [HML.out.1]; omega)]
      unfold clZ at e2
      injection e2 with q0 q1 q2 q3
      subst e1 q0 q1 q2 q3
      have HOf : Bx (∀ W, _) := Bx.mk (fun W => cof_any ⟨0, 0, 0, 0⟩ W)
      unfold clV at HOf
      simp only at HOf
      clear HPE HPC HDC H9 h9 ho
      go_upto_region 6 with (refine wpList_store_new rfl 23 _ _ rfl Y #[.int .i64 0, .int .i64 0, .int .i64 0, .int .i64 0] _ _ (by rfl) (by rfl) (H2.out.rows _ (.head _)) rfl (by kernel_rfl) (by simp [Value.oneCell']) ?_; intro wz hwz hrz; have HZ : Bx ((w3.alloc (.cells #[.int .i64 y0, .int .i64 y1, .int .i64 y2, .int .i64 y3] 23)).grownBy wz (some Y) ∧ wz.heap[Y]? = some (.cells #[.int .i64 0, .int .i64 0, .int .i64 0, .int .i64 0] 23 (0, 0))) := Bx.mk ⟨by rw [hwz]; exact kb_setCells _ _ _, hrz⟩; clear hwz hrz)
      have B1 : Bx (LS w B [(Y, .cells #[.int .i64 0, .int .i64 0, .int .i64 0, .int .i64 0] 23), (X, .cells #[.int .i64 0, .int .i64 0, .int .i64 0, .int .i64 0] 25)] (.slice none 0 0) [] (.slice a m cap) bb wz) := Bx.mk (H2.out.put HZ.out.1 HZ.out.2 (by have := HXY.out; simp; omega) (by have := HXY.out; omega))
      clear H2 HZ hY
      have B1 := Bx.mk (B1.out.later (Below.refl _ _).drew)
      refine wp_region_noPanic ?_
      refine wp_region_held_drew (S := fun W => W.rangeAt X 0 [.int .i64 0, .int .i64 0, .int .i64 0, .int .i64 0] ∧ W.rangeAt Y 0 [.int .i64 0, .int .i64 0, .int .i64 0, .int .i64 0]) (by kernel_rfl) (⟨row_range (B1.out.rows _ (.tail _ (.head _))), row_range (B1.out.rows _ (.head _))⟩) (fun hHeld => ?_)
      generalize wz.drew = W0 at *
      refine takeL 0 (v := ?_) rfl (by kernel_rfl) (by kernel_rfl) (by kernel_rfl) (fun _ _ _ h => h) (Or.inl ⟨by rfl, ?_⟩) hHeld ?_
      rotate_left 1
      · (intro w hSw; go_simp; try with_reducible rfl)
      try simp only [Act.put, List.setIfInBounds_toArray, List.set_cons_zero, List.set_cons_succ]
      refine takeL 1 (v := ?_) rfl (by kernel_rfl) (by kernel_rfl) (by kernel_rfl) (fun _ _ _ h => h) (Or.inl ⟨by rfl, ?_⟩) hHeld ?_
      rotate_left 1
      · (intro w hSw; go_simp; try with_reducible rfl)
      try simp only [Act.put, List.setIfInBounds_toArray, List.set_cons_zero, List.set_cons_succ]
      refine takeL 2 (v := ?_) rfl (by kernel_rfl) (by kernel_rfl) (by kernel_rfl) (fun _ _ _ h => h) (Or.inl ⟨by rfl, ?_⟩) hHeld ?_
      rotate_left 1
      · (intro w hSw; go_simp; try with_reducible rfl)
      try simp only [Act.put, List.setIfInBounds_toArray, List.set_cons_zero, List.set_cons_succ]
      refine takeL 3 (v := ?_) rfl (by kernel_rfl) (by kernel_rfl) (by kernel_rfl) (fun _ _ _ h => h) (Or.inl ⟨by rfl, ?_⟩) hHeld ?_
      rotate_left 1
      · (intro w hSw; go_simp; try with_reducible rfl)
      try simp only [Act.put, List.setIfInBounds_toArray, List.set_cons_zero, List.set_cons_succ]
      refine takeL 4 rfl (by kernel_rfl) (by kernel_rfl) (by kernel_rfl) (fun _ _ _ h => h) (yieldsIf_load_mid (by rfl) _ _ rfl _ _ rfl _ _ (fun w hSw => hSw.1) Try.underlying25 rfl (by kernel_rfl)) hHeld ?_
      try simp only [Act.put, List.setIfInBounds_toArray, List.set_cons_zero, List.set_cons_succ]
      refine takeL 6 rfl (by kernel_rfl) (by kernel_rfl) (by kernel_rfl) (fun _ _ _ h => h) (yieldsIf_load_mid (by rfl) _ _ rfl _ _ rfl _ _ (fun w hSw => hSw.2) Try.underlying23 rfl (by kernel_rfl)) hHeld ?_
      try simp only [Act.put, List.setIfInBounds_toArray, List.set_cons_zero, List.set_cons_succ]
      refine stepL 5 (by kernel_rfl) rfl (fun K hK => ?_)
      go_simp
      refine (HOf.out W0).mono ?_
      rintro e W1 ⟨rfl, hb⟩
      show K _ _
      have B1 := Bx.mk (B1.out.later hb)
      clear hb
      refine hK.out _ _ ⟨row_range (B1.out.rows _ (.tail _ (.head _))), row_range (B1.out.rows _ (.head _))⟩ (fun hHeld => ?_)
      clear hK K
      try simp only [Act.put, List.setIfInBounds_toArray, List.set_cons_zero, List.set_cons_succ]
      refine takeL 7 (v := ?_) rfl (by kernel_rfl) (by kernel_rfl) (by kernel_rfl) (fun _ _ _ h => h) (Or.inl ⟨by rfl, ?_⟩) hHeld ?_
      rotate_left 1
      · (intro w hSw; go_simp; try with_reducible rfl)
      try simp only [Act.put, List.setIfInBounds_toArray, List.set_cons_zero, List.set_cons_succ]
      refine takeL 8 (v := ?_) rfl (by kernel_rfl) (by kernel_rfl) (by kernel_rfl) (fun _ _ _ h => h) (Or.inl ⟨by rfl, ?_⟩) hHeld ?_
      rotate_left 1
      · (intro w hSw; go_simp; try with_reducible rfl)
      try simp only [Act.put, List.setIfInBounds_toArray, List.set_cons_zero, List.set_cons_succ]
      refine wpAnyH_done (by kernel_rfl) ?_ _
      refine NoPanic.normal ?_
      clear hHeld
      go_wp2_with fail
      refine (known5_any W1).mono ?_
      rintro e wk ⟨rfl, hbk⟩
      have BK := Bx.mk (B1.out.later hbk)
      clear hbk B1
      go_wp2
      go_ret
      exact ⟨rfl, BK.out.below⟩
    · have hm9i : ¬ (9 : Int) < (m : Int) := by omega
      have em : bb.length = 9 := by have := HML.out; omega
      have e1 : er = 0 := by rw [HPE.out, if_neg (by rw [HML.out.1]; omega)]
      have e2 : (⟨x0, x1, x2, x3⟩ : Cl) = ⟨y0, y1, y2, y3⟩ := by rw [HPC.out, HDC.out, if_pos ⟨rfl, em⟩, if_pos rfl]
      have e3 : c9 bb = ⟨y0, y1, y2, y3⟩ := by rw [HDC.out, if_pos rfl]
      have HBo : Bx (∀ W, _) := Bx.mk (fun W => bytes_ok (c9 bb) W ho)
      rw [clB_c9 bb em, e3] at HBo
      injection e2 with q0 q1 q2 q3
      subst e1 q0 q1 q2 q3
      have HOf : Bx (∀ W, _) := Bx.mk (fun W => cof_any ⟨x0, x1, x2, x3⟩ W)
      unfold clV at HOf HBo
      simp only at HOf HBo
      clear HPE HPC HDC H9 h9 ho e3
      go_upto_region 6 with (fail)
      have B1 := H2
      clear H2 hY
      generalize w3.alloc (.cells #[.int .i64 x0, .int .i64 x1, .int .i64 x2, .int .i64 x3] 23) = w4 at *
      have B1 := Bx.mk (B1.out.later (Below.refl _ _).drew)
      refine wp_region_noPanic ?_
      refine wp_region_held_drew (S := fun W => W.rangeAt X 0 [.int .i64 x0, .int .i64 x1, .int .i64 x2, .int .i64 x3] ∧ W.rangeAt Y 0 [.int .i64 x0, .int .i64 x1, .int .i64 x2, .int .i64 x3]) (by kernel_rfl) (⟨row_range (B1.out.rows _ (.tail _ (.head _))), row_range (B1.out.rows _ (.head _))⟩) (fun hHeld => ?_)
      generalize w4.drew = W0 at *
      refine takeL 0 (v := ?_) rfl (by kernel_rfl) (by kernel_rfl) (by kernel_rfl) (fun _ _ _ h => h) (Or.inl ⟨by rfl, ?_⟩) hHeld ?_
      rotate_left 1
      · (intro w hSw; go_simp; try with_reducible rfl)
      try simp only [Act.put, List.setIfInBounds_toArray, List.set_cons_zero, List.set_cons_succ]
      refine takeL 1 (v := ?_) rfl (by kernel_rfl) (by kernel_rfl) (by kernel_rfl) (fun _ _ _ h => h) (Or.inl ⟨by rfl, ?_⟩) hHeld ?_
      rotate_left 1
      · (intro w hSw; go_simp; try with_reducible rfl)
      try simp only [Act.put, List.setIfInBounds_toArray, List.set_cons_zero, List.set_cons_succ]
      refine takeL 2 (v := ?_) rfl (by kernel_rfl) (by kernel_rfl) (by kernel_rfl) (fun _ _ _ h => h) (Or.inl ⟨by rfl, ?_⟩) hHeld ?_
      rotate_left 1
      · (intro w hSw; go_simp; try with_reducible rfl)
      try simp only [Act.put, List.setIfInBounds_toArray, List.set_cons_zero, List.set_cons_succ]
      refine takeL 3 (v := ?_) rfl (by kernel_rfl) (by kernel_rfl) (by kernel_rfl) (fun _ _ _ h => h) (Or.inl ⟨by rfl, ?_⟩) hHeld ?_
      rotate_left 1
      · (intro w hSw; go_simp; try with_reducible rfl)
      try simp only [Act.put, List.setIfInBounds_toArray, List.set_cons_zero, List.set_cons_succ]
      refine takeL 4 rfl (by kernel_rfl) (by kernel_rfl) (by kernel_rfl) (fun _ _ _ h => h) (yieldsIf_load_mid (by rfl) _ _ rfl _ _ rfl _ _ (fun w hSw => hSw.1) Try.underlying25 rfl (by kernel_rfl)) hHeld ?_
      try simp only [Act.put, List.setIfInBounds_toArray, List.set_cons_zero, List.set_cons_succ]
      refine takeL 6 rfl (by kernel_rfl) (by kernel_rfl) (by kernel_rfl) (fun _ _ _ h => h) (yieldsIf_load_mid (by rfl) _ _ rfl _ _ rfl _ _ (fun w hSw => hSw.2) Try.underlying23 rfl (by kernel_rfl)) hHeld ?_
      try simp only [Act.put, List.setIfInBounds_toArray, List.set_cons_zero, List.set_cons_succ]
      refine stepL 5 (by kernel_rfl) rfl (fun K hK => ?_)
      go_simp
      refine (HOf.out W0).mono ?_
      rintro e W1 ⟨rfl, hb⟩
      show K _ _
      have B1 := Bx.mk (B1.out.later hb)
      clear hb
      refine hK.out _ _ ⟨row_range (B1.out.rows _ (.tail _ (.head _))), row_range (B1.out.rows _ (.head _))⟩ (fun hHeld => ?_)
      clear hK K
      try simp only [Act.put, List.setIfInBounds_toArray, List.set_cons_zero, List.set_cons_succ]
      refine takeL 7 (v := ?_) rfl (by kernel_rfl) (by kernel_rfl) (by kernel_rfl) (fun _ _ _ h => h) (Or.inl ⟨by rfl, ?_⟩) hHeld ?_
      rotate_left 1
      · (intro w hSw; go_simp; try with_reducible rfl)
      try simp only [Act.put, List.setIfInBounds_toArray, List.set_cons_zero, List.set_cons_succ]
      refine takeL 8 (v := ?_) rfl (by kernel_rfl) (by kernel_rfl) (by kernel_rfl) (fun _ _ _ h => h) (Or.inl ⟨by rfl, ?_⟩) hHeld ?_
      rotate_left 1
      · (intro w hSw; go_simp; try with_reducible rfl)
      try simp only [Act.put, List.setIfInBounds_toArray, List.set_cons_zero, List.set_cons_succ]
      refine wpAnyH_done (by kernel_rfl) ?_ _
      refine NoPanic.normal ?_
      clear hHeld
      obtain ⟨k0, k1, k2, k3⟩ := four_cells (B1.out.rows _ (.tail _ (.head _)))
      go_wp2_with fail
      refine (HBo.out W1).mono ?_
      rintro e wk ⟨vk, rfl, hok, hbk⟩
      have BK := Bx.mk (And.intro (B1.out.later hbk) hok.bytes)
      obtain ⟨ak, ck, hvk⟩ := own_form hok
      rw [em] at hvk
      subst hvk
      clear hbk hok B1 k0 k1 k2 k3
      go_wp2_with fail
      refine (known5_any wk).mono ?_
      rintro e wl ⟨rfl, hbl⟩
      have BL := Bx.mk (And.intro (BK.out.1.later hbl) (BK.out.2.later hbl))
      clear hbl BK
      go_wp2_with fail
      refine (same_any bb bb _ _ wl BL.out.2 BL.out.1.bb (by have := HML.out; omega) (by have := HML.out; omega)).mono ?_
      rintro e wn ⟨rfl, nn, rfl⟩
      rw [decide_eq_true rfl]
      have BN := Bx.mk (BL.out.1.later (below_drewN (Below.refl _ _) nn))
      generalize wl.drewN nn = wo at *
      clear BL
      go_wp2
      go_ret
      exact ⟨rfl, BN.out.below⟩
  · have e1 : er = fr := by rw [HPE.out, if_neg (fun h => hf h.1)]
    have e2 : (⟨x0, x1, x2, x3⟩ : Cl) = clZ := by rw [HPC.out, if_neg (fun h => hf h.1)]
    have e3 : (⟨y0, y1, y2, y3⟩ : Cl) = clZ := by rw [HDC.out, if_neg hf]
    unfold clZ at e2 e3
    injection e2 with q0 q1 q2 q3
    injection e3 with r0 r1 r2 r3
    subst e1 q0 q1 q2 q3 r0 r1 r2 r3
    have HOf : Bx (∀ W, _) := Bx.mk (fun W => cof_any ⟨0, 0, 0, 0⟩ W)
    unfold clV at HOf
    simp only at HOf
    clear HPE HPC HDC H9
    go_upto_region 6 with (fail)
    have B1 := H2
    clear H2 hY
    generalize w3.alloc (.cells #[.int .i64 0, .int .i64 0, .int .i64 0, .int .i64 0] 23) = w4 at *
    have B1 := Bx.mk (B1.out.later (Below.refl _ _).drew)
    refine wp_region_noPanic ?_
    refine wp_region_held_drew (S := fun W => W.rangeAt X 0 [.int .i64 0, .int .i64 0, .int .i64 0, .int .i64 0] ∧ W.rangeAt Y 0 [.int .i64 0, .int .i64 0, .int .i64 0, .int .i64 0]) (by kernel_rfl) (⟨row_range (B1.out.rows _ (.tail _ (.head _))), row_range (B1.out.rows _ (.head _))⟩) (fun hHeld => ?_)
    generalize w4.drew = W0 at *
    refine takeL 0 (v := ?_) rfl (by kernel_rfl) (by kernel_rfl) (by kernel_rfl) (fun _ _ _ h => h) (Or.inl ⟨by rfl, ?_⟩) hHeld ?_
    rotate_left 1
    · (intro w hSw; go_simp; try with_reducible rfl)
    try simp only [Act.put, List.setIfInBounds_toArray, List.set_cons_zero, List.set_cons_succ]
    refine takeL 1 (v := ?_) rfl (by kernel_rfl) (by kernel_rfl) (by kernel_rfl) (fun _ _ _ h => h) (Or.inl ⟨by rfl, ?_⟩) hHeld ?_
    rotate_left 1
    · (intro w hSw; go_simp; try with_reducible rfl)
    try simp only [Act.put, List.setIfInBounds_toArray, List.set_cons_zero, List.set_cons_succ]
    refine takeL 2 (v := ?_) rfl (by kernel_rfl) (by kernel_rfl) (by kernel_rfl) (fun _ _ _ h => h) (Or.inl ⟨by rfl, ?_⟩) hHeld ?_
    rotate_left 1
    · (intro w hSw; go_simp; try with_reducible rfl)
    try simp only [Act.put, List.setIfInBounds_toArray, List.set_cons_zero, List.set_cons_succ]
    refine takeL 3 (v := ?_) rfl (by kernel_rfl) (by kernel_rfl) (by kernel_rfl) (fun _ _ _ h => h) (Or.inl ⟨by rfl, ?_⟩) hHeld ?_
    rotate_left 1
    · (intro w hSw; go_simp; try with_reducible rfl)
    try simp only [Act.put, List.setIfInBounds_toArray, List.set_cons_zero, List.set_cons_succ]
    refine takeL 4 rfl (by kernel_rfl) (by kernel_rfl) (by kernel_rfl) (fun _ _ _ h => h) (yieldsIf_load_mid (by rfl) _ _ rfl _ _ rfl _ _ (fun w hSw => hSw.1) Try.underlying25 rfl (by kernel_rfl)) hHeld ?_
    try simp only [Act.put, List.setIfInBounds_toArray, List.set_cons_zero, List.set_cons_succ]
    refine takeL 6 rfl (by kernel_rfl) (by kernel_rfl) (by kernel_rfl) (fun _ _ _ h => h) (yieldsIf_load_mid (by rfl) _ _ rfl _ _ rfl _ _ (fun w hSw => hSw.2) Try.underlying23 rfl (by kernel_rfl)) hHeld ?_
    try simp only [Act.put, List.setIfInBounds_toArray, List.set_cons_zero, List.set_cons_succ]
    refine stepL 5 (by kernel_rfl) rfl (fun K hK => ?_)
    go_simp
    refine (HOf.out W0).mono ?_
    rintro e W1 ⟨rfl, hb⟩
    show K _ _
    have B1 := Bx.mk (B1.out.later hb)
    clear hb
    refine hK.out _ _ ⟨row_range (B1.out.rows _ (.tail _ (.head _))), row_range (B1.out.rows _ (.head _))⟩ (fun hHeld => ?_)
    clear hK K
    try simp only [Act.put, List.setIfInBounds_toArray, List.set_cons_zero, List.set_cons_succ]
    refine takeL 7 (v := ?_) rfl (by kernel_rfl) (by kernel_rfl) (by kernel_rfl) (fun _ _ _ h => h) (Or.inl ⟨by rfl, ?_⟩) hHeld ?_
    rotate_left 1
    · (intro w hSw; go_simp; try with_reducible rfl)
    try simp only [Act.put, List.setIfInBounds_toArray, List.set_cons_zero, List.set_cons_succ]
    refine takeL 8 (v := ?_) rfl (by kernel_rfl) (by kernel_rfl) (by kernel_rfl) (fun _ _ _ h => h) (Or.inl ⟨by rfl, ?_⟩) hHeld ?_
    rotate_left 1
    · (intro w hSw; go_simp; try with_reducible rfl)
    try simp only [Act.put, List.setIfInBounds_toArray, List.set_cons_zero, List.set_cons_succ]
    refine wpAnyH_done (by kernel_rfl) ?_ _
    refine NoPanic.normal ?_
    clear hHeld
    go_wp2_with fail
    refine (known5_any W1).mono ?_
    rintro e wk ⟨rfl, hbk⟩
    have BK := Bx.mk (B1.out.later hbk)
    clear hbk B1
    go_wp2
    go_ret
    exact ⟨rfl, BK.out.below⟩
end Go.Proofs.Ytiomjknhlfhlhaa
