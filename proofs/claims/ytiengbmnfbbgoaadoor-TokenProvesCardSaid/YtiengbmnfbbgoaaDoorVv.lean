/-
  The walk of TokenProves.
-/
import Derived.Test.YtiengbmnfbbgoaaDoorQm
namespace Go.Proofs.YtiengbmnfbbgoaaDoor
open Go Go.RowKit
set_option maxRecDepth 100000 in
set_option maxHeartbeats 2000000 in
theorem proves6_bad (m0 t0 : List UInt8) (c : Cl) (p0 : List (List UInt8)) (vm vt vp : Value) (w : World) (hm : Bytes w vm m0) (ht : Bytes w vt t0) (hp : Parts w vp p0) (hml : m0.length ≤ 9223372036854775807) (htl : t0.length ≤ 9223372036854775807) (hpn : p0.length ≤ 9223372036854775807) (hpl : ∀ p ∈ p0, p.length ≤ 9223372036854775807) (hc : okC c = false) (hTab : Tab w) (hg : 0 < w.heap.size) :
    Calls Tryd.prog 5 #[vm, clV c, vt, vp] w fun e w' => e = .returned (.bool true) ∧ Below w.heap.size w w' := by
  have HT : Bx (∀ W, Below w.heap.size w W → Tab W ∧ 0 < W.heap.size) := Bx.mk fun W hb => ⟨hTab.later hb hg, Nat.lt_of_lt_of_le hg hb.size⟩
  clear hTab hg
  have HCm := Bx.mk fun (W : World) (hW : Bytes W vm m0) => cut6_any m0 70 vm W hW hml (by omega)
  have HCt := Bx.mk fun (W : World) (hW : Bytes W vt t0) => cut6_any t0 40 vt W hW htl (by omega)
  have HFew := Bx.mk fun (W : World) (hW : Parts W vp p0) => few6_any p0 vp W hW hpn hpl
  have HMl : Bx ((m0.take 70).length ≤ 70) := Bx.mk (by rw [List.length_take]; omega)
  have HTl : Bx ((t0.take 40).length ≤ 40) := Bx.mk (by rw [List.length_take]; omega)
  have HSm : Bx (∀ (pv : List UInt8) (W : World) va vb, pv.length = 32 → Bytes W va (t0.take 40) → Bytes W vb pv → Calls Tryd.prog 22 #[va, vb] W fun e w' => e = .returned (.bool (decide (t0.take 40 = pv))) ∧ ∃ n, w' = W.drewN n) := Bx.mk fun pv W va vb hl ha hb => same_any _ pv va vb W ha hb (by have := HTl.out; omega) (by omega)
  have HQ := Bx.mk (And.intro (cut4_len p0) (cut4_each p0))
  have HV := Bx.mk (And.intro hm (And.intro ht hp))
  obtain ⟨am, cm, rfl, -⟩ := hm
  obtain ⟨a2, c2, rfl, -⟩ := ht
  obtain ⟨ap, cp, rfl, -⟩ := hp
  generalize m0.take 70 = mk at *
  generalize t0.take 40 = tg at *
  generalize m0.length = mn at *
  generalize t0.length = tn at *
  generalize p0.length = pn at *
  have HNw : Bx (∀ (W : World) v, Bytes W v mk → Calls Tryd.prog 11 #[v] W fun e w' => ∃ v', e = .returned v' ∧ KeyO w' W.heap.size v' mk ∧ Below W.heap.size W w') := Bx.mk fun W v hv => new_any mk v W hv (by have := HMl.out; omega)
  have HTo := Bx.mk fun (W : World) => cto_any c W
  have HRi := Bx.mk fun (W : World) => cright_any c W
  rw [hc] at HRi
  have HPr : Bx (∀ W v vt vq, IsKey W v mk → Calls Tryd.prog 17 #[v, clV c, vt, vq] W fun e w' => e = .returned (.int .i64 10) ∧ Below W.heap.size W w') := Bx.mk fun W v vt vq hv => by
    obtain ⟨p, s, rfl, -, -⟩ := hv
    exact proves_bad c p vt vq W hc
  clear hml htl hpn hpl hc
  obtain ⟨i, r, x, q⟩ := c
  unfold clV at *
  simp only at HTo HRi HPr  ⊢
  obtain ⟨B, hB⟩ : ∃ B, w.heap.size = B := ⟨_, rfl⟩
  have HB := Bx.mk hB
  have H0 := Bx.mk ((KS.start w B hB).new (.cells #[.int .i64 i, .int .i64 r, .int .i64 x, .int .i64 q] 24))
  rw [hB] at H0 HT  ⊢
  go_enter Tryd.func5, Tryd.ntmps5
  go_wp2_with fail
  generalize w.alloc (.cells #[.int .i64 i, .int .i64 r, .int .i64 x, .int .i64 q] 24) = w0 at *
  have HM0 := Bx.mk (HV.out.1.later (by rw [HB.out]; exact H0.out.below))
  have HT0 := Bx.mk (HV.out.2.1.later (by rw [HB.out]; exact H0.out.below))
  have HP0 := Bx.mk (HV.out.2.2.later (by rw [HB.out]; exact H0.out.below))
  refine (HCm.out w0 HM0.out).mono ?_
  rintro e w1 ⟨v1, rfl, hm1, rfl⟩
  have HM := Bx.mk (hm1 w0 HM0.out)
  obtain ⟨am, cm, hv1, -⟩ := HM.out
  subst hv1
  clear hm1 HCm HM0
  go_wp2_with fail
  refine (HCt.out w0 HT0.out).mono ?_
  rintro e w1 ⟨v1, rfl, hm1, rfl⟩
  have HTt := Bx.mk (hm1 w0 HT0.out)
  obtain ⟨a2, c2, hv1, -⟩ := HTt.out
  subst hv1
  clear hm1 HCt HT0
  generalize mk.length = mn at *
  generalize tg.length = tn at *
  go_wp2_with fail
  refine (HFew.out w0 HP0.out).mono ?_
  rintro e w2 ⟨vo, xs, rfl, hv2, ho2, hb2⟩
  generalize cut4 p0 = qs at *
  have hv3 : Vals w2 xs qs := hv2.later hb2
  have FW := Bx.mk (And.intro (HM.out.later hb2) (And.intro (HTt.out.later hb2) (And.intro (parts_of ho2 hv3) (show PartsR w2 vo qs from ⟨xs, own_rowP ho2, hv3⟩))))
  obtain ⟨oa, on, oc, rfl⟩ := ownP_form ho2
  have H2 := H0.out.later hb2
  obtain ⟨G, hG⟩ : ∃ G, w2.heap.size = G := ⟨_, rfl⟩
  have HG := Bx.mk hG
  have HW2 : Bx (Below B w w2 ∧ B ≤ G) := Bx.mk (by rw [← hG]; exact ⟨H2.below, H2.le⟩)
  have R0 : Bx (KS w2 G [(B, .cells #[.int .i64 i, .int .i64 r, .int .i64 x, .int .i64 q] 24)] w2) := Bx.mk ⟨H2.rows, Below.refl _ _, Nat.le_of_eq hG.symm⟩
  clear hv2 ho2 hb2 hv3 H2 H0 HV HM HTt HP0 HFew hG
  go_upto_region 3 with fail
  have R0 := Bx.mk R0.out.drew
  refine wp_region_noPanic ?_
  refine wp_region_held_drew (S := fun W => W.heap[B]? = some (.cells #[.int .i64 i, .int .i64 r, .int .i64 x, .int .i64 q] 24 (0, 0))) (by kernel_rfl) ((R0.out.rows _ (.head _))) (fun hHeld => ?_)
  generalize w2.drew = W0 at *
  refine takeL 0 (v := ?_) rfl (by kernel_rfl) (by kernel_rfl) (by kernel_rfl) (fun _ _ _ h => h) (Or.inl ⟨by rfl, ?_⟩) hHeld ?_
  rotate_left 1
  · (intro w hSw; go_simp; try with_reducible rfl)
  try simp only [Act.put, List.setIfInBounds_toArray, List.set_cons_zero, List.set_cons_succ]
  refine takeL 2 rfl (by kernel_rfl) (by kernel_rfl) (by kernel_rfl) (fun _ _ _ h => h) (yieldsIf_load_mid (by rfl) _ _ rfl _ _ rfl _ _ (fun w hSw => row_rng (l := [.int .i64 i, .int .i64 r, .int .i64 x, .int .i64 q]) hSw) Tryd.underlying24 rfl (by kernel_rfl)) hHeld ?_
  try simp only [Act.put, List.setIfInBounds_toArray, List.set_cons_zero, List.set_cons_succ]
  refine takeL 4 (v := ?_) rfl (by kernel_rfl) (by kernel_rfl) (by kernel_rfl) (fun _ _ _ h => h) (Or.inl ⟨by rfl, ?_⟩) hHeld ?_
  rotate_left 1
  · (intro w hSw; go_simp; try with_reducible rfl)
  try simp only [Act.put, List.setIfInBounds_toArray, List.set_cons_zero, List.set_cons_succ]
  refine takeL 5 (v := ?_) rfl (by kernel_rfl) (by kernel_rfl) (by kernel_rfl) (fun _ _ _ h => h) (Or.inl ⟨by rfl, ?_⟩) hHeld ?_
  rotate_left 1
  · (intro w hSw; go_simp; try with_reducible rfl)
  try simp only [Act.put, List.setIfInBounds_toArray, List.set_cons_zero, List.set_cons_succ]
  refine stepL 1 (by kernel_rfl) rfl (fun K hK => ?_)
  go_simp
  refine (HNw.out W0 _ (FW.out.1.later (by rw [HG.out]; exact R0.out.below))).mono ?_
  rintro e W1 ⟨vk, rfl, hk1, hb⟩
  show K _ _
  have R1 := Bx.mk (R0.out.later hb)
  have HVK := hk1.key
  clear hk1
  clear hb R0
  refine hK.out _ _ (R1.out.rows _ (.head _)) (fun hHeld => ?_)
  clear hK K
  try simp only [Act.put, List.setIfInBounds_toArray, List.set_cons_zero, List.set_cons_succ]
  refine stepL 3 (by kernel_rfl) rfl (fun K hK => ?_)
  go_simp
  refine (HTo.out W1).mono ?_
  rintro e W2 ⟨rfl, hb⟩
  show K _ _
  have R2 := Bx.mk (R1.out.later hb)
  have HVK := HVK.later hb
  clear hb R1
  refine hK.out _ _ (R2.out.rows _ (.head _)) (fun hHeld => ?_)
  clear hK K
  try simp only [Act.put, List.setIfInBounds_toArray, List.set_cons_zero, List.set_cons_succ]
  refine stepL 6 (by kernel_rfl) rfl (fun K hK => ?_)
  go_simp
  refine (HPr.out W2 vk _ _ HVK).mono ?_
  rintro e W3 ⟨rfl, hb⟩
  show K _ _
  have R3 := Bx.mk (R2.out.later hb)
  clear HVK
  clear hb R2
  refine hK.out _ _ (R3.out.rows _ (.head _)) (fun hHeld => ?_)
  clear hK K
  try simp only [Act.put, List.setIfInBounds_toArray, List.set_cons_zero, List.set_cons_succ]
  refine takeL 7 (v := ?_) rfl (by kernel_rfl) (by kernel_rfl) (by kernel_rfl) (fun _ _ _ h => h) (Or.inl ⟨by rfl, ?_⟩) hHeld ?_
  rotate_left 1
  · (intro w hSw; go_simp; try with_reducible rfl)
  try simp only [Act.put, List.setIfInBounds_toArray, List.set_cons_zero, List.set_cons_succ]
  refine wpAnyH_done (by kernel_rfl) ?_ _
  refine NoPanic.normal ?_
  clear hHeld
  go_wp2_with (refine wpList_load_mid rfl 24 _ rfl B 0 (by rfl) [.int .i64 i, .int .i64 r, .int .i64 x, .int .i64 q] _ (row_rng (l := [.int .i64 i, .int .i64 r, .int .i64 x, .int .i64 q]) (R3.out.rows _ (.head _))) Tryd.underlying24 rfl (by kernel_rfl) ?_)
  refine (HRi.out W3).mono ?_
  rintro e X1 ⟨rfl, hb⟩
  have Y1 := Bx.mk (R3.out.later hb)
  clear hb R3
  go_wp2_with fail
  refine (known6_any X1 (HT.out X1 (HW2.out.1.trans (Y1.out.below.mono HW2.out.2))).1 (HT.out X1 (HW2.out.1.trans (Y1.out.below.mono HW2.out.2))).2).mono ?_
  rintro e X2 ⟨rfl, hb⟩
  have Y2 := Bx.mk (Y1.out.later hb)
  clear hb Y1
  go_wp2
  go_ret
  exact ⟨rfl, (HW2.out.1.trans (Y2.out.below.mono HW2.out.2))⟩
set_option maxRecDepth 100000 in
set_option maxHeartbeats 2000000 in
theorem proves6_ok (m0 t0 : List UInt8) (c : Cl) (p0 : List (List UInt8)) (vm vt vp : Value) (w : World) (hm : Bytes w vm m0) (ht : Bytes w vt t0) (hp : Parts w vp p0) (hml : m0.length ≤ 9223372036854775807) (htl : t0.length ≤ 9223372036854775807) (hpn : p0.length ≤ 9223372036854775807) (hpl : ∀ p ∈ p0, p.length ≤ 9223372036854775807) (hc : okC c = true) (hTab : Tab w) (hg : 0 < w.heap.size) :
    Calls Tryd.prog 5 #[vm, clV c, vt, vp] w fun e w' => e = .returned (.bool true) ∧ Below w.heap.size w w' := by
  have HT : Bx (∀ W, Below w.heap.size w W → Tab W ∧ 0 < W.heap.size) := Bx.mk fun W hb => ⟨hTab.later hb hg, Nat.lt_of_lt_of_le hg hb.size⟩
  clear hTab hg
  have HCm := Bx.mk fun (W : World) (hW : Bytes W vm m0) => cut6_any m0 70 vm W hW hml (by omega)
  have HCt := Bx.mk fun (W : World) (hW : Bytes W vt t0) => cut6_any t0 40 vt W hW htl (by omega)
  have HFew := Bx.mk fun (W : World) (hW : Parts W vp p0) => few6_any p0 vp W hW hpn hpl
  have HMl : Bx ((m0.take 70).length ≤ 70) := Bx.mk (by rw [List.length_take]; omega)
  have HTl : Bx ((t0.take 40).length ≤ 40) := Bx.mk (by rw [List.length_take]; omega)
  have HSm : Bx (∀ (pv : List UInt8) (W : World) va vb, pv.length = 32 → Bytes W va (t0.take 40) → Bytes W vb pv → Calls Tryd.prog 22 #[va, vb] W fun e w' => e = .returned (.bool (decide (t0.take 40 = pv))) ∧ ∃ n, w' = W.drewN n) := Bx.mk fun pv W va vb hl ha hb => same_any _ pv va vb W ha hb (by have := HTl.out; omega) (by omega)
  have HQ := Bx.mk (And.intro (cut4_len p0) (cut4_each p0))
  have HV := Bx.mk (And.intro hm (And.intro ht hp))
  obtain ⟨am, cm, rfl, -⟩ := hm
  obtain ⟨a2, c2, rfl, -⟩ := ht
  obtain ⟨ap, cp, rfl, -⟩ := hp
  generalize m0.take 70 = mk at *
  generalize t0.take 40 = tg at *
  generalize m0.length = mn at *
  generalize t0.length = tn at *
  generalize p0.length = pn at *
  have HNw : Bx (∀ (W : World) v, Bytes W v mk → Calls Tryd.prog 11 #[v] W fun e w' => ∃ v', e = .returned v' ∧ KeyO w' W.heap.size v' mk ∧ Below W.heap.size W w') := Bx.mk fun W v hv => new_any mk v W hv (by have := HMl.out; omega)
  have HTo := Bx.mk fun (W : World) => cto_any c W
  have HRi := Bx.mk fun (W : World) => cright_any c W
  rw [hc] at HRi
  obtain ⟨z1, hz1⟩ : ∃ z, u8s (List.replicate 32 0) = z := ⟨_, rfl⟩
  have hz1v : ∀ W : World, (zeroValue 37).run Tryd.prog W = .ok (.agg z1) W := fun W => by rw [← hz1, zero32]; kernel_rfl
  obtain ⟨zt, hzt⟩ : ∃ z, u32s (List.replicate 72 0) = z := ⟨_, rfl⟩
  have hztv : ∀ W : World, (zeroValue 32).run Tryd.prog W = .ok (.agg zt) W := fun W => by rw [← hzt]; kernel_rfl
  obtain ⟨tbl, htb⟩ : ∃ tbl : List Value, u32s (kTab ++ hTab) = tbl.toArray := ⟨_, rfl⟩
  have HMake : Bx (∀ W : World, Calls Tryd.prog 10 #[] W fun e w' => e = .returned (.agg tbl.toArray) ∧ Below W.heap.size W w') := Bx.mk fun W => by rw [← htb]; exact make_any W
  have HTI : Bx (tbl.toArray.size = zt.size ∧ (Tryd.prog.info? 32).map (·.size) = some tbl.toArray.size ∧ tbl.toArray.all (·.oneCell') = true ∧ (Tryd.prog.info? 32).map (·.size) = some tbl.length) := Bx.mk ⟨by rw [← htb, ← hzt, u32s_size, u32s_size]; rfl, tbl_size3 htb, by rw [← htb]; exact one_u32s _, tbl_size3 htb⟩
  have HSec : Bx (∀ W v, Bytes W v mk → Calls Tryd.prog 18 #[.agg tbl.toArray, v, clV c] W fun e w' => e = .returned (.agg (u8s (secK mk c))) ∧ Below W.heap.size W w') := Bx.mk fun W v hv => rsecret_any tbl htb mk c v W hv (by have := HMl.out; omega) hc
  have HSl : Bx ((secK mk c).length = 32) := Bx.mk (secK_length _ _)
  have HRp : Bx (∀ (qs : List (List UInt8)) W vs vq, qs.length ≤ 4 → (∀ p ∈ qs, p.length ≤ 40) → Bytes W vs (secK mk c) → PartsR W vq qs → Calls Tryd.prog 21 #[.agg tbl.toArray, vs, vq] W fun e w' => e = .returned (.agg (u8s (prvK (secK mk c) qs))) ∧ Below W.heap.size W w') := Bx.mk fun qs W vs vq h1 h2 hs hq => rprove_any tbl htb _ qs vs vq W hs hq (by rw [HSl.out]; omega) (by omega) (fun p hp => by have := h2 p hp; omega)
  have HPr : Bx (∀ (qs : List (List UInt8)) W v vt vq, qs.length ≤ 4 → (∀ p ∈ qs, p.length ≤ 40) → Below w.heap.size w W → IsKey W v mk → Bytes W vt tg → Parts W vq qs → Calls Tryd.prog 17 #[v, clV c, vt, vq] W fun e w' => e = .returned (.int .i64 (if prvK (secK mk c) qs = tg then 0 else 5)) ∧ Below W.heap.size W w') := Bx.mk fun qs W v vt vq h1 h2 hb hv ht hq => proves_ok mk c tg qs v vt vq W hv ht hq (by have := HTl.out; omega) (by have := HMl.out; omega) (by omega) (fun p hp => by have := h2 p hp; omega) hc (HT.out W hb).1 (HT.out W hb).2
  generalize secK mk c = sk at *
  have HIS : Bx ((Tryd.prog.info? 37).map (·.size) = some (u8s sk).size ∧ (u8s sk).size = z1.size) := Bx.mk ⟨by rw [u8s_size, HSl.out]; kernel_rfl, by rw [← hz1, u8s_size, u8s_size, HSl.out]; rfl⟩
  have HZ1 := Bx.mk hz1
  clear hz1 hzt htb
  clear hml htl hpn hpl hc
  obtain ⟨i, r, x, q⟩ := c
  unfold clV at *
  simp only at HTo HRi HPr HSec ⊢
  obtain ⟨B, hB⟩ : ∃ B, w.heap.size = B := ⟨_, rfl⟩
  have HB := Bx.mk hB
  have H0 := Bx.mk ((KS.start w B hB).new (.cells #[.int .i64 i, .int .i64 r, .int .i64 x, .int .i64 q] 24))
  rw [hB] at H0 HT HPr ⊢
  go_enter Tryd.func5, Tryd.ntmps5
  go_wp2_with fail
  generalize w.alloc (.cells #[.int .i64 i, .int .i64 r, .int .i64 x, .int .i64 q] 24) = w0 at *
  have HM0 := Bx.mk (HV.out.1.later (by rw [HB.out]; exact H0.out.below))
  have HT0 := Bx.mk (HV.out.2.1.later (by rw [HB.out]; exact H0.out.below))
  have HP0 := Bx.mk (HV.out.2.2.later (by rw [HB.out]; exact H0.out.below))
  refine (HCm.out w0 HM0.out).mono ?_
  rintro e w1 ⟨v1, rfl, hm1, rfl⟩
  have HM := Bx.mk (hm1 w0 HM0.out)
  obtain ⟨am, cm, hv1, -⟩ := HM.out
  subst hv1
  clear hm1 HCm HM0
  go_wp2_with fail
  refine (HCt.out w0 HT0.out).mono ?_
  rintro e w1 ⟨v1, rfl, hm1, rfl⟩
  have HTt := Bx.mk (hm1 w0 HT0.out)
  obtain ⟨a2, c2, hv1, -⟩ := HTt.out
  subst hv1
  clear hm1 HCt HT0
  generalize mk.length = mn at *
  generalize tg.length = tn at *
  go_wp2_with fail
  refine (HFew.out w0 HP0.out).mono ?_
  rintro e w2 ⟨vo, xs, rfl, hv2, ho2, hb2⟩
  generalize cut4 p0 = qs at *
  have hv3 : Vals w2 xs qs := hv2.later hb2
  have FW := Bx.mk (And.intro (HM.out.later hb2) (And.intro (HTt.out.later hb2) (And.intro (parts_of ho2 hv3) (show PartsR w2 vo qs from ⟨xs, own_rowP ho2, hv3⟩))))
  obtain ⟨oa, on, oc, rfl⟩ := ownP_form ho2
  have H2 := H0.out.later hb2
  obtain ⟨G, hG⟩ : ∃ G, w2.heap.size = G := ⟨_, rfl⟩
  have HG := Bx.mk hG
  have HW2 : Bx (Below B w w2 ∧ B ≤ G) := Bx.mk (by rw [← hG]; exact ⟨H2.below, H2.le⟩)
  have R0 : Bx (KS w2 G [(B, .cells #[.int .i64 i, .int .i64 r, .int .i64 x, .int .i64 q] 24)] w2) := Bx.mk ⟨H2.rows, Below.refl _ _, Nat.le_of_eq hG.symm⟩
  clear hv2 ho2 hb2 hv3 H2 H0 HV HM HTt HP0 HFew hG
  have HPr2 := Bx.mk fun (W : World) (v vt vq : Value) => HPr.out qs W v vt vq HQ.out.1 HQ.out.2
  obtain ⟨rv, hrv⟩ : ∃ rv, (if prvK sk qs = tg then (0 : Int) else 5) = rv := ⟨_, rfl⟩
  rw [hrv] at HPr2
  have HRv := Bx.mk hrv
  clear hrv HPr
  go_upto_region 3 with fail
  have R0 := Bx.mk R0.out.drew
  refine wp_region_noPanic ?_
  refine wp_region_held_drew (S := fun W => W.heap[B]? = some (.cells #[.int .i64 i, .int .i64 r, .int .i64 x, .int .i64 q] 24 (0, 0))) (by kernel_rfl) ((R0.out.rows _ (.head _))) (fun hHeld => ?_)
  generalize w2.drew = W0 at *
  refine takeL 0 (v := ?_) rfl (by kernel_rfl) (by kernel_rfl) (by kernel_rfl) (fun _ _ _ h => h) (Or.inl ⟨by rfl, ?_⟩) hHeld ?_
  rotate_left 1
  · (intro w hSw; go_simp; try with_reducible rfl)
  try simp only [Act.put, List.setIfInBounds_toArray, List.set_cons_zero, List.set_cons_succ]
  refine takeL 2 rfl (by kernel_rfl) (by kernel_rfl) (by kernel_rfl) (fun _ _ _ h => h) (yieldsIf_load_mid (by rfl) _ _ rfl _ _ rfl _ _ (fun w hSw => row_rng (l := [.int .i64 i, .int .i64 r, .int .i64 x, .int .i64 q]) hSw) Tryd.underlying24 rfl (by kernel_rfl)) hHeld ?_
  try simp only [Act.put, List.setIfInBounds_toArray, List.set_cons_zero, List.set_cons_succ]
  refine takeL 4 (v := ?_) rfl (by kernel_rfl) (by kernel_rfl) (by kernel_rfl) (fun _ _ _ h => h) (Or.inl ⟨by rfl, ?_⟩) hHeld ?_
  rotate_left 1
  · (intro w hSw; go_simp; try with_reducible rfl)
  try simp only [Act.put, List.setIfInBounds_toArray, List.set_cons_zero, List.set_cons_succ]
  refine takeL 5 (v := ?_) rfl (by kernel_rfl) (by kernel_rfl) (by kernel_rfl) (fun _ _ _ h => h) (Or.inl ⟨by rfl, ?_⟩) hHeld ?_
  rotate_left 1
  · (intro w hSw; go_simp; try with_reducible rfl)
  try simp only [Act.put, List.setIfInBounds_toArray, List.set_cons_zero, List.set_cons_succ]
  refine stepL 1 (by kernel_rfl) rfl (fun K hK => ?_)
  go_simp
  refine (HNw.out W0 _ (FW.out.1.later (by rw [HG.out]; exact R0.out.below))).mono ?_
  rintro e W1 ⟨vk, rfl, hk1, hb⟩
  show K _ _
  have R1 := Bx.mk (R0.out.later hb)
  have HVK := hk1.key
  clear hk1
  clear hb R0
  refine hK.out _ _ (R1.out.rows _ (.head _)) (fun hHeld => ?_)
  clear hK K
  try simp only [Act.put, List.setIfInBounds_toArray, List.set_cons_zero, List.set_cons_succ]
  refine stepL 3 (by kernel_rfl) rfl (fun K hK => ?_)
  go_simp
  refine (HTo.out W1).mono ?_
  rintro e W2 ⟨rfl, hb⟩
  show K _ _
  have R2 := Bx.mk (R1.out.later hb)
  have HVK := HVK.later hb
  clear hb R1
  refine hK.out _ _ (R2.out.rows _ (.head _)) (fun hHeld => ?_)
  clear hK K
  try simp only [Act.put, List.setIfInBounds_toArray, List.set_cons_zero, List.set_cons_succ]
  refine stepL 6 (by kernel_rfl) rfl (fun K hK => ?_)
  go_simp
  refine (HPr2.out W2 vk _ _ (HW2.out.1.trans (R2.out.below.mono HW2.out.2)) HVK (FW.out.2.1.later (by rw [HG.out]; exact R2.out.below)) (FW.out.2.2.1.later (by rw [HG.out]; exact R2.out.below))).mono ?_
  rintro e W3 ⟨rfl, hb⟩
  show K _ _
  have R3 := Bx.mk (R2.out.later hb)
  clear HVK
  clear hb R2
  refine hK.out _ _ (R3.out.rows _ (.head _)) (fun hHeld => ?_)
  clear hK K
  try simp only [Act.put, List.setIfInBounds_toArray, List.set_cons_zero, List.set_cons_succ]
  refine takeL 7 (v := ?_) rfl (by kernel_rfl) (by kernel_rfl) (by kernel_rfl) (fun _ _ _ h => h) (Or.inl ⟨by rfl, ?_⟩) hHeld ?_
  rotate_left 1
  · (intro w hSw; go_simp; try with_reducible rfl)
  try simp only [Act.put, List.setIfInBounds_toArray, List.set_cons_zero, List.set_cons_succ]
  refine wpAnyH_done (by kernel_rfl) ?_ _
  refine NoPanic.normal ?_
  clear hHeld
  go_wp2_with (refine wpList_load_mid rfl 24 _ rfl B 0 (by rfl) [.int .i64 i, .int .i64 r, .int .i64 x, .int .i64 q] _ (row_rng (l := [.int .i64 i, .int .i64 r, .int .i64 x, .int .i64 q]) (R3.out.rows _ (.head _))) Tryd.underlying24 rfl (by kernel_rfl) ?_)
  refine (HRi.out W3).mono ?_
  rintro e X1 ⟨rfl, hb⟩
  have Y1 := Bx.mk (R3.out.later hb)
  clear hb R3
  go_wp2_with fail
  refine (HMake.out X1).mono ?_
  rintro e X2 ⟨rfl, hb⟩
  have Y2 := Bx.mk (Y1.out.later hb)
  clear hb Y1
  obtain ⟨D, hD⟩ : ∃ D, X2.heap.size = D := ⟨_, rfl⟩
  have HBD : Bx (B < D ∧ G ≤ D) := Bx.mk ⟨by rw [← hD]; exact Y2.out.lt (.head _), by rw [← hD]; exact Y2.out.le⟩
  have Y3 := Bx.mk (Y2.out.new (.cells zt 32))
  rw [hD] at Y3
  clear Y2
  go_upto_region 7 with (refine wpList_store_new rfl 32 _ _ rfl D tbl.toArray zt _ (by rfl) (by rfl) (Y3.out.rows _ (.head _)) HTI.out.1 HTI.out.2.1 HTI.out.2.2.1 ?_; intro X3 hw8 hr8; have hg8 := Bx.mk (kb_of hw8); have HR8 := Bx.mk hr8; clear hw8 hr8)
  have Y4 := Bx.mk (Y3.out.set hg8.out HR8.out HBD.out.2 (by intro y hy; have h1 := HBD.out.1; simp at hy; rcases hy with rfl; simp only; omega))
  clear Y3 hg8 HR8 hD
  go_wp2_with (first | (refine wpList_load_mid rfl 32 _ rfl D 0 (by rfl) tbl _ (row_rng (Y4.out.rows _ (.head _))) Tryd.underlying32 rfl HTI.out.2.2.2 ?_) | (refine wpList_load_mid rfl 24 _ rfl B 0 (by rfl) [.int .i64 i, .int .i64 r, .int .i64 x, .int .i64 q] _ (row_rng (l := [.int .i64 i, .int .i64 r, .int .i64 x, .int .i64 q]) (Y4.out.rows _ (.tail _ (.head _)))) Tryd.underlying24 rfl (by kernel_rfl) ?_))
  refine (HSec.out X3 _ (FW.out.1.later (by rw [HG.out]; exact Y4.out.below))).mono ?_
  rintro e X4 ⟨rfl, hb⟩
  have Y5 := Bx.mk (Y4.out.later hb)
  clear hb Y4
  obtain ⟨E, hE⟩ : ∃ E, X4.heap.size = E := ⟨_, rfl⟩
  have HDE : Bx (D < E ∧ G ≤ E) := Bx.mk ⟨by rw [← hE]; exact Y5.out.lt (.head _), by rw [← hE]; exact Y5.out.le⟩
  have Y6 := Bx.mk (Y5.out.new (.cells z1 37))
  rw [hE] at Y6
  clear Y5
  go_upto_region 8 with (refine wpList_store_new rfl 37 _ _ rfl E (u8s sk) z1 _ (by rfl) (by rfl) (Y6.out.rows _ (.head _)) HIS.out.2 HIS.out.1 (one_u8s _) ?_; intro X5 hw8 hr8; have hg8 := Bx.mk (kb_of hw8); have HR8 := Bx.mk hr8; clear hw8 hr8)
  have Z0 := Bx.mk (Y6.out.set hg8.out HR8.out HDE.out.2 (by intro y hy; have h1 := HBD.out.1; have h2 := HDE.out.1; simp at hy; rcases hy with rfl | rfl <;> (simp only; omega))).drew
  clear Y6 hg8 HR8 hE
  have HRp2 := Bx.mk fun (W : World) (vs vq : Value) => HRp.out qs W vs vq HQ.out.1 HQ.out.2
  have HPl : Bx ((prvK sk qs).length = 32) := Bx.mk (prvK_length _ _)
  obtain ⟨dd, hdd⟩ : ∃ d, decide (tg = prvK sk qs) = d := ⟨_, rfl⟩
  have HDD := Bx.mk hdd
  generalize prvK sk qs = pv at *
  have HIP : Bx ((Tryd.prog.info? 37).map (·.size) = some (u8s pv).size ∧ (u8s pv).size = z1.size) := Bx.mk ⟨by rw [u8s_size, HPl.out]; kernel_rfl, by rw [← HZ1.out, u8s_size, u8s_size, HPl.out]; rfl⟩
  clear hdd HRp
  refine wp_region_noPanic ?_
  refine wp_region_held_drew (S := fun W => W.heap[D]? = some (.cells tbl.toArray 32 (0, 0))) (by kernel_rfl) ((Z0.out.rows _ (.tail _ (.head _)))) (fun hHeld => ?_)
  generalize X5.drew = U0 at *
  refine takeL 0 rfl (by kernel_rfl) (by kernel_rfl) (by kernel_rfl) (fun _ _ _ h => h) (yieldsIf_load_mid (by rfl) _ _ rfl _ _ rfl _ _ (fun w hSw => row_rng hSw) Tryd.underlying32 rfl HTI.out.2.2.2) hHeld ?_
  try simp only [Act.put, List.setIfInBounds_toArray, List.set_cons_zero, List.set_cons_succ]
  refine takeL 1 (v := ?_) rfl (by kernel_rfl) (by kernel_rfl) (by kernel_rfl) (fun _ _ _ h => h) (Or.inl ⟨by rfl, ?_⟩) hHeld ?_
  rotate_left 1
  · (intro w hSw; go_simp; try with_reducible rfl)
  try simp only [Act.put, List.setIfInBounds_toArray, List.set_cons_zero, List.set_cons_succ]
  refine takeL 2 (v := ?_) rfl (by kernel_rfl) (by kernel_rfl) (by kernel_rfl) (fun _ _ _ h => h) (Or.inl ⟨by rfl, ?_⟩) hHeld ?_
  rotate_left 1
  · (intro w hSw; go_simp; try with_reducible rfl)
  try simp only [Act.put, List.setIfInBounds_toArray, List.set_cons_zero, List.set_cons_succ]
  refine wpAnyH_ready (rs := [3, 4]) (by kernel_rfl) (by simp) ?_
  refine consM 3 rfl (fun K hK => ?_) (consM 4 rfl (fun K hK => ?_) AllReadyH.nil)
  · go_simp
    refine (HRp2.out U0 _ _ (row_bytes (Z0.out.rows _ (.head _)) HSl.out) (FW.out.2.2.2.later (by rw [HG.out]; exact Z0.out.below))).mono ?_
    rintro e U1 ⟨rfl, hb⟩
    show K _ _
    have Z1 := Bx.mk (Z0.out.later hb)
    clear hb Z0
    refine hK.out _ _ (Z1.out.rows _ (.tail _ (.head _))) (fun hHeld => ?_)
    clear hK K
    try simp only [Act.put, List.setIfInBounds_toArray, List.set_cons_zero, List.set_cons_succ]
    refine stepL 4 (by kernel_rfl) rfl (fun K hK => ?_)
    go_simp
    show K _ _
    have HEF : Bx (E < U1.heap.size ∧ G ≤ U1.heap.size) := Bx.mk ⟨Z1.out.lt (.head _), Z1.out.le⟩
    have Z2 := Bx.mk (Z1.out.new (.cells z1 37))
    clear Z1
    generalize U1.alloc (.cells z1 37) = U2 at *
    generalize U1.heap.size = F at *
    refine hK.out _ _ (Z2.out.rows _ (.tail _ (.tail _ (.head _)))) (fun hHeld => ?_)
    clear hK K
    try simp only [Act.put, List.setIfInBounds_toArray, List.set_cons_zero, List.set_cons_succ]
    refine stepL 5 (by kernel_rfl) rfl (fun K hK => ?_)
    refine step_st rfl 37 _ _ rfl F (u8s pv) (by rfl) (by rfl) (there_row (Z2.out.rows _ (.head _)) 0 _ (by rw [HIP.out.2]; omega)) HIP.out.1 (one_u8s _) ?_
    have hr2 := heap_setCells_all (ds := u8s pv) (Z2.out.rows _ (.head _)) HIP.out.2
    have Z3 := Bx.mk (Z2.out.set (kb_setCells (u8s pv).toList 0 U2) hr2 HEF.out.2 (by intro y hy; have h1 := HBD.out.1; have h2 := HDE.out.1; have h3 := HEF.out.1; simp at hy; rcases hy with rfl | rfl | rfl <;> (simp only; omega)))
    clear hr2 Z2
    refine hK.out _ _ (Z3.out.rows _ (.tail _ (.tail _ (.head _)))) (fun hHeld => ?_)
    clear hK K
    try simp only [Act.put]
    generalize U2.setCells F 0 (u8s pv).toList = U3 at *
    refine wpAnyH_done (by kernel_rfl) ?_ _
    refine NoPanic.normal ?_
    clear hHeld
    go_wp2_with fail
    refine (known6_any U3 (HT.out U3 (HW2.out.1.trans (Z3.out.below.mono HW2.out.2))).1 (HT.out U3 (HW2.out.1.trans (Z3.out.below.mono HW2.out.2))).2).mono ?_
    rintro e X6 ⟨rfl, hb⟩
    have Z9 := Bx.mk (Z3.out.later hb)
    clear hb Z3
    have HE : Bx (rv = if dd = true then 0 else 5) := Bx.mk (by rw [← HRv.out, ← HDD.out]; by_cases h : pv = tg; (simp [h]); (simp [h, Ne.symm h]))
    rcases Bool.eq_false_or_eq_true dd with hd | hd
    · subst hd
      obtain ⟨rfl⟩ : rv = 0 := by rw [HE.out]; rfl
      go_wp2_with fail
      refine (HSm.out pv X6 _ _ HPl.out (FW.out.2.1.later (by rw [HG.out]; exact Z9.out.below)) (row_bytes (Z9.out.rows _ (.head _)) HPl.out)).mono ?_
      rintro e X7 ⟨rfl, nd, rfl⟩
      rw [HDD.out]
      have Z10 := Bx.mk (Z9.out.later (below_drewN (Below.refl _ _) nd))
      generalize X6.drewN nd = X7 at *
      clear Z9
      go_wp2
      go_ret
      exact ⟨rfl, (HW2.out.1.trans (Z10.out.below.mono HW2.out.2))⟩
    · subst hd
      obtain ⟨rfl⟩ : rv = 5 := by rw [HE.out]; rfl
      go_wp2_with fail
      refine (HSm.out pv X6 _ _ HPl.out (FW.out.2.1.later (by rw [HG.out]; exact Z9.out.below)) (row_bytes (Z9.out.rows _ (.head _)) HPl.out)).mono ?_
      rintro e X7 ⟨rfl, nd, rfl⟩
      rw [HDD.out]
      have Z10 := Bx.mk (Z9.out.later (below_drewN (Below.refl _ _) nd))
      generalize X6.drewN nd = X7 at *
      clear Z9
      go_wp2
      go_ret
      exact ⟨rfl, (HW2.out.1.trans (Z10.out.below.mono HW2.out.2))⟩
  · go_simp
    show K _ _
    have HEF : Bx (E < U0.heap.size ∧ G ≤ U0.heap.size) := Bx.mk ⟨Z0.out.lt (.head _), Z0.out.le⟩
    have Z1 := Bx.mk (Z0.out.new (.cells z1 37))
    clear Z0
    generalize U0.alloc (.cells z1 37) = U1 at *
    generalize U0.heap.size = F at *
    refine hK.out _ _ (Z1.out.rows _ (.tail _ (.tail _ (.head _)))) (fun hHeld => ?_)
    clear hK K
    try simp only [Act.put, List.setIfInBounds_toArray, List.set_cons_zero, List.set_cons_succ]
    refine stepL 3 (by kernel_rfl) rfl (fun K hK => ?_)
    go_simp
    refine (HRp2.out U1 _ _ (row_bytes (Z1.out.rows _ (.tail _ (.head _))) HSl.out) (FW.out.2.2.2.later (by rw [HG.out]; exact Z1.out.below))).mono ?_
    rintro e U2 ⟨rfl, hb⟩
    show K _ _
    have Z2 := Bx.mk (Z1.out.later hb)
    clear hb Z1
    refine hK.out _ _ (Z2.out.rows _ (.tail _ (.tail _ (.head _)))) (fun hHeld => ?_)
    clear hK K
    try simp only [Act.put, List.setIfInBounds_toArray, List.set_cons_zero, List.set_cons_succ]
    refine stepL 5 (by kernel_rfl) rfl (fun K hK => ?_)
    refine step_st rfl 37 _ _ rfl F (u8s pv) (by rfl) (by rfl) (there_row (Z2.out.rows _ (.head _)) 0 _ (by rw [HIP.out.2]; omega)) HIP.out.1 (one_u8s _) ?_
    have hr2 := heap_setCells_all (ds := u8s pv) (Z2.out.rows _ (.head _)) HIP.out.2
    have Z3 := Bx.mk (Z2.out.set (kb_setCells (u8s pv).toList 0 U2) hr2 HEF.out.2 (by intro y hy; have h1 := HBD.out.1; have h2 := HDE.out.1; have h3 := HEF.out.1; simp at hy; rcases hy with rfl | rfl | rfl <;> (simp only; omega)))
    clear hr2 Z2
    refine hK.out _ _ (Z3.out.rows _ (.tail _ (.tail _ (.head _)))) (fun hHeld => ?_)
    clear hK K
    try simp only [Act.put]
    generalize U2.setCells F 0 (u8s pv).toList = U3 at *
    refine wpAnyH_done (by kernel_rfl) ?_ _
    refine NoPanic.normal ?_
    clear hHeld
    go_wp2_with fail
    refine (known6_any U3 (HT.out U3 (HW2.out.1.trans (Z3.out.below.mono HW2.out.2))).1 (HT.out U3 (HW2.out.1.trans (Z3.out.below.mono HW2.out.2))).2).mono ?_
    rintro e X6 ⟨rfl, hb⟩
    have Z9 := Bx.mk (Z3.out.later hb)
    clear hb Z3
    have HE : Bx (rv = if dd = true then 0 else 5) := Bx.mk (by rw [← HRv.out, ← HDD.out]; by_cases h : pv = tg; (simp [h]); (simp [h, Ne.symm h]))
    rcases Bool.eq_false_or_eq_true dd with hd | hd
    · subst hd
      obtain ⟨rfl⟩ : rv = 0 := by rw [HE.out]; rfl
      go_wp2_with fail
      refine (HSm.out pv X6 _ _ HPl.out (FW.out.2.1.later (by rw [HG.out]; exact Z9.out.below)) (row_bytes (Z9.out.rows _ (.head _)) HPl.out)).mono ?_
      rintro e X7 ⟨rfl, nd, rfl⟩
      rw [HDD.out]
      have Z10 := Bx.mk (Z9.out.later (below_drewN (Below.refl _ _) nd))
      generalize X6.drewN nd = X7 at *
      clear Z9
      go_wp2
      go_ret
      exact ⟨rfl, (HW2.out.1.trans (Z10.out.below.mono HW2.out.2))⟩
    · subst hd
      obtain ⟨rfl⟩ : rv = 5 := by rw [HE.out]; rfl
      go_wp2_with fail
      refine (HSm.out pv X6 _ _ HPl.out (FW.out.2.1.later (by rw [HG.out]; exact Z9.out.below)) (row_bytes (Z9.out.rows _ (.head _)) HPl.out)).mono ?_
      rintro e X7 ⟨rfl, nd, rfl⟩
      rw [HDD.out]
      have Z10 := Bx.mk (Z9.out.later (below_drewN (Below.refl _ _) nd))
      generalize X6.drewN nd = X7 at *
      clear Z9
      go_wp2
      go_ret
      exact ⟨rfl, (HW2.out.1.trans (Z10.out.below.mono HW2.out.2))⟩
theorem proves6_any (m0 t0 : List UInt8) (c : Cl) (p0 : List (List UInt8)) (vm vt vp : Value) (w : World) (hm : Bytes w vm m0) (ht : Bytes w vt t0) (hp : Parts w vp p0) (hml : m0.length ≤ 9223372036854775807) (htl : t0.length ≤ 9223372036854775807) (hpn : p0.length ≤ 9223372036854775807) (hpl : ∀ p ∈ p0, p.length ≤ 9223372036854775807) (hTab : Tab w) (hg : 0 < w.heap.size) :
    Calls Tryd.prog 5 #[vm, clV c, vt, vp] w fun e w' => e = .returned (.bool true) ∧ Below w.heap.size w w' := by
  rcases Bool.eq_false_or_eq_true (okC c) with h | h
  · exact proves6_ok m0 t0 c p0 vm vt vp w hm ht hp hml htl hpn hpl h hTab hg
  · exact proves6_bad m0 t0 c p0 vm vt vp w hm ht hp hml htl hpn hpl h hTab hg
end Go.Proofs.YtiengbmnfbbgoaaDoor
