/-
  The walk of KeysDerive, case by case.
-/
import Derived.Test.YtdionedinmkeiaaDoorYb
import Derived.Test.YtdionedinmkeiaaDoorYc
namespace Go.Proofs.YtdionedinmkeiaaDoor
open Go Go.RowKit
set_option maxRecDepth 100000 in
set_option maxHeartbeats 8000000 in
theorem der_rc (m0 : List UInt8) (c : Cl) (nv : Int) (ns : Int) (ρ : Nat) (hr1 : ρ < 8) (vm : Value) (w : World) (hm : Bytes w vm m0) (hml : m0.length ≤ 9223372036854775807) (hc : okC c = false) (hTab : Tab w) (hg : 0 < w.heap.size) :
    Calls Tryd.prog 3 #[vm, clV c, .int .i64 nv, .int .i64 ns, .int .i64 (ρ : Int)] w fun e w' => e = .returned (.bool true) ∧ Below w.heap.size w w' := by
  have HT : Bx (∀ W, Below w.heap.size w W → Tab W ∧ 0 < W.heap.size) := Bx.mk fun W hb => ⟨hTab.later hb hg, Nat.lt_of_lt_of_le hg hb.size⟩
  clear hTab hg
  have HCm := Bx.mk fun (W : World) (hW : Bytes W vm m0) => cut7_any m0 70 vm W hW hml (by omega)
  have HMl : Bx ((m0.take 70).length ≤ 70) := Bx.mk (by rw [List.length_take]; omega)
  have HV := Bx.mk hm
  obtain ⟨am, cm, rfl, -⟩ := hm
  generalize m0.take 70 = mk at *
  generalize m0.length = mn at *
  have HRi := Bx.mk fun (W : World) => cright_any c W
  rw [hc] at HRi
  have HNw : Bx (∀ (W : World) v, Bytes W v mk → Calls Tryd.prog 7 #[v] W fun e w' => ∃ v', e = .returned v' ∧ KeyO w' W.heap.size v' mk ∧ Below W.heap.size W w') := Bx.mk fun W v hv => new_any mk v W hv (by have := HMl.out; omega)
  have HTo := Bx.mk fun (W : World) => cto_any c W
  obtain ⟨z1, hz1⟩ : ∃ z, u8s (List.replicate 32 0) = z := ⟨_, rfl⟩
  have hz1v : ∀ W : World, (zeroValue 40).run Tryd.prog W = .ok (.agg z1) W := fun W => by rw [← hz1, zero32]; kernel_rfl
  obtain ⟨zt, hzt⟩ : ∃ z, u32s (List.replicate 72 0) = z := ⟨_, rfl⟩
  have hztv : ∀ W : World, (zeroValue 32).run Tryd.prog W = .ok (.agg zt) W := fun W => by rw [← hzt]; kernel_rfl
  obtain ⟨tbl, htb⟩ : ∃ tbl : List Value, u32s (kTab ++ hTab) = tbl.toArray := ⟨_, rfl⟩
  have HMake : Bx (∀ W : World, Calls Tryd.prog 8 #[] W fun e w' => e = .returned (.agg tbl.toArray) ∧ Below W.heap.size W w') := Bx.mk fun W => by rw [← htb]; exact make_any W
  have HTI : Bx (tbl.toArray.size = zt.size ∧ (Tryd.prog.info? 32).map (·.size) = some tbl.toArray.size ∧ tbl.toArray.all (·.oneCell') = true ∧ (Tryd.prog.info? 32).map (·.size) = some tbl.length) := Bx.mk ⟨by rw [← htb, ← hzt, u32s_size, u32s_size]; rfl, tbl_size3 htb, by rw [← htb]; exact one_u32s _, tbl_size3 htb⟩
  have HA : Bx (∀ l : List UInt8, l.length = 32 → (Tryd.prog.info? 40).map (·.size) = some (u8s l).size ∧ (u8s l).size = z1.size) := Bx.mk fun l hl => ⟨by rw [u8s_size, hl]; kernel_rfl, by rw [← hz1, u8s_size, u8s_size, hl]; rfl⟩
  have HSame : Bx (∀ (l : List UInt8) (W : World) va vb, l.length = 32 → Bytes W va l → Bytes W vb l → Calls Tryd.prog 14 #[va, vb] W fun e w' => e = .returned (.bool true) ∧ ∃ n, w' = W.drewN n) := Bx.mk fun l W va vb hl ha hb => by
    have h := same_any _ _ va vb W ha hb (by omega) (by omega)
    rw [decide_eq_true rfl] at h
    exact h
  have HKb : Bx (∀ (l : List UInt8) W v, l.length = 32 → IsKey W v l → Calls Tryd.prog 15 #[v] W fun e w' => ∃ v', e = .returned v' ∧ OwnB w' W.heap.size v' l ∧ Below W.heap.size W w') := Bx.mk fun l W v hl hv => kbytes_any _ v W hv (by omega)
  have HGr : Bx (∀ (W : World) v, IsKey W v mk → Calls Tryd.prog 9 #[v, clV c, .int .i64 nv] W fun e w' => e = .returned (.tuple #[.pointer none, .int .i64 10]) ∧ Below W.heap.size W w') := Bx.mk fun W v hv => by
    obtain ⟨p, s, rfl, -, -⟩ := hv
    exact gra_badc c p _ W hc
  have HMe : Bx (∀ (W : World) v, IsKey W v mk → Calls Tryd.prog 11 #[v, clV c, .int .i64 ns] W fun e w' => e = .returned (.tuple #[.pointer none, .int .i64 10]) ∧ Below W.heap.size W w') := Bx.mk fun W v hv => by
    obtain ⟨p, s, rfl, -, -⟩ := hv
    exact mem_badc c p _ W hc
  have HLa : Bx (∀ (W : World) v, Below w.heap.size w W → IsKey W v mk → Calls Tryd.prog 12 #[v, .int .i64 (ρ : Int)] W fun e w' => ∃ v', e = .returned (.tuple #[v', .int .i64 0]) ∧ KeyO w' W.heap.size v' (numK mk labL ρ) ∧ Below W.heap.size W w') := Bx.mk fun W v hb hk => lab_ok mk ρ v W hk (by have := HMl.out; omega) hr1 (HT.out W hb).1 (HT.out W hb).2
  have HRl : Bx (∀ (W : World) v, Bytes W v mk → Calls Tryd.prog 13 #[.agg tbl.toArray, v, .int .i64 (ρ : Int)] W fun e w' => e = .returned (.agg (u8s (numK mk labL ρ))) ∧ Below W.heap.size W w') := Bx.mk fun W v hv => rlab_any tbl htb mk ρ v W hv (by have := HMl.out; omega)
  have HLl : Bx ((numK mk labL ρ).length = 32) := Bx.mk (hmac_length _ _)
  generalize numK mk labL ρ = kl at *
  have gr1 : (0 : Int) ≤ (ρ : Int) := by omega
  have gr2 : (ρ : Int) < 8 := by omega
  clear hr1
  clear hml hc hz1 hzt htb
  obtain ⟨i, r, x, q⟩ := c
  unfold clV at *
  simp only at HRi HTo HGr HMe ⊢
  obtain ⟨B, hB⟩ : ∃ B, w.heap.size = B := ⟨_, rfl⟩
  have HB := Bx.mk hB
  have Y0 := Bx.mk ((KS.start w B hB).new (.cells #[.int .i64 i, .int .i64 r, .int .i64 x, .int .i64 q] 24))
  rw [hB] at Y0
  rw [hB] at HT HLa ⊢
  go_enter Tryd.func3, Tryd.ntmps3
  go_upto_region 1 with fail
  generalize w.alloc (.cells #[.int .i64 i, .int .i64 r, .int .i64 x, .int .i64 q] 24) = X0 at *
  have M_ := Bx.mk (HV.out.later (by rw [HB.out]; exact Y0.out.below))
  go_wp2_with fail
  refine (HCm.out X0 M_.out).mono ?_
  rintro e w1 ⟨v1, rfl, hm1, rfl⟩
  have M_ := Bx.mk (hm1 X0 M_.out)
  obtain ⟨am, cm, hv1, -⟩ := M_.out
  subst hv1
  clear hm1 HCm HV
  obtain ⟨mn2, hmn2⟩ : ∃ mn2, mk.length = mn2 := ⟨_, rfl⟩
  rw [hmn2] at M_ ⊢
  clear hmn2
  go_wp2_with fail
  refine (HNw.out X0 _ M_.out).mono ?_
  rintro e X1 ⟨vk, rfl, hk, hb⟩
  have Y1 := Bx.mk (Y0.out.later hb)
  have M_ := Bx.mk (M_.out.later hb)
  have Kk := Bx.mk hk.key
  clear hb Y0
  clear hk
  go_wp2_with fail
  refine (HMake.out X1).mono ?_
  rintro e X2 ⟨rfl, hb⟩
  have Y2 := Bx.mk (Y1.out.later hb)
  have M_ := Bx.mk (M_.out.later hb)
  have Kk := Bx.mk (Kk.out.later hb)
  clear hb Y1
  obtain ⟨D, hD⟩ : ∃ D, X2.heap.size = D := ⟨_, rfl⟩
  have LD : Bx (B < D) := Bx.mk (by rw [← hD]; exact Y2.out.lt (.head _))
  have QD := Bx.mk (Y2.out.new (.cells zt 32))
  rw [hD] at QD
  go_upto_region 4 with (first | fail | (refine wpList_store_new rfl 32 _ _ rfl D tbl.toArray zt _ (by rfl) (by rfl) (QD.out.rows _ (.head _)) HTI.out.1 HTI.out.2.1 HTI.out.2.2.1 ?_; intro X3 hw8 hr8; have hg8 := Bx.mk (kb_of hw8); have HR8 := Bx.mk hr8; clear hw8 hr8))
  have Y3 := Bx.mk (QD.out.set hg8.out HR8.out (by have h := LD.out; have := Y2.out.le; omega) (by intro y hy; have h := LD.out; simp at hy; rcases hy with rfl; (simp only; omega)))
  have hb := below_of hD hg8.out
  have M_ := Bx.mk (M_.out.later hb)
  have Kk := Bx.mk (Kk.out.later hb)
  clear hb QD hg8 HR8 Y2 hD
  obtain ⟨k0, k1, k2, k3⟩ := cells4 (Y3.out.rows _ (.tail _ (.head _)))
  go_wp2_with fail
  clear k0 k1 k2 k3
  refine (HTo.out X3).mono ?_
  rintro e X4 ⟨rfl, hb⟩
  have Y4 := Bx.mk (Y3.out.later hb)
  have M_ := Bx.mk (M_.out.later hb)
  have Kk := Bx.mk (Kk.out.later hb)
  clear hb Y3
  go_wp2_with fail
  refine (HGr.out X4 vk Kk.out).mono ?_
  rintro e X5 ⟨rfl, hb⟩
  have Y5 := Bx.mk (Y4.out.later hb)
  have M_ := Bx.mk (M_.out.later hb)
  have Kk := Bx.mk (Kk.out.later hb)
  clear hb Y4
  obtain ⟨k0, k1, k2, k3⟩ := cells4 (Y5.out.rows _ (.tail _ (.head _)))
  go_wp2_with fail
  clear k0 k1 k2 k3
  refine (HTo.out X5).mono ?_
  rintro e X6 ⟨rfl, hb⟩
  have Y6 := Bx.mk (Y5.out.later hb)
  have M_ := Bx.mk (M_.out.later hb)
  have Kk := Bx.mk (Kk.out.later hb)
  clear hb Y5
  go_wp2_with fail
  refine (HMe.out X6 vk Kk.out).mono ?_
  rintro e X7 ⟨rfl, hb⟩
  have Y7 := Bx.mk (Y6.out.later hb)
  have M_ := Bx.mk (M_.out.later hb)
  have Kk := Bx.mk (Kk.out.later hb)
  clear hb Y6
  go_wp2_with fail
  refine (HLa.out X7 vk Y7.out.below Kk.out).mono ?_
  rintro e X8 ⟨vl, rfl, hk, hb⟩
  have Y8 := Bx.mk (Y7.out.later hb)
  have M_ := Bx.mk (M_.out.later hb)
  have Kk := Bx.mk (Kk.out.later hb)
  have Kvl := Bx.mk hk.key
  clear hb Y7
  clear hk
  go_wp2_with fail
  refine (lab_nil _ _).mono ?_
  rintro e w9 ⟨rfl, rfl⟩
  go_wp2_with (refine wpList_load_mid rfl 32 _ rfl D 0 (by rfl) tbl _ (row_rng (Y8.out.rows _ (.head _))) Tryd.underlying32 rfl HTI.out.2.2.2 ?_)
  refine (HRl.out X8 _ M_.out).mono ?_
  rintro e X9 ⟨rfl, hb⟩
  have Y9 := Bx.mk (Y8.out.later hb)
  have M_ := Bx.mk (M_.out.later hb)
  have Kk := Bx.mk (Kk.out.later hb)
  have Kvl := Bx.mk (Kvl.out.later hb)
  clear hb Y8
  obtain ⟨N, hN⟩ : ∃ N, X9.heap.size = N := ⟨_, rfl⟩
  have LN : Bx (D < N ∧ B < N) := Bx.mk (by rw [← hN]; exact ⟨Y9.out.lt (.head _), Y9.out.lt (.tail _ (.head _))⟩)
  have QN := Bx.mk (Y9.out.new (.cells z1 40))
  rw [hN] at QN
  go_upto_region 12 with (first | (refine wpList_load_mid rfl 32 _ rfl D 0 (by rfl) tbl _ (row_rng (Y9.out.rows _ (.head _))) Tryd.underlying32 rfl HTI.out.2.2.2 ?_) | (refine wpList_store_new rfl 40 _ _ rfl N (u8s kl) z1 _ (by rfl) (by rfl) (QN.out.rows _ (.head _)) (HA.out kl HLl.out).2 (HA.out kl HLl.out).1 (one_u8s _) ?_; intro X10 hw8 hr8; have hg8 := Bx.mk (kb_of hw8); have HR8 := Bx.mk hr8; clear hw8 hr8))
  have Y10 := Bx.mk (QN.out.set hg8.out HR8.out (by have h := LN.out; have := Y9.out.le; omega) (by intro y hy; have h := LN.out; simp at hy; rcases hy with rfl | rfl <;> (simp only; omega)))
  have hb := below_of hN hg8.out
  have M_ := Bx.mk (M_.out.later hb)
  have Kk := Bx.mk (Kk.out.later hb)
  have Kvl := Bx.mk (Kvl.out.later hb)
  clear hb QN hg8 HR8 Y9 hN
  go_upto_region 12 with fail
  have hb : Below X10.heap.size X10 X10.drew := (Below.refl _ _).drew
  have Y11 := Bx.mk (Y10.out.later hb)
  have M_ := Bx.mk (M_.out.later hb)
  have Kk := Bx.mk (Kk.out.later hb)
  have Kvl := Bx.mk (Kvl.out.later hb)
  clear hb Y10
  refine wp_region_noPanic ?_
  refine wp_region_held_drew (S := fun _ => True) (by kernel_rfl) (True.intro) (fun hHeld => ?_)
  generalize X10.drew = X11 at *
  refine takeL 0 (v := ?_) rfl (by kernel_rfl) (by kernel_rfl) (by kernel_rfl) (fun _ _ _ h => h) (Or.inl ⟨by rfl, ?_⟩) hHeld ?_
  rotate_left 1
  · (intro w hSw; go_simp; try with_reducible rfl)
  try simp only [Act.put, List.setIfInBounds_toArray, List.set_cons_zero, List.set_cons_succ]
  refine takeL 2 (v := ?_) rfl (by kernel_rfl) (by kernel_rfl) (by kernel_rfl) (fun _ _ _ h => h) (Or.inl ⟨by rfl, ?_⟩) hHeld ?_
  rotate_left 1
  · (intro w hSw; go_simp; try with_reducible rfl)
  try simp only [Act.put, List.setIfInBounds_toArray, List.set_cons_zero, List.set_cons_succ]
  refine stepL 1 (by kernel_rfl) rfl (fun K hK => ?_)
  go_simp
  refine (HKb.out kl X11 vl HLl.out Kvl.out).mono ?_
  rintro e X12 ⟨u0, rfl, ho, hb⟩
  show K _ _
  have Y12 := Bx.mk (Y11.out.later hb)
  have M_ := Bx.mk (M_.out.later hb)
  have Kk := Bx.mk (Kk.out.later hb)
  have Kvl := Bx.mk (Kvl.out.later hb)
  have Bu0 := Bx.mk ho.bytes
  clear hb Y11
  clear ho
  refine hK.out _ _ (True.intro) (fun hHeld => ?_)
  clear hK K
  try simp only [Act.put, List.setIfInBounds_toArray, List.set_cons_zero, List.set_cons_succ]
  refine stepL 3 (by kernel_rfl) rfl (fun K hK => ?_)
  go_simp
  refine (HSame.out kl X12 _ _ HLl.out Bu0.out (row_bytes (Y12.out.rows _ (.head _)) HLl.out)).mono ?_
  rintro e X13 ⟨rfl, hdd⟩
  show K _ _
  obtain ⟨nd, hnd⟩ := hdd
  have hb : Below X12.heap.size X12 X13 := by rw [hnd]; exact drewN_below _ _
  clear hnd
  have Y13 := Bx.mk (Y12.out.later hb)
  have M_ := Bx.mk (M_.out.later hb)
  have Kk := Bx.mk (Kk.out.later hb)
  have Kvl := Bx.mk (Kvl.out.later hb)
  clear hb Y12
  refine hK.out _ _ True.intro (fun hHeld => ?_)
  clear hK K
  try simp only [Act.put, List.setIfInBounds_toArray, List.set_cons_zero, List.set_cons_succ]
  refine takeL 4 (v := ?_) rfl (by kernel_rfl) (by kernel_rfl) (by kernel_rfl) (fun _ _ _ h => h) (Or.inl ⟨by rfl, ?_⟩) hHeld ?_
  rotate_left 1
  · (intro w hSw; go_simp; try with_reducible rfl)
  try simp only [Act.put, List.setIfInBounds_toArray, List.set_cons_zero, List.set_cons_succ]
  refine wpAnyH_done (by kernel_rfl) ?_ _
  refine NoPanic.normal ?_
  clear hHeld
  obtain ⟨k0, k1, k2, k3⟩ := cells4 (Y13.out.rows _ (.tail _ (.tail _ (.head _))))
  go_wp2_with fail
  clear k0 k1 k2 k3
  refine (HRi.out X13).mono ?_
  rintro e X14 ⟨rfl, hb⟩
  have Y14 := Bx.mk (Y13.out.later hb)
  have M_ := Bx.mk (M_.out.later hb)
  have Kk := Bx.mk (Kk.out.later hb)
  have Kvl := Bx.mk (Kvl.out.later hb)
  clear hb Y13
  go_wp2_with fail
  refine (known7_any X14 (HT.out X14 Y14.out.below).1 (HT.out X14 Y14.out.below).2).mono ?_
  rintro e X15 ⟨rfl, hb⟩
  have Y15 := Bx.mk (Y14.out.later hb)
  have M_ := Bx.mk (M_.out.later hb)
  have Kk := Bx.mk (Kk.out.later hb)
  have Kvl := Bx.mk (Kvl.out.later hb)
  clear hb Y14
  go_wp2
  go_ret
  exact ⟨rfl, Y15.out.below⟩
set_option maxRecDepth 100000 in
set_option maxHeartbeats 8000000 in
theorem der_rnn (m0 : List UInt8) (c : Cl) (nv : Int) (hv : nv < 1 ∨ 65535 < nv) (ns : Int) (hs : ns < 0 ∨ 4 ≤ ns) (ρ : Nat) (hr1 : ρ < 8) (vm : Value) (w : World) (hm : Bytes w vm m0) (hml : m0.length ≤ 9223372036854775807) (hc : okC c = true) (hTab : Tab w) (hg : 0 < w.heap.size) :
    Calls Tryd.prog 3 #[vm, clV c, .int .i64 nv, .int .i64 ns, .int .i64 (ρ : Int)] w fun e w' => e = .returned (.bool true) ∧ Below w.heap.size w w' := by
  have HT : Bx (∀ W, Below w.heap.size w W → Tab W ∧ 0 < W.heap.size) := Bx.mk fun W hb => ⟨hTab.later hb hg, Nat.lt_of_lt_of_le hg hb.size⟩
  clear hTab hg
  have HCm := Bx.mk fun (W : World) (hW : Bytes W vm m0) => cut7_any m0 70 vm W hW hml (by omega)
  have HMl : Bx ((m0.take 70).length ≤ 70) := Bx.mk (by rw [List.length_take]; omega)
  have HV := Bx.mk hm
  obtain ⟨am, cm, rfl, -⟩ := hm
  generalize m0.take 70 = mk at *
  generalize m0.length = mn at *
  have HRi := Bx.mk fun (W : World) => cright_any c W
  rw [hc] at HRi
  have HNw : Bx (∀ (W : World) v, Bytes W v mk → Calls Tryd.prog 7 #[v] W fun e w' => ∃ v', e = .returned v' ∧ KeyO w' W.heap.size v' mk ∧ Below W.heap.size W w') := Bx.mk fun W v hv => new_any mk v W hv (by have := HMl.out; omega)
  have HTo := Bx.mk fun (W : World) => cto_any c W
  obtain ⟨z1, hz1⟩ : ∃ z, u8s (List.replicate 32 0) = z := ⟨_, rfl⟩
  have hz1v : ∀ W : World, (zeroValue 40).run Tryd.prog W = .ok (.agg z1) W := fun W => by rw [← hz1, zero32]; kernel_rfl
  obtain ⟨zt, hzt⟩ : ∃ z, u32s (List.replicate 72 0) = z := ⟨_, rfl⟩
  have hztv : ∀ W : World, (zeroValue 32).run Tryd.prog W = .ok (.agg zt) W := fun W => by rw [← hzt]; kernel_rfl
  obtain ⟨tbl, htb⟩ : ∃ tbl : List Value, u32s (kTab ++ hTab) = tbl.toArray := ⟨_, rfl⟩
  have HMake : Bx (∀ W : World, Calls Tryd.prog 8 #[] W fun e w' => e = .returned (.agg tbl.toArray) ∧ Below W.heap.size W w') := Bx.mk fun W => by rw [← htb]; exact make_any W
  have HTI : Bx (tbl.toArray.size = zt.size ∧ (Tryd.prog.info? 32).map (·.size) = some tbl.toArray.size ∧ tbl.toArray.all (·.oneCell') = true ∧ (Tryd.prog.info? 32).map (·.size) = some tbl.length) := Bx.mk ⟨by rw [← htb, ← hzt, u32s_size, u32s_size]; rfl, tbl_size3 htb, by rw [← htb]; exact one_u32s _, tbl_size3 htb⟩
  have HA : Bx (∀ l : List UInt8, l.length = 32 → (Tryd.prog.info? 40).map (·.size) = some (u8s l).size ∧ (u8s l).size = z1.size) := Bx.mk fun l hl => ⟨by rw [u8s_size, hl]; kernel_rfl, by rw [← hz1, u8s_size, u8s_size, hl]; rfl⟩
  have HSame : Bx (∀ (l : List UInt8) (W : World) va vb, l.length = 32 → Bytes W va l → Bytes W vb l → Calls Tryd.prog 14 #[va, vb] W fun e w' => e = .returned (.bool true) ∧ ∃ n, w' = W.drewN n) := Bx.mk fun l W va vb hl ha hb => by
    have h := same_any _ _ va vb W ha hb (by omega) (by omega)
    rw [decide_eq_true rfl] at h
    exact h
  have HKb : Bx (∀ (l : List UInt8) W v, l.length = 32 → IsKey W v l → Calls Tryd.prog 15 #[v] W fun e w' => ∃ v', e = .returned v' ∧ OwnB w' W.heap.size v' l ∧ Below W.heap.size W w') := Bx.mk fun l W v hl hv => kbytes_any _ v W hv (by omega)
  have HGr : Bx (∀ (W : World) v, Below w.heap.size w W → IsKey W v mk → Calls Tryd.prog 9 #[v, clV c, .int .i64 nv] W fun e w' => e = .returned (.tuple #[.pointer none, .int .i64 10]) ∧ Below W.heap.size W w') := Bx.mk fun W v hb hv => gra_bad mk c nv v W hv (by have := HMl.out; omega) hc ‹nv < 1 ∨ 65535 < nv› (HT.out W hb).1 (HT.out W hb).2
  have HMe : Bx (∀ (W : World) v, Below w.heap.size w W → IsKey W v mk → Calls Tryd.prog 11 #[v, clV c, .int .i64 ns] W fun e w' => e = .returned (.tuple #[.pointer none, .int .i64 10]) ∧ Below W.heap.size W w') := Bx.mk fun W v hb hv => mem_bad mk c ns v W hv (by have := HMl.out; omega) hc hs (HT.out W hb).1 (HT.out W hb).2
  have HSec : Bx (∀ (W : World) v, Bytes W v mk → Calls Tryd.prog 18 #[.agg tbl.toArray, v, clV c] W fun e w' => e = .returned (.agg (u8s (secK mk c))) ∧ Below W.heap.size W w') := Bx.mk fun W v hv => rsecret_any tbl htb mk c v W hv (by have := HMl.out; omega) hc
  have HNs : Bx (∀ (W : World) v, Bytes W v (secK mk c) → Calls Tryd.prog 7 #[v] W fun e w' => ∃ v', e = .returned v' ∧ KeyO w' W.heap.size v' (secK mk c) ∧ Below W.heap.size W w') := Bx.mk fun W v hv => new_any _ v W hv (by rw [secK_length]; omega)
  have HSe : Bx (∀ (W : World) v, Below w.heap.size w W → IsKey W v (secK mk c) → Calls Tryd.prog 19 #[v, .int .i64 nv] W fun e w' => e = .returned (.tuple #[.pointer none, .int .i64 10]) ∧ Below W.heap.size W w') := Bx.mk fun W v hb hk => by
    obtain ⟨p, s, rfl, -, -⟩ := hk
    exact (sen_bad p nv W hv).mono (by rintro e w' ⟨h1, rfl⟩; exact ⟨h1, Below.refl _ _⟩)
  have HSd : Bx (∀ (W : World) v, Below w.heap.size w W → IsKey W v (secK mk c) → Calls Tryd.prog 20 #[v, .int .i64 ns] W fun e w' => e = .returned (.tuple #[.pointer none, .int .i64 10]) ∧ Below W.heap.size W w') := Bx.mk fun W v hb hk => by
    obtain ⟨p, s, rfl, -, -⟩ := hk
    exact (see_bad p ns W hs).mono (by rintro e w' ⟨h1, rfl⟩; exact ⟨h1, Below.refl _ _⟩)
  have HLa : Bx (∀ (W : World) v, Below w.heap.size w W → IsKey W v mk → Calls Tryd.prog 12 #[v, .int .i64 (ρ : Int)] W fun e w' => ∃ v', e = .returned (.tuple #[v', .int .i64 0]) ∧ KeyO w' W.heap.size v' (numK mk labL ρ) ∧ Below W.heap.size W w') := Bx.mk fun W v hb hk => lab_ok mk ρ v W hk (by have := HMl.out; omega) hr1 (HT.out W hb).1 (HT.out W hb).2
  have HRl : Bx (∀ (W : World) v, Bytes W v mk → Calls Tryd.prog 13 #[.agg tbl.toArray, v, .int .i64 (ρ : Int)] W fun e w' => e = .returned (.agg (u8s (numK mk labL ρ))) ∧ Below W.heap.size W w') := Bx.mk fun W v hv => rlab_any tbl htb mk ρ v W hv (by have := HMl.out; omega)
  have HLl : Bx ((numK mk labL ρ).length = 32) := Bx.mk (hmac_length _ _)
  generalize numK mk labL ρ = kl at *
  have HLs : Bx ((secK mk c).length = 32) := Bx.mk (secK_length _ _)
  generalize secK mk c = sk at *
  have gr1 : (0 : Int) ≤ (ρ : Int) := by omega
  have gr2 : (ρ : Int) < 8 := by omega
  clear hr1
  have HVB := Bx.mk hv
  clear hv
  have HSB := Bx.mk hs
  clear hs
  clear hml hc hz1 hzt htb
  obtain ⟨i, r, x, q⟩ := c
  unfold clV at *
  simp only at HRi HTo HGr HMe HSec ⊢
  obtain ⟨B, hB⟩ : ∃ B, w.heap.size = B := ⟨_, rfl⟩
  have HB := Bx.mk hB
  have Y0 := Bx.mk ((KS.start w B hB).new (.cells #[.int .i64 i, .int .i64 r, .int .i64 x, .int .i64 q] 24))
  rw [hB] at Y0
  rw [hB] at HT HLa HGr HMe HSe HSd ⊢
  go_enter Tryd.func3, Tryd.ntmps3
  go_upto_region 1 with fail
  generalize w.alloc (.cells #[.int .i64 i, .int .i64 r, .int .i64 x, .int .i64 q] 24) = X0 at *
  have M_ := Bx.mk (HV.out.later (by rw [HB.out]; exact Y0.out.below))
  go_wp2_with fail
  refine (HCm.out X0 M_.out).mono ?_
  rintro e w1 ⟨v1, rfl, hm1, rfl⟩
  have M_ := Bx.mk (hm1 X0 M_.out)
  obtain ⟨am, cm, hv1, -⟩ := M_.out
  subst hv1
  clear hm1 HCm HV
  obtain ⟨mn2, hmn2⟩ : ∃ mn2, mk.length = mn2 := ⟨_, rfl⟩
  rw [hmn2] at M_ ⊢
  clear hmn2
  go_wp2_with fail
  refine (HNw.out X0 _ M_.out).mono ?_
  rintro e X1 ⟨vk, rfl, hk, hb⟩
  have Y1 := Bx.mk (Y0.out.later hb)
  have M_ := Bx.mk (M_.out.later hb)
  have Kk := Bx.mk hk.key
  clear hb Y0
  clear hk
  go_wp2_with fail
  refine (HMake.out X1).mono ?_
  rintro e X2 ⟨rfl, hb⟩
  have Y2 := Bx.mk (Y1.out.later hb)
  have M_ := Bx.mk (M_.out.later hb)
  have Kk := Bx.mk (Kk.out.later hb)
  clear hb Y1
  obtain ⟨D, hD⟩ : ∃ D, X2.heap.size = D := ⟨_, rfl⟩
  have LD : Bx (B < D) := Bx.mk (by rw [← hD]; exact Y2.out.lt (.head _))
  have QD := Bx.mk (Y2.out.new (.cells zt 32))
  rw [hD] at QD
  go_upto_region 4 with (first | fail | (refine wpList_store_new rfl 32 _ _ rfl D tbl.toArray zt _ (by rfl) (by rfl) (QD.out.rows _ (.head _)) HTI.out.1 HTI.out.2.1 HTI.out.2.2.1 ?_; intro X3 hw8 hr8; have hg8 := Bx.mk (kb_of hw8); have HR8 := Bx.mk hr8; clear hw8 hr8))
  have Y3 := Bx.mk (QD.out.set hg8.out HR8.out (by have h := LD.out; have := Y2.out.le; omega) (by intro y hy; have h := LD.out; simp at hy; rcases hy with rfl; (simp only; omega)))
  have hb := below_of hD hg8.out
  have M_ := Bx.mk (M_.out.later hb)
  have Kk := Bx.mk (Kk.out.later hb)
  clear hb QD hg8 HR8 Y2 hD
  obtain ⟨k0, k1, k2, k3⟩ := cells4 (Y3.out.rows _ (.tail _ (.head _)))
  go_wp2_with fail
  clear k0 k1 k2 k3
  refine (HTo.out X3).mono ?_
  rintro e X4 ⟨rfl, hb⟩
  have Y4 := Bx.mk (Y3.out.later hb)
  have M_ := Bx.mk (M_.out.later hb)
  have Kk := Bx.mk (Kk.out.later hb)
  clear hb Y3
  go_wp2_with fail
  refine (HGr.out X4 vk Y4.out.below Kk.out).mono ?_
  rintro e X5 ⟨rfl, hb⟩
  have Y5 := Bx.mk (Y4.out.later hb)
  have M_ := Bx.mk (M_.out.later hb)
  have Kk := Bx.mk (Kk.out.later hb)
  clear hb Y4
  obtain ⟨k0, k1, k2, k3⟩ := cells4 (Y5.out.rows _ (.tail _ (.head _)))
  go_wp2_with fail
  clear k0 k1 k2 k3
  refine (HTo.out X5).mono ?_
  rintro e X6 ⟨rfl, hb⟩
  have Y6 := Bx.mk (Y5.out.later hb)
  have M_ := Bx.mk (M_.out.later hb)
  have Kk := Bx.mk (Kk.out.later hb)
  clear hb Y5
  go_wp2_with fail
  refine (HMe.out X6 vk Y6.out.below Kk.out).mono ?_
  rintro e X7 ⟨rfl, hb⟩
  have Y7 := Bx.mk (Y6.out.later hb)
  have M_ := Bx.mk (M_.out.later hb)
  have Kk := Bx.mk (Kk.out.later hb)
  clear hb Y6
  go_wp2_with fail
  refine (HLa.out X7 vk Y7.out.below Kk.out).mono ?_
  rintro e X8 ⟨vl, rfl, hk, hb⟩
  have Y8 := Bx.mk (Y7.out.later hb)
  have M_ := Bx.mk (M_.out.later hb)
  have Kk := Bx.mk (Kk.out.later hb)
  have Kvl := Bx.mk hk.key
  clear hb Y7
  clear hk
  go_wp2_with fail
  refine (lab_nil _ _).mono ?_
  rintro e w9 ⟨rfl, rfl⟩
  go_wp2_with (refine wpList_load_mid rfl 32 _ rfl D 0 (by rfl) tbl _ (row_rng (Y8.out.rows _ (.head _))) Tryd.underlying32 rfl HTI.out.2.2.2 ?_)
  refine (HRl.out X8 _ M_.out).mono ?_
  rintro e X9 ⟨rfl, hb⟩
  have Y9 := Bx.mk (Y8.out.later hb)
  have M_ := Bx.mk (M_.out.later hb)
  have Kk := Bx.mk (Kk.out.later hb)
  have Kvl := Bx.mk (Kvl.out.later hb)
  clear hb Y8
  obtain ⟨N, hN⟩ : ∃ N, X9.heap.size = N := ⟨_, rfl⟩
  have LN : Bx (D < N ∧ B < N) := Bx.mk (by rw [← hN]; exact ⟨Y9.out.lt (.head _), Y9.out.lt (.tail _ (.head _))⟩)
  have QN := Bx.mk (Y9.out.new (.cells z1 40))
  rw [hN] at QN
  go_upto_region 12 with (first | (refine wpList_load_mid rfl 32 _ rfl D 0 (by rfl) tbl _ (row_rng (Y9.out.rows _ (.head _))) Tryd.underlying32 rfl HTI.out.2.2.2 ?_) | (refine wpList_store_new rfl 40 _ _ rfl N (u8s kl) z1 _ (by rfl) (by rfl) (QN.out.rows _ (.head _)) (HA.out kl HLl.out).2 (HA.out kl HLl.out).1 (one_u8s _) ?_; intro X10 hw8 hr8; have hg8 := Bx.mk (kb_of hw8); have HR8 := Bx.mk hr8; clear hw8 hr8))
  have Y10 := Bx.mk (QN.out.set hg8.out HR8.out (by have h := LN.out; have := Y9.out.le; omega) (by intro y hy; have h := LN.out; simp at hy; rcases hy with rfl | rfl <;> (simp only; omega)))
  have hb := below_of hN hg8.out
  have M_ := Bx.mk (M_.out.later hb)
  have Kk := Bx.mk (Kk.out.later hb)
  have Kvl := Bx.mk (Kvl.out.later hb)
  clear hb QN hg8 HR8 Y9 hN
  go_upto_region 12 with fail
  have hb : Below X10.heap.size X10 X10.drew := (Below.refl _ _).drew
  have Y11 := Bx.mk (Y10.out.later hb)
  have M_ := Bx.mk (M_.out.later hb)
  have Kk := Bx.mk (Kk.out.later hb)
  have Kvl := Bx.mk (Kvl.out.later hb)
  clear hb Y10
  refine wp_region_noPanic ?_
  refine wp_region_held_drew (S := fun _ => True) (by kernel_rfl) (True.intro) (fun hHeld => ?_)
  generalize X10.drew = X11 at *
  refine takeL 0 (v := ?_) rfl (by kernel_rfl) (by kernel_rfl) (by kernel_rfl) (fun _ _ _ h => h) (Or.inl ⟨by rfl, ?_⟩) hHeld ?_
  rotate_left 1
  · (intro w hSw; go_simp; try with_reducible rfl)
  try simp only [Act.put, List.setIfInBounds_toArray, List.set_cons_zero, List.set_cons_succ]
  refine takeL 2 (v := ?_) rfl (by kernel_rfl) (by kernel_rfl) (by kernel_rfl) (fun _ _ _ h => h) (Or.inl ⟨by rfl, ?_⟩) hHeld ?_
  rotate_left 1
  · (intro w hSw; go_simp; try with_reducible rfl)
  try simp only [Act.put, List.setIfInBounds_toArray, List.set_cons_zero, List.set_cons_succ]
  refine stepL 1 (by kernel_rfl) rfl (fun K hK => ?_)
  go_simp
  refine (HKb.out kl X11 vl HLl.out Kvl.out).mono ?_
  rintro e X12 ⟨u0, rfl, ho, hb⟩
  show K _ _
  have Y12 := Bx.mk (Y11.out.later hb)
  have M_ := Bx.mk (M_.out.later hb)
  have Kk := Bx.mk (Kk.out.later hb)
  have Kvl := Bx.mk (Kvl.out.later hb)
  have Bu0 := Bx.mk ho.bytes
  clear hb Y11
  clear ho
  refine hK.out _ _ (True.intro) (fun hHeld => ?_)
  clear hK K
  try simp only [Act.put, List.setIfInBounds_toArray, List.set_cons_zero, List.set_cons_succ]
  refine stepL 3 (by kernel_rfl) rfl (fun K hK => ?_)
  go_simp
  refine (HSame.out kl X12 _ _ HLl.out Bu0.out (row_bytes (Y12.out.rows _ (.head _)) HLl.out)).mono ?_
  rintro e X13 ⟨rfl, hdd⟩
  show K _ _
  obtain ⟨nd, hnd⟩ := hdd
  have hb : Below X12.heap.size X12 X13 := by rw [hnd]; exact drewN_below _ _
  clear hnd
  have Y13 := Bx.mk (Y12.out.later hb)
  have M_ := Bx.mk (M_.out.later hb)
  have Kk := Bx.mk (Kk.out.later hb)
  have Kvl := Bx.mk (Kvl.out.later hb)
  clear hb Y12
  refine hK.out _ _ True.intro (fun hHeld => ?_)
  clear hK K
  try simp only [Act.put, List.setIfInBounds_toArray, List.set_cons_zero, List.set_cons_succ]
  refine takeL 4 (v := ?_) rfl (by kernel_rfl) (by kernel_rfl) (by kernel_rfl) (fun _ _ _ h => h) (Or.inl ⟨by rfl, ?_⟩) hHeld ?_
  rotate_left 1
  · (intro w hSw; go_simp; try with_reducible rfl)
  try simp only [Act.put, List.setIfInBounds_toArray, List.set_cons_zero, List.set_cons_succ]
  refine wpAnyH_done (by kernel_rfl) ?_ _
  refine NoPanic.normal ?_
  clear hHeld
  obtain ⟨k0, k1, k2, k3⟩ := cells4 (Y13.out.rows _ (.tail _ (.tail _ (.head _))))
  go_wp2_with fail
  clear k0 k1 k2 k3
  refine (HRi.out X13).mono ?_
  rintro e X14 ⟨rfl, hb⟩
  have Y14 := Bx.mk (Y13.out.later hb)
  have M_ := Bx.mk (M_.out.later hb)
  have Kk := Bx.mk (Kk.out.later hb)
  have Kvl := Bx.mk (Kvl.out.later hb)
  clear hb Y13
  obtain ⟨k0, k1, k2, k3⟩ := cells4 (Y14.out.rows _ (.tail _ (.tail _ (.head _))))
  go_wp2_with (refine wpList_load_mid rfl 32 _ rfl D 0 (by rfl) tbl _ (row_rng (Y14.out.rows _ (.tail _ (.head _)))) Tryd.underlying32 rfl HTI.out.2.2.2 ?_)
  clear k0 k1 k2 k3
  refine (HSec.out X14 _ M_.out).mono ?_
  rintro e X15 ⟨rfl, hb⟩
  have Y15 := Bx.mk (Y14.out.later hb)
  have M_ := Bx.mk (M_.out.later hb)
  have Kk := Bx.mk (Kk.out.later hb)
  have Kvl := Bx.mk (Kvl.out.later hb)
  clear hb Y14
  obtain ⟨E, hE⟩ : ∃ E, X15.heap.size = E := ⟨_, rfl⟩
  have LE : Bx (N < E ∧ D < E ∧ B < E) := Bx.mk (by rw [← hE]; exact ⟨Y15.out.lt (.head _), Y15.out.lt (.tail _ (.head _)), Y15.out.lt (.tail _ (.tail _ (.head _)))⟩)
  have QE := Bx.mk (Y15.out.new (.cells z1 40))
  rw [hE] at QE
  go_upto_region 17 with (first | (refine wpList_load_mid rfl 32 _ rfl D 0 (by rfl) tbl _ (row_rng (Y15.out.rows _ (.tail _ (.head _)))) Tryd.underlying32 rfl HTI.out.2.2.2 ?_) | (refine wpList_store_new rfl 40 _ _ rfl E (u8s sk) z1 _ (by rfl) (by rfl) (QE.out.rows _ (.head _)) (HA.out sk HLs.out).2 (HA.out sk HLs.out).1 (one_u8s _) ?_; intro X16 hw8 hr8; have hg8 := Bx.mk (kb_of hw8); have HR8 := Bx.mk hr8; clear hw8 hr8))
  have Y16 := Bx.mk (QE.out.set hg8.out HR8.out (by have h := LE.out; have := Y15.out.le; omega) (by intro y hy; have h := LE.out; simp at hy; rcases hy with rfl | rfl | rfl <;> (simp only; omega)))
  have hb := below_of hE hg8.out
  have M_ := Bx.mk (M_.out.later hb)
  have Kk := Bx.mk (Kk.out.later hb)
  have Kvl := Bx.mk (Kvl.out.later hb)
  clear hb QE hg8 HR8 Y15 hE
  go_wp2_with fail
  refine (HNs.out X16 _ (row_bytes (Y16.out.rows _ (.head _)) HLs.out)).mono ?_
  rintro e X17 ⟨vs1, rfl, hk, hb⟩
  have Y17 := Bx.mk (Y16.out.later hb)
  have M_ := Bx.mk (M_.out.later hb)
  have Kk := Bx.mk (Kk.out.later hb)
  have Kvl := Bx.mk (Kvl.out.later hb)
  have Ks1 := Bx.mk hk.key
  clear hb Y16
  clear hk
  go_wp2_with fail
  refine (HSe.out X17 vs1 Y17.out.below Ks1.out).mono ?_
  rintro e X18 ⟨rfl, hb⟩
  have Y18 := Bx.mk (Y17.out.later hb)
  have M_ := Bx.mk (M_.out.later hb)
  have Kk := Bx.mk (Kk.out.later hb)
  have Kvl := Bx.mk (Kvl.out.later hb)
  have Ks1 := Bx.mk (Ks1.out.later hb)
  clear hb Y17
  go_wp2_with fail
  refine (HNs.out X18 _ (row_bytes (Y18.out.rows _ (.head _)) HLs.out)).mono ?_
  rintro e X19 ⟨vs2, rfl, hk, hb⟩
  have Y19 := Bx.mk (Y18.out.later hb)
  have M_ := Bx.mk (M_.out.later hb)
  have Kk := Bx.mk (Kk.out.later hb)
  have Kvl := Bx.mk (Kvl.out.later hb)
  have Ks1 := Bx.mk (Ks1.out.later hb)
  have Ks2 := Bx.mk hk.key
  clear hb Y18
  clear hk
  go_wp2_with fail
  refine (HSd.out X19 vs2 Y19.out.below Ks2.out).mono ?_
  rintro e X20 ⟨rfl, hb⟩
  have Y20 := Bx.mk (Y19.out.later hb)
  have M_ := Bx.mk (M_.out.later hb)
  have Kk := Bx.mk (Kk.out.later hb)
  have Kvl := Bx.mk (Kvl.out.later hb)
  have Ks1 := Bx.mk (Ks1.out.later hb)
  have Ks2 := Bx.mk (Ks2.out.later hb)
  clear hb Y19
  have HVB1 := HVB.out
  rcases HVB1 with gv | gv
  · have gv' := Bx.mk gv
    have HSB1 := HSB.out
    rcases HSB1 with gs | gs
    · have gs' := Bx.mk gs
      go_wp2_with fail
      refine (known7_any X20 (HT.out X20 Y20.out.below).1 (HT.out X20 Y20.out.below).2).mono ?_
      rintro e X21 ⟨rfl, hb⟩
      have Y21 := Bx.mk (Y20.out.later hb)
      have M_ := Bx.mk (M_.out.later hb)
      have Kk := Bx.mk (Kk.out.later hb)
      have Kvl := Bx.mk (Kvl.out.later hb)
      have Ks1 := Bx.mk (Ks1.out.later hb)
      have Ks2 := Bx.mk (Ks2.out.later hb)
      clear hb Y20
      go_wp2
      go_ret
      exact ⟨rfl, Y21.out.below⟩
    · have gs' := Bx.mk gs
      have gsn : ¬ ns < 0 := by omega
      have gsm : 3 < ns := by omega
      go_wp2_with fail
      refine (known7_any X20 (HT.out X20 Y20.out.below).1 (HT.out X20 Y20.out.below).2).mono ?_
      rintro e X21 ⟨rfl, hb⟩
      have Y21 := Bx.mk (Y20.out.later hb)
      have M_ := Bx.mk (M_.out.later hb)
      have Kk := Bx.mk (Kk.out.later hb)
      have Kvl := Bx.mk (Kvl.out.later hb)
      have Ks1 := Bx.mk (Ks1.out.later hb)
      have Ks2 := Bx.mk (Ks2.out.later hb)
      clear hb Y20
      go_wp2
      go_ret
      exact ⟨rfl, Y21.out.below⟩
  · have gv' := Bx.mk gv
    have gvn : ¬ nv < 1 := by omega
    have HSB1 := HSB.out
    rcases HSB1 with gs | gs
    · have gs' := Bx.mk gs
      go_wp2_with fail
      refine (known7_any X20 (HT.out X20 Y20.out.below).1 (HT.out X20 Y20.out.below).2).mono ?_
      rintro e X21 ⟨rfl, hb⟩
      have Y21 := Bx.mk (Y20.out.later hb)
      have M_ := Bx.mk (M_.out.later hb)
      have Kk := Bx.mk (Kk.out.later hb)
      have Kvl := Bx.mk (Kvl.out.later hb)
      have Ks1 := Bx.mk (Ks1.out.later hb)
      have Ks2 := Bx.mk (Ks2.out.later hb)
      clear hb Y20
      go_wp2
      go_ret
      exact ⟨rfl, Y21.out.below⟩
    · have gs' := Bx.mk gs
      have gsn : ¬ ns < 0 := by omega
      have gsm : 3 < ns := by omega
      go_wp2_with fail
      refine (known7_any X20 (HT.out X20 Y20.out.below).1 (HT.out X20 Y20.out.below).2).mono ?_
      rintro e X21 ⟨rfl, hb⟩
      have Y21 := Bx.mk (Y20.out.later hb)
      have M_ := Bx.mk (M_.out.later hb)
      have Kk := Bx.mk (Kk.out.later hb)
      have Kvl := Bx.mk (Kvl.out.later hb)
      have Ks1 := Bx.mk (Ks1.out.later hb)
      have Ks2 := Bx.mk (Ks2.out.later hb)
      clear hb Y20
      go_wp2
      go_ret
      exact ⟨rfl, Y21.out.below⟩
set_option maxRecDepth 100000 in
set_option maxHeartbeats 8000000 in
theorem der_rvn (m0 : List UInt8) (c : Cl) (V : Nat) (hv1 : 1 ≤ V) (hv2 : V ≤ 65535) (ns : Int) (hs : ns < 0 ∨ 4 ≤ ns) (ρ : Nat) (hr1 : ρ < 8) (vm : Value) (w : World) (hm : Bytes w vm m0) (hml : m0.length ≤ 9223372036854775807) (hc : okC c = true) (hTab : Tab w) (hg : 0 < w.heap.size) :
    Calls Tryd.prog 3 #[vm, clV c, .int .i64 (V : Int), .int .i64 ns, .int .i64 (ρ : Int)] w fun e w' => e = .returned (.bool true) ∧ Below w.heap.size w w' := by
  have HT : Bx (∀ W, Below w.heap.size w W → Tab W ∧ 0 < W.heap.size) := Bx.mk fun W hb => ⟨hTab.later hb hg, Nat.lt_of_lt_of_le hg hb.size⟩
  clear hTab hg
  have HCm := Bx.mk fun (W : World) (hW : Bytes W vm m0) => cut7_any m0 70 vm W hW hml (by omega)
  have HMl : Bx ((m0.take 70).length ≤ 70) := Bx.mk (by rw [List.length_take]; omega)
  have HV := Bx.mk hm
  obtain ⟨am, cm, rfl, -⟩ := hm
  generalize m0.take 70 = mk at *
  generalize m0.length = mn at *
  have HRi := Bx.mk fun (W : World) => cright_any c W
  rw [hc] at HRi
  have HNw : Bx (∀ (W : World) v, Bytes W v mk → Calls Tryd.prog 7 #[v] W fun e w' => ∃ v', e = .returned v' ∧ KeyO w' W.heap.size v' mk ∧ Below W.heap.size W w') := Bx.mk fun W v hv => new_any mk v W hv (by have := HMl.out; omega)
  have HTo := Bx.mk fun (W : World) => cto_any c W
  obtain ⟨z1, hz1⟩ : ∃ z, u8s (List.replicate 32 0) = z := ⟨_, rfl⟩
  have hz1v : ∀ W : World, (zeroValue 40).run Tryd.prog W = .ok (.agg z1) W := fun W => by rw [← hz1, zero32]; kernel_rfl
  obtain ⟨zt, hzt⟩ : ∃ z, u32s (List.replicate 72 0) = z := ⟨_, rfl⟩
  have hztv : ∀ W : World, (zeroValue 32).run Tryd.prog W = .ok (.agg zt) W := fun W => by rw [← hzt]; kernel_rfl
  obtain ⟨tbl, htb⟩ : ∃ tbl : List Value, u32s (kTab ++ hTab) = tbl.toArray := ⟨_, rfl⟩
  have HMake : Bx (∀ W : World, Calls Tryd.prog 8 #[] W fun e w' => e = .returned (.agg tbl.toArray) ∧ Below W.heap.size W w') := Bx.mk fun W => by rw [← htb]; exact make_any W
  have HTI : Bx (tbl.toArray.size = zt.size ∧ (Tryd.prog.info? 32).map (·.size) = some tbl.toArray.size ∧ tbl.toArray.all (·.oneCell') = true ∧ (Tryd.prog.info? 32).map (·.size) = some tbl.length) := Bx.mk ⟨by rw [← htb, ← hzt, u32s_size, u32s_size]; rfl, tbl_size3 htb, by rw [← htb]; exact one_u32s _, tbl_size3 htb⟩
  have HA : Bx (∀ l : List UInt8, l.length = 32 → (Tryd.prog.info? 40).map (·.size) = some (u8s l).size ∧ (u8s l).size = z1.size) := Bx.mk fun l hl => ⟨by rw [u8s_size, hl]; kernel_rfl, by rw [← hz1, u8s_size, u8s_size, hl]; rfl⟩
  have HSame : Bx (∀ (l : List UInt8) (W : World) va vb, l.length = 32 → Bytes W va l → Bytes W vb l → Calls Tryd.prog 14 #[va, vb] W fun e w' => e = .returned (.bool true) ∧ ∃ n, w' = W.drewN n) := Bx.mk fun l W va vb hl ha hb => by
    have h := same_any _ _ va vb W ha hb (by omega) (by omega)
    rw [decide_eq_true rfl] at h
    exact h
  have HKb : Bx (∀ (l : List UInt8) W v, l.length = 32 → IsKey W v l → Calls Tryd.prog 15 #[v] W fun e w' => ∃ v', e = .returned v' ∧ OwnB w' W.heap.size v' l ∧ Below W.heap.size W w') := Bx.mk fun l W v hl hv => kbytes_any _ v W hv (by omega)
  have HGr : Bx (∀ (W : World) v, Below w.heap.size w W → IsKey W v mk → Calls Tryd.prog 9 #[v, clV c, .int .i64 (V : Int)] W fun e w' => ∃ v', e = .returned (.tuple #[v', .int .i64 0]) ∧ KeyO w' W.heap.size v' (senK (secK mk c) V) ∧ Below W.heap.size W w') := Bx.mk fun W v hb hv => gra_ok mk c V v W hv (by have := HMl.out; omega) hc hv1 hv2 (HT.out W hb).1 (HT.out W hb).2
  have HMe : Bx (∀ (W : World) v, Below w.heap.size w W → IsKey W v mk → Calls Tryd.prog 11 #[v, clV c, .int .i64 ns] W fun e w' => e = .returned (.tuple #[.pointer none, .int .i64 10]) ∧ Below W.heap.size W w') := Bx.mk fun W v hb hv => mem_bad mk c ns v W hv (by have := HMl.out; omega) hc hs (HT.out W hb).1 (HT.out W hb).2
  have HSec : Bx (∀ (W : World) v, Bytes W v mk → Calls Tryd.prog 18 #[.agg tbl.toArray, v, clV c] W fun e w' => e = .returned (.agg (u8s (secK mk c))) ∧ Below W.heap.size W w') := Bx.mk fun W v hv => rsecret_any tbl htb mk c v W hv (by have := HMl.out; omega) hc
  have HNs : Bx (∀ (W : World) v, Bytes W v (secK mk c) → Calls Tryd.prog 7 #[v] W fun e w' => ∃ v', e = .returned v' ∧ KeyO w' W.heap.size v' (secK mk c) ∧ Below W.heap.size W w') := Bx.mk fun W v hv => new_any _ v W hv (by rw [secK_length]; omega)
  have HSe : Bx (∀ (W : World) v, Below w.heap.size w W → IsKey W v (secK mk c) → Calls Tryd.prog 19 #[v, .int .i64 (V : Int)] W fun e w' => ∃ v', e = .returned (.tuple #[v', .int .i64 0]) ∧ KeyO w' W.heap.size v' (senK (secK mk c) V) ∧ Below W.heap.size W w') := Bx.mk fun W v hb hk => sen_ok (secK mk c) V v W hk (by rw [secK_length]; omega) hv1 hv2 (HT.out W hb).1 (HT.out W hb).2
  have HSd : Bx (∀ (W : World) v, Below w.heap.size w W → IsKey W v (secK mk c) → Calls Tryd.prog 20 #[v, .int .i64 ns] W fun e w' => e = .returned (.tuple #[.pointer none, .int .i64 10]) ∧ Below W.heap.size W w') := Bx.mk fun W v hb hk => by
    obtain ⟨p, s, rfl, -, -⟩ := hk
    exact (see_bad p ns W hs).mono (by rintro e w' ⟨h1, rfl⟩; exact ⟨h1, Below.refl _ _⟩)
  have HRg : Bx (∀ (W : World) v, Bytes W v mk → Calls Tryd.prog 21 #[.agg tbl.toArray, v, clV c, .int .i64 (V : Int)] W fun e w' => e = .returned (.agg (u8s (senK (secK mk c) V))) ∧ Below W.heap.size W w') := Bx.mk fun W v hv => rgra_any tbl htb mk c V v W hv (by have := HMl.out; omega) hc hv2
  have HLa : Bx (∀ (W : World) v, Below w.heap.size w W → IsKey W v mk → Calls Tryd.prog 12 #[v, .int .i64 (ρ : Int)] W fun e w' => ∃ v', e = .returned (.tuple #[v', .int .i64 0]) ∧ KeyO w' W.heap.size v' (numK mk labL ρ) ∧ Below W.heap.size W w') := Bx.mk fun W v hb hk => lab_ok mk ρ v W hk (by have := HMl.out; omega) hr1 (HT.out W hb).1 (HT.out W hb).2
  have HRl : Bx (∀ (W : World) v, Bytes W v mk → Calls Tryd.prog 13 #[.agg tbl.toArray, v, .int .i64 (ρ : Int)] W fun e w' => e = .returned (.agg (u8s (numK mk labL ρ))) ∧ Below W.heap.size W w') := Bx.mk fun W v hv => rlab_any tbl htb mk ρ v W hv (by have := HMl.out; omega)
  have HLl : Bx ((numK mk labL ρ).length = 32) := Bx.mk (hmac_length _ _)
  generalize numK mk labL ρ = kl at *
  have HLg : Bx ((senK (secK mk c) V).length = 32) := Bx.mk (hmac_length _ _)
  generalize senK (secK mk c) V = kg at *
  have HLs : Bx ((secK mk c).length = 32) := Bx.mk (secK_length _ _)
  generalize secK mk c = sk at *
  have gv1 : ¬ (V : Int) < 1 := by omega
  have gv2 : ¬ 65535 < (V : Int) := by omega
  clear hv1 hv2
  have gr1 : (0 : Int) ≤ (ρ : Int) := by omega
  have gr2 : (ρ : Int) < 8 := by omega
  clear hr1
  have HSB := Bx.mk hs
  clear hs
  clear hml hc hz1 hzt htb
  obtain ⟨i, r, x, q⟩ := c
  unfold clV at *
  simp only at HRi HTo HGr HMe HSec HRg ⊢
  obtain ⟨B, hB⟩ : ∃ B, w.heap.size = B := ⟨_, rfl⟩
  have HB := Bx.mk hB
  have Y0 := Bx.mk ((KS.start w B hB).new (.cells #[.int .i64 i, .int .i64 r, .int .i64 x, .int .i64 q] 24))
  rw [hB] at Y0
  rw [hB] at HT HLa HGr HMe HSe HSd ⊢
  go_enter Tryd.func3, Tryd.ntmps3
  go_upto_region 1 with fail
  generalize w.alloc (.cells #[.int .i64 i, .int .i64 r, .int .i64 x, .int .i64 q] 24) = X0 at *
  have M_ := Bx.mk (HV.out.later (by rw [HB.out]; exact Y0.out.below))
  go_wp2_with fail
  refine (HCm.out X0 M_.out).mono ?_
  rintro e w1 ⟨v1, rfl, hm1, rfl⟩
  have M_ := Bx.mk (hm1 X0 M_.out)
  obtain ⟨am, cm, hv1, -⟩ := M_.out
  subst hv1
  clear hm1 HCm HV
  obtain ⟨mn2, hmn2⟩ : ∃ mn2, mk.length = mn2 := ⟨_, rfl⟩
  rw [hmn2] at M_ ⊢
  clear hmn2
  go_wp2_with fail
  refine (HNw.out X0 _ M_.out).mono ?_
  rintro e X1 ⟨vk, rfl, hk, hb⟩
  have Y1 := Bx.mk (Y0.out.later hb)
  have M_ := Bx.mk (M_.out.later hb)
  have Kk := Bx.mk hk.key
  clear hb Y0
  clear hk
  go_wp2_with fail
  refine (HMake.out X1).mono ?_
  rintro e X2 ⟨rfl, hb⟩
  have Y2 := Bx.mk (Y1.out.later hb)
  have M_ := Bx.mk (M_.out.later hb)
  have Kk := Bx.mk (Kk.out.later hb)
  clear hb Y1
  obtain ⟨D, hD⟩ : ∃ D, X2.heap.size = D := ⟨_, rfl⟩
  have LD : Bx (B < D) := Bx.mk (by rw [← hD]; exact Y2.out.lt (.head _))
  have QD := Bx.mk (Y2.out.new (.cells zt 32))
  rw [hD] at QD
  go_upto_region 4 with (first | fail | (refine wpList_store_new rfl 32 _ _ rfl D tbl.toArray zt _ (by rfl) (by rfl) (QD.out.rows _ (.head _)) HTI.out.1 HTI.out.2.1 HTI.out.2.2.1 ?_; intro X3 hw8 hr8; have hg8 := Bx.mk (kb_of hw8); have HR8 := Bx.mk hr8; clear hw8 hr8))
  have Y3 := Bx.mk (QD.out.set hg8.out HR8.out (by have h := LD.out; have := Y2.out.le; omega) (by intro y hy; have h := LD.out; simp at hy; rcases hy with rfl; (simp only; omega)))
  have hb := below_of hD hg8.out
  have M_ := Bx.mk (M_.out.later hb)
  have Kk := Bx.mk (Kk.out.later hb)
  clear hb QD hg8 HR8 Y2 hD
  obtain ⟨k0, k1, k2, k3⟩ := cells4 (Y3.out.rows _ (.tail _ (.head _)))
  go_wp2_with fail
  clear k0 k1 k2 k3
  refine (HTo.out X3).mono ?_
  rintro e X4 ⟨rfl, hb⟩
  have Y4 := Bx.mk (Y3.out.later hb)
  have M_ := Bx.mk (M_.out.later hb)
  have Kk := Bx.mk (Kk.out.later hb)
  clear hb Y3
  go_wp2_with fail
  refine (HGr.out X4 vk Y4.out.below Kk.out).mono ?_
  rintro e X5 ⟨va, rfl, hk, hb⟩
  have Y5 := Bx.mk (Y4.out.later hb)
  have M_ := Bx.mk (M_.out.later hb)
  have Kk := Bx.mk (Kk.out.later hb)
  have Kva := Bx.mk hk.key
  clear hb Y4
  clear hk
  obtain ⟨k0, k1, k2, k3⟩ := cells4 (Y5.out.rows _ (.tail _ (.head _)))
  go_wp2_with fail
  clear k0 k1 k2 k3
  refine (HTo.out X5).mono ?_
  rintro e X6 ⟨rfl, hb⟩
  have Y6 := Bx.mk (Y5.out.later hb)
  have M_ := Bx.mk (M_.out.later hb)
  have Kk := Bx.mk (Kk.out.later hb)
  have Kva := Bx.mk (Kva.out.later hb)
  clear hb Y5
  go_wp2_with fail
  refine (HMe.out X6 vk Y6.out.below Kk.out).mono ?_
  rintro e X7 ⟨rfl, hb⟩
  have Y7 := Bx.mk (Y6.out.later hb)
  have M_ := Bx.mk (M_.out.later hb)
  have Kk := Bx.mk (Kk.out.later hb)
  have Kva := Bx.mk (Kva.out.later hb)
  clear hb Y6
  go_wp2_with fail
  refine (HLa.out X7 vk Y7.out.below Kk.out).mono ?_
  rintro e X8 ⟨vl, rfl, hk, hb⟩
  have Y8 := Bx.mk (Y7.out.later hb)
  have M_ := Bx.mk (M_.out.later hb)
  have Kk := Bx.mk (Kk.out.later hb)
  have Kva := Bx.mk (Kva.out.later hb)
  have Kvl := Bx.mk hk.key
  clear hb Y7
  clear hk
  go_wp2_with fail
  refine (lab_nil _ _).mono ?_
  rintro e w9 ⟨rfl, rfl⟩
  go_wp2_with (refine wpList_load_mid rfl 32 _ rfl D 0 (by rfl) tbl _ (row_rng (Y8.out.rows _ (.head _))) Tryd.underlying32 rfl HTI.out.2.2.2 ?_)
  refine (HRl.out X8 _ M_.out).mono ?_
  rintro e X9 ⟨rfl, hb⟩
  have Y9 := Bx.mk (Y8.out.later hb)
  have M_ := Bx.mk (M_.out.later hb)
  have Kk := Bx.mk (Kk.out.later hb)
  have Kva := Bx.mk (Kva.out.later hb)
  have Kvl := Bx.mk (Kvl.out.later hb)
  clear hb Y8
  obtain ⟨N, hN⟩ : ∃ N, X9.heap.size = N := ⟨_, rfl⟩
  have LN : Bx (D < N ∧ B < N) := Bx.mk (by rw [← hN]; exact ⟨Y9.out.lt (.head _), Y9.out.lt (.tail _ (.head _))⟩)
  have QN := Bx.mk (Y9.out.new (.cells z1 40))
  rw [hN] at QN
  go_upto_region 12 with (first | (refine wpList_load_mid rfl 32 _ rfl D 0 (by rfl) tbl _ (row_rng (Y9.out.rows _ (.head _))) Tryd.underlying32 rfl HTI.out.2.2.2 ?_) | (refine wpList_store_new rfl 40 _ _ rfl N (u8s kl) z1 _ (by rfl) (by rfl) (QN.out.rows _ (.head _)) (HA.out kl HLl.out).2 (HA.out kl HLl.out).1 (one_u8s _) ?_; intro X10 hw8 hr8; have hg8 := Bx.mk (kb_of hw8); have HR8 := Bx.mk hr8; clear hw8 hr8))
  have Y10 := Bx.mk (QN.out.set hg8.out HR8.out (by have h := LN.out; have := Y9.out.le; omega) (by intro y hy; have h := LN.out; simp at hy; rcases hy with rfl | rfl <;> (simp only; omega)))
  have hb := below_of hN hg8.out
  have M_ := Bx.mk (M_.out.later hb)
  have Kk := Bx.mk (Kk.out.later hb)
  have Kva := Bx.mk (Kva.out.later hb)
  have Kvl := Bx.mk (Kvl.out.later hb)
  clear hb QN hg8 HR8 Y9 hN
  go_upto_region 12 with fail
  have hb : Below X10.heap.size X10 X10.drew := (Below.refl _ _).drew
  have Y11 := Bx.mk (Y10.out.later hb)
  have M_ := Bx.mk (M_.out.later hb)
  have Kk := Bx.mk (Kk.out.later hb)
  have Kva := Bx.mk (Kva.out.later hb)
  have Kvl := Bx.mk (Kvl.out.later hb)
  clear hb Y10
  refine wp_region_noPanic ?_
  refine wp_region_held_drew (S := fun _ => True) (by kernel_rfl) (True.intro) (fun hHeld => ?_)
  generalize X10.drew = X11 at *
  refine takeL 0 (v := ?_) rfl (by kernel_rfl) (by kernel_rfl) (by kernel_rfl) (fun _ _ _ h => h) (Or.inl ⟨by rfl, ?_⟩) hHeld ?_
  rotate_left 1
  · (intro w hSw; go_simp; try with_reducible rfl)
  try simp only [Act.put, List.setIfInBounds_toArray, List.set_cons_zero, List.set_cons_succ]
  refine takeL 2 (v := ?_) rfl (by kernel_rfl) (by kernel_rfl) (by kernel_rfl) (fun _ _ _ h => h) (Or.inl ⟨by rfl, ?_⟩) hHeld ?_
  rotate_left 1
  · (intro w hSw; go_simp; try with_reducible rfl)
  try simp only [Act.put, List.setIfInBounds_toArray, List.set_cons_zero, List.set_cons_succ]
  refine stepL 1 (by kernel_rfl) rfl (fun K hK => ?_)
  go_simp
  refine (HKb.out kl X11 vl HLl.out Kvl.out).mono ?_
  rintro e X12 ⟨u0, rfl, ho, hb⟩
  show K _ _
  have Y12 := Bx.mk (Y11.out.later hb)
  have M_ := Bx.mk (M_.out.later hb)
  have Kk := Bx.mk (Kk.out.later hb)
  have Kva := Bx.mk (Kva.out.later hb)
  have Kvl := Bx.mk (Kvl.out.later hb)
  have Bu0 := Bx.mk ho.bytes
  clear hb Y11
  clear ho
  refine hK.out _ _ (True.intro) (fun hHeld => ?_)
  clear hK K
  try simp only [Act.put, List.setIfInBounds_toArray, List.set_cons_zero, List.set_cons_succ]
  refine stepL 3 (by kernel_rfl) rfl (fun K hK => ?_)
  go_simp
  refine (HSame.out kl X12 _ _ HLl.out Bu0.out (row_bytes (Y12.out.rows _ (.head _)) HLl.out)).mono ?_
  rintro e X13 ⟨rfl, hdd⟩
  show K _ _
  obtain ⟨nd, hnd⟩ := hdd
  have hb : Below X12.heap.size X12 X13 := by rw [hnd]; exact drewN_below _ _
  clear hnd
  have Y13 := Bx.mk (Y12.out.later hb)
  have M_ := Bx.mk (M_.out.later hb)
  have Kk := Bx.mk (Kk.out.later hb)
  have Kva := Bx.mk (Kva.out.later hb)
  have Kvl := Bx.mk (Kvl.out.later hb)
  clear hb Y12
  refine hK.out _ _ True.intro (fun hHeld => ?_)
  clear hK K
  try simp only [Act.put, List.setIfInBounds_toArray, List.set_cons_zero, List.set_cons_succ]
  refine takeL 4 (v := ?_) rfl (by kernel_rfl) (by kernel_rfl) (by kernel_rfl) (fun _ _ _ h => h) (Or.inl ⟨by rfl, ?_⟩) hHeld ?_
  rotate_left 1
  · (intro w hSw; go_simp; try with_reducible rfl)
  try simp only [Act.put, List.setIfInBounds_toArray, List.set_cons_zero, List.set_cons_succ]
  refine wpAnyH_done (by kernel_rfl) ?_ _
  refine NoPanic.normal ?_
  clear hHeld
  obtain ⟨k0, k1, k2, k3⟩ := cells4 (Y13.out.rows _ (.tail _ (.tail _ (.head _))))
  go_wp2_with fail
  clear k0 k1 k2 k3
  refine (HRi.out X13).mono ?_
  rintro e X14 ⟨rfl, hb⟩
  have Y14 := Bx.mk (Y13.out.later hb)
  have M_ := Bx.mk (M_.out.later hb)
  have Kk := Bx.mk (Kk.out.later hb)
  have Kva := Bx.mk (Kva.out.later hb)
  have Kvl := Bx.mk (Kvl.out.later hb)
  clear hb Y13
  obtain ⟨k0, k1, k2, k3⟩ := cells4 (Y14.out.rows _ (.tail _ (.tail _ (.head _))))
  go_wp2_with (refine wpList_load_mid rfl 32 _ rfl D 0 (by rfl) tbl _ (row_rng (Y14.out.rows _ (.tail _ (.head _)))) Tryd.underlying32 rfl HTI.out.2.2.2 ?_)
  clear k0 k1 k2 k3
  refine (HSec.out X14 _ M_.out).mono ?_
  rintro e X15 ⟨rfl, hb⟩
  have Y15 := Bx.mk (Y14.out.later hb)
  have M_ := Bx.mk (M_.out.later hb)
  have Kk := Bx.mk (Kk.out.later hb)
  have Kva := Bx.mk (Kva.out.later hb)
  have Kvl := Bx.mk (Kvl.out.later hb)
  clear hb Y14
  obtain ⟨E, hE⟩ : ∃ E, X15.heap.size = E := ⟨_, rfl⟩
  have LE : Bx (N < E ∧ D < E ∧ B < E) := Bx.mk (by rw [← hE]; exact ⟨Y15.out.lt (.head _), Y15.out.lt (.tail _ (.head _)), Y15.out.lt (.tail _ (.tail _ (.head _)))⟩)
  have QE := Bx.mk (Y15.out.new (.cells z1 40))
  rw [hE] at QE
  go_upto_region 17 with (first | (refine wpList_load_mid rfl 32 _ rfl D 0 (by rfl) tbl _ (row_rng (Y15.out.rows _ (.tail _ (.head _)))) Tryd.underlying32 rfl HTI.out.2.2.2 ?_) | (refine wpList_store_new rfl 40 _ _ rfl E (u8s sk) z1 _ (by rfl) (by rfl) (QE.out.rows _ (.head _)) (HA.out sk HLs.out).2 (HA.out sk HLs.out).1 (one_u8s _) ?_; intro X16 hw8 hr8; have hg8 := Bx.mk (kb_of hw8); have HR8 := Bx.mk hr8; clear hw8 hr8))
  have Y16 := Bx.mk (QE.out.set hg8.out HR8.out (by have h := LE.out; have := Y15.out.le; omega) (by intro y hy; have h := LE.out; simp at hy; rcases hy with rfl | rfl | rfl <;> (simp only; omega)))
  have hb := below_of hE hg8.out
  have M_ := Bx.mk (M_.out.later hb)
  have Kk := Bx.mk (Kk.out.later hb)
  have Kva := Bx.mk (Kva.out.later hb)
  have Kvl := Bx.mk (Kvl.out.later hb)
  clear hb QE hg8 HR8 Y15 hE
  go_wp2_with fail
  refine (HNs.out X16 _ (row_bytes (Y16.out.rows _ (.head _)) HLs.out)).mono ?_
  rintro e X17 ⟨vs1, rfl, hk, hb⟩
  have Y17 := Bx.mk (Y16.out.later hb)
  have M_ := Bx.mk (M_.out.later hb)
  have Kk := Bx.mk (Kk.out.later hb)
  have Kva := Bx.mk (Kva.out.later hb)
  have Kvl := Bx.mk (Kvl.out.later hb)
  have Ks1 := Bx.mk hk.key
  clear hb Y16
  clear hk
  go_wp2_with fail
  refine (HSe.out X17 vs1 Y17.out.below Ks1.out).mono ?_
  rintro e X18 ⟨vx, rfl, hk, hb⟩
  have Y18 := Bx.mk (Y17.out.later hb)
  have M_ := Bx.mk (M_.out.later hb)
  have Kk := Bx.mk (Kk.out.later hb)
  have Kva := Bx.mk (Kva.out.later hb)
  have Kvl := Bx.mk (Kvl.out.later hb)
  have Ks1 := Bx.mk (Ks1.out.later hb)
  have Kvx := Bx.mk hk.key
  clear hb Y17
  clear hk
  go_wp2_with fail
  refine (HNs.out X18 _ (row_bytes (Y18.out.rows _ (.head _)) HLs.out)).mono ?_
  rintro e X19 ⟨vs2, rfl, hk, hb⟩
  have Y19 := Bx.mk (Y18.out.later hb)
  have M_ := Bx.mk (M_.out.later hb)
  have Kk := Bx.mk (Kk.out.later hb)
  have Kva := Bx.mk (Kva.out.later hb)
  have Kvl := Bx.mk (Kvl.out.later hb)
  have Ks1 := Bx.mk (Ks1.out.later hb)
  have Kvx := Bx.mk (Kvx.out.later hb)
  have Ks2 := Bx.mk hk.key
  clear hb Y18
  clear hk
  go_wp2_with fail
  refine (HSd.out X19 vs2 Y19.out.below Ks2.out).mono ?_
  rintro e X20 ⟨rfl, hb⟩
  have Y20 := Bx.mk (Y19.out.later hb)
  have M_ := Bx.mk (M_.out.later hb)
  have Kk := Bx.mk (Kk.out.later hb)
  have Kva := Bx.mk (Kva.out.later hb)
  have Kvl := Bx.mk (Kvl.out.later hb)
  have Ks1 := Bx.mk (Ks1.out.later hb)
  have Kvx := Bx.mk (Kvx.out.later hb)
  have Ks2 := Bx.mk (Ks2.out.later hb)
  clear hb Y19
  obtain ⟨k0, k1, k2, k3⟩ := cells4 (Y20.out.rows _ (.tail _ (.tail _ (.tail _ (.head _)))))
  go_wp2_with (refine wpList_load_mid rfl 32 _ rfl D 0 (by rfl) tbl _ (row_rng (Y20.out.rows _ (.tail _ (.tail _ (.head _))))) Tryd.underlying32 rfl HTI.out.2.2.2 ?_)
  clear k0 k1 k2 k3
  refine (HRg.out X20 _ M_.out).mono ?_
  rintro e X21 ⟨rfl, hb⟩
  have Y21 := Bx.mk (Y20.out.later hb)
  have M_ := Bx.mk (M_.out.later hb)
  have Kk := Bx.mk (Kk.out.later hb)
  have Kva := Bx.mk (Kva.out.later hb)
  have Kvl := Bx.mk (Kvl.out.later hb)
  have Ks1 := Bx.mk (Ks1.out.later hb)
  have Kvx := Bx.mk (Kvx.out.later hb)
  have Ks2 := Bx.mk (Ks2.out.later hb)
  clear hb Y20
  obtain ⟨F, hF⟩ : ∃ F, X21.heap.size = F := ⟨_, rfl⟩
  have LF : Bx (E < F ∧ N < F ∧ D < F ∧ B < F) := Bx.mk (by rw [← hF]; exact ⟨Y21.out.lt (.head _), Y21.out.lt (.tail _ (.head _)), Y21.out.lt (.tail _ (.tail _ (.head _))), Y21.out.lt (.tail _ (.tail _ (.tail _ (.head _))))⟩)
  have QF := Bx.mk (Y21.out.new (.cells z1 40))
  rw [hF] at QF
  go_upto_region 23 with (first | (refine wpList_load_mid rfl 32 _ rfl D 0 (by rfl) tbl _ (row_rng (Y21.out.rows _ (.tail _ (.tail _ (.head _))))) Tryd.underlying32 rfl HTI.out.2.2.2 ?_) | (refine wpList_store_new rfl 40 _ _ rfl F (u8s kg) z1 _ (by rfl) (by rfl) (QF.out.rows _ (.head _)) (HA.out kg HLg.out).2 (HA.out kg HLg.out).1 (one_u8s _) ?_; intro X22 hw8 hr8; have hg8 := Bx.mk (kb_of hw8); have HR8 := Bx.mk hr8; clear hw8 hr8))
  have Y22 := Bx.mk (QF.out.set hg8.out HR8.out (by have h := LF.out; have := Y21.out.le; omega) (by intro y hy; have h := LF.out; simp at hy; rcases hy with rfl | rfl | rfl | rfl <;> (simp only; omega)))
  have hb := below_of hF hg8.out
  have M_ := Bx.mk (M_.out.later hb)
  have Kk := Bx.mk (Kk.out.later hb)
  have Kva := Bx.mk (Kva.out.later hb)
  have Kvl := Bx.mk (Kvl.out.later hb)
  have Ks1 := Bx.mk (Ks1.out.later hb)
  have Kvx := Bx.mk (Kvx.out.later hb)
  have Ks2 := Bx.mk (Ks2.out.later hb)
  clear hb QF hg8 HR8 Y21 hF
  go_upto_region 23 with fail
  have hb : Below X22.heap.size X22 X22.drew := (Below.refl _ _).drew
  have Y23 := Bx.mk (Y22.out.later hb)
  have M_ := Bx.mk (M_.out.later hb)
  have Kk := Bx.mk (Kk.out.later hb)
  have Kva := Bx.mk (Kva.out.later hb)
  have Kvl := Bx.mk (Kvl.out.later hb)
  have Ks1 := Bx.mk (Ks1.out.later hb)
  have Kvx := Bx.mk (Kvx.out.later hb)
  have Ks2 := Bx.mk (Ks2.out.later hb)
  clear hb Y22
  refine wp_region_noPanic ?_
  refine wp_region_held_drew (S := fun _ => True) (by kernel_rfl) (True.intro) (fun hHeld => ?_)
  generalize X22.drew = X23 at *
  refine takeL 0 (v := ?_) rfl (by kernel_rfl) (by kernel_rfl) (by kernel_rfl) (fun _ _ _ h => h) (Or.inl ⟨by rfl, ?_⟩) hHeld ?_
  rotate_left 1
  · (intro w hSw; go_simp; try with_reducible rfl)
  try simp only [Act.put, List.setIfInBounds_toArray, List.set_cons_zero, List.set_cons_succ]
  refine takeL 1 (v := ?_) rfl (by kernel_rfl) (by kernel_rfl) (by kernel_rfl) (fun _ _ _ h => h) (Or.inl ⟨by rfl, ?_⟩) hHeld ?_
  rotate_left 1
  · (intro w hSw; go_simp; try with_reducible rfl)
  try simp only [Act.put, List.setIfInBounds_toArray, List.set_cons_zero, List.set_cons_succ]
  refine takeL 2 (v := ?_) rfl (by kernel_rfl) (by kernel_rfl) (by kernel_rfl) (fun _ _ _ h => h) (Or.inl ⟨by rfl, ?_⟩) hHeld ?_
  rotate_left 1
  · (intro w hSw; go_simp; try with_reducible rfl)
  try simp only [Act.put, List.setIfInBounds_toArray, List.set_cons_zero, List.set_cons_succ]
  refine takeL 3 (v := ?_) rfl (by kernel_rfl) (by kernel_rfl) (by kernel_rfl) (fun _ _ _ h => h) (Or.inl ⟨by rfl, ?_⟩) hHeld ?_
  rotate_left 1
  · (intro w hSw; go_simp; try with_reducible rfl)
  try simp only [Act.put, List.setIfInBounds_toArray, List.set_cons_zero, List.set_cons_succ]
  refine takeL 4 (v := ?_) rfl (by kernel_rfl) (by kernel_rfl) (by kernel_rfl) (fun _ _ _ h => h) (Or.inl ⟨by rfl, ?_⟩) hHeld ?_
  rotate_left 1
  · (intro w hSw; go_simp; try with_reducible rfl)
  try simp only [Act.put, List.setIfInBounds_toArray, List.set_cons_zero, List.set_cons_succ]
  refine takeL 5 (v := ?_) rfl (by kernel_rfl) (by kernel_rfl) (by kernel_rfl) (fun _ _ _ h => h) (Or.inl ⟨by rfl, ?_⟩) hHeld ?_
  rotate_left 1
  · (intro w hSw; go_simp; try with_reducible rfl)
  try simp only [Act.put, List.setIfInBounds_toArray, List.set_cons_zero, List.set_cons_succ]
  refine takeL 6 (v := ?_) rfl (by kernel_rfl) (by kernel_rfl) (by kernel_rfl) (fun _ _ _ h => h) (Or.inl ⟨by rfl, ?_⟩) hHeld ?_
  rotate_left 1
  · (intro w hSw; go_simp; try with_reducible rfl)
  try simp only [Act.put, List.setIfInBounds_toArray, List.set_cons_zero, List.set_cons_succ]
  refine takeL 7 (v := ?_) rfl (by kernel_rfl) (by kernel_rfl) (by kernel_rfl) (fun _ _ _ h => h) (Or.inl ⟨by rfl, ?_⟩) hHeld ?_
  rotate_left 1
  · (intro w hSw; go_simp; try with_reducible rfl)
  try simp only [Act.put, List.setIfInBounds_toArray, List.set_cons_zero, List.set_cons_succ]
  refine takeL 9 (v := ?_) rfl (by kernel_rfl) (by kernel_rfl) (by kernel_rfl) (fun _ _ _ h => h) (Or.inl ⟨by rfl, ?_⟩) hHeld ?_
  rotate_left 1
  · (intro w hSw; go_simp; try with_reducible rfl)
  try simp only [Act.put, List.setIfInBounds_toArray, List.set_cons_zero, List.set_cons_succ]
  refine stepL 8 (by kernel_rfl) rfl (fun K hK => ?_)
  go_simp
  refine (HKb.out kg X23 va HLg.out Kva.out).mono ?_
  rintro e X24 ⟨u1, rfl, ho, hb⟩
  show K _ _
  have Y24 := Bx.mk (Y23.out.later hb)
  have M_ := Bx.mk (M_.out.later hb)
  have Kk := Bx.mk (Kk.out.later hb)
  have Kva := Bx.mk (Kva.out.later hb)
  have Kvl := Bx.mk (Kvl.out.later hb)
  have Ks1 := Bx.mk (Ks1.out.later hb)
  have Kvx := Bx.mk (Kvx.out.later hb)
  have Ks2 := Bx.mk (Ks2.out.later hb)
  have Bu1 := Bx.mk ho.bytes
  clear hb Y23
  clear ho
  refine hK.out _ _ (True.intro) (fun hHeld => ?_)
  clear hK K
  try simp only [Act.put, List.setIfInBounds_toArray, List.set_cons_zero, List.set_cons_succ]
  refine stepL 10 (by kernel_rfl) rfl (fun K hK => ?_)
  go_simp
  refine (HSame.out kg X24 _ _ HLg.out Bu1.out (row_bytes (Y24.out.rows _ (.head _)) HLg.out)).mono ?_
  rintro e X25 ⟨rfl, hdd⟩
  show K _ _
  obtain ⟨nd, hnd⟩ := hdd
  have hb : Below X24.heap.size X24 X25 := by rw [hnd]; exact drewN_below _ _
  clear hnd
  have Y25 := Bx.mk (Y24.out.later hb)
  have M_ := Bx.mk (M_.out.later hb)
  have Kk := Bx.mk (Kk.out.later hb)
  have Kva := Bx.mk (Kva.out.later hb)
  have Kvl := Bx.mk (Kvl.out.later hb)
  have Ks1 := Bx.mk (Ks1.out.later hb)
  have Kvx := Bx.mk (Kvx.out.later hb)
  have Ks2 := Bx.mk (Ks2.out.later hb)
  clear hb Y24
  refine hK.out _ _ True.intro (fun hHeld => ?_)
  clear hK K
  try simp only [Act.put, List.setIfInBounds_toArray, List.set_cons_zero, List.set_cons_succ]
  refine takeL 11 (v := ?_) rfl (by kernel_rfl) (by kernel_rfl) (by kernel_rfl) (fun _ _ _ h => h) (Or.inl ⟨by rfl, ?_⟩) hHeld ?_
  rotate_left 1
  · (intro w hSw; go_simp; try with_reducible rfl)
  try simp only [Act.put, List.setIfInBounds_toArray, List.set_cons_zero, List.set_cons_succ]
  refine takeL 12 (v := ?_) rfl (by kernel_rfl) (by kernel_rfl) (by kernel_rfl) (fun _ _ _ h => h) (Or.inl ⟨by rfl, ?_⟩) hHeld ?_
  rotate_left 1
  · (intro w hSw; go_simp; try with_reducible rfl)
  try simp only [Act.put, List.setIfInBounds_toArray, List.set_cons_zero, List.set_cons_succ]
  refine takeL 13 (v := ?_) rfl (by kernel_rfl) (by kernel_rfl) (by kernel_rfl) (fun _ _ _ h => h) (Or.inl ⟨by rfl, ?_⟩) hHeld ?_
  rotate_left 1
  · (intro w hSw; go_simp; try with_reducible rfl)
  try simp only [Act.put, List.setIfInBounds_toArray, List.set_cons_zero, List.set_cons_succ]
  refine takeL 14 (v := ?_) rfl (by kernel_rfl) (by kernel_rfl) (by kernel_rfl) (fun _ _ _ h => h) (Or.inl ⟨by rfl, ?_⟩) hHeld ?_
  rotate_left 1
  · (intro w hSw; go_simp; try with_reducible rfl)
  try simp only [Act.put, List.setIfInBounds_toArray, List.set_cons_zero, List.set_cons_succ]
  refine takeL 16 (v := ?_) rfl (by kernel_rfl) (by kernel_rfl) (by kernel_rfl) (fun _ _ _ h => h) (Or.inl ⟨by rfl, ?_⟩) hHeld ?_
  rotate_left 1
  · (intro w hSw; go_simp; try with_reducible rfl)
  try simp only [Act.put, List.setIfInBounds_toArray, List.set_cons_zero, List.set_cons_succ]
  refine stepL 15 (by kernel_rfl) rfl (fun K hK => ?_)
  go_simp
  refine (HKb.out kg X25 vx HLg.out Kvx.out).mono ?_
  rintro e X26 ⟨u2, rfl, ho, hb⟩
  show K _ _
  have Y26 := Bx.mk (Y25.out.later hb)
  have M_ := Bx.mk (M_.out.later hb)
  have Kk := Bx.mk (Kk.out.later hb)
  have Kva := Bx.mk (Kva.out.later hb)
  have Kvl := Bx.mk (Kvl.out.later hb)
  have Ks1 := Bx.mk (Ks1.out.later hb)
  have Kvx := Bx.mk (Kvx.out.later hb)
  have Ks2 := Bx.mk (Ks2.out.later hb)
  have Bu2 := Bx.mk ho.bytes
  clear hb Y25
  clear ho
  refine hK.out _ _ (True.intro) (fun hHeld => ?_)
  clear hK K
  try simp only [Act.put, List.setIfInBounds_toArray, List.set_cons_zero, List.set_cons_succ]
  refine stepL 17 (by kernel_rfl) rfl (fun K hK => ?_)
  go_simp
  refine (HSame.out kg X26 _ _ HLg.out Bu2.out (row_bytes (Y26.out.rows _ (.head _)) HLg.out)).mono ?_
  rintro e X27 ⟨rfl, hdd⟩
  show K _ _
  obtain ⟨nd, hnd⟩ := hdd
  have hb : Below X26.heap.size X26 X27 := by rw [hnd]; exact drewN_below _ _
  clear hnd
  have Y27 := Bx.mk (Y26.out.later hb)
  have M_ := Bx.mk (M_.out.later hb)
  have Kk := Bx.mk (Kk.out.later hb)
  have Kva := Bx.mk (Kva.out.later hb)
  have Kvl := Bx.mk (Kvl.out.later hb)
  have Ks1 := Bx.mk (Ks1.out.later hb)
  have Kvx := Bx.mk (Kvx.out.later hb)
  have Ks2 := Bx.mk (Ks2.out.later hb)
  clear hb Y26
  refine hK.out _ _ True.intro (fun hHeld => ?_)
  clear hK K
  try simp only [Act.put, List.setIfInBounds_toArray, List.set_cons_zero, List.set_cons_succ]
  refine takeL 18 (v := ?_) rfl (by kernel_rfl) (by kernel_rfl) (by kernel_rfl) (fun _ _ _ h => h) (Or.inl ⟨by rfl, ?_⟩) hHeld ?_
  rotate_left 1
  · (intro w hSw; go_simp; try with_reducible rfl)
  try simp only [Act.put, List.setIfInBounds_toArray, List.set_cons_zero, List.set_cons_succ]
  refine takeL 19 (v := ?_) rfl (by kernel_rfl) (by kernel_rfl) (by kernel_rfl) (fun _ _ _ h => h) (Or.inl ⟨by rfl, ?_⟩) hHeld ?_
  rotate_left 1
  · (intro w hSw; go_simp; try with_reducible rfl)
  try simp only [Act.put, List.setIfInBounds_toArray, List.set_cons_zero, List.set_cons_succ]
  refine wpAnyH_done (by kernel_rfl) ?_ _
  refine NoPanic.normal ?_
  clear hHeld
  have HSB1 := HSB.out
  rcases HSB1 with gs | gs
  · have gs' := Bx.mk gs
    go_wp2_with fail
    refine (known7_any X27 (HT.out X27 Y27.out.below).1 (HT.out X27 Y27.out.below).2).mono ?_
    rintro e X28 ⟨rfl, hb⟩
    have Y28 := Bx.mk (Y27.out.later hb)
    have M_ := Bx.mk (M_.out.later hb)
    have Kk := Bx.mk (Kk.out.later hb)
    have Kva := Bx.mk (Kva.out.later hb)
    have Kvl := Bx.mk (Kvl.out.later hb)
    have Ks1 := Bx.mk (Ks1.out.later hb)
    have Kvx := Bx.mk (Kvx.out.later hb)
    have Ks2 := Bx.mk (Ks2.out.later hb)
    clear hb Y27
    go_wp2
    go_ret
    exact ⟨rfl, Y28.out.below⟩
  · have gs' := Bx.mk gs
    have gsn : ¬ ns < 0 := by omega
    have gsm : 3 < ns := by omega
    go_wp2_with fail
    refine (known7_any X27 (HT.out X27 Y27.out.below).1 (HT.out X27 Y27.out.below).2).mono ?_
    rintro e X28 ⟨rfl, hb⟩
    have Y28 := Bx.mk (Y27.out.later hb)
    have M_ := Bx.mk (M_.out.later hb)
    have Kk := Bx.mk (Kk.out.later hb)
    have Kva := Bx.mk (Kva.out.later hb)
    have Kvl := Bx.mk (Kvl.out.later hb)
    have Ks1 := Bx.mk (Ks1.out.later hb)
    have Kvx := Bx.mk (Kvx.out.later hb)
    have Ks2 := Bx.mk (Ks2.out.later hb)
    clear hb Y27
    go_wp2
    go_ret
    exact ⟨rfl, Y28.out.below⟩
end Go.Proofs.YtdionedinmkeiaaDoor
