/-
  The walk of KeysDerive, case by case.
-/
import Derived.Test.YtdionedinmkeiaaDoorYb
import Derived.Test.YtdionedinmkeiaaDoorYc
namespace Go.Proofs.YtdionedinmkeiaaDoor
open Go Go.RowKit
set_option maxRecDepth 100000 in
set_option maxHeartbeats 8000000 in
theorem der_nns (m0 : List UInt8) (c : Cl) (nv : Int) (hv : nv < 1 ∨ 65535 < nv) (S : Nat) (hs1 : S < 4) (nr : Int) (hr : nr < 0 ∨ 8 ≤ nr) (vm : Value) (w : World) (hm : Bytes w vm m0) (hml : m0.length ≤ 9223372036854775807) (hc : okC c = true) (hTab : Tab w) (hg : 0 < w.heap.size) :
    Calls Tryd.prog 3 #[vm, clV c, .int .i64 nv, .int .i64 (S : Int), .int .i64 nr] w fun e w' => e = .returned (.bool true) ∧ Below w.heap.size w w' := by
  have HT : Bx (∀ W, Below w.heap.size w W → Tab W ∧ 0 < W.heap.size) := Bx.mk fun W hb => ⟨hTab.later hb hg, Nat.lt_of_lt_of_le hg hb.size⟩
  clear hTab hg
  have HCm := Bx.mk fun (W : World) (hW : Bytes W vm m0) => cut7_any m0 70 vm W hW hml (by omega)
  have HMl : Bx ((m0.take 70).length ≤ 70) := Bx.mk (by rw [List.length_take]; omega)
  have HV := Bx.mk hm
  obtain ⟨am, cm, rfl, -⟩ := hm
  generalize m0.take 70 = mk at *
  generalize m0.length = mn at *
  have HRi := Bx.mk fun (W : World) => cright_any c W
  rw [hc] at HRi
  have HNw : Bx (∀ (W : World) v, Bytes W v mk → Calls Tryd.prog 7 #[v] W fun e w' => ∃ v', e = .returned v' ∧ KeyO w' W.heap.size v' mk ∧ Below W.heap.size W w') := Bx.mk fun W v hv => new_any mk v W hv (by have := HMl.out; omega)
  have HTo := Bx.mk fun (W : World) => cto_any c W
  obtain ⟨z1, hz1⟩ : ∃ z, u8s (List.replicate 32 0) = z := ⟨_, rfl⟩
  have hz1v : ∀ W : World, (zeroValue 40).run Tryd.prog W = .ok (.agg z1) W := fun W => by rw [← hz1, zero32]; kernel_rfl
  obtain ⟨zt, hzt⟩ : ∃ z, u32s (List.replicate 72 0) = z := ⟨_, rfl⟩
  have hztv : ∀ W : World, (zeroValue 32).run Tryd.prog W = .ok (.agg zt) W := fun W => by rw [← hzt]; kernel_rfl
  obtain ⟨tbl, htb⟩ : ∃ tbl : List Value, u32s (kTab ++ hTab) = tbl.toArray := ⟨_, rfl⟩
  have HMake : Bx (∀ W : World, Calls Tryd.prog 8 #[] W fun e w' => e = .returned (.agg tbl.toArray) ∧ Below W.heap.size W w') := Bx.mk fun W => by rw [← htb]; exact make_any W
  have HTI : Bx (tbl.toArray.size = zt.size ∧ (Tryd.prog.info? 32).map (·.size) = some tbl.toArray.size ∧ tbl.toArray.all (·.oneCell') = true ∧ (Tryd.prog.info? 32).map (·.size) = some tbl.length) := Bx.mk ⟨by rw [← htb, ← hzt, u32s_size, u32s_size]; rfl, tbl_size3 htb, by rw [← htb]; exact one_u32s _, tbl_size3 htb⟩
  have HA : Bx (∀ l : List UInt8, l.length = 32 → (Tryd.prog.info? 40).map (·.size) = some (u8s l).size ∧ (u8s l).size = z1.size) := Bx.mk fun l hl => ⟨by rw [u8s_size, hl]; kernel_rfl, by rw [← hz1, u8s_size, u8s_size, hl]; rfl⟩
  have HSame : Bx (∀ (l : List UInt8) (W : World) va vb, l.length = 32 → Bytes W va l → Bytes W vb l → Calls Tryd.prog 14 #[va, vb] W fun e w' => e = .returned (.bool true) ∧ ∃ n, w' = W.drewN n) := Bx.mk fun l W va vb hl ha hb => by
    have h := same_any _ _ va vb W ha hb (by omega) (by omega)
    rw [decide_eq_true rfl] at h
    exact h
  have HKb : Bx (∀ (l : List UInt8) W v, l.length = 32 → IsKey W v l → Calls Tryd.prog 15 #[v] W fun e w' => ∃ v', e = .returned v' ∧ OwnB w' W.heap.size v' l ∧ Below W.heap.size W w') := Bx.mk fun l W v hl hv => kbytes_any _ v W hv (by omega)
  have HGr : Bx (∀ (W : World) v, Below w.heap.size w W → IsKey W v mk → Calls Tryd.prog 9 #[v, clV c, .int .i64 nv] W fun e w' => e = .returned (.tuple #[.pointer none, .int .i64 10]) ∧ Below W.heap.size W w') := Bx.mk fun W v hb hv => gra_bad mk c nv v W hv (by have := HMl.out; omega) hc ‹nv < 1 ∨ 65535 < nv› (HT.out W hb).1 (HT.out W hb).2
  have HMe : Bx (∀ (W : World) v, Below w.heap.size w W → IsKey W v mk → Calls Tryd.prog 11 #[v, clV c, .int .i64 (S : Int)] W fun e w' => ∃ v', e = .returned (.tuple #[v', .int .i64 0]) ∧ KeyO w' W.heap.size v' (numK (secK mk c) seeL S) ∧ Below W.heap.size W w') := Bx.mk fun W v hb hv => mem_ok mk c S v W hv (by have := HMl.out; omega) hc hs1 (HT.out W hb).1 (HT.out W hb).2
  have HSec : Bx (∀ (W : World) v, Bytes W v mk → Calls Tryd.prog 18 #[.agg tbl.toArray, v, clV c] W fun e w' => e = .returned (.agg (u8s (secK mk c))) ∧ Below W.heap.size W w') := Bx.mk fun W v hv => rsecret_any tbl htb mk c v W hv (by have := HMl.out; omega) hc
  have HNs : Bx (∀ (W : World) v, Bytes W v (secK mk c) → Calls Tryd.prog 7 #[v] W fun e w' => ∃ v', e = .returned v' ∧ KeyO w' W.heap.size v' (secK mk c) ∧ Below W.heap.size W w') := Bx.mk fun W v hv => new_any _ v W hv (by rw [secK_length]; omega)
  have HSe : Bx (∀ (W : World) v, Below w.heap.size w W → IsKey W v (secK mk c) → Calls Tryd.prog 19 #[v, .int .i64 nv] W fun e w' => e = .returned (.tuple #[.pointer none, .int .i64 10]) ∧ Below W.heap.size W w') := Bx.mk fun W v hb hk => by
    obtain ⟨p, s, rfl, -, -⟩ := hk
    exact (sen_bad p nv W hv).mono (by rintro e w' ⟨h1, rfl⟩; exact ⟨h1, Below.refl _ _⟩)
  have HSd : Bx (∀ (W : World) v, Below w.heap.size w W → IsKey W v (secK mk c) → Calls Tryd.prog 20 #[v, .int .i64 (S : Int)] W fun e w' => ∃ v', e = .returned (.tuple #[v', .int .i64 0]) ∧ KeyO w' W.heap.size v' (numK (secK mk c) seeL S) ∧ Below W.heap.size W w') := Bx.mk fun W v hb hk => see_ok (secK mk c) S v W hk (by rw [secK_length]; omega) hs1 (HT.out W hb).1 (HT.out W hb).2
  have HRs : Bx (∀ (W : World) v, Bytes W v (secK mk c) → Calls Tryd.prog 22 #[.agg tbl.toArray, v, .int .i64 (S : Int)] W fun e w' => e = .returned (.agg (u8s (numK (secK mk c) seeL S))) ∧ Below W.heap.size W w') := Bx.mk fun W v hv => rsee_any tbl htb _ S v W hv (by rw [secK_length]; omega)
  have HLa : Bx (∀ (W : World) v, Below w.heap.size w W → IsKey W v mk → Calls Tryd.prog 12 #[v, .int .i64 nr] W fun e w' => e = .returned (.tuple #[.pointer none, .int .i64 10]) ∧ Below W.heap.size W w') := Bx.mk fun W v hb hk => by
    obtain ⟨p, s, rfl, -, -⟩ := hk
    exact (lab_bad p nr W hr).mono (by rintro e w' ⟨h1, rfl⟩; exact ⟨h1, Below.refl _ _⟩)
  have HLm : Bx ((numK (secK mk c) seeL S).length = 32) := Bx.mk (hmac_length _ _)
  generalize numK (secK mk c) seeL S = km at *
  have HLs : Bx ((secK mk c).length = 32) := Bx.mk (secK_length _ _)
  generalize secK mk c = sk at *
  have gs1 : ¬ (S : Int) < 0 := by omega
  have gs2 : ¬ 3 < (S : Int) := by omega
  clear hs1
  have HVB := Bx.mk hv
  clear hv
  have HRB := Bx.mk hr
  clear hr
  clear hml hc hz1 hzt htb
  obtain ⟨i, r, x, q⟩ := c
  unfold clV at *
  simp only at HRi HTo HGr HMe HSec ⊢
  obtain ⟨B, hB⟩ : ∃ B, w.heap.size = B := ⟨_, rfl⟩
  have HB := Bx.mk hB
  have Y0 := Bx.mk ((KS.start w B hB).new (.cells #[.int .i64 i, .int .i64 r, .int .i64 x, .int .i64 q] 24))
  rw [hB] at Y0
  rw [hB] at HT HLa HGr HMe HSe HSd ⊢
  go_enter Tryd.func3, Tryd.ntmps3
  go_upto_region 1 with fail
  generalize w.alloc (.cells #[.int .i64 i, .int .i64 r, .int .i64 x, .int .i64 q] 24) = X0 at *
  have M_ := Bx.mk (HV.out.later (by rw [HB.out]; exact Y0.out.below))
  go_wp2_with fail
  refine (HCm.out X0 M_.out).mono ?_
  rintro e w1 ⟨v1, rfl, hm1, rfl⟩
  have M_ := Bx.mk (hm1 X0 M_.out)
  obtain ⟨am, cm, hv1, -⟩ := M_.out
  subst hv1
  clear hm1 HCm HV
  obtain ⟨mn2, hmn2⟩ : ∃ mn2, mk.length = mn2 := ⟨_, rfl⟩
  rw [hmn2] at M_ ⊢
  clear hmn2
  go_wp2_with fail
  refine (HNw.out X0 _ M_.out).mono ?_
  rintro e X1 ⟨vk, rfl, hk, hb⟩
  have Y1 := Bx.mk (Y0.out.later hb)
  have M_ := Bx.mk (M_.out.later hb)
  have Kk := Bx.mk hk.key
  clear hb Y0
  clear hk
  go_wp2_with fail
  refine (HMake.out X1).mono ?_
  rintro e X2 ⟨rfl, hb⟩
  have Y2 := Bx.mk (Y1.out.later hb)
  have M_ := Bx.mk (M_.out.later hb)
  have Kk := Bx.mk (Kk.out.later hb)
  clear hb Y1
  obtain ⟨D, hD⟩ : ∃ D, X2.heap.size = D := ⟨_, rfl⟩
  have LD : Bx (B < D) := Bx.mk (by rw [← hD]; exact Y2.out.lt (.head _))
  have QD := Bx.mk (Y2.out.new (.cells zt 32))
  rw [hD] at QD
  go_upto_region 4 with (first | fail | (refine wpList_store_new rfl 32 _ _ rfl D tbl.toArray zt _ (by rfl) (by rfl) (QD.out.rows _ (.head _)) HTI.out.1 HTI.out.2.1 HTI.out.2.2.1 ?_; intro X3 hw8 hr8; have hg8 := Bx.mk (kb_of hw8); have HR8 := Bx.mk hr8; clear hw8 hr8))
  have Y3 := Bx.mk (QD.out.set hg8.out HR8.out (by have h := LD.out; have := Y2.out.le; omega) (by intro y hy; have h := LD.out; simp at hy; rcases hy with rfl; (simp only; omega)))
  have hb := below_of hD hg8.out
  have M_ := Bx.mk (M_.out.later hb)
  have Kk := Bx.mk (Kk.out.later hb)
  clear hb QD hg8 HR8 Y2 hD
  obtain ⟨k0, k1, k2, k3⟩ := cells4 (Y3.out.rows _ (.tail _ (.head _)))
  go_wp2_with fail
  clear k0 k1 k2 k3
  refine (HTo.out X3).mono ?_
  rintro e X4 ⟨rfl, hb⟩
  have Y4 := Bx.mk (Y3.out.later hb)
  have M_ := Bx.mk (M_.out.later hb)
  have Kk := Bx.mk (Kk.out.later hb)
  clear hb Y3
  go_wp2_with fail
  refine (HGr.out X4 vk Y4.out.below Kk.out).mono ?_
  rintro e X5 ⟨rfl, hb⟩
  have Y5 := Bx.mk (Y4.out.later hb)
  have M_ := Bx.mk (M_.out.later hb)
  have Kk := Bx.mk (Kk.out.later hb)
  clear hb Y4
  obtain ⟨k0, k1, k2, k3⟩ := cells4 (Y5.out.rows _ (.tail _ (.head _)))
  go_wp2_with fail
  clear k0 k1 k2 k3
  refine (HTo.out X5).mono ?_
  rintro e X6 ⟨rfl, hb⟩
  have Y6 := Bx.mk (Y5.out.later hb)
  have M_ := Bx.mk (M_.out.later hb)
  have Kk := Bx.mk (Kk.out.later hb)
  clear hb Y5
  go_wp2_with fail
  refine (HMe.out X6 vk Y6.out.below Kk.out).mono ?_
  rintro e X7 ⟨vb, rfl, hk, hb⟩
  have Y7 := Bx.mk (Y6.out.later hb)
  have M_ := Bx.mk (M_.out.later hb)
  have Kk := Bx.mk (Kk.out.later hb)
  have Kvb := Bx.mk hk.key
  clear hb Y6
  clear hk
  go_wp2_with fail
  refine (HLa.out X7 vk Y7.out.below Kk.out).mono ?_
  rintro e X8 ⟨rfl, hb⟩
  have Y8 := Bx.mk (Y7.out.later hb)
  have M_ := Bx.mk (M_.out.later hb)
  have Kk := Bx.mk (Kk.out.later hb)
  have Kvb := Bx.mk (Kvb.out.later hb)
  clear hb Y7
  go_wp2_with fail
  refine (lab_nil _ _).mono ?_
  rintro e w9 ⟨rfl, rfl⟩
  have HRB1 := HRB.out
  rcases HRB1 with gr | gr
  · have gr' := Bx.mk gr
    have grn : ¬ 0 ≤ nr := by omega
    obtain ⟨k0, k1, k2, k3⟩ := cells4 (Y8.out.rows _ (.tail _ (.head _)))
    go_wp2_with fail
    clear k0 k1 k2 k3
    refine (HRi.out X8).mono ?_
    rintro e X9 ⟨rfl, hb⟩
    have Y9 := Bx.mk (Y8.out.later hb)
    have M_ := Bx.mk (M_.out.later hb)
    have Kk := Bx.mk (Kk.out.later hb)
    have Kvb := Bx.mk (Kvb.out.later hb)
    clear hb Y8
    obtain ⟨k0, k1, k2, k3⟩ := cells4 (Y9.out.rows _ (.tail _ (.head _)))
    go_wp2_with (refine wpList_load_mid rfl 32 _ rfl D 0 (by rfl) tbl _ (row_rng (Y9.out.rows _ (.head _))) Tryd.underlying32 rfl HTI.out.2.2.2 ?_)
    clear k0 k1 k2 k3
    refine (HSec.out X9 _ M_.out).mono ?_
    rintro e X10 ⟨rfl, hb⟩
    have Y10 := Bx.mk (Y9.out.later hb)
    have M_ := Bx.mk (M_.out.later hb)
    have Kk := Bx.mk (Kk.out.later hb)
    have Kvb := Bx.mk (Kvb.out.later hb)
    clear hb Y9
    obtain ⟨E, hE⟩ : ∃ E, X10.heap.size = E := ⟨_, rfl⟩
    have LE : Bx (D < E ∧ B < E) := Bx.mk (by rw [← hE]; exact ⟨Y10.out.lt (.head _), Y10.out.lt (.tail _ (.head _))⟩)
    have QE := Bx.mk (Y10.out.new (.cells z1 40))
    rw [hE] at QE
    go_upto_region 17 with (first | (refine wpList_load_mid rfl 32 _ rfl D 0 (by rfl) tbl _ (row_rng (Y10.out.rows _ (.head _))) Tryd.underlying32 rfl HTI.out.2.2.2 ?_) | (refine wpList_store_new rfl 40 _ _ rfl E (u8s sk) z1 _ (by rfl) (by rfl) (QE.out.rows _ (.head _)) (HA.out sk HLs.out).2 (HA.out sk HLs.out).1 (one_u8s _) ?_; intro X11 hw8 hr8; have hg8 := Bx.mk (kb_of hw8); have HR8 := Bx.mk hr8; clear hw8 hr8))
    have Y11 := Bx.mk (QE.out.set hg8.out HR8.out (by have h := LE.out; have := Y10.out.le; omega) (by intro y hy; have h := LE.out; simp at hy; rcases hy with rfl | rfl <;> (simp only; omega)))
    have hb := below_of hE hg8.out
    have M_ := Bx.mk (M_.out.later hb)
    have Kk := Bx.mk (Kk.out.later hb)
    have Kvb := Bx.mk (Kvb.out.later hb)
    clear hb QE hg8 HR8 Y10 hE
    go_wp2_with fail
    refine (HNs.out X11 _ (row_bytes (Y11.out.rows _ (.head _)) HLs.out)).mono ?_
    rintro e X12 ⟨vs1, rfl, hk, hb⟩
    have Y12 := Bx.mk (Y11.out.later hb)
    have M_ := Bx.mk (M_.out.later hb)
    have Kk := Bx.mk (Kk.out.later hb)
    have Kvb := Bx.mk (Kvb.out.later hb)
    have Ks1 := Bx.mk hk.key
    clear hb Y11
    clear hk
    go_wp2_with fail
    refine (HSe.out X12 vs1 Y12.out.below Ks1.out).mono ?_
    rintro e X13 ⟨rfl, hb⟩
    have Y13 := Bx.mk (Y12.out.later hb)
    have M_ := Bx.mk (M_.out.later hb)
    have Kk := Bx.mk (Kk.out.later hb)
    have Kvb := Bx.mk (Kvb.out.later hb)
    have Ks1 := Bx.mk (Ks1.out.later hb)
    clear hb Y12
    go_wp2_with fail
    refine (HNs.out X13 _ (row_bytes (Y13.out.rows _ (.head _)) HLs.out)).mono ?_
    rintro e X14 ⟨vs2, rfl, hk, hb⟩
    have Y14 := Bx.mk (Y13.out.later hb)
    have M_ := Bx.mk (M_.out.later hb)
    have Kk := Bx.mk (Kk.out.later hb)
    have Kvb := Bx.mk (Kvb.out.later hb)
    have Ks1 := Bx.mk (Ks1.out.later hb)
    have Ks2 := Bx.mk hk.key
    clear hb Y13
    clear hk
    go_wp2_with fail
    refine (HSd.out X14 vs2 Y14.out.below Ks2.out).mono ?_
    rintro e X15 ⟨vy, rfl, hk, hb⟩
    have Y15 := Bx.mk (Y14.out.later hb)
    have M_ := Bx.mk (M_.out.later hb)
    have Kk := Bx.mk (Kk.out.later hb)
    have Kvb := Bx.mk (Kvb.out.later hb)
    have Ks1 := Bx.mk (Ks1.out.later hb)
    have Ks2 := Bx.mk (Ks2.out.later hb)
    have Kvy := Bx.mk hk.key
    clear hb Y14
    clear hk
    have HVB1 := HVB.out
    rcases HVB1 with gv | gv
    · have gv' := Bx.mk gv
      go_upto_region 27 with fail
      have hb : Below X15.heap.size X15 X15.drew := (Below.refl _ _).drew
      have Y16 := Bx.mk (Y15.out.later hb)
      have M_ := Bx.mk (M_.out.later hb)
      have Kk := Bx.mk (Kk.out.later hb)
      have Kvb := Bx.mk (Kvb.out.later hb)
      have Ks1 := Bx.mk (Ks1.out.later hb)
      have Ks2 := Bx.mk (Ks2.out.later hb)
      have Kvy := Bx.mk (Kvy.out.later hb)
      clear hb Y15
      refine wp_region_noPanic ?_
      refine wp_region_held_drew (S := fun W => W.rangeAt D 0 tbl) (by kernel_rfl) (row_rng (Y16.out.rows _ (.tail _ (.head _)))) (fun hHeld => ?_)
      generalize X15.drew = X16 at *
      refine takeL 0 rfl (by kernel_rfl) (by kernel_rfl) (by kernel_rfl) (fun _ _ _ h => h) (yieldsIf_load_mid (by rfl) _ _ rfl _ _ rfl _ _ (fun w hSw => hSw) Tryd.underlying32 rfl HTI.out.2.2.2) hHeld ?_
      try simp only [Act.put, List.setIfInBounds_toArray, List.set_cons_zero, List.set_cons_succ]
      refine takeL 1 (v := ?_) rfl (by kernel_rfl) (by kernel_rfl) (by kernel_rfl) (fun _ _ _ h => h) (Or.inl ⟨by rfl, ?_⟩) hHeld ?_
      rotate_left 1
      · (intro w hSw; go_simp; try with_reducible rfl)
      try simp only [Act.put, List.setIfInBounds_toArray, List.set_cons_zero, List.set_cons_succ]
      refine takeL 2 (v := ?_) rfl (by kernel_rfl) (by kernel_rfl) (by kernel_rfl) (fun _ _ _ h => h) (Or.inl ⟨by rfl, ?_⟩) hHeld ?_
      rotate_left 1
      · (intro w hSw; go_simp; try with_reducible rfl)
      try simp only [Act.put, List.setIfInBounds_toArray, List.set_cons_zero, List.set_cons_succ]
      refine wpAnyH_ready (rs := [3, 4]) (by kernel_rfl) (by simp) ?_
      refine consM 3 rfl (fun K hK => ?_) (consM 4 rfl (fun K hK => ?_) AllReadyH.nil)
      · go_simp
        refine (HRs.out X16 _ (row_bytes (Y16.out.rows _ (.head _)) HLs.out)).mono ?_
        rintro e X17 ⟨rfl, hb⟩
        show K _ _
        have Y17 := Bx.mk (Y16.out.later hb)
        have M_ := Bx.mk (M_.out.later hb)
        have Kk := Bx.mk (Kk.out.later hb)
        have Kvb := Bx.mk (Kvb.out.later hb)
        have Ks1 := Bx.mk (Ks1.out.later hb)
        have Ks2 := Bx.mk (Ks2.out.later hb)
        have Kvy := Bx.mk (Kvy.out.later hb)
        clear hb Y16
        refine hK.out _ _ (row_rng (Y17.out.rows _ (.tail _ (.head _)))) (fun hHeld => ?_)
        clear hK K
        try simp only [Act.put, List.setIfInBounds_toArray, List.set_cons_zero, List.set_cons_succ]
        refine stepL 4 (by kernel_rfl) rfl (fun K hK => ?_)
        go_simp
        show K _ _
        obtain ⟨J, hJ⟩ : ∃ J, X17.heap.size = J := ⟨_, rfl⟩
        have LJ : Bx (E < J ∧ D < J ∧ B < J) := Bx.mk (by rw [← hJ]; exact ⟨Y17.out.lt (.head _), Y17.out.lt (.tail _ (.head _)), Y17.out.lt (.tail _ (.tail _ (.head _)))⟩)
        have LB : Bx (B ≤ J) := Bx.mk (by rw [← hJ]; exact Y17.out.le)
        have YJ := Bx.mk (show Below X17.heap.size X17 (X17.alloc (.cells z1 40)) from below_a _)
        rw [hJ] at YJ
        have HJ := Bx.mk hJ
        have Y18 := Bx.mk (Y17.out.new (.cells z1 40))
        rw [hJ] at Y18 ⊢
        clear Y17 hJ
        generalize X17.alloc (.cells z1 40) = X18 at *
        refine hK.out _ _ (row_rng (Y18.out.rows _ (.tail _ (.tail _ (.head _))))) (fun hHeld => ?_)
        clear hK K
        try simp only [Act.put, List.setIfInBounds_toArray, List.set_cons_zero, List.set_cons_succ]
        refine stepL 5 (by kernel_rfl) rfl (fun K hK => ?_)
        refine step_st rfl 40 _ _ rfl J (u8s km) (by rfl) (by rfl) (there_row (Y18.out.rows _ (.head _)) 0 _ (by rw [(HA.out km HLm.out).2]; omega)) (HA.out km HLm.out).1 (one_u8s _) ?_
        have hr2 := heap_setCells_all (ds := u8s km) (Y18.out.rows _ (.head _)) (HA.out km HLm.out).2
        have hg2 := kb_setCells (b := J) (u8s km).toList 0 X18
        have Y19 := Bx.mk (Y18.out.set hg2 hr2 LB.out (by intro y hy; have h := LJ.out; simp at hy; rcases hy with rfl | rfl | rfl <;> (simp only; omega)))
        have hb : Below X17.heap.size X17 (X18.setCells J 0 (u8s km).toList) := by
          have h := YJ.out.trans (grown_below hg2 (Nat.le_refl J) (by have := YJ.out.size; rw [HJ.out] at this; exact this))
          rw [HJ.out]
          exact h
        have M_ := Bx.mk (M_.out.later hb)
        have Kk := Bx.mk (Kk.out.later hb)
        have Kvb := Bx.mk (Kvb.out.later hb)
        have Ks1 := Bx.mk (Ks1.out.later hb)
        have Ks2 := Bx.mk (Ks2.out.later hb)
        have Kvy := Bx.mk (Kvy.out.later hb)
        clear hb hr2 hg2 Y18 YJ
        generalize X18.setCells J 0 (u8s km).toList = X19 at *
        refine hK.out _ _ (row_rng (Y19.out.rows _ (.tail _ (.tail _ (.head _))))) (fun hHeld => ?_)
        clear hK K
        try simp only [Act.put]
        refine wpAnyH_done (by kernel_rfl) ?_ _
        refine NoPanic.normal ?_
        clear hHeld
        go_upto_region 28 with fail
        have hb : Below X19.heap.size X19 X19.drew := (Below.refl _ _).drew
        have Y20 := Bx.mk (Y19.out.later hb)
        have M_ := Bx.mk (M_.out.later hb)
        have Kk := Bx.mk (Kk.out.later hb)
        have Kvb := Bx.mk (Kvb.out.later hb)
        have Ks1 := Bx.mk (Ks1.out.later hb)
        have Ks2 := Bx.mk (Ks2.out.later hb)
        have Kvy := Bx.mk (Kvy.out.later hb)
        clear hb Y19
        refine wp_region_noPanic ?_
        refine wp_region_held_drew (S := fun _ => True) (by kernel_rfl) (True.intro) (fun hHeld => ?_)
        generalize X19.drew = X20 at *
        refine stepL 0 (by kernel_rfl) rfl (fun K hK => ?_)
        go_simp
        refine (known7_any X20 (HT.out X20 Y20.out.below).1 (HT.out X20 Y20.out.below).2).mono ?_
        rintro e X21 ⟨rfl, hb⟩
        show K _ _
        have Y21 := Bx.mk (Y20.out.later hb)
        have M_ := Bx.mk (M_.out.later hb)
        have Kk := Bx.mk (Kk.out.later hb)
        have Kvb := Bx.mk (Kvb.out.later hb)
        have Ks1 := Bx.mk (Ks1.out.later hb)
        have Ks2 := Bx.mk (Ks2.out.later hb)
        have Kvy := Bx.mk (Kvy.out.later hb)
        clear hb Y20
        refine hK.out _ _ (True.intro) (fun hHeld => ?_)
        clear hK K
        try simp only [Act.put, List.setIfInBounds_toArray, List.set_cons_zero, List.set_cons_succ]
        refine takeL 1 (v := ?_) rfl (by kernel_rfl) (by kernel_rfl) (by kernel_rfl) (fun _ _ _ h => h) (Or.inl ⟨by rfl, ?_⟩) hHeld ?_
        rotate_left 1
        · (intro w hSw; go_simp; try with_reducible rfl)
        try simp only [Act.put, List.setIfInBounds_toArray, List.set_cons_zero, List.set_cons_succ]
        refine takeL 2 (v := ?_) rfl (by kernel_rfl) (by kernel_rfl) (by kernel_rfl) (fun _ _ _ h => h) (Or.inl ⟨by rfl, ?_⟩) hHeld ?_
        rotate_left 1
        · (intro w hSw; go_simp; try with_reducible rfl)
        try simp only [Act.put, List.setIfInBounds_toArray, List.set_cons_zero, List.set_cons_succ]
        refine takeL 3 (v := ?_) rfl (by kernel_rfl) (by kernel_rfl) (by kernel_rfl) (fun _ _ _ h => h) (Or.inl ⟨by rfl, ?_⟩) hHeld ?_
        rotate_left 1
        · (intro w hSw; go_simp; try with_reducible rfl)
        try simp only [Act.put, List.setIfInBounds_toArray, List.set_cons_zero, List.set_cons_succ]
        refine takeL 4 (v := ?_) rfl (by kernel_rfl) (by kernel_rfl) (by kernel_rfl) (fun _ _ _ h => h) (Or.inl ⟨by rfl, ?_⟩) hHeld ?_
        rotate_left 1
        · (intro w hSw; go_simp; try with_reducible rfl)
        try simp only [Act.put, List.setIfInBounds_toArray, List.set_cons_zero, List.set_cons_succ]
        refine takeL 5 (v := ?_) rfl (by kernel_rfl) (by kernel_rfl) (by kernel_rfl) (fun _ _ _ h => h) (Or.inl ⟨by rfl, ?_⟩) hHeld ?_
        rotate_left 1
        · (intro w hSw; go_simp; try with_reducible rfl)
        try simp only [Act.put, List.setIfInBounds_toArray, List.set_cons_zero, List.set_cons_succ]
        refine takeL 6 (v := ?_) rfl (by kernel_rfl) (by kernel_rfl) (by kernel_rfl) (fun _ _ _ h => h) (Or.inl ⟨by rfl, ?_⟩) hHeld ?_
        rotate_left 1
        · (intro w hSw; go_simp; try with_reducible rfl)
        try simp only [Act.put, List.setIfInBounds_toArray, List.set_cons_zero, List.set_cons_succ]
        refine takeL 7 (v := ?_) rfl (by kernel_rfl) (by kernel_rfl) (by kernel_rfl) (fun _ _ _ h => h) (Or.inl ⟨by rfl, ?_⟩) hHeld ?_
        rotate_left 1
        · (intro w hSw; go_simp; try with_reducible rfl)
        try simp only [Act.put, List.setIfInBounds_toArray, List.set_cons_zero, List.set_cons_succ]
        refine takeL 8 (v := ?_) rfl (by kernel_rfl) (by kernel_rfl) (by kernel_rfl) (fun _ _ _ h => h) (Or.inl ⟨by rfl, ?_⟩) hHeld ?_
        rotate_left 1
        · (intro w hSw; go_simp; try with_reducible rfl)
        try simp only [Act.put, List.setIfInBounds_toArray, List.set_cons_zero, List.set_cons_succ]
        refine takeL 9 (v := ?_) rfl (by kernel_rfl) (by kernel_rfl) (by kernel_rfl) (fun _ _ _ h => h) (Or.inl ⟨by rfl, ?_⟩) hHeld ?_
        rotate_left 1
        · (intro w hSw; go_simp; try with_reducible rfl)
        try simp only [Act.put, List.setIfInBounds_toArray, List.set_cons_zero, List.set_cons_succ]
        refine takeL 10 (v := ?_) rfl (by kernel_rfl) (by kernel_rfl) (by kernel_rfl) (fun _ _ _ h => h) (Or.inl ⟨by rfl, ?_⟩) hHeld ?_
        rotate_left 1
        · (intro w hSw; go_simp; try with_reducible rfl)
        try simp only [Act.put, List.setIfInBounds_toArray, List.set_cons_zero, List.set_cons_succ]
        refine takeL 12 (v := ?_) rfl (by kernel_rfl) (by kernel_rfl) (by kernel_rfl) (fun _ _ _ h => h) (Or.inl ⟨by rfl, ?_⟩) hHeld ?_
        rotate_left 1
        · (intro w hSw; go_simp; try with_reducible rfl)
        try simp only [Act.put, List.setIfInBounds_toArray, List.set_cons_zero, List.set_cons_succ]
        refine stepL 11 (by kernel_rfl) rfl (fun K hK => ?_)
        go_simp
        refine (HKb.out km X21 vb HLm.out Kvb.out).mono ?_
        rintro e X22 ⟨u3, rfl, ho, hb⟩
        show K _ _
        have Y22 := Bx.mk (Y21.out.later hb)
        have M_ := Bx.mk (M_.out.later hb)
        have Kk := Bx.mk (Kk.out.later hb)
        have Kvb := Bx.mk (Kvb.out.later hb)
        have Ks1 := Bx.mk (Ks1.out.later hb)
        have Ks2 := Bx.mk (Ks2.out.later hb)
        have Kvy := Bx.mk (Kvy.out.later hb)
        have Bu3 := Bx.mk ho.bytes
        clear hb Y21
        clear ho
        refine hK.out _ _ (True.intro) (fun hHeld => ?_)
        clear hK K
        try simp only [Act.put, List.setIfInBounds_toArray, List.set_cons_zero, List.set_cons_succ]
        refine stepL 13 (by kernel_rfl) rfl (fun K hK => ?_)
        go_simp
        refine (HSame.out km X22 _ _ HLm.out Bu3.out (row_bytes (Y22.out.rows _ (.head _)) HLm.out)).mono ?_
        rintro e X23 ⟨rfl, hdd⟩
        show K _ _
        obtain ⟨nd, hnd⟩ := hdd
        have hb : Below X22.heap.size X22 X23 := by rw [hnd]; exact drewN_below _ _
        clear hnd
        have Y23 := Bx.mk (Y22.out.later hb)
        have M_ := Bx.mk (M_.out.later hb)
        have Kk := Bx.mk (Kk.out.later hb)
        have Kvb := Bx.mk (Kvb.out.later hb)
        have Ks1 := Bx.mk (Ks1.out.later hb)
        have Ks2 := Bx.mk (Ks2.out.later hb)
        have Kvy := Bx.mk (Kvy.out.later hb)
        clear hb Y22
        refine hK.out _ _ True.intro (fun hHeld => ?_)
        clear hK K
        try simp only [Act.put, List.setIfInBounds_toArray, List.set_cons_zero, List.set_cons_succ]
        refine takeL 14 (v := ?_) rfl (by kernel_rfl) (by kernel_rfl) (by kernel_rfl) (fun _ _ _ h => h) (Or.inl ⟨by rfl, ?_⟩) hHeld ?_
        rotate_left 1
        · (intro w hSw; go_simp; try with_reducible rfl)
        try simp only [Act.put, List.setIfInBounds_toArray, List.set_cons_zero, List.set_cons_succ]
        refine takeL 15 (v := ?_) rfl (by kernel_rfl) (by kernel_rfl) (by kernel_rfl) (fun _ _ _ h => h) (Or.inl ⟨by rfl, ?_⟩) hHeld ?_
        rotate_left 1
        · (intro w hSw; go_simp; try with_reducible rfl)
        try simp only [Act.put, List.setIfInBounds_toArray, List.set_cons_zero, List.set_cons_succ]
        refine takeL 16 (v := ?_) rfl (by kernel_rfl) (by kernel_rfl) (by kernel_rfl) (fun _ _ _ h => h) (Or.inl ⟨by rfl, ?_⟩) hHeld ?_
        rotate_left 1
        · (intro w hSw; go_simp; try with_reducible rfl)
        try simp only [Act.put, List.setIfInBounds_toArray, List.set_cons_zero, List.set_cons_succ]
        refine takeL 18 (v := ?_) rfl (by kernel_rfl) (by kernel_rfl) (by kernel_rfl) (fun _ _ _ h => h) (Or.inl ⟨by rfl, ?_⟩) hHeld ?_
        rotate_left 1
        · (intro w hSw; go_simp; try with_reducible rfl)
        try simp only [Act.put, List.setIfInBounds_toArray, List.set_cons_zero, List.set_cons_succ]
        refine stepL 17 (by kernel_rfl) rfl (fun K hK => ?_)
        go_simp
        refine (HKb.out km X23 vy HLm.out Kvy.out).mono ?_
        rintro e X24 ⟨u4, rfl, ho, hb⟩
        show K _ _
        have Y24 := Bx.mk (Y23.out.later hb)
        have M_ := Bx.mk (M_.out.later hb)
        have Kk := Bx.mk (Kk.out.later hb)
        have Kvb := Bx.mk (Kvb.out.later hb)
        have Ks1 := Bx.mk (Ks1.out.later hb)
        have Ks2 := Bx.mk (Ks2.out.later hb)
        have Kvy := Bx.mk (Kvy.out.later hb)
        have Bu4 := Bx.mk ho.bytes
        clear hb Y23
        clear ho
        refine hK.out _ _ (True.intro) (fun hHeld => ?_)
        clear hK K
        try simp only [Act.put, List.setIfInBounds_toArray, List.set_cons_zero, List.set_cons_succ]
        refine stepL 19 (by kernel_rfl) rfl (fun K hK => ?_)
        go_simp
        refine (HSame.out km X24 _ _ HLm.out Bu4.out (row_bytes (Y24.out.rows _ (.head _)) HLm.out)).mono ?_
        rintro e X25 ⟨rfl, hdd⟩
        show K _ _
        obtain ⟨nd, hnd⟩ := hdd
        have hb : Below X24.heap.size X24 X25 := by rw [hnd]; exact drewN_below _ _
        clear hnd
        have Y25 := Bx.mk (Y24.out.later hb)
        have M_ := Bx.mk (M_.out.later hb)
        have Kk := Bx.mk (Kk.out.later hb)
        have Kvb := Bx.mk (Kvb.out.later hb)
        have Ks1 := Bx.mk (Ks1.out.later hb)
        have Ks2 := Bx.mk (Ks2.out.later hb)
        have Kvy := Bx.mk (Kvy.out.later hb)
        clear hb Y24
        refine hK.out _ _ True.intro (fun hHeld => ?_)
        clear hK K
        try simp only [Act.put, List.setIfInBounds_toArray, List.set_cons_zero, List.set_cons_succ]
        refine takeL 20 (v := ?_) rfl (by kernel_rfl) (by kernel_rfl) (by kernel_rfl) (fun _ _ _ h => h) (Or.inl ⟨by rfl, ?_⟩) hHeld ?_
        rotate_left 1
        · (intro w hSw; go_simp; try with_reducible rfl)
        try simp only [Act.put, List.setIfInBounds_toArray, List.set_cons_zero, List.set_cons_succ]
        refine takeL 21 (v := ?_) rfl (by kernel_rfl) (by kernel_rfl) (by kernel_rfl) (fun _ _ _ h => h) (Or.inl ⟨by rfl, ?_⟩) hHeld ?_
        rotate_left 1
        · (intro w hSw; go_simp; try with_reducible rfl)
        try simp only [Act.put, List.setIfInBounds_toArray, List.set_cons_zero, List.set_cons_succ]
        refine wpAnyH_done (by kernel_rfl) ?_ _
        refine NoPanic.normal ?_
        clear hHeld
        go_wp2
        go_ret
        exact ⟨rfl, Y25.out.below⟩
      · go_simp
        show K _ _
        obtain ⟨J, hJ⟩ : ∃ J, X16.heap.size = J := ⟨_, rfl⟩
        have LJ : Bx (E < J ∧ D < J ∧ B < J) := Bx.mk (by rw [← hJ]; exact ⟨Y16.out.lt (.head _), Y16.out.lt (.tail _ (.head _)), Y16.out.lt (.tail _ (.tail _ (.head _)))⟩)
        have LB : Bx (B ≤ J) := Bx.mk (by rw [← hJ]; exact Y16.out.le)
        have YJ := Bx.mk (show Below X16.heap.size X16 (X16.alloc (.cells z1 40)) from below_a _)
        rw [hJ] at YJ
        have HJ := Bx.mk hJ
        have Y17 := Bx.mk (Y16.out.new (.cells z1 40))
        rw [hJ] at Y17 ⊢
        clear Y16 hJ
        generalize X16.alloc (.cells z1 40) = X17 at *
        refine hK.out _ _ (row_rng (Y17.out.rows _ (.tail _ (.tail _ (.head _))))) (fun hHeld => ?_)
        clear hK K
        try simp only [Act.put, List.setIfInBounds_toArray, List.set_cons_zero, List.set_cons_succ]
        refine stepL 3 (by kernel_rfl) rfl (fun K hK => ?_)
        go_simp
        refine (HRs.out X17 _ (row_bytes (Y17.out.rows _ (.tail _ (.head _))) HLs.out)).mono ?_
        rintro e X18 ⟨rfl, hb⟩
        show K _ _
        have YJ := Bx.mk (YJ.out.trans (hb.mono (by rw [← HJ.out]; exact (show X16.heap.size ≤ X17.heap.size from by have := YJ.out.size; omega))))
        have Y18 := Bx.mk (Y17.out.later hb)
        clear hb Y17
        refine hK.out _ _ (row_rng (Y18.out.rows _ (.tail _ (.tail _ (.head _))))) (fun hHeld => ?_)
        clear hK K
        try simp only [Act.put, List.setIfInBounds_toArray, List.set_cons_zero, List.set_cons_succ]
        refine stepL 5 (by kernel_rfl) rfl (fun K hK => ?_)
        refine step_st rfl 40 _ _ rfl J (u8s km) (by rfl) (by rfl) (there_row (Y18.out.rows _ (.head _)) 0 _ (by rw [(HA.out km HLm.out).2]; omega)) (HA.out km HLm.out).1 (one_u8s _) ?_
        have hr2 := heap_setCells_all (ds := u8s km) (Y18.out.rows _ (.head _)) (HA.out km HLm.out).2
        have hg2 := kb_setCells (b := J) (u8s km).toList 0 X18
        have Y19 := Bx.mk (Y18.out.set hg2 hr2 LB.out (by intro y hy; have h := LJ.out; simp at hy; rcases hy with rfl | rfl | rfl <;> (simp only; omega)))
        have hb : Below X16.heap.size X16 (X18.setCells J 0 (u8s km).toList) := by
          have h := YJ.out.trans (grown_below hg2 (Nat.le_refl J) (by have := YJ.out.size; rw [HJ.out] at this; exact this))
          rw [HJ.out]
          exact h
        have M_ := Bx.mk (M_.out.later hb)
        have Kk := Bx.mk (Kk.out.later hb)
        have Kvb := Bx.mk (Kvb.out.later hb)
        have Ks1 := Bx.mk (Ks1.out.later hb)
        have Ks2 := Bx.mk (Ks2.out.later hb)
        have Kvy := Bx.mk (Kvy.out.later hb)
        clear hb hr2 hg2 Y18 YJ
        generalize X18.setCells J 0 (u8s km).toList = X19 at *
        refine hK.out _ _ (row_rng (Y19.out.rows _ (.tail _ (.tail _ (.head _))))) (fun hHeld => ?_)
        clear hK K
        try simp only [Act.put]
        refine wpAnyH_done (by kernel_rfl) ?_ _
        refine NoPanic.normal ?_
        clear hHeld
        go_upto_region 28 with fail
        have hb : Below X19.heap.size X19 X19.drew := (Below.refl _ _).drew
        have Y20 := Bx.mk (Y19.out.later hb)
        have M_ := Bx.mk (M_.out.later hb)
        have Kk := Bx.mk (Kk.out.later hb)
        have Kvb := Bx.mk (Kvb.out.later hb)
        have Ks1 := Bx.mk (Ks1.out.later hb)
        have Ks2 := Bx.mk (Ks2.out.later hb)
        have Kvy := Bx.mk (Kvy.out.later hb)
        clear hb Y19
        refine wp_region_noPanic ?_
        refine wp_region_held_drew (S := fun _ => True) (by kernel_rfl) (True.intro) (fun hHeld => ?_)
        generalize X19.drew = X20 at *
        refine stepL 0 (by kernel_rfl) rfl (fun K hK => ?_)
        go_simp
        refine (known7_any X20 (HT.out X20 Y20.out.below).1 (HT.out X20 Y20.out.below).2).mono ?_
        rintro e X21 ⟨rfl, hb⟩
        show K _ _
        have Y21 := Bx.mk (Y20.out.later hb)
        have M_ := Bx.mk (M_.out.later hb)
        have Kk := Bx.mk (Kk.out.later hb)
        have Kvb := Bx.mk (Kvb.out.later hb)
        have Ks1 := Bx.mk (Ks1.out.later hb)
        have Ks2 := Bx.mk (Ks2.out.later hb)
        have Kvy := Bx.mk (Kvy.out.later hb)
        clear hb Y20
        refine hK.out _ _ (True.intro) (fun hHeld => ?_)
        clear hK K
        try simp only [Act.put, List.setIfInBounds_toArray, List.set_cons_zero, List.set_cons_succ]
        refine takeL 1 (v := ?_) rfl (by kernel_rfl) (by kernel_rfl) (by kernel_rfl) (fun _ _ _ h => h) (Or.inl ⟨by rfl, ?_⟩) hHeld ?_
        rotate_left 1
        · (intro w hSw; go_simp; try with_reducible rfl)
        try simp only [Act.put, List.setIfInBounds_toArray, List.set_cons_zero, List.set_cons_succ]
        refine takeL 2 (v := ?_) rfl (by kernel_rfl) (by kernel_rfl) (by kernel_rfl) (fun _ _ _ h => h) (Or.inl ⟨by rfl, ?_⟩) hHeld ?_
        rotate_left 1
        · (intro w hSw; go_simp; try with_reducible rfl)
        try simp only [Act.put, List.setIfInBounds_toArray, List.set_cons_zero, List.set_cons_succ]
        refine takeL 3 (v := ?_) rfl (by kernel_rfl) (by kernel_rfl) (by kernel_rfl) (fun _ _ _ h => h) (Or.inl ⟨by rfl, ?_⟩) hHeld ?_
        rotate_left 1
        · (intro w hSw; go_simp; try with_reducible rfl)
        try simp only [Act.put, List.setIfInBounds_toArray, List.set_cons_zero, List.set_cons_succ]
        refine takeL 4 (v := ?_) rfl (by kernel_rfl) (by kernel_rfl) (by kernel_rfl) (fun _ _ _ h => h) (Or.inl ⟨by rfl, ?_⟩) hHeld ?_
        rotate_left 1
        · (intro w hSw; go_simp; try with_reducible rfl)
        try simp only [Act.put, List.setIfInBounds_toArray, List.set_cons_zero, List.set_cons_succ]
        refine takeL 5 (v := ?_) rfl (by kernel_rfl) (by kernel_rfl) (by kernel_rfl) (fun _ _ _ h => h) (Or.inl ⟨by rfl, ?_⟩) hHeld ?_
        rotate_left 1
        · (intro w hSw; go_simp; try with_reducible rfl)
        try simp only [Act.put, List.setIfInBounds_toArray, List.set_cons_zero, List.set_cons_succ]
        refine takeL 6 (v := ?_) rfl (by kernel_rfl) (by kernel_rfl) (by kernel_rfl) (fun _ _ _ h => h) (Or.inl ⟨by rfl, ?_⟩) hHeld ?_
        rotate_left 1
        · (intro w hSw; go_simp; try with_reducible rfl)
        try simp only [Act.put, List.setIfInBounds_toArray, List.set_cons_zero, List.set_cons_succ]
        refine takeL 7 (v := ?_) rfl (by kernel_rfl) (by kernel_rfl) (by kernel_rfl) (fun _ _ _ h => h) (Or.inl ⟨by rfl, ?_⟩) hHeld ?_
        rotate_left 1
        · (intro w hSw; go_simp; try with_reducible rfl)
        try simp only [Act.put, List.setIfInBounds_toArray, List.set_cons_zero, List.set_cons_succ]
        refine takeL 8 (v := ?_) rfl (by kernel_rfl) (by kernel_rfl) (by kernel_rfl) (fun _ _ _ h => h) (Or.inl ⟨by rfl, ?_⟩) hHeld ?_
        rotate_left 1
        · (intro w hSw; go_simp; try with_reducible rfl)
        try simp only [Act.put, List.setIfInBounds_toArray, List.set_cons_zero, List.set_cons_succ]
        refine takeL 9 (v := ?_) rfl (by kernel_rfl) (by kernel_rfl) (by kernel_rfl) (fun _ _ _ h => h) (Or.inl ⟨by rfl, ?_⟩) hHeld ?_
        rotate_left 1
        · (intro w hSw; go_simp; try with_reducible rfl)
        try simp only [Act.put, List.setIfInBounds_toArray, List.set_cons_zero, List.set_cons_succ]
        refine takeL 10 (v := ?_) rfl (by kernel_rfl) (by kernel_rfl) (by kernel_rfl) (fun _ _ _ h => h) (Or.inl ⟨by rfl, ?_⟩) hHeld ?_
        rotate_left 1
        · (intro w hSw; go_simp; try with_reducible rfl)
        try simp only [Act.put, List.setIfInBounds_toArray, List.set_cons_zero, List.set_cons_succ]
        refine takeL 12 (v := ?_) rfl (by kernel_rfl) (by kernel_rfl) (by kernel_rfl) (fun _ _ _ h => h) (Or.inl ⟨by rfl, ?_⟩) hHeld ?_
        rotate_left 1
        · (intro w hSw; go_simp; try with_reducible rfl)
        try simp only [Act.put, List.setIfInBounds_toArray, List.set_cons_zero, List.set_cons_succ]
        refine stepL 11 (by kernel_rfl) rfl (fun K hK => ?_)
        go_simp
        refine (HKb.out km X21 vb HLm.out Kvb.out).mono ?_
        rintro e X22 ⟨u3, rfl, ho, hb⟩
        show K _ _
        have Y22 := Bx.mk (Y21.out.later hb)
        have M_ := Bx.mk (M_.out.later hb)
        have Kk := Bx.mk (Kk.out.later hb)
        have Kvb := Bx.mk (Kvb.out.later hb)
        have Ks1 := Bx.mk (Ks1.out.later hb)
        have Ks2 := Bx.mk (Ks2.out.later hb)
        have Kvy := Bx.mk (Kvy.out.later hb)
        have Bu3 := Bx.mk ho.bytes
        clear hb Y21
        clear ho
        refine hK.out _ _ (True.intro) (fun hHeld => ?_)
        clear hK K
        try simp only [Act.put, List.setIfInBounds_toArray, List.set_cons_zero, List.set_cons_succ]
        refine stepL 13 (by kernel_rfl) rfl (fun K hK => ?_)
        go_simp
        refine (HSame.out km X22 _ _ HLm.out Bu3.out (row_bytes (Y22.out.rows _ (.head _)) HLm.out)).mono ?_
        rintro e X23 ⟨rfl, hdd⟩
        show K _ _
        obtain ⟨nd, hnd⟩ := hdd
        have hb : Below X22.heap.size X22 X23 := by rw [hnd]; exact drewN_below _ _
        clear hnd
        have Y23 := Bx.mk (Y22.out.later hb)
        have M_ := Bx.mk (M_.out.later hb)
        have Kk := Bx.mk (Kk.out.later hb)
        have Kvb := Bx.mk (Kvb.out.later hb)
        have Ks1 := Bx.mk (Ks1.out.later hb)
        have Ks2 := Bx.mk (Ks2.out.later hb)
        have Kvy := Bx.mk (Kvy.out.later hb)
        clear hb Y22
        refine hK.out _ _ True.intro (fun hHeld => ?_)
        clear hK K
        try simp only [Act.put, List.setIfInBounds_toArray, List.set_cons_zero, List.set_cons_succ]
        refine takeL 14 (v := ?_) rfl (by kernel_rfl) (by kernel_rfl) (by kernel_rfl) (fun _ _ _ h => h) (Or.inl ⟨by rfl, ?_⟩) hHeld ?_
        rotate_left 1
        · (intro w hSw; go_simp; try with_reducible rfl)
        try simp only [Act.put, List.setIfInBounds_toArray, List.set_cons_zero, List.set_cons_succ]
        refine takeL 15 (v := ?_) rfl (by kernel_rfl) (by kernel_rfl) (by kernel_rfl) (fun _ _ _ h => h) (Or.inl ⟨by rfl, ?_⟩) hHeld ?_
        rotate_left 1
        · (intro w hSw; go_simp; try with_reducible rfl)
        try simp only [Act.put, List.setIfInBounds_toArray, List.set_cons_zero, List.set_cons_succ]
        refine takeL 16 (v := ?_) rfl (by kernel_rfl) (by kernel_rfl) (by kernel_rfl) (fun _ _ _ h => h) (Or.inl ⟨by rfl, ?_⟩) hHeld ?_
        rotate_left 1
        · (intro w hSw; go_simp; try with_reducible rfl)
        try simp only [Act.put, List.setIfInBounds_toArray, List.set_cons_zero, List.set_cons_succ]
        refine takeL 18 (v := ?_) rfl (by kernel_rfl) (by kernel_rfl) (by kernel_rfl) (fun _ _ _ h => h) (Or.inl ⟨by rfl, ?_⟩) hHeld ?_
        rotate_left 1
        · (intro w hSw; go_simp; try with_reducible rfl)
        try simp only [Act.put, List.setIfInBounds_toArray, List.set_cons_zero, List.set_cons_succ]
        refine stepL 17 (by kernel_rfl) rfl (fun K hK => ?_)
        go_simp
        refine (HKb.out km X23 vy HLm.out Kvy.out).mono ?_
        rintro e X24 ⟨u4, rfl, ho, hb⟩
        show K _ _
        have Y24 := Bx.mk (Y23.out.later hb)
        have M_ := Bx.mk (M_.out.later hb)
        have Kk := Bx.mk (Kk.out.later hb)
        have Kvb := Bx.mk (Kvb.out.later hb)
        have Ks1 := Bx.mk (Ks1.out.later hb)
        have Ks2 := Bx.mk (Ks2.out.later hb)
        have Kvy := Bx.mk (Kvy.out.later hb)
        have Bu4 := Bx.mk ho.bytes
        clear hb Y23
        clear ho
        refine hK.out _ _ (True.intro) (fun hHeld => ?_)
        clear hK K
        try simp only [Act.put, List.setIfInBounds_toArray, List.set_cons_zero, List.set_cons_succ]
        refine stepL 19 (by kernel_rfl) rfl (fun K hK => ?_)
        go_simp
        refine (HSame.out km X24 _ _ HLm.out Bu4.out (row_bytes (Y24.out.rows _ (.head _)) HLm.out)).mono ?_
        rintro e X25 ⟨rfl, hdd⟩
        show K _ _
        obtain ⟨nd, hnd⟩ := hdd
        have hb : Below X24.heap.size X24 X25 := by rw [hnd]; exact drewN_below _ _
        clear hnd
        have Y25 := Bx.mk (Y24.out.later hb)
        have M_ := Bx.mk (M_.out.later hb)
        have Kk := Bx.mk (Kk.out.later hb)
        have Kvb := Bx.mk (Kvb.out.later hb)
        have Ks1 := Bx.mk (Ks1.out.later hb)
        have Ks2 := Bx.mk (Ks2.out.later hb)
        have Kvy := Bx.mk (Kvy.out.later hb)
        clear hb Y24
        refine hK.out _ _ True.intro (fun hHeld => ?_)
        clear hK K
        try simp only [Act.put, List.setIfInBounds_toArray, List.set_cons_zero, List.set_cons_succ]
        refine takeL 20 (v := ?_) rfl (by kernel_rfl) (by kernel_rfl) (by kernel_rfl) (fun _ _ _ h => h) (Or.inl ⟨by rfl, ?_⟩) hHeld ?_
        rotate_left 1
        · (intro w hSw; go_simp; try with_reducible rfl)
        try simp only [Act.put, List.setIfInBounds_toArray, List.set_cons_zero, List.set_cons_succ]
        refine takeL 21 (v := ?_) rfl (by kernel_rfl) (by kernel_rfl) (by kernel_rfl) (fun _ _ _ h => h) (Or.inl ⟨by rfl, ?_⟩) hHeld ?_
        rotate_left 1
        · (intro w hSw; go_simp; try with_reducible rfl)
        try simp only [Act.put, List.setIfInBounds_toArray, List.set_cons_zero, List.set_cons_succ]
        refine wpAnyH_done (by kernel_rfl) ?_ _
        refine NoPanic.normal ?_
        clear hHeld
        go_wp2
        go_ret
        exact ⟨rfl, Y25.out.below⟩
    · have gv' := Bx.mk gv
      have gvn : ¬ nv < 1 := by omega
      go_upto_region 27 with fail
      have hb : Below X15.heap.size X15 X15.drew := (Below.refl _ _).drew
      have Y16 := Bx.mk (Y15.out.later hb)
      have M_ := Bx.mk (M_.out.later hb)
      have Kk := Bx.mk (Kk.out.later hb)
      have Kvb := Bx.mk (Kvb.out.later hb)
      have Ks1 := Bx.mk (Ks1.out.later hb)
      have Ks2 := Bx.mk (Ks2.out.later hb)
      have Kvy := Bx.mk (Kvy.out.later hb)
      clear hb Y15
      refine wp_region_noPanic ?_
      refine wp_region_held_drew (S := fun W => W.rangeAt D 0 tbl) (by kernel_rfl) (row_rng (Y16.out.rows _ (.tail _ (.head _)))) (fun hHeld => ?_)
      generalize X15.drew = X16 at *
      refine takeL 0 rfl (by kernel_rfl) (by kernel_rfl) (by kernel_rfl) (fun _ _ _ h => h) (yieldsIf_load_mid (by rfl) _ _ rfl _ _ rfl _ _ (fun w hSw => hSw) Tryd.underlying32 rfl HTI.out.2.2.2) hHeld ?_
      try simp only [Act.put, List.setIfInBounds_toArray, List.set_cons_zero, List.set_cons_succ]
      refine takeL 1 (v := ?_) rfl (by kernel_rfl) (by kernel_rfl) (by kernel_rfl) (fun _ _ _ h => h) (Or.inl ⟨by rfl, ?_⟩) hHeld ?_
      rotate_left 1
      · (intro w hSw; go_simp; try with_reducible rfl)
      try simp only [Act.put, List.setIfInBounds_toArray, List.set_cons_zero, List.set_cons_succ]
      refine takeL 2 (v := ?_) rfl (by kernel_rfl) (by kernel_rfl) (by kernel_rfl) (fun _ _ _ h => h) (Or.inl ⟨by rfl, ?_⟩) hHeld ?_
      rotate_left 1
      · (intro w hSw; go_simp; try with_reducible rfl)
      try simp only [Act.put, List.setIfInBounds_toArray, List.set_cons_zero, List.set_cons_succ]
      refine wpAnyH_ready (rs := [3, 4]) (by kernel_rfl) (by simp) ?_
      refine consM 3 rfl (fun K hK => ?_) (consM 4 rfl (fun K hK => ?_) AllReadyH.nil)
      · go_simp
        refine (HRs.out X16 _ (row_bytes (Y16.out.rows _ (.head _)) HLs.out)).mono ?_
        rintro e X17 ⟨rfl, hb⟩
        show K _ _
        have Y17 := Bx.mk (Y16.out.later hb)
        have M_ := Bx.mk (M_.out.later hb)
        have Kk := Bx.mk (Kk.out.later hb)
        have Kvb := Bx.mk (Kvb.out.later hb)
        have Ks1 := Bx.mk (Ks1.out.later hb)
        have Ks2 := Bx.mk (Ks2.out.later hb)
        have Kvy := Bx.mk (Kvy.out.later hb)
        clear hb Y16
        refine hK.out _ _ (row_rng (Y17.out.rows _ (.tail _ (.head _)))) (fun hHeld => ?_)
        clear hK K
        try simp only [Act.put, List.setIfInBounds_toArray, List.set_cons_zero, List.set_cons_succ]
        refine stepL 4 (by kernel_rfl) rfl (fun K hK => ?_)
        go_simp
        show K _ _
        obtain ⟨J, hJ⟩ : ∃ J, X17.heap.size = J := ⟨_, rfl⟩
        have LJ : Bx (E < J ∧ D < J ∧ B < J) := Bx.mk (by rw [← hJ]; exact ⟨Y17.out.lt (.head _), Y17.out.lt (.tail _ (.head _)), Y17.out.lt (.tail _ (.tail _ (.head _)))⟩)
        have LB : Bx (B ≤ J) := Bx.mk (by rw [← hJ]; exact Y17.out.le)
        have YJ := Bx.mk (show Below X17.heap.size X17 (X17.alloc (.cells z1 40)) from below_a _)
        rw [hJ] at YJ
        have HJ := Bx.mk hJ
        have Y18 := Bx.mk (Y17.out.new (.cells z1 40))
        rw [hJ] at Y18 ⊢
        clear Y17 hJ
        generalize X17.alloc (.cells z1 40) = X18 at *
        refine hK.out _ _ (row_rng (Y18.out.rows _ (.tail _ (.tail _ (.head _))))) (fun hHeld => ?_)
        clear hK K
        try simp only [Act.put, List.setIfInBounds_toArray, List.set_cons_zero, List.set_cons_succ]
        refine stepL 5 (by kernel_rfl) rfl (fun K hK => ?_)
        refine step_st rfl 40 _ _ rfl J (u8s km) (by rfl) (by rfl) (there_row (Y18.out.rows _ (.head _)) 0 _ (by rw [(HA.out km HLm.out).2]; omega)) (HA.out km HLm.out).1 (one_u8s _) ?_
        have hr2 := heap_setCells_all (ds := u8s km) (Y18.out.rows _ (.head _)) (HA.out km HLm.out).2
        have hg2 := kb_setCells (b := J) (u8s km).toList 0 X18
        have Y19 := Bx.mk (Y18.out.set hg2 hr2 LB.out (by intro y hy; have h := LJ.out; simp at hy; rcases hy with rfl | rfl | rfl <;> (simp only; omega)))
        have hb : Below X17.heap.size X17 (X18.setCells J 0 (u8s km).toList) := by
          have h := YJ.out.trans (grown_below hg2 (Nat.le_refl J) (by have := YJ.out.size; rw [HJ.out] at this; exact this))
          rw [HJ.out]
          exact h
        have M_ := Bx.mk (M_.out.later hb)
        have Kk := Bx.mk (Kk.out.later hb)
        have Kvb := Bx.mk (Kvb.out.later hb)
        have Ks1 := Bx.mk (Ks1.out.later hb)
        have Ks2 := Bx.mk (Ks2.out.later hb)
        have Kvy := Bx.mk (Kvy.out.later hb)
        clear hb hr2 hg2 Y18 YJ
        generalize X18.setCells J 0 (u8s km).toList = X19 at *
        refine hK.out _ _ (row_rng (Y19.out.rows _ (.tail _ (.tail _ (.head _))))) (fun hHeld => ?_)
        clear hK K
        try simp only [Act.put]
        refine wpAnyH_done (by kernel_rfl) ?_ _
        refine NoPanic.normal ?_
        clear hHeld
        go_upto_region 28 with fail
        have hb : Below X19.heap.size X19 X19.drew := (Below.refl _ _).drew
        have Y20 := Bx.mk (Y19.out.later hb)
        have M_ := Bx.mk (M_.out.later hb)
        have Kk := Bx.mk (Kk.out.later hb)
        have Kvb := Bx.mk (Kvb.out.later hb)
        have Ks1 := Bx.mk (Ks1.out.later hb)
        have Ks2 := Bx.mk (Ks2.out.later hb)
        have Kvy := Bx.mk (Kvy.out.later hb)
        clear hb Y19
        refine wp_region_noPanic ?_
        refine wp_region_held_drew (S := fun _ => True) (by kernel_rfl) (True.intro) (fun hHeld => ?_)
        generalize X19.drew = X20 at *
        refine stepL 0 (by kernel_rfl) rfl (fun K hK => ?_)
        go_simp
        refine (known7_any X20 (HT.out X20 Y20.out.below).1 (HT.out X20 Y20.out.below).2).mono ?_
        rintro e X21 ⟨rfl, hb⟩
        show K _ _
        have Y21 := Bx.mk (Y20.out.later hb)
        have M_ := Bx.mk (M_.out.later hb)
        have Kk := Bx.mk (Kk.out.later hb)
        have Kvb := Bx.mk (Kvb.out.later hb)
        have Ks1 := Bx.mk (Ks1.out.later hb)
        have Ks2 := Bx.mk (Ks2.out.later hb)
        have Kvy := Bx.mk (Kvy.out.later hb)
        clear hb Y20
        refine hK.out _ _ (True.intro) (fun hHeld => ?_)
        clear hK K
        try simp only [Act.put, List.setIfInBounds_toArray, List.set_cons_zero, List.set_cons_succ]
        refine takeL 1 (v := ?_) rfl (by kernel_rfl) (by kernel_rfl) (by kernel_rfl) (fun _ _ _ h => h) (Or.inl ⟨by rfl, ?_⟩) hHeld ?_
        rotate_left 1
        · (intro w hSw; go_simp; try with_reducible rfl)
        try simp only [Act.put, List.setIfInBounds_toArray, List.set_cons_zero, List.set_cons_succ]
        refine takeL 2 (v := ?_) rfl (by kernel_rfl) (by kernel_rfl) (by kernel_rfl) (fun _ _ _ h => h) (Or.inl ⟨by rfl, ?_⟩) hHeld ?_
        rotate_left 1
        · (intro w hSw; go_simp; try with_reducible rfl)
        try simp only [Act.put, List.setIfInBounds_toArray, List.set_cons_zero, List.set_cons_succ]
        refine takeL 3 (v := ?_) rfl (by kernel_rfl) (by kernel_rfl) (by kernel_rfl) (fun _ _ _ h => h) (Or.inl ⟨by rfl, ?_⟩) hHeld ?_
        rotate_left 1
        · (intro w hSw; go_simp; try with_reducible rfl)
        try simp only [Act.put, List.setIfInBounds_toArray, List.set_cons_zero, List.set_cons_succ]
        refine takeL 4 (v := ?_) rfl (by kernel_rfl) (by kernel_rfl) (by kernel_rfl) (fun _ _ _ h => h) (Or.inl ⟨by rfl, ?_⟩) hHeld ?_
        rotate_left 1
        · (intro w hSw; go_simp; try with_reducible rfl)
        try simp only [Act.put, List.setIfInBounds_toArray, List.set_cons_zero, List.set_cons_succ]
        refine takeL 5 (v := ?_) rfl (by kernel_rfl) (by kernel_rfl) (by kernel_rfl) (fun _ _ _ h => h) (Or.inl ⟨by rfl, ?_⟩) hHeld ?_
        rotate_left 1
        · (intro w hSw; go_simp; try with_reducible rfl)
        try simp only [Act.put, List.setIfInBounds_toArray, List.set_cons_zero, List.set_cons_succ]
        refine takeL 6 (v := ?_) rfl (by kernel_rfl) (by kernel_rfl) (by kernel_rfl) (fun _ _ _ h => h) (Or.inl ⟨by rfl, ?_⟩) hHeld ?_
        rotate_left 1
        · (intro w hSw; go_simp; try with_reducible rfl)
        try simp only [Act.put, List.setIfInBounds_toArray, List.set_cons_zero, List.set_cons_succ]
        refine takeL 7 (v := ?_) rfl (by kernel_rfl) (by kernel_rfl) (by kernel_rfl) (fun _ _ _ h => h) (Or.inl ⟨by rfl, ?_⟩) hHeld ?_
        rotate_left 1
        · (intro w hSw; go_simp; try with_reducible rfl)
        try simp only [Act.put, List.setIfInBounds_toArray, List.set_cons_zero, List.set_cons_succ]
        refine takeL 8 (v := ?_) rfl (by kernel_rfl) (by kernel_rfl) (by kernel_rfl) (fun _ _ _ h => h) (Or.inl ⟨by rfl, ?_⟩) hHeld ?_
        rotate_left 1
        · (intro w hSw; go_simp; try with_reducible rfl)
        try simp only [Act.put, List.setIfInBounds_toArray, List.set_cons_zero, List.set_cons_succ]
        refine takeL 9 (v := ?_) rfl (by kernel_rfl) (by kernel_rfl) (by kernel_rfl) (fun _ _ _ h => h) (Or.inl ⟨by rfl, ?_⟩) hHeld ?_
        rotate_left 1
        · (intro w hSw; go_simp; try with_reducible rfl)
        try simp only [Act.put, List.setIfInBounds_toArray, List.set_cons_zero, List.set_cons_succ]
        refine takeL 10 (v := ?_) rfl (by kernel_rfl) (by kernel_rfl) (by kernel_rfl) (fun _ _ _ h => h) (Or.inl ⟨by rfl, ?_⟩) hHeld ?_
        rotate_left 1
        · (intro w hSw; go_simp; try with_reducible rfl)
        try simp only [Act.put, List.setIfInBounds_toArray, List.set_cons_zero, List.set_cons_succ]
        refine takeL 12 (v := ?_) rfl (by kernel_rfl) (by kernel_rfl) (by kernel_rfl) (fun _ _ _ h => h) (Or.inl ⟨by rfl, ?_⟩) hHeld ?_
        rotate_left 1
        · (intro w hSw; go_simp; try with_reducible rfl)
        try simp only [Act.put, List.setIfInBounds_toArray, List.set_cons_zero, List.set_cons_succ]
        refine stepL 11 (by kernel_rfl) rfl (fun K hK => ?_)
        go_simp
        refine (HKb.out km X21 vb HLm.out Kvb.out).mono ?_
        rintro e X22 ⟨u3, rfl, ho, hb⟩
        show K _ _
        have Y22 := Bx.mk (Y21.out.later hb)
        have M_ := Bx.mk (M_.out.later hb)
        have Kk := Bx.mk (Kk.out.later hb)
        have Kvb := Bx.mk (Kvb.out.later hb)
        have Ks1 := Bx.mk (Ks1.out.later hb)
        have Ks2 := Bx.mk (Ks2.out.later hb)
        have Kvy := Bx.mk (Kvy.out.later hb)
        have Bu3 := Bx.mk ho.bytes
        clear hb Y21
        clear ho
        refine hK.out _ _ (True.intro) (fun hHeld => ?_)
        clear hK K
        try simp only [Act.put, List.setIfInBounds_toArray, List.set_cons_zero, List.set_cons_succ]
        refine stepL 13 (by kernel_rfl) rfl (fun K hK => ?_)
        go_simp
        refine (HSame.out km X22 _ _ HLm.out Bu3.out (row_bytes (Y22.out.rows _ (.head _)) HLm.out)).mono ?_
        rintro e X23 ⟨rfl, hdd⟩
        show K _ _
        obtain ⟨nd, hnd⟩ := hdd
        have hb : Below X22.heap.size X22 X23 := by rw [hnd]; exact drewN_below _ _
        clear hnd
        have Y23 := Bx.mk (Y22.out.later hb)
        have M_ := Bx.mk (M_.out.later hb)
        have Kk := Bx.mk (Kk.out.later hb)
        have Kvb := Bx.mk (Kvb.out.later hb)
        have Ks1 := Bx.mk (Ks1.out.later hb)
        have Ks2 := Bx.mk (Ks2.out.later hb)
        have Kvy := Bx.mk (Kvy.out.later hb)
        clear hb Y22
        refine hK.out _ _ True.intro (fun hHeld => ?_)
        clear hK K
        try simp only [Act.put, List.setIfInBounds_toArray, List.set_cons_zero, List.set_cons_succ]
        refine takeL 14 (v := ?_) rfl (by kernel_rfl) (by kernel_rfl) (by kernel_rfl) (fun _ _ _ h => h) (Or.inl ⟨by rfl, ?_⟩) hHeld ?_
        rotate_left 1
        · (intro w hSw; go_simp; try with_reducible rfl)
        try simp only [Act.put, List.setIfInBounds_toArray, List.set_cons_zero, List.set_cons_succ]
        refine takeL 15 (v := ?_) rfl (by kernel_rfl) (by kernel_rfl) (by kernel_rfl) (fun _ _ _ h => h) (Or.inl ⟨by rfl, ?_⟩) hHeld ?_
        rotate_left 1
        · (intro w hSw; go_simp; try with_reducible rfl)
        try simp only [Act.put, List.setIfInBounds_toArray, List.set_cons_zero, List.set_cons_succ]
        refine takeL 16 (v := ?_) rfl (by kernel_rfl) (by kernel_rfl) (by kernel_rfl) (fun _ _ _ h => h) (Or.inl ⟨by rfl, ?_⟩) hHeld ?_
        rotate_left 1
        · (intro w hSw; go_simp; try with_reducible rfl)
        try simp only [Act.put, List.setIfInBounds_toArray, List.set_cons_zero, List.set_cons_succ]
        refine takeL 18 (v := ?_) rfl (by kernel_rfl) (by kernel_rfl) (by kernel_rfl) (fun _ _ _ h => h) (Or.inl ⟨by rfl, ?_⟩) hHeld ?_
        rotate_left 1
        · (intro w hSw; go_simp; try with_reducible rfl)
        try simp only [Act.put, List.setIfInBounds_toArray, List.set_cons_zero, List.set_cons_succ]
        refine stepL 17 (by kernel_rfl) rfl (fun K hK => ?_)
        go_simp
        refine (HKb.out km X23 vy HLm.out Kvy.out).mono ?_
        rintro e X24 ⟨u4, rfl, ho, hb⟩
        show K _ _
        have Y24 := Bx.mk (Y23.out.later hb)
        have M_ := Bx.mk (M_.out.later hb)
        have Kk := Bx.mk (Kk.out.later hb)
        have Kvb := Bx.mk (Kvb.out.later hb)
        have Ks1 := Bx.mk (Ks1.out.later hb)
        have Ks2 := Bx.mk (Ks2.out.later hb)
        have Kvy := Bx.mk (Kvy.out.later hb)
        have Bu4 := Bx.mk ho.bytes
        clear hb Y23
        clear ho
        refine hK.out _ _ (True.intro) (fun hHeld => ?_)
        clear hK K
        try simp only [Act.put, List.setIfInBounds_toArray, List.set_cons_zero, List.set_cons_succ]
        refine stepL 19 (by kernel_rfl) rfl (fun K hK => ?_)
        go_simp
        refine (HSame.out km X24 _ _ HLm.out Bu4.out (row_bytes (Y24.out.rows _ (.head _)) HLm.out)).mono ?_
        rintro e X25 ⟨rfl, hdd⟩
        show K _ _
        obtain ⟨nd, hnd⟩ := hdd
        have hb : Below X24.heap.size X24 X25 := by rw [hnd]; exact drewN_below _ _
        clear hnd
        have Y25 := Bx.mk (Y24.out.later hb)
        have M_ := Bx.mk (M_.out.later hb)
        have Kk := Bx.mk (Kk.out.later hb)
        have Kvb := Bx.mk (Kvb.out.later hb)
        have Ks1 := Bx.mk (Ks1.out.later hb)
        have Ks2 := Bx.mk (Ks2.out.later hb)
        have Kvy := Bx.mk (Kvy.out.later hb)
        clear hb Y24
        refine hK.out _ _ True.intro (fun hHeld => ?_)
        clear hK K
        try simp only [Act.put, List.setIfInBounds_toArray, List.set_cons_zero, List.set_cons_succ]
        refine takeL 20 (v := ?_) rfl (by kernel_rfl) (by kernel_rfl) (by kernel_rfl) (fun _ _ _ h => h) (Or.inl ⟨by rfl, ?_⟩) hHeld ?_
        rotate_left 1
        · (intro w hSw; go_simp; try with_reducible rfl)
        try simp only [Act.put, List.setIfInBounds_toArray, List.set_cons_zero, List.set_cons_succ]
        refine takeL 21 (v := ?_) rfl (by kernel_rfl) (by kernel_rfl) (by kernel_rfl) (fun _ _ _ h => h) (Or.inl ⟨by rfl, ?_⟩) hHeld ?_
        rotate_left 1
        · (intro w hSw; go_simp; try with_reducible rfl)
        try simp only [Act.put, List.setIfInBounds_toArray, List.set_cons_zero, List.set_cons_succ]
        refine wpAnyH_done (by kernel_rfl) ?_ _
        refine NoPanic.normal ?_
        clear hHeld
        go_wp2
        go_ret
        exact ⟨rfl, Y25.out.below⟩
      · go_simp
        show K _ _
        obtain ⟨J, hJ⟩ : ∃ J, X16.heap.size = J := ⟨_, rfl⟩
        have LJ : Bx (E < J ∧ D < J ∧ B < J) := Bx.mk (by rw [← hJ]; exact ⟨Y16.out.lt (.head _), Y16.out.lt (.tail _ (.head _)), Y16.out.lt (.tail _ (.tail _ (.head _)))⟩)
        have LB : Bx (B ≤ J) := Bx.mk (by rw [← hJ]; exact Y16.out.le)
        have YJ := Bx.mk (show Below X16.heap.size X16 (X16.alloc (.cells z1 40)) from below_a _)
        rw [hJ] at YJ
        have HJ := Bx.mk hJ
        have Y17 := Bx.mk (Y16.out.new (.cells z1 40))
        rw [hJ] at Y17 ⊢
        clear Y16 hJ
        generalize X16.alloc (.cells z1 40) = X17 at *
        refine hK.out _ _ (row_rng (Y17.out.rows _ (.tail _ (.tail _ (.head _))))) (fun hHeld => ?_)
        clear hK K
        try simp only [Act.put, List.setIfInBounds_toArray, List.set_cons_zero, List.set_cons_succ]
        refine stepL 3 (by kernel_rfl) rfl (fun K hK => ?_)
        go_simp
        refine (HRs.out X17 _ (row_bytes (Y17.out.rows _ (.tail _ (.head _))) HLs.out)).mono ?_
        rintro e X18 ⟨rfl, hb⟩
        show K _ _
        have YJ := Bx.mk (YJ.out.trans (hb.mono (by rw [← HJ.out]; exact (show X16.heap.size ≤ X17.heap.size from by have := YJ.out.size; omega))))
        have Y18 := Bx.mk (Y17.out.later hb)
        clear hb Y17
        refine hK.out _ _ (row_rng (Y18.out.rows _ (.tail _ (.tail _ (.head _))))) (fun hHeld => ?_)
        clear hK K
        try simp only [Act.put, List.setIfInBounds_toArray, List.set_cons_zero, List.set_cons_succ]
        refine stepL 5 (by kernel_rfl) rfl (fun K hK => ?_)
        refine step_st rfl 40 _ _ rfl J (u8s km) (by rfl) (by rfl) (there_row (Y18.out.rows _ (.head _)) 0 _ (by rw [(HA.out km HLm.out).2]; omega)) (HA.out km HLm.out).1 (one_u8s _) ?_
        have hr2 := heap_setCells_all (ds := u8s km) (Y18.out.rows _ (.head _)) (HA.out km HLm.out).2
        have hg2 := kb_setCells (b := J) (u8s km).toList 0 X18
        have Y19 := Bx.mk (Y18.out.set hg2 hr2 LB.out (by intro y hy; have h := LJ.out; simp at hy; rcases hy with rfl | rfl | rfl <;> (simp only; omega)))
        have hb : Below X16.heap.size X16 (X18.setCells J 0 (u8s km).toList) := by
          have h := YJ.out.trans (grown_below hg2 (Nat.le_refl J) (by have := YJ.out.size; rw [HJ.out] at this; exact this))
          rw [HJ.out]
          exact h
        have M_ := Bx.mk (M_.out.later hb)
        have Kk := Bx.mk (Kk.out.later hb)
        have Kvb := Bx.mk (Kvb.out.later hb)
        have Ks1 := Bx.mk (Ks1.out.later hb)
        have Ks2 := Bx.mk (Ks2.out.later hb)
        have Kvy := Bx.mk (Kvy.out.later hb)
        clear hb hr2 hg2 Y18 YJ
        generalize X18.setCells J 0 (u8s km).toList = X19 at *
        refine hK.out _ _ (row_rng (Y19.out.rows _ (.tail _ (.tail _ (.head _))))) (fun hHeld => ?_)
        clear hK K
        try simp only [Act.put]
        refine wpAnyH_done (by kernel_rfl) ?_ _
        refine NoPanic.normal ?_
        clear hHeld
        go_upto_region 28 with fail
        have hb : Below X19.heap.size X19 X19.drew := (Below.refl _ _).drew
        have Y20 := Bx.mk (Y19.out.later hb)
        have M_ := Bx.mk (M_.out.later hb)
        have Kk := Bx.mk (Kk.out.later hb)
        have Kvb := Bx.mk (Kvb.out.later hb)
        have Ks1 := Bx.mk (Ks1.out.later hb)
        have Ks2 := Bx.mk (Ks2.out.later hb)
        have Kvy := Bx.mk (Kvy.out.later hb)
        clear hb Y19
        refine wp_region_noPanic ?_
        refine wp_region_held_drew (S := fun _ => True) (by kernel_rfl) (True.intro) (fun hHeld => ?_)
        generalize X19.drew = X20 at *
        refine stepL 0 (by kernel_rfl) rfl (fun K hK => ?_)
        go_simp
        refine (known7_any X20 (HT.out X20 Y20.out.below).1 (HT.out X20 Y20.out.below).2).mono ?_
        rintro e X21 ⟨rfl, hb⟩
        show K _ _
        have Y21 := Bx.mk (Y20.out.later hb)
        have M_ := Bx.mk (M_.out.later hb)
        have Kk := Bx.mk (Kk.out.later hb)
        have Kvb := Bx.mk (Kvb.out.later hb)
        have Ks1 := Bx.mk (Ks1.out.later hb)
        have Ks2 := Bx.mk (Ks2.out.later hb)
        have Kvy := Bx.mk (Kvy.out.later hb)
        clear hb Y20
        refine hK.out _ _ (True.intro) (fun hHeld => ?_)
        clear hK K
        try simp only [Act.put, List.setIfInBounds_toArray, List.set_cons_zero, List.set_cons_succ]
        refine takeL 1 (v := ?_) rfl (by kernel_rfl) (by kernel_rfl) (by kernel_rfl) (fun _ _ _ h => h) (Or.inl ⟨by rfl, ?_⟩) hHeld ?_
        rotate_left 1
        · (intro w hSw; go_simp; try with_reducible rfl)
        try simp only [Act.put, List.setIfInBounds_toArray, List.set_cons_zero, List.set_cons_succ]
        refine takeL 2 (v := ?_) rfl (by kernel_rfl) (by kernel_rfl) (by kernel_rfl) (fun _ _ _ h => h) (Or.inl ⟨by rfl, ?_⟩) hHeld ?_
        rotate_left 1
        · (intro w hSw; go_simp; try with_reducible rfl)
        try simp only [Act.put, List.setIfInBounds_toArray, List.set_cons_zero, List.set_cons_succ]
        refine takeL 3 (v := ?_) rfl (by kernel_rfl) (by kernel_rfl) (by kernel_rfl) (fun _ _ _ h => h) (Or.inl ⟨by rfl, ?_⟩) hHeld ?_
        rotate_left 1
        · (intro w hSw; go_simp; try with_reducible rfl)
        try simp only [Act.put, List.setIfInBounds_toArray, List.set_cons_zero, List.set_cons_succ]
        refine takeL 4 (v := ?_) rfl (by kernel_rfl) (by kernel_rfl) (by kernel_rfl) (fun _ _ _ h => h) (Or.inl ⟨by rfl, ?_⟩) hHeld ?_
        rotate_left 1
        · (intro w hSw; go_simp; try with_reducible rfl)
        try simp only [Act.put, List.setIfInBounds_toArray, List.set_cons_zero, List.set_cons_succ]
        refine takeL 5 (v := ?_) rfl (by kernel_rfl) (by kernel_rfl) (by kernel_rfl) (fun _ _ _ h => h) (Or.inl ⟨by rfl, ?_⟩) hHeld ?_
        rotate_left 1
        · (intro w hSw; go_simp; try with_reducible rfl)
        try simp only [Act.put, List.setIfInBounds_toArray, List.set_cons_zero, List.set_cons_succ]
        refine takeL 6 (v := ?_) rfl (by kernel_rfl) (by kernel_rfl) (by kernel_rfl) (fun _ _ _ h => h) (Or.inl ⟨by rfl, ?_⟩) hHeld ?_
        rotate_left 1
        · (intro w hSw; go_simp; try with_reducible rfl)
        try simp only [Act.put, List.setIfInBounds_toArray, List.set_cons_zero, List.set_cons_succ]
        refine takeL 7 (v := ?_) rfl (by kernel_rfl) (by kernel_rfl) (by kernel_rfl) (fun _ _ _ h => h) (Or.inl ⟨by rfl, ?_⟩) hHeld ?_
        rotate_left 1
        · (intro w hSw; go_simp; try with_reducible rfl)
        try simp only [Act.put, List.setIfInBounds_toArray, List.set_cons_zero, List.set_cons_succ]
        refine takeL 8 (v := ?_) rfl (by kernel_rfl) (by kernel_rfl) (by kernel_rfl) (fun _ _ _ h => h) (Or.inl ⟨by rfl, ?_⟩) hHeld ?_
        rotate_left 1
        · (intro w hSw; go_simp; try with_reducible rfl)
        try simp only [Act.put, List.setIfInBounds_toArray, List.set_cons_zero, List.set_cons_succ]
        refine takeL 9 (v := ?_) rfl (by kernel_rfl) (by kernel_rfl) (by kernel_rfl) (fun _ _ _ h => h) (Or.inl ⟨by rfl, ?_⟩) hHeld ?_
        rotate_left 1
        · (intro w hSw; go_simp; try with_reducible rfl)
        try simp only [Act.put, List.setIfInBounds_toArray, List.set_cons_zero, List.set_cons_succ]
        refine takeL 10 (v := ?_) rfl (by kernel_rfl) (by kernel_rfl) (by kernel_rfl) (fun _ _ _ h => h) (Or.inl ⟨by rfl, ?_⟩) hHeld ?_
        rotate_left 1
        · (intro w hSw; go_simp; try with_reducible rfl)
        try simp only [Act.put, List.setIfInBounds_toArray, List.set_cons_zero, List.set_cons_succ]
        refine takeL 12 (v := ?_) rfl (by kernel_rfl) (by kernel_rfl) (by kernel_rfl) (fun _ _ _ h => h) (Or.inl ⟨by rfl, ?_⟩) hHeld ?_
        rotate_left 1
        · (intro w hSw; go_simp; try with_reducible rfl)
        try simp only [Act.put, List.setIfInBounds_toArray, List.set_cons_zero, List.set_cons_succ]
        refine stepL 11 (by kernel_rfl) rfl (fun K hK => ?_)
        go_simp
        refine (HKb.out km X21 vb HLm.out Kvb.out).mono ?_
        rintro e X22 ⟨u3, rfl, ho, hb⟩
        show K _ _
        have Y22 := Bx.mk (Y21.out.later hb)
        have M_ := Bx.mk (M_.out.later hb)
        have Kk := Bx.mk (Kk.out.later hb)
        have Kvb := Bx.mk (Kvb.out.later hb)
        have Ks1 := Bx.mk (Ks1.out.later hb)
        have Ks2 := Bx.mk (Ks2.out.later hb)
        have Kvy := Bx.mk (Kvy.out.later hb)
        have Bu3 := Bx.mk ho.bytes
        clear hb Y21
        clear ho
        refine hK.out _ _ (True.intro) (fun hHeld => ?_)
        clear hK K
        try simp only [Act.put, List.setIfInBounds_toArray, List.set_cons_zero, List.set_cons_succ]
        refine stepL 13 (by kernel_rfl) rfl (fun K hK => ?_)
        go_simp
        refine (HSame.out km X22 _ _ HLm.out Bu3.out (row_bytes (Y22.out.rows _ (.head _)) HLm.out)).mono ?_
        rintro e X23 ⟨rfl, hdd⟩
        show K _ _
        obtain ⟨nd, hnd⟩ := hdd
        have hb : Below X22.heap.size X22 X23 := by rw [hnd]; exact drewN_below _ _
        clear hnd
        have Y23 := Bx.mk (Y22.out.later hb)
        have M_ := Bx.mk (M_.out.later hb)
        have Kk := Bx.mk (Kk.out.later hb)
        have Kvb := Bx.mk (Kvb.out.later hb)
        have Ks1 := Bx.mk (Ks1.out.later hb)
        have Ks2 := Bx.mk (Ks2.out.later hb)
        have Kvy := Bx.mk (Kvy.out.later hb)
        clear hb Y22
        refine hK.out _ _ True.intro (fun hHeld => ?_)
        clear hK K
        try simp only [Act.put, List.setIfInBounds_toArray, List.set_cons_zero, List.set_cons_succ]
        refine takeL 14 (v := ?_) rfl (by kernel_rfl) (by kernel_rfl) (by kernel_rfl) (fun _ _ _ h => h) (Or.inl ⟨by rfl, ?_⟩) hHeld ?_
        rotate_left 1
        · (intro w hSw; go_simp; try with_reducible rfl)
        try simp only [Act.put, List.setIfInBounds_toArray, List.set_cons_zero, List.set_cons_succ]
        refine takeL 15 (v := ?_) rfl (by kernel_rfl) (by kernel_rfl) (by kernel_rfl) (fun _ _ _ h => h) (Or.inl ⟨by rfl, ?_⟩) hHeld ?_
        rotate_left 1
        · (intro w hSw; go_simp; try with_reducible rfl)
        try simp only [Act.put, List.setIfInBounds_toArray, List.set_cons_zero, List.set_cons_succ]
        refine takeL 16 (v := ?_) rfl (by kernel_rfl) (by kernel_rfl) (by kernel_rfl) (fun _ _ _ h => h) (Or.inl ⟨by rfl, ?_⟩) hHeld ?_
        rotate_left 1
        · (intro w hSw; go_simp; try with_reducible rfl)
        try simp only [Act.put, List.setIfInBounds_toArray, List.set_cons_zero, List.set_cons_succ]
        refine takeL 18 (v := ?_) rfl (by kernel_rfl) (by kernel_rfl) (by kernel_rfl) (fun _ _ _ h => h) (Or.inl ⟨by rfl, ?_⟩) hHeld ?_
        rotate_left 1
        · (intro w hSw; go_simp; try with_reducible rfl)
        try simp only [Act.put, List.setIfInBounds_toArray, List.set_cons_zero, List.set_cons_succ]
        refine stepL 17 (by kernel_rfl) rfl (fun K hK => ?_)
        go_simp
        refine (HKb.out km X23 vy HLm.out Kvy.out).mono ?_
        rintro e X24 ⟨u4, rfl, ho, hb⟩
        show K _ _
        have Y24 := Bx.mk (Y23.out.later hb)
        have M_ := Bx.mk (M_.out.later hb)
        have Kk := Bx.mk (Kk.out.later hb)
        have Kvb := Bx.mk (Kvb.out.later hb)
        have Ks1 := Bx.mk (Ks1.out.later hb)
        have Ks2 := Bx.mk (Ks2.out.later hb)
        have Kvy := Bx.mk (Kvy.out.later hb)
        have Bu4 := Bx.mk ho.bytes
        clear hb Y23
        clear ho
        refine hK.out _ _ (True.intro) (fun hHeld => ?_)
        clear hK K
        try simp only [Act.put, List.setIfInBounds_toArray, List.set_cons_zero, List.set_cons_succ]
        refine stepL 19 (by kernel_rfl) rfl (fun K hK => ?_)
        go_simp
        refine (HSame.out km X24 _ _ HLm.out Bu4.out (row_bytes (Y24.out.rows _ (.head _)) HLm.out)).mono ?_
        rintro e X25 ⟨rfl, hdd⟩
        show K _ _
        obtain ⟨nd, hnd⟩ := hdd
        have hb : Below X24.heap.size X24 X25 := by rw [hnd]; exact drewN_below _ _
        clear hnd
        have Y25 := Bx.mk (Y24.out.later hb)
        have M_ := Bx.mk (M_.out.later hb)
        have Kk := Bx.mk (Kk.out.later hb)
        have Kvb := Bx.mk (Kvb.out.later hb)
        have Ks1 := Bx.mk (Ks1.out.later hb)
        have Ks2 := Bx.mk (Ks2.out.later hb)
        have Kvy := Bx.mk (Kvy.out.later hb)
        clear hb Y24
        refine hK.out _ _ True.intro (fun hHeld => ?_)
        clear hK K
        try simp only [Act.put, List.setIfInBounds_toArray, List.set_cons_zero, List.set_cons_succ]
        refine takeL 20 (v := ?_) rfl (by kernel_rfl) (by kernel_rfl) (by kernel_rfl) (fun _ _ _ h => h) (Or.inl ⟨by rfl, ?_⟩) hHeld ?_
        rotate_left 1
        · (intro w hSw; go_simp; try with_reducible rfl)
        try simp only [Act.put, List.setIfInBounds_toArray, List.set_cons_zero, List.set_cons_succ]
        refine takeL 21 (v := ?_) rfl (by kernel_rfl) (by kernel_rfl) (by kernel_rfl) (fun _ _ _ h => h) (Or.inl ⟨by rfl, ?_⟩) hHeld ?_
        rotate_left 1
        · (intro w hSw; go_simp; try with_reducible rfl)
        try simp only [Act.put, List.setIfInBounds_toArray, List.set_cons_zero, List.set_cons_succ]
        refine wpAnyH_done (by kernel_rfl) ?_ _
        refine NoPanic.normal ?_
        clear hHeld
        go_wp2
        go_ret
        exact ⟨rfl, Y25.out.below⟩
  · have gr' := Bx.mk gr
    have grn : ¬ nr < 8 := by omega
    obtain ⟨k0, k1, k2, k3⟩ := cells4 (Y8.out.rows _ (.tail _ (.head _)))
    go_wp2_with fail
    clear k0 k1 k2 k3
    refine (HRi.out X8).mono ?_
    rintro e X9 ⟨rfl, hb⟩
    have Y9 := Bx.mk (Y8.out.later hb)
    have M_ := Bx.mk (M_.out.later hb)
    have Kk := Bx.mk (Kk.out.later hb)
    have Kvb := Bx.mk (Kvb.out.later hb)
    clear hb Y8
    obtain ⟨k0, k1, k2, k3⟩ := cells4 (Y9.out.rows _ (.tail _ (.head _)))
    go_wp2_with (refine wpList_load_mid rfl 32 _ rfl D 0 (by rfl) tbl _ (row_rng (Y9.out.rows _ (.head _))) Tryd.underlying32 rfl HTI.out.2.2.2 ?_)
    clear k0 k1 k2 k3
    refine (HSec.out X9 _ M_.out).mono ?_
    rintro e X10 ⟨rfl, hb⟩
    have Y10 := Bx.mk (Y9.out.later hb)
    have M_ := Bx.mk (M_.out.later hb)
    have Kk := Bx.mk (Kk.out.later hb)
    have Kvb := Bx.mk (Kvb.out.later hb)
    clear hb Y9
    obtain ⟨E, hE⟩ : ∃ E, X10.heap.size = E := ⟨_, rfl⟩
    have LE : Bx (D < E ∧ B < E) := Bx.mk (by rw [← hE]; exact ⟨Y10.out.lt (.head _), Y10.out.lt (.tail _ (.head _))⟩)
    have QE := Bx.mk (Y10.out.new (.cells z1 40))
    rw [hE] at QE
    go_upto_region 17 with (first | (refine wpList_load_mid rfl 32 _ rfl D 0 (by rfl) tbl _ (row_rng (Y10.out.rows _ (.head _))) Tryd.underlying32 rfl HTI.out.2.2.2 ?_) | (refine wpList_store_new rfl 40 _ _ rfl E (u8s sk) z1 _ (by rfl) (by rfl) (QE.out.rows _ (.head _)) (HA.out sk HLs.out).2 (HA.out sk HLs.out).1 (one_u8s _) ?_; intro X11 hw8 hr8; have hg8 := Bx.mk (kb_of hw8); have HR8 := Bx.mk hr8; clear hw8 hr8))
    have Y11 := Bx.mk (QE.out.set hg8.out HR8.out (by have h := LE.out; have := Y10.out.le; omega) (by intro y hy; have h := LE.out; simp at hy; rcases hy with rfl | rfl <;> (simp only; omega)))
    have hb := below_of hE hg8.out
    have M_ := Bx.mk (M_.out.later hb)
    have Kk := Bx.mk (Kk.out.later hb)
    have Kvb := Bx.mk (Kvb.out.later hb)
    clear hb QE hg8 HR8 Y10 hE
    go_wp2_with fail
    refine (HNs.out X11 _ (row_bytes (Y11.out.rows _ (.head _)) HLs.out)).mono ?_
    rintro e X12 ⟨vs1, rfl, hk, hb⟩
    have Y12 := Bx.mk (Y11.out.later hb)
    have M_ := Bx.mk (M_.out.later hb)
    have Kk := Bx.mk (Kk.out.later hb)
    have Kvb := Bx.mk (Kvb.out.later hb)
    have Ks1 := Bx.mk hk.key
    clear hb Y11
    clear hk
    go_wp2_with fail
    refine (HSe.out X12 vs1 Y12.out.below Ks1.out).mono ?_
    rintro e X13 ⟨rfl, hb⟩
    have Y13 := Bx.mk (Y12.out.later hb)
    have M_ := Bx.mk (M_.out.later hb)
    have Kk := Bx.mk (Kk.out.later hb)
    have Kvb := Bx.mk (Kvb.out.later hb)
    have Ks1 := Bx.mk (Ks1.out.later hb)
    clear hb Y12
    go_wp2_with fail
    refine (HNs.out X13 _ (row_bytes (Y13.out.rows _ (.head _)) HLs.out)).mono ?_
    rintro e X14 ⟨vs2, rfl, hk, hb⟩
    have Y14 := Bx.mk (Y13.out.later hb)
    have M_ := Bx.mk (M_.out.later hb)
    have Kk := Bx.mk (Kk.out.later hb)
    have Kvb := Bx.mk (Kvb.out.later hb)
    have Ks1 := Bx.mk (Ks1.out.later hb)
    have Ks2 := Bx.mk hk.key
    clear hb Y13
    clear hk
    go_wp2_with fail
    refine (HSd.out X14 vs2 Y14.out.below Ks2.out).mono ?_
    rintro e X15 ⟨vy, rfl, hk, hb⟩
    have Y15 := Bx.mk (Y14.out.later hb)
    have M_ := Bx.mk (M_.out.later hb)
    have Kk := Bx.mk (Kk.out.later hb)
    have Kvb := Bx.mk (Kvb.out.later hb)
    have Ks1 := Bx.mk (Ks1.out.later hb)
    have Ks2 := Bx.mk (Ks2.out.later hb)
    have Kvy := Bx.mk hk.key
    clear hb Y14
    clear hk
    have HVB1 := HVB.out
    rcases HVB1 with gv | gv
    · have gv' := Bx.mk gv
      go_upto_region 27 with fail
      have hb : Below X15.heap.size X15 X15.drew := (Below.refl _ _).drew
      have Y16 := Bx.mk (Y15.out.later hb)
      have M_ := Bx.mk (M_.out.later hb)
      have Kk := Bx.mk (Kk.out.later hb)
      have Kvb := Bx.mk (Kvb.out.later hb)
      have Ks1 := Bx.mk (Ks1.out.later hb)
      have Ks2 := Bx.mk (Ks2.out.later hb)
      have Kvy := Bx.mk (Kvy.out.later hb)
      clear hb Y15
      refine wp_region_noPanic ?_
      refine wp_region_held_drew (S := fun W => W.rangeAt D 0 tbl) (by kernel_rfl) (row_rng (Y16.out.rows _ (.tail _ (.head _)))) (fun hHeld => ?_)
      generalize X15.drew = X16 at *
      refine takeL 0 rfl (by kernel_rfl) (by kernel_rfl) (by kernel_rfl) (fun _ _ _ h => h) (yieldsIf_load_mid (by rfl) _ _ rfl _ _ rfl _ _ (fun w hSw => hSw) Tryd.underlying32 rfl HTI.out.2.2.2) hHeld ?_
      try simp only [Act.put, List.setIfInBounds_toArray, List.set_cons_zero, List.set_cons_succ]
      refine takeL 1 (v := ?_) rfl (by kernel_rfl) (by kernel_rfl) (by kernel_rfl) (fun _ _ _ h => h) (Or.inl ⟨by rfl, ?_⟩) hHeld ?_
      rotate_left 1
      · (intro w hSw; go_simp; try with_reducible rfl)
      try simp only [Act.put, List.setIfInBounds_toArray, List.set_cons_zero, List.set_cons_succ]
      refine takeL 2 (v := ?_) rfl (by kernel_rfl) (by kernel_rfl) (by kernel_rfl) (fun _ _ _ h => h) (Or.inl ⟨by rfl, ?_⟩) hHeld ?_
      rotate_left 1
      · (intro w hSw; go_simp; try with_reducible rfl)
      try simp only [Act.put, List.setIfInBounds_toArray, List.set_cons_zero, List.set_cons_succ]
      refine wpAnyH_ready (rs := [3, 4]) (by kernel_rfl) (by simp) ?_
      refine consM 3 rfl (fun K hK => ?_) (consM 4 rfl (fun K hK => ?_) AllReadyH.nil)
      · go_simp
        refine (HRs.out X16 _ (row_bytes (Y16.out.rows _ (.head _)) HLs.out)).mono ?_
        rintro e X17 ⟨rfl, hb⟩
        show K _ _
        have Y17 := Bx.mk (Y16.out.later hb)
        have M_ := Bx.mk (M_.out.later hb)
        have Kk := Bx.mk (Kk.out.later hb)
        have Kvb := Bx.mk (Kvb.out.later hb)
        have Ks1 := Bx.mk (Ks1.out.later hb)
        have Ks2 := Bx.mk (Ks2.out.later hb)
        have Kvy := Bx.mk (Kvy.out.later hb)
        clear hb Y16
        refine hK.out _ _ (row_rng (Y17.out.rows _ (.tail _ (.head _)))) (fun hHeld => ?_)
        clear hK K
        try simp only [Act.put, List.setIfInBounds_toArray, List.set_cons_zero, List.set_cons_succ]
        refine stepL 4 (by kernel_rfl) rfl (fun K hK => ?_)
        go_simp
        show K _ _
        obtain ⟨J, hJ⟩ : ∃ J, X17.heap.size = J := ⟨_, rfl⟩
        have LJ : Bx (E < J ∧ D < J ∧ B < J) := Bx.mk (by rw [← hJ]; exact ⟨Y17.out.lt (.head _), Y17.out.lt (.tail _ (.head _)), Y17.out.lt (.tail _ (.tail _ (.head _)))⟩)
        have LB : Bx (B ≤ J) := Bx.mk (by rw [← hJ]; exact Y17.out.le)
        have YJ := Bx.mk (show Below X17.heap.size X17 (X17.alloc (.cells z1 40)) from below_a _)
        rw [hJ] at YJ
        have HJ := Bx.mk hJ
        have Y18 := Bx.mk (Y17.out.new (.cells z1 40))
        rw [hJ] at Y18 ⊢
        clear Y17 hJ
        generalize X17.alloc (.cells z1 40) = X18 at *
        refine hK.out _ _ (row_rng (Y18.out.rows _ (.tail _ (.tail _ (.head _))))) (fun hHeld => ?_)
        clear hK K
        try simp only [Act.put, List.setIfInBounds_toArray, List.set_cons_zero, List.set_cons_succ]
        refine stepL 5 (by kernel_rfl) rfl (fun K hK => ?_)
        refine step_st rfl 40 _ _ rfl J (u8s km) (by rfl) (by rfl) (there_row (Y18.out.rows _ (.head _)) 0 _ (by rw [(HA.out km HLm.out).2]; omega)) (HA.out km HLm.out).1 (one_u8s _) ?_
        have hr2 := heap_setCells_all (ds := u8s km) (Y18.out.rows _ (.head _)) (HA.out km HLm.out).2
        have hg2 := kb_setCells (b := J) (u8s km).toList 0 X18
        have Y19 := Bx.mk (Y18.out.set hg2 hr2 LB.out (by intro y hy; have h := LJ.out; simp at hy; rcases hy with rfl | rfl | rfl <;> (simp only; omega)))
        have hb : Below X17.heap.size X17 (X18.setCells J 0 (u8s km).toList) := by
          have h := YJ.out.trans (grown_below hg2 (Nat.le_refl J) (by have := YJ.out.size; rw [HJ.out] at this; exact this))
          rw [HJ.out]
          exact h
        have M_ := Bx.mk (M_.out.later hb)
        have Kk := Bx.mk (Kk.out.later hb)
        have Kvb := Bx.mk (Kvb.out.later hb)
        have Ks1 := Bx.mk (Ks1.out.later hb)
        have Ks2 := Bx.mk (Ks2.out.later hb)
        have Kvy := Bx.mk (Kvy.out.later hb)
        clear hb hr2 hg2 Y18 YJ
        generalize X18.setCells J 0 (u8s km).toList = X19 at *
        refine hK.out _ _ (row_rng (Y19.out.rows _ (.tail _ (.tail _ (.head _))))) (fun hHeld => ?_)
        clear hK K
        try simp only [Act.put]
        refine wpAnyH_done (by kernel_rfl) ?_ _
        refine NoPanic.normal ?_
        clear hHeld
        go_upto_region 28 with fail
        have hb : Below X19.heap.size X19 X19.drew := (Below.refl _ _).drew
        have Y20 := Bx.mk (Y19.out.later hb)
        have M_ := Bx.mk (M_.out.later hb)
        have Kk := Bx.mk (Kk.out.later hb)
        have Kvb := Bx.mk (Kvb.out.later hb)
        have Ks1 := Bx.mk (Ks1.out.later hb)
        have Ks2 := Bx.mk (Ks2.out.later hb)
        have Kvy := Bx.mk (Kvy.out.later hb)
        clear hb Y19
        refine wp_region_noPanic ?_
        refine wp_region_held_drew (S := fun _ => True) (by kernel_rfl) (True.intro) (fun hHeld => ?_)
        generalize X19.drew = X20 at *
        refine stepL 0 (by kernel_rfl) rfl (fun K hK => ?_)
        go_simp
        refine (known7_any X20 (HT.out X20 Y20.out.below).1 (HT.out X20 Y20.out.below).2).mono ?_
        rintro e X21 ⟨rfl, hb⟩
        show K _ _
        have Y21 := Bx.mk (Y20.out.later hb)
        have M_ := Bx.mk (M_.out.later hb)
        have Kk := Bx.mk (Kk.out.later hb)
        have Kvb := Bx.mk (Kvb.out.later hb)
        have Ks1 := Bx.mk (Ks1.out.later hb)
        have Ks2 := Bx.mk (Ks2.out.later hb)
        have Kvy := Bx.mk (Kvy.out.later hb)
        clear hb Y20
        refine hK.out _ _ (True.intro) (fun hHeld => ?_)
        clear hK K
        try simp only [Act.put, List.setIfInBounds_toArray, List.set_cons_zero, List.set_cons_succ]
        refine takeL 1 (v := ?_) rfl (by kernel_rfl) (by kernel_rfl) (by kernel_rfl) (fun _ _ _ h => h) (Or.inl ⟨by rfl, ?_⟩) hHeld ?_
        rotate_left 1
        · (intro w hSw; go_simp; try with_reducible rfl)
        try simp only [Act.put, List.setIfInBounds_toArray, List.set_cons_zero, List.set_cons_succ]
        refine takeL 2 (v := ?_) rfl (by kernel_rfl) (by kernel_rfl) (by kernel_rfl) (fun _ _ _ h => h) (Or.inl ⟨by rfl, ?_⟩) hHeld ?_
        rotate_left 1
        · (intro w hSw; go_simp; try with_reducible rfl)
        try simp only [Act.put, List.setIfInBounds_toArray, List.set_cons_zero, List.set_cons_succ]
        refine takeL 3 (v := ?_) rfl (by kernel_rfl) (by kernel_rfl) (by kernel_rfl) (fun _ _ _ h => h) (Or.inl ⟨by rfl, ?_⟩) hHeld ?_
        rotate_left 1
        · (intro w hSw; go_simp; try with_reducible rfl)
        try simp only [Act.put, List.setIfInBounds_toArray, List.set_cons_zero, List.set_cons_succ]
        refine takeL 4 (v := ?_) rfl (by kernel_rfl) (by kernel_rfl) (by kernel_rfl) (fun _ _ _ h => h) (Or.inl ⟨by rfl, ?_⟩) hHeld ?_
        rotate_left 1
        · (intro w hSw; go_simp; try with_reducible rfl)
        try simp only [Act.put, List.setIfInBounds_toArray, List.set_cons_zero, List.set_cons_succ]
        refine takeL 5 (v := ?_) rfl (by kernel_rfl) (by kernel_rfl) (by kernel_rfl) (fun _ _ _ h => h) (Or.inl ⟨by rfl, ?_⟩) hHeld ?_
        rotate_left 1
        · (intro w hSw; go_simp; try with_reducible rfl)
        try simp only [Act.put, List.setIfInBounds_toArray, List.set_cons_zero, List.set_cons_succ]
        refine takeL 6 (v := ?_) rfl (by kernel_rfl) (by kernel_rfl) (by kernel_rfl) (fun _ _ _ h => h) (Or.inl ⟨by rfl, ?_⟩) hHeld ?_
        rotate_left 1
        · (intro w hSw; go_simp; try with_reducible rfl)
        try simp only [Act.put, List.setIfInBounds_toArray, List.set_cons_zero, List.set_cons_succ]
        refine takeL 7 (v := ?_) rfl (by kernel_rfl) (by kernel_rfl) (by kernel_rfl) (fun _ _ _ h => h) (Or.inl ⟨by rfl, ?_⟩) hHeld ?_
        rotate_left 1
        · (intro w hSw; go_simp; try with_reducible rfl)
        try simp only [Act.put, List.setIfInBounds_toArray, List.set_cons_zero, List.set_cons_succ]
        refine takeL 8 (v := ?_) rfl (by kernel_rfl) (by kernel_rfl) (by kernel_rfl) (fun _ _ _ h => h) (Or.inl ⟨by rfl, ?_⟩) hHeld ?_
        rotate_left 1
        · (intro w hSw; go_simp; try with_reducible rfl)
        try simp only [Act.put, List.setIfInBounds_toArray, List.set_cons_zero, List.set_cons_succ]
        refine takeL 9 (v := ?_) rfl (by kernel_rfl) (by kernel_rfl) (by kernel_rfl) (fun _ _ _ h => h) (Or.inl ⟨by rfl, ?_⟩) hHeld ?_
        rotate_left 1
        · (intro w hSw; go_simp; try with_reducible rfl)
        try simp only [Act.put, List.setIfInBounds_toArray, List.set_cons_zero, List.set_cons_succ]
        refine takeL 10 (v := ?_) rfl (by kernel_rfl) (by kernel_rfl) (by kernel_rfl) (fun _ _ _ h => h) (Or.inl ⟨by rfl, ?_⟩) hHeld ?_
        rotate_left 1
        · (intro w hSw; go_simp; try with_reducible rfl)
        try simp only [Act.put, List.setIfInBounds_toArray, List.set_cons_zero, List.set_cons_succ]
        refine takeL 12 (v := ?_) rfl (by kernel_rfl) (by kernel_rfl) (by kernel_rfl) (fun _ _ _ h => h) (Or.inl ⟨by rfl, ?_⟩) hHeld ?_
        rotate_left 1
        · (intro w hSw; go_simp; try with_reducible rfl)
        try simp only [Act.put, List.setIfInBounds_toArray, List.set_cons_zero, List.set_cons_succ]
        refine stepL 11 (by kernel_rfl) rfl (fun K hK => ?_)
        go_simp
        refine (HKb.out km X21 vb HLm.out Kvb.out).mono ?_
        rintro e X22 ⟨u3, rfl, ho, hb⟩
        show K _ _
        have Y22 := Bx.mk (Y21.out.later hb)
        have M_ := Bx.mk (M_.out.later hb)
        have Kk := Bx.mk (Kk.out.later hb)
        have Kvb := Bx.mk (Kvb.out.later hb)
        have Ks1 := Bx.mk (Ks1.out.later hb)
        have Ks2 := Bx.mk (Ks2.out.later hb)
        have Kvy := Bx.mk (Kvy.out.later hb)
        have Bu3 := Bx.mk ho.bytes
        clear hb Y21
        clear ho
        refine hK.out _ _ (True.intro) (fun hHeld => ?_)
        clear hK K
        try simp only [Act.put, List.setIfInBounds_toArray, List.set_cons_zero, List.set_cons_succ]
        refine stepL 13 (by kernel_rfl) rfl (fun K hK => ?_)
        go_simp
        refine (HSame.out km X22 _ _ HLm.out Bu3.out (row_bytes (Y22.out.rows _ (.head _)) HLm.out)).mono ?_
        rintro e X23 ⟨rfl, hdd⟩
        show K _ _
        obtain ⟨nd, hnd⟩ := hdd
        have hb : Below X22.heap.size X22 X23 := by rw [hnd]; exact drewN_below _ _
        clear hnd
        have Y23 := Bx.mk (Y22.out.later hb)
        have M_ := Bx.mk (M_.out.later hb)
        have Kk := Bx.mk (Kk.out.later hb)
        have Kvb := Bx.mk (Kvb.out.later hb)
        have Ks1 := Bx.mk (Ks1.out.later hb)
        have Ks2 := Bx.mk (Ks2.out.later hb)
        have Kvy := Bx.mk (Kvy.out.later hb)
        clear hb Y22
        refine hK.out _ _ True.intro (fun hHeld => ?_)
        clear hK K
        try simp only [Act.put, List.setIfInBounds_toArray, List.set_cons_zero, List.set_cons_succ]
        refine takeL 14 (v := ?_) rfl (by kernel_rfl) (by kernel_rfl) (by kernel_rfl) (fun _ _ _ h => h) (Or.inl ⟨by rfl, ?_⟩) hHeld ?_
        rotate_left 1
        · (intro w hSw; go_simp; try with_reducible rfl)
        try simp only [Act.put, List.setIfInBounds_toArray, List.set_cons_zero, List.set_cons_succ]
        refine takeL 15 (v := ?_) rfl (by kernel_rfl) (by kernel_rfl) (by kernel_rfl) (fun _ _ _ h => h) (Or.inl ⟨by rfl, ?_⟩) hHeld ?_
        rotate_left 1
        · (intro w hSw; go_simp; try with_reducible rfl)
        try simp only [Act.put, List.setIfInBounds_toArray, List.set_cons_zero, List.set_cons_succ]
        refine takeL 16 (v := ?_) rfl (by kernel_rfl) (by kernel_rfl) (by kernel_rfl) (fun _ _ _ h => h) (Or.inl ⟨by rfl, ?_⟩) hHeld ?_
        rotate_left 1
        · (intro w hSw; go_simp; try with_reducible rfl)
        try simp only [Act.put, List.setIfInBounds_toArray, List.set_cons_zero, List.set_cons_succ]
        refine takeL 18 (v := ?_) rfl (by kernel_rfl) (by kernel_rfl) (by kernel_rfl) (fun _ _ _ h => h) (Or.inl ⟨by rfl, ?_⟩) hHeld ?_
        rotate_left 1
        · (intro w hSw; go_simp; try with_reducible rfl)
        try simp only [Act.put, List.setIfInBounds_toArray, List.set_cons_zero, List.set_cons_succ]
        refine stepL 17 (by kernel_rfl) rfl (fun K hK => ?_)
        go_simp
        refine (HKb.out km X23 vy HLm.out Kvy.out).mono ?_
        rintro e X24 ⟨u4, rfl, ho, hb⟩
        show K _ _
        have Y24 := Bx.mk (Y23.out.later hb)
        have M_ := Bx.mk (M_.out.later hb)
        have Kk := Bx.mk (Kk.out.later hb)
        have Kvb := Bx.mk (Kvb.out.later hb)
        have Ks1 := Bx.mk (Ks1.out.later hb)
        have Ks2 := Bx.mk (Ks2.out.later hb)
        have Kvy := Bx.mk (Kvy.out.later hb)
        have Bu4 := Bx.mk ho.bytes
        clear hb Y23
        clear ho
        refine hK.out _ _ (True.intro) (fun hHeld => ?_)
        clear hK K
        try simp only [Act.put, List.setIfInBounds_toArray, List.set_cons_zero, List.set_cons_succ]
        refine stepL 19 (by kernel_rfl) rfl (fun K hK => ?_)
        go_simp
        refine (HSame.out km X24 _ _ HLm.out Bu4.out (row_bytes (Y24.out.rows _ (.head _)) HLm.out)).mono ?_
        rintro e X25 ⟨rfl, hdd⟩
        show K _ _
        obtain ⟨nd, hnd⟩ := hdd
        have hb : Below X24.heap.size X24 X25 := by rw [hnd]; exact drewN_below _ _
        clear hnd
        have Y25 := Bx.mk (Y24.out.later hb)
        have M_ := Bx.mk (M_.out.later hb)
        have Kk := Bx.mk (Kk.out.later hb)
        have Kvb := Bx.mk (Kvb.out.later hb)
        have Ks1 := Bx.mk (Ks1.out.later hb)
        have Ks2 := Bx.mk (Ks2.out.later hb)
        have Kvy := Bx.mk (Kvy.out.later hb)
        clear hb Y24
        refine hK.out _ _ True.intro (fun hHeld => ?_)
        clear hK K
        try simp only [Act.put, List.setIfInBounds_toArray, List.set_cons_zero, List.set_cons_succ]
        refine takeL 20 (v := ?_) rfl (by kernel_rfl) (by kernel_rfl) (by kernel_rfl) (fun _ _ _ h => h) (Or.inl ⟨by rfl, ?_⟩) hHeld ?_
        rotate_left 1
        · (intro w hSw; go_simp; try with_reducible rfl)
        try simp only [Act.put, List.setIfInBounds_toArray, List.set_cons_zero, List.set_cons_succ]
        refine takeL 21 (v := ?_) rfl (by kernel_rfl) (by kernel_rfl) (by kernel_rfl) (fun _ _ _ h => h) (Or.inl ⟨by rfl, ?_⟩) hHeld ?_
        rotate_left 1
        · (intro w hSw; go_simp; try with_reducible rfl)
        try simp only [Act.put, List.setIfInBounds_toArray, List.set_cons_zero, List.set_cons_succ]
        refine wpAnyH_done (by kernel_rfl) ?_ _
        refine NoPanic.normal ?_
        clear hHeld
        go_wp2
        go_ret
        exact ⟨rfl, Y25.out.below⟩
      · go_simp
        show K _ _
        obtain ⟨J, hJ⟩ : ∃ J, X16.heap.size = J := ⟨_, rfl⟩
        have LJ : Bx (E < J ∧ D < J ∧ B < J) := Bx.mk (by rw [← hJ]; exact ⟨Y16.out.lt (.head _), Y16.out.lt (.tail _ (.head _)), Y16.out.lt (.tail _ (.tail _ (.head _)))⟩)
        have LB : Bx (B ≤ J) := Bx.mk (by rw [← hJ]; exact Y16.out.le)
        have YJ := Bx.mk (show Below X16.heap.size X16 (X16.alloc (.cells z1 40)) from below_a _)
        rw [hJ] at YJ
        have HJ := Bx.mk hJ
        have Y17 := Bx.mk (Y16.out.new (.cells z1 40))
        rw [hJ] at Y17 ⊢
        clear Y16 hJ
        generalize X16.alloc (.cells z1 40) = X17 at *
        refine hK.out _ _ (row_rng (Y17.out.rows _ (.tail _ (.tail _ (.head _))))) (fun hHeld => ?_)
        clear hK K
        try simp only [Act.put, List.setIfInBounds_toArray, List.set_cons_zero, List.set_cons_succ]
        refine stepL 3 (by kernel_rfl) rfl (fun K hK => ?_)
        go_simp
        refine (HRs.out X17 _ (row_bytes (Y17.out.rows _ (.tail _ (.head _))) HLs.out)).mono ?_
        rintro e X18 ⟨rfl, hb⟩
        show K _ _
        have YJ := Bx.mk (YJ.out.trans (hb.mono (by rw [← HJ.out]; exact (show X16.heap.size ≤ X17.heap.size from by have := YJ.out.size; omega))))
        have Y18 := Bx.mk (Y17.out.later hb)
        clear hb Y17
        refine hK.out _ _ (row_rng (Y18.out.rows _ (.tail _ (.tail _ (.head _))))) (fun hHeld => ?_)
        clear hK K
        try simp only [Act.put, List.setIfInBounds_toArray, List.set_cons_zero, List.set_cons_succ]
        refine stepL 5 (by kernel_rfl) rfl (fun K hK => ?_)
        refine step_st rfl 40 _ _ rfl J (u8s km) (by rfl) (by rfl) (there_row (Y18.out.rows _ (.head _)) 0 _ (by rw [(HA.out km HLm.out).2]; omega)) (HA.out km HLm.out).1 (one_u8s _) ?_
        have hr2 := heap_setCells_all (ds := u8s km) (Y18.out.rows _ (.head _)) (HA.out km HLm.out).2
        have hg2 := kb_setCells (b := J) (u8s km).toList 0 X18
        have Y19 := Bx.mk (Y18.out.set hg2 hr2 LB.out (by intro y hy; have h := LJ.out; simp at hy; rcases hy with rfl | rfl | rfl <;> (simp only; omega)))
        have hb : Below X16.heap.size X16 (X18.setCells J 0 (u8s km).toList) := by
          have h := YJ.out.trans (grown_below hg2 (Nat.le_refl J) (by have := YJ.out.size; rw [HJ.out] at this; exact this))
          rw [HJ.out]
          exact h
        have M_ := Bx.mk (M_.out.later hb)
        have Kk := Bx.mk (Kk.out.later hb)
        have Kvb := Bx.mk (Kvb.out.later hb)
        have Ks1 := Bx.mk (Ks1.out.later hb)
        have Ks2 := Bx.mk (Ks2.out.later hb)
        have Kvy := Bx.mk (Kvy.out.later hb)
        clear hb hr2 hg2 Y18 YJ
        generalize X18.setCells J 0 (u8s km).toList = X19 at *
        refine hK.out _ _ (row_rng (Y19.out.rows _ (.tail _ (.tail _ (.head _))))) (fun hHeld => ?_)
        clear hK K
        try simp only [Act.put]
        refine wpAnyH_done (by kernel_rfl) ?_ _
        refine NoPanic.normal ?_
        clear hHeld
        go_upto_region 28 with fail
        have hb : Below X19.heap.size X19 X19.drew := (Below.refl _ _).drew
        have Y20 := Bx.mk (Y19.out.later hb)
        have M_ := Bx.mk (M_.out.later hb)
        have Kk := Bx.mk (Kk.out.later hb)
        have Kvb := Bx.mk (Kvb.out.later hb)
        have Ks1 := Bx.mk (Ks1.out.later hb)
        have Ks2 := Bx.mk (Ks2.out.later hb)
        have Kvy := Bx.mk (Kvy.out.later hb)
        clear hb Y19
        refine wp_region_noPanic ?_
        refine wp_region_held_drew (S := fun _ => True) (by kernel_rfl) (True.intro) (fun hHeld => ?_)
        generalize X19.drew = X20 at *
        refine stepL 0 (by kernel_rfl) rfl (fun K hK => ?_)
        go_simp
        refine (known7_any X20 (HT.out X20 Y20.out.below).1 (HT.out X20 Y20.out.below).2).mono ?_
        rintro e X21 ⟨rfl, hb⟩
        show K _ _
        have Y21 := Bx.mk (Y20.out.later hb)
        have M_ := Bx.mk (M_.out.later hb)
        have Kk := Bx.mk (Kk.out.later hb)
        have Kvb := Bx.mk (Kvb.out.later hb)
        have Ks1 := Bx.mk (Ks1.out.later hb)
        have Ks2 := Bx.mk (Ks2.out.later hb)
        have Kvy := Bx.mk (Kvy.out.later hb)
        clear hb Y20
        refine hK.out _ _ (True.intro) (fun hHeld => ?_)
        clear hK K
        try simp only [Act.put, List.setIfInBounds_toArray, List.set_cons_zero, List.set_cons_succ]
        refine takeL 1 (v := ?_) rfl (by kernel_rfl) (by kernel_rfl) (by kernel_rfl) (fun _ _ _ h => h) (Or.inl ⟨by rfl, ?_⟩) hHeld ?_
        rotate_left 1
        · (intro w hSw; go_simp; try with_reducible rfl)
        try simp only [Act.put, List.setIfInBounds_toArray, List.set_cons_zero, List.set_cons_succ]
        refine takeL 2 (v := ?_) rfl (by kernel_rfl) (by kernel_rfl) (by kernel_rfl) (fun _ _ _ h => h) (Or.inl ⟨by rfl, ?_⟩) hHeld ?_
        rotate_left 1
        · (intro w hSw; go_simp; try with_reducible rfl)
        try simp only [Act.put, List.setIfInBounds_toArray, List.set_cons_zero, List.set_cons_succ]
        refine takeL 3 (v := ?_) rfl (by kernel_rfl) (by kernel_rfl) (by kernel_rfl) (fun _ _ _ h => h) (Or.inl ⟨by rfl, ?_⟩) hHeld ?_
        rotate_left 1
        · (intro w hSw; go_simp; try with_reducible rfl)
        try simp only [Act.put, List.setIfInBounds_toArray, List.set_cons_zero, List.set_cons_succ]
        refine takeL 4 (v := ?_) rfl (by kernel_rfl) (by kernel_rfl) (by kernel_rfl) (fun _ _ _ h => h) (Or.inl ⟨by rfl, ?_⟩) hHeld ?_
        rotate_left 1
        · (intro w hSw; go_simp; try with_reducible rfl)
        try simp only [Act.put, List.setIfInBounds_toArray, List.set_cons_zero, List.set_cons_succ]
        refine takeL 5 (v := ?_) rfl (by kernel_rfl) (by kernel_rfl) (by kernel_rfl) (fun _ _ _ h => h) (Or.inl ⟨by rfl, ?_⟩) hHeld ?_
        rotate_left 1
        · (intro w hSw; go_simp; try with_reducible rfl)
        try simp only [Act.put, List.setIfInBounds_toArray, List.set_cons_zero, List.set_cons_succ]
        refine takeL 6 (v := ?_) rfl (by kernel_rfl) (by kernel_rfl) (by kernel_rfl) (fun _ _ _ h => h) (Or.inl ⟨by rfl, ?_⟩) hHeld ?_
        rotate_left 1
        · (intro w hSw; go_simp; try with_reducible rfl)
        try simp only [Act.put, List.setIfInBounds_toArray, List.set_cons_zero, List.set_cons_succ]
        refine takeL 7 (v := ?_) rfl (by kernel_rfl) (by kernel_rfl) (by kernel_rfl) (fun _ _ _ h => h) (Or.inl ⟨by rfl, ?_⟩) hHeld ?_
        rotate_left 1
        · (intro w hSw; go_simp; try with_reducible rfl)
        try simp only [Act.put, List.setIfInBounds_toArray, List.set_cons_zero, List.set_cons_succ]
        refine takeL 8 (v := ?_) rfl (by kernel_rfl) (by kernel_rfl) (by kernel_rfl) (fun _ _ _ h => h) (Or.inl ⟨by rfl, ?_⟩) hHeld ?_
        rotate_left 1
        · (intro w hSw; go_simp; try with_reducible rfl)
        try simp only [Act.put, List.setIfInBounds_toArray, List.set_cons_zero, List.set_cons_succ]
        refine takeL 9 (v := ?_) rfl (by kernel_rfl) (by kernel_rfl) (by kernel_rfl) (fun _ _ _ h => h) (Or.inl ⟨by rfl, ?_⟩) hHeld ?_
        rotate_left 1
        · (intro w hSw; go_simp; try with_reducible rfl)
        try simp only [Act.put, List.setIfInBounds_toArray, List.set_cons_zero, List.set_cons_succ]
        refine takeL 10 (v := ?_) rfl (by kernel_rfl) (by kernel_rfl) (by kernel_rfl) (fun _ _ _ h => h) (Or.inl ⟨by rfl, ?_⟩) hHeld ?_
        rotate_left 1
        · (intro w hSw; go_simp; try with_reducible rfl)
        try simp only [Act.put, List.setIfInBounds_toArray, List.set_cons_zero, List.set_cons_succ]
        refine takeL 12 (v := ?_) rfl (by kernel_rfl) (by kernel_rfl) (by kernel_rfl) (fun _ _ _ h => h) (Or.inl ⟨by rfl, ?_⟩) hHeld ?_
        rotate_left 1
        · (intro w hSw; go_simp; try with_reducible rfl)
        try simp only [Act.put, List.setIfInBounds_toArray, List.set_cons_zero, List.set_cons_succ]
        refine stepL 11 (by kernel_rfl) rfl (fun K hK => ?_)
        go_simp
        refine (HKb.out km X21 vb HLm.out Kvb.out).mono ?_
        rintro e X22 ⟨u3, rfl, ho, hb⟩
        show K _ _
        have Y22 := Bx.mk (Y21.out.later hb)
        have M_ := Bx.mk (M_.out.later hb)
        have Kk := Bx.mk (Kk.out.later hb)
        have Kvb := Bx.mk (Kvb.out.later hb)
        have Ks1 := Bx.mk (Ks1.out.later hb)
        have Ks2 := Bx.mk (Ks2.out.later hb)
        have Kvy := Bx.mk (Kvy.out.later hb)
        have Bu3 := Bx.mk ho.bytes
        clear hb Y21
        clear ho
        refine hK.out _ _ (True.intro) (fun hHeld => ?_)
        clear hK K
        try simp only [Act.put, List.setIfInBounds_toArray, List.set_cons_zero, List.set_cons_succ]
        refine stepL 13 (by kernel_rfl) rfl (fun K hK => ?_)
        go_simp
        refine (HSame.out km X22 _ _ HLm.out Bu3.out (row_bytes (Y22.out.rows _ (.head _)) HLm.out)).mono ?_
        rintro e X23 ⟨rfl, hdd⟩
        show K _ _
        obtain ⟨nd, hnd⟩ := hdd
        have hb : Below X22.heap.size X22 X23 := by rw [hnd]; exact drewN_below _ _
        clear hnd
        have Y23 := Bx.mk (Y22.out.later hb)
        have M_ := Bx.mk (M_.out.later hb)
        have Kk := Bx.mk (Kk.out.later hb)
        have Kvb := Bx.mk (Kvb.out.later hb)
        have Ks1 := Bx.mk (Ks1.out.later hb)
        have Ks2 := Bx.mk (Ks2.out.later hb)
        have Kvy := Bx.mk (Kvy.out.later hb)
        clear hb Y22
        refine hK.out _ _ True.intro (fun hHeld => ?_)
        clear hK K
        try simp only [Act.put, List.setIfInBounds_toArray, List.set_cons_zero, List.set_cons_succ]
        refine takeL 14 (v := ?_) rfl (by kernel_rfl) (by kernel_rfl) (by kernel_rfl) (fun _ _ _ h => h) (Or.inl ⟨by rfl, ?_⟩) hHeld ?_
        rotate_left 1
        · (intro w hSw; go_simp; try with_reducible rfl)
        try simp only [Act.put, List.setIfInBounds_toArray, List.set_cons_zero, List.set_cons_succ]
        refine takeL 15 (v := ?_) rfl (by kernel_rfl) (by kernel_rfl) (by kernel_rfl) (fun _ _ _ h => h) (Or.inl ⟨by rfl, ?_⟩) hHeld ?_
        rotate_left 1
        · (intro w hSw; go_simp; try with_reducible rfl)
        try simp only [Act.put, List.setIfInBounds_toArray, List.set_cons_zero, List.set_cons_succ]
        refine takeL 16 (v := ?_) rfl (by kernel_rfl) (by kernel_rfl) (by kernel_rfl) (fun _ _ _ h => h) (Or.inl ⟨by rfl, ?_⟩) hHeld ?_
        rotate_left 1
        · (intro w hSw; go_simp; try with_reducible rfl)
        try simp only [Act.put, List.setIfInBounds_toArray, List.set_cons_zero, List.set_cons_succ]
        refine takeL 18 (v := ?_) rfl (by kernel_rfl) (by kernel_rfl) (by kernel_rfl) (fun _ _ _ h => h) (Or.inl ⟨by rfl, ?_⟩) hHeld ?_
        rotate_left 1
        · (intro w hSw; go_simp; try with_reducible rfl)
        try simp only [Act.put, List.setIfInBounds_toArray, List.set_cons_zero, List.set_cons_succ]
        refine stepL 17 (by kernel_rfl) rfl (fun K hK => ?_)
        go_simp
        refine (HKb.out km X23 vy HLm.out Kvy.out).mono ?_
        rintro e X24 ⟨u4, rfl, ho, hb⟩
        show K _ _
        have Y24 := Bx.mk (Y23.out.later hb)
        have M_ := Bx.mk (M_.out.later hb)
        have Kk := Bx.mk (Kk.out.later hb)
        have Kvb := Bx.mk (Kvb.out.later hb)
        have Ks1 := Bx.mk (Ks1.out.later hb)
        have Ks2 := Bx.mk (Ks2.out.later hb)
        have Kvy := Bx.mk (Kvy.out.later hb)
        have Bu4 := Bx.mk ho.bytes
        clear hb Y23
        clear ho
        refine hK.out _ _ (True.intro) (fun hHeld => ?_)
        clear hK K
        try simp only [Act.put, List.setIfInBounds_toArray, List.set_cons_zero, List.set_cons_succ]
        refine stepL 19 (by kernel_rfl) rfl (fun K hK => ?_)
        go_simp
        refine (HSame.out km X24 _ _ HLm.out Bu4.out (row_bytes (Y24.out.rows _ (.head _)) HLm.out)).mono ?_
        rintro e X25 ⟨rfl, hdd⟩
        show K _ _
        obtain ⟨nd, hnd⟩ := hdd
        have hb : Below X24.heap.size X24 X25 := by rw [hnd]; exact drewN_below _ _
        clear hnd
        have Y25 := Bx.mk (Y24.out.later hb)
        have M_ := Bx.mk (M_.out.later hb)
        have Kk := Bx.mk (Kk.out.later hb)
        have Kvb := Bx.mk (Kvb.out.later hb)
        have Ks1 := Bx.mk (Ks1.out.later hb)
        have Ks2 := Bx.mk (Ks2.out.later hb)
        have Kvy := Bx.mk (Kvy.out.later hb)
        clear hb Y24
        refine hK.out _ _ True.intro (fun hHeld => ?_)
        clear hK K
        try simp only [Act.put, List.setIfInBounds_toArray, List.set_cons_zero, List.set_cons_succ]
        refine takeL 20 (v := ?_) rfl (by kernel_rfl) (by kernel_rfl) (by kernel_rfl) (fun _ _ _ h => h) (Or.inl ⟨by rfl, ?_⟩) hHeld ?_
        rotate_left 1
        · (intro w hSw; go_simp; try with_reducible rfl)
        try simp only [Act.put, List.setIfInBounds_toArray, List.set_cons_zero, List.set_cons_succ]
        refine takeL 21 (v := ?_) rfl (by kernel_rfl) (by kernel_rfl) (by kernel_rfl) (fun _ _ _ h => h) (Or.inl ⟨by rfl, ?_⟩) hHeld ?_
        rotate_left 1
        · (intro w hSw; go_simp; try with_reducible rfl)
        try simp only [Act.put, List.setIfInBounds_toArray, List.set_cons_zero, List.set_cons_succ]
        refine wpAnyH_done (by kernel_rfl) ?_ _
        refine NoPanic.normal ?_
        clear hHeld
        go_wp2
        go_ret
        exact ⟨rfl, Y25.out.below⟩
    · have gv' := Bx.mk gv
      have gvn : ¬ nv < 1 := by omega
      go_upto_region 27 with fail
      have hb : Below X15.heap.size X15 X15.drew := (Below.refl _ _).drew
      have Y16 := Bx.mk (Y15.out.later hb)
      have M_ := Bx.mk (M_.out.later hb)
      have Kk := Bx.mk (Kk.out.later hb)
      have Kvb := Bx.mk (Kvb.out.later hb)
      have Ks1 := Bx.mk (Ks1.out.later hb)
      have Ks2 := Bx.mk (Ks2.out.later hb)
      have Kvy := Bx.mk (Kvy.out.later hb)
      clear hb Y15
      refine wp_region_noPanic ?_
      refine wp_region_held_drew (S := fun W => W.rangeAt D 0 tbl) (by kernel_rfl) (row_rng (Y16.out.rows _ (.tail _ (.head _)))) (fun hHeld => ?_)
      generalize X15.drew = X16 at *
      refine takeL 0 rfl (by kernel_rfl) (by kernel_rfl) (by kernel_rfl) (fun _ _ _ h => h) (yieldsIf_load_mid (by rfl) _ _ rfl _ _ rfl _ _ (fun w hSw => hSw) Tryd.underlying32 rfl HTI.out.2.2.2) hHeld ?_
      try simp only [Act.put, List.setIfInBounds_toArray, List.set_cons_zero, List.set_cons_succ]
      refine takeL 1 (v := ?_) rfl (by kernel_rfl) (by kernel_rfl) (by kernel_rfl) (fun _ _ _ h => h) (Or.inl ⟨by rfl, ?_⟩) hHeld ?_
      rotate_left 1
      · (intro w hSw; go_simp; try with_reducible rfl)
      try simp only [Act.put, List.setIfInBounds_toArray, List.set_cons_zero, List.set_cons_succ]
      refine takeL 2 (v := ?_) rfl (by kernel_rfl) (by kernel_rfl) (by kernel_rfl) (fun _ _ _ h => h) (Or.inl ⟨by rfl, ?_⟩) hHeld ?_
      rotate_left 1
      · (intro w hSw; go_simp; try with_reducible rfl)
      try simp only [Act.put, List.setIfInBounds_toArray, List.set_cons_zero, List.set_cons_succ]
      refine wpAnyH_ready (rs := [3, 4]) (by kernel_rfl) (by simp) ?_
      refine consM 3 rfl (fun K hK => ?_) (consM 4 rfl (fun K hK => ?_) AllReadyH.nil)
      · go_simp
        refine (HRs.out X16 _ (row_bytes (Y16.out.rows _ (.head _)) HLs.out)).mono ?_
        rintro e X17 ⟨rfl, hb⟩
        show K _ _
        have Y17 := Bx.mk (Y16.out.later hb)
        have M_ := Bx.mk (M_.out.later hb)
        have Kk := Bx.mk (Kk.out.later hb)
        have Kvb := Bx.mk (Kvb.out.later hb)
        have Ks1 := Bx.mk (Ks1.out.later hb)
        have Ks2 := Bx.mk (Ks2.out.later hb)
        have Kvy := Bx.mk (Kvy.out.later hb)
        clear hb Y16
        refine hK.out _ _ (row_rng (Y17.out.rows _ (.tail _ (.head _)))) (fun hHeld => ?_)
        clear hK K
        try simp only [Act.put, List.setIfInBounds_toArray, List.set_cons_zero, List.set_cons_succ]
        refine stepL 4 (by kernel_rfl) rfl (fun K hK => ?_)
        go_simp
        show K _ _
        obtain ⟨J, hJ⟩ : ∃ J, X17.heap.size = J := ⟨_, rfl⟩
        have LJ : Bx (E < J ∧ D < J ∧ B < J) := Bx.mk (by rw [← hJ]; exact ⟨Y17.out.lt (.head _), Y17.out.lt (.tail _ (.head _)), Y17.out.lt (.tail _ (.tail _ (.head _)))⟩)
        have LB : Bx (B ≤ J) := Bx.mk (by rw [← hJ]; exact Y17.out.le)
        have YJ := Bx.mk (show Below X17.heap.size X17 (X17.alloc (.cells z1 40)) from below_a _)
        rw [hJ] at YJ
        have HJ := Bx.mk hJ
        have Y18 := Bx.mk (Y17.out.new (.cells z1 40))
        rw [hJ] at Y18 ⊢
        clear Y17 hJ
        generalize X17.alloc (.cells z1 40) = X18 at *
        refine hK.out _ _ (row_rng (Y18.out.rows _ (.tail _ (.tail _ (.head _))))) (fun hHeld => ?_)
        clear hK K
        try simp only [Act.put, List.setIfInBounds_toArray, List.set_cons_zero, List.set_cons_succ]
        refine stepL 5 (by kernel_rfl) rfl (fun K hK => ?_)
        refine step_st rfl 40 _ _ rfl J (u8s km) (by rfl) (by rfl) (there_row (Y18.out.rows _ (.head _)) 0 _ (by rw [(HA.out km HLm.out).2]; omega)) (HA.out km HLm.out).1 (one_u8s _) ?_
        have hr2 := heap_setCells_all (ds := u8s km) (Y18.out.rows _ (.head _)) (HA.out km HLm.out).2
        have hg2 := kb_setCells (b := J) (u8s km).toList 0 X18
        have Y19 := Bx.mk (Y18.out.set hg2 hr2 LB.out (by intro y hy; have h := LJ.out; simp at hy; rcases hy with rfl | rfl | rfl <;> (simp only; omega)))
        have hb : Below X17.heap.size X17 (X18.setCells J 0 (u8s km).toList) := by
          have h := YJ.out.trans (grown_below hg2 (Nat.le_refl J) (by have := YJ.out.size; rw [HJ.out] at this; exact this))
          rw [HJ.out]
          exact h
        have M_ := Bx.mk (M_.out.later hb)
        have Kk := Bx.mk (Kk.out.later hb)
        have Kvb := Bx.mk (Kvb.out.later hb)
        have Ks1 := Bx.mk (Ks1.out.later hb)
        have Ks2 := Bx.mk (Ks2.out.later hb)
        have Kvy := Bx.mk (Kvy.out.later hb)
        clear hb hr2 hg2 Y18 YJ
        generalize X18.setCells J 0 (u8s km).toList = X19 at *
        refine hK.out _ _ (row_rng (Y19.out.rows _ (.tail _ (.tail _ (.head _))))) (fun hHeld => ?_)
        clear hK K
        try simp only [Act.put]
        refine wpAnyH_done (by kernel_rfl) ?_ _
        refine NoPanic.normal ?_
        clear hHeld
        go_upto_region 28 with fail
        have hb : Below X19.heap.size X19 X19.drew := (Below.refl _ _).drew
        have Y20 := Bx.mk (Y19.out.later hb)
        have M_ := Bx.mk (M_.out.later hb)
        have Kk := Bx.mk (Kk.out.later hb)
        have Kvb := Bx.mk (Kvb.out.later hb)
        have Ks1 := Bx.mk (Ks1.out.later hb)
        have Ks2 := Bx.mk (Ks2.out.later hb)
        have Kvy := Bx.mk (Kvy.out.later hb)
        clear hb Y19
        refine wp_region_noPanic ?_
        refine wp_region_held_drew (S := fun _ => True) (by kernel_rfl) (True.intro) (fun hHeld => ?_)
        generalize X19.drew = X20 at *
        refine stepL 0 (by kernel_rfl) rfl (fun K hK => ?_)
        go_simp
        refine (known7_any X20 (HT.out X20 Y20.out.below).1 (HT.out X20 Y20.out.below).2).mono ?_
        rintro e X21 ⟨rfl, hb⟩
        show K _ _
        have Y21 := Bx.mk (Y20.out.later hb)
        have M_ := Bx.mk (M_.out.later hb)
        have Kk := Bx.mk (Kk.out.later hb)
        have Kvb := Bx.mk (Kvb.out.later hb)
        have Ks1 := Bx.mk (Ks1.out.later hb)
        have Ks2 := Bx.mk (Ks2.out.later hb)
        have Kvy := Bx.mk (Kvy.out.later hb)
        clear hb Y20
        refine hK.out _ _ (True.intro) (fun hHeld => ?_)
        clear hK K
        try simp only [Act.put, List.setIfInBounds_toArray, List.set_cons_zero, List.set_cons_succ]
        refine takeL 1 (v := ?_) rfl (by kernel_rfl) (by kernel_rfl) (by kernel_rfl) (fun _ _ _ h => h) (Or.inl ⟨by rfl, ?_⟩) hHeld ?_
        rotate_left 1
        · (intro w hSw; go_simp; try with_reducible rfl)
        try simp only [Act.put, List.setIfInBounds_toArray, List.set_cons_zero, List.set_cons_succ]
        refine takeL 2 (v := ?_) rfl (by kernel_rfl) (by kernel_rfl) (by kernel_rfl) (fun _ _ _ h => h) (Or.inl ⟨by rfl, ?_⟩) hHeld ?_
        rotate_left 1
        · (intro w hSw; go_simp; try with_reducible rfl)
        try simp only [Act.put, List.setIfInBounds_toArray, List.set_cons_zero, List.set_cons_succ]
        refine takeL 3 (v := ?_) rfl (by kernel_rfl) (by kernel_rfl) (by kernel_rfl) (fun _ _ _ h => h) (Or.inl ⟨by rfl, ?_⟩) hHeld ?_
        rotate_left 1
        · (intro w hSw; go_simp; try with_reducible rfl)
        try simp only [Act.put, List.setIfInBounds_toArray, List.set_cons_zero, List.set_cons_succ]
        refine takeL 4 (v := ?_) rfl (by kernel_rfl) (by kernel_rfl) (by kernel_rfl) (fun _ _ _ h => h) (Or.inl ⟨by rfl, ?_⟩) hHeld ?_
        rotate_left 1
        · (intro w hSw; go_simp; try with_reducible rfl)
        try simp only [Act.put, List.setIfInBounds_toArray, List.set_cons_zero, List.set_cons_succ]
        refine takeL 5 (v := ?_) rfl (by kernel_rfl) (by kernel_rfl) (by kernel_rfl) (fun _ _ _ h => h) (Or.inl ⟨by rfl, ?_⟩) hHeld ?_
        rotate_left 1
        · (intro w hSw; go_simp; try with_reducible rfl)
        try simp only [Act.put, List.setIfInBounds_toArray, List.set_cons_zero, List.set_cons_succ]
        refine takeL 6 (v := ?_) rfl (by kernel_rfl) (by kernel_rfl) (by kernel_rfl) (fun _ _ _ h => h) (Or.inl ⟨by rfl, ?_⟩) hHeld ?_
        rotate_left 1
        · (intro w hSw; go_simp; try with_reducible rfl)
        try simp only [Act.put, List.setIfInBounds_toArray, List.set_cons_zero, List.set_cons_succ]
        refine takeL 7 (v := ?_) rfl (by kernel_rfl) (by kernel_rfl) (by kernel_rfl) (fun _ _ _ h => h) (Or.inl ⟨by rfl, ?_⟩) hHeld ?_
        rotate_left 1
        · (intro w hSw; go_simp; try with_reducible rfl)
        try simp only [Act.put, List.setIfInBounds_toArray, List.set_cons_zero, List.set_cons_succ]
        refine takeL 8 (v := ?_) rfl (by kernel_rfl) (by kernel_rfl) (by kernel_rfl) (fun _ _ _ h => h) (Or.inl ⟨by rfl, ?_⟩) hHeld ?_
        rotate_left 1
        · (intro w hSw; go_simp; try with_reducible rfl)
        try simp only [Act.put, List.setIfInBounds_toArray, List.set_cons_zero, List.set_cons_succ]
        refine takeL 9 (v := ?_) rfl (by kernel_rfl) (by kernel_rfl) (by kernel_rfl) (fun _ _ _ h => h) (Or.inl ⟨by rfl, ?_⟩) hHeld ?_
        rotate_left 1
        · (intro w hSw; go_simp; try with_reducible rfl)
        try simp only [Act.put, List.setIfInBounds_toArray, List.set_cons_zero, List.set_cons_succ]
        refine takeL 10 (v := ?_) rfl (by kernel_rfl) (by kernel_rfl) (by kernel_rfl) (fun _ _ _ h => h) (Or.inl ⟨by rfl, ?_⟩) hHeld ?_
        rotate_left 1
        · (intro w hSw; go_simp; try with_reducible rfl)
        try simp only [Act.put, List.setIfInBounds_toArray, List.set_cons_zero, List.set_cons_succ]
        refine takeL 12 (v := ?_) rfl (by kernel_rfl) (by kernel_rfl) (by kernel_rfl) (fun _ _ _ h => h) (Or.inl ⟨by rfl, ?_⟩) hHeld ?_
        rotate_left 1
        · (intro w hSw; go_simp; try with_reducible rfl)
        try simp only [Act.put, List.setIfInBounds_toArray, List.set_cons_zero, List.set_cons_succ]
        refine stepL 11 (by kernel_rfl) rfl (fun K hK => ?_)
        go_simp
        refine (HKb.out km X21 vb HLm.out Kvb.out).mono ?_
        rintro e X22 ⟨u3, rfl, ho, hb⟩
        show K _ _
        have Y22 := Bx.mk (Y21.out.later hb)
        have M_ := Bx.mk (M_.out.later hb)
        have Kk := Bx.mk (Kk.out.later hb)
        have Kvb := Bx.mk (Kvb.out.later hb)
        have Ks1 := Bx.mk (Ks1.out.later hb)
        have Ks2 := Bx.mk (Ks2.out.later hb)
        have Kvy := Bx.mk (Kvy.out.later hb)
        have Bu3 := Bx.mk ho.bytes
        clear hb Y21
        clear ho
        refine hK.out _ _ (True.intro) (fun hHeld => ?_)
        clear hK K
        try simp only [Act.put, List.setIfInBounds_toArray, List.set_cons_zero, List.set_cons_succ]
        refine stepL 13 (by kernel_rfl) rfl (fun K hK => ?_)
        go_simp
        refine (HSame.out km X22 _ _ HLm.out Bu3.out (row_bytes (Y22.out.rows _ (.head _)) HLm.out)).mono ?_
        rintro e X23 ⟨rfl, hdd⟩
        show K _ _
        obtain ⟨nd, hnd⟩ := hdd
        have hb : Below X22.heap.size X22 X23 := by rw [hnd]; exact drewN_below _ _
        clear hnd
        have Y23 := Bx.mk (Y22.out.later hb)
        have M_ := Bx.mk (M_.out.later hb)
        have Kk := Bx.mk (Kk.out.later hb)
        have Kvb := Bx.mk (Kvb.out.later hb)
        have Ks1 := Bx.mk (Ks1.out.later hb)
        have Ks2 := Bx.mk (Ks2.out.later hb)
        have Kvy := Bx.mk (Kvy.out.later hb)
        clear hb Y22
        refine hK.out _ _ True.intro (fun hHeld => ?_)
        clear hK K
        try simp only [Act.put, List.setIfInBounds_toArray, List.set_cons_zero, List.set_cons_succ]
        refine takeL 14 (v := ?_) rfl (by kernel_rfl) (by kernel_rfl) (by kernel_rfl) (fun _ _ _ h => h) (Or.inl ⟨by rfl, ?_⟩) hHeld ?_
        rotate_left 1
        · (intro w hSw; go_simp; try with_reducible rfl)
        try simp only [Act.put, List.setIfInBounds_toArray, List.set_cons_zero, List.set_cons_succ]
        refine takeL 15 (v := ?_) rfl (by kernel_rfl) (by kernel_rfl) (by kernel_rfl) (fun _ _ _ h => h) (Or.inl ⟨by rfl, ?_⟩) hHeld ?_
        rotate_left 1
        · (intro w hSw; go_simp; try with_reducible rfl)
        try simp only [Act.put, List.setIfInBounds_toArray, List.set_cons_zero, List.set_cons_succ]
        refine takeL 16 (v := ?_) rfl (by kernel_rfl) (by kernel_rfl) (by kernel_rfl) (fun _ _ _ h => h) (Or.inl ⟨by rfl, ?_⟩) hHeld ?_
        rotate_left 1
        · (intro w hSw; go_simp; try with_reducible rfl)
        try simp only [Act.put, List.setIfInBounds_toArray, List.set_cons_zero, List.set_cons_succ]
        refine takeL 18 (v := ?_) rfl (by kernel_rfl) (by kernel_rfl) (by kernel_rfl) (fun _ _ _ h => h) (Or.inl ⟨by rfl, ?_⟩) hHeld ?_
        rotate_left 1
        · (intro w hSw; go_simp; try with_reducible rfl)
        try simp only [Act.put, List.setIfInBounds_toArray, List.set_cons_zero, List.set_cons_succ]
        refine stepL 17 (by kernel_rfl) rfl (fun K hK => ?_)
        go_simp
        refine (HKb.out km X23 vy HLm.out Kvy.out).mono ?_
        rintro e X24 ⟨u4, rfl, ho, hb⟩
        show K _ _
        have Y24 := Bx.mk (Y23.out.later hb)
        have M_ := Bx.mk (M_.out.later hb)
        have Kk := Bx.mk (Kk.out.later hb)
        have Kvb := Bx.mk (Kvb.out.later hb)
        have Ks1 := Bx.mk (Ks1.out.later hb)
        have Ks2 := Bx.mk (Ks2.out.later hb)
        have Kvy := Bx.mk (Kvy.out.later hb)
        have Bu4 := Bx.mk ho.bytes
        clear hb Y23
        clear ho
        refine hK.out _ _ (True.intro) (fun hHeld => ?_)
        clear hK K
        try simp only [Act.put, List.setIfInBounds_toArray, List.set_cons_zero, List.set_cons_succ]
        refine stepL 19 (by kernel_rfl) rfl (fun K hK => ?_)
        go_simp
        refine (HSame.out km X24 _ _ HLm.out Bu4.out (row_bytes (Y24.out.rows _ (.head _)) HLm.out)).mono ?_
        rintro e X25 ⟨rfl, hdd⟩
        show K _ _
        obtain ⟨nd, hnd⟩ := hdd
        have hb : Below X24.heap.size X24 X25 := by rw [hnd]; exact drewN_below _ _
        clear hnd
        have Y25 := Bx.mk (Y24.out.later hb)
        have M_ := Bx.mk (M_.out.later hb)
        have Kk := Bx.mk (Kk.out.later hb)
        have Kvb := Bx.mk (Kvb.out.later hb)
        have Ks1 := Bx.mk (Ks1.out.later hb)
        have Ks2 := Bx.mk (Ks2.out.later hb)
        have Kvy := Bx.mk (Kvy.out.later hb)
        clear hb Y24
        refine hK.out _ _ True.intro (fun hHeld => ?_)
        clear hK K
        try simp only [Act.put, List.setIfInBounds_toArray, List.set_cons_zero, List.set_cons_succ]
        refine takeL 20 (v := ?_) rfl (by kernel_rfl) (by kernel_rfl) (by kernel_rfl) (fun _ _ _ h => h) (Or.inl ⟨by rfl, ?_⟩) hHeld ?_
        rotate_left 1
        · (intro w hSw; go_simp; try with_reducible rfl)
        try simp only [Act.put, List.setIfInBounds_toArray, List.set_cons_zero, List.set_cons_succ]
        refine takeL 21 (v := ?_) rfl (by kernel_rfl) (by kernel_rfl) (by kernel_rfl) (fun _ _ _ h => h) (Or.inl ⟨by rfl, ?_⟩) hHeld ?_
        rotate_left 1
        · (intro w hSw; go_simp; try with_reducible rfl)
        try simp only [Act.put, List.setIfInBounds_toArray, List.set_cons_zero, List.set_cons_succ]
        refine wpAnyH_done (by kernel_rfl) ?_ _
        refine NoPanic.normal ?_
        clear hHeld
        go_wp2
        go_ret
        exact ⟨rfl, Y25.out.below⟩
      · go_simp
        show K _ _
        obtain ⟨J, hJ⟩ : ∃ J, X16.heap.size = J := ⟨_, rfl⟩
        have LJ : Bx (E < J ∧ D < J ∧ B < J) := Bx.mk (by rw [← hJ]; exact ⟨Y16.out.lt (.head _), Y16.out.lt (.tail _ (.head _)), Y16.out.lt (.tail _ (.tail _ (.head _)))⟩)
        have LB : Bx (B ≤ J) := Bx.mk (by rw [← hJ]; exact Y16.out.le)
        have YJ := Bx.mk (show Below X16.heap.size X16 (X16.alloc (.cells z1 40)) from below_a _)
        rw [hJ] at YJ
        have HJ := Bx.mk hJ
        have Y17 := Bx.mk (Y16.out.new (.cells z1 40))
        rw [hJ] at Y17 ⊢
        clear Y16 hJ
        generalize X16.alloc (.cells z1 40) = X17 at *
        refine hK.out _ _ (row_rng (Y17.out.rows _ (.tail _ (.tail _ (.head _))))) (fun hHeld => ?_)
        clear hK K
        try simp only [Act.put, List.setIfInBounds_toArray, List.set_cons_zero, List.set_cons_succ]
        refine stepL 3 (by kernel_rfl) rfl (fun K hK => ?_)
        go_simp
        refine (HRs.out X17 _ (row_bytes (Y17.out.rows _ (.tail _ (.head _))) HLs.out)).mono ?_
        rintro e X18 ⟨rfl, hb⟩
        show K _ _
        have YJ := Bx.mk (YJ.out.trans (hb.mono (by rw [← HJ.out]; exact (show X16.heap.size ≤ X17.heap.size from by have := YJ.out.size; omega))))
        have Y18 := Bx.mk (Y17.out.later hb)
        clear hb Y17
        refine hK.out _ _ (row_rng (Y18.out.rows _ (.tail _ (.tail _ (.head _))))) (fun hHeld => ?_)
        clear hK K
        try simp only [Act.put, List.setIfInBounds_toArray, List.set_cons_zero, List.set_cons_succ]
        refine stepL 5 (by kernel_rfl) rfl (fun K hK => ?_)
        refine step_st rfl 40 _ _ rfl J (u8s km) (by rfl) (by rfl) (there_row (Y18.out.rows _ (.head _)) 0 _ (by rw [(HA.out km HLm.out).2]; omega)) (HA.out km HLm.out).1 (one_u8s _) ?_
        have hr2 := heap_setCells_all (ds := u8s km) (Y18.out.rows _ (.head _)) (HA.out km HLm.out).2
        have hg2 := kb_setCells (b := J) (u8s km).toList 0 X18
        have Y19 := Bx.mk (Y18.out.set hg2 hr2 LB.out (by intro y hy; have h := LJ.out; simp at hy; rcases hy with rfl | rfl | rfl <;> (simp only; omega)))
        have hb : Below X16.heap.size X16 (X18.setCells J 0 (u8s km).toList) := by
          have h := YJ.out.trans (grown_below hg2 (Nat.le_refl J) (by have := YJ.out.size; rw [HJ.out] at this; exact this))
          rw [HJ.out]
          exact h
        have M_ := Bx.mk (M_.out.later hb)
        have Kk := Bx.mk (Kk.out.later hb)
        have Kvb := Bx.mk (Kvb.out.later hb)
        have Ks1 := Bx.mk (Ks1.out.later hb)
        have Ks2 := Bx.mk (Ks2.out.later hb)
        have Kvy := Bx.mk (Kvy.out.later hb)
        clear hb hr2 hg2 Y18 YJ
        generalize X18.setCells J 0 (u8s km).toList = X19 at *
        refine hK.out _ _ (row_rng (Y19.out.rows _ (.tail _ (.tail _ (.head _))))) (fun hHeld => ?_)
        clear hK K
        try simp only [Act.put]
        refine wpAnyH_done (by kernel_rfl) ?_ _
        refine NoPanic.normal ?_
        clear hHeld
        go_upto_region 28 with fail
        have hb : Below X19.heap.size X19 X19.drew := (Below.refl _ _).drew
        have Y20 := Bx.mk (Y19.out.later hb)
        have M_ := Bx.mk (M_.out.later hb)
        have Kk := Bx.mk (Kk.out.later hb)
        have Kvb := Bx.mk (Kvb.out.later hb)
        have Ks1 := Bx.mk (Ks1.out.later hb)
        have Ks2 := Bx.mk (Ks2.out.later hb)
        have Kvy := Bx.mk (Kvy.out.later hb)
        clear hb Y19
        refine wp_region_noPanic ?_
        refine wp_region_held_drew (S := fun _ => True) (by kernel_rfl) (True.intro) (fun hHeld => ?_)
        generalize X19.drew = X20 at *
        refine stepL 0 (by kernel_rfl) rfl (fun K hK => ?_)
        go_simp
        refine (known7_any X20 (HT.out X20 Y20.out.below).1 (HT.out X20 Y20.out.below).2).mono ?_
        rintro e X21 ⟨rfl, hb⟩
        show K _ _
        have Y21 := Bx.mk (Y20.out.later hb)
        have M_ := Bx.mk (M_.out.later hb)
        have Kk := Bx.mk (Kk.out.later hb)
        have Kvb := Bx.mk (Kvb.out.later hb)
        have Ks1 := Bx.mk (Ks1.out.later hb)
        have Ks2 := Bx.mk (Ks2.out.later hb)
        have Kvy := Bx.mk (Kvy.out.later hb)
        clear hb Y20
        refine hK.out _ _ (True.intro) (fun hHeld => ?_)
        clear hK K
        try simp only [Act.put, List.setIfInBounds_toArray, List.set_cons_zero, List.set_cons_succ]
        refine takeL 1 (v := ?_) rfl (by kernel_rfl) (by kernel_rfl) (by kernel_rfl) (fun _ _ _ h => h) (Or.inl ⟨by rfl, ?_⟩) hHeld ?_
        rotate_left 1
        · (intro w hSw; go_simp; try with_reducible rfl)
        try simp only [Act.put, List.setIfInBounds_toArray, List.set_cons_zero, List.set_cons_succ]
        refine takeL 2 (v := ?_) rfl (by kernel_rfl) (by kernel_rfl) (by kernel_rfl) (fun _ _ _ h => h) (Or.inl ⟨by rfl, ?_⟩) hHeld ?_
        rotate_left 1
        · (intro w hSw; go_simp; try with_reducible rfl)
        try simp only [Act.put, List.setIfInBounds_toArray, List.set_cons_zero, List.set_cons_succ]
        refine takeL 3 (v := ?_) rfl (by kernel_rfl) (by kernel_rfl) (by kernel_rfl) (fun _ _ _ h => h) (Or.inl ⟨by rfl, ?_⟩) hHeld ?_
        rotate_left 1
        · (intro w hSw; go_simp; try with_reducible rfl)
        try simp only [Act.put, List.setIfInBounds_toArray, List.set_cons_zero, List.set_cons_succ]
        refine takeL 4 (v := ?_) rfl (by kernel_rfl) (by kernel_rfl) (by kernel_rfl) (fun _ _ _ h => h) (Or.inl ⟨by rfl, ?_⟩) hHeld ?_
        rotate_left 1
        · (intro w hSw; go_simp; try with_reducible rfl)
        try simp only [Act.put, List.setIfInBounds_toArray, List.set_cons_zero, List.set_cons_succ]
        refine takeL 5 (v := ?_) rfl (by kernel_rfl) (by kernel_rfl) (by kernel_rfl) (fun _ _ _ h => h) (Or.inl ⟨by rfl, ?_⟩) hHeld ?_
        rotate_left 1
        · (intro w hSw; go_simp; try with_reducible rfl)
        try simp only [Act.put, List.setIfInBounds_toArray, List.set_cons_zero, List.set_cons_succ]
        refine takeL 6 (v := ?_) rfl (by kernel_rfl) (by kernel_rfl) (by kernel_rfl) (fun _ _ _ h => h) (Or.inl ⟨by rfl, ?_⟩) hHeld ?_
        rotate_left 1
        · (intro w hSw; go_simp; try with_reducible rfl)
        try simp only [Act.put, List.setIfInBounds_toArray, List.set_cons_zero, List.set_cons_succ]
        refine takeL 7 (v := ?_) rfl (by kernel_rfl) (by kernel_rfl) (by kernel_rfl) (fun _ _ _ h => h) (Or.inl ⟨by rfl, ?_⟩) hHeld ?_
        rotate_left 1
        · (intro w hSw; go_simp; try with_reducible rfl)
        try simp only [Act.put, List.setIfInBounds_toArray, List.set_cons_zero, List.set_cons_succ]
        refine takeL 8 (v := ?_) rfl (by kernel_rfl) (by kernel_rfl) (by kernel_rfl) (fun _ _ _ h => h) (Or.inl ⟨by rfl, ?_⟩) hHeld ?_
        rotate_left 1
        · (intro w hSw; go_simp; try with_reducible rfl)
        try simp only [Act.put, List.setIfInBounds_toArray, List.set_cons_zero, List.set_cons_succ]
        refine takeL 9 (v := ?_) rfl (by kernel_rfl) (by kernel_rfl) (by kernel_rfl) (fun _ _ _ h => h) (Or.inl ⟨by rfl, ?_⟩) hHeld ?_
        rotate_left 1
        · (intro w hSw; go_simp; try with_reducible rfl)
        try simp only [Act.put, List.setIfInBounds_toArray, List.set_cons_zero, List.set_cons_succ]
        refine takeL 10 (v := ?_) rfl (by kernel_rfl) (by kernel_rfl) (by kernel_rfl) (fun _ _ _ h => h) (Or.inl ⟨by rfl, ?_⟩) hHeld ?_
        rotate_left 1
        · (intro w hSw; go_simp; try with_reducible rfl)
        try simp only [Act.put, List.setIfInBounds_toArray, List.set_cons_zero, List.set_cons_succ]
        refine takeL 12 (v := ?_) rfl (by kernel_rfl) (by kernel_rfl) (by kernel_rfl) (fun _ _ _ h => h) (Or.inl ⟨by rfl, ?_⟩) hHeld ?_
        rotate_left 1
        · (intro w hSw; go_simp; try with_reducible rfl)
        try simp only [Act.put, List.setIfInBounds_toArray, List.set_cons_zero, List.set_cons_succ]
        refine stepL 11 (by kernel_rfl) rfl (fun K hK => ?_)
        go_simp
        refine (HKb.out km X21 vb HLm.out Kvb.out).mono ?_
        rintro e X22 ⟨u3, rfl, ho, hb⟩
        show K _ _
        have Y22 := Bx.mk (Y21.out.later hb)
        have M_ := Bx.mk (M_.out.later hb)
        have Kk := Bx.mk (Kk.out.later hb)
        have Kvb := Bx.mk (Kvb.out.later hb)
        have Ks1 := Bx.mk (Ks1.out.later hb)
        have Ks2 := Bx.mk (Ks2.out.later hb)
        have Kvy := Bx.mk (Kvy.out.later hb)
        have Bu3 := Bx.mk ho.bytes
        clear hb Y21
        clear ho
        refine hK.out _ _ (True.intro) (fun hHeld => ?_)
        clear hK K
        try simp only [Act.put, List.setIfInBounds_toArray, List.set_cons_zero, List.set_cons_succ]
        refine stepL 13 (by kernel_rfl) rfl (fun K hK => ?_)
        go_simp
        refine (HSame.out km X22 _ _ HLm.out Bu3.out (row_bytes (Y22.out.rows _ (.head _)) HLm.out)).mono ?_
        rintro e X23 ⟨rfl, hdd⟩
        show K _ _
        obtain ⟨nd, hnd⟩ := hdd
        have hb : Below X22.heap.size X22 X23 := by rw [hnd]; exact drewN_below _ _
        clear hnd
        have Y23 := Bx.mk (Y22.out.later hb)
        have M_ := Bx.mk (M_.out.later hb)
        have Kk := Bx.mk (Kk.out.later hb)
        have Kvb := Bx.mk (Kvb.out.later hb)
        have Ks1 := Bx.mk (Ks1.out.later hb)
        have Ks2 := Bx.mk (Ks2.out.later hb)
        have Kvy := Bx.mk (Kvy.out.later hb)
        clear hb Y22
        refine hK.out _ _ True.intro (fun hHeld => ?_)
        clear hK K
        try simp only [Act.put, List.setIfInBounds_toArray, List.set_cons_zero, List.set_cons_succ]
        refine takeL 14 (v := ?_) rfl (by kernel_rfl) (by kernel_rfl) (by kernel_rfl) (fun _ _ _ h => h) (Or.inl ⟨by rfl, ?_⟩) hHeld ?_
        rotate_left 1
        · (intro w hSw; go_simp; try with_reducible rfl)
        try simp only [Act.put, List.setIfInBounds_toArray, List.set_cons_zero, List.set_cons_succ]
        refine takeL 15 (v := ?_) rfl (by kernel_rfl) (by kernel_rfl) (by kernel_rfl) (fun _ _ _ h => h) (Or.inl ⟨by rfl, ?_⟩) hHeld ?_
        rotate_left 1
        · (intro w hSw; go_simp; try with_reducible rfl)
        try simp only [Act.put, List.setIfInBounds_toArray, List.set_cons_zero, List.set_cons_succ]
        refine takeL 16 (v := ?_) rfl (by kernel_rfl) (by kernel_rfl) (by kernel_rfl) (fun _ _ _ h => h) (Or.inl ⟨by rfl, ?_⟩) hHeld ?_
        rotate_left 1
        · (intro w hSw; go_simp; try with_reducible rfl)
        try simp only [Act.put, List.setIfInBounds_toArray, List.set_cons_zero, List.set_cons_succ]
        refine takeL 18 (v := ?_) rfl (by kernel_rfl) (by kernel_rfl) (by kernel_rfl) (fun _ _ _ h => h) (Or.inl ⟨by rfl, ?_⟩) hHeld ?_
        rotate_left 1
        · (intro w hSw; go_simp; try with_reducible rfl)
        try simp only [Act.put, List.setIfInBounds_toArray, List.set_cons_zero, List.set_cons_succ]
        refine stepL 17 (by kernel_rfl) rfl (fun K hK => ?_)
        go_simp
        refine (HKb.out km X23 vy HLm.out Kvy.out).mono ?_
        rintro e X24 ⟨u4, rfl, ho, hb⟩
        show K _ _
        have Y24 := Bx.mk (Y23.out.later hb)
        have M_ := Bx.mk (M_.out.later hb)
        have Kk := Bx.mk (Kk.out.later hb)
        have Kvb := Bx.mk (Kvb.out.later hb)
        have Ks1 := Bx.mk (Ks1.out.later hb)
        have Ks2 := Bx.mk (Ks2.out.later hb)
        have Kvy := Bx.mk (Kvy.out.later hb)
        have Bu4 := Bx.mk ho.bytes
        clear hb Y23
        clear ho
        refine hK.out _ _ (True.intro) (fun hHeld => ?_)
        clear hK K
        try simp only [Act.put, List.setIfInBounds_toArray, List.set_cons_zero, List.set_cons_succ]
        refine stepL 19 (by kernel_rfl) rfl (fun K hK => ?_)
        go_simp
        refine (HSame.out km X24 _ _ HLm.out Bu4.out (row_bytes (Y24.out.rows _ (.head _)) HLm.out)).mono ?_
        rintro e X25 ⟨rfl, hdd⟩
        show K _ _
        obtain ⟨nd, hnd⟩ := hdd
        have hb : Below X24.heap.size X24 X25 := by rw [hnd]; exact drewN_below _ _
        clear hnd
        have Y25 := Bx.mk (Y24.out.later hb)
        have M_ := Bx.mk (M_.out.later hb)
        have Kk := Bx.mk (Kk.out.later hb)
        have Kvb := Bx.mk (Kvb.out.later hb)
        have Ks1 := Bx.mk (Ks1.out.later hb)
        have Ks2 := Bx.mk (Ks2.out.later hb)
        have Kvy := Bx.mk (Kvy.out.later hb)
        clear hb Y24
        refine hK.out _ _ True.intro (fun hHeld => ?_)
        clear hK K
        try simp only [Act.put, List.setIfInBounds_toArray, List.set_cons_zero, List.set_cons_succ]
        refine takeL 20 (v := ?_) rfl (by kernel_rfl) (by kernel_rfl) (by kernel_rfl) (fun _ _ _ h => h) (Or.inl ⟨by rfl, ?_⟩) hHeld ?_
        rotate_left 1
        · (intro w hSw; go_simp; try with_reducible rfl)
        try simp only [Act.put, List.setIfInBounds_toArray, List.set_cons_zero, List.set_cons_succ]
        refine takeL 21 (v := ?_) rfl (by kernel_rfl) (by kernel_rfl) (by kernel_rfl) (fun _ _ _ h => h) (Or.inl ⟨by rfl, ?_⟩) hHeld ?_
        rotate_left 1
        · (intro w hSw; go_simp; try with_reducible rfl)
        try simp only [Act.put, List.setIfInBounds_toArray, List.set_cons_zero, List.set_cons_succ]
        refine wpAnyH_done (by kernel_rfl) ?_ _
        refine NoPanic.normal ?_
        clear hHeld
        go_wp2
        go_ret
        exact ⟨rfl, Y25.out.below⟩
set_option maxRecDepth 100000 in
set_option maxHeartbeats 8000000 in
theorem der_nvs (m0 : List UInt8) (c : Cl) (V : Nat) (hv1 : 1 ≤ V) (hv2 : V ≤ 65535) (S : Nat) (hs1 : S < 4) (nr : Int) (hr : nr < 0 ∨ 8 ≤ nr) (vm : Value) (w : World) (hm : Bytes w vm m0) (hml : m0.length ≤ 9223372036854775807) (hc : okC c = true) (hTab : Tab w) (hg : 0 < w.heap.size) :
    Calls Tryd.prog 3 #[vm, clV c, .int .i64 (V : Int), .int .i64 (S : Int), .int .i64 nr] w fun e w' => e = .returned (.bool true) ∧ Below w.heap.size w w' := by
  have HT : Bx (∀ W, Below w.heap.size w W → Tab W ∧ 0 < W.heap.size) := Bx.mk fun W hb => ⟨hTab.later hb hg, Nat.lt_of_lt_of_le hg hb.size⟩
  clear hTab hg
  have HCm := Bx.mk fun (W : World) (hW : Bytes W vm m0) => cut7_any m0 70 vm W hW hml (by omega)
  have HMl : Bx ((m0.take 70).length ≤ 70) := Bx.mk (by rw [List.length_take]; omega)
  have HV := Bx.mk hm
  obtain ⟨am, cm, rfl, -⟩ := hm
  generalize m0.take 70 = mk at *
  generalize m0.length = mn at *
  have HRi := Bx.mk fun (W : World) => cright_any c W
  rw [hc] at HRi
  have HNw : Bx (∀ (W : World) v, Bytes W v mk → Calls Tryd.prog 7 #[v] W fun e w' => ∃ v', e = .returned v' ∧ KeyO w' W.heap.size v' mk ∧ Below W.heap.size W w') := Bx.mk fun W v hv => new_any mk v W hv (by have := HMl.out; omega)
  have HTo := Bx.mk fun (W : World) => cto_any c W
  obtain ⟨z1, hz1⟩ : ∃ z, u8s (List.replicate 32 0) = z := ⟨_, rfl⟩
  have hz1v : ∀ W : World, (zeroValue 40).run Tryd.prog W = .ok (.agg z1) W := fun W => by rw [← hz1, zero32]; kernel_rfl
  obtain ⟨zt, hzt⟩ : ∃ z, u32s (List.replicate 72 0) = z := ⟨_, rfl⟩
  have hztv : ∀ W : World, (zeroValue 32).run Tryd.prog W = .ok (.agg zt) W := fun W => by rw [← hzt]; kernel_rfl
  obtain ⟨tbl, htb⟩ : ∃ tbl : List Value, u32s (kTab ++ hTab) = tbl.toArray := ⟨_, rfl⟩
  have HMake : Bx (∀ W : World, Calls Tryd.prog 8 #[] W fun e w' => e = .returned (.agg tbl.toArray) ∧ Below W.heap.size W w') := Bx.mk fun W => by rw [← htb]; exact make_any W
  have HTI : Bx (tbl.toArray.size = zt.size ∧ (Tryd.prog.info? 32).map (·.size) = some tbl.toArray.size ∧ tbl.toArray.all (·.oneCell') = true ∧ (Tryd.prog.info? 32).map (·.size) = some tbl.length) := Bx.mk ⟨by rw [← htb, ← hzt, u32s_size, u32s_size]; rfl, tbl_size3 htb, by rw [← htb]; exact one_u32s _, tbl_size3 htb⟩
  have HA : Bx (∀ l : List UInt8, l.length = 32 → (Tryd.prog.info? 40).map (·.size) = some (u8s l).size ∧ (u8s l).size = z1.size) := Bx.mk fun l hl => ⟨by rw [u8s_size, hl]; kernel_rfl, by rw [← hz1, u8s_size, u8s_size, hl]; rfl⟩
  have HSame : Bx (∀ (l : List UInt8) (W : World) va vb, l.length = 32 → Bytes W va l → Bytes W vb l → Calls Tryd.prog 14 #[va, vb] W fun e w' => e = .returned (.bool true) ∧ ∃ n, w' = W.drewN n) := Bx.mk fun l W va vb hl ha hb => by
    have h := same_any _ _ va vb W ha hb (by omega) (by omega)
    rw [decide_eq_true rfl] at h
    exact h
  have HKb : Bx (∀ (l : List UInt8) W v, l.length = 32 → IsKey W v l → Calls Tryd.prog 15 #[v] W fun e w' => ∃ v', e = .returned v' ∧ OwnB w' W.heap.size v' l ∧ Below W.heap.size W w') := Bx.mk fun l W v hl hv => kbytes_any _ v W hv (by omega)
  have HGr : Bx (∀ (W : World) v, Below w.heap.size w W → IsKey W v mk → Calls Tryd.prog 9 #[v, clV c, .int .i64 (V : Int)] W fun e w' => ∃ v', e = .returned (.tuple #[v', .int .i64 0]) ∧ KeyO w' W.heap.size v' (senK (secK mk c) V) ∧ Below W.heap.size W w') := Bx.mk fun W v hb hv => gra_ok mk c V v W hv (by have := HMl.out; omega) hc hv1 hv2 (HT.out W hb).1 (HT.out W hb).2
  have HMe : Bx (∀ (W : World) v, Below w.heap.size w W → IsKey W v mk → Calls Tryd.prog 11 #[v, clV c, .int .i64 (S : Int)] W fun e w' => ∃ v', e = .returned (.tuple #[v', .int .i64 0]) ∧ KeyO w' W.heap.size v' (numK (secK mk c) seeL S) ∧ Below W.heap.size W w') := Bx.mk fun W v hb hv => mem_ok mk c S v W hv (by have := HMl.out; omega) hc hs1 (HT.out W hb).1 (HT.out W hb).2
  have HSec : Bx (∀ (W : World) v, Bytes W v mk → Calls Tryd.prog 18 #[.agg tbl.toArray, v, clV c] W fun e w' => e = .returned (.agg (u8s (secK mk c))) ∧ Below W.heap.size W w') := Bx.mk fun W v hv => rsecret_any tbl htb mk c v W hv (by have := HMl.out; omega) hc
  have HNs : Bx (∀ (W : World) v, Bytes W v (secK mk c) → Calls Tryd.prog 7 #[v] W fun e w' => ∃ v', e = .returned v' ∧ KeyO w' W.heap.size v' (secK mk c) ∧ Below W.heap.size W w') := Bx.mk fun W v hv => new_any _ v W hv (by rw [secK_length]; omega)
  have HSe : Bx (∀ (W : World) v, Below w.heap.size w W → IsKey W v (secK mk c) → Calls Tryd.prog 19 #[v, .int .i64 (V : Int)] W fun e w' => ∃ v', e = .returned (.tuple #[v', .int .i64 0]) ∧ KeyO w' W.heap.size v' (senK (secK mk c) V) ∧ Below W.heap.size W w') := Bx.mk fun W v hb hk => sen_ok (secK mk c) V v W hk (by rw [secK_length]; omega) hv1 hv2 (HT.out W hb).1 (HT.out W hb).2
  have HSd : Bx (∀ (W : World) v, Below w.heap.size w W → IsKey W v (secK mk c) → Calls Tryd.prog 20 #[v, .int .i64 (S : Int)] W fun e w' => ∃ v', e = .returned (.tuple #[v', .int .i64 0]) ∧ KeyO w' W.heap.size v' (numK (secK mk c) seeL S) ∧ Below W.heap.size W w') := Bx.mk fun W v hb hk => see_ok (secK mk c) S v W hk (by rw [secK_length]; omega) hs1 (HT.out W hb).1 (HT.out W hb).2
  have HRg : Bx (∀ (W : World) v, Bytes W v mk → Calls Tryd.prog 21 #[.agg tbl.toArray, v, clV c, .int .i64 (V : Int)] W fun e w' => e = .returned (.agg (u8s (senK (secK mk c) V))) ∧ Below W.heap.size W w') := Bx.mk fun W v hv => rgra_any tbl htb mk c V v W hv (by have := HMl.out; omega) hc hv2
  have HRs : Bx (∀ (W : World) v, Bytes W v (secK mk c) → Calls Tryd.prog 22 #[.agg tbl.toArray, v, .int .i64 (S : Int)] W fun e w' => e = .returned (.agg (u8s (numK (secK mk c) seeL S))) ∧ Below W.heap.size W w') := Bx.mk fun W v hv => rsee_any tbl htb _ S v W hv (by rw [secK_length]; omega)
  have HLa : Bx (∀ (W : World) v, Below w.heap.size w W → IsKey W v mk → Calls Tryd.prog 12 #[v, .int .i64 nr] W fun e w' => e = .returned (.tuple #[.pointer none, .int .i64 10]) ∧ Below W.heap.size W w') := Bx.mk fun W v hb hk => by
    obtain ⟨p, s, rfl, -, -⟩ := hk
    exact (lab_bad p nr W hr).mono (by rintro e w' ⟨h1, rfl⟩; exact ⟨h1, Below.refl _ _⟩)
  have HLg : Bx ((senK (secK mk c) V).length = 32) := Bx.mk (hmac_length _ _)
  generalize senK (secK mk c) V = kg at *
  have HLm : Bx ((numK (secK mk c) seeL S).length = 32) := Bx.mk (hmac_length _ _)
  generalize numK (secK mk c) seeL S = km at *
  have HLs : Bx ((secK mk c).length = 32) := Bx.mk (secK_length _ _)
  generalize secK mk c = sk at *
  have gv1 : ¬ (V : Int) < 1 := by omega
  have gv2 : ¬ 65535 < (V : Int) := by omega
  clear hv1 hv2
  have gs1 : ¬ (S : Int) < 0 := by omega
  have gs2 : ¬ 3 < (S : Int) := by omega
  clear hs1
  have HRB := Bx.mk hr
  clear hr
  clear hml hc hz1 hzt htb
  obtain ⟨i, r, x, q⟩ := c
  unfold clV at *
  simp only at HRi HTo HGr HMe HSec HRg ⊢
  obtain ⟨B, hB⟩ : ∃ B, w.heap.size = B := ⟨_, rfl⟩
  have HB := Bx.mk hB
  have Y0 := Bx.mk ((KS.start w B hB).new (.cells #[.int .i64 i, .int .i64 r, .int .i64 x, .int .i64 q] 24))
  rw [hB] at Y0
  rw [hB] at HT HLa HGr HMe HSe HSd ⊢
  go_enter Tryd.func3, Tryd.ntmps3
  go_upto_region 1 with fail
  generalize w.alloc (.cells #[.int .i64 i, .int .i64 r, .int .i64 x, .int .i64 q] 24) = X0 at *
  have M_ := Bx.mk (HV.out.later (by rw [HB.out]; exact Y0.out.below))
  go_wp2_with fail
  refine (HCm.out X0 M_.out).mono ?_
  rintro e w1 ⟨v1, rfl, hm1, rfl⟩
  have M_ := Bx.mk (hm1 X0 M_.out)
  obtain ⟨am, cm, hv1, -⟩ := M_.out
  subst hv1
  clear hm1 HCm HV
  obtain ⟨mn2, hmn2⟩ : ∃ mn2, mk.length = mn2 := ⟨_, rfl⟩
  rw [hmn2] at M_ ⊢
  clear hmn2
  go_wp2_with fail
  refine (HNw.out X0 _ M_.out).mono ?_
  rintro e X1 ⟨vk, rfl, hk, hb⟩
  have Y1 := Bx.mk (Y0.out.later hb)
  have M_ := Bx.mk (M_.out.later hb)
  have Kk := Bx.mk hk.key
  clear hb Y0
  clear hk
  go_wp2_with fail
  refine (HMake.out X1).mono ?_
  rintro e X2 ⟨rfl, hb⟩
  have Y2 := Bx.mk (Y1.out.later hb)
  have M_ := Bx.mk (M_.out.later hb)
  have Kk := Bx.mk (Kk.out.later hb)
  clear hb Y1
  obtain ⟨D, hD⟩ : ∃ D, X2.heap.size = D := ⟨_, rfl⟩
  have LD : Bx (B < D) := Bx.mk (by rw [← hD]; exact Y2.out.lt (.head _))
  have QD := Bx.mk (Y2.out.new (.cells zt 32))
  rw [hD] at QD
  go_upto_region 4 with (first | fail | (refine wpList_store_new rfl 32 _ _ rfl D tbl.toArray zt _ (by rfl) (by rfl) (QD.out.rows _ (.head _)) HTI.out.1 HTI.out.2.1 HTI.out.2.2.1 ?_; intro X3 hw8 hr8; have hg8 := Bx.mk (kb_of hw8); have HR8 := Bx.mk hr8; clear hw8 hr8))
  have Y3 := Bx.mk (QD.out.set hg8.out HR8.out (by have h := LD.out; have := Y2.out.le; omega) (by intro y hy; have h := LD.out; simp at hy; rcases hy with rfl; (simp only; omega)))
  have hb := below_of hD hg8.out
  have M_ := Bx.mk (M_.out.later hb)
  have Kk := Bx.mk (Kk.out.later hb)
  clear hb QD hg8 HR8 Y2 hD
  obtain ⟨k0, k1, k2, k3⟩ := cells4 (Y3.out.rows _ (.tail _ (.head _)))
  go_wp2_with fail
  clear k0 k1 k2 k3
  refine (HTo.out X3).mono ?_
  rintro e X4 ⟨rfl, hb⟩
  have Y4 := Bx.mk (Y3.out.later hb)
  have M_ := Bx.mk (M_.out.later hb)
  have Kk := Bx.mk (Kk.out.later hb)
  clear hb Y3
  go_wp2_with fail
  refine (HGr.out X4 vk Y4.out.below Kk.out).mono ?_
  rintro e X5 ⟨va, rfl, hk, hb⟩
  have Y5 := Bx.mk (Y4.out.later hb)
  have M_ := Bx.mk (M_.out.later hb)
  have Kk := Bx.mk (Kk.out.later hb)
  have Kva := Bx.mk hk.key
  clear hb Y4
  clear hk
  obtain ⟨k0, k1, k2, k3⟩ := cells4 (Y5.out.rows _ (.tail _ (.head _)))
  go_wp2_with fail
  clear k0 k1 k2 k3
  refine (HTo.out X5).mono ?_
  rintro e X6 ⟨rfl, hb⟩
  have Y6 := Bx.mk (Y5.out.later hb)
  have M_ := Bx.mk (M_.out.later hb)
  have Kk := Bx.mk (Kk.out.later hb)
  have Kva := Bx.mk (Kva.out.later hb)
  clear hb Y5
  go_wp2_with fail
  refine (HMe.out X6 vk Y6.out.below Kk.out).mono ?_
  rintro e X7 ⟨vb, rfl, hk, hb⟩
  have Y7 := Bx.mk (Y6.out.later hb)
  have M_ := Bx.mk (M_.out.later hb)
  have Kk := Bx.mk (Kk.out.later hb)
  have Kva := Bx.mk (Kva.out.later hb)
  have Kvb := Bx.mk hk.key
  clear hb Y6
  clear hk
  go_wp2_with fail
  refine (HLa.out X7 vk Y7.out.below Kk.out).mono ?_
  rintro e X8 ⟨rfl, hb⟩
  have Y8 := Bx.mk (Y7.out.later hb)
  have M_ := Bx.mk (M_.out.later hb)
  have Kk := Bx.mk (Kk.out.later hb)
  have Kva := Bx.mk (Kva.out.later hb)
  have Kvb := Bx.mk (Kvb.out.later hb)
  clear hb Y7
  go_wp2_with fail
  refine (lab_nil _ _).mono ?_
  rintro e w9 ⟨rfl, rfl⟩
  have HRB1 := HRB.out
  rcases HRB1 with gr | gr
  · have gr' := Bx.mk gr
    have grn : ¬ 0 ≤ nr := by omega
    obtain ⟨k0, k1, k2, k3⟩ := cells4 (Y8.out.rows _ (.tail _ (.head _)))
    go_wp2_with fail
    clear k0 k1 k2 k3
    refine (HRi.out X8).mono ?_
    rintro e X9 ⟨rfl, hb⟩
    have Y9 := Bx.mk (Y8.out.later hb)
    have M_ := Bx.mk (M_.out.later hb)
    have Kk := Bx.mk (Kk.out.later hb)
    have Kva := Bx.mk (Kva.out.later hb)
    have Kvb := Bx.mk (Kvb.out.later hb)
    clear hb Y8
    obtain ⟨k0, k1, k2, k3⟩ := cells4 (Y9.out.rows _ (.tail _ (.head _)))
    go_wp2_with (refine wpList_load_mid rfl 32 _ rfl D 0 (by rfl) tbl _ (row_rng (Y9.out.rows _ (.head _))) Tryd.underlying32 rfl HTI.out.2.2.2 ?_)
    clear k0 k1 k2 k3
    refine (HSec.out X9 _ M_.out).mono ?_
    rintro e X10 ⟨rfl, hb⟩
    have Y10 := Bx.mk (Y9.out.later hb)
    have M_ := Bx.mk (M_.out.later hb)
    have Kk := Bx.mk (Kk.out.later hb)
    have Kva := Bx.mk (Kva.out.later hb)
    have Kvb := Bx.mk (Kvb.out.later hb)
    clear hb Y9
    obtain ⟨E, hE⟩ : ∃ E, X10.heap.size = E := ⟨_, rfl⟩
    have LE : Bx (D < E ∧ B < E) := Bx.mk (by rw [← hE]; exact ⟨Y10.out.lt (.head _), Y10.out.lt (.tail _ (.head _))⟩)
    have QE := Bx.mk (Y10.out.new (.cells z1 40))
    rw [hE] at QE
    go_upto_region 17 with (first | (refine wpList_load_mid rfl 32 _ rfl D 0 (by rfl) tbl _ (row_rng (Y10.out.rows _ (.head _))) Tryd.underlying32 rfl HTI.out.2.2.2 ?_) | (refine wpList_store_new rfl 40 _ _ rfl E (u8s sk) z1 _ (by rfl) (by rfl) (QE.out.rows _ (.head _)) (HA.out sk HLs.out).2 (HA.out sk HLs.out).1 (one_u8s _) ?_; intro X11 hw8 hr8; have hg8 := Bx.mk (kb_of hw8); have HR8 := Bx.mk hr8; clear hw8 hr8))
    have Y11 := Bx.mk (QE.out.set hg8.out HR8.out (by have h := LE.out; have := Y10.out.le; omega) (by intro y hy; have h := LE.out; simp at hy; rcases hy with rfl | rfl <;> (simp only; omega)))
    have hb := below_of hE hg8.out
    have M_ := Bx.mk (M_.out.later hb)
    have Kk := Bx.mk (Kk.out.later hb)
    have Kva := Bx.mk (Kva.out.later hb)
    have Kvb := Bx.mk (Kvb.out.later hb)
    clear hb QE hg8 HR8 Y10 hE
    go_wp2_with fail
    refine (HNs.out X11 _ (row_bytes (Y11.out.rows _ (.head _)) HLs.out)).mono ?_
    rintro e X12 ⟨vs1, rfl, hk, hb⟩
    have Y12 := Bx.mk (Y11.out.later hb)
    have M_ := Bx.mk (M_.out.later hb)
    have Kk := Bx.mk (Kk.out.later hb)
    have Kva := Bx.mk (Kva.out.later hb)
    have Kvb := Bx.mk (Kvb.out.later hb)
    have Ks1 := Bx.mk hk.key
    clear hb Y11
    clear hk
    go_wp2_with fail
    refine (HSe.out X12 vs1 Y12.out.below Ks1.out).mono ?_
    rintro e X13 ⟨vx, rfl, hk, hb⟩
    have Y13 := Bx.mk (Y12.out.later hb)
    have M_ := Bx.mk (M_.out.later hb)
    have Kk := Bx.mk (Kk.out.later hb)
    have Kva := Bx.mk (Kva.out.later hb)
    have Kvb := Bx.mk (Kvb.out.later hb)
    have Ks1 := Bx.mk (Ks1.out.later hb)
    have Kvx := Bx.mk hk.key
    clear hb Y12
    clear hk
    go_wp2_with fail
    refine (HNs.out X13 _ (row_bytes (Y13.out.rows _ (.head _)) HLs.out)).mono ?_
    rintro e X14 ⟨vs2, rfl, hk, hb⟩
    have Y14 := Bx.mk (Y13.out.later hb)
    have M_ := Bx.mk (M_.out.later hb)
    have Kk := Bx.mk (Kk.out.later hb)
    have Kva := Bx.mk (Kva.out.later hb)
    have Kvb := Bx.mk (Kvb.out.later hb)
    have Ks1 := Bx.mk (Ks1.out.later hb)
    have Kvx := Bx.mk (Kvx.out.later hb)
    have Ks2 := Bx.mk hk.key
    clear hb Y13
    clear hk
    go_wp2_with fail
    refine (HSd.out X14 vs2 Y14.out.below Ks2.out).mono ?_
    rintro e X15 ⟨vy, rfl, hk, hb⟩
    have Y15 := Bx.mk (Y14.out.later hb)
    have M_ := Bx.mk (M_.out.later hb)
    have Kk := Bx.mk (Kk.out.later hb)
    have Kva := Bx.mk (Kva.out.later hb)
    have Kvb := Bx.mk (Kvb.out.later hb)
    have Ks1 := Bx.mk (Ks1.out.later hb)
    have Kvx := Bx.mk (Kvx.out.later hb)
    have Ks2 := Bx.mk (Ks2.out.later hb)
    have Kvy := Bx.mk hk.key
    clear hb Y14
    clear hk
    obtain ⟨k0, k1, k2, k3⟩ := cells4 (Y15.out.rows _ (.tail _ (.tail _ (.head _))))
    go_wp2_with (refine wpList_load_mid rfl 32 _ rfl D 0 (by rfl) tbl _ (row_rng (Y15.out.rows _ (.tail _ (.head _)))) Tryd.underlying32 rfl HTI.out.2.2.2 ?_)
    clear k0 k1 k2 k3
    refine (HRg.out X15 _ M_.out).mono ?_
    rintro e X16 ⟨rfl, hb⟩
    have Y16 := Bx.mk (Y15.out.later hb)
    have M_ := Bx.mk (M_.out.later hb)
    have Kk := Bx.mk (Kk.out.later hb)
    have Kva := Bx.mk (Kva.out.later hb)
    have Kvb := Bx.mk (Kvb.out.later hb)
    have Ks1 := Bx.mk (Ks1.out.later hb)
    have Kvx := Bx.mk (Kvx.out.later hb)
    have Ks2 := Bx.mk (Ks2.out.later hb)
    have Kvy := Bx.mk (Kvy.out.later hb)
    clear hb Y15
    obtain ⟨F, hF⟩ : ∃ F, X16.heap.size = F := ⟨_, rfl⟩
    have LF : Bx (E < F ∧ D < F ∧ B < F) := Bx.mk (by rw [← hF]; exact ⟨Y16.out.lt (.head _), Y16.out.lt (.tail _ (.head _)), Y16.out.lt (.tail _ (.tail _ (.head _)))⟩)
    have QF := Bx.mk (Y16.out.new (.cells z1 40))
    rw [hF] at QF
    go_upto_region 23 with (first | (refine wpList_load_mid rfl 32 _ rfl D 0 (by rfl) tbl _ (row_rng (Y16.out.rows _ (.tail _ (.head _)))) Tryd.underlying32 rfl HTI.out.2.2.2 ?_) | (refine wpList_store_new rfl 40 _ _ rfl F (u8s kg) z1 _ (by rfl) (by rfl) (QF.out.rows _ (.head _)) (HA.out kg HLg.out).2 (HA.out kg HLg.out).1 (one_u8s _) ?_; intro X17 hw8 hr8; have hg8 := Bx.mk (kb_of hw8); have HR8 := Bx.mk hr8; clear hw8 hr8))
    have Y17 := Bx.mk (QF.out.set hg8.out HR8.out (by have h := LF.out; have := Y16.out.le; omega) (by intro y hy; have h := LF.out; simp at hy; rcases hy with rfl | rfl | rfl <;> (simp only; omega)))
    have hb := below_of hF hg8.out
    have M_ := Bx.mk (M_.out.later hb)
    have Kk := Bx.mk (Kk.out.later hb)
    have Kva := Bx.mk (Kva.out.later hb)
    have Kvb := Bx.mk (Kvb.out.later hb)
    have Ks1 := Bx.mk (Ks1.out.later hb)
    have Kvx := Bx.mk (Kvx.out.later hb)
    have Ks2 := Bx.mk (Ks2.out.later hb)
    have Kvy := Bx.mk (Kvy.out.later hb)
    clear hb QF hg8 HR8 Y16 hF
    go_upto_region 23 with fail
    have hb : Below X17.heap.size X17 X17.drew := (Below.refl _ _).drew
    have Y18 := Bx.mk (Y17.out.later hb)
    have M_ := Bx.mk (M_.out.later hb)
    have Kk := Bx.mk (Kk.out.later hb)
    have Kva := Bx.mk (Kva.out.later hb)
    have Kvb := Bx.mk (Kvb.out.later hb)
    have Ks1 := Bx.mk (Ks1.out.later hb)
    have Kvx := Bx.mk (Kvx.out.later hb)
    have Ks2 := Bx.mk (Ks2.out.later hb)
    have Kvy := Bx.mk (Kvy.out.later hb)
    clear hb Y17
    refine wp_region_noPanic ?_
    refine wp_region_held_drew (S := fun _ => True) (by kernel_rfl) (True.intro) (fun hHeld => ?_)
    generalize X17.drew = X18 at *
    refine takeL 0 (v := ?_) rfl (by kernel_rfl) (by kernel_rfl) (by kernel_rfl) (fun _ _ _ h => h) (Or.inl ⟨by rfl, ?_⟩) hHeld ?_
    rotate_left 1
    · (intro w hSw; go_simp; try with_reducible rfl)
    try simp only [Act.put, List.setIfInBounds_toArray, List.set_cons_zero, List.set_cons_succ]
    refine takeL 1 (v := ?_) rfl (by kernel_rfl) (by kernel_rfl) (by kernel_rfl) (fun _ _ _ h => h) (Or.inl ⟨by rfl, ?_⟩) hHeld ?_
    rotate_left 1
    · (intro w hSw; go_simp; try with_reducible rfl)
    try simp only [Act.put, List.setIfInBounds_toArray, List.set_cons_zero, List.set_cons_succ]
    refine takeL 2 (v := ?_) rfl (by kernel_rfl) (by kernel_rfl) (by kernel_rfl) (fun _ _ _ h => h) (Or.inl ⟨by rfl, ?_⟩) hHeld ?_
    rotate_left 1
    · (intro w hSw; go_simp; try with_reducible rfl)
    try simp only [Act.put, List.setIfInBounds_toArray, List.set_cons_zero, List.set_cons_succ]
    refine takeL 3 (v := ?_) rfl (by kernel_rfl) (by kernel_rfl) (by kernel_rfl) (fun _ _ _ h => h) (Or.inl ⟨by rfl, ?_⟩) hHeld ?_
    rotate_left 1
    · (intro w hSw; go_simp; try with_reducible rfl)
    try simp only [Act.put, List.setIfInBounds_toArray, List.set_cons_zero, List.set_cons_succ]
    refine takeL 4 (v := ?_) rfl (by kernel_rfl) (by kernel_rfl) (by kernel_rfl) (fun _ _ _ h => h) (Or.inl ⟨by rfl, ?_⟩) hHeld ?_
    rotate_left 1
    · (intro w hSw; go_simp; try with_reducible rfl)
    try simp only [Act.put, List.setIfInBounds_toArray, List.set_cons_zero, List.set_cons_succ]
    refine takeL 5 (v := ?_) rfl (by kernel_rfl) (by kernel_rfl) (by kernel_rfl) (fun _ _ _ h => h) (Or.inl ⟨by rfl, ?_⟩) hHeld ?_
    rotate_left 1
    · (intro w hSw; go_simp; try with_reducible rfl)
    try simp only [Act.put, List.setIfInBounds_toArray, List.set_cons_zero, List.set_cons_succ]
    refine takeL 6 (v := ?_) rfl (by kernel_rfl) (by kernel_rfl) (by kernel_rfl) (fun _ _ _ h => h) (Or.inl ⟨by rfl, ?_⟩) hHeld ?_
    rotate_left 1
    · (intro w hSw; go_simp; try with_reducible rfl)
    try simp only [Act.put, List.setIfInBounds_toArray, List.set_cons_zero, List.set_cons_succ]
    refine takeL 7 (v := ?_) rfl (by kernel_rfl) (by kernel_rfl) (by kernel_rfl) (fun _ _ _ h => h) (Or.inl ⟨by rfl, ?_⟩) hHeld ?_
    rotate_left 1
    · (intro w hSw; go_simp; try with_reducible rfl)
    try simp only [Act.put, List.setIfInBounds_toArray, List.set_cons_zero, List.set_cons_succ]
    refine takeL 9 (v := ?_) rfl (by kernel_rfl) (by kernel_rfl) (by kernel_rfl) (fun _ _ _ h => h) (Or.inl ⟨by rfl, ?_⟩) hHeld ?_
    rotate_left 1
    · (intro w hSw; go_simp; try with_reducible rfl)
    try simp only [Act.put, List.setIfInBounds_toArray, List.set_cons_zero, List.set_cons_succ]
    refine stepL 8 (by kernel_rfl) rfl (fun K hK => ?_)
    go_simp
    refine (HKb.out kg X18 va HLg.out Kva.out).mono ?_
    rintro e X19 ⟨u1, rfl, ho, hb⟩
    show K _ _
    have Y19 := Bx.mk (Y18.out.later hb)
    have M_ := Bx.mk (M_.out.later hb)
    have Kk := Bx.mk (Kk.out.later hb)
    have Kva := Bx.mk (Kva.out.later hb)
    have Kvb := Bx.mk (Kvb.out.later hb)
    have Ks1 := Bx.mk (Ks1.out.later hb)
    have Kvx := Bx.mk (Kvx.out.later hb)
    have Ks2 := Bx.mk (Ks2.out.later hb)
    have Kvy := Bx.mk (Kvy.out.later hb)
    have Bu1 := Bx.mk ho.bytes
    clear hb Y18
    clear ho
    refine hK.out _ _ (True.intro) (fun hHeld => ?_)
    clear hK K
    try simp only [Act.put, List.setIfInBounds_toArray, List.set_cons_zero, List.set_cons_succ]
    refine stepL 10 (by kernel_rfl) rfl (fun K hK => ?_)
    go_simp
    refine (HSame.out kg X19 _ _ HLg.out Bu1.out (row_bytes (Y19.out.rows _ (.head _)) HLg.out)).mono ?_
    rintro e X20 ⟨rfl, hdd⟩
    show K _ _
    obtain ⟨nd, hnd⟩ := hdd
    have hb : Below X19.heap.size X19 X20 := by rw [hnd]; exact drewN_below _ _
    clear hnd
    have Y20 := Bx.mk (Y19.out.later hb)
    have M_ := Bx.mk (M_.out.later hb)
    have Kk := Bx.mk (Kk.out.later hb)
    have Kva := Bx.mk (Kva.out.later hb)
    have Kvb := Bx.mk (Kvb.out.later hb)
    have Ks1 := Bx.mk (Ks1.out.later hb)
    have Kvx := Bx.mk (Kvx.out.later hb)
    have Ks2 := Bx.mk (Ks2.out.later hb)
    have Kvy := Bx.mk (Kvy.out.later hb)
    clear hb Y19
    refine hK.out _ _ True.intro (fun hHeld => ?_)
    clear hK K
    try simp only [Act.put, List.setIfInBounds_toArray, List.set_cons_zero, List.set_cons_succ]
    refine takeL 11 (v := ?_) rfl (by kernel_rfl) (by kernel_rfl) (by kernel_rfl) (fun _ _ _ h => h) (Or.inl ⟨by rfl, ?_⟩) hHeld ?_
    rotate_left 1
    · (intro w hSw; go_simp; try with_reducible rfl)
    try simp only [Act.put, List.setIfInBounds_toArray, List.set_cons_zero, List.set_cons_succ]
    refine takeL 12 (v := ?_) rfl (by kernel_rfl) (by kernel_rfl) (by kernel_rfl) (fun _ _ _ h => h) (Or.inl ⟨by rfl, ?_⟩) hHeld ?_
    rotate_left 1
    · (intro w hSw; go_simp; try with_reducible rfl)
    try simp only [Act.put, List.setIfInBounds_toArray, List.set_cons_zero, List.set_cons_succ]
    refine takeL 13 (v := ?_) rfl (by kernel_rfl) (by kernel_rfl) (by kernel_rfl) (fun _ _ _ h => h) (Or.inl ⟨by rfl, ?_⟩) hHeld ?_
    rotate_left 1
    · (intro w hSw; go_simp; try with_reducible rfl)
    try simp only [Act.put, List.setIfInBounds_toArray, List.set_cons_zero, List.set_cons_succ]
    refine takeL 14 (v := ?_) rfl (by kernel_rfl) (by kernel_rfl) (by kernel_rfl) (fun _ _ _ h => h) (Or.inl ⟨by rfl, ?_⟩) hHeld ?_
    rotate_left 1
    · (intro w hSw; go_simp; try with_reducible rfl)
    try simp only [Act.put, List.setIfInBounds_toArray, List.set_cons_zero, List.set_cons_succ]
    refine takeL 16 (v := ?_) rfl (by kernel_rfl) (by kernel_rfl) (by kernel_rfl) (fun _ _ _ h => h) (Or.inl ⟨by rfl, ?_⟩) hHeld ?_
    rotate_left 1
    · (intro w hSw; go_simp; try with_reducible rfl)
    try simp only [Act.put, List.setIfInBounds_toArray, List.set_cons_zero, List.set_cons_succ]
    refine stepL 15 (by kernel_rfl) rfl (fun K hK => ?_)
    go_simp
    refine (HKb.out kg X20 vx HLg.out Kvx.out).mono ?_
    rintro e X21 ⟨u2, rfl, ho, hb⟩
    show K _ _
    have Y21 := Bx.mk (Y20.out.later hb)
    have M_ := Bx.mk (M_.out.later hb)
    have Kk := Bx.mk (Kk.out.later hb)
    have Kva := Bx.mk (Kva.out.later hb)
    have Kvb := Bx.mk (Kvb.out.later hb)
    have Ks1 := Bx.mk (Ks1.out.later hb)
    have Kvx := Bx.mk (Kvx.out.later hb)
    have Ks2 := Bx.mk (Ks2.out.later hb)
    have Kvy := Bx.mk (Kvy.out.later hb)
    have Bu2 := Bx.mk ho.bytes
    clear hb Y20
    clear ho
    refine hK.out _ _ (True.intro) (fun hHeld => ?_)
    clear hK K
    try simp only [Act.put, List.setIfInBounds_toArray, List.set_cons_zero, List.set_cons_succ]
    refine stepL 17 (by kernel_rfl) rfl (fun K hK => ?_)
    go_simp
    refine (HSame.out kg X21 _ _ HLg.out Bu2.out (row_bytes (Y21.out.rows _ (.head _)) HLg.out)).mono ?_
    rintro e X22 ⟨rfl, hdd⟩
    show K _ _
    obtain ⟨nd, hnd⟩ := hdd
    have hb : Below X21.heap.size X21 X22 := by rw [hnd]; exact drewN_below _ _
    clear hnd
    have Y22 := Bx.mk (Y21.out.later hb)
    have M_ := Bx.mk (M_.out.later hb)
    have Kk := Bx.mk (Kk.out.later hb)
    have Kva := Bx.mk (Kva.out.later hb)
    have Kvb := Bx.mk (Kvb.out.later hb)
    have Ks1 := Bx.mk (Ks1.out.later hb)
    have Kvx := Bx.mk (Kvx.out.later hb)
    have Ks2 := Bx.mk (Ks2.out.later hb)
    have Kvy := Bx.mk (Kvy.out.later hb)
    clear hb Y21
    refine hK.out _ _ True.intro (fun hHeld => ?_)
    clear hK K
    try simp only [Act.put, List.setIfInBounds_toArray, List.set_cons_zero, List.set_cons_succ]
    refine takeL 18 (v := ?_) rfl (by kernel_rfl) (by kernel_rfl) (by kernel_rfl) (fun _ _ _ h => h) (Or.inl ⟨by rfl, ?_⟩) hHeld ?_
    rotate_left 1
    · (intro w hSw; go_simp; try with_reducible rfl)
    try simp only [Act.put, List.setIfInBounds_toArray, List.set_cons_zero, List.set_cons_succ]
    refine takeL 19 (v := ?_) rfl (by kernel_rfl) (by kernel_rfl) (by kernel_rfl) (fun _ _ _ h => h) (Or.inl ⟨by rfl, ?_⟩) hHeld ?_
    rotate_left 1
    · (intro w hSw; go_simp; try with_reducible rfl)
    try simp only [Act.put, List.setIfInBounds_toArray, List.set_cons_zero, List.set_cons_succ]
    refine wpAnyH_done (by kernel_rfl) ?_ _
    refine NoPanic.normal ?_
    clear hHeld
    go_upto_region 27 with fail
    have hb : Below X22.heap.size X22 X22.drew := (Below.refl _ _).drew
    have Y23 := Bx.mk (Y22.out.later hb)
    have M_ := Bx.mk (M_.out.later hb)
    have Kk := Bx.mk (Kk.out.later hb)
    have Kva := Bx.mk (Kva.out.later hb)
    have Kvb := Bx.mk (Kvb.out.later hb)
    have Ks1 := Bx.mk (Ks1.out.later hb)
    have Kvx := Bx.mk (Kvx.out.later hb)
    have Ks2 := Bx.mk (Ks2.out.later hb)
    have Kvy := Bx.mk (Kvy.out.later hb)
    clear hb Y22
    refine wp_region_noPanic ?_
    refine wp_region_held_drew (S := fun W => W.rangeAt D 0 tbl) (by kernel_rfl) (row_rng (Y23.out.rows _ (.tail _ (.tail _ (.head _))))) (fun hHeld => ?_)
    generalize X22.drew = X23 at *
    refine takeL 0 rfl (by kernel_rfl) (by kernel_rfl) (by kernel_rfl) (fun _ _ _ h => h) (yieldsIf_load_mid (by rfl) _ _ rfl _ _ rfl _ _ (fun w hSw => hSw) Tryd.underlying32 rfl HTI.out.2.2.2) hHeld ?_
    try simp only [Act.put, List.setIfInBounds_toArray, List.set_cons_zero, List.set_cons_succ]
    refine takeL 1 (v := ?_) rfl (by kernel_rfl) (by kernel_rfl) (by kernel_rfl) (fun _ _ _ h => h) (Or.inl ⟨by rfl, ?_⟩) hHeld ?_
    rotate_left 1
    · (intro w hSw; go_simp; try with_reducible rfl)
    try simp only [Act.put, List.setIfInBounds_toArray, List.set_cons_zero, List.set_cons_succ]
    refine takeL 2 (v := ?_) rfl (by kernel_rfl) (by kernel_rfl) (by kernel_rfl) (fun _ _ _ h => h) (Or.inl ⟨by rfl, ?_⟩) hHeld ?_
    rotate_left 1
    · (intro w hSw; go_simp; try with_reducible rfl)
    try simp only [Act.put, List.setIfInBounds_toArray, List.set_cons_zero, List.set_cons_succ]
    refine wpAnyH_ready (rs := [3, 4]) (by kernel_rfl) (by simp) ?_
    refine consM 3 rfl (fun K hK => ?_) (consM 4 rfl (fun K hK => ?_) AllReadyH.nil)
    · go_simp
      refine (HRs.out X23 _ (row_bytes (Y23.out.rows _ (.tail _ (.head _))) HLs.out)).mono ?_
      rintro e X24 ⟨rfl, hb⟩
      show K _ _
      have Y24 := Bx.mk (Y23.out.later hb)
      have M_ := Bx.mk (M_.out.later hb)
      have Kk := Bx.mk (Kk.out.later hb)
      have Kva := Bx.mk (Kva.out.later hb)
      have Kvb := Bx.mk (Kvb.out.later hb)
      have Ks1 := Bx.mk (Ks1.out.later hb)
      have Kvx := Bx.mk (Kvx.out.later hb)
      have Ks2 := Bx.mk (Ks2.out.later hb)
      have Kvy := Bx.mk (Kvy.out.later hb)
      clear hb Y23
      refine hK.out _ _ (row_rng (Y24.out.rows _ (.tail _ (.tail _ (.head _))))) (fun hHeld => ?_)
      clear hK K
      try simp only [Act.put, List.setIfInBounds_toArray, List.set_cons_zero, List.set_cons_succ]
      refine stepL 4 (by kernel_rfl) rfl (fun K hK => ?_)
      go_simp
      show K _ _
      obtain ⟨J, hJ⟩ : ∃ J, X24.heap.size = J := ⟨_, rfl⟩
      have LJ : Bx (F < J ∧ E < J ∧ D < J ∧ B < J) := Bx.mk (by rw [← hJ]; exact ⟨Y24.out.lt (.head _), Y24.out.lt (.tail _ (.head _)), Y24.out.lt (.tail _ (.tail _ (.head _))), Y24.out.lt (.tail _ (.tail _ (.tail _ (.head _))))⟩)
      have LB : Bx (B ≤ J) := Bx.mk (by rw [← hJ]; exact Y24.out.le)
      have YJ := Bx.mk (show Below X24.heap.size X24 (X24.alloc (.cells z1 40)) from below_a _)
      rw [hJ] at YJ
      have HJ := Bx.mk hJ
      have Y25 := Bx.mk (Y24.out.new (.cells z1 40))
      rw [hJ] at Y25 ⊢
      clear Y24 hJ
      generalize X24.alloc (.cells z1 40) = X25 at *
      refine hK.out _ _ (row_rng (Y25.out.rows _ (.tail _ (.tail _ (.tail _ (.head _)))))) (fun hHeld => ?_)
      clear hK K
      try simp only [Act.put, List.setIfInBounds_toArray, List.set_cons_zero, List.set_cons_succ]
      refine stepL 5 (by kernel_rfl) rfl (fun K hK => ?_)
      refine step_st rfl 40 _ _ rfl J (u8s km) (by rfl) (by rfl) (there_row (Y25.out.rows _ (.head _)) 0 _ (by rw [(HA.out km HLm.out).2]; omega)) (HA.out km HLm.out).1 (one_u8s _) ?_
      have hr2 := heap_setCells_all (ds := u8s km) (Y25.out.rows _ (.head _)) (HA.out km HLm.out).2
      have hg2 := kb_setCells (b := J) (u8s km).toList 0 X25
      have Y26 := Bx.mk (Y25.out.set hg2 hr2 LB.out (by intro y hy; have h := LJ.out; simp at hy; rcases hy with rfl | rfl | rfl | rfl <;> (simp only; omega)))
      have hb : Below X24.heap.size X24 (X25.setCells J 0 (u8s km).toList) := by
        have h := YJ.out.trans (grown_below hg2 (Nat.le_refl J) (by have := YJ.out.size; rw [HJ.out] at this; exact this))
        rw [HJ.out]
        exact h
      have M_ := Bx.mk (M_.out.later hb)
      have Kk := Bx.mk (Kk.out.later hb)
      have Kva := Bx.mk (Kva.out.later hb)
      have Kvb := Bx.mk (Kvb.out.later hb)
      have Ks1 := Bx.mk (Ks1.out.later hb)
      have Kvx := Bx.mk (Kvx.out.later hb)
      have Ks2 := Bx.mk (Ks2.out.later hb)
      have Kvy := Bx.mk (Kvy.out.later hb)
      clear hb hr2 hg2 Y25 YJ
      generalize X25.setCells J 0 (u8s km).toList = X26 at *
      refine hK.out _ _ (row_rng (Y26.out.rows _ (.tail _ (.tail _ (.tail _ (.head _)))))) (fun hHeld => ?_)
      clear hK K
      try simp only [Act.put]
      refine wpAnyH_done (by kernel_rfl) ?_ _
      refine NoPanic.normal ?_
      clear hHeld
      go_upto_region 28 with fail
      have hb : Below X26.heap.size X26 X26.drew := (Below.refl _ _).drew
      have Y27 := Bx.mk (Y26.out.later hb)
      have M_ := Bx.mk (M_.out.later hb)
      have Kk := Bx.mk (Kk.out.later hb)
      have Kva := Bx.mk (Kva.out.later hb)
      have Kvb := Bx.mk (Kvb.out.later hb)
      have Ks1 := Bx.mk (Ks1.out.later hb)
      have Kvx := Bx.mk (Kvx.out.later hb)
      have Ks2 := Bx.mk (Ks2.out.later hb)
      have Kvy := Bx.mk (Kvy.out.later hb)
      clear hb Y26
      refine wp_region_noPanic ?_
      refine wp_region_held_drew (S := fun _ => True) (by kernel_rfl) (True.intro) (fun hHeld => ?_)
      generalize X26.drew = X27 at *
      refine stepL 0 (by kernel_rfl) rfl (fun K hK => ?_)
      go_simp
      refine (known7_any X27 (HT.out X27 Y27.out.below).1 (HT.out X27 Y27.out.below).2).mono ?_
      rintro e X28 ⟨rfl, hb⟩
      show K _ _
      have Y28 := Bx.mk (Y27.out.later hb)
      have M_ := Bx.mk (M_.out.later hb)
      have Kk := Bx.mk (Kk.out.later hb)
      have Kva := Bx.mk (Kva.out.later hb)
      have Kvb := Bx.mk (Kvb.out.later hb)
      have Ks1 := Bx.mk (Ks1.out.later hb)
      have Kvx := Bx.mk (Kvx.out.later hb)
      have Ks2 := Bx.mk (Ks2.out.later hb)
      have Kvy := Bx.mk (Kvy.out.later hb)
      clear hb Y27
      refine hK.out _ _ (True.intro) (fun hHeld => ?_)
      clear hK K
      try simp only [Act.put, List.setIfInBounds_toArray, List.set_cons_zero, List.set_cons_succ]
      refine takeL 1 (v := ?_) rfl (by kernel_rfl) (by kernel_rfl) (by kernel_rfl) (fun _ _ _ h => h) (Or.inl ⟨by rfl, ?_⟩) hHeld ?_
      rotate_left 1
      · (intro w hSw; go_simp; try with_reducible rfl)
      try simp only [Act.put, List.setIfInBounds_toArray, List.set_cons_zero, List.set_cons_succ]
      refine takeL 2 (v := ?_) rfl (by kernel_rfl) (by kernel_rfl) (by kernel_rfl) (fun _ _ _ h => h) (Or.inl ⟨by rfl, ?_⟩) hHeld ?_
      rotate_left 1
      · (intro w hSw; go_simp; try with_reducible rfl)
      try simp only [Act.put, List.setIfInBounds_toArray, List.set_cons_zero, List.set_cons_succ]
      refine takeL 3 (v := ?_) rfl (by kernel_rfl) (by kernel_rfl) (by kernel_rfl) (fun _ _ _ h => h) (Or.inl ⟨by rfl, ?_⟩) hHeld ?_
      rotate_left 1
      · (intro w hSw; go_simp; try with_reducible rfl)
      try simp only [Act.put, List.setIfInBounds_toArray, List.set_cons_zero, List.set_cons_succ]
      refine takeL 4 (v := ?_) rfl (by kernel_rfl) (by kernel_rfl) (by kernel_rfl) (fun _ _ _ h => h) (Or.inl ⟨by rfl, ?_⟩) hHeld ?_
      rotate_left 1
      · (intro w hSw; go_simp; try with_reducible rfl)
      try simp only [Act.put, List.setIfInBounds_toArray, List.set_cons_zero, List.set_cons_succ]
      refine takeL 5 (v := ?_) rfl (by kernel_rfl) (by kernel_rfl) (by kernel_rfl) (fun _ _ _ h => h) (Or.inl ⟨by rfl, ?_⟩) hHeld ?_
      rotate_left 1
      · (intro w hSw; go_simp; try with_reducible rfl)
      try simp only [Act.put, List.setIfInBounds_toArray, List.set_cons_zero, List.set_cons_succ]
      refine takeL 6 (v := ?_) rfl (by kernel_rfl) (by kernel_rfl) (by kernel_rfl) (fun _ _ _ h => h) (Or.inl ⟨by rfl, ?_⟩) hHeld ?_
      rotate_left 1
      · (intro w hSw; go_simp; try with_reducible rfl)
      try simp only [Act.put, List.setIfInBounds_toArray, List.set_cons_zero, List.set_cons_succ]
      refine takeL 7 (v := ?_) rfl (by kernel_rfl) (by kernel_rfl) (by kernel_rfl) (fun _ _ _ h => h) (Or.inl ⟨by rfl, ?_⟩) hHeld ?_
      rotate_left 1
      · (intro w hSw; go_simp; try with_reducible rfl)
      try simp only [Act.put, List.setIfInBounds_toArray, List.set_cons_zero, List.set_cons_succ]
      refine takeL 8 (v := ?_) rfl (by kernel_rfl) (by kernel_rfl) (by kernel_rfl) (fun _ _ _ h => h) (Or.inl ⟨by rfl, ?_⟩) hHeld ?_
      rotate_left 1
      · (intro w hSw; go_simp; try with_reducible rfl)
      try simp only [Act.put, List.setIfInBounds_toArray, List.set_cons_zero, List.set_cons_succ]
      refine takeL 9 (v := ?_) rfl (by kernel_rfl) (by kernel_rfl) (by kernel_rfl) (fun _ _ _ h => h) (Or.inl ⟨by rfl, ?_⟩) hHeld ?_
      rotate_left 1
      · (intro w hSw; go_simp; try with_reducible rfl)
      try simp only [Act.put, List.setIfInBounds_toArray, List.set_cons_zero, List.set_cons_succ]
      refine takeL 10 (v := ?_) rfl (by kernel_rfl) (by kernel_rfl) (by kernel_rfl) (fun _ _ _ h => h) (Or.inl ⟨by rfl, ?_⟩) hHeld ?_
      rotate_left 1
      · (intro w hSw; go_simp; try with_reducible rfl)
      try simp only [Act.put, List.setIfInBounds_toArray, List.set_cons_zero, List.set_cons_succ]
      refine takeL 12 (v := ?_) rfl (by kernel_rfl) (by kernel_rfl) (by kernel_rfl) (fun _ _ _ h => h) (Or.inl ⟨by rfl, ?_⟩) hHeld ?_
      rotate_left 1
      · (intro w hSw; go_simp; try with_reducible rfl)
      try simp only [Act.put, List.setIfInBounds_toArray, List.set_cons_zero, List.set_cons_succ]
      refine stepL 11 (by kernel_rfl) rfl (fun K hK => ?_)
      go_simp
      refine (HKb.out km X28 vb HLm.out Kvb.out).mono ?_
      rintro e X29 ⟨u3, rfl, ho, hb⟩
      show K _ _
      have Y29 := Bx.mk (Y28.out.later hb)
      have M_ := Bx.mk (M_.out.later hb)
      have Kk := Bx.mk (Kk.out.later hb)
      have Kva := Bx.mk (Kva.out.later hb)
      have Kvb := Bx.mk (Kvb.out.later hb)
      have Ks1 := Bx.mk (Ks1.out.later hb)
      have Kvx := Bx.mk (Kvx.out.later hb)
      have Ks2 := Bx.mk (Ks2.out.later hb)
      have Kvy := Bx.mk (Kvy.out.later hb)
      have Bu3 := Bx.mk ho.bytes
      clear hb Y28
      clear ho
      refine hK.out _ _ (True.intro) (fun hHeld => ?_)
      clear hK K
      try simp only [Act.put, List.setIfInBounds_toArray, List.set_cons_zero, List.set_cons_succ]
      refine stepL 13 (by kernel_rfl) rfl (fun K hK => ?_)
      go_simp
      refine (HSame.out km X29 _ _ HLm.out Bu3.out (row_bytes (Y29.out.rows _ (.head _)) HLm.out)).mono ?_
      rintro e X30 ⟨rfl, hdd⟩
      show K _ _
      obtain ⟨nd, hnd⟩ := hdd
      have hb : Below X29.heap.size X29 X30 := by rw [hnd]; exact drewN_below _ _
      clear hnd
      have Y30 := Bx.mk (Y29.out.later hb)
      have M_ := Bx.mk (M_.out.later hb)
      have Kk := Bx.mk (Kk.out.later hb)
      have Kva := Bx.mk (Kva.out.later hb)
      have Kvb := Bx.mk (Kvb.out.later hb)
      have Ks1 := Bx.mk (Ks1.out.later hb)
      have Kvx := Bx.mk (Kvx.out.later hb)
      have Ks2 := Bx.mk (Ks2.out.later hb)
      have Kvy := Bx.mk (Kvy.out.later hb)
      clear hb Y29
      refine hK.out _ _ True.intro (fun hHeld => ?_)
      clear hK K
      try simp only [Act.put, List.setIfInBounds_toArray, List.set_cons_zero, List.set_cons_succ]
      refine takeL 14 (v := ?_) rfl (by kernel_rfl) (by kernel_rfl) (by kernel_rfl) (fun _ _ _ h => h) (Or.inl ⟨by rfl, ?_⟩) hHeld ?_
      rotate_left 1
      · (intro w hSw; go_simp; try with_reducible rfl)
      try simp only [Act.put, List.setIfInBounds_toArray, List.set_cons_zero, List.set_cons_succ]
      refine takeL 15 (v := ?_) rfl (by kernel_rfl) (by kernel_rfl) (by kernel_rfl) (fun _ _ _ h => h) (Or.inl ⟨by rfl, ?_⟩) hHeld ?_
      rotate_left 1
      · (intro w hSw; go_simp; try with_reducible rfl)
      try simp only [Act.put, List.setIfInBounds_toArray, List.set_cons_zero, List.set_cons_succ]
      refine takeL 16 (v := ?_) rfl (by kernel_rfl) (by kernel_rfl) (by kernel_rfl) (fun _ _ _ h => h) (Or.inl ⟨by rfl, ?_⟩) hHeld ?_
      rotate_left 1
      · (intro w hSw; go_simp; try with_reducible rfl)
      try simp only [Act.put, List.setIfInBounds_toArray, List.set_cons_zero, List.set_cons_succ]
      refine takeL 18 (v := ?_) rfl (by kernel_rfl) (by kernel_rfl) (by kernel_rfl) (fun _ _ _ h => h) (Or.inl ⟨by rfl, ?_⟩) hHeld ?_
      rotate_left 1
      · (intro w hSw; go_simp; try with_reducible rfl)
      try simp only [Act.put, List.setIfInBounds_toArray, List.set_cons_zero, List.set_cons_succ]
      refine stepL 17 (by kernel_rfl) rfl (fun K hK => ?_)
      go_simp
      refine (HKb.out km X30 vy HLm.out Kvy.out).mono ?_
      rintro e X31 ⟨u4, rfl, ho, hb⟩
      show K _ _
      have Y31 := Bx.mk (Y30.out.later hb)
      have M_ := Bx.mk (M_.out.later hb)
      have Kk := Bx.mk (Kk.out.later hb)
      have Kva := Bx.mk (Kva.out.later hb)
      have Kvb := Bx.mk (Kvb.out.later hb)
      have Ks1 := Bx.mk (Ks1.out.later hb)
      have Kvx := Bx.mk (Kvx.out.later hb)
      have Ks2 := Bx.mk (Ks2.out.later hb)
      have Kvy := Bx.mk (Kvy.out.later hb)
      have Bu4 := Bx.mk ho.bytes
      clear hb Y30
      clear ho
      refine hK.out _ _ (True.intro) (fun hHeld => ?_)
      clear hK K
      try simp only [Act.put, List.setIfInBounds_toArray, List.set_cons_zero, List.set_cons_succ]
      refine stepL 19 (by kernel_rfl) rfl (fun K hK => ?_)
      go_simp
      refine (HSame.out km X31 _ _ HLm.out Bu4.out (row_bytes (Y31.out.rows _ (.head _)) HLm.out)).mono ?_
      rintro e X32 ⟨rfl, hdd⟩
      show K _ _
      obtain ⟨nd, hnd⟩ := hdd
      have hb : Below X31.heap.size X31 X32 := by rw [hnd]; exact drewN_below _ _
      clear hnd
      have Y32 := Bx.mk (Y31.out.later hb)
      have M_ := Bx.mk (M_.out.later hb)
      have Kk := Bx.mk (Kk.out.later hb)
      have Kva := Bx.mk (Kva.out.later hb)
      have Kvb := Bx.mk (Kvb.out.later hb)
      have Ks1 := Bx.mk (Ks1.out.later hb)
      have Kvx := Bx.mk (Kvx.out.later hb)
      have Ks2 := Bx.mk (Ks2.out.later hb)
      have Kvy := Bx.mk (Kvy.out.later hb)
      clear hb Y31
      refine hK.out _ _ True.intro (fun hHeld => ?_)
      clear hK K
      try simp only [Act.put, List.setIfInBounds_toArray, List.set_cons_zero, List.set_cons_succ]
      refine takeL 20 (v := ?_) rfl (by kernel_rfl) (by kernel_rfl) (by kernel_rfl) (fun _ _ _ h => h) (Or.inl ⟨by rfl, ?_⟩) hHeld ?_
      rotate_left 1
      · (intro w hSw; go_simp; try with_reducible rfl)
      try simp only [Act.put, List.setIfInBounds_toArray, List.set_cons_zero, List.set_cons_succ]
      refine takeL 21 (v := ?_) rfl (by kernel_rfl) (by kernel_rfl) (by kernel_rfl) (fun _ _ _ h => h) (Or.inl ⟨by rfl, ?_⟩) hHeld ?_
      rotate_left 1
      · (intro w hSw; go_simp; try with_reducible rfl)
      try simp only [Act.put, List.setIfInBounds_toArray, List.set_cons_zero, List.set_cons_succ]
      refine wpAnyH_done (by kernel_rfl) ?_ _
      refine NoPanic.normal ?_
      clear hHeld
      go_wp2
      go_ret
      exact ⟨rfl, Y32.out.below⟩
    · go_simp
      show K _ _
      obtain ⟨J, hJ⟩ : ∃ J, X23.heap.size = J := ⟨_, rfl⟩
      have LJ : Bx (F < J ∧ E < J ∧ D < J ∧ B < J) := Bx.mk (by rw [← hJ]; exact ⟨Y23.out.lt (.head _), Y23.out.lt (.tail _ (.head _)), Y23.out.lt (.tail _ (.tail _ (.head _))), Y23.out.lt (.tail _ (.tail _ (.tail _ (.head _))))⟩)
      have LB : Bx (B ≤ J) := Bx.mk (by rw [← hJ]; exact Y23.out.le)
      have YJ := Bx.mk (show Below X23.heap.size X23 (X23.alloc (.cells z1 40)) from below_a _)
      rw [hJ] at YJ
      have HJ := Bx.mk hJ
      have Y24 := Bx.mk (Y23.out.new (.cells z1 40))
      rw [hJ] at Y24 ⊢
      clear Y23 hJ
      generalize X23.alloc (.cells z1 40) = X24 at *
      refine hK.out _ _ (row_rng (Y24.out.rows _ (.tail _ (.tail _ (.tail _ (.head _)))))) (fun hHeld => ?_)
      clear hK K
      try simp only [Act.put, List.setIfInBounds_toArray, List.set_cons_zero, List.set_cons_succ]
      refine stepL 3 (by kernel_rfl) rfl (fun K hK => ?_)
      go_simp
      refine (HRs.out X24 _ (row_bytes (Y24.out.rows _ (.tail _ (.tail _ (.head _)))) HLs.out)).mono ?_
      rintro e X25 ⟨rfl, hb⟩
      show K _ _
      have YJ := Bx.mk (YJ.out.trans (hb.mono (by rw [← HJ.out]; exact (show X23.heap.size ≤ X24.heap.size from by have := YJ.out.size; omega))))
      have Y25 := Bx.mk (Y24.out.later hb)
      clear hb Y24
      refine hK.out _ _ (row_rng (Y25.out.rows _ (.tail _ (.tail _ (.tail _ (.head _)))))) (fun hHeld => ?_)
      clear hK K
      try simp only [Act.put, List.setIfInBounds_toArray, List.set_cons_zero, List.set_cons_succ]
      refine stepL 5 (by kernel_rfl) rfl (fun K hK => ?_)
      refine step_st rfl 40 _ _ rfl J (u8s km) (by rfl) (by rfl) (there_row (Y25.out.rows _ (.head _)) 0 _ (by rw [(HA.out km HLm.out).2]; omega)) (HA.out km HLm.out).1 (one_u8s _) ?_
      have hr2 := heap_setCells_all (ds := u8s km) (Y25.out.rows _ (.head _)) (HA.out km HLm.out).2
      have hg2 := kb_setCells (b := J) (u8s km).toList 0 X25
      have Y26 := Bx.mk (Y25.out.set hg2 hr2 LB.out (by intro y hy; have h := LJ.out; simp at hy; rcases hy with rfl | rfl | rfl | rfl <;> (simp only; omega)))
      have hb : Below X23.heap.size X23 (X25.setCells J 0 (u8s km).toList) := by
        have h := YJ.out.trans (grown_below hg2 (Nat.le_refl J) (by have := YJ.out.size; rw [HJ.out] at this; exact this))
        rw [HJ.out]
        exact h
      have M_ := Bx.mk (M_.out.later hb)
      have Kk := Bx.mk (Kk.out.later hb)
      have Kva := Bx.mk (Kva.out.later hb)
      have Kvb := Bx.mk (Kvb.out.later hb)
      have Ks1 := Bx.mk (Ks1.out.later hb)
      have Kvx := Bx.mk (Kvx.out.later hb)
      have Ks2 := Bx.mk (Ks2.out.later hb)
      have Kvy := Bx.mk (Kvy.out.later hb)
      clear hb hr2 hg2 Y25 YJ
      generalize X25.setCells J 0 (u8s km).toList = X26 at *
      refine hK.out _ _ (row_rng (Y26.out.rows _ (.tail _ (.tail _ (.tail _ (.head _)))))) (fun hHeld => ?_)
      clear hK K
      try simp only [Act.put]
      refine wpAnyH_done (by kernel_rfl) ?_ _
      refine NoPanic.normal ?_
      clear hHeld
      go_upto_region 28 with fail
      have hb : Below X26.heap.size X26 X26.drew := (Below.refl _ _).drew
      have Y27 := Bx.mk (Y26.out.later hb)
      have M_ := Bx.mk (M_.out.later hb)
      have Kk := Bx.mk (Kk.out.later hb)
      have Kva := Bx.mk (Kva.out.later hb)
      have Kvb := Bx.mk (Kvb.out.later hb)
      have Ks1 := Bx.mk (Ks1.out.later hb)
      have Kvx := Bx.mk (Kvx.out.later hb)
      have Ks2 := Bx.mk (Ks2.out.later hb)
      have Kvy := Bx.mk (Kvy.out.later hb)
      clear hb Y26
      refine wp_region_noPanic ?_
      refine wp_region_held_drew (S := fun _ => True) (by kernel_rfl) (True.intro) (fun hHeld => ?_)
      generalize X26.drew = X27 at *
      refine stepL 0 (by kernel_rfl) rfl (fun K hK => ?_)
      go_simp
      refine (known7_any X27 (HT.out X27 Y27.out.below).1 (HT.out X27 Y27.out.below).2).mono ?_
      rintro e X28 ⟨rfl, hb⟩
      show K _ _
      have Y28 := Bx.mk (Y27.out.later hb)
      have M_ := Bx.mk (M_.out.later hb)
      have Kk := Bx.mk (Kk.out.later hb)
      have Kva := Bx.mk (Kva.out.later hb)
      have Kvb := Bx.mk (Kvb.out.later hb)
      have Ks1 := Bx.mk (Ks1.out.later hb)
      have Kvx := Bx.mk (Kvx.out.later hb)
      have Ks2 := Bx.mk (Ks2.out.later hb)
      have Kvy := Bx.mk (Kvy.out.later hb)
      clear hb Y27
      refine hK.out _ _ (True.intro) (fun hHeld => ?_)
      clear hK K
      try simp only [Act.put, List.setIfInBounds_toArray, List.set_cons_zero, List.set_cons_succ]
      refine takeL 1 (v := ?_) rfl (by kernel_rfl) (by kernel_rfl) (by kernel_rfl) (fun _ _ _ h => h) (Or.inl ⟨by rfl, ?_⟩) hHeld ?_
      rotate_left 1
      · (intro w hSw; go_simp; try with_reducible rfl)
      try simp only [Act.put, List.setIfInBounds_toArray, List.set_cons_zero, List.set_cons_succ]
      refine takeL 2 (v := ?_) rfl (by kernel_rfl) (by kernel_rfl) (by kernel_rfl) (fun _ _ _ h => h) (Or.inl ⟨by rfl, ?_⟩) hHeld ?_
      rotate_left 1
      · (intro w hSw; go_simp; try with_reducible rfl)
      try simp only [Act.put, List.setIfInBounds_toArray, List.set_cons_zero, List.set_cons_succ]
      refine takeL 3 (v := ?_) rfl (by kernel_rfl) (by kernel_rfl) (by kernel_rfl) (fun _ _ _ h => h) (Or.inl ⟨by rfl, ?_⟩) hHeld ?_
      rotate_left 1
      · (intro w hSw; go_simp; try with_reducible rfl)
      try simp only [Act.put, List.setIfInBounds_toArray, List.set_cons_zero, List.set_cons_succ]
      refine takeL 4 (v := ?_) rfl (by kernel_rfl) (by kernel_rfl) (by kernel_rfl) (fun _ _ _ h => h) (Or.inl ⟨by rfl, ?_⟩) hHeld ?_
      rotate_left 1
      · (intro w hSw; go_simp; try with_reducible rfl)
      try simp only [Act.put, List.setIfInBounds_toArray, List.set_cons_zero, List.set_cons_succ]
      refine takeL 5 (v := ?_) rfl (by kernel_rfl) (by kernel_rfl) (by kernel_rfl) (fun _ _ _ h => h) (Or.inl ⟨by rfl, ?_⟩) hHeld ?_
      rotate_left 1
      · (intro w hSw; go_simp; try with_reducible rfl)
      try simp only [Act.put, List.setIfInBounds_toArray, List.set_cons_zero, List.set_cons_succ]
      refine takeL 6 (v := ?_) rfl (by kernel_rfl) (by kernel_rfl) (by kernel_rfl) (fun _ _ _ h => h) (Or.inl ⟨by rfl, ?_⟩) hHeld ?_
      rotate_left 1
      · (intro w hSw; go_simp; try with_reducible rfl)
      try simp only [Act.put, List.setIfInBounds_toArray, List.set_cons_zero, List.set_cons_succ]
      refine takeL 7 (v := ?_) rfl (by kernel_rfl) (by kernel_rfl) (by kernel_rfl) (fun _ _ _ h => h) (Or.inl ⟨by rfl, ?_⟩) hHeld ?_
      rotate_left 1
      · (intro w hSw; go_simp; try with_reducible rfl)
      try simp only [Act.put, List.setIfInBounds_toArray, List.set_cons_zero, List.set_cons_succ]
      refine takeL 8 (v := ?_) rfl (by kernel_rfl) (by kernel_rfl) (by kernel_rfl) (fun _ _ _ h => h) (Or.inl ⟨by rfl, ?_⟩) hHeld ?_
      rotate_left 1
      · (intro w hSw; go_simp; try with_reducible rfl)
      try simp only [Act.put, List.setIfInBounds_toArray, List.set_cons_zero, List.set_cons_succ]
      refine takeL 9 (v := ?_) rfl (by kernel_rfl) (by kernel_rfl) (by kernel_rfl) (fun _ _ _ h => h) (Or.inl ⟨by rfl, ?_⟩) hHeld ?_
      rotate_left 1
      · (intro w hSw; go_simp; try with_reducible rfl)
      try simp only [Act.put, List.setIfInBounds_toArray, List.set_cons_zero, List.set_cons_succ]
      refine takeL 10 (v := ?_) rfl (by kernel_rfl) (by kernel_rfl) (by kernel_rfl) (fun _ _ _ h => h) (Or.inl ⟨by rfl, ?_⟩) hHeld ?_
      rotate_left 1
      · (intro w hSw; go_simp; try with_reducible rfl)
      try simp only [Act.put, List.setIfInBounds_toArray, List.set_cons_zero, List.set_cons_succ]
      refine takeL 12 (v := ?_) rfl (by kernel_rfl) (by kernel_rfl) (by kernel_rfl) (fun _ _ _ h => h) (Or.inl ⟨by rfl, ?_⟩) hHeld ?_
      rotate_left 1
      · (intro w hSw; go_simp; try with_reducible rfl)
      try simp only [Act.put, List.setIfInBounds_toArray, List.set_cons_zero, List.set_cons_succ]
      refine stepL 11 (by kernel_rfl) rfl (fun K hK => ?_)
      go_simp
      refine (HKb.out km X28 vb HLm.out Kvb.out).mono ?_
      rintro e X29 ⟨u3, rfl, ho, hb⟩
      show K _ _
      have Y29 := Bx.mk (Y28.out.later hb)
      have M_ := Bx.mk (M_.out.later hb)
      have Kk := Bx.mk (Kk.out.later hb)
      have Kva := Bx.mk (Kva.out.later hb)
      have Kvb := Bx.mk (Kvb.out.later hb)
      have Ks1 := Bx.mk (Ks1.out.later hb)
      have Kvx := Bx.mk (Kvx.out.later hb)
      have Ks2 := Bx.mk (Ks2.out.later hb)
      have Kvy := Bx.mk (Kvy.out.later hb)
      have Bu3 := Bx.mk ho.bytes
      clear hb Y28
      clear ho
      refine hK.out _ _ (True.intro) (fun hHeld => ?_)
      clear hK K
      try simp only [Act.put, List.setIfInBounds_toArray, List.set_cons_zero, List.set_cons_succ]
      refine stepL 13 (by kernel_rfl) rfl (fun K hK => ?_)
      go_simp
      refine (HSame.out km X29 _ _ HLm.out Bu3.out (row_bytes (Y29.out.rows _ (.head _)) HLm.out)).mono ?_
      rintro e X30 ⟨rfl, hdd⟩
      show K _ _
      obtain ⟨nd, hnd⟩ := hdd
      have hb : Below X29.heap.size X29 X30 := by rw [hnd]; exact drewN_below _ _
      clear hnd
      have Y30 := Bx.mk (Y29.out.later hb)
      have M_ := Bx.mk (M_.out.later hb)
      have Kk := Bx.mk (Kk.out.later hb)
      have Kva := Bx.mk (Kva.out.later hb)
      have Kvb := Bx.mk (Kvb.out.later hb)
      have Ks1 := Bx.mk (Ks1.out.later hb)
      have Kvx := Bx.mk (Kvx.out.later hb)
      have Ks2 := Bx.mk (Ks2.out.later hb)
      have Kvy := Bx.mk (Kvy.out.later hb)
      clear hb Y29
      refine hK.out _ _ True.intro (fun hHeld => ?_)
      clear hK K
      try simp only [Act.put, List.setIfInBounds_toArray, List.set_cons_zero, List.set_cons_succ]
      refine takeL 14 (v := ?_) rfl (by kernel_rfl) (by kernel_rfl) (by kernel_rfl) (fun _ _ _ h => h) (Or.inl ⟨by rfl, ?_⟩) hHeld ?_
      rotate_left 1
      · (intro w hSw; go_simp; try with_reducible rfl)
      try simp only [Act.put, List.setIfInBounds_toArray, List.set_cons_zero, List.set_cons_succ]
      refine takeL 15 (v := ?_) rfl (by kernel_rfl) (by kernel_rfl) (by kernel_rfl) (fun _ _ _ h => h) (Or.inl ⟨by rfl, ?_⟩) hHeld ?_
      rotate_left 1
      · (intro w hSw; go_simp; try with_reducible rfl)
      try simp only [Act.put, List.setIfInBounds_toArray, List.set_cons_zero, List.set_cons_succ]
      refine takeL 16 (v := ?_) rfl (by kernel_rfl) (by kernel_rfl) (by kernel_rfl) (fun _ _ _ h => h) (Or.inl ⟨by rfl, ?_⟩) hHeld ?_
      rotate_left 1
      · (intro w hSw; go_simp; try with_reducible rfl)
      try simp only [Act.put, List.setIfInBounds_toArray, List.set_cons_zero, List.set_cons_succ]
      refine takeL 18 (v := ?_) rfl (by kernel_rfl) (by kernel_rfl) (by kernel_rfl) (fun _ _ _ h => h) (Or.inl ⟨by rfl, ?_⟩) hHeld ?_
      rotate_left 1
      · (intro w hSw; go_simp; try with_reducible rfl)
      try simp only [Act.put, List.setIfInBounds_toArray, List.set_cons_zero, List.set_cons_succ]
      refine stepL 17 (by kernel_rfl) rfl (fun K hK => ?_)
      go_simp
      refine (HKb.out km X30 vy HLm.out Kvy.out).mono ?_
      rintro e X31 ⟨u4, rfl, ho, hb⟩
      show K _ _
      have Y31 := Bx.mk (Y30.out.later hb)
      have M_ := Bx.mk (M_.out.later hb)
      have Kk := Bx.mk (Kk.out.later hb)
      have Kva := Bx.mk (Kva.out.later hb)
      have Kvb := Bx.mk (Kvb.out.later hb)
      have Ks1 := Bx.mk (Ks1.out.later hb)
      have Kvx := Bx.mk (Kvx.out.later hb)
      have Ks2 := Bx.mk (Ks2.out.later hb)
      have Kvy := Bx.mk (Kvy.out.later hb)
      have Bu4 := Bx.mk ho.bytes
      clear hb Y30
      clear ho
      refine hK.out _ _ (True.intro) (fun hHeld => ?_)
      clear hK K
      try simp only [Act.put, List.setIfInBounds_toArray, List.set_cons_zero, List.set_cons_succ]
      refine stepL 19 (by kernel_rfl) rfl (fun K hK => ?_)
      go_simp
      refine (HSame.out km X31 _ _ HLm.out Bu4.out (row_bytes (Y31.out.rows _ (.head _)) HLm.out)).mono ?_
      rintro e X32 ⟨rfl, hdd⟩
      show K _ _
      obtain ⟨nd, hnd⟩ := hdd
      have hb : Below X31.heap.size X31 X32 := by rw [hnd]; exact drewN_below _ _
      clear hnd
      have Y32 := Bx.mk (Y31.out.later hb)
      have M_ := Bx.mk (M_.out.later hb)
      have Kk := Bx.mk (Kk.out.later hb)
      have Kva := Bx.mk (Kva.out.later hb)
      have Kvb := Bx.mk (Kvb.out.later hb)
      have Ks1 := Bx.mk (Ks1.out.later hb)
      have Kvx := Bx.mk (Kvx.out.later hb)
      have Ks2 := Bx.mk (Ks2.out.later hb)
      have Kvy := Bx.mk (Kvy.out.later hb)
      clear hb Y31
      refine hK.out _ _ True.intro (fun hHeld => ?_)
      clear hK K
      try simp only [Act.put, List.setIfInBounds_toArray, List.set_cons_zero, List.set_cons_succ]
      refine takeL 20 (v := ?_) rfl (by kernel_rfl) (by kernel_rfl) (by kernel_rfl) (fun _ _ _ h => h) (Or.inl ⟨by rfl, ?_⟩) hHeld ?_
      rotate_left 1
      · (intro w hSw; go_simp; try with_reducible rfl)
      try simp only [Act.put, List.setIfInBounds_toArray, List.set_cons_zero, List.set_cons_succ]
      refine takeL 21 (v := ?_) rfl (by kernel_rfl) (by kernel_rfl) (by kernel_rfl) (fun _ _ _ h => h) (Or.inl ⟨by rfl, ?_⟩) hHeld ?_
      rotate_left 1
      · (intro w hSw; go_simp; try with_reducible rfl)
      try simp only [Act.put, List.setIfInBounds_toArray, List.set_cons_zero, List.set_cons_succ]
      refine wpAnyH_done (by kernel_rfl) ?_ _
      refine NoPanic.normal ?_
      clear hHeld
      go_wp2
      go_ret
      exact ⟨rfl, Y32.out.below⟩
  · have gr' := Bx.mk gr
    have grn : ¬ nr < 8 := by omega
    obtain ⟨k0, k1, k2, k3⟩ := cells4 (Y8.out.rows _ (.tail _ (.head _)))
    go_wp2_with fail
    clear k0 k1 k2 k3
    refine (HRi.out X8).mono ?_
    rintro e X9 ⟨rfl, hb⟩
    have Y9 := Bx.mk (Y8.out.later hb)
    have M_ := Bx.mk (M_.out.later hb)
    have Kk := Bx.mk (Kk.out.later hb)
    have Kva := Bx.mk (Kva.out.later hb)
    have Kvb := Bx.mk (Kvb.out.later hb)
    clear hb Y8
    obtain ⟨k0, k1, k2, k3⟩ := cells4 (Y9.out.rows _ (.tail _ (.head _)))
    go_wp2_with (refine wpList_load_mid rfl 32 _ rfl D 0 (by rfl) tbl _ (row_rng (Y9.out.rows _ (.head _))) Tryd.underlying32 rfl HTI.out.2.2.2 ?_)
    clear k0 k1 k2 k3
    refine (HSec.out X9 _ M_.out).mono ?_
    rintro e X10 ⟨rfl, hb⟩
    have Y10 := Bx.mk (Y9.out.later hb)
    have M_ := Bx.mk (M_.out.later hb)
    have Kk := Bx.mk (Kk.out.later hb)
    have Kva := Bx.mk (Kva.out.later hb)
    have Kvb := Bx.mk (Kvb.out.later hb)
    clear hb Y9
    obtain ⟨E, hE⟩ : ∃ E, X10.heap.size = E := ⟨_, rfl⟩
    have LE : Bx (D < E ∧ B < E) := Bx.mk (by rw [← hE]; exact ⟨Y10.out.lt (.head _), Y10.out.lt (.tail _ (.head _))⟩)
    have QE := Bx.mk (Y10.out.new (.cells z1 40))
    rw [hE] at QE
    go_upto_region 17 with (first | (refine wpList_load_mid rfl 32 _ rfl D 0 (by rfl) tbl _ (row_rng (Y10.out.rows _ (.head _))) Tryd.underlying32 rfl HTI.out.2.2.2 ?_) | (refine wpList_store_new rfl 40 _ _ rfl E (u8s sk) z1 _ (by rfl) (by rfl) (QE.out.rows _ (.head _)) (HA.out sk HLs.out).2 (HA.out sk HLs.out).1 (one_u8s _) ?_; intro X11 hw8 hr8; have hg8 := Bx.mk (kb_of hw8); have HR8 := Bx.mk hr8; clear hw8 hr8))
    have Y11 := Bx.mk (QE.out.set hg8.out HR8.out (by have h := LE.out; have := Y10.out.le; omega) (by intro y hy; have h := LE.out; simp at hy; rcases hy with rfl | rfl <;> (simp only; omega)))
    have hb := below_of hE hg8.out
    have M_ := Bx.mk (M_.out.later hb)
    have Kk := Bx.mk (Kk.out.later hb)
    have Kva := Bx.mk (Kva.out.later hb)
    have Kvb := Bx.mk (Kvb.out.later hb)
    clear hb QE hg8 HR8 Y10 hE
    go_wp2_with fail
    refine (HNs.out X11 _ (row_bytes (Y11.out.rows _ (.head _)) HLs.out)).mono ?_
    rintro e X12 ⟨vs1, rfl, hk, hb⟩
    have Y12 := Bx.mk (Y11.out.later hb)
    have M_ := Bx.mk (M_.out.later hb)
    have Kk := Bx.mk (Kk.out.later hb)
    have Kva := Bx.mk (Kva.out.later hb)
    have Kvb := Bx.mk (Kvb.out.later hb)
    have Ks1 := Bx.mk hk.key
    clear hb Y11
    clear hk
    go_wp2_with fail
    refine (HSe.out X12 vs1 Y12.out.below Ks1.out).mono ?_
    rintro e X13 ⟨vx, rfl, hk, hb⟩
    have Y13 := Bx.mk (Y12.out.later hb)
    have M_ := Bx.mk (M_.out.later hb)
    have Kk := Bx.mk (Kk.out.later hb)
    have Kva := Bx.mk (Kva.out.later hb)
    have Kvb := Bx.mk (Kvb.out.later hb)
    have Ks1 := Bx.mk (Ks1.out.later hb)
    have Kvx := Bx.mk hk.key
    clear hb Y12
    clear hk
    go_wp2_with fail
    refine (HNs.out X13 _ (row_bytes (Y13.out.rows _ (.head _)) HLs.out)).mono ?_
    rintro e X14 ⟨vs2, rfl, hk, hb⟩
    have Y14 := Bx.mk (Y13.out.later hb)
    have M_ := Bx.mk (M_.out.later hb)
    have Kk := Bx.mk (Kk.out.later hb)
    have Kva := Bx.mk (Kva.out.later hb)
    have Kvb := Bx.mk (Kvb.out.later hb)
    have Ks1 := Bx.mk (Ks1.out.later hb)
    have Kvx := Bx.mk (Kvx.out.later hb)
    have Ks2 := Bx.mk hk.key
    clear hb Y13
    clear hk
    go_wp2_with fail
    refine (HSd.out X14 vs2 Y14.out.below Ks2.out).mono ?_
    rintro e X15 ⟨vy, rfl, hk, hb⟩
    have Y15 := Bx.mk (Y14.out.later hb)
    have M_ := Bx.mk (M_.out.later hb)
    have Kk := Bx.mk (Kk.out.later hb)
    have Kva := Bx.mk (Kva.out.later hb)
    have Kvb := Bx.mk (Kvb.out.later hb)
    have Ks1 := Bx.mk (Ks1.out.later hb)
    have Kvx := Bx.mk (Kvx.out.later hb)
    have Ks2 := Bx.mk (Ks2.out.later hb)
    have Kvy := Bx.mk hk.key
    clear hb Y14
    clear hk
    obtain ⟨k0, k1, k2, k3⟩ := cells4 (Y15.out.rows _ (.tail _ (.tail _ (.head _))))
    go_wp2_with (refine wpList_load_mid rfl 32 _ rfl D 0 (by rfl) tbl _ (row_rng (Y15.out.rows _ (.tail _ (.head _)))) Tryd.underlying32 rfl HTI.out.2.2.2 ?_)
    clear k0 k1 k2 k3
    refine (HRg.out X15 _ M_.out).mono ?_
    rintro e X16 ⟨rfl, hb⟩
    have Y16 := Bx.mk (Y15.out.later hb)
    have M_ := Bx.mk (M_.out.later hb)
    have Kk := Bx.mk (Kk.out.later hb)
    have Kva := Bx.mk (Kva.out.later hb)
    have Kvb := Bx.mk (Kvb.out.later hb)
    have Ks1 := Bx.mk (Ks1.out.later hb)
    have Kvx := Bx.mk (Kvx.out.later hb)
    have Ks2 := Bx.mk (Ks2.out.later hb)
    have Kvy := Bx.mk (Kvy.out.later hb)
    clear hb Y15
    obtain ⟨F, hF⟩ : ∃ F, X16.heap.size = F := ⟨_, rfl⟩
    have LF : Bx (E < F ∧ D < F ∧ B < F) := Bx.mk (by rw [← hF]; exact ⟨Y16.out.lt (.head _), Y16.out.lt (.tail _ (.head _)), Y16.out.lt (.tail _ (.tail _ (.head _)))⟩)
    have QF := Bx.mk (Y16.out.new (.cells z1 40))
    rw [hF] at QF
    go_upto_region 23 with (first | (refine wpList_load_mid rfl 32 _ rfl D 0 (by rfl) tbl _ (row_rng (Y16.out.rows _ (.tail _ (.head _)))) Tryd.underlying32 rfl HTI.out.2.2.2 ?_) | (refine wpList_store_new rfl 40 _ _ rfl F (u8s kg) z1 _ (by rfl) (by rfl) (QF.out.rows _ (.head _)) (HA.out kg HLg.out).2 (HA.out kg HLg.out).1 (one_u8s _) ?_; intro X17 hw8 hr8; have hg8 := Bx.mk (kb_of hw8); have HR8 := Bx.mk hr8; clear hw8 hr8))
    have Y17 := Bx.mk (QF.out.set hg8.out HR8.out (by have h := LF.out; have := Y16.out.le; omega) (by intro y hy; have h := LF.out; simp at hy; rcases hy with rfl | rfl | rfl <;> (simp only; omega)))
    have hb := below_of hF hg8.out
    have M_ := Bx.mk (M_.out.later hb)
    have Kk := Bx.mk (Kk.out.later hb)
    have Kva := Bx.mk (Kva.out.later hb)
    have Kvb := Bx.mk (Kvb.out.later hb)
    have Ks1 := Bx.mk (Ks1.out.later hb)
    have Kvx := Bx.mk (Kvx.out.later hb)
    have Ks2 := Bx.mk (Ks2.out.later hb)
    have Kvy := Bx.mk (Kvy.out.later hb)
    clear hb QF hg8 HR8 Y16 hF
    go_upto_region 23 with fail
    have hb : Below X17.heap.size X17 X17.drew := (Below.refl _ _).drew
    have Y18 := Bx.mk (Y17.out.later hb)
    have M_ := Bx.mk (M_.out.later hb)
    have Kk := Bx.mk (Kk.out.later hb)
    have Kva := Bx.mk (Kva.out.later hb)
    have Kvb := Bx.mk (Kvb.out.later hb)
    have Ks1 := Bx.mk (Ks1.out.later hb)
    have Kvx := Bx.mk (Kvx.out.later hb)
    have Ks2 := Bx.mk (Ks2.out.later hb)
    have Kvy := Bx.mk (Kvy.out.later hb)
    clear hb Y17
    refine wp_region_noPanic ?_
    refine wp_region_held_drew (S := fun _ => True) (by kernel_rfl) (True.intro) (fun hHeld => ?_)
    generalize X17.drew = X18 at *
    refine takeL 0 (v := ?_) rfl (by kernel_rfl) (by kernel_rfl) (by kernel_rfl) (fun _ _ _ h => h) (Or.inl ⟨by rfl, ?_⟩) hHeld ?_
    rotate_left 1
    · (intro w hSw; go_simp; try with_reducible rfl)
    try simp only [Act.put, List.setIfInBounds_toArray, List.set_cons_zero, List.set_cons_succ]
    refine takeL 1 (v := ?_) rfl (by kernel_rfl) (by kernel_rfl) (by kernel_rfl) (fun _ _ _ h => h) (Or.inl ⟨by rfl, ?_⟩) hHeld ?_
    rotate_left 1
    · (intro w hSw; go_simp; try with_reducible rfl)
    try simp only [Act.put, List.setIfInBounds_toArray, List.set_cons_zero, List.set_cons_succ]
    refine takeL 2 (v := ?_) rfl (by kernel_rfl) (by kernel_rfl) (by kernel_rfl) (fun _ _ _ h => h) (Or.inl ⟨by rfl, ?_⟩) hHeld ?_
    rotate_left 1
    · (intro w hSw; go_simp; try with_reducible rfl)
    try simp only [Act.put, List.setIfInBounds_toArray, List.set_cons_zero, List.set_cons_succ]
    refine takeL 3 (v := ?_) rfl (by kernel_rfl) (by kernel_rfl) (by kernel_rfl) (fun _ _ _ h => h) (Or.inl ⟨by rfl, ?_⟩) hHeld ?_
    rotate_left 1
    · (intro w hSw; go_simp; try with_reducible rfl)
    try simp only [Act.put, List.setIfInBounds_toArray, List.set_cons_zero, List.set_cons_succ]
    refine takeL 4 (v := ?_) rfl (by kernel_rfl) (by kernel_rfl) (by kernel_rfl) (fun _ _ _ h => h) (Or.inl ⟨by rfl, ?_⟩) hHeld ?_
    rotate_left 1
    · (intro w hSw; go_simp; try with_reducible rfl)
    try simp only [Act.put, List.setIfInBounds_toArray, List.set_cons_zero, List.set_cons_succ]
    refine takeL 5 (v := ?_) rfl (by kernel_rfl) (by kernel_rfl) (by kernel_rfl) (fun _ _ _ h => h) (Or.inl ⟨by rfl, ?_⟩) hHeld ?_
    rotate_left 1
    · (intro w hSw; go_simp; try with_reducible rfl)
    try simp only [Act.put, List.setIfInBounds_toArray, List.set_cons_zero, List.set_cons_succ]
    refine takeL 6 (v := ?_) rfl (by kernel_rfl) (by kernel_rfl) (by kernel_rfl) (fun _ _ _ h => h) (Or.inl ⟨by rfl, ?_⟩) hHeld ?_
    rotate_left 1
    · (intro w hSw; go_simp; try with_reducible rfl)
    try simp only [Act.put, List.setIfInBounds_toArray, List.set_cons_zero, List.set_cons_succ]
    refine takeL 7 (v := ?_) rfl (by kernel_rfl) (by kernel_rfl) (by kernel_rfl) (fun _ _ _ h => h) (Or.inl ⟨by rfl, ?_⟩) hHeld ?_
    rotate_left 1
    · (intro w hSw; go_simp; try with_reducible rfl)
    try simp only [Act.put, List.setIfInBounds_toArray, List.set_cons_zero, List.set_cons_succ]
    refine takeL 9 (v := ?_) rfl (by kernel_rfl) (by kernel_rfl) (by kernel_rfl) (fun _ _ _ h => h) (Or.inl ⟨by rfl, ?_⟩) hHeld ?_
    rotate_left 1
    · (intro w hSw; go_simp; try with_reducible rfl)
    try simp only [Act.put, List.setIfInBounds_toArray, List.set_cons_zero, List.set_cons_succ]
    refine stepL 8 (by kernel_rfl) rfl (fun K hK => ?_)
    go_simp
    refine (HKb.out kg X18 va HLg.out Kva.out).mono ?_
    rintro e X19 ⟨u1, rfl, ho, hb⟩
    show K _ _
    have Y19 := Bx.mk (Y18.out.later hb)
    have M_ := Bx.mk (M_.out.later hb)
    have Kk := Bx.mk (Kk.out.later hb)
    have Kva := Bx.mk (Kva.out.later hb)
    have Kvb := Bx.mk (Kvb.out.later hb)
    have Ks1 := Bx.mk (Ks1.out.later hb)
    have Kvx := Bx.mk (Kvx.out.later hb)
    have Ks2 := Bx.mk (Ks2.out.later hb)
    have Kvy := Bx.mk (Kvy.out.later hb)
    have Bu1 := Bx.mk ho.bytes
    clear hb Y18
    clear ho
    refine hK.out _ _ (True.intro) (fun hHeld => ?_)
    clear hK K
    try simp only [Act.put, List.setIfInBounds_toArray, List.set_cons_zero, List.set_cons_succ]
    refine stepL 10 (by kernel_rfl) rfl (fun K hK => ?_)
    go_simp
    refine (HSame.out kg X19 _ _ HLg.out Bu1.out (row_bytes (Y19.out.rows _ (.head _)) HLg.out)).mono ?_
    rintro e X20 ⟨rfl, hdd⟩
    show K _ _
    obtain ⟨nd, hnd⟩ := hdd
    have hb : Below X19.heap.size X19 X20 := by rw [hnd]; exact drewN_below _ _
    clear hnd
    have Y20 := Bx.mk (Y19.out.later hb)
    have M_ := Bx.mk (M_.out.later hb)
    have Kk := Bx.mk (Kk.out.later hb)
    have Kva := Bx.mk (Kva.out.later hb)
    have Kvb := Bx.mk (Kvb.out.later hb)
    have Ks1 := Bx.mk (Ks1.out.later hb)
    have Kvx := Bx.mk (Kvx.out.later hb)
    have Ks2 := Bx.mk (Ks2.out.later hb)
    have Kvy := Bx.mk (Kvy.out.later hb)
    clear hb Y19
    refine hK.out _ _ True.intro (fun hHeld => ?_)
    clear hK K
    try simp only [Act.put, List.setIfInBounds_toArray, List.set_cons_zero, List.set_cons_succ]
    refine takeL 11 (v := ?_) rfl (by kernel_rfl) (by kernel_rfl) (by kernel_rfl) (fun _ _ _ h => h) (Or.inl ⟨by rfl, ?_⟩) hHeld ?_
    rotate_left 1
    · (intro w hSw; go_simp; try with_reducible rfl)
    try simp only [Act.put, List.setIfInBounds_toArray, List.set_cons_zero, List.set_cons_succ]
    refine takeL 12 (v := ?_) rfl (by kernel_rfl) (by kernel_rfl) (by kernel_rfl) (fun _ _ _ h => h) (Or.inl ⟨by rfl, ?_⟩) hHeld ?_
    rotate_left 1
    · (intro w hSw; go_simp; try with_reducible rfl)
    try simp only [Act.put, List.setIfInBounds_toArray, List.set_cons_zero, List.set_cons_succ]
    refine takeL 13 (v := ?_) rfl (by kernel_rfl) (by kernel_rfl) (by kernel_rfl) (fun _ _ _ h => h) (Or.inl ⟨by rfl, ?_⟩) hHeld ?_
    rotate_left 1
    · (intro w hSw; go_simp; try with_reducible rfl)
    try simp only [Act.put, List.setIfInBounds_toArray, List.set_cons_zero, List.set_cons_succ]
    refine takeL 14 (v := ?_) rfl (by kernel_rfl) (by kernel_rfl) (by kernel_rfl) (fun _ _ _ h => h) (Or.inl ⟨by rfl, ?_⟩) hHeld ?_
    rotate_left 1
    · (intro w hSw; go_simp; try with_reducible rfl)
    try simp only [Act.put, List.setIfInBounds_toArray, List.set_cons_zero, List.set_cons_succ]
    refine takeL 16 (v := ?_) rfl (by kernel_rfl) (by kernel_rfl) (by kernel_rfl) (fun _ _ _ h => h) (Or.inl ⟨by rfl, ?_⟩) hHeld ?_
    rotate_left 1
    · (intro w hSw; go_simp; try with_reducible rfl)
    try simp only [Act.put, List.setIfInBounds_toArray, List.set_cons_zero, List.set_cons_succ]
    refine stepL 15 (by kernel_rfl) rfl (fun K hK => ?_)
    go_simp
    refine (HKb.out kg X20 vx HLg.out Kvx.out).mono ?_
    rintro e X21 ⟨u2, rfl, ho, hb⟩
    show K _ _
    have Y21 := Bx.mk (Y20.out.later hb)
    have M_ := Bx.mk (M_.out.later hb)
    have Kk := Bx.mk (Kk.out.later hb)
    have Kva := Bx.mk (Kva.out.later hb)
    have Kvb := Bx.mk (Kvb.out.later hb)
    have Ks1 := Bx.mk (Ks1.out.later hb)
    have Kvx := Bx.mk (Kvx.out.later hb)
    have Ks2 := Bx.mk (Ks2.out.later hb)
    have Kvy := Bx.mk (Kvy.out.later hb)
    have Bu2 := Bx.mk ho.bytes
    clear hb Y20
    clear ho
    refine hK.out _ _ (True.intro) (fun hHeld => ?_)
    clear hK K
    try simp only [Act.put, List.setIfInBounds_toArray, List.set_cons_zero, List.set_cons_succ]
    refine stepL 17 (by kernel_rfl) rfl (fun K hK => ?_)
    go_simp
    refine (HSame.out kg X21 _ _ HLg.out Bu2.out (row_bytes (Y21.out.rows _ (.head _)) HLg.out)).mono ?_
    rintro e X22 ⟨rfl, hdd⟩
    show K _ _
    obtain ⟨nd, hnd⟩ := hdd
    have hb : Below X21.heap.size X21 X22 := by rw [hnd]; exact drewN_below _ _
    clear hnd
    have Y22 := Bx.mk (Y21.out.later hb)
    have M_ := Bx.mk (M_.out.later hb)
    have Kk := Bx.mk (Kk.out.later hb)
    have Kva := Bx.mk (Kva.out.later hb)
    have Kvb := Bx.mk (Kvb.out.later hb)
    have Ks1 := Bx.mk (Ks1.out.later hb)
    have Kvx := Bx.mk (Kvx.out.later hb)
    have Ks2 := Bx.mk (Ks2.out.later hb)
    have Kvy := Bx.mk (Kvy.out.later hb)
    clear hb Y21
    refine hK.out _ _ True.intro (fun hHeld => ?_)
    clear hK K
    try simp only [Act.put, List.setIfInBounds_toArray, List.set_cons_zero, List.set_cons_succ]
    refine takeL 18 (v := ?_) rfl (by kernel_rfl) (by kernel_rfl) (by kernel_rfl) (fun _ _ _ h => h) (Or.inl ⟨by rfl, ?_⟩) hHeld ?_
    rotate_left 1
    · (intro w hSw; go_simp; try with_reducible rfl)
    try simp only [Act.put, List.setIfInBounds_toArray, List.set_cons_zero, List.set_cons_succ]
    refine takeL 19 (v := ?_) rfl (by kernel_rfl) (by kernel_rfl) (by kernel_rfl) (fun _ _ _ h => h) (Or.inl ⟨by rfl, ?_⟩) hHeld ?_
    rotate_left 1
    · (intro w hSw; go_simp; try with_reducible rfl)
    try simp only [Act.put, List.setIfInBounds_toArray, List.set_cons_zero, List.set_cons_succ]
    refine wpAnyH_done (by kernel_rfl) ?_ _
    refine NoPanic.normal ?_
    clear hHeld
    go_upto_region 27 with fail
    have hb : Below X22.heap.size X22 X22.drew := (Below.refl _ _).drew
    have Y23 := Bx.mk (Y22.out.later hb)
    have M_ := Bx.mk (M_.out.later hb)
    have Kk := Bx.mk (Kk.out.later hb)
    have Kva := Bx.mk (Kva.out.later hb)
    have Kvb := Bx.mk (Kvb.out.later hb)
    have Ks1 := Bx.mk (Ks1.out.later hb)
    have Kvx := Bx.mk (Kvx.out.later hb)
    have Ks2 := Bx.mk (Ks2.out.later hb)
    have Kvy := Bx.mk (Kvy.out.later hb)
    clear hb Y22
    refine wp_region_noPanic ?_
    refine wp_region_held_drew (S := fun W => W.rangeAt D 0 tbl) (by kernel_rfl) (row_rng (Y23.out.rows _ (.tail _ (.tail _ (.head _))))) (fun hHeld => ?_)
    generalize X22.drew = X23 at *
    refine takeL 0 rfl (by kernel_rfl) (by kernel_rfl) (by kernel_rfl) (fun _ _ _ h => h) (yieldsIf_load_mid (by rfl) _ _ rfl _ _ rfl _ _ (fun w hSw => hSw) Tryd.underlying32 rfl HTI.out.2.2.2) hHeld ?_
    try simp only [Act.put, List.setIfInBounds_toArray, List.set_cons_zero, List.set_cons_succ]
    refine takeL 1 (v := ?_) rfl (by kernel_rfl) (by kernel_rfl) (by kernel_rfl) (fun _ _ _ h => h) (Or.inl ⟨by rfl, ?_⟩) hHeld ?_
    rotate_left 1
    · (intro w hSw; go_simp; try with_reducible rfl)
    try simp only [Act.put, List.setIfInBounds_toArray, List.set_cons_zero, List.set_cons_succ]
    refine takeL 2 (v := ?_) rfl (by kernel_rfl) (by kernel_rfl) (by kernel_rfl) (fun _ _ _ h => h) (Or.inl ⟨by rfl, ?_⟩) hHeld ?_
    rotate_left 1
    · (intro w hSw; go_simp; try with_reducible rfl)
    try simp only [Act.put, List.setIfInBounds_toArray, List.set_cons_zero, List.set_cons_succ]
    refine wpAnyH_ready (rs := [3, 4]) (by kernel_rfl) (by simp) ?_
    refine consM 3 rfl (fun K hK => ?_) (consM 4 rfl (fun K hK => ?_) AllReadyH.nil)
    · go_simp
      refine (HRs.out X23 _ (row_bytes (Y23.out.rows _ (.tail _ (.head _))) HLs.out)).mono ?_
      rintro e X24 ⟨rfl, hb⟩
      show K _ _
      have Y24 := Bx.mk (Y23.out.later hb)
      have M_ := Bx.mk (M_.out.later hb)
      have Kk := Bx.mk (Kk.out.later hb)
      have Kva := Bx.mk (Kva.out.later hb)
      have Kvb := Bx.mk (Kvb.out.later hb)
      have Ks1 := Bx.mk (Ks1.out.later hb)
      have Kvx := Bx.mk (Kvx.out.later hb)
      have Ks2 := Bx.mk (Ks2.out.later hb)
      have Kvy := Bx.mk (Kvy.out.later hb)
      clear hb Y23
      refine hK.out _ _ (row_rng (Y24.out.rows _ (.tail _ (.tail _ (.head _))))) (fun hHeld => ?_)
      clear hK K
      try simp only [Act.put, List.setIfInBounds_toArray, List.set_cons_zero, List.set_cons_succ]
      refine stepL 4 (by kernel_rfl) rfl (fun K hK => ?_)
      go_simp
      show K _ _
      obtain ⟨J, hJ⟩ : ∃ J, X24.heap.size = J := ⟨_, rfl⟩
      have LJ : Bx (F < J ∧ E < J ∧ D < J ∧ B < J) := Bx.mk (by rw [← hJ]; exact ⟨Y24.out.lt (.head _), Y24.out.lt (.tail _ (.head _)), Y24.out.lt (.tail _ (.tail _ (.head _))), Y24.out.lt (.tail _ (.tail _ (.tail _ (.head _))))⟩)
      have LB : Bx (B ≤ J) := Bx.mk (by rw [← hJ]; exact Y24.out.le)
      have YJ := Bx.mk (show Below X24.heap.size X24 (X24.alloc (.cells z1 40)) from below_a _)
      rw [hJ] at YJ
      have HJ := Bx.mk hJ
      have Y25 := Bx.mk (Y24.out.new (.cells z1 40))
      rw [hJ] at Y25 ⊢
      clear Y24 hJ
      generalize X24.alloc (.cells z1 40) = X25 at *
      refine hK.out _ _ (row_rng (Y25.out.rows _ (.tail _ (.tail _ (.tail _ (.head _)))))) (fun hHeld => ?_)
      clear hK K
      try simp only [Act.put, List.setIfInBounds_toArray, List.set_cons_zero, List.set_cons_succ]
      refine stepL 5 (by kernel_rfl) rfl (fun K hK => ?_)
      refine step_st rfl 40 _ _ rfl J (u8s km) (by rfl) (by rfl) (there_row (Y25.out.rows _ (.head _)) 0 _ (by rw [(HA.out km HLm.out).2]; omega)) (HA.out km HLm.out).1 (one_u8s _) ?_
      have hr2 := heap_setCells_all (ds := u8s km) (Y25.out.rows _ (.head _)) (HA.out km HLm.out).2
      have hg2 := kb_setCells (b := J) (u8s km).toList 0 X25
      have Y26 := Bx.mk (Y25.out.set hg2 hr2 LB.out (by intro y hy; have h := LJ.out; simp at hy; rcases hy with rfl | rfl | rfl | rfl <;> (simp only; omega)))
      have hb : Below X24.heap.size X24 (X25.setCells J 0 (u8s km).toList) := by
        have h := YJ.out.trans (grown_below hg2 (Nat.le_refl J) (by have := YJ.out.size; rw [HJ.out] at this; exact this))
        rw [HJ.out]
        exact h
      have M_ := Bx.mk (M_.out.later hb)
      have Kk := Bx.mk (Kk.out.later hb)
      have Kva := Bx.mk (Kva.out.later hb)
      have Kvb := Bx.mk (Kvb.out.later hb)
      have Ks1 := Bx.mk (Ks1.out.later hb)
      have Kvx := Bx.mk (Kvx.out.later hb)
      have Ks2 := Bx.mk (Ks2.out.later hb)
      have Kvy := Bx.mk (Kvy.out.later hb)
      clear hb hr2 hg2 Y25 YJ
      generalize X25.setCells J 0 (u8s km).toList = X26 at *
      refine hK.out _ _ (row_rng (Y26.out.rows _ (.tail _ (.tail _ (.tail _ (.head _)))))) (fun hHeld => ?_)
      clear hK K
      try simp only [Act.put]
      refine wpAnyH_done (by kernel_rfl) ?_ _
      refine NoPanic.normal ?_
      clear hHeld
      go_upto_region 28 with fail
      have hb : Below X26.heap.size X26 X26.drew := (Below.refl _ _).drew
      have Y27 := Bx.mk (Y26.out.later hb)
      have M_ := Bx.mk (M_.out.later hb)
      have Kk := Bx.mk (Kk.out.later hb)
      have Kva := Bx.mk (Kva.out.later hb)
      have Kvb := Bx.mk (Kvb.out.later hb)
      have Ks1 := Bx.mk (Ks1.out.later hb)
      have Kvx := Bx.mk (Kvx.out.later hb)
      have Ks2 := Bx.mk (Ks2.out.later hb)
      have Kvy := Bx.mk (Kvy.out.later hb)
      clear hb Y26
      refine wp_region_noPanic ?_
      refine wp_region_held_drew (S := fun _ => True) (by kernel_rfl) (True.intro) (fun hHeld => ?_)
      generalize X26.drew = X27 at *
      refine stepL 0 (by kernel_rfl) rfl (fun K hK => ?_)
      go_simp
      refine (known7_any X27 (HT.out X27 Y27.out.below).1 (HT.out X27 Y27.out.below).2).mono ?_
      rintro e X28 ⟨rfl, hb⟩
      show K _ _
      have Y28 := Bx.mk (Y27.out.later hb)
      have M_ := Bx.mk (M_.out.later hb)
      have Kk := Bx.mk (Kk.out.later hb)
      have Kva := Bx.mk (Kva.out.later hb)
      have Kvb := Bx.mk (Kvb.out.later hb)
      have Ks1 := Bx.mk (Ks1.out.later hb)
      have Kvx := Bx.mk (Kvx.out.later hb)
      have Ks2 := Bx.mk (Ks2.out.later hb)
      have Kvy := Bx.mk (Kvy.out.later hb)
      clear hb Y27
      refine hK.out _ _ (True.intro) (fun hHeld => ?_)
      clear hK K
      try simp only [Act.put, List.setIfInBounds_toArray, List.set_cons_zero, List.set_cons_succ]
      refine takeL 1 (v := ?_) rfl (by kernel_rfl) (by kernel_rfl) (by kernel_rfl) (fun _ _ _ h => h) (Or.inl ⟨by rfl, ?_⟩) hHeld ?_
      rotate_left 1
      · (intro w hSw; go_simp; try with_reducible rfl)
      try simp only [Act.put, List.setIfInBounds_toArray, List.set_cons_zero, List.set_cons_succ]
      refine takeL 2 (v := ?_) rfl (by kernel_rfl) (by kernel_rfl) (by kernel_rfl) (fun _ _ _ h => h) (Or.inl ⟨by rfl, ?_⟩) hHeld ?_
      rotate_left 1
      · (intro w hSw; go_simp; try with_reducible rfl)
      try simp only [Act.put, List.setIfInBounds_toArray, List.set_cons_zero, List.set_cons_succ]
      refine takeL 3 (v := ?_) rfl (by kernel_rfl) (by kernel_rfl) (by kernel_rfl) (fun _ _ _ h => h) (Or.inl ⟨by rfl, ?_⟩) hHeld ?_
      rotate_left 1
      · (intro w hSw; go_simp; try with_reducible rfl)
      try simp only [Act.put, List.setIfInBounds_toArray, List.set_cons_zero, List.set_cons_succ]
      refine takeL 4 (v := ?_) rfl (by kernel_rfl) (by kernel_rfl) (by kernel_rfl) (fun _ _ _ h => h) (Or.inl ⟨by rfl, ?_⟩) hHeld ?_
      rotate_left 1
      · (intro w hSw; go_simp; try with_reducible rfl)
      try simp only [Act.put, List.setIfInBounds_toArray, List.set_cons_zero, List.set_cons_succ]
      refine takeL 5 (v := ?_) rfl (by kernel_rfl) (by kernel_rfl) (by kernel_rfl) (fun _ _ _ h => h) (Or.inl ⟨by rfl, ?_⟩) hHeld ?_
      rotate_left 1
      · (intro w hSw; go_simp; try with_reducible rfl)
      try simp only [Act.put, List.setIfInBounds_toArray, List.set_cons_zero, List.set_cons_succ]
      refine takeL 6 (v := ?_) rfl (by kernel_rfl) (by kernel_rfl) (by kernel_rfl) (fun _ _ _ h => h) (Or.inl ⟨by rfl, ?_⟩) hHeld ?_
      rotate_left 1
      · (intro w hSw; go_simp; try with_reducible rfl)
      try simp only [Act.put, List.setIfInBounds_toArray, List.set_cons_zero, List.set_cons_succ]
      refine takeL 7 (v := ?_) rfl (by kernel_rfl) (by kernel_rfl) (by kernel_rfl) (fun _ _ _ h => h) (Or.inl ⟨by rfl, ?_⟩) hHeld ?_
      rotate_left 1
      · (intro w hSw; go_simp; try with_reducible rfl)
      try simp only [Act.put, List.setIfInBounds_toArray, List.set_cons_zero, List.set_cons_succ]
      refine takeL 8 (v := ?_) rfl (by kernel_rfl) (by kernel_rfl) (by kernel_rfl) (fun _ _ _ h => h) (Or.inl ⟨by rfl, ?_⟩) hHeld ?_
      rotate_left 1
      · (intro w hSw; go_simp; try with_reducible rfl)
      try simp only [Act.put, List.setIfInBounds_toArray, List.set_cons_zero, List.set_cons_succ]
      refine takeL 9 (v := ?_) rfl (by kernel_rfl) (by kernel_rfl) (by kernel_rfl) (fun _ _ _ h => h) (Or.inl ⟨by rfl, ?_⟩) hHeld ?_
      rotate_left 1
      · (intro w hSw; go_simp; try with_reducible rfl)
      try simp only [Act.put, List.setIfInBounds_toArray, List.set_cons_zero, List.set_cons_succ]
      refine takeL 10 (v := ?_) rfl (by kernel_rfl) (by kernel_rfl) (by kernel_rfl) (fun _ _ _ h => h) (Or.inl ⟨by rfl, ?_⟩) hHeld ?_
      rotate_left 1
      · (intro w hSw; go_simp; try with_reducible rfl)
      try simp only [Act.put, List.setIfInBounds_toArray, List.set_cons_zero, List.set_cons_succ]
      refine takeL 12 (v := ?_) rfl (by kernel_rfl) (by kernel_rfl) (by kernel_rfl) (fun _ _ _ h => h) (Or.inl ⟨by rfl, ?_⟩) hHeld ?_
      rotate_left 1
      · (intro w hSw; go_simp; try with_reducible rfl)
      try simp only [Act.put, List.setIfInBounds_toArray, List.set_cons_zero, List.set_cons_succ]
      refine stepL 11 (by kernel_rfl) rfl (fun K hK => ?_)
      go_simp
      refine (HKb.out km X28 vb HLm.out Kvb.out).mono ?_
      rintro e X29 ⟨u3, rfl, ho, hb⟩
      show K _ _
      have Y29 := Bx.mk (Y28.out.later hb)
      have M_ := Bx.mk (M_.out.later hb)
      have Kk := Bx.mk (Kk.out.later hb)
      have Kva := Bx.mk (Kva.out.later hb)
      have Kvb := Bx.mk (Kvb.out.later hb)
      have Ks1 := Bx.mk (Ks1.out.later hb)
      have Kvx := Bx.mk (Kvx.out.later hb)
      have Ks2 := Bx.mk (Ks2.out.later hb)
      have Kvy := Bx.mk (Kvy.out.later hb)
      have Bu3 := Bx.mk ho.bytes
      clear hb Y28
      clear ho
      refine hK.out _ _ (True.intro) (fun hHeld => ?_)
      clear hK K
      try simp only [Act.put, List.setIfInBounds_toArray, List.set_cons_zero, List.set_cons_succ]
      refine stepL 13 (by kernel_rfl) rfl (fun K hK => ?_)
      go_simp
      refine (HSame.out km X29 _ _ HLm.out Bu3.out (row_bytes (Y29.out.rows _ (.head _)) HLm.out)).mono ?_
      rintro e X30 ⟨rfl, hdd⟩
      show K _ _
      obtain ⟨nd, hnd⟩ := hdd
      have hb : Below X29.heap.size X29 X30 := by rw [hnd]; exact drewN_below _ _
      clear hnd
      have Y30 := Bx.mk (Y29.out.later hb)
      have M_ := Bx.mk (M_.out.later hb)
      have Kk := Bx.mk (Kk.out.later hb)
      have Kva := Bx.mk (Kva.out.later hb)
      have Kvb := Bx.mk (Kvb.out.later hb)
      have Ks1 := Bx.mk (Ks1.out.later hb)
      have Kvx := Bx.mk (Kvx.out.later hb)
      have Ks2 := Bx.mk (Ks2.out.later hb)
      have Kvy := Bx.mk (Kvy.out.later hb)
      clear hb Y29
      refine hK.out _ _ True.intro (fun hHeld => ?_)
      clear hK K
      try simp only [Act.put, List.setIfInBounds_toArray, List.set_cons_zero, List.set_cons_succ]
      refine takeL 14 (v := ?_) rfl (by kernel_rfl) (by kernel_rfl) (by kernel_rfl) (fun _ _ _ h => h) (Or.inl ⟨by rfl, ?_⟩) hHeld ?_
      rotate_left 1
      · (intro w hSw; go_simp; try with_reducible rfl)
      try simp only [Act.put, List.setIfInBounds_toArray, List.set_cons_zero, List.set_cons_succ]
      refine takeL 15 (v := ?_) rfl (by kernel_rfl) (by kernel_rfl) (by kernel_rfl) (fun _ _ _ h => h) (Or.inl ⟨by rfl, ?_⟩) hHeld ?_
      rotate_left 1
      · (intro w hSw; go_simp; try with_reducible rfl)
      try simp only [Act.put, List.setIfInBounds_toArray, List.set_cons_zero, List.set_cons_succ]
      refine takeL 16 (v := ?_) rfl (by kernel_rfl) (by kernel_rfl) (by kernel_rfl) (fun _ _ _ h => h) (Or.inl ⟨by rfl, ?_⟩) hHeld ?_
      rotate_left 1
      · (intro w hSw; go_simp; try with_reducible rfl)
      try simp only [Act.put, List.setIfInBounds_toArray, List.set_cons_zero, List.set_cons_succ]
      refine takeL 18 (v := ?_) rfl (by kernel_rfl) (by kernel_rfl) (by kernel_rfl) (fun _ _ _ h => h) (Or.inl ⟨by rfl, ?_⟩) hHeld ?_
      rotate_left 1
      · (intro w hSw; go_simp; try with_reducible rfl)
      try simp only [Act.put, List.setIfInBounds_toArray, List.set_cons_zero, List.set_cons_succ]
      refine stepL 17 (by kernel_rfl) rfl (fun K hK => ?_)
      go_simp
      refine (HKb.out km X30 vy HLm.out Kvy.out).mono ?_
      rintro e X31 ⟨u4, rfl, ho, hb⟩
      show K _ _
      have Y31 := Bx.mk (Y30.out.later hb)
      have M_ := Bx.mk (M_.out.later hb)
      have Kk := Bx.mk (Kk.out.later hb)
      have Kva := Bx.mk (Kva.out.later hb)
      have Kvb := Bx.mk (Kvb.out.later hb)
      have Ks1 := Bx.mk (Ks1.out.later hb)
      have Kvx := Bx.mk (Kvx.out.later hb)
      have Ks2 := Bx.mk (Ks2.out.later hb)
      have Kvy := Bx.mk (Kvy.out.later hb)
      have Bu4 := Bx.mk ho.bytes
      clear hb Y30
      clear ho
      refine hK.out _ _ (True.intro) (fun hHeld => ?_)
      clear hK K
      try simp only [Act.put, List.setIfInBounds_toArray, List.set_cons_zero, List.set_cons_succ]
      refine stepL 19 (by kernel_rfl) rfl (fun K hK => ?_)
      go_simp
      refine (HSame.out km X31 _ _ HLm.out Bu4.out (row_bytes (Y31.out.rows _ (.head _)) HLm.out)).mono ?_
      rintro e X32 ⟨rfl, hdd⟩
      show K _ _
      obtain ⟨nd, hnd⟩ := hdd
      have hb : Below X31.heap.size X31 X32 := by rw [hnd]; exact drewN_below _ _
      clear hnd
      have Y32 := Bx.mk (Y31.out.later hb)
      have M_ := Bx.mk (M_.out.later hb)
      have Kk := Bx.mk (Kk.out.later hb)
      have Kva := Bx.mk (Kva.out.later hb)
      have Kvb := Bx.mk (Kvb.out.later hb)
      have Ks1 := Bx.mk (Ks1.out.later hb)
      have Kvx := Bx.mk (Kvx.out.later hb)
      have Ks2 := Bx.mk (Ks2.out.later hb)
      have Kvy := Bx.mk (Kvy.out.later hb)
      clear hb Y31
      refine hK.out _ _ True.intro (fun hHeld => ?_)
      clear hK K
      try simp only [Act.put, List.setIfInBounds_toArray, List.set_cons_zero, List.set_cons_succ]
      refine takeL 20 (v := ?_) rfl (by kernel_rfl) (by kernel_rfl) (by kernel_rfl) (fun _ _ _ h => h) (Or.inl ⟨by rfl, ?_⟩) hHeld ?_
      rotate_left 1
      · (intro w hSw; go_simp; try with_reducible rfl)
      try simp only [Act.put, List.setIfInBounds_toArray, List.set_cons_zero, List.set_cons_succ]
      refine takeL 21 (v := ?_) rfl (by kernel_rfl) (by kernel_rfl) (by kernel_rfl) (fun _ _ _ h => h) (Or.inl ⟨by rfl, ?_⟩) hHeld ?_
      rotate_left 1
      · (intro w hSw; go_simp; try with_reducible rfl)
      try simp only [Act.put, List.setIfInBounds_toArray, List.set_cons_zero, List.set_cons_succ]
      refine wpAnyH_done (by kernel_rfl) ?_ _
      refine NoPanic.normal ?_
      clear hHeld
      go_wp2
      go_ret
      exact ⟨rfl, Y32.out.below⟩
    · go_simp
      show K _ _
      obtain ⟨J, hJ⟩ : ∃ J, X23.heap.size = J := ⟨_, rfl⟩
      have LJ : Bx (F < J ∧ E < J ∧ D < J ∧ B < J) := Bx.mk (by rw [← hJ]; exact ⟨Y23.out.lt (.head _), Y23.out.lt (.tail _ (.head _)), Y23.out.lt (.tail _ (.tail _ (.head _))), Y23.out.lt (.tail _ (.tail _ (.tail _ (.head _))))⟩)
      have LB : Bx (B ≤ J) := Bx.mk (by rw [← hJ]; exact Y23.out.le)
      have YJ := Bx.mk (show Below X23.heap.size X23 (X23.alloc (.cells z1 40)) from below_a _)
      rw [hJ] at YJ
      have HJ := Bx.mk hJ
      have Y24 := Bx.mk (Y23.out.new (.cells z1 40))
      rw [hJ] at Y24 ⊢
      clear Y23 hJ
      generalize X23.alloc (.cells z1 40) = X24 at *
      refine hK.out _ _ (row_rng (Y24.out.rows _ (.tail _ (.tail _ (.tail _ (.head _)))))) (fun hHeld => ?_)
      clear hK K
      try simp only [Act.put, List.setIfInBounds_toArray, List.set_cons_zero, List.set_cons_succ]
      refine stepL 3 (by kernel_rfl) rfl (fun K hK => ?_)
      go_simp
      refine (HRs.out X24 _ (row_bytes (Y24.out.rows _ (.tail _ (.tail _ (.head _)))) HLs.out)).mono ?_
      rintro e X25 ⟨rfl, hb⟩
      show K _ _
      have YJ := Bx.mk (YJ.out.trans (hb.mono (by rw [← HJ.out]; exact (show X23.heap.size ≤ X24.heap.size from by have := YJ.out.size; omega))))
      have Y25 := Bx.mk (Y24.out.later hb)
      clear hb Y24
      refine hK.out _ _ (row_rng (Y25.out.rows _ (.tail _ (.tail _ (.tail _ (.head _)))))) (fun hHeld => ?_)
      clear hK K
      try simp only [Act.put, List.setIfInBounds_toArray, List.set_cons_zero, List.set_cons_succ]
      refine stepL 5 (by kernel_rfl) rfl (fun K hK => ?_)
      refine step_st rfl 40 _ _ rfl J (u8s km) (by rfl) (by rfl) (there_row (Y25.out.rows _ (.head _)) 0 _ (by rw [(HA.out km HLm.out).2]; omega)) (HA.out km HLm.out).1 (one_u8s _) ?_
      have hr2 := heap_setCells_all (ds := u8s km) (Y25.out.rows _ (.head _)) (HA.out km HLm.out).2
      have hg2 := kb_setCells (b := J) (u8s km).toList 0 X25
      have Y26 := Bx.mk (Y25.out.set hg2 hr2 LB.out (by intro y hy; have h := LJ.out; simp at hy; rcases hy with rfl | rfl | rfl | rfl <;> (simp only; omega)))
      have hb : Below X23.heap.size X23 (X25.setCells J 0 (u8s km).toList) := by
        have h := YJ.out.trans (grown_below hg2 (Nat.le_refl J) (by have := YJ.out.size; rw [HJ.out] at this; exact this))
        rw [HJ.out]
        exact h
      have M_ := Bx.mk (M_.out.later hb)
      have Kk := Bx.mk (Kk.out.later hb)
      have Kva := Bx.mk (Kva.out.later hb)
      have Kvb := Bx.mk (Kvb.out.later hb)
      have Ks1 := Bx.mk (Ks1.out.later hb)
      have Kvx := Bx.mk (Kvx.out.later hb)
      have Ks2 := Bx.mk (Ks2.out.later hb)
      have Kvy := Bx.mk (Kvy.out.later hb)
      clear hb hr2 hg2 Y25 YJ
      generalize X25.setCells J 0 (u8s km).toList = X26 at *
      refine hK.out _ _ (row_rng (Y26.out.rows _ (.tail _ (.tail _ (.tail _ (.head _)))))) (fun hHeld => ?_)
      clear hK K
      try simp only [Act.put]
      refine wpAnyH_done (by kernel_rfl) ?_ _
      refine NoPanic.normal ?_
      clear hHeld
      go_upto_region 28 with fail
      have hb : Below X26.heap.size X26 X26.drew := (Below.refl _ _).drew
      have Y27 := Bx.mk (Y26.out.later hb)
      have M_ := Bx.mk (M_.out.later hb)
      have Kk := Bx.mk (Kk.out.later hb)
      have Kva := Bx.mk (Kva.out.later hb)
      have Kvb := Bx.mk (Kvb.out.later hb)
      have Ks1 := Bx.mk (Ks1.out.later hb)
      have Kvx := Bx.mk (Kvx.out.later hb)
      have Ks2 := Bx.mk (Ks2.out.later hb)
      have Kvy := Bx.mk (Kvy.out.later hb)
      clear hb Y26
      refine wp_region_noPanic ?_
      refine wp_region_held_drew (S := fun _ => True) (by kernel_rfl) (True.intro) (fun hHeld => ?_)
      generalize X26.drew = X27 at *
      refine stepL 0 (by kernel_rfl) rfl (fun K hK => ?_)
      go_simp
      refine (known7_any X27 (HT.out X27 Y27.out.below).1 (HT.out X27 Y27.out.below).2).mono ?_
      rintro e X28 ⟨rfl, hb⟩
      show K _ _
      have Y28 := Bx.mk (Y27.out.later hb)
      have M_ := Bx.mk (M_.out.later hb)
      have Kk := Bx.mk (Kk.out.later hb)
      have Kva := Bx.mk (Kva.out.later hb)
      have Kvb := Bx.mk (Kvb.out.later hb)
      have Ks1 := Bx.mk (Ks1.out.later hb)
      have Kvx := Bx.mk (Kvx.out.later hb)
      have Ks2 := Bx.mk (Ks2.out.later hb)
      have Kvy := Bx.mk (Kvy.out.later hb)
      clear hb Y27
      refine hK.out _ _ (True.intro) (fun hHeld => ?_)
      clear hK K
      try simp only [Act.put, List.setIfInBounds_toArray, List.set_cons_zero, List.set_cons_succ]
      refine takeL 1 (v := ?_) rfl (by kernel_rfl) (by kernel_rfl) (by kernel_rfl) (fun _ _ _ h => h) (Or.inl ⟨by rfl, ?_⟩) hHeld ?_
      rotate_left 1
      · (intro w hSw; go_simp; try with_reducible rfl)
      try simp only [Act.put, List.setIfInBounds_toArray, List.set_cons_zero, List.set_cons_succ]
      refine takeL 2 (v := ?_) rfl (by kernel_rfl) (by kernel_rfl) (by kernel_rfl) (fun _ _ _ h => h) (Or.inl ⟨by rfl, ?_⟩) hHeld ?_
      rotate_left 1
      · (intro w hSw; go_simp; try with_reducible rfl)
      try simp only [Act.put, List.setIfInBounds_toArray, List.set_cons_zero, List.set_cons_succ]
      refine takeL 3 (v := ?_) rfl (by kernel_rfl) (by kernel_rfl) (by kernel_rfl) (fun _ _ _ h => h) (Or.inl ⟨by rfl, ?_⟩) hHeld ?_
      rotate_left 1
      · (intro w hSw; go_simp; try with_reducible rfl)
      try simp only [Act.put, List.setIfInBounds_toArray, List.set_cons_zero, List.set_cons_succ]
      refine takeL 4 (v := ?_) rfl (by kernel_rfl) (by kernel_rfl) (by kernel_rfl) (fun _ _ _ h => h) (Or.inl ⟨by rfl, ?_⟩) hHeld ?_
      rotate_left 1
      · (intro w hSw; go_simp; try with_reducible rfl)
      try simp only [Act.put, List.setIfInBounds_toArray, List.set_cons_zero, List.set_cons_succ]
      refine takeL 5 (v := ?_) rfl (by kernel_rfl) (by kernel_rfl) (by kernel_rfl) (fun _ _ _ h => h) (Or.inl ⟨by rfl, ?_⟩) hHeld ?_
      rotate_left 1
      · (intro w hSw; go_simp; try with_reducible rfl)
      try simp only [Act.put, List.setIfInBounds_toArray, List.set_cons_zero, List.set_cons_succ]
      refine takeL 6 (v := ?_) rfl (by kernel_rfl) (by kernel_rfl) (by kernel_rfl) (fun _ _ _ h => h) (Or.inl ⟨by rfl, ?_⟩) hHeld ?_
      rotate_left 1
      · (intro w hSw; go_simp; try with_reducible rfl)
      try simp only [Act.put, List.setIfInBounds_toArray, List.set_cons_zero, List.set_cons_succ]
      refine takeL 7 (v := ?_) rfl (by kernel_rfl) (by kernel_rfl) (by kernel_rfl) (fun _ _ _ h => h) (Or.inl ⟨by rfl, ?_⟩) hHeld ?_
      rotate_left 1
      · (intro w hSw; go_simp; try with_reducible rfl)
      try simp only [Act.put, List.setIfInBounds_toArray, List.set_cons_zero, List.set_cons_succ]
      refine takeL 8 (v := ?_) rfl (by kernel_rfl) (by kernel_rfl) (by kernel_rfl) (fun _ _ _ h => h) (Or.inl ⟨by rfl, ?_⟩) hHeld ?_
      rotate_left 1
      · (intro w hSw; go_simp; try with_reducible rfl)
      try simp only [Act.put, List.setIfInBounds_toArray, List.set_cons_zero, List.set_cons_succ]
      refine takeL 9 (v := ?_) rfl (by kernel_rfl) (by kernel_rfl) (by kernel_rfl) (fun _ _ _ h => h) (Or.inl ⟨by rfl, ?_⟩) hHeld ?_
      rotate_left 1
      · (intro w hSw; go_simp; try with_reducible rfl)
      try simp only [Act.put, List.setIfInBounds_toArray, List.set_cons_zero, List.set_cons_succ]
      refine takeL 10 (v := ?_) rfl (by kernel_rfl) (by kernel_rfl) (by kernel_rfl) (fun _ _ _ h => h) (Or.inl ⟨by rfl, ?_⟩) hHeld ?_
      rotate_left 1
      · (intro w hSw; go_simp; try with_reducible rfl)
      try simp only [Act.put, List.setIfInBounds_toArray, List.set_cons_zero, List.set_cons_succ]
      refine takeL 12 (v := ?_) rfl (by kernel_rfl) (by kernel_rfl) (by kernel_rfl) (fun _ _ _ h => h) (Or.inl ⟨by rfl, ?_⟩) hHeld ?_
      rotate_left 1
      · (intro w hSw; go_simp; try with_reducible rfl)
      try simp only [Act.put, List.setIfInBounds_toArray, List.set_cons_zero, List.set_cons_succ]
      refine stepL 11 (by kernel_rfl) rfl (fun K hK => ?_)
      go_simp
      refine (HKb.out km X28 vb HLm.out Kvb.out).mono ?_
      rintro e X29 ⟨u3, rfl, ho, hb⟩
      show K _ _
      have Y29 := Bx.mk (Y28.out.later hb)
      have M_ := Bx.mk (M_.out.later hb)
      have Kk := Bx.mk (Kk.out.later hb)
      have Kva := Bx.mk (Kva.out.later hb)
      have Kvb := Bx.mk (Kvb.out.later hb)
      have Ks1 := Bx.mk (Ks1.out.later hb)
      have Kvx := Bx.mk (Kvx.out.later hb)
      have Ks2 := Bx.mk (Ks2.out.later hb)
      have Kvy := Bx.mk (Kvy.out.later hb)
      have Bu3 := Bx.mk ho.bytes
      clear hb Y28
      clear ho
      refine hK.out _ _ (True.intro) (fun hHeld => ?_)
      clear hK K
      try simp only [Act.put, List.setIfInBounds_toArray, List.set_cons_zero, List.set_cons_succ]
      refine stepL 13 (by kernel_rfl) rfl (fun K hK => ?_)
      go_simp
      refine (HSame.out km X29 _ _ HLm.out Bu3.out (row_bytes (Y29.out.rows _ (.head _)) HLm.out)).mono ?_
      rintro e X30 ⟨rfl, hdd⟩
      show K _ _
      obtain ⟨nd, hnd⟩ := hdd
      have hb : Below X29.heap.size X29 X30 := by rw [hnd]; exact drewN_below _ _
      clear hnd
      have Y30 := Bx.mk (Y29.out.later hb)
      have M_ := Bx.mk (M_.out.later hb)
      have Kk := Bx.mk (Kk.out.later hb)
      have Kva := Bx.mk (Kva.out.later hb)
      have Kvb := Bx.mk (Kvb.out.later hb)
      have Ks1 := Bx.mk (Ks1.out.later hb)
      have Kvx := Bx.mk (Kvx.out.later hb)
      have Ks2 := Bx.mk (Ks2.out.later hb)
      have Kvy := Bx.mk (Kvy.out.later hb)
      clear hb Y29
      refine hK.out _ _ True.intro (fun hHeld => ?_)
      clear hK K
      try simp only [Act.put, List.setIfInBounds_toArray, List.set_cons_zero, List.set_cons_succ]
      refine takeL 14 (v := ?_) rfl (by kernel_rfl) (by kernel_rfl) (by kernel_rfl) (fun _ _ _ h => h) (Or.inl ⟨by rfl, ?_⟩) hHeld ?_
      rotate_left 1
      · (intro w hSw; go_simp; try with_reducible rfl)
      try simp only [Act.put, List.setIfInBounds_toArray, List.set_cons_zero, List.set_cons_succ]
      refine takeL 15 (v := ?_) rfl (by kernel_rfl) (by kernel_rfl) (by kernel_rfl) (fun _ _ _ h => h) (Or.inl ⟨by rfl, ?_⟩) hHeld ?_
      rotate_left 1
      · (intro w hSw; go_simp; try with_reducible rfl)
      try simp only [Act.put, List.setIfInBounds_toArray, List.set_cons_zero, List.set_cons_succ]
      refine takeL 16 (v := ?_) rfl (by kernel_rfl) (by kernel_rfl) (by kernel_rfl) (fun _ _ _ h => h) (Or.inl ⟨by rfl, ?_⟩) hHeld ?_
      rotate_left 1
      · (intro w hSw; go_simp; try with_reducible rfl)
      try simp only [Act.put, List.setIfInBounds_toArray, List.set_cons_zero, List.set_cons_succ]
      refine takeL 18 (v := ?_) rfl (by kernel_rfl) (by kernel_rfl) (by kernel_rfl) (fun _ _ _ h => h) (Or.inl ⟨by rfl, ?_⟩) hHeld ?_
      rotate_left 1
      · (intro w hSw; go_simp; try with_reducible rfl)
      try simp only [Act.put, List.setIfInBounds_toArray, List.set_cons_zero, List.set_cons_succ]
      refine stepL 17 (by kernel_rfl) rfl (fun K hK => ?_)
      go_simp
      refine (HKb.out km X30 vy HLm.out Kvy.out).mono ?_
      rintro e X31 ⟨u4, rfl, ho, hb⟩
      show K _ _
      have Y31 := Bx.mk (Y30.out.later hb)
      have M_ := Bx.mk (M_.out.later hb)
      have Kk := Bx.mk (Kk.out.later hb)
      have Kva := Bx.mk (Kva.out.later hb)
      have Kvb := Bx.mk (Kvb.out.later hb)
      have Ks1 := Bx.mk (Ks1.out.later hb)
      have Kvx := Bx.mk (Kvx.out.later hb)
      have Ks2 := Bx.mk (Ks2.out.later hb)
      have Kvy := Bx.mk (Kvy.out.later hb)
      have Bu4 := Bx.mk ho.bytes
      clear hb Y30
      clear ho
      refine hK.out _ _ (True.intro) (fun hHeld => ?_)
      clear hK K
      try simp only [Act.put, List.setIfInBounds_toArray, List.set_cons_zero, List.set_cons_succ]
      refine stepL 19 (by kernel_rfl) rfl (fun K hK => ?_)
      go_simp
      refine (HSame.out km X31 _ _ HLm.out Bu4.out (row_bytes (Y31.out.rows _ (.head _)) HLm.out)).mono ?_
      rintro e X32 ⟨rfl, hdd⟩
      show K _ _
      obtain ⟨nd, hnd⟩ := hdd
      have hb : Below X31.heap.size X31 X32 := by rw [hnd]; exact drewN_below _ _
      clear hnd
      have Y32 := Bx.mk (Y31.out.later hb)
      have M_ := Bx.mk (M_.out.later hb)
      have Kk := Bx.mk (Kk.out.later hb)
      have Kva := Bx.mk (Kva.out.later hb)
      have Kvb := Bx.mk (Kvb.out.later hb)
      have Ks1 := Bx.mk (Ks1.out.later hb)
      have Kvx := Bx.mk (Kvx.out.later hb)
      have Ks2 := Bx.mk (Ks2.out.later hb)
      have Kvy := Bx.mk (Kvy.out.later hb)
      clear hb Y31
      refine hK.out _ _ True.intro (fun hHeld => ?_)
      clear hK K
      try simp only [Act.put, List.setIfInBounds_toArray, List.set_cons_zero, List.set_cons_succ]
      refine takeL 20 (v := ?_) rfl (by kernel_rfl) (by kernel_rfl) (by kernel_rfl) (fun _ _ _ h => h) (Or.inl ⟨by rfl, ?_⟩) hHeld ?_
      rotate_left 1
      · (intro w hSw; go_simp; try with_reducible rfl)
      try simp only [Act.put, List.setIfInBounds_toArray, List.set_cons_zero, List.set_cons_succ]
      refine takeL 21 (v := ?_) rfl (by kernel_rfl) (by kernel_rfl) (by kernel_rfl) (fun _ _ _ h => h) (Or.inl ⟨by rfl, ?_⟩) hHeld ?_
      rotate_left 1
      · (intro w hSw; go_simp; try with_reducible rfl)
      try simp only [Act.put, List.setIfInBounds_toArray, List.set_cons_zero, List.set_cons_succ]
      refine wpAnyH_done (by kernel_rfl) ?_ _
      refine NoPanic.normal ?_
      clear hHeld
      go_wp2
      go_ret
      exact ⟨rfl, Y32.out.below⟩
end Go.Proofs.YtdionedinmkeiaaDoor
