/-
  The walk of TokenMakes, of a token that is made.
-/
import Derived.Test.YtiengbmnfbbgoaaDoorVm
namespace Go.Proofs.YtiengbmnfbbgoaaDoor
open Go Go.RowKit
set_option maxRecDepth 100000 in
set_option maxHeartbeats 16000000 in
theorem makes6_ok (m0 : List UInt8) (c : Cl) (p0 : List (List UInt8)) (vm vp : Value) (w : World) (hm : Bytes w vm m0) (hp : Parts w vp p0) (hml : m0.length ≤ 9223372036854775807) (hpn : p0.length ≤ 9223372036854775807) (hpl : ∀ p ∈ p0, p.length ≤ 9223372036854775807) (hc : okC c = true) (hTab : Tab w) (hg : 0 < w.heap.size) :
    Calls Tryd.prog 3 #[vm, clV c, vp] w fun e w' => e = .returned (.bool true) ∧ Below w.heap.size w w' := by
  have HT : Bx (∀ W, Below w.heap.size w W → Tab W ∧ 0 < W.heap.size) := Bx.mk fun W hb => ⟨hTab.later hb hg, Nat.lt_of_lt_of_le hg hb.size⟩
  clear hTab hg
  have HCm := Bx.mk fun (W : World) (hW : Bytes W vm m0) => cut6_any m0 70 vm W hW hml (by omega)
  have HFew := Bx.mk fun (W : World) (hW : Parts W vp p0) => few6_any p0 vp W hW hpn hpl
  have HMl : Bx ((m0.take 70).length ≤ 70) := Bx.mk (by rw [List.length_take]; omega)
  have HQ := Bx.mk (And.intro (cut4_len p0) (cut4_each p0))
  have HV := Bx.mk (And.intro hm hp)
  obtain ⟨am, cm, rfl, -⟩ := hm
  obtain ⟨ap, cp, rfl, -⟩ := hp
  generalize m0.take 70 = mk at *
  generalize m0.length = mn at *
  generalize p0.length = pn at *
  have HNw : Bx (∀ (W : World) v, Bytes W v mk → Calls Tryd.prog 11 #[v] W fun e w' => ∃ v', e = .returned v' ∧ KeyO w' W.heap.size v' mk ∧ Below W.heap.size W w') := Bx.mk fun W v hv => new_any mk v W hv (by have := HMl.out; omega)
  have HTo := Bx.mk fun (W : World) => cto_any c W
  have HRi := Bx.mk fun (W : World) => cright_any c W
  rw [hc] at HRi
  obtain ⟨zc, hzc⟩ : ∃ zc, tkC c0 z32 = zc := ⟨_, rfl⟩
  have hzv : ∀ W : World, (zeroValue 39).run Tryd.prog W = .ok (.agg zc) W := fun W => by rw [← hzc]; exact tk_zero W
  have hbz : Tryd.prog.built 39 [] = some zc := by rw [← hzc]; exact tk_none
  have HM1 : Bx ((Tryd.prog.info? 39).map (·.size) = some zc.size ∧ zc.all (·.oneCell') = true) := Bx.mk (by rw [← hzc]; exact ⟨tk_info _ _ rfl, tkC_one _ _⟩)
  have hself0 : ∀ W : World, (binOp .eql 39 (.agg zc) (.agg zc)).run Tryd.prog W = .ok (.bool true) W := fun W => by rw [← hzc]; exact self_tk_eql _ _ rfl W
  have HMn : Bx (∀ W, Calls Tryd.prog 12 #[.pointer none, clV c] W fun e w' => e = .returned (.tuple #[.agg zc, .int .i64 1]) ∧ Below W.heap.size W w') := Bx.mk fun W => by rw [← hzc]; exact mk_nil c W
  obtain ⟨zt, hzt⟩ : ∃ z, u32s (List.replicate 72 0) = z := ⟨_, rfl⟩
  have hztv : ∀ W : World, (zeroValue 32).run Tryd.prog W = .ok (.agg zt) W := fun W => by rw [← hzt]; kernel_rfl
  obtain ⟨tbl, htb⟩ : ∃ tbl : List Value, u32s (kTab ++ hTab) = tbl.toArray := ⟨_, rfl⟩
  have HMake : Bx (∀ W : World, Calls Tryd.prog 10 #[] W fun e w' => e = .returned (.agg tbl.toArray) ∧ Below W.heap.size W w') := Bx.mk fun W => by rw [← htb]; exact make_any W
  have HTI : Bx (tbl.toArray.size = zt.size ∧ (Tryd.prog.info? 32).map (·.size) = some tbl.toArray.size ∧ tbl.toArray.all (·.oneCell') = true ∧ (Tryd.prog.info? 32).map (·.size) = some tbl.length) := Bx.mk ⟨by rw [← htb, ← hzt, u32s_size, u32s_size]; rfl, tbl_size3 htb, by rw [← htb]; exact one_u32s _, tbl_size3 htb⟩
  obtain ⟨z1, hz1⟩ : ∃ z, u8s (List.replicate 32 0) = z := ⟨_, rfl⟩
  have hz1v : ∀ W : World, (zeroValue 37).run Tryd.prog W = .ok (.agg z1) W := fun W => by rw [← hz1, zero32]; kernel_rfl
  have HSec : Bx (∀ W v, Bytes W v mk → Calls Tryd.prog 18 #[.agg tbl.toArray, v, clV c] W fun e w' => e = .returned (.agg (u8s (secK mk c))) ∧ Below W.heap.size W w') := Bx.mk fun W v hv => rsecret_any tbl htb mk c v W hv (by have := HMl.out; omega) hc
  have HSl : Bx ((secK mk c).length = 32) := Bx.mk (secK_length _ _)
  have HMk : Bx (∀ W v, Below w.heap.size w W → IsKey W v mk → Calls Tryd.prog 12 #[v, clV c] W fun e w' => e = .returned (.tuple #[tkV c (secK mk c), .int .i64 0]) ∧ Below W.heap.size W w') := Bx.mk fun W v hb hv => mk_ok mk c v W hv (by have := HMl.out; omega) hc (HT.out W hb).1 (HT.out W hb).2
  have HHo : Bx (∀ W v, Below w.heap.size w W → IsKey W v mk → Calls Tryd.prog 16 #[v, tkV c (secK mk c)] W fun e w' => e = .returned (.bool true) ∧ Below W.heap.size W w') := Bx.mk fun W v hb hv => by
    have h := holds_ok mk c (secK mk c) v W hv HSl.out (by have := HMl.out; omega) hc (HT.out W hb).1 (HT.out W hb).2
    rw [decide_eq_true rfl] at h
    exact h
  have HRp : Bx (∀ (qs : List (List UInt8)) W vs vq, qs.length ≤ 4 → (∀ p ∈ qs, p.length ≤ 40) → Bytes W vs (secK mk c) → PartsR W vq qs → Calls Tryd.prog 21 #[.agg tbl.toArray, vs, vq] W fun e w' => e = .returned (.agg (u8s (prvK (secK mk c) qs))) ∧ Below W.heap.size W w') := Bx.mk fun qs W vs vq h1 h2 hs hq => rprove_any tbl htb _ qs vs vq W hs hq (by rw [HSl.out]; omega) (by omega) (fun p hp => by have := h2 p hp; omega)
  have HTp : Bx (∀ (qs : List (List UInt8)) W vq, qs.length ≤ 4 → (∀ p ∈ qs, p.length ≤ 40) → Below w.heap.size w W → Parts W vq qs → Calls Tryd.prog 24 #[tkV c (secK mk c), vq] W fun e w' => e = .returned (.agg (u8s (prvK (secK mk c) qs))) ∧ Below W.heap.size W w') := Bx.mk fun qs W vq h1 h2 hb hq => tprove_any c _ qs vq W HSl.out hq (by omega) (fun p hp => by have := h2 p hp; omega) (HT.out W hb).1 (HT.out W hb).2
  have HPr : Bx (∀ (qs : List (List UInt8)) W v vt vq, qs.length ≤ 4 → (∀ p ∈ qs, p.length ≤ 40) → Below w.heap.size w W → IsKey W v mk → Bytes W vt (prvK (secK mk c) qs) → Parts W vq qs → Calls Tryd.prog 17 #[v, clV c, vt, vq] W fun e w' => e = .returned (.int .i64 0) ∧ Below W.heap.size W w') := Bx.mk fun qs W v vt vq h1 h2 hb hv ht hq => by
    have h := proves_ok mk c (prvK (secK mk c) qs) qs v vt vq W hv ht hq (by rw [prvK_length]; omega) (by have := HMl.out; omega) (by omega) (fun p hp => by have := h2 p hp; omega) hc (HT.out W hb).1 (HT.out W hb).2
    rw [if_pos rfl] at h
    exact h
  have HPn := Bx.mk fun (W : World) (vt vq : Value) => proves_nil c vt vq W
  have HBL : Bx ((clB c).length = 9) := Bx.mk (clB_length c)
  have HBB : Bx ((clB c ++ secK mk c).length = 41) := Bx.mk (by rw [List.length_append, HBL.out, HSl.out])
  have HBy := Bx.mk fun (W : World) => tbytes_ok c (secK mk c) W HSl.out hc
  have HPa : Bx (∀ W v, Bytes W v (clB c ++ secK mk c) → Calls Tryd.prog 20 #[v] W fun e w' => e = .returned (.tuple #[tkV c (secK mk c), .int .i64 0]) ∧ Below W.heap.size W w') := Bx.mk fun W v hv => by
    have e1 : (clB c ++ secK mk c).take 9 = clB c := by rw [← HBL.out, List.take_left]
    have e2 : (clB c ++ secK mk c).drop 9 = secK mk c := by rw [← HBL.out, List.drop_left]
    have h := tparse_ok (clB c ++ secK mk c) v W hv HBB.out (by rw [e1]; exact (ps_clB c hc).1)
    rw [e1, e2, (ps_clB c hc).2] at h
    exact h
  have HRb := Bx.mk fun (W : World) => rbytes_any c W hc
  have HTk := Bx.mk fun (W : World) => tkey_any c (secK mk c) W HSl.out
  have hself : ∀ W : World, (binOp .eql 39 (.agg (tkC c (secK mk c))) (.agg (tkC c (secK mk c)))).run Tryd.prog W = .ok (.bool true) W := fun W => self_tk_eql _ _ HSl.out W
  have hselfc := fun W : World => self_cl_eql 36 (.inl rfl) c W
  clear hself0
  generalize secK mk c = sk at *
  have hselfs : ∀ W : World, (binOp .eql 37 (.agg (u8s sk)) (.agg (u8s sk))).run Tryd.prog W = .ok (.bool true) W := fun W => by rw [sec_eql sk sk HSl.out HSl.out W]; simp
  obtain ⟨kl, hkl⟩ : ∃ kl : List Value, tkC c sk = kl.toArray := ⟨_, rfl⟩
  have HI : Bx ((Tryd.prog.info? 39).map (·.size) = some kl.toArray.size ∧ kl.toArray.all (·.oneCell') = true ∧ kl.toArray.size = zc.size ∧ (Tryd.prog.info? 39).map (·.size) = some kl.length) := Bx.mk (by rw [show kl.length = kl.toArray.size from rfl, ← hkl, ← hzc]; exact ⟨tk_info _ _ HSl.out, tkC_one _ _, by rw [tkC_size _ _ HSl.out, tkC_size _ _ rfl], tk_info _ _ HSl.out⟩)
  have HK4 : Bx (∀ (W : World) (D : Nat) (t : TypeId), W.heap[D]? = some (.cells kl.toArray t (0, 0)) → W.rangeAt D 0 (clC c).toList ∧ W.rangeAt D 0 kl ∧ W.rangeAt D 4 (u8s sk).toList) := Bx.mk fun W D t h => ⟨by rw [← hkl] at h; exact tk_cl h, row_rng h, by rw [← hkl] at h; exact tk_rest h⟩
  unfold tkV at HMk HHo HTp HBy HPa HTk
  rw [hkl] at HMk HHo HTp HBy HPa HTk hself
  have HIS : Bx ((Tryd.prog.info? 37).map (·.size) = some (u8s sk).size ∧ (u8s sk).size = z1.size ∧ (Tryd.prog.info? 37).map (·.size) = some (u8s sk).toList.length) := Bx.mk ⟨by rw [u8s_size, HSl.out]; kernel_rfl, by rw [← hz1, u8s_size, u8s_size, HSl.out]; rfl, by rw [Array.length_toList, u8s_size, HSl.out]; kernel_rfl⟩
  have HZ1 := Bx.mk hz1
  clear hz1 hzt htb hkl hzc
  clear hml hpn hpl hc
  have HCB := Bx.mk (rfl : clB c = clB c)
  generalize clB c = cb at *
  obtain ⟨i, r, x, q⟩ := c
  unfold clV at *
  unfold clC at HK4 hselfc
  simp only at HTo HRi HPr HMk HMn HSec HK4 hselfc HPn HRb ⊢
  obtain ⟨B, hB⟩ : ∃ B, w.heap.size = B := ⟨_, rfl⟩
  have HB := Bx.mk hB
  have H0 := Bx.mk ((KS.start w B hB).new (.cells #[.int .i64 i, .int .i64 r, .int .i64 x, .int .i64 q] 24))
  rw [hB] at H0 HT HPr HMk HHo HTp ⊢
  go_enter Tryd.func3, Tryd.ntmps3
  go_wp2_with fail
  generalize w.alloc (.cells #[.int .i64 i, .int .i64 r, .int .i64 x, .int .i64 q] 24) = w0 at *
  have HM0 := Bx.mk (HV.out.1.later (by rw [HB.out]; exact H0.out.below))
  have HP0 := Bx.mk (HV.out.2.later (by rw [HB.out]; exact H0.out.below))
  refine (HCm.out w0 HM0.out).mono ?_
  rintro e w1 ⟨v1, rfl, hm1, rfl⟩
  have HM := Bx.mk (hm1 w0 HM0.out)
  obtain ⟨am, cm, hv1, -⟩ := HM.out
  subst hv1
  clear hm1 HCm HM0
  generalize mk.length = mn at *
  go_wp2_with fail
  refine (HFew.out w0 HP0.out).mono ?_
  rintro e w2 ⟨vo, xs, rfl, hv2, ho2, hb2⟩
  generalize cut4 p0 = qs at *
  have hv3 : Vals w2 xs qs := hv2.later hb2
  have FV := Bx.mk (And.intro (HM.out.later hb2) (And.intro (parts_of ho2 hv3) (show PartsR w2 vo qs from ⟨xs, own_rowP ho2, hv3⟩)))
  obtain ⟨oa, on, oc, rfl⟩ := ownP_form ho2
  have H2 := Bx.mk (H0.out.later hb2)
  clear hv2 ho2 hb2 hv3 H0 HV HM HP0 HFew
  go_wp2_with fail
  refine (HMake.out w2).mono ?_
  rintro e w3 ⟨rfl, hb⟩
  have H3 := Bx.mk (H2.out.later hb)
  have FV := Bx.mk (And.intro (FV.out.1.later hb) (And.intro (FV.out.2.1.later hb) (FV.out.2.2.later hb)))
  clear hb H2
  obtain ⟨D, hD⟩ : ∃ D, w3.heap.size = D := ⟨_, rfl⟩
  have HBD : Bx (B < D) := Bx.mk (by rw [← hD]; exact H3.out.lt (.head _))
  have HDz := Bx.mk hD
  have H4 := Bx.mk (H3.out.new (.cells zt 32))
  rw [hD] at H4
  clear H3
  go_upto_region 4 with (refine wpList_store_new rfl 32 _ _ rfl D tbl.toArray zt _ (by rfl) (by rfl) (H4.out.rows _ (.head _)) HTI.out.1 HTI.out.2.1 HTI.out.2.2.1 ?_; intro w5 hw8 hr8; have hg8 := Bx.mk (kb_of hw8); have hw9 := Bx.mk hw8; have HR8 := Bx.mk hr8; clear hw8 hr8)
  have H5 := Bx.mk (H4.out.set hg8.out HR8.out (by have := HBD.out; omega) (by intro y hy; have h1 := HBD.out; simp at hy; rcases hy with rfl; simp only; omega))
  have hb := (below_a (W := w3) (.cells zt 32)).trans (grown_below hg8.out (Nat.le_of_eq HDz.out) (by rw [alloc_size]; omega))
  have FV := Bx.mk (And.intro (FV.out.1.later hb) (And.intro (FV.out.2.1.later hb) (FV.out.2.2.later hb)))
  clear hb H4 hg8 HR8 hD hw9
  go_wp2_with fail
  refine (HNw.out w5 _ FV.out.1).mono ?_
  rintro e w6 ⟨vk, rfl, hk, hb⟩
  have H6 := H5.out.later hb
  have FW := Bx.mk (And.intro (FV.out.1.later hb) (And.intro (FV.out.2.1.later hb) (And.intro (FV.out.2.2.later hb) hk.key)))
  obtain ⟨kp, rfl⟩ : ∃ kp, vk = .pointer (some ⟨kp, 0, none⟩) := by obtain ⟨p, s, h, -, -⟩ := hk.key; exact ⟨p, h⟩
  obtain ⟨G, hG⟩ : ∃ G, w6.heap.size = G := ⟨_, rfl⟩
  have HG := Bx.mk hG
  have HW : Bx (Below B w w6 ∧ B ≤ G) := Bx.mk (by rw [← hG]; exact ⟨H6.below, H6.le⟩)
  have R0 : Bx (KS w6 G [(D, .cells tbl.toArray 32), (B, .cells #[.int .i64 i, .int .i64 r, .int .i64 x, .int .i64 q] 24)] w6) := Bx.mk ⟨H6.rows, Below.refl _ _, Nat.le_of_eq hG.symm⟩
  clear hk hb H6 H5 FV hG HMake HNw HDz
  go_wp2_with (refine wpList_load_mid rfl 24 _ rfl B 0 (by rfl) [.int .i64 i, .int .i64 r, .int .i64 x, .int .i64 q] _ (row_rng (l := [.int .i64 i, .int .i64 r, .int .i64 x, .int .i64 q]) (R0.out.rows _ (.tail _ (.head _)))) Tryd.underlying24 rfl (by kernel_rfl) ?_)
  refine (HTo.out w6).mono ?_
  rintro e x1 ⟨rfl, hb⟩
  have R1 := Bx.mk (R0.out.later hb)
  clear hb R0
  go_wp2_with fail
  refine (HMk.out x1 _ (HW.out.1.trans (R1.out.below.mono HW.out.2)) (FW.out.2.2.2.later (by rw [HG.out]; exact R1.out.below))).mono ?_
  rintro e x2 ⟨rfl, hb⟩
  have R2 := Bx.mk (R1.out.later hb)
  clear hb R1
  obtain ⟨K0, hK0⟩ : ∃ D, x2.heap.size = D := ⟨_, rfl⟩
  have HDK : Bx (B < K0 ∧ D < K0 ∧ G ≤ K0) := Bx.mk (by rw [← hK0]; exact ⟨R2.out.lt (.tail _ (.head _)), R2.out.lt (.head _), R2.out.le⟩)
  have R3 := Bx.mk (R2.out.new (.cells zc 39))
  rw [hK0] at R3
  clear R2
  go_upto_region 6 with (refine wpList_store_new rfl 39 _ _ rfl K0 kl.toArray zc _ (by rfl) (by rfl) (R3.out.rows _ (.head _)) HI.out.2.2.1 HI.out.1 HI.out.2.1 ?_; intro x3 hw8 hr8; have hg8 := Bx.mk (kb_of hw8); have HR8 := Bx.mk hr8; clear hw8 hr8)
  have R4 := Bx.mk (R3.out.set hg8.out HR8.out HDK.out.2.2 (by intro y hy; have h1 := HDK.out; simp at hy; rcases hy with rfl | rfl <;> (simp only; omega)))
  clear R3 hg8 HR8 hK0
  go_wp2_with (refine wpList_load_mid rfl 24 _ rfl B 0 (by rfl) [.int .i64 i, .int .i64 r, .int .i64 x, .int .i64 q] _ (row_rng (l := [.int .i64 i, .int .i64 r, .int .i64 x, .int .i64 q]) (R4.out.rows _ (.tail _ (.tail _ (.head _))))) Tryd.underlying24 rfl (by kernel_rfl) ?_)
  refine (HTo.out x3).mono ?_
  rintro e x4 ⟨rfl, hb⟩
  have R5 := Bx.mk (R4.out.later hb)
  clear hb R4
  go_wp2_with fail
  refine (HMn.out x4).mono ?_
  rintro e x5 ⟨rfl, hb⟩
  have R6 := Bx.mk (R5.out.later hb)
  clear hb R5
  obtain ⟨K1, hK1⟩ : ∃ D, x5.heap.size = D := ⟨_, rfl⟩
  have HDL : Bx (K0 < K1 ∧ G ≤ K1) := Bx.mk (by rw [← hK1]; exact ⟨R6.out.lt (.head _), R6.out.le⟩)
  have R7 := Bx.mk (R6.out.new (.cells zc 39))
  rw [hK1] at R7
  clear R6
  go_upto_region 7 with (refine wpList_store_new rfl 39 _ _ rfl K1 zc zc _ (by rfl) (by rfl) (R7.out.rows _ (.head _)) rfl HM1.out.1 HM1.out.2 ?_; intro x6 hw8 hr8; have hg8 := Bx.mk (kb_of hw8); have HR8 := Bx.mk hr8; clear hw8 hr8)
  have R8 := Bx.mk (R7.out.set hg8.out HR8.out HDL.out.2 (by intro y hy; have h1 := HDK.out; have h2 := HDL.out; simp at hy; rcases hy with rfl | rfl | rfl <;> (simp only; omega))).tail
  clear R7 hg8 HR8 hK1 HDL
  go_wp2_with (refine wpList_load_mid rfl 24 _ rfl B 0 (by rfl) [.int .i64 i, .int .i64 r, .int .i64 x, .int .i64 q] _ (row_rng (l := [.int .i64 i, .int .i64 r, .int .i64 x, .int .i64 q]) (R8.out.rows _ (.tail _ (.tail _ (.head _))))) Tryd.underlying24 rfl (by kernel_rfl) ?_)
  refine (HRi.out x6).mono ?_
  rintro e x7 ⟨rfl, hb⟩
  have R9 := Bx.mk (R8.out.later hb)
  clear hb R8
  go_wp2_with (first | (refine wpList_load_mid rfl 32 _ rfl D 0 (by rfl) tbl _ (row_rng (R9.out.rows _ (.tail _ (.head _)))) Tryd.underlying32 rfl HTI.out.2.2.2 ?_) | (refine wpList_load_mid rfl 24 _ rfl B 0 (by rfl) [.int .i64 i, .int .i64 r, .int .i64 x, .int .i64 q] _ (row_rng (l := [.int .i64 i, .int .i64 r, .int .i64 x, .int .i64 q]) (R9.out.rows _ (.tail _ (.tail _ (.head _))))) Tryd.underlying24 rfl (by kernel_rfl) ?_))
  refine (HSec.out x7 _ (FW.out.1.later (by rw [HG.out]; exact R9.out.below))).mono ?_
  rintro e x8 ⟨rfl, hb⟩
  have S0 := Bx.mk (R9.out.later hb)
  clear hb R9
  obtain ⟨E, hE⟩ : ∃ D, x8.heap.size = D := ⟨_, rfl⟩
  have HDE : Bx (K0 < E ∧ G ≤ E) := Bx.mk (by rw [← hE]; exact ⟨S0.out.lt (.head _), S0.out.le⟩)
  have S1 := Bx.mk (S0.out.new (.cells z1 37))
  rw [hE] at S1
  clear S0
  go_upto_region 10 with (refine wpList_store_new rfl 37 _ _ rfl E (u8s sk) z1 _ (by rfl) (by rfl) (S1.out.rows _ (.head _)) HIS.out.2.1 HIS.out.1 (one_u8s _) ?_; intro x9 hw8 hr8; have hg8 := Bx.mk (kb_of hw8); have HR8 := Bx.mk hr8; clear hw8 hr8)
  have S2 := Bx.mk (S1.out.set hg8.out HR8.out HDE.out.2 (by intro y hy; have h1 := HDK.out; have h2 := HDE.out; simp at hy; rcases hy with rfl | rfl | rfl <;> (simp only; omega)))
  clear S1 hg8 HR8 hE
  go_wp2_with (refine wpList_load_row rfl 39 _ rfl K0 (by rfl) _ _ _ _ (S2.out.rows _ (.tail _ (.head _))) Tryd.underlying39 rfl HI.out.1 ?_)
  refine (HBy.out x9).mono ?_
  rintro e xa ⟨va, rfl, hoa, hb⟩
  have S3 := S2.out.later hb
  have hxa := own_form hoa
  rw [HBB.out] at hxa
  obtain ⟨aa, ca, rfl⟩ := hxa
  have FX := Bx.mk (And.intro (FW.out.2.1.later (by rw [HG.out]; exact S3.below)) (And.intro (FW.out.2.2.1.later (by rw [HG.out]; exact S3.below)) (And.intro (FW.out.2.2.2.later (by rw [HG.out]; exact S3.below)) hoa.bytes)))
  obtain ⟨G2, hG2⟩ : ∃ G, xa.heap.size = G := ⟨_, rfl⟩
  have HW2 : Bx (Below B w xa ∧ B ≤ G2 ∧ K0 < G2 ∧ D < G2 ∧ E < G2) := Bx.mk ⟨HW.out.1.trans (S3.below.mono HW.out.2), by have h1 := S3.le; have h2 := HW.out.2; omega, by rw [← hG2]; exact S3.lt (.tail _ (.head _)), by rw [← hG2]; exact S3.lt (.tail _ (.tail _ (.head _))), by rw [← hG2]; exact S3.lt (.head _)⟩
  have T0 : Bx (KS xa G2 [(E, .cells (u8s sk) 37), (K0, .cells kl.toArray 39), (D, .cells tbl.toArray 32), (B, .cells #[.int .i64 i, .int .i64 r, .int .i64 x, .int .i64 q] 24)] xa) := Bx.mk ⟨S3.rows, Below.refl _ _, Nat.le_of_eq hG2.symm⟩
  have HG2 := Bx.mk hG2
  clear hoa hb S2 S3 FW HW HG hG2
  go_wp2_with fail
  refine (HPa.out xa _ FX.out.2.2.2).mono ?_
  rintro e xb ⟨rfl, hb⟩
  have T1 := Bx.mk (T0.out.later hb)
  clear hb T0
  obtain ⟨Z, hZ⟩ : ∃ D, xb.heap.size = D := ⟨_, rfl⟩
  have HZ : Bx (G2 ≤ Z) := Bx.mk (by rw [← hZ]; exact T1.out.le)
  have T2 := Bx.mk (T1.out.new (.cells zc 39))
  rw [hZ] at T2
  clear T1
  go_upto_region 12 with (refine wpList_store_new rfl 39 _ _ rfl Z kl.toArray zc _ (by rfl) (by rfl) (T2.out.rows _ (.head _)) HI.out.2.2.1 HI.out.1 HI.out.2.1 ?_; intro xc hw8 hr8; have hg8 := Bx.mk (kb_of hw8); have HR8 := Bx.mk hr8; clear hw8 hr8)
  have Z0 := Bx.mk (T2.out.set hg8.out HR8.out HZ.out (by intro y hy; have h1 := HW2.out; have h2 := HZ.out; have h3 := HBD.out; simp at hy; rcases hy with rfl | rfl | rfl | rfl <;> (simp only; omega))).drew
  clear T2 hg8 HR8 hZ
  have HRp2 := Bx.mk fun (W : World) (vs vq : Value) => HRp.out qs W vs vq HQ.out.1 HQ.out.2
  have HTp2 := Bx.mk fun (W : World) (vq : Value) => HTp.out qs W vq HQ.out.1 HQ.out.2
  have HPr2 := Bx.mk fun (W : World) (v vt vq : Value) => HPr.out qs W v vt vq HQ.out.1 HQ.out.2
  have HPl : Bx ((prvK sk qs).length = 32) := Bx.mk (prvK_length _ _)
  generalize prvK sk qs = pv at *
  have hselfp : ∀ W : World, (binOp .eql 37 (.agg (u8s pv)) (.agg (u8s pv))).run Tryd.prog W = .ok (.bool true) W := fun W => by rw [sec_eql pv pv HPl.out HPl.out W]; simp
  have HIP : Bx ((Tryd.prog.info? 37).map (·.size) = some (u8s pv).size ∧ (u8s pv).size = z1.size ∧ (Tryd.prog.info? 37).map (·.size) = some (u8s pv).toList.length) := Bx.mk ⟨by rw [u8s_size, HPl.out]; kernel_rfl, by rw [← HZ1.out, u8s_size, u8s_size, HPl.out]; rfl, by rw [Array.length_toList, u8s_size, HPl.out]; kernel_rfl⟩
  clear HRp HTp HPr
  refine wp_region_noPanic ?_
  refine wp_region_held_drew (S := fun W => W.heap[D]? = some (.cells tbl.toArray 32 (0, 0))) (by kernel_rfl) ((Z0.out.rows _ (.tail _ (.tail _ (.tail _ (.head _)))))) (fun hHeld => ?_)
  generalize xc.drew = U0 at *
  refine takeL 0 rfl (by kernel_rfl) (by kernel_rfl) (by kernel_rfl) (fun _ _ _ h => h) (yieldsIf_load_mid (by rfl) _ _ rfl _ _ rfl _ _ (fun w hSw => row_rng hSw) Tryd.underlying32 rfl HTI.out.2.2.2) hHeld ?_
  try simp only [Act.put, List.setIfInBounds_toArray, List.set_cons_zero, List.set_cons_succ]
  refine takeL 1 (v := ?_) rfl (by kernel_rfl) (by kernel_rfl) (by kernel_rfl) (fun _ _ _ h => h) (Or.inl ⟨by rfl, ?_⟩) hHeld ?_
  rotate_left 1
  · (intro w hSw; go_simp; try with_reducible rfl)
  try simp only [Act.put, List.setIfInBounds_toArray, List.set_cons_zero, List.set_cons_succ]
  refine takeL 2 (v := ?_) rfl (by kernel_rfl) (by kernel_rfl) (by kernel_rfl) (fun _ _ _ h => h) (Or.inl ⟨by rfl, ?_⟩) hHeld ?_
  rotate_left 1
  · (intro w hSw; go_simp; try with_reducible rfl)
  try simp only [Act.put, List.setIfInBounds_toArray, List.set_cons_zero, List.set_cons_succ]
  refine wpAnyH_ready (rs := [3, 4]) (by kernel_rfl) (by simp) ?_
  refine consM 3 rfl (fun K hK => ?_) (consM 4 rfl (fun K hK => ?_) AllReadyH.nil)
  · go_simp
    refine (HRp2.out U0 _ _ (row_bytes (Z0.out.rows _ (.tail _ (.head _))) HSl.out) (FX.out.2.1.later (by rw [HG2.out]; exact Z0.out.below))).mono ?_
    rintro e U1 ⟨rfl, hb⟩
    show K _ _
    have Z1 := Bx.mk (Z0.out.later hb)
    clear hb Z0
    refine hK.out _ _ (Z1.out.rows _ (.tail _ (.tail _ (.tail _ (.head _))))) (fun hHeld => ?_)
    clear hK K
    try simp only [Act.put, List.setIfInBounds_toArray, List.set_cons_zero, List.set_cons_succ]
    refine stepL 4 (by kernel_rfl) rfl (fun K hK => ?_)
    go_simp
    show K _ _
    have HEF : Bx (Z < U1.heap.size ∧ G2 ≤ U1.heap.size) := Bx.mk ⟨Z1.out.lt (.head _), Z1.out.le⟩
    have Z2 := Bx.mk (Z1.out.new (.cells z1 37))
    clear Z1
    generalize U1.alloc (.cells z1 37) = U2 at *
    generalize U1.heap.size = F at *
    refine hK.out _ _ (Z2.out.rows _ (.tail _ (.tail _ (.tail _ (.tail _ (.head _)))))) (fun hHeld => ?_)
    clear hK K
    try simp only [Act.put, List.setIfInBounds_toArray, List.set_cons_zero, List.set_cons_succ]
    refine stepL 5 (by kernel_rfl) rfl (fun K hK => ?_)
    refine step_st rfl 37 _ _ rfl F (u8s pv) (by rfl) (by rfl) (there_row (Z2.out.rows _ (.head _)) 0 _ (by rw [HIP.out.2.1]; omega)) HIP.out.1 (one_u8s _) ?_
    have hr2 := heap_setCells_all (ds := u8s pv) (Z2.out.rows _ (.head _)) HIP.out.2.1
    have Z3 := Bx.mk (Z2.out.set (kb_setCells (u8s pv).toList 0 U2) hr2 HEF.out.2 (by intro y hy; have h1 := HW2.out; have h2 := HZ.out; have h3 := HEF.out; have h4 := HBD.out; simp at hy; rcases hy with rfl | rfl | rfl | rfl | rfl <;> (simp only; omega)))
    clear hr2 Z2
    refine hK.out _ _ (Z3.out.rows _ (.tail _ (.tail _ (.tail _ (.tail _ (.head _)))))) (fun hHeld => ?_)
    clear hK K
    try simp only [Act.put]
    generalize U2.setCells F 0 (u8s pv).toList = U3 at *
    refine wpAnyH_done (by kernel_rfl) ?_ _
    refine NoPanic.normal ?_
    clear hHeld
    go_upto_region 13 with fail
    have Y0 := Bx.mk Z3.out.drew
    clear Z3
    refine wp_region_noPanic ?_
    refine wp_region_held_drew (S := fun W => W.heap[F]? = some (.cells (u8s pv) 37 (0, 0)) ∧ W.heap[Z]? = some (.cells kl.toArray 39 (0, 0)) ∧ W.heap[E]? = some (.cells (u8s sk) 37 (0, 0)) ∧ W.heap[K0]? = some (.cells kl.toArray 39 (0, 0)) ∧ W.heap[B]? = some (.cells #[.int .i64 i, .int .i64 r, .int .i64 x, .int .i64 q] 24 (0, 0))) (by kernel_rfl) (⟨Y0.out.rows _ (.head _), Y0.out.rows _ (.tail _ (.head _)), Y0.out.rows _ (.tail _ (.tail _ (.head _))), Y0.out.rows _ (.tail _ (.tail _ (.tail _ (.head _)))), Y0.out.rows _ (.tail _ (.tail _ (.tail _ (.tail _ (.tail _ (.head _))))))⟩) (fun hHeld => ?_)
    generalize U3.drew = V0 at *
    refine stepL 0 (by kernel_rfl) rfl (fun K hK => ?_)
    go_simp
    refine (known6_any V0 (HT.out V0 (HW2.out.1.trans (Y0.out.below.mono HW2.out.2.1))).1 (HT.out V0 (HW2.out.1.trans (Y0.out.below.mono HW2.out.2.1))).2).mono ?_
    rintro e V1 ⟨rfl, hb⟩
    show K _ _
    have Y1 := Bx.mk (Y0.out.later hb)
    clear hb Y0
    refine hK.out _ _ ⟨Y1.out.rows _ (.head _), Y1.out.rows _ (.tail _ (.head _)), Y1.out.rows _ (.tail _ (.tail _ (.head _))), Y1.out.rows _ (.tail _ (.tail _ (.tail _ (.head _)))), Y1.out.rows _ (.tail _ (.tail _ (.tail _ (.tail _ (.tail _ (.head _))))))⟩ (fun hHeld => ?_)
    clear hK K
    try simp only [Act.put, List.setIfInBounds_toArray, List.set_cons_zero, List.set_cons_succ]
    refine takeL 1 (v := ?_) rfl (by kernel_rfl) (by kernel_rfl) (by kernel_rfl) (fun _ _ _ h => h) (Or.inl ⟨by rfl, ?_⟩) hHeld ?_
    rotate_left 1
    · (intro w hSw; go_simp; try with_reducible rfl)
    try simp only [Act.put, List.setIfInBounds_toArray, List.set_cons_zero, List.set_cons_succ]
    refine takeL 2 (v := ?_) rfl (by kernel_rfl) (by kernel_rfl) (by kernel_rfl) (fun _ _ _ h => h) (Or.inl ⟨by rfl, ?_⟩) hHeld ?_
    rotate_left 1
    · (intro w hSw; go_simp; try with_reducible rfl)
    try simp only [Act.put, List.setIfInBounds_toArray, List.set_cons_zero, List.set_cons_succ]
    refine takeL 3 (v := ?_) rfl (by kernel_rfl) (by kernel_rfl) (by kernel_rfl) (fun _ _ _ h => h) (Or.inl ⟨by rfl, ?_⟩) hHeld ?_
    rotate_left 1
    · (intro w hSw; go_simp; try with_reducible rfl)
    try simp only [Act.put, List.setIfInBounds_toArray, List.set_cons_zero, List.set_cons_succ]
    refine takeL 4 (v := ?_) rfl (by kernel_rfl) (by kernel_rfl) (by kernel_rfl) (fun _ _ _ h => h) (Or.inl ⟨by rfl, ?_⟩) hHeld ?_
    rotate_left 1
    · (intro w hSw; go_simp; try with_reducible rfl)
    try simp only [Act.put, List.setIfInBounds_toArray, List.set_cons_zero, List.set_cons_succ]
    refine takeL 5 (v := ?_) rfl (by kernel_rfl) (by kernel_rfl) (by kernel_rfl) (fun _ _ _ h => h) (Or.inl ⟨by rfl, ?_⟩) hHeld ?_
    rotate_left 1
    · (intro w hSw; go_simp; try with_reducible rfl)
    try simp only [Act.put, List.setIfInBounds_toArray, List.set_cons_zero, List.set_cons_succ]
    refine takeL 6 (v := ?_) rfl (by kernel_rfl) (by kernel_rfl) (by kernel_rfl) (fun _ _ _ h => h) (Or.inl ⟨by rfl, ?_⟩) hHeld ?_
    rotate_left 1
    · (intro w hSw; go_simp; try with_reducible rfl)
    try simp only [Act.put, List.setIfInBounds_toArray, List.set_cons_zero, List.set_cons_succ]
    refine takeL 7 rfl (by kernel_rfl) (by kernel_rfl) (by kernel_rfl) (fun _ _ _ h => h) (yieldsIf_load_mid (by rfl) _ _ rfl _ _ rfl _ _ (fun w hSw => (HK4.out w _ _ hSw.2.2.2.1).1) Tryd.underlying36 rfl (by kernel_rfl)) hHeld ?_
    try simp only [Act.put, List.setIfInBounds_toArray, List.set_cons_zero, List.set_cons_succ]
    refine takeL 8 rfl (by kernel_rfl) (by kernel_rfl) (by kernel_rfl) (fun _ _ _ h => h) (yieldsIf_load_mid (by rfl) _ _ rfl _ _ rfl _ _ (fun w hSw => row_rng (l := [.int .i64 i, .int .i64 r, .int .i64 x, .int .i64 q]) hSw.2.2.2.2) Tryd.underlying24 rfl (by kernel_rfl)) hHeld ?_
    try simp only [Act.put, List.setIfInBounds_toArray, List.set_cons_zero, List.set_cons_succ]
    refine stepL 9 (by kernel_rfl) rfl (fun K hK => ?_)
    go_simp
    refine (HTo.out V1).mono ?_
    rintro e V2 ⟨rfl, hb⟩
    show K _ _
    have Y2 := Bx.mk (Y1.out.later hb)
    clear hb Y1
    refine hK.out _ _ ⟨Y2.out.rows _ (.head _), Y2.out.rows _ (.tail _ (.head _)), Y2.out.rows _ (.tail _ (.tail _ (.head _))), Y2.out.rows _ (.tail _ (.tail _ (.tail _ (.head _)))), Y2.out.rows _ (.tail _ (.tail _ (.tail _ (.tail _ (.tail _ (.head _))))))⟩ (fun hHeld => ?_)
    clear hK K
    try simp only [Act.put, List.setIfInBounds_toArray, List.set_cons_zero, List.set_cons_succ]
    refine takeL 10 (v := ?_) rfl (by kernel_rfl) (by kernel_rfl) (by kernel_rfl) (fun _ _ _ h => h) (Or.inl ⟨by rfl, ?_⟩) hHeld ?_
    rotate_left 1
    · (intro w hSw; go_simp; try with_reducible rfl)
    try simp only [Act.put, List.setIfInBounds_toArray, List.set_cons_zero, List.set_cons_succ]
    refine takeL 11 (v := ?_) rfl (by kernel_rfl) (by kernel_rfl) (by kernel_rfl) (fun _ _ _ h => h) (Or.inl ⟨by rfl, ?_⟩) hHeld ?_
    rotate_left 1
    · (intro w hSw; go_simp; try with_reducible rfl)
    try simp only [Act.put, List.setIfInBounds_toArray, List.set_cons_zero, List.set_cons_succ]
    refine takeL 12 (v := ?_) rfl (by kernel_rfl) (by kernel_rfl) (by kernel_rfl) (fun _ _ _ h => h) (Or.inl ⟨by rfl, ?_⟩) hHeld ?_
    rotate_left 1
    · (intro w hSw; go_simp; try with_reducible rfl)
    try simp only [Act.put, List.setIfInBounds_toArray, List.set_cons_zero, List.set_cons_succ]
    refine takeL 13 (v := ?_) rfl (by kernel_rfl) (by kernel_rfl) (by kernel_rfl) (fun _ _ _ h => h) (Or.inl ⟨by rfl, ?_⟩) hHeld ?_
    rotate_left 1
    · (intro w hSw; go_simp; try with_reducible rfl)
    try simp only [Act.put, List.setIfInBounds_toArray, List.set_cons_zero, List.set_cons_succ]
    refine takeL 14 rfl (by kernel_rfl) (by kernel_rfl) (by kernel_rfl) (fun _ _ _ h => h) (yieldsIf_load_mid (by rfl) _ _ rfl _ _ rfl _ _ (fun w hSw => (HK4.out w _ _ hSw.2.2.2.1).2.2) Tryd.underlying37 rfl HIS.out.2.2) hHeld ?_
    try simp only [Act.put, List.setIfInBounds_toArray, List.set_cons_zero, List.set_cons_succ]
    refine takeL 15 rfl (by kernel_rfl) (by kernel_rfl) (by kernel_rfl) (fun _ _ _ h => h) (yieldsIf_load_mid (by rfl) _ _ rfl _ _ rfl _ _ (fun w hSw => row_rng (l := (u8s sk).toList) hSw.2.2.1) Tryd.underlying37 rfl HIS.out.2.2) hHeld ?_
    try simp only [Act.put, List.setIfInBounds_toArray, List.set_cons_zero, List.set_cons_succ]
    refine takeL 16 (v := ?_) rfl (by kernel_rfl) (by kernel_rfl) (by kernel_rfl) (fun _ _ _ h => h) (Or.inl ⟨by rfl, ?_⟩) hHeld ?_
    rotate_left 1
    · (intro w hSw; go_simp; try with_reducible rfl)
    try simp only [Act.put, List.setIfInBounds_toArray, List.set_cons_zero, List.set_cons_succ]
    refine takeL 17 (v := ?_) rfl (by kernel_rfl) (by kernel_rfl) (by kernel_rfl) (fun _ _ _ h => h) (Or.inl ⟨by rfl, ?_⟩) hHeld ?_
    rotate_left 1
    · (intro w hSw; go_simp; try with_reducible rfl)
    try simp only [Act.put, List.setIfInBounds_toArray, List.set_cons_zero, List.set_cons_succ]
    refine takeL 18 (v := ?_) rfl (by kernel_rfl) (by kernel_rfl) (by kernel_rfl) (fun _ _ _ h => h) (Or.inl ⟨by rfl, ?_⟩) hHeld ?_
    rotate_left 1
    · (intro w hSw; go_simp; try with_reducible rfl)
    try simp only [Act.put, List.setIfInBounds_toArray, List.set_cons_zero, List.set_cons_succ]
    refine takeL 19 (v := ?_) rfl (by kernel_rfl) (by kernel_rfl) (by kernel_rfl) (fun _ _ _ h => h) (Or.inl ⟨by rfl, ?_⟩) hHeld ?_
    rotate_left 1
    · (intro w hSw; go_simp; try with_reducible rfl)
    try simp only [Act.put, List.setIfInBounds_toArray, List.set_cons_zero, List.set_cons_succ]
    refine takeL 20 rfl (by kernel_rfl) (by kernel_rfl) (by kernel_rfl) (fun _ _ _ h => h) (yieldsIf_load_mid (by rfl) _ _ rfl _ _ rfl _ _ (fun w hSw => (HK4.out w _ _ hSw.2.2.2.1).2.1) Tryd.underlying39 rfl HI.out.2.2.2) hHeld ?_
    try simp only [Act.put, List.setIfInBounds_toArray, List.set_cons_zero, List.set_cons_succ]
    refine stepL 21 (by kernel_rfl) rfl (fun K hK => ?_)
    go_simp
    refine (HHo.out V2 _ (HW2.out.1.trans (Y2.out.below.mono HW2.out.2.1)) (FX.out.2.2.1.later (by rw [HG2.out]; exact Y2.out.below))).mono ?_
    rintro e V3 ⟨rfl, hb⟩
    show K _ _
    have Y3 := Bx.mk (Y2.out.later hb)
    clear hb Y2
    refine hK.out _ _ ⟨Y3.out.rows _ (.head _), Y3.out.rows _ (.tail _ (.head _)), Y3.out.rows _ (.tail _ (.tail _ (.head _))), Y3.out.rows _ (.tail _ (.tail _ (.tail _ (.head _)))), Y3.out.rows _ (.tail _ (.tail _ (.tail _ (.tail _ (.tail _ (.head _))))))⟩ (fun hHeld => ?_)
    clear hK K
    try simp only [Act.put, List.setIfInBounds_toArray, List.set_cons_zero, List.set_cons_succ]
    refine takeL 22 (v := ?_) rfl (by kernel_rfl) (by kernel_rfl) (by kernel_rfl) (fun _ _ _ h => h) (Or.inl ⟨by rfl, ?_⟩) hHeld ?_
    rotate_left 1
    · (intro w hSw; go_simp; try with_reducible rfl)
    try simp only [Act.put, List.setIfInBounds_toArray, List.set_cons_zero, List.set_cons_succ]
    refine takeL 23 (v := ?_) rfl (by kernel_rfl) (by kernel_rfl) (by kernel_rfl) (fun _ _ _ h => h) (Or.inl ⟨by rfl, ?_⟩) hHeld ?_
    rotate_left 1
    · (intro w hSw; go_simp; try with_reducible rfl)
    try simp only [Act.put, List.setIfInBounds_toArray, List.set_cons_zero, List.set_cons_succ]
    refine takeL 24 (v := ?_) rfl (by kernel_rfl) (by kernel_rfl) (by kernel_rfl) (fun _ _ _ h => h) (Or.inl ⟨by rfl, ?_⟩) hHeld ?_
    rotate_left 1
    · (intro w hSw; go_simp; try with_reducible rfl)
    try simp only [Act.put, List.setIfInBounds_toArray, List.set_cons_zero, List.set_cons_succ]
    refine takeL 25 (v := ?_) rfl (by kernel_rfl) (by kernel_rfl) (by kernel_rfl) (fun _ _ _ h => h) (Or.inl ⟨by rfl, ?_⟩) hHeld ?_
    rotate_left 1
    · (intro w hSw; go_simp; try with_reducible rfl)
    try simp only [Act.put, List.setIfInBounds_toArray, List.set_cons_zero, List.set_cons_succ]
    refine takeL 26 (v := ?_) rfl (by kernel_rfl) (by kernel_rfl) (by kernel_rfl) (fun _ _ _ h => h) (Or.inl ⟨by rfl, ?_⟩) hHeld ?_
    rotate_left 1
    · (intro w hSw; go_simp; try with_reducible rfl)
    try simp only [Act.put, List.setIfInBounds_toArray, List.set_cons_zero, List.set_cons_succ]
    refine takeL 27 (v := ?_) rfl (by kernel_rfl) (by kernel_rfl) (by kernel_rfl) (fun _ _ _ h => h) (Or.inl ⟨by rfl, ?_⟩) hHeld ?_
    rotate_left 1
    · (intro w hSw; go_simp; try with_reducible rfl)
    try simp only [Act.put, List.setIfInBounds_toArray, List.set_cons_zero, List.set_cons_succ]
    refine takeL 28 (v := ?_) rfl (by kernel_rfl) (by kernel_rfl) (by kernel_rfl) (fun _ _ _ h => h) (Or.inl ⟨by rfl, ?_⟩) hHeld ?_
    rotate_left 1
    · (intro w hSw; go_simp; try with_reducible rfl)
    try simp only [Act.put, List.setIfInBounds_toArray, List.set_cons_zero, List.set_cons_succ]
    refine takeL 29 rfl (by kernel_rfl) (by kernel_rfl) (by kernel_rfl) (fun _ _ _ h => h) (yieldsIf_load_mid (by rfl) _ _ rfl _ _ rfl _ _ (fun w hSw => row_rng (l := [.int .i64 i, .int .i64 r, .int .i64 x, .int .i64 q]) hSw.2.2.2.2) Tryd.underlying24 rfl (by kernel_rfl)) hHeld ?_
    try simp only [Act.put, List.setIfInBounds_toArray, List.set_cons_zero, List.set_cons_succ]
    refine takeL 31 (v := ?_) rfl (by kernel_rfl) (by kernel_rfl) (by kernel_rfl) (fun _ _ _ h => h) (Or.inl ⟨by rfl, ?_⟩) hHeld ?_
    rotate_left 1
    · (intro w hSw; go_simp; try with_reducible rfl)
    try simp only [Act.put, List.setIfInBounds_toArray, List.set_cons_zero, List.set_cons_succ]
    refine stepL 30 (by kernel_rfl) rfl (fun K hK => ?_)
    go_simp
    refine (HRb.out V3).mono ?_
    rintro e V4 ⟨vr, rfl, hor, hb⟩
    show K _ _
    have Y4 := Bx.mk (Y3.out.later hb)
    have HOR := Bx.mk hor
    have hvr := own_form hor
    rw [HBL.out] at hvr
    obtain ⟨ar, cr, rfl⟩ := hvr
    clear hor
    have HRB := Y3
    have HRZ := Bx.mk hb.size
    clear hb Y3
    refine hK.out _ _ ⟨Y4.out.rows _ (.head _), Y4.out.rows _ (.tail _ (.head _)), Y4.out.rows _ (.tail _ (.tail _ (.head _))), Y4.out.rows _ (.tail _ (.tail _ (.tail _ (.head _)))), Y4.out.rows _ (.tail _ (.tail _ (.tail _ (.tail _ (.tail _ (.head _))))))⟩ (fun hHeld => ?_)
    clear hK K
    try simp only [Act.put, List.setIfInBounds_toArray, List.set_cons_zero, List.set_cons_succ]
    refine stepL 32 (by kernel_rfl) rfl (fun K hK => ?_)
    have HOB : Bx (V3.heap.size ≤ V4.heap.size) := Bx.mk HRZ.out
    refine step_apw (by rfl) _ _ rfl V3.heap.size _ cb (by rfl) HOR.out _ sk (by rfl) (row_bytes (Y4.out.rows _ (.tail _ (.tail _ (.head _)))) HSl.out) (by rw [HBL.out, HSl.out]; omega) HOB.out ?_
    intro vq V5 ho1 hg1 _
    have Y5 := Bx.mk (Y4.out.grown2 hg1 HOR.out HRB.out rfl)
    have HVQ := Bx.mk ho1.bytes
    have hvq := own_form ho1
    rw [HBB.out] at hvq
    obtain ⟨aq, cq, rfl⟩ := hvq
    clear ho1 hg1 Y4 HOR
    refine hK.out _ _ ⟨Y5.out.rows _ (.head _), Y5.out.rows _ (.tail _ (.head _)), Y5.out.rows _ (.tail _ (.tail _ (.head _))), Y5.out.rows _ (.tail _ (.tail _ (.tail _ (.head _)))), Y5.out.rows _ (.tail _ (.tail _ (.tail _ (.tail _ (.tail _ (.head _))))))⟩ (fun hHeld => ?_)
    clear hK K
    try simp only [Act.put, List.setIfInBounds_toArray, List.set_cons_zero, List.set_cons_succ]
    refine stepL 33 (by kernel_rfl) rfl (fun K hK => ?_)
    go_simp
    refine (same_any (cb ++ sk) (cb ++ sk) _ _ V5 (FX.out.2.2.2.later (by rw [HG2.out]; exact Y5.out.below)) HVQ.out (by rw [HBB.out]; omega) (by rw [HBB.out]; omega)).mono ?_
    rintro e W' ⟨rfl, nd, rfl⟩
    show K _ _
    rw [decide_eq_true rfl]
    have Y6 := Bx.mk (Y5.out.later (below_drewN (Below.refl _ _) nd))
    clear Y5
    generalize V5.drewN nd = V6 at *
    refine hK.out _ _ ⟨Y6.out.rows _ (.head _), Y6.out.rows _ (.tail _ (.head _)), Y6.out.rows _ (.tail _ (.tail _ (.head _))), Y6.out.rows _ (.tail _ (.tail _ (.tail _ (.head _)))), Y6.out.rows _ (.tail _ (.tail _ (.tail _ (.tail _ (.tail _ (.head _))))))⟩ (fun hHeld => ?_)
    clear hK K
    try simp only [Act.put, List.setIfInBounds_toArray, List.set_cons_zero, List.set_cons_succ]
    refine takeL 34 (v := ?_) rfl (by kernel_rfl) (by kernel_rfl) (by kernel_rfl) (fun _ _ _ h => h) (Or.inl ⟨by rfl, ?_⟩) hHeld ?_
    rotate_left 1
    · (intro w hSw; go_simp; try with_reducible rfl)
    try simp only [Act.put, List.setIfInBounds_toArray, List.set_cons_zero, List.set_cons_succ]
    refine takeL 35 (v := ?_) rfl (by kernel_rfl) (by kernel_rfl) (by kernel_rfl) (fun _ _ _ h => h) (Or.inl ⟨by rfl, ?_⟩) hHeld ?_
    rotate_left 1
    · (intro w hSw; go_simp; try with_reducible rfl)
    try simp only [Act.put, List.setIfInBounds_toArray, List.set_cons_zero, List.set_cons_succ]
    refine takeL 36 (v := ?_) rfl (by kernel_rfl) (by kernel_rfl) (by kernel_rfl) (fun _ _ _ h => h) (Or.inl ⟨by rfl, ?_⟩) hHeld ?_
    rotate_left 1
    · (intro w hSw; go_simp; try with_reducible rfl)
    try simp only [Act.put, List.setIfInBounds_toArray, List.set_cons_zero, List.set_cons_succ]
    refine takeL 37 (v := ?_) rfl (by kernel_rfl) (by kernel_rfl) (by kernel_rfl) (fun _ _ _ h => h) (Or.inl ⟨by rfl, ?_⟩) hHeld ?_
    rotate_left 1
    · (intro w hSw; go_simp; try with_reducible rfl)
    try simp only [Act.put, List.setIfInBounds_toArray, List.set_cons_zero, List.set_cons_succ]
    refine takeL 38 (v := ?_) rfl (by kernel_rfl) (by kernel_rfl) (by kernel_rfl) (fun _ _ _ h => h) (Or.inl ⟨by rfl, ?_⟩) hHeld ?_
    rotate_left 1
    · (intro w hSw; go_simp; try with_reducible rfl)
    try simp only [Act.put, List.setIfInBounds_toArray, List.set_cons_zero, List.set_cons_succ]
    refine takeL 39 (v := ?_) rfl (by kernel_rfl) (by kernel_rfl) (by kernel_rfl) (fun _ _ _ h => h) (Or.inl ⟨by rfl, ?_⟩) hHeld ?_
    rotate_left 1
    · (intro w hSw; go_simp; try with_reducible rfl)
    try simp only [Act.put, List.setIfInBounds_toArray, List.set_cons_zero, List.set_cons_succ]
    refine takeL 40 (v := ?_) rfl (by kernel_rfl) (by kernel_rfl) (by kernel_rfl) (fun _ _ _ h => h) (Or.inl ⟨by rfl, ?_⟩) hHeld ?_
    rotate_left 1
    · (intro w hSw; go_simp; try with_reducible rfl)
    try simp only [Act.put, List.setIfInBounds_toArray, List.set_cons_zero, List.set_cons_succ]
    refine takeL 41 (v := ?_) rfl (by kernel_rfl) (by kernel_rfl) (by kernel_rfl) (fun _ _ _ h => h) (Or.inl ⟨by rfl, ?_⟩) hHeld ?_
    rotate_left 1
    · (intro w hSw; go_simp; try with_reducible rfl)
    try simp only [Act.put, List.setIfInBounds_toArray, List.set_cons_zero, List.set_cons_succ]
    refine takeL 42 (v := ?_) rfl (by kernel_rfl) (by kernel_rfl) (by kernel_rfl) (fun _ _ _ h => h) (Or.inl ⟨by rfl, ?_⟩) hHeld ?_
    rotate_left 1
    · (intro w hSw; go_simp; try with_reducible rfl)
    try simp only [Act.put, List.setIfInBounds_toArray, List.set_cons_zero, List.set_cons_succ]
    refine takeL 43 (v := ?_) rfl (by kernel_rfl) (by kernel_rfl) (by kernel_rfl) (fun _ _ _ h => h) (Or.inl ⟨by rfl, ?_⟩) hHeld ?_
    rotate_left 1
    · (intro w hSw; go_simp; try with_reducible rfl)
    try simp only [Act.put, List.setIfInBounds_toArray, List.set_cons_zero, List.set_cons_succ]
    refine takeL 44 (v := ?_) rfl (by kernel_rfl) (by kernel_rfl) (by kernel_rfl) (fun _ _ _ h => h) (Or.inl ⟨by rfl, ?_⟩) hHeld ?_
    rotate_left 1
    · (intro w hSw; go_simp; try with_reducible rfl)
    try simp only [Act.put, List.setIfInBounds_toArray, List.set_cons_zero, List.set_cons_succ]
    refine takeL 45 rfl (by kernel_rfl) (by kernel_rfl) (by kernel_rfl) (fun _ _ _ h => h) (yieldsIf_load_mid (by rfl) _ _ rfl _ _ rfl _ _ (fun w hSw => (HK4.out w _ _ hSw.2.1).2.1) Tryd.underlying39 rfl HI.out.2.2.2) hHeld ?_
    try simp only [Act.put, List.setIfInBounds_toArray, List.set_cons_zero, List.set_cons_succ]
    refine takeL 46 rfl (by kernel_rfl) (by kernel_rfl) (by kernel_rfl) (fun _ _ _ h => h) (yieldsIf_load_mid (by rfl) _ _ rfl _ _ rfl _ _ (fun w hSw => (HK4.out w _ _ hSw.2.2.2.1).2.1) Tryd.underlying39 rfl HI.out.2.2.2) hHeld ?_
    try simp only [Act.put, List.setIfInBounds_toArray, List.set_cons_zero, List.set_cons_succ]
    refine takeL 47 (v := ?_) rfl (by kernel_rfl) (by kernel_rfl) (by kernel_rfl) (fun _ _ _ h => h) (Or.inl ⟨by rfl, ?_⟩) hHeld ?_
    rotate_left 1
    · (intro w hSw; go_simp; try with_reducible rfl)
    try simp only [Act.put, List.setIfInBounds_toArray, List.set_cons_zero, List.set_cons_succ]
    refine takeL 48 (v := ?_) rfl (by kernel_rfl) (by kernel_rfl) (by kernel_rfl) (fun _ _ _ h => h) (Or.inl ⟨by rfl, ?_⟩) hHeld ?_
    rotate_left 1
    · (intro w hSw; go_simp; try with_reducible rfl)
    try simp only [Act.put, List.setIfInBounds_toArray, List.set_cons_zero, List.set_cons_succ]
    refine takeL 49 (v := ?_) rfl (by kernel_rfl) (by kernel_rfl) (by kernel_rfl) (fun _ _ _ h => h) (Or.inl ⟨by rfl, ?_⟩) hHeld ?_
    rotate_left 1
    · (intro w hSw; go_simp; try with_reducible rfl)
    try simp only [Act.put, List.setIfInBounds_toArray, List.set_cons_zero, List.set_cons_succ]
    refine takeL 50 rfl (by kernel_rfl) (by kernel_rfl) (by kernel_rfl) (fun _ _ _ h => h) (yieldsIf_load_mid (by rfl) _ _ rfl _ _ rfl _ _ (fun w hSw => (HK4.out w _ _ hSw.2.2.2.1).2.1) Tryd.underlying39 rfl HI.out.2.2.2) hHeld ?_
    try simp only [Act.put, List.setIfInBounds_toArray, List.set_cons_zero, List.set_cons_succ]
    refine takeL 51 (v := ?_) rfl (by kernel_rfl) (by kernel_rfl) (by kernel_rfl) (fun _ _ _ h => h) (Or.inl ⟨by rfl, ?_⟩) hHeld ?_
    rotate_left 1
    · (intro w hSw; go_simp; try with_reducible rfl)
    try simp only [Act.put, List.setIfInBounds_toArray, List.set_cons_zero, List.set_cons_succ]
    refine takeL 53 rfl (by kernel_rfl) (by kernel_rfl) (by kernel_rfl) (fun _ _ _ h => h) (yieldsIf_load_mid (by rfl) _ _ rfl _ _ rfl _ _ (fun w hSw => row_rng (l := (u8s pv).toList) hSw.1) Tryd.underlying37 rfl HIP.out.2.2) hHeld ?_
    try simp only [Act.put, List.setIfInBounds_toArray, List.set_cons_zero, List.set_cons_succ]
    refine stepL 52 (by kernel_rfl) rfl (fun K hK => ?_)
    go_simp
    refine (HTp2.out V6 _ (HW2.out.1.trans (Y6.out.below.mono HW2.out.2.1)) (FX.out.1.later (by rw [HG2.out]; exact Y6.out.below))).mono ?_
    rintro e V7 ⟨rfl, hb⟩
    show K _ _
    have Y7 := Bx.mk (Y6.out.later hb)
    clear hb Y6
    refine hK.out _ _ ⟨Y7.out.rows _ (.head _), Y7.out.rows _ (.tail _ (.head _)), Y7.out.rows _ (.tail _ (.tail _ (.head _))), Y7.out.rows _ (.tail _ (.tail _ (.tail _ (.head _)))), Y7.out.rows _ (.tail _ (.tail _ (.tail _ (.tail _ (.tail _ (.head _))))))⟩ (fun hHeld => ?_)
    clear hK K
    try simp only [Act.put, List.setIfInBounds_toArray, List.set_cons_zero, List.set_cons_succ]
    refine takeL 54 (v := ?_) rfl (by kernel_rfl) (by kernel_rfl) (by kernel_rfl) (fun _ _ _ h => h) (Or.inl ⟨by rfl, ?_⟩) hHeld ?_
    rotate_left 1
    · (intro w hSw; go_simp; try with_reducible rfl)
    try simp only [Act.put, List.setIfInBounds_toArray, List.set_cons_zero, List.set_cons_succ]
    refine takeL 55 (v := ?_) rfl (by kernel_rfl) (by kernel_rfl) (by kernel_rfl) (fun _ _ _ h => h) (Or.inl ⟨by rfl, ?_⟩) hHeld ?_
    rotate_left 1
    · (intro w hSw; go_simp; try with_reducible rfl)
    try simp only [Act.put, List.setIfInBounds_toArray, List.set_cons_zero, List.set_cons_succ]
    refine takeL 56 (v := ?_) rfl (by kernel_rfl) (by kernel_rfl) (by kernel_rfl) (fun _ _ _ h => h) (Or.inl ⟨by rfl, ?_⟩) hHeld ?_
    rotate_left 1
    · (intro w hSw; go_simp; try with_reducible rfl)
    try simp only [Act.put, List.setIfInBounds_toArray, List.set_cons_zero, List.set_cons_succ]
    refine takeL 57 rfl (by kernel_rfl) (by kernel_rfl) (by kernel_rfl) (fun _ _ _ h => h) (yieldsIf_load_mid (by rfl) _ _ rfl _ _ rfl _ _ (fun w hSw => (HK4.out w _ _ hSw.2.2.2.1).2.1) Tryd.underlying39 rfl HI.out.2.2.2) hHeld ?_
    try simp only [Act.put, List.setIfInBounds_toArray, List.set_cons_zero, List.set_cons_succ]
    refine takeL 60 (v := ?_) rfl (by kernel_rfl) (by kernel_rfl) (by kernel_rfl) (fun _ _ _ h => h) (Or.inl ⟨by rfl, ?_⟩) hHeld ?_
    rotate_left 1
    · (intro w hSw; go_simp; try with_reducible rfl)
    try simp only [Act.put, List.setIfInBounds_toArray, List.set_cons_zero, List.set_cons_succ]
    refine stepL 58 (by kernel_rfl) rfl (fun K hK => ?_)
    go_simp
    refine (HTk.out V7).mono ?_
    rintro e V8 ⟨vy, rfl, hky, hb⟩
    show K _ _
    have Y8 := Bx.mk (Y7.out.later hb)
    have HKY := Bx.mk hky.key
    obtain ⟨yp, rfl⟩ : ∃ kp, vy = .pointer (some ⟨kp, 0, none⟩) := by obtain ⟨p, s, h, -, -⟩ := hky.key; exact ⟨p, h⟩
    clear hky
    clear hb Y7
    refine hK.out _ _ ⟨Y8.out.rows _ (.head _), Y8.out.rows _ (.tail _ (.head _)), Y8.out.rows _ (.tail _ (.tail _ (.head _))), Y8.out.rows _ (.tail _ (.tail _ (.tail _ (.head _)))), Y8.out.rows _ (.tail _ (.tail _ (.tail _ (.tail _ (.tail _ (.head _))))))⟩ (fun hHeld => ?_)
    clear hK K
    try simp only [Act.put, List.setIfInBounds_toArray, List.set_cons_zero, List.set_cons_succ]
    refine stepL 59 (by kernel_rfl) rfl (fun K hK => ?_)
    go_simp
    refine (kbytes_any sk _ V8 HKY.out (by rw [HSl.out]; omega)).mono ?_
    rintro e V9 ⟨vz, rfl, hoz, hb⟩
    show K _ _
    have Y9 := Bx.mk (Y8.out.later hb)
    have HOZ := Bx.mk hoz.bytes
    have hvz := own_form hoz
    rw [HSl.out] at hvz
    obtain ⟨az, cz, rfl⟩ := hvz
    clear hoz
    clear hb Y8
    refine hK.out _ _ ⟨Y9.out.rows _ (.head _), Y9.out.rows _ (.tail _ (.head _)), Y9.out.rows _ (.tail _ (.tail _ (.head _))), Y9.out.rows _ (.tail _ (.tail _ (.tail _ (.head _)))), Y9.out.rows _ (.tail _ (.tail _ (.tail _ (.tail _ (.tail _ (.head _))))))⟩ (fun hHeld => ?_)
    clear hK K
    try simp only [Act.put, List.setIfInBounds_toArray, List.set_cons_zero, List.set_cons_succ]
    refine stepL 61 (by kernel_rfl) rfl (fun K hK => ?_)
    go_simp
    refine (same_any sk sk _ _ V9 HOZ.out (row_bytes (Y9.out.rows _ (.tail _ (.tail _ (.head _)))) HSl.out) (by rw [HSl.out]; omega) (by rw [HSl.out]; omega)).mono ?_
    rintro e W' ⟨rfl, nd, rfl⟩
    show K _ _
    rw [decide_eq_true rfl]
    have Y10 := Bx.mk (Y9.out.later (below_drewN (Below.refl _ _) nd))
    clear Y9
    generalize V9.drewN nd = V10 at *
    refine hK.out _ _ ⟨Y10.out.rows _ (.head _), Y10.out.rows _ (.tail _ (.head _)), Y10.out.rows _ (.tail _ (.tail _ (.head _))), Y10.out.rows _ (.tail _ (.tail _ (.tail _ (.head _)))), Y10.out.rows _ (.tail _ (.tail _ (.tail _ (.tail _ (.tail _ (.head _))))))⟩ (fun hHeld => ?_)
    clear hK K
    try simp only [Act.put, List.setIfInBounds_toArray, List.set_cons_zero, List.set_cons_succ]
    refine takeL 62 (v := ?_) rfl (by kernel_rfl) (by kernel_rfl) (by kernel_rfl) (fun _ _ _ h => h) (Or.inl ⟨by rfl, ?_⟩) hHeld ?_
    rotate_left 1
    · (intro w hSw; go_simp; try with_reducible rfl)
    try simp only [Act.put, List.setIfInBounds_toArray, List.set_cons_zero, List.set_cons_succ]
    refine takeL 63 (v := ?_) rfl (by kernel_rfl) (by kernel_rfl) (by kernel_rfl) (fun _ _ _ h => h) (Or.inl ⟨by rfl, ?_⟩) hHeld ?_
    rotate_left 1
    · (intro w hSw; go_simp; try with_reducible rfl)
    try simp only [Act.put, List.setIfInBounds_toArray, List.set_cons_zero, List.set_cons_succ]
    refine takeL 64 (v := ?_) rfl (by kernel_rfl) (by kernel_rfl) (by kernel_rfl) (fun _ _ _ h => h) (Or.inl ⟨by rfl, ?_⟩) hHeld ?_
    rotate_left 1
    · (intro w hSw; go_simp; try with_reducible rfl)
    try simp only [Act.put, List.setIfInBounds_toArray, List.set_cons_zero, List.set_cons_succ]
    refine takeL 65 (v := ?_) rfl (by kernel_rfl) (by kernel_rfl) (by kernel_rfl) (fun _ _ _ h => h) (Or.inl ⟨by rfl, ?_⟩) hHeld ?_
    rotate_left 1
    · (intro w hSw; go_simp; try with_reducible rfl)
    try simp only [Act.put, List.setIfInBounds_toArray, List.set_cons_zero, List.set_cons_succ]
    refine takeL 66 rfl (by kernel_rfl) (by kernel_rfl) (by kernel_rfl) (fun _ _ _ h => h) (yieldsIf_load_mid (by rfl) _ _ rfl _ _ rfl _ _ (fun w hSw => (HK4.out w _ _ hSw.2.2.2.1).1) Tryd.underlying36 rfl (by kernel_rfl)) hHeld ?_
    try simp only [Act.put, List.setIfInBounds_toArray, List.set_cons_zero, List.set_cons_succ]
    refine takeL 67 (v := ?_) rfl (by kernel_rfl) (by kernel_rfl) (by kernel_rfl) (fun _ _ _ h => h) (Or.inl ⟨by rfl, ?_⟩) hHeld ?_
    rotate_left 1
    · (intro w hSw; go_simp; try with_reducible rfl)
    try simp only [Act.put, List.setIfInBounds_toArray, List.set_cons_zero, List.set_cons_succ]
    refine takeL 68 (v := ?_) rfl (by kernel_rfl) (by kernel_rfl) (by kernel_rfl) (fun _ _ _ h => h) (Or.inl ⟨by rfl, ?_⟩) hHeld ?_
    rotate_left 1
    · (intro w hSw; go_simp; try with_reducible rfl)
    try simp only [Act.put, List.setIfInBounds_toArray, List.set_cons_zero, List.set_cons_succ]
    refine stepL 69 (by kernel_rfl) rfl (fun K hK => ?_)
    go_simp
    refine (HPr2.out V10 _ _ _ (HW2.out.1.trans (Y10.out.below.mono HW2.out.2.1)) (FX.out.2.2.1.later (by rw [HG2.out]; exact Y10.out.below)) (row_bytes (Y10.out.rows _ (.head _)) HPl.out) (FX.out.1.later (by rw [HG2.out]; exact Y10.out.below))).mono ?_
    rintro e V11 ⟨rfl, hb⟩
    show K _ _
    have Y11 := Bx.mk (Y10.out.later hb)
    clear hb Y10
    refine hK.out _ _ ⟨Y11.out.rows _ (.head _), Y11.out.rows _ (.tail _ (.head _)), Y11.out.rows _ (.tail _ (.tail _ (.head _))), Y11.out.rows _ (.tail _ (.tail _ (.tail _ (.head _)))), Y11.out.rows _ (.tail _ (.tail _ (.tail _ (.tail _ (.tail _ (.head _))))))⟩ (fun hHeld => ?_)
    clear hK K
    try simp only [Act.put, List.setIfInBounds_toArray, List.set_cons_zero, List.set_cons_succ]
    refine takeL 70 (v := ?_) rfl (by kernel_rfl) (by kernel_rfl) (by kernel_rfl) (fun _ _ _ h => h) (Or.inl ⟨by rfl, ?_⟩) hHeld ?_
    rotate_left 1
    · (intro w hSw; go_simp; try with_reducible rfl)
    try simp only [Act.put, List.setIfInBounds_toArray, List.set_cons_zero, List.set_cons_succ]
    refine takeL 71 (v := ?_) rfl (by kernel_rfl) (by kernel_rfl) (by kernel_rfl) (fun _ _ _ h => h) (Or.inl ⟨by rfl, ?_⟩) hHeld ?_
    rotate_left 1
    · (intro w hSw; go_simp; try with_reducible rfl)
    try simp only [Act.put, List.setIfInBounds_toArray, List.set_cons_zero, List.set_cons_succ]
    refine takeL 72 (v := ?_) rfl (by kernel_rfl) (by kernel_rfl) (by kernel_rfl) (fun _ _ _ h => h) (Or.inl ⟨by rfl, ?_⟩) hHeld ?_
    rotate_left 1
    · (intro w hSw; go_simp; try with_reducible rfl)
    try simp only [Act.put, List.setIfInBounds_toArray, List.set_cons_zero, List.set_cons_succ]
    refine takeL 73 (v := ?_) rfl (by kernel_rfl) (by kernel_rfl) (by kernel_rfl) (fun _ _ _ h => h) (Or.inl ⟨by rfl, ?_⟩) hHeld ?_
    rotate_left 1
    · (intro w hSw; go_simp; try with_reducible rfl)
    try simp only [Act.put, List.setIfInBounds_toArray, List.set_cons_zero, List.set_cons_succ]
    refine takeL 74 (v := ?_) rfl (by kernel_rfl) (by kernel_rfl) (by kernel_rfl) (fun _ _ _ h => h) (Or.inl ⟨by rfl, ?_⟩) hHeld ?_
    rotate_left 1
    · (intro w hSw; go_simp; try with_reducible rfl)
    try simp only [Act.put, List.setIfInBounds_toArray, List.set_cons_zero, List.set_cons_succ]
    refine takeL 75 (v := ?_) rfl (by kernel_rfl) (by kernel_rfl) (by kernel_rfl) (fun _ _ _ h => h) (Or.inl ⟨by rfl, ?_⟩) hHeld ?_
    rotate_left 1
    · (intro w hSw; go_simp; try with_reducible rfl)
    try simp only [Act.put, List.setIfInBounds_toArray, List.set_cons_zero, List.set_cons_succ]
    refine takeL 76 (v := ?_) rfl (by kernel_rfl) (by kernel_rfl) (by kernel_rfl) (fun _ _ _ h => h) (Or.inl ⟨by rfl, ?_⟩) hHeld ?_
    rotate_left 1
    · (intro w hSw; go_simp; try with_reducible rfl)
    try simp only [Act.put, List.setIfInBounds_toArray, List.set_cons_zero, List.set_cons_succ]
    refine takeL 77 (v := ?_) rfl (by kernel_rfl) (by kernel_rfl) (by kernel_rfl) (fun _ _ _ h => h) (Or.inl ⟨by rfl, ?_⟩) hHeld ?_
    rotate_left 1
    · (intro w hSw; go_simp; try with_reducible rfl)
    try simp only [Act.put, List.setIfInBounds_toArray, List.set_cons_zero, List.set_cons_succ]
    refine takeL 78 rfl (by kernel_rfl) (by kernel_rfl) (by kernel_rfl) (fun _ _ _ h => h) (yieldsIf_load_mid (by rfl) _ _ rfl _ _ rfl _ _ (fun w hSw => (HK4.out w _ _ hSw.2.2.2.1).1) Tryd.underlying36 rfl (by kernel_rfl)) hHeld ?_
    try simp only [Act.put, List.setIfInBounds_toArray, List.set_cons_zero, List.set_cons_succ]
    refine takeL 79 (v := ?_) rfl (by kernel_rfl) (by kernel_rfl) (by kernel_rfl) (fun _ _ _ h => h) (Or.inl ⟨by rfl, ?_⟩) hHeld ?_
    rotate_left 1
    · (intro w hSw; go_simp; try with_reducible rfl)
    try simp only [Act.put, List.setIfInBounds_toArray, List.set_cons_zero, List.set_cons_succ]
    refine takeL 80 (v := ?_) rfl (by kernel_rfl) (by kernel_rfl) (by kernel_rfl) (fun _ _ _ h => h) (Or.inl ⟨by rfl, ?_⟩) hHeld ?_
    rotate_left 1
    · (intro w hSw; go_simp; try with_reducible rfl)
    try simp only [Act.put, List.setIfInBounds_toArray, List.set_cons_zero, List.set_cons_succ]
    refine stepL 81 (by kernel_rfl) rfl (fun K hK => ?_)
    go_simp
    refine (HPn.out V11 _ _).mono ?_
    rintro e V12 ⟨rfl, hb⟩
    show K _ _
    have Y12 := Bx.mk (Y11.out.later hb)
    clear hb Y11
    refine hK.out _ _ ⟨Y12.out.rows _ (.head _), Y12.out.rows _ (.tail _ (.head _)), Y12.out.rows _ (.tail _ (.tail _ (.head _))), Y12.out.rows _ (.tail _ (.tail _ (.tail _ (.head _)))), Y12.out.rows _ (.tail _ (.tail _ (.tail _ (.tail _ (.tail _ (.head _))))))⟩ (fun hHeld => ?_)
    clear hK K
    try simp only [Act.put, List.setIfInBounds_toArray, List.set_cons_zero, List.set_cons_succ]
    refine takeL 82 (v := ?_) rfl (by kernel_rfl) (by kernel_rfl) (by kernel_rfl) (fun _ _ _ h => h) (Or.inl ⟨by rfl, ?_⟩) hHeld ?_
    rotate_left 1
    · (intro w hSw; go_simp; try with_reducible rfl)
    try simp only [Act.put, List.setIfInBounds_toArray, List.set_cons_zero, List.set_cons_succ]
    refine takeL 83 (v := ?_) rfl (by kernel_rfl) (by kernel_rfl) (by kernel_rfl) (fun _ _ _ h => h) (Or.inl ⟨by rfl, ?_⟩) hHeld ?_
    rotate_left 1
    · (intro w hSw; go_simp; try with_reducible rfl)
    try simp only [Act.put, List.setIfInBounds_toArray, List.set_cons_zero, List.set_cons_succ]
    refine takeL 84 (v := ?_) rfl (by kernel_rfl) (by kernel_rfl) (by kernel_rfl) (fun _ _ _ h => h) (Or.inl ⟨by rfl, ?_⟩) hHeld ?_
    rotate_left 1
    · (intro w hSw; go_simp; try with_reducible rfl)
    try simp only [Act.put, List.setIfInBounds_toArray, List.set_cons_zero, List.set_cons_succ]
    refine wpAnyH_done (by kernel_rfl) ?_ _
    refine NoPanic.normal ?_
    clear hHeld
    try go_wp2
    go_ret
    exact ⟨rfl, (HW2.out.1.trans (Y12.out.below.mono HW2.out.2.1))⟩
  · go_simp
    show K _ _
    have HEF : Bx (Z < U0.heap.size ∧ G2 ≤ U0.heap.size) := Bx.mk ⟨Z0.out.lt (.head _), Z0.out.le⟩
    have Z1 := Bx.mk (Z0.out.new (.cells z1 37))
    clear Z0
    generalize U0.alloc (.cells z1 37) = U1 at *
    generalize U0.heap.size = F at *
    refine hK.out _ _ (Z1.out.rows _ (.tail _ (.tail _ (.tail _ (.tail _ (.head _)))))) (fun hHeld => ?_)
    clear hK K
    try simp only [Act.put, List.setIfInBounds_toArray, List.set_cons_zero, List.set_cons_succ]
    refine stepL 3 (by kernel_rfl) rfl (fun K hK => ?_)
    go_simp
    refine (HRp2.out U1 _ _ (row_bytes (Z1.out.rows _ (.tail _ (.tail _ (.head _)))) HSl.out) (FX.out.2.1.later (by rw [HG2.out]; exact Z1.out.below))).mono ?_
    rintro e U2 ⟨rfl, hb⟩
    show K _ _
    have Z2 := Bx.mk (Z1.out.later hb)
    clear hb Z1
    refine hK.out _ _ (Z2.out.rows _ (.tail _ (.tail _ (.tail _ (.tail _ (.head _)))))) (fun hHeld => ?_)
    clear hK K
    try simp only [Act.put, List.setIfInBounds_toArray, List.set_cons_zero, List.set_cons_succ]
    refine stepL 5 (by kernel_rfl) rfl (fun K hK => ?_)
    refine step_st rfl 37 _ _ rfl F (u8s pv) (by rfl) (by rfl) (there_row (Z2.out.rows _ (.head _)) 0 _ (by rw [HIP.out.2.1]; omega)) HIP.out.1 (one_u8s _) ?_
    have hr2 := heap_setCells_all (ds := u8s pv) (Z2.out.rows _ (.head _)) HIP.out.2.1
    have Z3 := Bx.mk (Z2.out.set (kb_setCells (u8s pv).toList 0 U2) hr2 HEF.out.2 (by intro y hy; have h1 := HW2.out; have h2 := HZ.out; have h3 := HEF.out; have h4 := HBD.out; simp at hy; rcases hy with rfl | rfl | rfl | rfl | rfl <;> (simp only; omega)))
    clear hr2 Z2
    refine hK.out _ _ (Z3.out.rows _ (.tail _ (.tail _ (.tail _ (.tail _ (.head _)))))) (fun hHeld => ?_)
    clear hK K
    try simp only [Act.put]
    generalize U2.setCells F 0 (u8s pv).toList = U3 at *
    refine wpAnyH_done (by kernel_rfl) ?_ _
    refine NoPanic.normal ?_
    clear hHeld
    go_upto_region 13 with fail
    have Y0 := Bx.mk Z3.out.drew
    clear Z3
    refine wp_region_noPanic ?_
    refine wp_region_held_drew (S := fun W => W.heap[F]? = some (.cells (u8s pv) 37 (0, 0)) ∧ W.heap[Z]? = some (.cells kl.toArray 39 (0, 0)) ∧ W.heap[E]? = some (.cells (u8s sk) 37 (0, 0)) ∧ W.heap[K0]? = some (.cells kl.toArray 39 (0, 0)) ∧ W.heap[B]? = some (.cells #[.int .i64 i, .int .i64 r, .int .i64 x, .int .i64 q] 24 (0, 0))) (by kernel_rfl) (⟨Y0.out.rows _ (.head _), Y0.out.rows _ (.tail _ (.head _)), Y0.out.rows _ (.tail _ (.tail _ (.head _))), Y0.out.rows _ (.tail _ (.tail _ (.tail _ (.head _)))), Y0.out.rows _ (.tail _ (.tail _ (.tail _ (.tail _ (.tail _ (.head _))))))⟩) (fun hHeld => ?_)
    generalize U3.drew = V0 at *
    refine stepL 0 (by kernel_rfl) rfl (fun K hK => ?_)
    go_simp
    refine (known6_any V0 (HT.out V0 (HW2.out.1.trans (Y0.out.below.mono HW2.out.2.1))).1 (HT.out V0 (HW2.out.1.trans (Y0.out.below.mono HW2.out.2.1))).2).mono ?_
    rintro e V1 ⟨rfl, hb⟩
    show K _ _
    have Y1 := Bx.mk (Y0.out.later hb)
    clear hb Y0
    refine hK.out _ _ ⟨Y1.out.rows _ (.head _), Y1.out.rows _ (.tail _ (.head _)), Y1.out.rows _ (.tail _ (.tail _ (.head _))), Y1.out.rows _ (.tail _ (.tail _ (.tail _ (.head _)))), Y1.out.rows _ (.tail _ (.tail _ (.tail _ (.tail _ (.tail _ (.head _))))))⟩ (fun hHeld => ?_)
    clear hK K
    try simp only [Act.put, List.setIfInBounds_toArray, List.set_cons_zero, List.set_cons_succ]
    refine takeL 1 (v := ?_) rfl (by kernel_rfl) (by kernel_rfl) (by kernel_rfl) (fun _ _ _ h => h) (Or.inl ⟨by rfl, ?_⟩) hHeld ?_
    rotate_left 1
    · (intro w hSw; go_simp; try with_reducible rfl)
    try simp only [Act.put, List.setIfInBounds_toArray, List.set_cons_zero, List.set_cons_succ]
    refine takeL 2 (v := ?_) rfl (by kernel_rfl) (by kernel_rfl) (by kernel_rfl) (fun _ _ _ h => h) (Or.inl ⟨by rfl, ?_⟩) hHeld ?_
    rotate_left 1
    · (intro w hSw; go_simp; try with_reducible rfl)
    try simp only [Act.put, List.setIfInBounds_toArray, List.set_cons_zero, List.set_cons_succ]
    refine takeL 3 (v := ?_) rfl (by kernel_rfl) (by kernel_rfl) (by kernel_rfl) (fun _ _ _ h => h) (Or.inl ⟨by rfl, ?_⟩) hHeld ?_
    rotate_left 1
    · (intro w hSw; go_simp; try with_reducible rfl)
    try simp only [Act.put, List.setIfInBounds_toArray, List.set_cons_zero, List.set_cons_succ]
    refine takeL 4 (v := ?_) rfl (by kernel_rfl) (by kernel_rfl) (by kernel_rfl) (fun _ _ _ h => h) (Or.inl ⟨by rfl, ?_⟩) hHeld ?_
    rotate_left 1
    · (intro w hSw; go_simp; try with_reducible rfl)
    try simp only [Act.put, List.setIfInBounds_toArray, List.set_cons_zero, List.set_cons_succ]
    refine takeL 5 (v := ?_) rfl (by kernel_rfl) (by kernel_rfl) (by kernel_rfl) (fun _ _ _ h => h) (Or.inl ⟨by rfl, ?_⟩) hHeld ?_
    rotate_left 1
    · (intro w hSw; go_simp; try with_reducible rfl)
    try simp only [Act.put, List.setIfInBounds_toArray, List.set_cons_zero, List.set_cons_succ]
    refine takeL 6 (v := ?_) rfl (by kernel_rfl) (by kernel_rfl) (by kernel_rfl) (fun _ _ _ h => h) (Or.inl ⟨by rfl, ?_⟩) hHeld ?_
    rotate_left 1
    · (intro w hSw; go_simp; try with_reducible rfl)
    try simp only [Act.put, List.setIfInBounds_toArray, List.set_cons_zero, List.set_cons_succ]
    refine takeL 7 rfl (by kernel_rfl) (by kernel_rfl) (by kernel_rfl) (fun _ _ _ h => h) (yieldsIf_load_mid (by rfl) _ _ rfl _ _ rfl _ _ (fun w hSw => (HK4.out w _ _ hSw.2.2.2.1).1) Tryd.underlying36 rfl (by kernel_rfl)) hHeld ?_
    try simp only [Act.put, List.setIfInBounds_toArray, List.set_cons_zero, List.set_cons_succ]
    refine takeL 8 rfl (by kernel_rfl) (by kernel_rfl) (by kernel_rfl) (fun _ _ _ h => h) (yieldsIf_load_mid (by rfl) _ _ rfl _ _ rfl _ _ (fun w hSw => row_rng (l := [.int .i64 i, .int .i64 r, .int .i64 x, .int .i64 q]) hSw.2.2.2.2) Tryd.underlying24 rfl (by kernel_rfl)) hHeld ?_
    try simp only [Act.put, List.setIfInBounds_toArray, List.set_cons_zero, List.set_cons_succ]
    refine stepL 9 (by kernel_rfl) rfl (fun K hK => ?_)
    go_simp
    refine (HTo.out V1).mono ?_
    rintro e V2 ⟨rfl, hb⟩
    show K _ _
    have Y2 := Bx.mk (Y1.out.later hb)
    clear hb Y1
    refine hK.out _ _ ⟨Y2.out.rows _ (.head _), Y2.out.rows _ (.tail _ (.head _)), Y2.out.rows _ (.tail _ (.tail _ (.head _))), Y2.out.rows _ (.tail _ (.tail _ (.tail _ (.head _)))), Y2.out.rows _ (.tail _ (.tail _ (.tail _ (.tail _ (.tail _ (.head _))))))⟩ (fun hHeld => ?_)
    clear hK K
    try simp only [Act.put, List.setIfInBounds_toArray, List.set_cons_zero, List.set_cons_succ]
    refine takeL 10 (v := ?_) rfl (by kernel_rfl) (by kernel_rfl) (by kernel_rfl) (fun _ _ _ h => h) (Or.inl ⟨by rfl, ?_⟩) hHeld ?_
    rotate_left 1
    · (intro w hSw; go_simp; try with_reducible rfl)
    try simp only [Act.put, List.setIfInBounds_toArray, List.set_cons_zero, List.set_cons_succ]
    refine takeL 11 (v := ?_) rfl (by kernel_rfl) (by kernel_rfl) (by kernel_rfl) (fun _ _ _ h => h) (Or.inl ⟨by rfl, ?_⟩) hHeld ?_
    rotate_left 1
    · (intro w hSw; go_simp; try with_reducible rfl)
    try simp only [Act.put, List.setIfInBounds_toArray, List.set_cons_zero, List.set_cons_succ]
    refine takeL 12 (v := ?_) rfl (by kernel_rfl) (by kernel_rfl) (by kernel_rfl) (fun _ _ _ h => h) (Or.inl ⟨by rfl, ?_⟩) hHeld ?_
    rotate_left 1
    · (intro w hSw; go_simp; try with_reducible rfl)
    try simp only [Act.put, List.setIfInBounds_toArray, List.set_cons_zero, List.set_cons_succ]
    refine takeL 13 (v := ?_) rfl (by kernel_rfl) (by kernel_rfl) (by kernel_rfl) (fun _ _ _ h => h) (Or.inl ⟨by rfl, ?_⟩) hHeld ?_
    rotate_left 1
    · (intro w hSw; go_simp; try with_reducible rfl)
    try simp only [Act.put, List.setIfInBounds_toArray, List.set_cons_zero, List.set_cons_succ]
    refine takeL 14 rfl (by kernel_rfl) (by kernel_rfl) (by kernel_rfl) (fun _ _ _ h => h) (yieldsIf_load_mid (by rfl) _ _ rfl _ _ rfl _ _ (fun w hSw => (HK4.out w _ _ hSw.2.2.2.1).2.2) Tryd.underlying37 rfl HIS.out.2.2) hHeld ?_
    try simp only [Act.put, List.setIfInBounds_toArray, List.set_cons_zero, List.set_cons_succ]
    refine takeL 15 rfl (by kernel_rfl) (by kernel_rfl) (by kernel_rfl) (fun _ _ _ h => h) (yieldsIf_load_mid (by rfl) _ _ rfl _ _ rfl _ _ (fun w hSw => row_rng (l := (u8s sk).toList) hSw.2.2.1) Tryd.underlying37 rfl HIS.out.2.2) hHeld ?_
    try simp only [Act.put, List.setIfInBounds_toArray, List.set_cons_zero, List.set_cons_succ]
    refine takeL 16 (v := ?_) rfl (by kernel_rfl) (by kernel_rfl) (by kernel_rfl) (fun _ _ _ h => h) (Or.inl ⟨by rfl, ?_⟩) hHeld ?_
    rotate_left 1
    · (intro w hSw; go_simp; try with_reducible rfl)
    try simp only [Act.put, List.setIfInBounds_toArray, List.set_cons_zero, List.set_cons_succ]
    refine takeL 17 (v := ?_) rfl (by kernel_rfl) (by kernel_rfl) (by kernel_rfl) (fun _ _ _ h => h) (Or.inl ⟨by rfl, ?_⟩) hHeld ?_
    rotate_left 1
    · (intro w hSw; go_simp; try with_reducible rfl)
    try simp only [Act.put, List.setIfInBounds_toArray, List.set_cons_zero, List.set_cons_succ]
    refine takeL 18 (v := ?_) rfl (by kernel_rfl) (by kernel_rfl) (by kernel_rfl) (fun _ _ _ h => h) (Or.inl ⟨by rfl, ?_⟩) hHeld ?_
    rotate_left 1
    · (intro w hSw; go_simp; try with_reducible rfl)
    try simp only [Act.put, List.setIfInBounds_toArray, List.set_cons_zero, List.set_cons_succ]
    refine takeL 19 (v := ?_) rfl (by kernel_rfl) (by kernel_rfl) (by kernel_rfl) (fun _ _ _ h => h) (Or.inl ⟨by rfl, ?_⟩) hHeld ?_
    rotate_left 1
    · (intro w hSw; go_simp; try with_reducible rfl)
    try simp only [Act.put, List.setIfInBounds_toArray, List.set_cons_zero, List.set_cons_succ]
    refine takeL 20 rfl (by kernel_rfl) (by kernel_rfl) (by kernel_rfl) (fun _ _ _ h => h) (yieldsIf_load_mid (by rfl) _ _ rfl _ _ rfl _ _ (fun w hSw => (HK4.out w _ _ hSw.2.2.2.1).2.1) Tryd.underlying39 rfl HI.out.2.2.2) hHeld ?_
    try simp only [Act.put, List.setIfInBounds_toArray, List.set_cons_zero, List.set_cons_succ]
    refine stepL 21 (by kernel_rfl) rfl (fun K hK => ?_)
    go_simp
    refine (HHo.out V2 _ (HW2.out.1.trans (Y2.out.below.mono HW2.out.2.1)) (FX.out.2.2.1.later (by rw [HG2.out]; exact Y2.out.below))).mono ?_
    rintro e V3 ⟨rfl, hb⟩
    show K _ _
    have Y3 := Bx.mk (Y2.out.later hb)
    clear hb Y2
    refine hK.out _ _ ⟨Y3.out.rows _ (.head _), Y3.out.rows _ (.tail _ (.head _)), Y3.out.rows _ (.tail _ (.tail _ (.head _))), Y3.out.rows _ (.tail _ (.tail _ (.tail _ (.head _)))), Y3.out.rows _ (.tail _ (.tail _ (.tail _ (.tail _ (.tail _ (.head _))))))⟩ (fun hHeld => ?_)
    clear hK K
    try simp only [Act.put, List.setIfInBounds_toArray, List.set_cons_zero, List.set_cons_succ]
    refine takeL 22 (v := ?_) rfl (by kernel_rfl) (by kernel_rfl) (by kernel_rfl) (fun _ _ _ h => h) (Or.inl ⟨by rfl, ?_⟩) hHeld ?_
    rotate_left 1
    · (intro w hSw; go_simp; try with_reducible rfl)
    try simp only [Act.put, List.setIfInBounds_toArray, List.set_cons_zero, List.set_cons_succ]
    refine takeL 23 (v := ?_) rfl (by kernel_rfl) (by kernel_rfl) (by kernel_rfl) (fun _ _ _ h => h) (Or.inl ⟨by rfl, ?_⟩) hHeld ?_
    rotate_left 1
    · (intro w hSw; go_simp; try with_reducible rfl)
    try simp only [Act.put, List.setIfInBounds_toArray, List.set_cons_zero, List.set_cons_succ]
    refine takeL 24 (v := ?_) rfl (by kernel_rfl) (by kernel_rfl) (by kernel_rfl) (fun _ _ _ h => h) (Or.inl ⟨by rfl, ?_⟩) hHeld ?_
    rotate_left 1
    · (intro w hSw; go_simp; try with_reducible rfl)
    try simp only [Act.put, List.setIfInBounds_toArray, List.set_cons_zero, List.set_cons_succ]
    refine takeL 25 (v := ?_) rfl (by kernel_rfl) (by kernel_rfl) (by kernel_rfl) (fun _ _ _ h => h) (Or.inl ⟨by rfl, ?_⟩) hHeld ?_
    rotate_left 1
    · (intro w hSw; go_simp; try with_reducible rfl)
    try simp only [Act.put, List.setIfInBounds_toArray, List.set_cons_zero, List.set_cons_succ]
    refine takeL 26 (v := ?_) rfl (by kernel_rfl) (by kernel_rfl) (by kernel_rfl) (fun _ _ _ h => h) (Or.inl ⟨by rfl, ?_⟩) hHeld ?_
    rotate_left 1
    · (intro w hSw; go_simp; try with_reducible rfl)
    try simp only [Act.put, List.setIfInBounds_toArray, List.set_cons_zero, List.set_cons_succ]
    refine takeL 27 (v := ?_) rfl (by kernel_rfl) (by kernel_rfl) (by kernel_rfl) (fun _ _ _ h => h) (Or.inl ⟨by rfl, ?_⟩) hHeld ?_
    rotate_left 1
    · (intro w hSw; go_simp; try with_reducible rfl)
    try simp only [Act.put, List.setIfInBounds_toArray, List.set_cons_zero, List.set_cons_succ]
    refine takeL 28 (v := ?_) rfl (by kernel_rfl) (by kernel_rfl) (by kernel_rfl) (fun _ _ _ h => h) (Or.inl ⟨by rfl, ?_⟩) hHeld ?_
    rotate_left 1
    · (intro w hSw; go_simp; try with_reducible rfl)
    try simp only [Act.put, List.setIfInBounds_toArray, List.set_cons_zero, List.set_cons_succ]
    refine takeL 29 rfl (by kernel_rfl) (by kernel_rfl) (by kernel_rfl) (fun _ _ _ h => h) (yieldsIf_load_mid (by rfl) _ _ rfl _ _ rfl _ _ (fun w hSw => row_rng (l := [.int .i64 i, .int .i64 r, .int .i64 x, .int .i64 q]) hSw.2.2.2.2) Tryd.underlying24 rfl (by kernel_rfl)) hHeld ?_
    try simp only [Act.put, List.setIfInBounds_toArray, List.set_cons_zero, List.set_cons_succ]
    refine takeL 31 (v := ?_) rfl (by kernel_rfl) (by kernel_rfl) (by kernel_rfl) (fun _ _ _ h => h) (Or.inl ⟨by rfl, ?_⟩) hHeld ?_
    rotate_left 1
    · (intro w hSw; go_simp; try with_reducible rfl)
    try simp only [Act.put, List.setIfInBounds_toArray, List.set_cons_zero, List.set_cons_succ]
    refine stepL 30 (by kernel_rfl) rfl (fun K hK => ?_)
    go_simp
    refine (HRb.out V3).mono ?_
    rintro e V4 ⟨vr, rfl, hor, hb⟩
    show K _ _
    have Y4 := Bx.mk (Y3.out.later hb)
    have HOR := Bx.mk hor
    have hvr := own_form hor
    rw [HBL.out] at hvr
    obtain ⟨ar, cr, rfl⟩ := hvr
    clear hor
    have HRB := Y3
    have HRZ := Bx.mk hb.size
    clear hb Y3
    refine hK.out _ _ ⟨Y4.out.rows _ (.head _), Y4.out.rows _ (.tail _ (.head _)), Y4.out.rows _ (.tail _ (.tail _ (.head _))), Y4.out.rows _ (.tail _ (.tail _ (.tail _ (.head _)))), Y4.out.rows _ (.tail _ (.tail _ (.tail _ (.tail _ (.tail _ (.head _))))))⟩ (fun hHeld => ?_)
    clear hK K
    try simp only [Act.put, List.setIfInBounds_toArray, List.set_cons_zero, List.set_cons_succ]
    refine stepL 32 (by kernel_rfl) rfl (fun K hK => ?_)
    have HOB : Bx (V3.heap.size ≤ V4.heap.size) := Bx.mk HRZ.out
    refine step_apw (by rfl) _ _ rfl V3.heap.size _ cb (by rfl) HOR.out _ sk (by rfl) (row_bytes (Y4.out.rows _ (.tail _ (.tail _ (.head _)))) HSl.out) (by rw [HBL.out, HSl.out]; omega) HOB.out ?_
    intro vq V5 ho1 hg1 _
    have Y5 := Bx.mk (Y4.out.grown2 hg1 HOR.out HRB.out rfl)
    have HVQ := Bx.mk ho1.bytes
    have hvq := own_form ho1
    rw [HBB.out] at hvq
    obtain ⟨aq, cq, rfl⟩ := hvq
    clear ho1 hg1 Y4 HOR
    refine hK.out _ _ ⟨Y5.out.rows _ (.head _), Y5.out.rows _ (.tail _ (.head _)), Y5.out.rows _ (.tail _ (.tail _ (.head _))), Y5.out.rows _ (.tail _ (.tail _ (.tail _ (.head _)))), Y5.out.rows _ (.tail _ (.tail _ (.tail _ (.tail _ (.tail _ (.head _))))))⟩ (fun hHeld => ?_)
    clear hK K
    try simp only [Act.put, List.setIfInBounds_toArray, List.set_cons_zero, List.set_cons_succ]
    refine stepL 33 (by kernel_rfl) rfl (fun K hK => ?_)
    go_simp
    refine (same_any (cb ++ sk) (cb ++ sk) _ _ V5 (FX.out.2.2.2.later (by rw [HG2.out]; exact Y5.out.below)) HVQ.out (by rw [HBB.out]; omega) (by rw [HBB.out]; omega)).mono ?_
    rintro e W' ⟨rfl, nd, rfl⟩
    show K _ _
    rw [decide_eq_true rfl]
    have Y6 := Bx.mk (Y5.out.later (below_drewN (Below.refl _ _) nd))
    clear Y5
    generalize V5.drewN nd = V6 at *
    refine hK.out _ _ ⟨Y6.out.rows _ (.head _), Y6.out.rows _ (.tail _ (.head _)), Y6.out.rows _ (.tail _ (.tail _ (.head _))), Y6.out.rows _ (.tail _ (.tail _ (.tail _ (.head _)))), Y6.out.rows _ (.tail _ (.tail _ (.tail _ (.tail _ (.tail _ (.head _))))))⟩ (fun hHeld => ?_)
    clear hK K
    try simp only [Act.put, List.setIfInBounds_toArray, List.set_cons_zero, List.set_cons_succ]
    refine takeL 34 (v := ?_) rfl (by kernel_rfl) (by kernel_rfl) (by kernel_rfl) (fun _ _ _ h => h) (Or.inl ⟨by rfl, ?_⟩) hHeld ?_
    rotate_left 1
    · (intro w hSw; go_simp; try with_reducible rfl)
    try simp only [Act.put, List.setIfInBounds_toArray, List.set_cons_zero, List.set_cons_succ]
    refine takeL 35 (v := ?_) rfl (by kernel_rfl) (by kernel_rfl) (by kernel_rfl) (fun _ _ _ h => h) (Or.inl ⟨by rfl, ?_⟩) hHeld ?_
    rotate_left 1
    · (intro w hSw; go_simp; try with_reducible rfl)
    try simp only [Act.put, List.setIfInBounds_toArray, List.set_cons_zero, List.set_cons_succ]
    refine takeL 36 (v := ?_) rfl (by kernel_rfl) (by kernel_rfl) (by kernel_rfl) (fun _ _ _ h => h) (Or.inl ⟨by rfl, ?_⟩) hHeld ?_
    rotate_left 1
    · (intro w hSw; go_simp; try with_reducible rfl)
    try simp only [Act.put, List.setIfInBounds_toArray, List.set_cons_zero, List.set_cons_succ]
    refine takeL 37 (v := ?_) rfl (by kernel_rfl) (by kernel_rfl) (by kernel_rfl) (fun _ _ _ h => h) (Or.inl ⟨by rfl, ?_⟩) hHeld ?_
    rotate_left 1
    · (intro w hSw; go_simp; try with_reducible rfl)
    try simp only [Act.put, List.setIfInBounds_toArray, List.set_cons_zero, List.set_cons_succ]
    refine takeL 38 (v := ?_) rfl (by kernel_rfl) (by kernel_rfl) (by kernel_rfl) (fun _ _ _ h => h) (Or.inl ⟨by rfl, ?_⟩) hHeld ?_
    rotate_left 1
    · (intro w hSw; go_simp; try with_reducible rfl)
    try simp only [Act.put, List.setIfInBounds_toArray, List.set_cons_zero, List.set_cons_succ]
    refine takeL 39 (v := ?_) rfl (by kernel_rfl) (by kernel_rfl) (by kernel_rfl) (fun _ _ _ h => h) (Or.inl ⟨by rfl, ?_⟩) hHeld ?_
    rotate_left 1
    · (intro w hSw; go_simp; try with_reducible rfl)
    try simp only [Act.put, List.setIfInBounds_toArray, List.set_cons_zero, List.set_cons_succ]
    refine takeL 40 (v := ?_) rfl (by kernel_rfl) (by kernel_rfl) (by kernel_rfl) (fun _ _ _ h => h) (Or.inl ⟨by rfl, ?_⟩) hHeld ?_
    rotate_left 1
    · (intro w hSw; go_simp; try with_reducible rfl)
    try simp only [Act.put, List.setIfInBounds_toArray, List.set_cons_zero, List.set_cons_succ]
    refine takeL 41 (v := ?_) rfl (by kernel_rfl) (by kernel_rfl) (by kernel_rfl) (fun _ _ _ h => h) (Or.inl ⟨by rfl, ?_⟩) hHeld ?_
    rotate_left 1
    · (intro w hSw; go_simp; try with_reducible rfl)
    try simp only [Act.put, List.setIfInBounds_toArray, List.set_cons_zero, List.set_cons_succ]
    refine takeL 42 (v := ?_) rfl (by kernel_rfl) (by kernel_rfl) (by kernel_rfl) (fun _ _ _ h => h) (Or.inl ⟨by rfl, ?_⟩) hHeld ?_
    rotate_left 1
    · (intro w hSw; go_simp; try with_reducible rfl)
    try simp only [Act.put, List.setIfInBounds_toArray, List.set_cons_zero, List.set_cons_succ]
    refine takeL 43 (v := ?_) rfl (by kernel_rfl) (by kernel_rfl) (by kernel_rfl) (fun _ _ _ h => h) (Or.inl ⟨by rfl, ?_⟩) hHeld ?_
    rotate_left 1
    · (intro w hSw; go_simp; try with_reducible rfl)
    try simp only [Act.put, List.setIfInBounds_toArray, List.set_cons_zero, List.set_cons_succ]
    refine takeL 44 (v := ?_) rfl (by kernel_rfl) (by kernel_rfl) (by kernel_rfl) (fun _ _ _ h => h) (Or.inl ⟨by rfl, ?_⟩) hHeld ?_
    rotate_left 1
    · (intro w hSw; go_simp; try with_reducible rfl)
    try simp only [Act.put, List.setIfInBounds_toArray, List.set_cons_zero, List.set_cons_succ]
    refine takeL 45 rfl (by kernel_rfl) (by kernel_rfl) (by kernel_rfl) (fun _ _ _ h => h) (yieldsIf_load_mid (by rfl) _ _ rfl _ _ rfl _ _ (fun w hSw => (HK4.out w _ _ hSw.2.1).2.1) Tryd.underlying39 rfl HI.out.2.2.2) hHeld ?_
    try simp only [Act.put, List.setIfInBounds_toArray, List.set_cons_zero, List.set_cons_succ]
    refine takeL 46 rfl (by kernel_rfl) (by kernel_rfl) (by kernel_rfl) (fun _ _ _ h => h) (yieldsIf_load_mid (by rfl) _ _ rfl _ _ rfl _ _ (fun w hSw => (HK4.out w _ _ hSw.2.2.2.1).2.1) Tryd.underlying39 rfl HI.out.2.2.2) hHeld ?_
    try simp only [Act.put, List.setIfInBounds_toArray, List.set_cons_zero, List.set_cons_succ]
    refine takeL 47 (v := ?_) rfl (by kernel_rfl) (by kernel_rfl) (by kernel_rfl) (fun _ _ _ h => h) (Or.inl ⟨by rfl, ?_⟩) hHeld ?_
    rotate_left 1
    · (intro w hSw; go_simp; try with_reducible rfl)
    try simp only [Act.put, List.setIfInBounds_toArray, List.set_cons_zero, List.set_cons_succ]
    refine takeL 48 (v := ?_) rfl (by kernel_rfl) (by kernel_rfl) (by kernel_rfl) (fun _ _ _ h => h) (Or.inl ⟨by rfl, ?_⟩) hHeld ?_
    rotate_left 1
    · (intro w hSw; go_simp; try with_reducible rfl)
    try simp only [Act.put, List.setIfInBounds_toArray, List.set_cons_zero, List.set_cons_succ]
    refine takeL 49 (v := ?_) rfl (by kernel_rfl) (by kernel_rfl) (by kernel_rfl) (fun _ _ _ h => h) (Or.inl ⟨by rfl, ?_⟩) hHeld ?_
    rotate_left 1
    · (intro w hSw; go_simp; try with_reducible rfl)
    try simp only [Act.put, List.setIfInBounds_toArray, List.set_cons_zero, List.set_cons_succ]
    refine takeL 50 rfl (by kernel_rfl) (by kernel_rfl) (by kernel_rfl) (fun _ _ _ h => h) (yieldsIf_load_mid (by rfl) _ _ rfl _ _ rfl _ _ (fun w hSw => (HK4.out w _ _ hSw.2.2.2.1).2.1) Tryd.underlying39 rfl HI.out.2.2.2) hHeld ?_
    try simp only [Act.put, List.setIfInBounds_toArray, List.set_cons_zero, List.set_cons_succ]
    refine takeL 51 (v := ?_) rfl (by kernel_rfl) (by kernel_rfl) (by kernel_rfl) (fun _ _ _ h => h) (Or.inl ⟨by rfl, ?_⟩) hHeld ?_
    rotate_left 1
    · (intro w hSw; go_simp; try with_reducible rfl)
    try simp only [Act.put, List.setIfInBounds_toArray, List.set_cons_zero, List.set_cons_succ]
    refine takeL 53 rfl (by kernel_rfl) (by kernel_rfl) (by kernel_rfl) (fun _ _ _ h => h) (yieldsIf_load_mid (by rfl) _ _ rfl _ _ rfl _ _ (fun w hSw => row_rng (l := (u8s pv).toList) hSw.1) Tryd.underlying37 rfl HIP.out.2.2) hHeld ?_
    try simp only [Act.put, List.setIfInBounds_toArray, List.set_cons_zero, List.set_cons_succ]
    refine stepL 52 (by kernel_rfl) rfl (fun K hK => ?_)
    go_simp
    refine (HTp2.out V6 _ (HW2.out.1.trans (Y6.out.below.mono HW2.out.2.1)) (FX.out.1.later (by rw [HG2.out]; exact Y6.out.below))).mono ?_
    rintro e V7 ⟨rfl, hb⟩
    show K _ _
    have Y7 := Bx.mk (Y6.out.later hb)
    clear hb Y6
    refine hK.out _ _ ⟨Y7.out.rows _ (.head _), Y7.out.rows _ (.tail _ (.head _)), Y7.out.rows _ (.tail _ (.tail _ (.head _))), Y7.out.rows _ (.tail _ (.tail _ (.tail _ (.head _)))), Y7.out.rows _ (.tail _ (.tail _ (.tail _ (.tail _ (.tail _ (.head _))))))⟩ (fun hHeld => ?_)
    clear hK K
    try simp only [Act.put, List.setIfInBounds_toArray, List.set_cons_zero, List.set_cons_succ]
    refine takeL 54 (v := ?_) rfl (by kernel_rfl) (by kernel_rfl) (by kernel_rfl) (fun _ _ _ h => h) (Or.inl ⟨by rfl, ?_⟩) hHeld ?_
    rotate_left 1
    · (intro w hSw; go_simp; try with_reducible rfl)
    try simp only [Act.put, List.setIfInBounds_toArray, List.set_cons_zero, List.set_cons_succ]
    refine takeL 55 (v := ?_) rfl (by kernel_rfl) (by kernel_rfl) (by kernel_rfl) (fun _ _ _ h => h) (Or.inl ⟨by rfl, ?_⟩) hHeld ?_
    rotate_left 1
    · (intro w hSw; go_simp; try with_reducible rfl)
    try simp only [Act.put, List.setIfInBounds_toArray, List.set_cons_zero, List.set_cons_succ]
    refine takeL 56 (v := ?_) rfl (by kernel_rfl) (by kernel_rfl) (by kernel_rfl) (fun _ _ _ h => h) (Or.inl ⟨by rfl, ?_⟩) hHeld ?_
    rotate_left 1
    · (intro w hSw; go_simp; try with_reducible rfl)
    try simp only [Act.put, List.setIfInBounds_toArray, List.set_cons_zero, List.set_cons_succ]
    refine takeL 57 rfl (by kernel_rfl) (by kernel_rfl) (by kernel_rfl) (fun _ _ _ h => h) (yieldsIf_load_mid (by rfl) _ _ rfl _ _ rfl _ _ (fun w hSw => (HK4.out w _ _ hSw.2.2.2.1).2.1) Tryd.underlying39 rfl HI.out.2.2.2) hHeld ?_
    try simp only [Act.put, List.setIfInBounds_toArray, List.set_cons_zero, List.set_cons_succ]
    refine takeL 60 (v := ?_) rfl (by kernel_rfl) (by kernel_rfl) (by kernel_rfl) (fun _ _ _ h => h) (Or.inl ⟨by rfl, ?_⟩) hHeld ?_
    rotate_left 1
    · (intro w hSw; go_simp; try with_reducible rfl)
    try simp only [Act.put, List.setIfInBounds_toArray, List.set_cons_zero, List.set_cons_succ]
    refine stepL 58 (by kernel_rfl) rfl (fun K hK => ?_)
    go_simp
    refine (HTk.out V7).mono ?_
    rintro e V8 ⟨vy, rfl, hky, hb⟩
    show K _ _
    have Y8 := Bx.mk (Y7.out.later hb)
    have HKY := Bx.mk hky.key
    obtain ⟨yp, rfl⟩ : ∃ kp, vy = .pointer (some ⟨kp, 0, none⟩) := by obtain ⟨p, s, h, -, -⟩ := hky.key; exact ⟨p, h⟩
    clear hky
    clear hb Y7
    refine hK.out _ _ ⟨Y8.out.rows _ (.head _), Y8.out.rows _ (.tail _ (.head _)), Y8.out.rows _ (.tail _ (.tail _ (.head _))), Y8.out.rows _ (.tail _ (.tail _ (.tail _ (.head _)))), Y8.out.rows _ (.tail _ (.tail _ (.tail _ (.tail _ (.tail _ (.head _))))))⟩ (fun hHeld => ?_)
    clear hK K
    try simp only [Act.put, List.setIfInBounds_toArray, List.set_cons_zero, List.set_cons_succ]
    refine stepL 59 (by kernel_rfl) rfl (fun K hK => ?_)
    go_simp
    refine (kbytes_any sk _ V8 HKY.out (by rw [HSl.out]; omega)).mono ?_
    rintro e V9 ⟨vz, rfl, hoz, hb⟩
    show K _ _
    have Y9 := Bx.mk (Y8.out.later hb)
    have HOZ := Bx.mk hoz.bytes
    have hvz := own_form hoz
    rw [HSl.out] at hvz
    obtain ⟨az, cz, rfl⟩ := hvz
    clear hoz
    clear hb Y8
    refine hK.out _ _ ⟨Y9.out.rows _ (.head _), Y9.out.rows _ (.tail _ (.head _)), Y9.out.rows _ (.tail _ (.tail _ (.head _))), Y9.out.rows _ (.tail _ (.tail _ (.tail _ (.head _)))), Y9.out.rows _ (.tail _ (.tail _ (.tail _ (.tail _ (.tail _ (.head _))))))⟩ (fun hHeld => ?_)
    clear hK K
    try simp only [Act.put, List.setIfInBounds_toArray, List.set_cons_zero, List.set_cons_succ]
    refine stepL 61 (by kernel_rfl) rfl (fun K hK => ?_)
    go_simp
    refine (same_any sk sk _ _ V9 HOZ.out (row_bytes (Y9.out.rows _ (.tail _ (.tail _ (.head _)))) HSl.out) (by rw [HSl.out]; omega) (by rw [HSl.out]; omega)).mono ?_
    rintro e W' ⟨rfl, nd, rfl⟩
    show K _ _
    rw [decide_eq_true rfl]
    have Y10 := Bx.mk (Y9.out.later (below_drewN (Below.refl _ _) nd))
    clear Y9
    generalize V9.drewN nd = V10 at *
    refine hK.out _ _ ⟨Y10.out.rows _ (.head _), Y10.out.rows _ (.tail _ (.head _)), Y10.out.rows _ (.tail _ (.tail _ (.head _))), Y10.out.rows _ (.tail _ (.tail _ (.tail _ (.head _)))), Y10.out.rows _ (.tail _ (.tail _ (.tail _ (.tail _ (.tail _ (.head _))))))⟩ (fun hHeld => ?_)
    clear hK K
    try simp only [Act.put, List.setIfInBounds_toArray, List.set_cons_zero, List.set_cons_succ]
    refine takeL 62 (v := ?_) rfl (by kernel_rfl) (by kernel_rfl) (by kernel_rfl) (fun _ _ _ h => h) (Or.inl ⟨by rfl, ?_⟩) hHeld ?_
    rotate_left 1
    · (intro w hSw; go_simp; try with_reducible rfl)
    try simp only [Act.put, List.setIfInBounds_toArray, List.set_cons_zero, List.set_cons_succ]
    refine takeL 63 (v := ?_) rfl (by kernel_rfl) (by kernel_rfl) (by kernel_rfl) (fun _ _ _ h => h) (Or.inl ⟨by rfl, ?_⟩) hHeld ?_
    rotate_left 1
    · (intro w hSw; go_simp; try with_reducible rfl)
    try simp only [Act.put, List.setIfInBounds_toArray, List.set_cons_zero, List.set_cons_succ]
    refine takeL 64 (v := ?_) rfl (by kernel_rfl) (by kernel_rfl) (by kernel_rfl) (fun _ _ _ h => h) (Or.inl ⟨by rfl, ?_⟩) hHeld ?_
    rotate_left 1
    · (intro w hSw; go_simp; try with_reducible rfl)
    try simp only [Act.put, List.setIfInBounds_toArray, List.set_cons_zero, List.set_cons_succ]
    refine takeL 65 (v := ?_) rfl (by kernel_rfl) (by kernel_rfl) (by kernel_rfl) (fun _ _ _ h => h) (Or.inl ⟨by rfl, ?_⟩) hHeld ?_
    rotate_left 1
    · (intro w hSw; go_simp; try with_reducible rfl)
    try simp only [Act.put, List.setIfInBounds_toArray, List.set_cons_zero, List.set_cons_succ]
    refine takeL 66 rfl (by kernel_rfl) (by kernel_rfl) (by kernel_rfl) (fun _ _ _ h => h) (yieldsIf_load_mid (by rfl) _ _ rfl _ _ rfl _ _ (fun w hSw => (HK4.out w _ _ hSw.2.2.2.1).1) Tryd.underlying36 rfl (by kernel_rfl)) hHeld ?_
    try simp only [Act.put, List.setIfInBounds_toArray, List.set_cons_zero, List.set_cons_succ]
    refine takeL 67 (v := ?_) rfl (by kernel_rfl) (by kernel_rfl) (by kernel_rfl) (fun _ _ _ h => h) (Or.inl ⟨by rfl, ?_⟩) hHeld ?_
    rotate_left 1
    · (intro w hSw; go_simp; try with_reducible rfl)
    try simp only [Act.put, List.setIfInBounds_toArray, List.set_cons_zero, List.set_cons_succ]
    refine takeL 68 (v := ?_) rfl (by kernel_rfl) (by kernel_rfl) (by kernel_rfl) (fun _ _ _ h => h) (Or.inl ⟨by rfl, ?_⟩) hHeld ?_
    rotate_left 1
    · (intro w hSw; go_simp; try with_reducible rfl)
    try simp only [Act.put, List.setIfInBounds_toArray, List.set_cons_zero, List.set_cons_succ]
    refine stepL 69 (by kernel_rfl) rfl (fun K hK => ?_)
    go_simp
    refine (HPr2.out V10 _ _ _ (HW2.out.1.trans (Y10.out.below.mono HW2.out.2.1)) (FX.out.2.2.1.later (by rw [HG2.out]; exact Y10.out.below)) (row_bytes (Y10.out.rows _ (.head _)) HPl.out) (FX.out.1.later (by rw [HG2.out]; exact Y10.out.below))).mono ?_
    rintro e V11 ⟨rfl, hb⟩
    show K _ _
    have Y11 := Bx.mk (Y10.out.later hb)
    clear hb Y10
    refine hK.out _ _ ⟨Y11.out.rows _ (.head _), Y11.out.rows _ (.tail _ (.head _)), Y11.out.rows _ (.tail _ (.tail _ (.head _))), Y11.out.rows _ (.tail _ (.tail _ (.tail _ (.head _)))), Y11.out.rows _ (.tail _ (.tail _ (.tail _ (.tail _ (.tail _ (.head _))))))⟩ (fun hHeld => ?_)
    clear hK K
    try simp only [Act.put, List.setIfInBounds_toArray, List.set_cons_zero, List.set_cons_succ]
    refine takeL 70 (v := ?_) rfl (by kernel_rfl) (by kernel_rfl) (by kernel_rfl) (fun _ _ _ h => h) (Or.inl ⟨by rfl, ?_⟩) hHeld ?_
    rotate_left 1
    · (intro w hSw; go_simp; try with_reducible rfl)
    try simp only [Act.put, List.setIfInBounds_toArray, List.set_cons_zero, List.set_cons_succ]
    refine takeL 71 (v := ?_) rfl (by kernel_rfl) (by kernel_rfl) (by kernel_rfl) (fun _ _ _ h => h) (Or.inl ⟨by rfl, ?_⟩) hHeld ?_
    rotate_left 1
    · (intro w hSw; go_simp; try with_reducible rfl)
    try simp only [Act.put, List.setIfInBounds_toArray, List.set_cons_zero, List.set_cons_succ]
    refine takeL 72 (v := ?_) rfl (by kernel_rfl) (by kernel_rfl) (by kernel_rfl) (fun _ _ _ h => h) (Or.inl ⟨by rfl, ?_⟩) hHeld ?_
    rotate_left 1
    · (intro w hSw; go_simp; try with_reducible rfl)
    try simp only [Act.put, List.setIfInBounds_toArray, List.set_cons_zero, List.set_cons_succ]
    refine takeL 73 (v := ?_) rfl (by kernel_rfl) (by kernel_rfl) (by kernel_rfl) (fun _ _ _ h => h) (Or.inl ⟨by rfl, ?_⟩) hHeld ?_
    rotate_left 1
    · (intro w hSw; go_simp; try with_reducible rfl)
    try simp only [Act.put, List.setIfInBounds_toArray, List.set_cons_zero, List.set_cons_succ]
    refine takeL 74 (v := ?_) rfl (by kernel_rfl) (by kernel_rfl) (by kernel_rfl) (fun _ _ _ h => h) (Or.inl ⟨by rfl, ?_⟩) hHeld ?_
    rotate_left 1
    · (intro w hSw; go_simp; try with_reducible rfl)
    try simp only [Act.put, List.setIfInBounds_toArray, List.set_cons_zero, List.set_cons_succ]
    refine takeL 75 (v := ?_) rfl (by kernel_rfl) (by kernel_rfl) (by kernel_rfl) (fun _ _ _ h => h) (Or.inl ⟨by rfl, ?_⟩) hHeld ?_
    rotate_left 1
    · (intro w hSw; go_simp; try with_reducible rfl)
    try simp only [Act.put, List.setIfInBounds_toArray, List.set_cons_zero, List.set_cons_succ]
    refine takeL 76 (v := ?_) rfl (by kernel_rfl) (by kernel_rfl) (by kernel_rfl) (fun _ _ _ h => h) (Or.inl ⟨by rfl, ?_⟩) hHeld ?_
    rotate_left 1
    · (intro w hSw; go_simp; try with_reducible rfl)
    try simp only [Act.put, List.setIfInBounds_toArray, List.set_cons_zero, List.set_cons_succ]
    refine takeL 77 (v := ?_) rfl (by kernel_rfl) (by kernel_rfl) (by kernel_rfl) (fun _ _ _ h => h) (Or.inl ⟨by rfl, ?_⟩) hHeld ?_
    rotate_left 1
    · (intro w hSw; go_simp; try with_reducible rfl)
    try simp only [Act.put, List.setIfInBounds_toArray, List.set_cons_zero, List.set_cons_succ]
    refine takeL 78 rfl (by kernel_rfl) (by kernel_rfl) (by kernel_rfl) (fun _ _ _ h => h) (yieldsIf_load_mid (by rfl) _ _ rfl _ _ rfl _ _ (fun w hSw => (HK4.out w _ _ hSw.2.2.2.1).1) Tryd.underlying36 rfl (by kernel_rfl)) hHeld ?_
    try simp only [Act.put, List.setIfInBounds_toArray, List.set_cons_zero, List.set_cons_succ]
    refine takeL 79 (v := ?_) rfl (by kernel_rfl) (by kernel_rfl) (by kernel_rfl) (fun _ _ _ h => h) (Or.inl ⟨by rfl, ?_⟩) hHeld ?_
    rotate_left 1
    · (intro w hSw; go_simp; try with_reducible rfl)
    try simp only [Act.put, List.setIfInBounds_toArray, List.set_cons_zero, List.set_cons_succ]
    refine takeL 80 (v := ?_) rfl (by kernel_rfl) (by kernel_rfl) (by kernel_rfl) (fun _ _ _ h => h) (Or.inl ⟨by rfl, ?_⟩) hHeld ?_
    rotate_left 1
    · (intro w hSw; go_simp; try with_reducible rfl)
    try simp only [Act.put, List.setIfInBounds_toArray, List.set_cons_zero, List.set_cons_succ]
    refine stepL 81 (by kernel_rfl) rfl (fun K hK => ?_)
    go_simp
    refine (HPn.out V11 _ _).mono ?_
    rintro e V12 ⟨rfl, hb⟩
    show K _ _
    have Y12 := Bx.mk (Y11.out.later hb)
    clear hb Y11
    refine hK.out _ _ ⟨Y12.out.rows _ (.head _), Y12.out.rows _ (.tail _ (.head _)), Y12.out.rows _ (.tail _ (.tail _ (.head _))), Y12.out.rows _ (.tail _ (.tail _ (.tail _ (.head _)))), Y12.out.rows _ (.tail _ (.tail _ (.tail _ (.tail _ (.tail _ (.head _))))))⟩ (fun hHeld => ?_)
    clear hK K
    try simp only [Act.put, List.setIfInBounds_toArray, List.set_cons_zero, List.set_cons_succ]
    refine takeL 82 (v := ?_) rfl (by kernel_rfl) (by kernel_rfl) (by kernel_rfl) (fun _ _ _ h => h) (Or.inl ⟨by rfl, ?_⟩) hHeld ?_
    rotate_left 1
    · (intro w hSw; go_simp; try with_reducible rfl)
    try simp only [Act.put, List.setIfInBounds_toArray, List.set_cons_zero, List.set_cons_succ]
    refine takeL 83 (v := ?_) rfl (by kernel_rfl) (by kernel_rfl) (by kernel_rfl) (fun _ _ _ h => h) (Or.inl ⟨by rfl, ?_⟩) hHeld ?_
    rotate_left 1
    · (intro w hSw; go_simp; try with_reducible rfl)
    try simp only [Act.put, List.setIfInBounds_toArray, List.set_cons_zero, List.set_cons_succ]
    refine takeL 84 (v := ?_) rfl (by kernel_rfl) (by kernel_rfl) (by kernel_rfl) (fun _ _ _ h => h) (Or.inl ⟨by rfl, ?_⟩) hHeld ?_
    rotate_left 1
    · (intro w hSw; go_simp; try with_reducible rfl)
    try simp only [Act.put, List.setIfInBounds_toArray, List.set_cons_zero, List.set_cons_succ]
    refine wpAnyH_done (by kernel_rfl) ?_ _
    refine NoPanic.normal ?_
    clear hHeld
    try go_wp2
    go_ret
    exact ⟨rfl, (HW2.out.1.trans (Y12.out.below.mono HW2.out.2.1))⟩
theorem makes6_any (m0 : List UInt8) (c : Cl) (p0 : List (List UInt8)) (vm vp : Value) (w : World) (hm : Bytes w vm m0) (hp : Parts w vp p0) (hml : m0.length ≤ 9223372036854775807) (hpn : p0.length ≤ 9223372036854775807) (hpl : ∀ p ∈ p0, p.length ≤ 9223372036854775807) (hTab : Tab w) (hg : 0 < w.heap.size) :
    Calls Tryd.prog 3 #[vm, clV c, vp] w fun e w' => e = .returned (.bool true) ∧ Below w.heap.size w w' := by
  rcases Bool.eq_false_or_eq_true (okC c) with h | h
  · exact makes6_ok m0 c p0 vm vp w hm hp hml hpn hpl h hTab hg
  · exact makes6_bad m0 c p0 vm vp w hm hp hml hpn hpl h hTab hg
end Go.Proofs.YtiengbmnfbbgoaaDoor
