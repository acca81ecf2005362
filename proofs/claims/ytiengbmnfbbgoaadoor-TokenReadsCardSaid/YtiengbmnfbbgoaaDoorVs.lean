/-
  The walk of TokenReads, of a token.
-/
import Derived.Test.YtiengbmnfbbgoaaDoorVr
namespace Go.Proofs.YtiengbmnfbbgoaaDoor
open Go Go.RowKit
set_option maxRecDepth 100000 in
set_option maxHeartbeats 4000000 in
theorem reads_ok (m0 b0 : List UInt8) (vm vb : Value) (w : World) (hm : Bytes w vm m0) (hb : Bytes w vb b0) (hml : m0.length ≤ 9223372036854775807) (hbl : b0.length ≤ 9223372036854775807) (hc : (b0.take 50).length = 41) (hc2 : dE ((b0.take 50).take 9) = 0) (hTab : Tab w) (hg : 0 < w.heap.size) :
    Calls Tryd.prog 4 #[vm, vb] w fun e w' => e = .returned (.bool true) ∧ Below w.heap.size w w' := by
  obtain ⟨zc, hzc⟩ : ∃ zc, tkC c0 z32 = zc := ⟨_, rfl⟩
  have hzv : ∀ W : World, (zeroValue 39).run Tryd.prog W = .ok (.agg zc) W := fun W => by rw [← hzc]; exact tk_zero W
  have hbz : Tryd.prog.built 39 [] = some zc := by rw [← hzc]; exact tk_none
  have HM1 : Bx ((Tryd.prog.info? 39).map (·.size) = some zc.size ∧ zc.all (·.oneCell') = true) := Bx.mk (by rw [← hzc]; exact ⟨tk_info _ _ rfl, tkC_one _ _⟩)
  obtain ⟨z1, hz1⟩ : ∃ z, u8s (List.replicate 32 0) = z := ⟨_, rfl⟩
  have hz1v : ∀ W : World, (zeroValue 37).run Tryd.prog W = .ok (.agg z1) W := fun W => by rw [← hz1, zero32]; kernel_rfl
  have HZ1 := Bx.mk hz1
  have HZC := Bx.mk hzc
  have HT : Bx (∀ W, Below w.heap.size w W → Tab W ∧ 0 < W.heap.size) := Bx.mk fun W hb => ⟨hTab.later hb hg, Nat.lt_of_lt_of_le hg hb.size⟩
  have HCm := Bx.mk (cut6_any m0 70 vm w hm hml (by omega))
  have HCb := Bx.mk (cut6_any b0 50 vb w hb hbl (by omega))
  have HMl : Bx ((m0.take 70).length ≤ 70) := Bx.mk (by rw [List.length_take]; omega)
  have HBl : Bx ((b0.take 50).length ≤ 50) := Bx.mk (by rw [List.length_take]; omega)
  have HV := Bx.mk (And.intro hm hb)
  obtain ⟨am, cm, rfl, -⟩ := hm
  obtain ⟨ab, cb, rfl, -⟩ := hb
  clear hTab hg hml hbl
  generalize m0.take 70 = mk at *
  generalize b0.take 50 = bb at *
  generalize m0.length = mn at *
  generalize b0.length = bn at *
  have HNw : Bx (∀ (W : World) v, Bytes W v mk → Calls Tryd.prog 11 #[v] W fun e w' => ∃ v', e = .returned v' ∧ KeyO w' W.heap.size v' mk ∧ Below W.heap.size W w') := Bx.mk fun W v hv => new_any mk v W hv (by have := HMl.out; omega)
  have HHl : Bx ((bb.take 9).length = 9) := Bx.mk (by rw [List.length_take]; omega)
  have HTl : Bx ((bb.drop 9).length = 32) := Bx.mk (by rw [List.length_drop]; omega)
  have HApp : Bx (clB (c9 (bb.take 9)) ++ bb.drop 9 = bb) := Bx.mk (by rw [clB_c9 _ HHl.out, List.take_append_drop])
  have HOk : Bx (okC (c9 (bb.take 9)) = true) := Bx.mk (by
    have h := hc2
    unfold dE at h
    rw [if_neg (by rw [HHl.out]; omega)] at h
    by_cases h1 : okC (c9 (bb.take 9)) = true
    · exact h1
    · rw [if_neg h1] at h; exact absurd h (by decide))
  have HP : Bx (∀ (W : World) v, Bytes W v bb → Calls Tryd.prog 20 #[v] W fun e w' => e = .returned (.tuple #[tkV (c9 (bb.take 9)) (bb.drop 9), .int .i64 0]) ∧ Below W.heap.size W w') := Bx.mk fun W v hv => by
    have h := tparse_ok bb v W hv hc (by rw [psE_is, if_neg (by rw [HHl.out]; omega)]; exact hc2)
    rw [psC_is, if_pos ⟨hc2, HHl.out⟩] at h
    exact h
  have HDp : Bx (∀ (W : World) v, Bytes W v (bb.take 9) → Calls Tryd.prog 27 #[v] W fun e w' => e = .returned (.tuple #[clV (c9 (bb.take 9)), .int .i64 0]) ∧ Below W.heap.size W w') := Bx.mk fun W v hv => by
    have h := dparse_any (bb.take 9) v W hv (by rw [HHl.out]; omega)
    unfold dC at h
    rw [if_pos hc2, hc2] at h
    exact h
  have HBy : Bx (∀ W : World, Calls Tryd.prog 19 #[tkV (c9 (bb.take 9)) (bb.drop 9)] W fun e w' => ∃ v, e = .returned (.tuple #[v, .int .i64 0]) ∧ OwnB w' W.heap.size v bb ∧ Below W.heap.size W w') := Bx.mk fun W => by
    have h := tbytes_ok (c9 (bb.take 9)) (bb.drop 9) W HTl.out HOk.out
    rw [HApp.out] at h
    exact h
  have HOf : Bx (∀ W : World, Calls Tryd.prog 28 #[clV (c9 (bb.take 9))] W fun e w' => e = .returned (clV (c9 (bb.take 9))) ∧ Below W.heap.size W w') := Bx.mk fun W => cof_any _ W
  have HHo : Bx (∀ W v, Below w.heap.size w W → IsKey W v mk → Calls Tryd.prog 16 #[v, tkV (c9 (bb.take 9)) (bb.drop 9)] W fun e w' => e = .returned (.bool (decide (secK mk (c9 (bb.take 9)) = bb.drop 9))) ∧ Below W.heap.size W w') := Bx.mk fun W v hb hv => holds_ok mk _ _ v W hv HTl.out (by have := HMl.out; omega) HOk.out (HT.out W hb).1 (HT.out W hb).2
  have HSec : Bx (∀ (tbl : List Value) W v, u32s (kTab ++ hTab) = tbl.toArray → Bytes W v mk → Calls Tryd.prog 18 #[.agg tbl.toArray, v, clV (c9 (bb.take 9))] W fun e w' => e = .returned (.agg (u8s (secK mk (c9 (bb.take 9))))) ∧ Below W.heap.size W w') := Bx.mk fun tbl W v htb hv => rsecret_any tbl htb mk _ v W hv (by have := HMl.out; omega) HOk.out
  have HSl : Bx ((secK mk (c9 (bb.take 9))).length = 32) := Bx.mk (secK_length _ _)
  have hself := fun W : World => self_cl_eql 24 (.inr rfl) (c9 (bb.take 9)) W
  clear HOk HApp hc2
  generalize secK mk (c9 (bb.take 9)) = sk at *
  obtain ⟨dd, hdd⟩ : ∃ d, decide (sk = bb.drop 9) = d := ⟨_, rfl⟩
  have HDD := Bx.mk hdd
  rw [hdd] at HHo
  have hdd2 : ∀ W : World, (binOp .eql 4 (.bool dd) (.bool dd)).run Tryd.prog W = .ok (.bool true) W := fun W => by cases dd <;> kernel_rfl
  obtain ⟨kl, hkl⟩ : ∃ kl : List Value, tkC (c9 (bb.take 9)) (bb.drop 9) = kl.toArray := ⟨_, rfl⟩
  have HI : Bx ((Tryd.prog.info? 39).map (·.size) = some kl.toArray.size ∧ kl.toArray.all (·.oneCell') = true ∧ kl.toArray.size = zc.size ∧ (Tryd.prog.info? 39).map (·.size) = some kl.length) := Bx.mk (by rw [show kl.length = kl.toArray.size from rfl, ← hkl, ← hzc]; exact ⟨tk_info _ _ HTl.out, tkC_one _ _, by rw [tkC_size _ _ HTl.out, tkC_size _ _ rfl], tk_info _ _ HTl.out⟩)
  have HK4 : Bx (∀ (W : World) (D : Nat) (t : TypeId), W.heap[D]? = some (.cells kl.toArray t (0, 0)) → W.rangeAt D 0 (clC (c9 (bb.take 9))).toList ∧ W.rangeAt D 0 kl ∧ Bytes W (.slice (some ⟨D, 4, none⟩) 32 32) (bb.drop 9)) := Bx.mk fun W D t h => ⟨by rw [← hkl] at h; exact tk_cl h, row_rng h, by rw [← hkl] at h; exact tk_sec h HTl.out⟩
  unfold tkV at HP HBy HHo
  rw [hkl] at HP HBy HHo
  clear hdd hkl
  generalize c9 (bb.take 9) = cc at *
  obtain ⟨i, r, x, q⟩ := cc
  unfold clV at HDp HOf HSec
  unfold clC at HK4 hself
  simp only at HDp HOf HSec HK4 hself
  have HIS : Bx ((Tryd.prog.info? 37).map (·.size) = some (u8s sk).size ∧ (u8s sk).size = z1.size) := Bx.mk ⟨by rw [u8s_size, HSl.out]; kernel_rfl, by rw [← HZ1.out, u8s_size, u8s_size, HSl.out]; rfl⟩
  obtain ⟨tbl, htb⟩ : ∃ tbl : List Value, u32s (kTab ++ hTab) = tbl.toArray := ⟨_, rfl⟩
  have HTb := Bx.mk htb
  have HMake : Bx (∀ W : World, Calls Tryd.prog 10 #[] W fun e w' => e = .returned (.agg tbl.toArray) ∧ Below W.heap.size W w') := Bx.mk fun W => by rw [← htb]; exact make_any W
  clear hzc hz1 htb
  obtain ⟨B, hB⟩ : ∃ B, w.heap.size = B := ⟨_, rfl⟩
  have HB := Bx.mk hB
  rw [hB] at HT ⊢
  go_enter Tryd.func4, Tryd.ntmps4
  go_wp2_with fail
  refine HCm.out.mono ?_
  rintro e w1 ⟨v1, rfl, hm1, rfl⟩
  have HM := Bx.mk (hm1 w HV.out.1)
  clear hm1
  go_wp2_with fail
  refine HCb.out.mono ?_
  rintro e w1 ⟨v2, rfl, hb1, rfl⟩
  have HBB := Bx.mk (hb1 w HV.out.2)
  clear hb1 HCm HCb
  obtain ⟨am, cm, hv1, -⟩ := HM.out
  subst hv1
  obtain ⟨ab, cb, hv2, hcap, hnil, -⟩ := HBB.out
  subst hv2
  generalize mk.length = mn at *
  have hn := hc
  rw [hn] at HBB hcap
  have hsl : ∀ W, (Instr.slice 22 (.slice ab 41 cb) none (some (.int .i64 9)) none).run Tryd.prog W = .ok (.slice ab 9 cb) W := fun W => cut_bytes ab 41 cb 9 (by omega) hcap hnil W
  obtain ⟨a1, c1, hsr, hBr⟩ := cut_rest bb ab 41 cb 9 32 w HBB.out (by omega) rfl
  have hsr : ∀ W, (Instr.slice 22 (.slice ab 41 cb) (some (.int .i64 9)) none none).run Tryd.prog W = .ok (.slice a1 32 c1) W := hsr
  have HBr := Bx.mk hBr
  have HT9 := Bx.mk (HBB.out.take 9 (by omega))
  have hc0 := Bx.mk hc
  clear hcap hnil hc hBr
  go_wp2_with fail
  refine (HP.out w _ HBB.out).mono ?_
  rintro e w1 ⟨rfl, hb1⟩
  have H1 := Bx.mk ((KS.start w B HB.out).later hb1)
  clear hb1 HP
  obtain ⟨D, hD⟩ : ∃ D, w1.heap.size = D := ⟨_, rfl⟩
  have HDB : Bx (B ≤ D) := Bx.mk (by rw [← hD]; exact H1.out.le)
  have H2 := Bx.mk (H1.out.new (.cells zc 39))
  rw [hD] at H2
  clear H1
  go_upto_region 5 with (refine wpList_store_new rfl 39 _ _ rfl D kl.toArray zc _ (by rfl) (by rfl) (H2.out.rows _ (.head _)) HI.out.2.2.1 HI.out.1 HI.out.2.1 ?_; intro w3 hw8 hr8; have hg8 := Bx.mk (kb_of hw8); have HR8 := Bx.mk hr8; clear hw8 hr8)
  have B1 := Bx.mk (H2.out.set hg8.out HR8.out HDB.out (fun y hy => (List.not_mem_nil hy).elim))
  clear H2 hg8 HR8 hD hn
  generalize bb.take 9 = hd at *
  go_wp2_with fail
  refine (HDp.out w3 _ (HT9.out.later (by rw [HB.out]; exact B1.out.below))).mono ?_
  rintro e w4 ⟨rfl, hb4⟩
  obtain ⟨E, hE⟩ : ∃ E, w4.heap.size = E := ⟨_, rfl⟩
  have B2 := Bx.mk (B1.out.later hb4)
  have HDE : Bx (D < E) := Bx.mk (by rw [← hE]; exact B2.out.lt (.head _))
  have B3 := Bx.mk (B2.out.new (.cells #[.int .i64 i, .int .i64 r, .int .i64 x, .int .i64 q] 24))
  rw [hE] at B3
  clear hb4 HDp B1 B2
  go_upto_region 8 with fail
  generalize w4.alloc (.cells #[.int .i64 i, .int .i64 r, .int .i64 x, .int .i64 q] 24) = w5 at *
  clear hE
  go_wp2_with (refine wpList_load_row rfl 39 _ rfl D (by rfl) _ _ _ _ (B3.out.rows _ (.tail _ (.head _))) Tryd.underlying39 rfl HI.out.1 ?_)
  refine (HBy.out w5).mono ?_
  rintro e w6 ⟨v6, rfl, ho6, hb6⟩
  obtain ⟨ax, cx, hx6⟩ := own_form ho6
  have B4 := B3.out.later hb6
  have HX := Bx.mk ho6.bytes
  rw [hc0.out] at hx6
  subst hx6
  obtain ⟨G, hG⟩ : ∃ G, w6.heap.size = G := ⟨_, rfl⟩
  have HG := Bx.mk hG
  have HW6 : Bx (Below w.heap.size w w6 ∧ w.heap.size ≤ G) := Bx.mk (by rw [HB.out, ← hG]; exact ⟨B4.below, B4.le⟩)
  have B5 : Bx (KS w6 G [(E, .cells #[.int .i64 i, .int .i64 r, .int .i64 x, .int .i64 q] 24), (D, .cells kl.toArray 39)] w6) := Bx.mk ⟨B4.rows, Below.refl _ _, Nat.le_of_eq hG.symm⟩
  clear hb6 ho6 B3 HBy B4 hG
  go_upto_region 9 with fail
  have R0 := Bx.mk B5.out.drew
  clear B5
  refine wp_region_noPanic ?_
  refine wp_region_held_drew (S := fun W => W.rangeAt E 0 [.int .i64 i, .int .i64 r, .int .i64 x, .int .i64 q]) (by kernel_rfl) ((row_rng (l := [.int .i64 i, .int .i64 r, .int .i64 x, .int .i64 q]) (R0.out.rows _ (.head _)))) (fun hHeld => ?_)
  generalize w6.drew = W0 at *
  refine takeL 1 (v := ?_) rfl (by kernel_rfl) (by kernel_rfl) (by kernel_rfl) (fun _ _ _ h => h) (Or.inl ⟨by rfl, ?_⟩) hHeld ?_
  rotate_left 1
  · (intro w hSw; go_simp; try with_reducible rfl)
  try simp only [Act.put, List.setIfInBounds_toArray, List.set_cons_zero, List.set_cons_succ]
  refine takeL 2 rfl (by kernel_rfl) (by kernel_rfl) (by kernel_rfl) (fun _ _ _ h => h) (yieldsIf_load_mid (by rfl) _ _ rfl _ _ rfl _ _ (fun w hSw => hSw) Tryd.underlying24 rfl (by kernel_rfl)) hHeld ?_
  try simp only [Act.put, List.setIfInBounds_toArray, List.set_cons_zero, List.set_cons_succ]
  refine wpAnyH_ready (rs := [0, 4]) (by kernel_rfl) (by simp) ?_
  refine consM 0 rfl (fun K hK => ?_) (consM 4 rfl (fun K hK => ?_) AllReadyH.nil)
  · go_simp
    refine (HMake.out W0).mono ?_
    rintro e W1 ⟨rfl, hb⟩
    show K _ _
    have R1 := Bx.mk (R0.out.later hb)
    clear hb R0
    refine hK.out _ _ (row_rng (l := [.int .i64 i, .int .i64 r, .int .i64 x, .int .i64 q]) (R1.out.rows _ (.head _))) (fun hHeld => ?_)
    clear hK K
    try simp only [Act.put, List.setIfInBounds_toArray, List.set_cons_zero, List.set_cons_succ]
    refine wpAnyH_ready (rs := [3, 4]) (by kernel_rfl) (by simp) ?_
    refine consM 3 rfl (fun K hK => ?_) (consM 4 rfl (fun K hK => ?_) AllReadyH.nil)
    · go_simp
      refine (HSec.out tbl W1 _ HTb.out (HM.out.later (HW6.out.1.trans (R1.out.below.mono HW6.out.2)))).mono ?_
      rintro e W2 ⟨rfl, hb⟩
      show K _ _
      have R2 := Bx.mk (R1.out.later hb)
      clear hb R1
      refine hK.out _ _ (row_rng (l := [.int .i64 i, .int .i64 r, .int .i64 x, .int .i64 q]) (R2.out.rows _ (.head _))) (fun hHeld => ?_)
      clear hK K
      try simp only [Act.put, List.setIfInBounds_toArray, List.set_cons_zero, List.set_cons_succ]
      refine stepL 4 (by kernel_rfl) rfl (fun K hK => ?_)
      go_simp
      show K _ _
      have HEF : Bx (E < W2.heap.size) := Bx.mk (R2.out.lt (.head _))
      have HGF : Bx (G ≤ W2.heap.size) := Bx.mk R2.out.le
      have R3 := Bx.mk (R2.out.new (.cells z1 37))
      clear R2
      generalize W2.alloc (.cells z1 37) = W3 at *
      generalize W2.heap.size = F at *
      refine hK.out _ _ (row_rng (l := [.int .i64 i, .int .i64 r, .int .i64 x, .int .i64 q]) (R3.out.rows _ (.tail _ (.head _)))) (fun hHeld => ?_)
      clear hK K
      try simp only [Act.put, List.setIfInBounds_toArray, List.set_cons_zero, List.set_cons_succ]
      refine stepL 5 (by kernel_rfl) rfl (fun K hK => ?_)
      refine step_st rfl 37 _ _ rfl F (u8s sk) (by rfl) (by rfl) (there_row (R3.out.rows _ (.head _)) 0 _ (by rw [HIS.out.2]; omega)) HIS.out.1 (one_u8s _) ?_
      have hr2 := heap_setCells_all (ds := u8s sk) (R3.out.rows _ (.head _)) HIS.out.2
      have R4 := Bx.mk (R3.out.set (kb_setCells (u8s sk).toList 0 W3) hr2 HGF.out (by intro y hy; have h1 := HDE.out; have h3 := HEF.out; simp at hy; rcases hy with rfl | rfl <;> (simp only; omega)))
      clear hr2 R3
      refine hK.out _ _ (row_rng (l := [.int .i64 i, .int .i64 r, .int .i64 x, .int .i64 q]) (R4.out.rows _ (.tail _ (.head _)))) (fun hHeld => ?_)
      clear hK K
      try simp only [Act.put]
      generalize W3.setCells F 0 (u8s sk).toList = W4 at *
      refine wpAnyH_done (by kernel_rfl) ?_ _
      refine NoPanic.normal ?_
      clear hHeld
      go_upto_region 10 with fail
      have Y0 := Bx.mk (R4.out.drew)
      clear R4
      refine wp_region_noPanic ?_
      refine wp_region_held_drew (S := fun W => W.heap[D]? = some (.cells kl.toArray 39 (0, 0)) ∧ W.heap[E]? = some (.cells #[.int .i64 i, .int .i64 r, .int .i64 x, .int .i64 q] 24 (0, 0))) (by kernel_rfl) (⟨Y0.out.rows _ (.tail _ (.tail _ (.head _))), Y0.out.rows _ (.tail _ (.head _))⟩) (fun hHeld => ?_)
      generalize W4.drew = V0 at *
      refine stepL 0 (by kernel_rfl) rfl (fun K hK => ?_)
      go_simp
      refine (known6_any V0 (HT.out V0 (by rw [← HB.out]; exact HW6.out.1.trans (Y0.out.below.mono HW6.out.2))).1 (HT.out V0 (by rw [← HB.out]; exact HW6.out.1.trans (Y0.out.below.mono HW6.out.2))).2).mono ?_
      rintro e V1 ⟨rfl, hb⟩
      show K _ _
      have Y1 := Bx.mk (Y0.out.later hb)
      clear hb Y0
      refine hK.out _ _ ⟨Y1.out.rows _ (.tail _ (.tail _ (.head _))), Y1.out.rows _ (.tail _ (.head _))⟩ (fun hHeld => ?_)
      clear hK K
      try simp only [Act.put, List.setIfInBounds_toArray, List.set_cons_zero, List.set_cons_succ]
      refine takeL 1 (v := ?_) rfl (by kernel_rfl) (by kernel_rfl) (by kernel_rfl) (fun _ _ _ h => h) (Or.inl ⟨by rfl, ?_⟩) hHeld ?_
      rotate_left 1
      · (intro w hSw; go_simp; try with_reducible rfl)
      try simp only [Act.put, List.setIfInBounds_toArray, List.set_cons_zero, List.set_cons_succ]
      refine takeL 2 (v := ?_) rfl (by kernel_rfl) (by kernel_rfl) (by kernel_rfl) (fun _ _ _ h => h) (Or.inl ⟨by rfl, ?_⟩) hHeld ?_
      rotate_left 1
      · (intro w hSw; go_simp; try with_reducible rfl)
      try simp only [Act.put, List.setIfInBounds_toArray, List.set_cons_zero, List.set_cons_succ]
      refine takeL 3 (v := ?_) rfl (by kernel_rfl) (by kernel_rfl) (by kernel_rfl) (fun _ _ _ h => h) (Or.inl ⟨by rfl, ?_⟩) hHeld ?_
      rotate_left 1
      · (intro w hSw; go_simp; try with_reducible rfl)
      try simp only [Act.put, List.setIfInBounds_toArray, List.set_cons_zero, List.set_cons_succ]
      refine takeL 4 (v := ?_) rfl (by kernel_rfl) (by kernel_rfl) (by kernel_rfl) (fun _ _ _ h => h) (Or.inl ⟨by rfl, ?_⟩) hHeld ?_
      rotate_left 1
      · (intro w hSw; go_simp; try with_reducible rfl)
      try simp only [Act.put, List.setIfInBounds_toArray, List.set_cons_zero, List.set_cons_succ]
      refine takeL 5 (v := ?_) rfl (by kernel_rfl) (by kernel_rfl) (by kernel_rfl) (fun _ _ _ h => h) (Or.inl ⟨by rfl, ?_⟩) hHeld ?_
      rotate_left 1
      · (intro w hSw; go_simp; try with_reducible rfl)
      try simp only [Act.put, List.setIfInBounds_toArray, List.set_cons_zero, List.set_cons_succ]
      refine takeL 6 (v := ?_) rfl (by kernel_rfl) (by kernel_rfl) (by kernel_rfl) (fun _ _ _ h => h) (Or.inl ⟨by rfl, ?_⟩) hHeld ?_
      rotate_left 1
      · (intro w hSw; go_simp; try with_reducible rfl)
      try simp only [Act.put, List.setIfInBounds_toArray, List.set_cons_zero, List.set_cons_succ]
      refine takeL 7 rfl (by kernel_rfl) (by kernel_rfl) (by kernel_rfl) (fun _ _ _ h => h) (yieldsIf_load_mid (by rfl) _ _ rfl _ _ rfl _ _ (fun w hSw => (HK4.out w _ _ hSw.1).1) Tryd.underlying36 rfl (by kernel_rfl)) hHeld ?_
      try simp only [Act.put, List.setIfInBounds_toArray, List.set_cons_zero, List.set_cons_succ]
      refine takeL 9 rfl (by kernel_rfl) (by kernel_rfl) (by kernel_rfl) (fun _ _ _ h => h) (yieldsIf_load_mid (by rfl) _ _ rfl _ _ rfl _ _ (fun w hSw => row_rng (l := [.int .i64 i, .int .i64 r, .int .i64 x, .int .i64 q]) hSw.2) Tryd.underlying24 rfl (by kernel_rfl)) hHeld ?_
      try simp only [Act.put, List.setIfInBounds_toArray, List.set_cons_zero, List.set_cons_succ]
      refine stepL 8 (by kernel_rfl) rfl (fun K hK => ?_)
      go_simp
      refine (HOf.out V1).mono ?_
      rintro e V2 ⟨rfl, hb⟩
      show K _ _
      have Y2 := Bx.mk (Y1.out.later hb)
      clear hb Y1
      refine hK.out _ _ ⟨Y2.out.rows _ (.tail _ (.tail _ (.head _))), Y2.out.rows _ (.tail _ (.head _))⟩ (fun hHeld => ?_)
      clear hK K
      try simp only [Act.put, List.setIfInBounds_toArray, List.set_cons_zero, List.set_cons_succ]
      refine takeL 10 (v := ?_) rfl (by kernel_rfl) (by kernel_rfl) (by kernel_rfl) (fun _ _ _ h => h) (Or.inl ⟨by rfl, ?_⟩) hHeld ?_
      rotate_left 1
      · (intro w hSw; go_simp; try with_reducible rfl)
      try simp only [Act.put, List.setIfInBounds_toArray, List.set_cons_zero, List.set_cons_succ]
      refine takeL 11 (v := ?_) rfl (by kernel_rfl) (by kernel_rfl) (by kernel_rfl) (fun _ _ _ h => h) (Or.inl ⟨by rfl, ?_⟩) hHeld ?_
      rotate_left 1
      · (intro w hSw; go_simp; try with_reducible rfl)
      try simp only [Act.put, List.setIfInBounds_toArray, List.set_cons_zero, List.set_cons_succ]
      refine takeL 12 (v := ?_) rfl (by kernel_rfl) (by kernel_rfl) (by kernel_rfl) (fun _ _ _ h => h) (Or.inl ⟨by rfl, ?_⟩) hHeld ?_
      rotate_left 1
      · (intro w hSw; go_simp; try with_reducible rfl)
      try simp only [Act.put, List.setIfInBounds_toArray, List.set_cons_zero, List.set_cons_succ]
      refine takeL 13 (v := ?_) rfl (by kernel_rfl) (by kernel_rfl) (by kernel_rfl) (fun _ _ _ h => h) (Or.inl ⟨by rfl, ?_⟩) hHeld ?_
      rotate_left 1
      · (intro w hSw; go_simp; try with_reducible rfl)
      try simp only [Act.put, List.setIfInBounds_toArray, List.set_cons_zero, List.set_cons_succ]
      refine takeL 14 (v := ?_) rfl (by kernel_rfl) (by kernel_rfl) (by kernel_rfl) (fun _ _ _ h => h) (Or.inl ⟨by rfl, ?_⟩) hHeld ?_
      rotate_left 1
      · (intro w hSw; go_simp; try with_reducible rfl)
      try simp only [Act.put, List.setIfInBounds_toArray, List.set_cons_zero, List.set_cons_succ]
      refine takeL 15 (v := ?_) rfl (by kernel_rfl) (by kernel_rfl) (by kernel_rfl) (fun _ _ _ h => h) (Or.inl ⟨by rfl, ?_⟩) hHeld ?_
      rotate_left 1
      · (intro w hSw; go_simp; try with_reducible rfl)
      try simp only [Act.put, List.setIfInBounds_toArray, List.set_cons_zero, List.set_cons_succ]
      refine takeL 16 (v := ?_) rfl (by kernel_rfl) (by kernel_rfl) (by kernel_rfl) (fun _ _ _ h => h) (Or.inl ⟨by rfl, ?_⟩) hHeld ?_
      rotate_left 1
      · (intro w hSw; go_simp; try with_reducible rfl)
      try simp only [Act.put, List.setIfInBounds_toArray, List.set_cons_zero, List.set_cons_succ]
      refine stepL 17 (by kernel_rfl) rfl (fun K hK => ?_)
      go_simp
      refine (same_any (bb.drop 9) (bb.drop 9) _ _ V2 (HK4.out _ _ _ (Y2.out.rows _ (.tail _ (.tail _ (.head _))))).2.2 (HBr.out.later (HW6.out.1.trans (Y2.out.below.mono HW6.out.2))) (by rw [HTl.out]; omega) (by rw [HTl.out]; omega)).mono ?_
      rintro e W' ⟨rfl, nd, rfl⟩
      show K _ _
      rw [decide_eq_true rfl]
      have Y3 := Bx.mk (Y2.out.later (below_drewN (Below.refl _ _) nd))
      clear Y2
      generalize V2.drewN nd = V3 at *
      refine hK.out _ _ ⟨Y3.out.rows _ (.tail _ (.tail _ (.head _))), Y3.out.rows _ (.tail _ (.head _))⟩ (fun hHeld => ?_)
      clear hK K
      try simp only [Act.put, List.setIfInBounds_toArray, List.set_cons_zero, List.set_cons_succ]
      refine takeL 18 (v := ?_) rfl (by kernel_rfl) (by kernel_rfl) (by kernel_rfl) (fun _ _ _ h => h) (Or.inl ⟨by rfl, ?_⟩) hHeld ?_
      rotate_left 1
      · (intro w hSw; go_simp; try with_reducible rfl)
      try simp only [Act.put, List.setIfInBounds_toArray, List.set_cons_zero, List.set_cons_succ]
      refine takeL 19 (v := ?_) rfl (by kernel_rfl) (by kernel_rfl) (by kernel_rfl) (fun _ _ _ h => h) (Or.inl ⟨by rfl, ?_⟩) hHeld ?_
      rotate_left 1
      · (intro w hSw; go_simp; try with_reducible rfl)
      try simp only [Act.put, List.setIfInBounds_toArray, List.set_cons_zero, List.set_cons_succ]
      refine takeL 20 (v := ?_) rfl (by kernel_rfl) (by kernel_rfl) (by kernel_rfl) (fun _ _ _ h => h) (Or.inl ⟨by rfl, ?_⟩) hHeld ?_
      rotate_left 1
      · (intro w hSw; go_simp; try with_reducible rfl)
      try simp only [Act.put, List.setIfInBounds_toArray, List.set_cons_zero, List.set_cons_succ]
      refine takeL 21 (v := ?_) rfl (by kernel_rfl) (by kernel_rfl) (by kernel_rfl) (fun _ _ _ h => h) (Or.inl ⟨by rfl, ?_⟩) hHeld ?_
      rotate_left 1
      · (intro w hSw; go_simp; try with_reducible rfl)
      try simp only [Act.put, List.setIfInBounds_toArray, List.set_cons_zero, List.set_cons_succ]
      refine takeL 22 (v := ?_) rfl (by kernel_rfl) (by kernel_rfl) (by kernel_rfl) (fun _ _ _ h => h) (Or.inl ⟨by rfl, ?_⟩) hHeld ?_
      rotate_left 1
      · (intro w hSw; go_simp; try with_reducible rfl)
      try simp only [Act.put, List.setIfInBounds_toArray, List.set_cons_zero, List.set_cons_succ]
      refine takeL 23 (v := ?_) rfl (by kernel_rfl) (by kernel_rfl) (by kernel_rfl) (fun _ _ _ h => h) (Or.inl ⟨by rfl, ?_⟩) hHeld ?_
      rotate_left 1
      · (intro w hSw; go_simp; try with_reducible rfl)
      try simp only [Act.put, List.setIfInBounds_toArray, List.set_cons_zero, List.set_cons_succ]
      refine takeL 24 (v := ?_) rfl (by kernel_rfl) (by kernel_rfl) (by kernel_rfl) (fun _ _ _ h => h) (Or.inl ⟨by rfl, ?_⟩) hHeld ?_
      rotate_left 1
      · (intro w hSw; go_simp; try with_reducible rfl)
      try simp only [Act.put, List.setIfInBounds_toArray, List.set_cons_zero, List.set_cons_succ]
      refine takeL 25 (v := ?_) rfl (by kernel_rfl) (by kernel_rfl) (by kernel_rfl) (fun _ _ _ h => h) (Or.inl ⟨by rfl, ?_⟩) hHeld ?_
      rotate_left 1
      · (intro w hSw; go_simp; try with_reducible rfl)
      try simp only [Act.put, List.setIfInBounds_toArray, List.set_cons_zero, List.set_cons_succ]
      refine stepL 26 (by kernel_rfl) rfl (fun K hK => ?_)
      go_simp
      refine (same_any bb bb _ _ V3 (HX.out.later (by rw [HG.out]; exact Y3.out.below)) (HBB.out.later (HW6.out.1.trans (Y3.out.below.mono HW6.out.2))) (by rw [hc0.out]; omega) (by rw [hc0.out]; omega)).mono ?_
      rintro e W' ⟨rfl, nd, rfl⟩
      show K _ _
      rw [decide_eq_true rfl]
      have Y4 := Bx.mk (Y3.out.later (below_drewN (Below.refl _ _) nd))
      clear Y3
      generalize V3.drewN nd = V4 at *
      refine hK.out _ _ ⟨Y4.out.rows _ (.tail _ (.tail _ (.head _))), Y4.out.rows _ (.tail _ (.head _))⟩ (fun hHeld => ?_)
      clear hK K
      try simp only [Act.put, List.setIfInBounds_toArray, List.set_cons_zero, List.set_cons_succ]
      refine takeL 27 (v := ?_) rfl (by kernel_rfl) (by kernel_rfl) (by kernel_rfl) (fun _ _ _ h => h) (Or.inl ⟨by rfl, ?_⟩) hHeld ?_
      rotate_left 1
      · (intro w hSw; go_simp; try with_reducible rfl)
      try simp only [Act.put, List.setIfInBounds_toArray, List.set_cons_zero, List.set_cons_succ]
      refine takeL 28 (v := ?_) rfl (by kernel_rfl) (by kernel_rfl) (by kernel_rfl) (fun _ _ _ h => h) (Or.inl ⟨by rfl, ?_⟩) hHeld ?_
      rotate_left 1
      · (intro w hSw; go_simp; try with_reducible rfl)
      try simp only [Act.put, List.setIfInBounds_toArray, List.set_cons_zero, List.set_cons_succ]
      refine takeL 29 (v := ?_) rfl (by kernel_rfl) (by kernel_rfl) (by kernel_rfl) (fun _ _ _ h => h) (Or.inl ⟨by rfl, ?_⟩) hHeld ?_
      rotate_left 1
      · (intro w hSw; go_simp; try with_reducible rfl)
      try simp only [Act.put, List.setIfInBounds_toArray, List.set_cons_zero, List.set_cons_succ]
      refine takeL 31 rfl (by kernel_rfl) (by kernel_rfl) (by kernel_rfl) (fun _ _ _ h => h) (yieldsIf_load_mid (by rfl) _ _ rfl _ _ rfl _ _ (fun w hSw => (HK4.out w _ _ hSw.1).2.1) Tryd.underlying39 rfl HI.out.2.2.2) hHeld ?_
      try simp only [Act.put, List.setIfInBounds_toArray, List.set_cons_zero, List.set_cons_succ]
      refine takeL 33 (v := ?_) rfl (by kernel_rfl) (by kernel_rfl) (by kernel_rfl) (fun _ _ _ h => h) (Or.inl ⟨by rfl, ?_⟩) hHeld ?_
      rotate_left 1
      · (intro w hSw; go_simp; try with_reducible rfl)
      try simp only [Act.put, List.setIfInBounds_toArray, List.set_cons_zero, List.set_cons_succ]
      refine takeL 34 (v := ?_) rfl (by kernel_rfl) (by kernel_rfl) (by kernel_rfl) (fun _ _ _ h => h) (Or.inl ⟨by rfl, ?_⟩) hHeld ?_
      rotate_left 1
      · (intro w hSw; go_simp; try with_reducible rfl)
      try simp only [Act.put, List.setIfInBounds_toArray, List.set_cons_zero, List.set_cons_succ]
      refine takeL 35 (v := ?_) rfl (by kernel_rfl) (by kernel_rfl) (by kernel_rfl) (fun _ _ _ h => h) (Or.inl ⟨by rfl, ?_⟩) hHeld ?_
      rotate_left 1
      · (intro w hSw; go_simp; try with_reducible rfl)
      try simp only [Act.put, List.setIfInBounds_toArray, List.set_cons_zero, List.set_cons_succ]
      refine stepL 30 (by kernel_rfl) rfl (fun K hK => ?_)
      go_simp
      refine (HNw.out V4 _ (HM.out.later (HW6.out.1.trans (Y4.out.below.mono HW6.out.2)))).mono ?_
      rintro e V5 ⟨vk, rfl, hk1, hb⟩
      show K _ _
      have HVK := Bx.mk hk1.key
      have Y5 := Bx.mk (Y4.out.later hb)
      clear hb hk1 Y4
      refine hK.out _ _ ⟨Y5.out.rows _ (.tail _ (.tail _ (.head _))), Y5.out.rows _ (.tail _ (.head _))⟩ (fun hHeld => ?_)
      clear hK K
      try simp only [Act.put, List.setIfInBounds_toArray, List.set_cons_zero, List.set_cons_succ]
      refine stepL 32 (by kernel_rfl) rfl (fun K hK => ?_)
      go_simp
      refine (HHo.out V5 vk (HW6.out.1.trans (Y5.out.below.mono HW6.out.2)) HVK.out).mono ?_
      rintro e V6 ⟨rfl, hb⟩
      show K _ _
      have Y6 := Bx.mk (Y5.out.later hb)
      clear hb Y5
      refine hK.out _ _ ⟨Y6.out.rows _ (.tail _ (.tail _ (.head _))), Y6.out.rows _ (.tail _ (.head _))⟩ (fun hHeld => ?_)
      clear hK K
      try simp only [Act.put, List.setIfInBounds_toArray, List.set_cons_zero, List.set_cons_succ]
      refine stepL 36 (by kernel_rfl) rfl (fun K hK => ?_)
      go_simp
      refine (same_any sk (bb.drop 9) _ _ V6 (row_bytes (Y6.out.rows _ (.head _)) HSl.out) (HBr.out.later (HW6.out.1.trans (Y6.out.below.mono HW6.out.2))) (by rw [HSl.out]; omega) (by rw [HTl.out]; omega)).mono ?_
      rintro e W' ⟨rfl, nd, rfl⟩
      show K _ _
      rw [HDD.out]
      have Y7 := Bx.mk (Y6.out.later (below_drewN (Below.refl _ _) nd))
      clear Y6
      generalize V6.drewN nd = V7 at *
      refine hK.out _ _ ⟨Y7.out.rows _ (.tail _ (.tail _ (.head _))), Y7.out.rows _ (.tail _ (.head _))⟩ (fun hHeld => ?_)
      clear hK K
      try simp only [Act.put, List.setIfInBounds_toArray, List.set_cons_zero, List.set_cons_succ]
      refine takeL 37 (v := ?_) rfl (by kernel_rfl) (by kernel_rfl) (by kernel_rfl) (fun _ _ _ h => h) (Or.inl ⟨by rfl, ?_⟩) hHeld ?_
      rotate_left 1
      · (intro w hSw; go_simp; try with_reducible rfl)
      try simp only [Act.put, List.setIfInBounds_toArray, List.set_cons_zero, List.set_cons_succ]
      refine takeL 38 (v := ?_) rfl (by kernel_rfl) (by kernel_rfl) (by kernel_rfl) (fun _ _ _ h => h) (Or.inl ⟨by rfl, ?_⟩) hHeld ?_
      rotate_left 1
      · (intro w hSw; go_simp; try with_reducible rfl)
      try simp only [Act.put, List.setIfInBounds_toArray, List.set_cons_zero, List.set_cons_succ]
      refine takeL 39 (v := ?_) rfl (by kernel_rfl) (by kernel_rfl) (by kernel_rfl) (fun _ _ _ h => h) (Or.inl ⟨by rfl, ?_⟩) hHeld ?_
      rotate_left 1
      · (intro w hSw; go_simp; try with_reducible rfl)
      try simp only [Act.put, List.setIfInBounds_toArray, List.set_cons_zero, List.set_cons_succ]
      refine wpAnyH_done (by kernel_rfl) ?_ _
      refine NoPanic.normal ?_
      clear hHeld
      try go_wp2
      go_ret
      exact ⟨rfl, by rw [← HB.out]; exact HW6.out.1.trans (Y7.out.below.mono HW6.out.2)⟩
    · go_simp
      show K _ _
      have HEF : Bx (E < W1.heap.size) := Bx.mk (R1.out.lt (.head _))
      have HGF : Bx (G ≤ W1.heap.size) := Bx.mk R1.out.le
      have R2 := Bx.mk (R1.out.new (.cells z1 37))
      clear R1
      generalize W1.alloc (.cells z1 37) = W2 at *
      generalize W1.heap.size = F at *
      refine hK.out _ _ (row_rng (l := [.int .i64 i, .int .i64 r, .int .i64 x, .int .i64 q]) (R2.out.rows _ (.tail _ (.head _)))) (fun hHeld => ?_)
      clear hK K
      try simp only [Act.put, List.setIfInBounds_toArray, List.set_cons_zero, List.set_cons_succ]
      refine stepL 3 (by kernel_rfl) rfl (fun K hK => ?_)
      go_simp
      refine (HSec.out tbl W2 _ HTb.out (HM.out.later (HW6.out.1.trans (R2.out.below.mono HW6.out.2)))).mono ?_
      rintro e W3 ⟨rfl, hb⟩
      show K _ _
      have R3 := Bx.mk (R2.out.later hb)
      clear hb R2
      refine hK.out _ _ (row_rng (l := [.int .i64 i, .int .i64 r, .int .i64 x, .int .i64 q]) (R3.out.rows _ (.tail _ (.head _)))) (fun hHeld => ?_)
      clear hK K
      try simp only [Act.put, List.setIfInBounds_toArray, List.set_cons_zero, List.set_cons_succ]
      refine stepL 5 (by kernel_rfl) rfl (fun K hK => ?_)
      refine step_st rfl 37 _ _ rfl F (u8s sk) (by rfl) (by rfl) (there_row (R3.out.rows _ (.head _)) 0 _ (by rw [HIS.out.2]; omega)) HIS.out.1 (one_u8s _) ?_
      have hr2 := heap_setCells_all (ds := u8s sk) (R3.out.rows _ (.head _)) HIS.out.2
      have R4 := Bx.mk (R3.out.set (kb_setCells (u8s sk).toList 0 W3) hr2 HGF.out (by intro y hy; have h1 := HDE.out; have h3 := HEF.out; simp at hy; rcases hy with rfl | rfl <;> (simp only; omega)))
      clear hr2 R3
      refine hK.out _ _ (row_rng (l := [.int .i64 i, .int .i64 r, .int .i64 x, .int .i64 q]) (R4.out.rows _ (.tail _ (.head _)))) (fun hHeld => ?_)
      clear hK K
      try simp only [Act.put]
      generalize W3.setCells F 0 (u8s sk).toList = W4 at *
      refine wpAnyH_done (by kernel_rfl) ?_ _
      refine NoPanic.normal ?_
      clear hHeld
      go_upto_region 10 with fail
      have Y0 := Bx.mk (R4.out.drew)
      clear R4
      refine wp_region_noPanic ?_
      refine wp_region_held_drew (S := fun W => W.heap[D]? = some (.cells kl.toArray 39 (0, 0)) ∧ W.heap[E]? = some (.cells #[.int .i64 i, .int .i64 r, .int .i64 x, .int .i64 q] 24 (0, 0))) (by kernel_rfl) (⟨Y0.out.rows _ (.tail _ (.tail _ (.head _))), Y0.out.rows _ (.tail _ (.head _))⟩) (fun hHeld => ?_)
      generalize W4.drew = V0 at *
      refine stepL 0 (by kernel_rfl) rfl (fun K hK => ?_)
      go_simp
      refine (known6_any V0 (HT.out V0 (by rw [← HB.out]; exact HW6.out.1.trans (Y0.out.below.mono HW6.out.2))).1 (HT.out V0 (by rw [← HB.out]; exact HW6.out.1.trans (Y0.out.below.mono HW6.out.2))).2).mono ?_
      rintro e V1 ⟨rfl, hb⟩
      show K _ _
      have Y1 := Bx.mk (Y0.out.later hb)
      clear hb Y0
      refine hK.out _ _ ⟨Y1.out.rows _ (.tail _ (.tail _ (.head _))), Y1.out.rows _ (.tail _ (.head _))⟩ (fun hHeld => ?_)
      clear hK K
      try simp only [Act.put, List.setIfInBounds_toArray, List.set_cons_zero, List.set_cons_succ]
      refine takeL 1 (v := ?_) rfl (by kernel_rfl) (by kernel_rfl) (by kernel_rfl) (fun _ _ _ h => h) (Or.inl ⟨by rfl, ?_⟩) hHeld ?_
      rotate_left 1
      · (intro w hSw; go_simp; try with_reducible rfl)
      try simp only [Act.put, List.setIfInBounds_toArray, List.set_cons_zero, List.set_cons_succ]
      refine takeL 2 (v := ?_) rfl (by kernel_rfl) (by kernel_rfl) (by kernel_rfl) (fun _ _ _ h => h) (Or.inl ⟨by rfl, ?_⟩) hHeld ?_
      rotate_left 1
      · (intro w hSw; go_simp; try with_reducible rfl)
      try simp only [Act.put, List.setIfInBounds_toArray, List.set_cons_zero, List.set_cons_succ]
      refine takeL 3 (v := ?_) rfl (by kernel_rfl) (by kernel_rfl) (by kernel_rfl) (fun _ _ _ h => h) (Or.inl ⟨by rfl, ?_⟩) hHeld ?_
      rotate_left 1
      · (intro w hSw; go_simp; try with_reducible rfl)
      try simp only [Act.put, List.setIfInBounds_toArray, List.set_cons_zero, List.set_cons_succ]
      refine takeL 4 (v := ?_) rfl (by kernel_rfl) (by kernel_rfl) (by kernel_rfl) (fun _ _ _ h => h) (Or.inl ⟨by rfl, ?_⟩) hHeld ?_
      rotate_left 1
      · (intro w hSw; go_simp; try with_reducible rfl)
      try simp only [Act.put, List.setIfInBounds_toArray, List.set_cons_zero, List.set_cons_succ]
      refine takeL 5 (v := ?_) rfl (by kernel_rfl) (by kernel_rfl) (by kernel_rfl) (fun _ _ _ h => h) (Or.inl ⟨by rfl, ?_⟩) hHeld ?_
      rotate_left 1
      · (intro w hSw; go_simp; try with_reducible rfl)
      try simp only [Act.put, List.setIfInBounds_toArray, List.set_cons_zero, List.set_cons_succ]
      refine takeL 6 (v := ?_) rfl (by kernel_rfl) (by kernel_rfl) (by kernel_rfl) (fun _ _ _ h => h) (Or.inl ⟨by rfl, ?_⟩) hHeld ?_
      rotate_left 1
      · (intro w hSw; go_simp; try with_reducible rfl)
      try simp only [Act.put, List.setIfInBounds_toArray, List.set_cons_zero, List.set_cons_succ]
      refine takeL 7 rfl (by kernel_rfl) (by kernel_rfl) (by kernel_rfl) (fun _ _ _ h => h) (yieldsIf_load_mid (by rfl) _ _ rfl _ _ rfl _ _ (fun w hSw => (HK4.out w _ _ hSw.1).1) Tryd.underlying36 rfl (by kernel_rfl)) hHeld ?_
      try simp only [Act.put, List.setIfInBounds_toArray, List.set_cons_zero, List.set_cons_succ]
      refine takeL 9 rfl (by kernel_rfl) (by kernel_rfl) (by kernel_rfl) (fun _ _ _ h => h) (yieldsIf_load_mid (by rfl) _ _ rfl _ _ rfl _ _ (fun w hSw => row_rng (l := [.int .i64 i, .int .i64 r, .int .i64 x, .int .i64 q]) hSw.2) Tryd.underlying24 rfl (by kernel_rfl)) hHeld ?_
      try simp only [Act.put, List.setIfInBounds_toArray, List.set_cons_zero, List.set_cons_succ]
      refine stepL 8 (by kernel_rfl) rfl (fun K hK => ?_)
      go_simp
      refine (HOf.out V1).mono ?_
      rintro e V2 ⟨rfl, hb⟩
      show K _ _
      have Y2 := Bx.mk (Y1.out.later hb)
      clear hb Y1
      refine hK.out _ _ ⟨Y2.out.rows _ (.tail _ (.tail _ (.head _))), Y2.out.rows _ (.tail _ (.head _))⟩ (fun hHeld => ?_)
      clear hK K
      try simp only [Act.put, List.setIfInBounds_toArray, List.set_cons_zero, List.set_cons_succ]
      refine takeL 10 (v := ?_) rfl (by kernel_rfl) (by kernel_rfl) (by kernel_rfl) (fun _ _ _ h => h) (Or.inl ⟨by rfl, ?_⟩) hHeld ?_
      rotate_left 1
      · (intro w hSw; go_simp; try with_reducible rfl)
      try simp only [Act.put, List.setIfInBounds_toArray, List.set_cons_zero, List.set_cons_succ]
      refine takeL 11 (v := ?_) rfl (by kernel_rfl) (by kernel_rfl) (by kernel_rfl) (fun _ _ _ h => h) (Or.inl ⟨by rfl, ?_⟩) hHeld ?_
      rotate_left 1
      · (intro w hSw; go_simp; try with_reducible rfl)
      try simp only [Act.put, List.setIfInBounds_toArray, List.set_cons_zero, List.set_cons_succ]
      refine takeL 12 (v := ?_) rfl (by kernel_rfl) (by kernel_rfl) (by kernel_rfl) (fun _ _ _ h => h) (Or.inl ⟨by rfl, ?_⟩) hHeld ?_
      rotate_left 1
      · (intro w hSw; go_simp; try with_reducible rfl)
      try simp only [Act.put, List.setIfInBounds_toArray, List.set_cons_zero, List.set_cons_succ]
      refine takeL 13 (v := ?_) rfl (by kernel_rfl) (by kernel_rfl) (by kernel_rfl) (fun _ _ _ h => h) (Or.inl ⟨by rfl, ?_⟩) hHeld ?_
      rotate_left 1
      · (intro w hSw; go_simp; try with_reducible rfl)
      try simp only [Act.put, List.setIfInBounds_toArray, List.set_cons_zero, List.set_cons_succ]
      refine takeL 14 (v := ?_) rfl (by kernel_rfl) (by kernel_rfl) (by kernel_rfl) (fun _ _ _ h => h) (Or.inl ⟨by rfl, ?_⟩) hHeld ?_
      rotate_left 1
      · (intro w hSw; go_simp; try with_reducible rfl)
      try simp only [Act.put, List.setIfInBounds_toArray, List.set_cons_zero, List.set_cons_succ]
      refine takeL 15 (v := ?_) rfl (by kernel_rfl) (by kernel_rfl) (by kernel_rfl) (fun _ _ _ h => h) (Or.inl ⟨by rfl, ?_⟩) hHeld ?_
      rotate_left 1
      · (intro w hSw; go_simp; try with_reducible rfl)
      try simp only [Act.put, List.setIfInBounds_toArray, List.set_cons_zero, List.set_cons_succ]
      refine takeL 16 (v := ?_) rfl (by kernel_rfl) (by kernel_rfl) (by kernel_rfl) (fun _ _ _ h => h) (Or.inl ⟨by rfl, ?_⟩) hHeld ?_
      rotate_left 1
      · (intro w hSw; go_simp; try with_reducible rfl)
      try simp only [Act.put, List.setIfInBounds_toArray, List.set_cons_zero, List.set_cons_succ]
      refine stepL 17 (by kernel_rfl) rfl (fun K hK => ?_)
      go_simp
      refine (same_any (bb.drop 9) (bb.drop 9) _ _ V2 (HK4.out _ _ _ (Y2.out.rows _ (.tail _ (.tail _ (.head _))))).2.2 (HBr.out.later (HW6.out.1.trans (Y2.out.below.mono HW6.out.2))) (by rw [HTl.out]; omega) (by rw [HTl.out]; omega)).mono ?_
      rintro e W' ⟨rfl, nd, rfl⟩
      show K _ _
      rw [decide_eq_true rfl]
      have Y3 := Bx.mk (Y2.out.later (below_drewN (Below.refl _ _) nd))
      clear Y2
      generalize V2.drewN nd = V3 at *
      refine hK.out _ _ ⟨Y3.out.rows _ (.tail _ (.tail _ (.head _))), Y3.out.rows _ (.tail _ (.head _))⟩ (fun hHeld => ?_)
      clear hK K
      try simp only [Act.put, List.setIfInBounds_toArray, List.set_cons_zero, List.set_cons_succ]
      refine takeL 18 (v := ?_) rfl (by kernel_rfl) (by kernel_rfl) (by kernel_rfl) (fun _ _ _ h => h) (Or.inl ⟨by rfl, ?_⟩) hHeld ?_
      rotate_left 1
      · (intro w hSw; go_simp; try with_reducible rfl)
      try simp only [Act.put, List.setIfInBounds_toArray, List.set_cons_zero, List.set_cons_succ]
      refine takeL 19 (v := ?_) rfl (by kernel_rfl) (by kernel_rfl) (by kernel_rfl) (fun _ _ _ h => h) (Or.inl ⟨by rfl, ?_⟩) hHeld ?_
      rotate_left 1
      · (intro w hSw; go_simp; try with_reducible rfl)
      try simp only [Act.put, List.setIfInBounds_toArray, List.set_cons_zero, List.set_cons_succ]
      refine takeL 20 (v := ?_) rfl (by kernel_rfl) (by kernel_rfl) (by kernel_rfl) (fun _ _ _ h => h) (Or.inl ⟨by rfl, ?_⟩) hHeld ?_
      rotate_left 1
      · (intro w hSw; go_simp; try with_reducible rfl)
      try simp only [Act.put, List.setIfInBounds_toArray, List.set_cons_zero, List.set_cons_succ]
      refine takeL 21 (v := ?_) rfl (by kernel_rfl) (by kernel_rfl) (by kernel_rfl) (fun _ _ _ h => h) (Or.inl ⟨by rfl, ?_⟩) hHeld ?_
      rotate_left 1
      · (intro w hSw; go_simp; try with_reducible rfl)
      try simp only [Act.put, List.setIfInBounds_toArray, List.set_cons_zero, List.set_cons_succ]
      refine takeL 22 (v := ?_) rfl (by kernel_rfl) (by kernel_rfl) (by kernel_rfl) (fun _ _ _ h => h) (Or.inl ⟨by rfl, ?_⟩) hHeld ?_
      rotate_left 1
      · (intro w hSw; go_simp; try with_reducible rfl)
      try simp only [Act.put, List.setIfInBounds_toArray, List.set_cons_zero, List.set_cons_succ]
      refine takeL 23 (v := ?_) rfl (by kernel_rfl) (by kernel_rfl) (by kernel_rfl) (fun _ _ _ h => h) (Or.inl ⟨by rfl, ?_⟩) hHeld ?_
      rotate_left 1
      · (intro w hSw; go_simp; try with_reducible rfl)
      try simp only [Act.put, List.setIfInBounds_toArray, List.set_cons_zero, List.set_cons_succ]
      refine takeL 24 (v := ?_) rfl (by kernel_rfl) (by kernel_rfl) (by kernel_rfl) (fun _ _ _ h => h) (Or.inl ⟨by rfl, ?_⟩) hHeld ?_
      rotate_left 1
      · (intro w hSw; go_simp; try with_reducible rfl)
      try simp only [Act.put, List.setIfInBounds_toArray, List.set_cons_zero, List.set_cons_succ]
      refine takeL 25 (v := ?_) rfl (by kernel_rfl) (by kernel_rfl) (by kernel_rfl) (fun _ _ _ h => h) (Or.inl ⟨by rfl, ?_⟩) hHeld ?_
      rotate_left 1
      · (intro w hSw; go_simp; try with_reducible rfl)
      try simp only [Act.put, List.setIfInBounds_toArray, List.set_cons_zero, List.set_cons_succ]
      refine stepL 26 (by kernel_rfl) rfl (fun K hK => ?_)
      go_simp
      refine (same_any bb bb _ _ V3 (HX.out.later (by rw [HG.out]; exact Y3.out.below)) (HBB.out.later (HW6.out.1.trans (Y3.out.below.mono HW6.out.2))) (by rw [hc0.out]; omega) (by rw [hc0.out]; omega)).mono ?_
      rintro e W' ⟨rfl, nd, rfl⟩
      show K _ _
      rw [decide_eq_true rfl]
      have Y4 := Bx.mk (Y3.out.later (below_drewN (Below.refl _ _) nd))
      clear Y3
      generalize V3.drewN nd = V4 at *
      refine hK.out _ _ ⟨Y4.out.rows _ (.tail _ (.tail _ (.head _))), Y4.out.rows _ (.tail _ (.head _))⟩ (fun hHeld => ?_)
      clear hK K
      try simp only [Act.put, List.setIfInBounds_toArray, List.set_cons_zero, List.set_cons_succ]
      refine takeL 27 (v := ?_) rfl (by kernel_rfl) (by kernel_rfl) (by kernel_rfl) (fun _ _ _ h => h) (Or.inl ⟨by rfl, ?_⟩) hHeld ?_
      rotate_left 1
      · (intro w hSw; go_simp; try with_reducible rfl)
      try simp only [Act.put, List.setIfInBounds_toArray, List.set_cons_zero, List.set_cons_succ]
      refine takeL 28 (v := ?_) rfl (by kernel_rfl) (by kernel_rfl) (by kernel_rfl) (fun _ _ _ h => h) (Or.inl ⟨by rfl, ?_⟩) hHeld ?_
      rotate_left 1
      · (intro w hSw; go_simp; try with_reducible rfl)
      try simp only [Act.put, List.setIfInBounds_toArray, List.set_cons_zero, List.set_cons_succ]
      refine takeL 29 (v := ?_) rfl (by kernel_rfl) (by kernel_rfl) (by kernel_rfl) (fun _ _ _ h => h) (Or.inl ⟨by rfl, ?_⟩) hHeld ?_
      rotate_left 1
      · (intro w hSw; go_simp; try with_reducible rfl)
      try simp only [Act.put, List.setIfInBounds_toArray, List.set_cons_zero, List.set_cons_succ]
      refine takeL 31 rfl (by kernel_rfl) (by kernel_rfl) (by kernel_rfl) (fun _ _ _ h => h) (yieldsIf_load_mid (by rfl) _ _ rfl _ _ rfl _ _ (fun w hSw => (HK4.out w _ _ hSw.1).2.1) Tryd.underlying39 rfl HI.out.2.2.2) hHeld ?_
      try simp only [Act.put, List.setIfInBounds_toArray, List.set_cons_zero, List.set_cons_succ]
      refine takeL 33 (v := ?_) rfl (by kernel_rfl) (by kernel_rfl) (by kernel_rfl) (fun _ _ _ h => h) (Or.inl ⟨by rfl, ?_⟩) hHeld ?_
      rotate_left 1
      · (intro w hSw; go_simp; try with_reducible rfl)
      try simp only [Act.put, List.setIfInBounds_toArray, List.set_cons_zero, List.set_cons_succ]
      refine takeL 34 (v := ?_) rfl (by kernel_rfl) (by kernel_rfl) (by kernel_rfl) (fun _ _ _ h => h) (Or.inl ⟨by rfl, ?_⟩) hHeld ?_
      rotate_left 1
      · (intro w hSw; go_simp; try with_reducible rfl)
      try simp only [Act.put, List.setIfInBounds_toArray, List.set_cons_zero, List.set_cons_succ]
      refine takeL 35 (v := ?_) rfl (by kernel_rfl) (by kernel_rfl) (by kernel_rfl) (fun _ _ _ h => h) (Or.inl ⟨by rfl, ?_⟩) hHeld ?_
      rotate_left 1
      · (intro w hSw; go_simp; try with_reducible rfl)
      try simp only [Act.put, List.setIfInBounds_toArray, List.set_cons_zero, List.set_cons_succ]
      refine stepL 30 (by kernel_rfl) rfl (fun K hK => ?_)
      go_simp
      refine (HNw.out V4 _ (HM.out.later (HW6.out.1.trans (Y4.out.below.mono HW6.out.2)))).mono ?_
      rintro e V5 ⟨vk, rfl, hk1, hb⟩
      show K _ _
      have HVK := Bx.mk hk1.key
      have Y5 := Bx.mk (Y4.out.later hb)
      clear hb hk1 Y4
      refine hK.out _ _ ⟨Y5.out.rows _ (.tail _ (.tail _ (.head _))), Y5.out.rows _ (.tail _ (.head _))⟩ (fun hHeld => ?_)
      clear hK K
      try simp only [Act.put, List.setIfInBounds_toArray, List.set_cons_zero, List.set_cons_succ]
      refine stepL 32 (by kernel_rfl) rfl (fun K hK => ?_)
      go_simp
      refine (HHo.out V5 vk (HW6.out.1.trans (Y5.out.below.mono HW6.out.2)) HVK.out).mono ?_
      rintro e V6 ⟨rfl, hb⟩
      show K _ _
      have Y6 := Bx.mk (Y5.out.later hb)
      clear hb Y5
      refine hK.out _ _ ⟨Y6.out.rows _ (.tail _ (.tail _ (.head _))), Y6.out.rows _ (.tail _ (.head _))⟩ (fun hHeld => ?_)
      clear hK K
      try simp only [Act.put, List.setIfInBounds_toArray, List.set_cons_zero, List.set_cons_succ]
      refine stepL 36 (by kernel_rfl) rfl (fun K hK => ?_)
      go_simp
      refine (same_any sk (bb.drop 9) _ _ V6 (row_bytes (Y6.out.rows _ (.head _)) HSl.out) (HBr.out.later (HW6.out.1.trans (Y6.out.below.mono HW6.out.2))) (by rw [HSl.out]; omega) (by rw [HTl.out]; omega)).mono ?_
      rintro e W' ⟨rfl, nd, rfl⟩
      show K _ _
      rw [HDD.out]
      have Y7 := Bx.mk (Y6.out.later (below_drewN (Below.refl _ _) nd))
      clear Y6
      generalize V6.drewN nd = V7 at *
      refine hK.out _ _ ⟨Y7.out.rows _ (.tail _ (.tail _ (.head _))), Y7.out.rows _ (.tail _ (.head _))⟩ (fun hHeld => ?_)
      clear hK K
      try simp only [Act.put, List.setIfInBounds_toArray, List.set_cons_zero, List.set_cons_succ]
      refine takeL 37 (v := ?_) rfl (by kernel_rfl) (by kernel_rfl) (by kernel_rfl) (fun _ _ _ h => h) (Or.inl ⟨by rfl, ?_⟩) hHeld ?_
      rotate_left 1
      · (intro w hSw; go_simp; try with_reducible rfl)
      try simp only [Act.put, List.setIfInBounds_toArray, List.set_cons_zero, List.set_cons_succ]
      refine takeL 38 (v := ?_) rfl (by kernel_rfl) (by kernel_rfl) (by kernel_rfl) (fun _ _ _ h => h) (Or.inl ⟨by rfl, ?_⟩) hHeld ?_
      rotate_left 1
      · (intro w hSw; go_simp; try with_reducible rfl)
      try simp only [Act.put, List.setIfInBounds_toArray, List.set_cons_zero, List.set_cons_succ]
      refine takeL 39 (v := ?_) rfl (by kernel_rfl) (by kernel_rfl) (by kernel_rfl) (fun _ _ _ h => h) (Or.inl ⟨by rfl, ?_⟩) hHeld ?_
      rotate_left 1
      · (intro w hSw; go_simp; try with_reducible rfl)
      try simp only [Act.put, List.setIfInBounds_toArray, List.set_cons_zero, List.set_cons_succ]
      refine wpAnyH_done (by kernel_rfl) ?_ _
      refine NoPanic.normal ?_
      clear hHeld
      try go_wp2
      go_ret
      exact ⟨rfl, by rw [← HB.out]; exact HW6.out.1.trans (Y7.out.below.mono HW6.out.2)⟩
  · go_simp
    show K _ _
    have HEF : Bx (E < W0.heap.size) := Bx.mk (R0.out.lt (.head _))
    have HGF : Bx (G ≤ W0.heap.size) := Bx.mk R0.out.le
    have R1 := Bx.mk (R0.out.new (.cells z1 37))
    clear R0
    generalize W0.alloc (.cells z1 37) = W1 at *
    generalize W0.heap.size = F at *
    refine hK.out _ _ (row_rng (l := [.int .i64 i, .int .i64 r, .int .i64 x, .int .i64 q]) (R1.out.rows _ (.tail _ (.head _)))) (fun hHeld => ?_)
    clear hK K
    try simp only [Act.put, List.setIfInBounds_toArray, List.set_cons_zero, List.set_cons_succ]
    refine stepL 0 (by kernel_rfl) rfl (fun K hK => ?_)
    go_simp
    refine (HMake.out W1).mono ?_
    rintro e W2 ⟨rfl, hb⟩
    show K _ _
    have R2 := Bx.mk (R1.out.later hb)
    clear hb R1
    refine hK.out _ _ (row_rng (l := [.int .i64 i, .int .i64 r, .int .i64 x, .int .i64 q]) (R2.out.rows _ (.tail _ (.head _)))) (fun hHeld => ?_)
    clear hK K
    try simp only [Act.put, List.setIfInBounds_toArray, List.set_cons_zero, List.set_cons_succ]
    refine stepL 3 (by kernel_rfl) rfl (fun K hK => ?_)
    go_simp
    refine (HSec.out tbl W2 _ HTb.out (HM.out.later (HW6.out.1.trans (R2.out.below.mono HW6.out.2)))).mono ?_
    rintro e W3 ⟨rfl, hb⟩
    show K _ _
    have R3 := Bx.mk (R2.out.later hb)
    clear hb R2
    refine hK.out _ _ (row_rng (l := [.int .i64 i, .int .i64 r, .int .i64 x, .int .i64 q]) (R3.out.rows _ (.tail _ (.head _)))) (fun hHeld => ?_)
    clear hK K
    try simp only [Act.put, List.setIfInBounds_toArray, List.set_cons_zero, List.set_cons_succ]
    refine stepL 5 (by kernel_rfl) rfl (fun K hK => ?_)
    refine step_st rfl 37 _ _ rfl F (u8s sk) (by rfl) (by rfl) (there_row (R3.out.rows _ (.head _)) 0 _ (by rw [HIS.out.2]; omega)) HIS.out.1 (one_u8s _) ?_
    have hr2 := heap_setCells_all (ds := u8s sk) (R3.out.rows _ (.head _)) HIS.out.2
    have R4 := Bx.mk (R3.out.set (kb_setCells (u8s sk).toList 0 W3) hr2 HGF.out (by intro y hy; have h1 := HDE.out; have h3 := HEF.out; simp at hy; rcases hy with rfl | rfl <;> (simp only; omega)))
    clear hr2 R3
    refine hK.out _ _ (row_rng (l := [.int .i64 i, .int .i64 r, .int .i64 x, .int .i64 q]) (R4.out.rows _ (.tail _ (.head _)))) (fun hHeld => ?_)
    clear hK K
    try simp only [Act.put]
    generalize W3.setCells F 0 (u8s sk).toList = W4 at *
    refine wpAnyH_done (by kernel_rfl) ?_ _
    refine NoPanic.normal ?_
    clear hHeld
    go_upto_region 10 with fail
    have Y0 := Bx.mk (R4.out.drew)
    clear R4
    refine wp_region_noPanic ?_
    refine wp_region_held_drew (S := fun W => W.heap[D]? = some (.cells kl.toArray 39 (0, 0)) ∧ W.heap[E]? = some (.cells #[.int .i64 i, .int .i64 r, .int .i64 x, .int .i64 q] 24 (0, 0))) (by kernel_rfl) (⟨Y0.out.rows _ (.tail _ (.tail _ (.head _))), Y0.out.rows _ (.tail _ (.head _))⟩) (fun hHeld => ?_)
    generalize W4.drew = V0 at *
    refine stepL 0 (by kernel_rfl) rfl (fun K hK => ?_)
    go_simp
    refine (known6_any V0 (HT.out V0 (by rw [← HB.out]; exact HW6.out.1.trans (Y0.out.below.mono HW6.out.2))).1 (HT.out V0 (by rw [← HB.out]; exact HW6.out.1.trans (Y0.out.below.mono HW6.out.2))).2).mono ?_
    rintro e V1 ⟨rfl, hb⟩
    show K _ _
    have Y1 := Bx.mk (Y0.out.later hb)
    clear hb Y0
    refine hK.out _ _ ⟨Y1.out.rows _ (.tail _ (.tail _ (.head _))), Y1.out.rows _ (.tail _ (.head _))⟩ (fun hHeld => ?_)
    clear hK K
    try simp only [Act.put, List.setIfInBounds_toArray, List.set_cons_zero, List.set_cons_succ]
    refine takeL 1 (v := ?_) rfl (by kernel_rfl) (by kernel_rfl) (by kernel_rfl) (fun _ _ _ h => h) (Or.inl ⟨by rfl, ?_⟩) hHeld ?_
    rotate_left 1
    · (intro w hSw; go_simp; try with_reducible rfl)
    try simp only [Act.put, List.setIfInBounds_toArray, List.set_cons_zero, List.set_cons_succ]
    refine takeL 2 (v := ?_) rfl (by kernel_rfl) (by kernel_rfl) (by kernel_rfl) (fun _ _ _ h => h) (Or.inl ⟨by rfl, ?_⟩) hHeld ?_
    rotate_left 1
    · (intro w hSw; go_simp; try with_reducible rfl)
    try simp only [Act.put, List.setIfInBounds_toArray, List.set_cons_zero, List.set_cons_succ]
    refine takeL 3 (v := ?_) rfl (by kernel_rfl) (by kernel_rfl) (by kernel_rfl) (fun _ _ _ h => h) (Or.inl ⟨by rfl, ?_⟩) hHeld ?_
    rotate_left 1
    · (intro w hSw; go_simp; try with_reducible rfl)
    try simp only [Act.put, List.setIfInBounds_toArray, List.set_cons_zero, List.set_cons_succ]
    refine takeL 4 (v := ?_) rfl (by kernel_rfl) (by kernel_rfl) (by kernel_rfl) (fun _ _ _ h => h) (Or.inl ⟨by rfl, ?_⟩) hHeld ?_
    rotate_left 1
    · (intro w hSw; go_simp; try with_reducible rfl)
    try simp only [Act.put, List.setIfInBounds_toArray, List.set_cons_zero, List.set_cons_succ]
    refine takeL 5 (v := ?_) rfl (by kernel_rfl) (by kernel_rfl) (by kernel_rfl) (fun _ _ _ h => h) (Or.inl ⟨by rfl, ?_⟩) hHeld ?_
    rotate_left 1
    · (intro w hSw; go_simp; try with_reducible rfl)
    try simp only [Act.put, List.setIfInBounds_toArray, List.set_cons_zero, List.set_cons_succ]
    refine takeL 6 (v := ?_) rfl (by kernel_rfl) (by kernel_rfl) (by kernel_rfl) (fun _ _ _ h => h) (Or.inl ⟨by rfl, ?_⟩) hHeld ?_
    rotate_left 1
    · (intro w hSw; go_simp; try with_reducible rfl)
    try simp only [Act.put, List.setIfInBounds_toArray, List.set_cons_zero, List.set_cons_succ]
    refine takeL 7 rfl (by kernel_rfl) (by kernel_rfl) (by kernel_rfl) (fun _ _ _ h => h) (yieldsIf_load_mid (by rfl) _ _ rfl _ _ rfl _ _ (fun w hSw => (HK4.out w _ _ hSw.1).1) Tryd.underlying36 rfl (by kernel_rfl)) hHeld ?_
    try simp only [Act.put, List.setIfInBounds_toArray, List.set_cons_zero, List.set_cons_succ]
    refine takeL 9 rfl (by kernel_rfl) (by kernel_rfl) (by kernel_rfl) (fun _ _ _ h => h) (yieldsIf_load_mid (by rfl) _ _ rfl _ _ rfl _ _ (fun w hSw => row_rng (l := [.int .i64 i, .int .i64 r, .int .i64 x, .int .i64 q]) hSw.2) Tryd.underlying24 rfl (by kernel_rfl)) hHeld ?_
    try simp only [Act.put, List.setIfInBounds_toArray, List.set_cons_zero, List.set_cons_succ]
    refine stepL 8 (by kernel_rfl) rfl (fun K hK => ?_)
    go_simp
    refine (HOf.out V1).mono ?_
    rintro e V2 ⟨rfl, hb⟩
    show K _ _
    have Y2 := Bx.mk (Y1.out.later hb)
    clear hb Y1
    refine hK.out _ _ ⟨Y2.out.rows _ (.tail _ (.tail _ (.head _))), Y2.out.rows _ (.tail _ (.head _))⟩ (fun hHeld => ?_)
    clear hK K
    try simp only [Act.put, List.setIfInBounds_toArray, List.set_cons_zero, List.set_cons_succ]
    refine takeL 10 (v := ?_) rfl (by kernel_rfl) (by kernel_rfl) (by kernel_rfl) (fun _ _ _ h => h) (Or.inl ⟨by rfl, ?_⟩) hHeld ?_
    rotate_left 1
    · (intro w hSw; go_simp; try with_reducible rfl)
    try simp only [Act.put, List.setIfInBounds_toArray, List.set_cons_zero, List.set_cons_succ]
    refine takeL 11 (v := ?_) rfl (by kernel_rfl) (by kernel_rfl) (by kernel_rfl) (fun _ _ _ h => h) (Or.inl ⟨by rfl, ?_⟩) hHeld ?_
    rotate_left 1
    · (intro w hSw; go_simp; try with_reducible rfl)
    try simp only [Act.put, List.setIfInBounds_toArray, List.set_cons_zero, List.set_cons_succ]
    refine takeL 12 (v := ?_) rfl (by kernel_rfl) (by kernel_rfl) (by kernel_rfl) (fun _ _ _ h => h) (Or.inl ⟨by rfl, ?_⟩) hHeld ?_
    rotate_left 1
    · (intro w hSw; go_simp; try with_reducible rfl)
    try simp only [Act.put, List.setIfInBounds_toArray, List.set_cons_zero, List.set_cons_succ]
    refine takeL 13 (v := ?_) rfl (by kernel_rfl) (by kernel_rfl) (by kernel_rfl) (fun _ _ _ h => h) (Or.inl ⟨by rfl, ?_⟩) hHeld ?_
    rotate_left 1
    · (intro w hSw; go_simp; try with_reducible rfl)
    try simp only [Act.put, List.setIfInBounds_toArray, List.set_cons_zero, List.set_cons_succ]
    refine takeL 14 (v := ?_) rfl (by kernel_rfl) (by kernel_rfl) (by kernel_rfl) (fun _ _ _ h => h) (Or.inl ⟨by rfl, ?_⟩) hHeld ?_
    rotate_left 1
    · (intro w hSw; go_simp; try with_reducible rfl)
    try simp only [Act.put, List.setIfInBounds_toArray, List.set_cons_zero, List.set_cons_succ]
    refine takeL 15 (v := ?_) rfl (by kernel_rfl) (by kernel_rfl) (by kernel_rfl) (fun _ _ _ h => h) (Or.inl ⟨by rfl, ?_⟩) hHeld ?_
    rotate_left 1
    · (intro w hSw; go_simp; try with_reducible rfl)
    try simp only [Act.put, List.setIfInBounds_toArray, List.set_cons_zero, List.set_cons_succ]
    refine takeL 16 (v := ?_) rfl (by kernel_rfl) (by kernel_rfl) (by kernel_rfl) (fun _ _ _ h => h) (Or.inl ⟨by rfl, ?_⟩) hHeld ?_
    rotate_left 1
    · (intro w hSw; go_simp; try with_reducible rfl)
    try simp only [Act.put, List.setIfInBounds_toArray, List.set_cons_zero, List.set_cons_succ]
    refine stepL 17 (by kernel_rfl) rfl (fun K hK => ?_)
    go_simp
    refine (same_any (bb.drop 9) (bb.drop 9) _ _ V2 (HK4.out _ _ _ (Y2.out.rows _ (.tail _ (.tail _ (.head _))))).2.2 (HBr.out.later (HW6.out.1.trans (Y2.out.below.mono HW6.out.2))) (by rw [HTl.out]; omega) (by rw [HTl.out]; omega)).mono ?_
    rintro e W' ⟨rfl, nd, rfl⟩
    show K _ _
    rw [decide_eq_true rfl]
    have Y3 := Bx.mk (Y2.out.later (below_drewN (Below.refl _ _) nd))
    clear Y2
    generalize V2.drewN nd = V3 at *
    refine hK.out _ _ ⟨Y3.out.rows _ (.tail _ (.tail _ (.head _))), Y3.out.rows _ (.tail _ (.head _))⟩ (fun hHeld => ?_)
    clear hK K
    try simp only [Act.put, List.setIfInBounds_toArray, List.set_cons_zero, List.set_cons_succ]
    refine takeL 18 (v := ?_) rfl (by kernel_rfl) (by kernel_rfl) (by kernel_rfl) (fun _ _ _ h => h) (Or.inl ⟨by rfl, ?_⟩) hHeld ?_
    rotate_left 1
    · (intro w hSw; go_simp; try with_reducible rfl)
    try simp only [Act.put, List.setIfInBounds_toArray, List.set_cons_zero, List.set_cons_succ]
    refine takeL 19 (v := ?_) rfl (by kernel_rfl) (by kernel_rfl) (by kernel_rfl) (fun _ _ _ h => h) (Or.inl ⟨by rfl, ?_⟩) hHeld ?_
    rotate_left 1
    · (intro w hSw; go_simp; try with_reducible rfl)
    try simp only [Act.put, List.setIfInBounds_toArray, List.set_cons_zero, List.set_cons_succ]
    refine takeL 20 (v := ?_) rfl (by kernel_rfl) (by kernel_rfl) (by kernel_rfl) (fun _ _ _ h => h) (Or.inl ⟨by rfl, ?_⟩) hHeld ?_
    rotate_left 1
    · (intro w hSw; go_simp; try with_reducible rfl)
    try simp only [Act.put, List.setIfInBounds_toArray, List.set_cons_zero, List.set_cons_succ]
    refine takeL 21 (v := ?_) rfl (by kernel_rfl) (by kernel_rfl) (by kernel_rfl) (fun _ _ _ h => h) (Or.inl ⟨by rfl, ?_⟩) hHeld ?_
    rotate_left 1
    · (intro w hSw; go_simp; try with_reducible rfl)
    try simp only [Act.put, List.setIfInBounds_toArray, List.set_cons_zero, List.set_cons_succ]
    refine takeL 22 (v := ?_) rfl (by kernel_rfl) (by kernel_rfl) (by kernel_rfl) (fun _ _ _ h => h) (Or.inl ⟨by rfl, ?_⟩) hHeld ?_
    rotate_left 1
    · (intro w hSw; go_simp; try with_reducible rfl)
    try simp only [Act.put, List.setIfInBounds_toArray, List.set_cons_zero, List.set_cons_succ]
    refine takeL 23 (v := ?_) rfl (by kernel_rfl) (by kernel_rfl) (by kernel_rfl) (fun _ _ _ h => h) (Or.inl ⟨by rfl, ?_⟩) hHeld ?_
    rotate_left 1
    · (intro w hSw; go_simp; try with_reducible rfl)
    try simp only [Act.put, List.setIfInBounds_toArray, List.set_cons_zero, List.set_cons_succ]
    refine takeL 24 (v := ?_) rfl (by kernel_rfl) (by kernel_rfl) (by kernel_rfl) (fun _ _ _ h => h) (Or.inl ⟨by rfl, ?_⟩) hHeld ?_
    rotate_left 1
    · (intro w hSw; go_simp; try with_reducible rfl)
    try simp only [Act.put, List.setIfInBounds_toArray, List.set_cons_zero, List.set_cons_succ]
    refine takeL 25 (v := ?_) rfl (by kernel_rfl) (by kernel_rfl) (by kernel_rfl) (fun _ _ _ h => h) (Or.inl ⟨by rfl, ?_⟩) hHeld ?_
    rotate_left 1
    · (intro w hSw; go_simp; try with_reducible rfl)
    try simp only [Act.put, List.setIfInBounds_toArray, List.set_cons_zero, List.set_cons_succ]
    refine stepL 26 (by kernel_rfl) rfl (fun K hK => ?_)
    go_simp
    refine (same_any bb bb _ _ V3 (HX.out.later (by rw [HG.out]; exact Y3.out.below)) (HBB.out.later (HW6.out.1.trans (Y3.out.below.mono HW6.out.2))) (by rw [hc0.out]; omega) (by rw [hc0.out]; omega)).mono ?_
    rintro e W' ⟨rfl, nd, rfl⟩
    show K _ _
    rw [decide_eq_true rfl]
    have Y4 := Bx.mk (Y3.out.later (below_drewN (Below.refl _ _) nd))
    clear Y3
    generalize V3.drewN nd = V4 at *
    refine hK.out _ _ ⟨Y4.out.rows _ (.tail _ (.tail _ (.head _))), Y4.out.rows _ (.tail _ (.head _))⟩ (fun hHeld => ?_)
    clear hK K
    try simp only [Act.put, List.setIfInBounds_toArray, List.set_cons_zero, List.set_cons_succ]
    refine takeL 27 (v := ?_) rfl (by kernel_rfl) (by kernel_rfl) (by kernel_rfl) (fun _ _ _ h => h) (Or.inl ⟨by rfl, ?_⟩) hHeld ?_
    rotate_left 1
    · (intro w hSw; go_simp; try with_reducible rfl)
    try simp only [Act.put, List.setIfInBounds_toArray, List.set_cons_zero, List.set_cons_succ]
    refine takeL 28 (v := ?_) rfl (by kernel_rfl) (by kernel_rfl) (by kernel_rfl) (fun _ _ _ h => h) (Or.inl ⟨by rfl, ?_⟩) hHeld ?_
    rotate_left 1
    · (intro w hSw; go_simp; try with_reducible rfl)
    try simp only [Act.put, List.setIfInBounds_toArray, List.set_cons_zero, List.set_cons_succ]
    refine takeL 29 (v := ?_) rfl (by kernel_rfl) (by kernel_rfl) (by kernel_rfl) (fun _ _ _ h => h) (Or.inl ⟨by rfl, ?_⟩) hHeld ?_
    rotate_left 1
    · (intro w hSw; go_simp; try with_reducible rfl)
    try simp only [Act.put, List.setIfInBounds_toArray, List.set_cons_zero, List.set_cons_succ]
    refine takeL 31 rfl (by kernel_rfl) (by kernel_rfl) (by kernel_rfl) (fun _ _ _ h => h) (yieldsIf_load_mid (by rfl) _ _ rfl _ _ rfl _ _ (fun w hSw => (HK4.out w _ _ hSw.1).2.1) Tryd.underlying39 rfl HI.out.2.2.2) hHeld ?_
    try simp only [Act.put, List.setIfInBounds_toArray, List.set_cons_zero, List.set_cons_succ]
    refine takeL 33 (v := ?_) rfl (by kernel_rfl) (by kernel_rfl) (by kernel_rfl) (fun _ _ _ h => h) (Or.inl ⟨by rfl, ?_⟩) hHeld ?_
    rotate_left 1
    · (intro w hSw; go_simp; try with_reducible rfl)
    try simp only [Act.put, List.setIfInBounds_toArray, List.set_cons_zero, List.set_cons_succ]
    refine takeL 34 (v := ?_) rfl (by kernel_rfl) (by kernel_rfl) (by kernel_rfl) (fun _ _ _ h => h) (Or.inl ⟨by rfl, ?_⟩) hHeld ?_
    rotate_left 1
    · (intro w hSw; go_simp; try with_reducible rfl)
    try simp only [Act.put, List.setIfInBounds_toArray, List.set_cons_zero, List.set_cons_succ]
    refine takeL 35 (v := ?_) rfl (by kernel_rfl) (by kernel_rfl) (by kernel_rfl) (fun _ _ _ h => h) (Or.inl ⟨by rfl, ?_⟩) hHeld ?_
    rotate_left 1
    · (intro w hSw; go_simp; try with_reducible rfl)
    try simp only [Act.put, List.setIfInBounds_toArray, List.set_cons_zero, List.set_cons_succ]
    refine stepL 30 (by kernel_rfl) rfl (fun K hK => ?_)
    go_simp
    refine (HNw.out V4 _ (HM.out.later (HW6.out.1.trans (Y4.out.below.mono HW6.out.2)))).mono ?_
    rintro e V5 ⟨vk, rfl, hk1, hb⟩
    show K _ _
    have HVK := Bx.mk hk1.key
    have Y5 := Bx.mk (Y4.out.later hb)
    clear hb hk1 Y4
    refine hK.out _ _ ⟨Y5.out.rows _ (.tail _ (.tail _ (.head _))), Y5.out.rows _ (.tail _ (.head _))⟩ (fun hHeld => ?_)
    clear hK K
    try simp only [Act.put, List.setIfInBounds_toArray, List.set_cons_zero, List.set_cons_succ]
    refine stepL 32 (by kernel_rfl) rfl (fun K hK => ?_)
    go_simp
    refine (HHo.out V5 vk (HW6.out.1.trans (Y5.out.below.mono HW6.out.2)) HVK.out).mono ?_
    rintro e V6 ⟨rfl, hb⟩
    show K _ _
    have Y6 := Bx.mk (Y5.out.later hb)
    clear hb Y5
    refine hK.out _ _ ⟨Y6.out.rows _ (.tail _ (.tail _ (.head _))), Y6.out.rows _ (.tail _ (.head _))⟩ (fun hHeld => ?_)
    clear hK K
    try simp only [Act.put, List.setIfInBounds_toArray, List.set_cons_zero, List.set_cons_succ]
    refine stepL 36 (by kernel_rfl) rfl (fun K hK => ?_)
    go_simp
    refine (same_any sk (bb.drop 9) _ _ V6 (row_bytes (Y6.out.rows _ (.head _)) HSl.out) (HBr.out.later (HW6.out.1.trans (Y6.out.below.mono HW6.out.2))) (by rw [HSl.out]; omega) (by rw [HTl.out]; omega)).mono ?_
    rintro e W' ⟨rfl, nd, rfl⟩
    show K _ _
    rw [HDD.out]
    have Y7 := Bx.mk (Y6.out.later (below_drewN (Below.refl _ _) nd))
    clear Y6
    generalize V6.drewN nd = V7 at *
    refine hK.out _ _ ⟨Y7.out.rows _ (.tail _ (.tail _ (.head _))), Y7.out.rows _ (.tail _ (.head _))⟩ (fun hHeld => ?_)
    clear hK K
    try simp only [Act.put, List.setIfInBounds_toArray, List.set_cons_zero, List.set_cons_succ]
    refine takeL 37 (v := ?_) rfl (by kernel_rfl) (by kernel_rfl) (by kernel_rfl) (fun _ _ _ h => h) (Or.inl ⟨by rfl, ?_⟩) hHeld ?_
    rotate_left 1
    · (intro w hSw; go_simp; try with_reducible rfl)
    try simp only [Act.put, List.setIfInBounds_toArray, List.set_cons_zero, List.set_cons_succ]
    refine takeL 38 (v := ?_) rfl (by kernel_rfl) (by kernel_rfl) (by kernel_rfl) (fun _ _ _ h => h) (Or.inl ⟨by rfl, ?_⟩) hHeld ?_
    rotate_left 1
    · (intro w hSw; go_simp; try with_reducible rfl)
    try simp only [Act.put, List.setIfInBounds_toArray, List.set_cons_zero, List.set_cons_succ]
    refine takeL 39 (v := ?_) rfl (by kernel_rfl) (by kernel_rfl) (by kernel_rfl) (fun _ _ _ h => h) (Or.inl ⟨by rfl, ?_⟩) hHeld ?_
    rotate_left 1
    · (intro w hSw; go_simp; try with_reducible rfl)
    try simp only [Act.put, List.setIfInBounds_toArray, List.set_cons_zero, List.set_cons_succ]
    refine wpAnyH_done (by kernel_rfl) ?_ _
    refine NoPanic.normal ?_
    clear hHeld
    try go_wp2
    go_ret
    exact ⟨rfl, by rw [← HB.out]; exact HW6.out.1.trans (Y7.out.below.mono HW6.out.2)⟩
/-- Whatever the bytes are. -/
theorem reads6_any (m0 b0 : List UInt8) (vm vb : Value) (w : World) (hm : Bytes w vm m0) (hb : Bytes w vb b0) (hml : m0.length ≤ 9223372036854775807) (hbl : b0.length ≤ 9223372036854775807) (hTab : Tab w) (hg : 0 < w.heap.size) :
    Calls Tryd.prog 4 #[vm, vb] w fun e w' => e = .returned (.bool true) ∧ Below w.heap.size w w' := by
  by_cases h1 : (b0.take 50).length < 41
  · exact reads_short m0 b0 vm vb w hm hb hml hbl h1 hTab hg
  · have hl : ((b0.take 50).take 9).length = 9 := by rw [List.length_take]; omega
    have hd : dE ((b0.take 50).take 9) = 0 ∨ dE ((b0.take 50).take 9) = 3 := by
      unfold dE
      rw [if_neg (by omega)]
      split
      · exact .inl rfl
      · exact .inr rfl
    by_cases h2 : 41 < (b0.take 50).length
    · exact reads_form m0 b0 vm vb w hm hb hml hbl (by omega) (.inl h2) hTab hg
    · rcases hd with hd | hd
      · exact reads_ok m0 b0 vm vb w hm hb hml hbl (by omega) hd hTab hg
      · exact reads_form m0 b0 vm vb w hm hb hml hbl (by omega) (.inr hd) hTab hg
end Go.Proofs.YtiengbmnfbbgoaaDoor
