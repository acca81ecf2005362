/-
  The walk of the stream of the document.
-/
import Derived.Test.YtcaehkglfliihaaDoorTa
namespace Go.Proofs.YtcaehkglfliihaaDoor
open Go Go.RowKit
theorem row_rng {W : World} {T : Nat} {tbl : List Value} {t : TypeId} (h : W.heap[T]? = some (.cells tbl.toArray t (0, 0))) : W.rangeAt T 0 tbl := fun j v hv => by
  rw [cell_of_row _ _ _ _ _ _ h, Nat.zero_add, ← Array.getElem?_toList]
  exact hv
/-- What is handed back. -/
def RStrmQ (hk nonce : List UInt8) (n : Nat) (w : World) (e : Ending) (w' : World) : Prop := ∃ v', e = .returned v' ∧ Bytes w' v' (strm hk nonce n) ∧ Below w.heap.size w w'
set_option maxRecDepth 100000 in
set_option maxHeartbeats 2000000 in
theorem rstrm_any (tbl : List Value) (htb : u32s (kTab ++ hTab) = tbl.toArray) (key nonce : List UInt8) (n : Nat) (vk vn : Value) (w : World) (hk0 : Bytes w vk key) (hn : Bytes w vn nonce) (hkl : key.length ≤ 1000) (hnl : nonce.length ≤ 255) (hN : n ≤ 65536) :
    Calls Tryd.prog 27 #[.agg tbl.toArray, vk, vn, .int .i64 (n : Int)] w (RStrmQ (hideK key) nonce n w) := by
  have HV := Bx.mk (And.intro hk0 hn)
  have HL := Bx.mk (And.intro hkl hnl)
  have HTb := Bx.mk htb
  obtain ⟨ak, ck, rfl, -⟩ := hk0
  obtain ⟨an, cn, rfl, -⟩ := hn
  obtain ⟨nk, hnk⟩ : ∃ n, key.length = n := ⟨_, rfl⟩
  obtain ⟨nn, hnn⟩ : ∃ n, nonce.length = n := ⟨_, rfl⟩
  have HNn := Bx.mk hnn
  rw [hnk, hnn] at HV ⊢
  rw [hnn] at hnl
  have hnn1 : (nn : Int) ≤ 255 := by omega
  have hn1 : (n : Int) ≤ 65536 := by omega
  have HT30 : Bx ((Tryd.prog.info? 30).map (·.size) = some tbl.toArray.size) := Bx.mk (tbl_size2 htb)
  obtain ⟨ln, hln⟩ : ∃ l, UInt8.ofNat nn = l := ⟨_, rfl⟩
  have hwr : IntKind.u8.wrap (nn : Int) = ub ln := by rw [IntWalk.u8_in _ (by omega), ← hln]; unfold ub; rw [UInt8.toNat_ofNat']; omega
  have hwr2 : (nn : Int) % 256 = ub ln := by rw [← hwr, IntWalk.u8_in _ (by omega)]; omega
  have HLn := Bx.mk hln
  clear hnk hnn hkl hln
  obtain ⟨z32, hz32⟩ : ∃ z, u8s (List.replicate 32 0) = z := ⟨_, rfl⟩
  have hz32v : ∀ W : World, (zeroValue 34).run Tryd.prog W = .ok (.agg z32) W := fun W => by rw [← hz32, zero32]; kernel_rfl
  have HZ0 : Bx (∀ bl : List UInt8, bl.length = 32 → (u8s bl).size = z32.size ∧ (Tryd.prog.info? 34).map (·.size) = some (u8s bl).size) := Bx.mk (fun bl hl => ⟨by rw [← hz32, u8s_size, u8s_size, hl]; rfl, by rw [u8s_size, hl]; kernel_rfl⟩)
  clear hz32
  have H0 : Bx (Below w.heap.size w (w.alloc (.cells tbl.toArray 30)) ∧ (w.alloc (.cells tbl.toArray 30)).heap[w.heap.size]? = some (.cells tbl.toArray 30 (0, 0)) ∧ w.heap.size < (w.alloc (.cells tbl.toArray 30)).heap.size) := Bx.mk ⟨below_a _, hnew _ _ _ rfl, by simp⟩
  have hu30 := Tryd.underlying30
  have hi30 : (Tryd.prog.info? 30).map (·.size) = some tbl.length := tbl_size3 htb
  clear htb
  go_enter Tryd.func27, Tryd.ntmps27
  go_upto_region 1 with (fail)
  generalize w.alloc (.cells tbl.toArray 30) = w1 at *
  go_wp2_with (refine wpList_load_row rfl 30 _ rfl w.heap.size (by rfl) _ _ _ _ H0.out.2.1 Tryd.underlying30 rfl HT30.out ?_)
  refine (rderive_any tbl HTb.out key hideL [] _ _ w1 (HV.out.1.later H0.out.1) ⟨[], .inl ⟨rfl, rfl⟩, rfl, fun j hj => absurd hj (by simp)⟩ (by have := HL.out; omega) (by decide) (by simp) (by simp)).mono ?_
  rintro e w2 ⟨rfl, hb2⟩
  have H2 := Bx.mk hb2
  clear hb2
  have HHl : Bx ((hideK key).length = 32) := Bx.mk (hmac_length _ _)
  have HHe : Bx (hmac key (frame [hideL]) = hideK key) := Bx.mk rfl
  rw [HHe.out]
  generalize hideK key = hk at *
  have HZk := Bx.mk (HZ0.out hk HHl.out)
  go_upto_region 2 with (refine wpList_store_var rfl 34 _ _ rfl w2 _ _ rfl (by rfl) (u8s hk) (by rfl) HZk.out.1 HZk.out.2 (one_u8s _) ?_; intro w3 hb3 hr3 hl3)
  have HW3 : Bx (w3.heap[w.heap.size]? = some (.cells tbl.toArray 30 (0, 0)) ∧ Bytes w3 (.slice (some ⟨w2.heap.size, 0, none⟩) 32 32) hk ∧ Bytes w3 (.slice an nn cn) nonce ∧ Below w.heap.size w w3 ∧ hk.length = 32) := Bx.mk (by
    have hb4 : Below w1.heap.size w1 w3 := H2.out.trans (hb3.mono H2.out.size)
    exact ⟨by rw [hb4.block _ H0.out.2.2]; exact H0.out.2.1, row_bytes hr3 HHl.out, (HV.out.2.later H0.out.1).later hb4, H0.out.1.trans (hb4.mono H0.out.1.size), HHl.out⟩)
  clear hb3 hr3 hl3 H2 H0 HZk HHe
  generalize w2.heap.size = D at *
  go_wp2
  go_loopw [10, 11] (fun vo i wr => ∃ k m cap : Nat, ∃ ao : Option Addr, i = .int .i64 (k : Int) ∧ vo = .slice ao m cap ∧ m = 32 * k ∧ m < n + 32 ∧ Bx (OwnB wr w3.heap.size (.slice ao m cap) (strm hk nonce (32 * k)) ∧ Below w3.heap.size w3 wr)) (fun _ i _ => n + 32 - (intOf i).toNat)
  case atStart => exact ⟨0, 0, 0, none, rfl, rfl, rfl, by omega, ⟨OwnB.nil _ _, Below.refl _ _⟩⟩
  case round =>
    obtain ⟨k, m, cap, ao, rfl, rfl, hm, hmn, HR⟩ := hrel
    have HM := Bx.mk hm
    by_cases hlt : m < n
    · have t1 : (m : Int) < (n : Int) := by omega
      have hk1 : (k : Int) ≤ 65536 := by omega
      have hk0 : (0 : Int) ≤ (k : Int) := by omega
      have q3 := (len_byte k 3).resolve_right (by omega)
      have q2 := (len_byte k 2).resolve_right (by omega)
      have q1 := (len_byte k 1).resolve_right (by omega)
      have q0 := (len_byte k 0).resolve_right (by omega)
      simp only [Nat.mul_zero, Int.pow_zero, Nat.reduceMul, Int.reducePow, Int.ediv_one] at q0 q1 q2 q3
      have r3 : IntKind.u8.wrap ((k : Int) / 16777216) = ub (byteOf (BitVec.ofNat 32 k) 3) := by rw [← q3]; rw [IntWalk.u8_in _ (by omega)]; omega
      have r2 : IntKind.u8.wrap ((k : Int) / 65536 % 256) = ub (byteOf (BitVec.ofNat 32 k) 2) := by rw [← q2]; rw [IntWalk.u8_in _ (by omega)]
      have r1 : IntKind.u8.wrap ((k : Int) / 256 % 256) = ub (byteOf (BitVec.ofNat 32 k) 1) := by rw [← q1]; rw [IntWalk.u8_in _ (by omega)]
      have r0 : IntKind.u8.wrap ((k : Int) % 256) = ub (byteOf (BitVec.ofNat 32 k) 0) := by rw [← q0]; rw [IntWalk.u8_in _ (by omega)]
      have HBL : Bx ((blkOf hk nonce k).length = 32) := Bx.mk (blkOf_length _ _ _)
      have HBe : Bx (hmac hk (blkM nonce k) = blkOf hk nonce k) := Bx.mk rfl
      have HBm : Bx ((blkM nonce k).length = nn + 5) := Bx.mk (by unfold blkM; rw [List.length_append, List.length_append, HNn.out, show (lenB k).length = 4 from rfl]; simp; omega)
      have HBf : Bx (([ln] ++ nonce) ++ lenB k = blkM nonce k) := Bx.mk (by unfold blkM; rw [HNn.out, HLn.out, List.append_assoc])
      have HSt : Bx (strm hk nonce (32 * (k + 1)) = strm hk nonce (32 * k) ++ blkOf hk nonce k ∧ (strm hk nonce (32 * k)).length = m) := Bx.mk ⟨strm_blocks _ _ _, by rw [strm_length]; exact HM.out.symm⟩
      generalize blkOf hk nonce k = bl at *
      have HZ3 := Bx.mk (HZ0.out bl HBL.out)
      clear hm
      obtain ⟨wq, rfl⟩ : ∃ wq : World, wq = wr := ⟨_, rfl⟩
      have H5 : Bx (OwnB (wq.alloc (.cells #[.int .u8 (ub ln)] 5)) wq.heap.size (.slice (some ⟨wq.heap.size, 0, none⟩) 1 1) [ln] ∧ Below w3.heap.size w3 (wq.alloc (.cells #[.int .u8 (ub ln)] 5))) := Bx.mk ⟨row_own (l := [ln]) (by rw [hnew _ _ _ rfl]; rfl) rfl (Nat.le_refl _) (by omega), HR.out.2.alloc HR.out.2.size _⟩
      go_upto_region 8 with (first | (refine wpList_ap rfl _ _ rfl wq.heap.size _ [ln] (by rfl) H5.out.1 _ nonce (by rfl) (HW3.out.2.2.1.later H5.out.2) (by have h1 := HNn.out; simp; omega) (by simp) ?_; intro v6 w6 ho6 hg6 _; have H6 : Bx (OwnB w6 wq.heap.size v6 ([ln] ++ nonce) ∧ Below wq.heap.size wq w6) := Bx.mk ⟨ho6, (below_a _).trans (own_below H5.out.1 hg6 (by simp))⟩; clear ho6 hg6) | (refine wpList_ap rfl _ _ rfl wq.heap.size _ ([ln] ++ nonce) (by rfl) (ownB_a H6.out.1 _) _ (lenB k) (by rfl) (built w6 (lenB k)) (by have h1 := HNn.out; rw [show (lenB k).length = 4 from rfl, List.length_append]; simp; omega) (by have := H6.out.2.size; simp; omega) ?_; intro v7 w7 ho7 hg7 _; have H7 : Bx (OwnB w7 wq.heap.size v7 (blkM nonce k) ∧ Below wq.heap.size wq w7) := Bx.mk ⟨by rw [← HBf.out]; exact ho7, (H6.out.2.alloc H6.out.2.size _).trans (own_below (ownB_a H6.out.1 _) hg7 (by have := H6.out.2.size; simp; omega))⟩; clear ho7 hg7))
      have B0 : Bx (Below w3.heap.size w3 w7.drew) := Bx.mk (HR.out.2.trans (H7.out.2.drew.mono HR.out.2.size))
      have V0 : Bx (Bytes w7.drew v7 (blkM nonce k)) := Bx.mk (H7.out.1.bytes.later (Below.refl _ _).drew)
      have O0 : Bx (OwnB w7.drew w3.heap.size (.slice ao m cap) (strm hk nonce (32 * k))) := Bx.mk (HR.out.1.later H7.out.2.drew (fun g hg => (HR.out.1.lt g hg).1))
      obtain ⟨a7, c7, hv7, -⟩ := V0.out
      rw [HBm.out] at hv7
      subst hv7
      clear H5 H6 H7 HR
      have bb : Bx (Below w7.drew.heap.size w7.drew w7.drew) := Bx.mk (Below.refl _ _)
      have HSS : Bx (∀ W, Below w7.drew.heap.size w7.drew W → W.rangeAt w.heap.size 0 tbl ∧ Bx (Below w3.heap.size w3 W)) := Bx.mk (fun W hb => by
        have h := B0.out.trans (hb.mono B0.out.size)
        exact ⟨row_rng (by rw [h.block _ (Array.getElem?_eq_some_iff.1 HW3.out.1).1]; exact HW3.out.1), ⟨h⟩⟩)
      try simp only [Act.put, List.setIfInBounds_toArray, List.set_cons_zero, List.set_cons_succ]
      refine wp_region_noPanic ?_
      refine wp_region_held_drew (S := fun W => W.rangeAt w.heap.size 0 tbl ∧ Bx (Below w3.heap.size w3 W)) (by kernel_rfl) (HSS.out _ bb.out) (fun hHeld => ?_)
      generalize w7.drew = W0 at *
      refine takeL 0 rfl (by kernel_rfl) (by kernel_rfl) (by kernel_rfl) (fun _ _ _ h => h) (yieldsIf_load_mid (by rfl) _ _ rfl _ _ rfl _ _ (fun w hSw => hSw.1) hu30 rfl hi30) hHeld ?_
      try simp only [Act.put, List.setIfInBounds_toArray, List.set_cons_zero, List.set_cons_succ]
      refine takeL 1 (v := ?_) rfl (by kernel_rfl) (by kernel_rfl) (by kernel_rfl) (fun _ _ _ h => h) (Or.inl ⟨by rfl, ?_⟩) hHeld ?_
      rotate_left 1
      · (intro w hSw; go_simp; try with_reducible rfl)
      try simp only [Act.put, List.setIfInBounds_toArray, List.set_cons_zero, List.set_cons_succ]
      refine takeL 2 (v := ?_) rfl (by kernel_rfl) (by kernel_rfl) (by kernel_rfl) (fun _ _ _ h => h) (Or.inl ⟨by rfl, ?_⟩) hHeld ?_
      rotate_left 1
      · (intro w hSw; go_simp; try with_reducible rfl)
      try simp only [Act.put, List.setIfInBounds_toArray, List.set_cons_zero, List.set_cons_succ]
      refine wpAnyH_ready (rs := [3, 4]) (by kernel_rfl) (by simp) ?_
      refine consM 3 rfl (fun K hK => ?_) (consM 4 rfl (fun K hK => ?_) AllReadyH.nil)
      · go_simp
        refine (rtag_any tbl HTb.out hk (blkM nonce k) _ _ _ (((HW3.out.2.1.later B0.out)).later bb.out) (V0.out.later bb.out) (by rw [HW3.out.2.2.2.2]; omega) (by rw [HBm.out]; have := HL.out; omega)).mono ?_
        rintro e W1 ⟨rfl, hb⟩
        show K _ _
        rw [HBe.out]
        have bb := Bx.mk (bb.out.trans (hb.mono bb.out.size))
        clear hb
        refine hK.out _ _ (HSS.out _ bb.out) (fun hHeld => ?_)
        clear hK K
        try simp only [Act.put, List.setIfInBounds_toArray, List.set_cons_zero, List.set_cons_succ]
        refine stepL 4 (by kernel_rfl) rfl (fun K hK => ?_)
        go_simp
        have R : Bx ((W1.alloc (.cells z32 34)).heap[W1.heap.size]? = some (.cells z32 34 (0, 0)) ∧ W0.heap.size ≤ W1.heap.size) := Bx.mk ⟨hnew _ _ _ rfl, bb.out.size⟩
        have bb := Bx.mk (bb.out.alloc bb.out.size (.cells z32 34))
        refine hK.out _ _ (HSS.out _ bb.out) (fun hHeld => ?_)
        clear hK K
        try simp only [Act.put, List.setIfInBounds_toArray, List.set_cons_zero, List.set_cons_succ]
        generalize W1.alloc (.cells z32 34) = W2 at *
        generalize W1.heap.size = DN at *
        refine stepL 5 (by kernel_rfl) rfl (fun K hK => ?_)
        refine step_st rfl 34 _ _ rfl DN (u8s bl) (by rfl) (by rfl) (there_row R.out.1 0 _ (by rw [HZ3.out.1]; simp)) HZ3.out.2 (one_u8s _) ?_
        have HF : Bx (Below W0.heap.size W0 (W2.setCells DN 0 (u8s bl).toList) ∧ (W2.setCells DN 0 (u8s bl).toList).heap[DN]? = some (.cells (u8s bl) 34 (0, 0))) := Bx.mk ⟨below_setCells R.out.2 _ _ _ _ bb.out, heap_setCells_all R.out.1 HZ3.out.1⟩
        generalize W2.setCells DN 0 (u8s bl).toList = WF at *
        refine hK.out _ _ (HSS.out _ HF.out.1) (fun hHeld => ?_)
        clear hK K bb R
        try simp only [Act.put, List.setIfInBounds_toArray, List.set_cons_zero, List.set_cons_succ]
        refine wpAnyH_done (by kernel_rfl) ?_ _
        refine NoPanic.normal ?_
        clear hHeld HSS
        have H8 : Bx (Below w3.heap.size w3 WF ∧ OwnB WF w3.heap.size (.slice ao m cap) (strm hk nonce (32 * k)) ∧ Bytes WF (.slice (some ⟨DN, 0, none⟩) 32 32) bl) := Bx.mk ⟨B0.out.trans (HF.out.1.mono B0.out.size), O0.out.later HF.out.1 (fun g hg => (O0.out.lt g hg).1), row_bytes HF.out.2 HBL.out⟩
        clear HF B0 O0 V0
        go_wp2_with (refine wpList_ap rfl _ _ rfl w3.heap.size _ (strm hk nonce (32 * k)) (by rfl) H8.out.2.1 _ bl (by rfl) H8.out.2.2 (by have h1 := HSt.out.2; have h2 := HBL.out; omega) H8.out.1.size ?_; intro v9 w9 ho9 hg9 _; have H9 : Bx (OwnB w9 w3.heap.size v9 (strm hk nonce (32 * (k + 1))) ∧ Below w3.heap.size w3 w9) := Bx.mk ⟨by rw [HSt.out.1]; exact ho9, H8.out.1.trans (own_below H8.out.2.1 hg9 H8.out.1.size)⟩; clear ho9 hg9)
        obtain ⟨a9, c9, hv9, -⟩ := H9.out.1.bytes
        rw [strm_length] at hv9
        subst hv9
        go_roundw
        case rel => exact ⟨k + 1, _, _, _, by go_num, rfl, rfl, by have := HM.out; omega, H9⟩
        case measure => have := HM.out; simp [intOf]; omega
      · go_simp
        have R : Bx ((W0.alloc (.cells z32 34)).heap[W0.heap.size]? = some (.cells z32 34 (0, 0)) ∧ W0.heap.size ≤ W0.heap.size) := Bx.mk ⟨hnew _ _ _ rfl, bb.out.size⟩
        have bb := Bx.mk (bb.out.alloc bb.out.size (.cells z32 34))
        refine hK.out _ _ (HSS.out _ bb.out) (fun hHeld => ?_)
        clear hK K
        try simp only [Act.put, List.setIfInBounds_toArray, List.set_cons_zero, List.set_cons_succ]
        generalize W0.alloc (.cells z32 34) = W1 at *
        obtain ⟨DN, hDN⟩ : ∃ d, d = W0.heap.size := ⟨_, rfl⟩
        have R : Bx (W1.heap[DN]? = some (.cells z32 34 (0, 0)) ∧ W0.heap.size ≤ DN) := Bx.mk (by rw [hDN]; exact R.out)
        rw [← hDN]
        clear hDN
        refine stepL 3 (by kernel_rfl) rfl (fun K hK => ?_)
        go_simp
        refine (rtag_any tbl HTb.out hk (blkM nonce k) _ _ _ (((HW3.out.2.1.later B0.out)).later bb.out) (V0.out.later bb.out) (by rw [HW3.out.2.2.2.2]; omega) (by rw [HBm.out]; have := HL.out; omega)).mono ?_
        rintro e W2 ⟨rfl, hb⟩
        show K _ _
        rw [HBe.out]
        have R := Bx.mk (And.intro (show W2.heap[DN]? = some (.cells z32 34 (0, 0)) by rw [hb.block _ (Array.getElem?_eq_some_iff.1 R.out.1).1]; exact R.out.1) R.out.2)
        have bb := Bx.mk (bb.out.trans (hb.mono bb.out.size))
        clear hb
        refine hK.out _ _ (HSS.out _ bb.out) (fun hHeld => ?_)
        clear hK K
        try simp only [Act.put, List.setIfInBounds_toArray, List.set_cons_zero, List.set_cons_succ]
        refine stepL 5 (by kernel_rfl) rfl (fun K hK => ?_)
        refine step_st rfl 34 _ _ rfl DN (u8s bl) (by rfl) (by rfl) (there_row R.out.1 0 _ (by rw [HZ3.out.1]; simp)) HZ3.out.2 (one_u8s _) ?_
        have HF : Bx (Below W0.heap.size W0 (W2.setCells DN 0 (u8s bl).toList) ∧ (W2.setCells DN 0 (u8s bl).toList).heap[DN]? = some (.cells (u8s bl) 34 (0, 0))) := Bx.mk ⟨below_setCells R.out.2 _ _ _ _ bb.out, heap_setCells_all R.out.1 HZ3.out.1⟩
        generalize W2.setCells DN 0 (u8s bl).toList = WF at *
        refine hK.out _ _ (HSS.out _ HF.out.1) (fun hHeld => ?_)
        clear hK K bb R
        try simp only [Act.put, List.setIfInBounds_toArray, List.set_cons_zero, List.set_cons_succ]
        refine wpAnyH_done (by kernel_rfl) ?_ _
        refine NoPanic.normal ?_
        clear hHeld HSS
        have H8 : Bx (Below w3.heap.size w3 WF ∧ OwnB WF w3.heap.size (.slice ao m cap) (strm hk nonce (32 * k)) ∧ Bytes WF (.slice (some ⟨DN, 0, none⟩) 32 32) bl) := Bx.mk ⟨B0.out.trans (HF.out.1.mono B0.out.size), O0.out.later HF.out.1 (fun g hg => (O0.out.lt g hg).1), row_bytes HF.out.2 HBL.out⟩
        clear HF B0 O0 V0
        go_wp2_with (refine wpList_ap rfl _ _ rfl w3.heap.size _ (strm hk nonce (32 * k)) (by rfl) H8.out.2.1 _ bl (by rfl) H8.out.2.2 (by have h1 := HSt.out.2; have h2 := HBL.out; omega) H8.out.1.size ?_; intro v9 w9 ho9 hg9 _; have H9 : Bx (OwnB w9 w3.heap.size v9 (strm hk nonce (32 * (k + 1))) ∧ Below w3.heap.size w3 w9) := Bx.mk ⟨by rw [HSt.out.1]; exact ho9, H8.out.1.trans (own_below H8.out.2.1 hg9 H8.out.1.size)⟩; clear ho9 hg9)
        obtain ⟨a9, c9, hv9, -⟩ := H9.out.1.bytes
        rw [strm_length] at hv9
        subst hv9
        go_roundw
        case rel => exact ⟨k + 1, _, _, _, by go_num, rfl, rfl, by have := HM.out; omega, H9⟩
        case measure => have := HM.out; simp [intOf]; omega
    · have t1 : ¬ (m : Int) < (n : Int) := by omega
      have hcap : m ≤ cap ∧ (ao = none → cap = 0) := by obtain ⟨_, _, hv, hc, hz, _⟩ := HR.out.1.bytes; injection hv with e1 e2 e3; rw [strm_length] at hc; subst e1; subst e3; exact ⟨by omega, hz⟩
      have s1 := fun W => cut_bytes ao m cap n (by omega) (by omega) hcap.2 W
      have HE : Bx (Bytes wr (.slice ao n cap) (strm hk nonce n) ∧ Below w.heap.size w wr) := Bx.mk ⟨by
        have h := HR.out.1.bytes.take n (by omega)
        rw [strm_take _ _ _ _ (by omega)] at h
        exact h, HW3.out.2.2.2.1.trans (HR.out.2.mono HW3.out.2.2.2.1.size)⟩
      have hc1 : (n : Int) ≤ (cap : Int) := by omega
      clear HR hm hcap
      go_wp2
      go_ret
      exact ⟨_, rfl, HE.out⟩
end Go.Proofs.YtcaehkglfliihaaDoor
