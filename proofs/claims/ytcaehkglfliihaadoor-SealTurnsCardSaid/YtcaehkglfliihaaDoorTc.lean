/-
  The walks of the sealed bytes of the document, and of what it opens.
-/
import Derived.Test.YtcaehkglfliihaaDoorTb
namespace Go.Proofs.YtcaehkglfliihaaDoor
open Go Go.RowKit
set_option maxRecDepth 100000 in
set_option maxHeartbeats 2000000 in
theorem rseal_any (tbl : List Value) (htb : u32s (kTab ++ hTab) = tbl.toArray) (key nonce bound b : List UInt8) (vk vn vd vb : Value) (w : World) (hk : Bytes w vk key) (hn : Bytes w vn nonce) (hd : Bytes w vd bound) (hb : Bytes w vb b) (hkl : key.length ≤ 1000) (hnl : nonce.length ≤ 255) (hdl : bound.length ≤ 1000) (hbl : b.length ≤ 1000) :
    Calls Tryd.prog 26 #[.agg tbl.toArray, vk, vn, vd, vb] w fun e w' => ∃ v', e = .returned v' ∧ OwnB w' w.heap.size v' (sealB key nonce bound b) ∧ Below w.heap.size w w' := by
  have HV := Bx.mk (And.intro hk (And.intro hn (And.intro hd hb)))
  have HTb := Bx.mk htb
  have HL := Bx.mk (And.intro hkl (And.intro hnl (And.intro hdl hbl)))
  obtain ⟨ak, ck, rfl, -⟩ := hk
  obtain ⟨an, cn, rfl, -⟩ := hn
  obtain ⟨ad, cd, rfl, -⟩ := hd
  obtain ⟨ab, cb, rfl, -⟩ := hb
  obtain ⟨nk, hnk⟩ : ∃ n, key.length = n := ⟨_, rfl⟩
  obtain ⟨nn, hnn⟩ : ∃ n, nonce.length = n := ⟨_, rfl⟩
  obtain ⟨nd, hnd⟩ : ∃ n, bound.length = n := ⟨_, rfl⟩
  obtain ⟨L, hL⟩ : ∃ n, b.length = n := ⟨_, rfl⟩
  have HLb := Bx.mk hL
  rw [hnk, hnn, hnd, hL] at HV ⊢
  rw [hL] at hbl
  have hL1 : (L : Int) ≤ 1000 := by omega
  clear hnk hnn hnd hL hkl hnl hdl
  have HT30 : Bx ((Tryd.prog.info? 30).map (·.size) = some tbl.toArray.size) := Bx.mk (tbl_size2 htb)
  obtain ⟨z32, hz32⟩ : ∃ z, u8s (List.replicate 32 0) = z := ⟨_, rfl⟩
  have hz32v : ∀ W : World, (zeroValue 34).run Tryd.prog W = .ok (.agg z32) W := fun W => by rw [← hz32, zero32]; kernel_rfl
  have HZ0 : Bx (∀ bl : List UInt8, bl.length = 32 → (u8s bl).size = z32.size ∧ (Tryd.prog.info? 34).map (·.size) = some (u8s bl).size) := Bx.mk (fun bl hl => ⟨by rw [← hz32, u8s_size, u8s_size, hl]; rfl, by rw [u8s_size, hl]; kernel_rfl⟩)
  clear hz32
  have H0 : Bx (Below w.heap.size w (w.alloc (.cells tbl.toArray 30)) ∧ (w.alloc (.cells tbl.toArray 30)).heap[w.heap.size]? = some (.cells tbl.toArray 30 (0, 0)) ∧ w.heap.size < (w.alloc (.cells tbl.toArray 30)).heap.size) := Bx.mk ⟨below_a _, hnew _ _ _ rfl, by simp⟩
  have hu30 := Tryd.underlying30
  have hi30 : (Tryd.prog.info? 30).map (·.size) = some tbl.length := tbl_size3 htb
  clear htb
  go_enter Tryd.func26, Tryd.ntmps26
  go_upto_region 1 with (fail)
  generalize w.alloc (.cells tbl.toArray 30) = w1 at *
  go_wp2_with (refine wpList_load_row rfl 30 _ rfl w.heap.size (by rfl) _ _ _ _ H0.out.2.1 Tryd.underlying30 rfl HT30.out ?_)
  refine (rstrm_any tbl HTb.out key nonce L _ _ w1 (HV.out.1.later H0.out.1) (HV.out.2.1.later H0.out.1) HL.out.1 HL.out.2.1 (by omega)).mono ?_
  rintro e w2 ⟨vs, rfl, hs2, hb2⟩
  have H2 := Bx.mk (And.intro hs2 hb2)
  obtain ⟨as2, cs2, hvs, -⟩ := hs2
  rw [strm_length] at hvs
  subst hvs
  clear hb2
  go_wp2_with fail
  refine (rturn_any b (strm (hideK key) nonce L) _ _ w2 ((HV.out.2.2.2.later H0.out.1).later H2.out.2) H2.out.1 (by rw [strm_length, HLb.out]; omega) (by rw [strm_length]; omega)).mono ?_
  rintro e w3 ⟨vt, rfl, ho3, hb3⟩
  have HBe : Bx (xorL b (strm (hideK key) nonce L) = trnd (hideK key) nonce b) := Bx.mk (by rw [← HLb.out]; exact trnd_xor _ _ _)
  rw [HBe.out] at ho3
  have HBl : Bx ((trnd (hideK key) nonce b).length = L) := Bx.mk (by rw [trnd_length]; exact HLb.out)
  have HSe0 : Bx (sealB key nonce bound b = trnd (hideK key) nonce b ++ tagB (bindK key) nonce bound (trnd (hideK key) nonce b)) := Bx.mk rfl
  generalize trnd (hideK key) nonce b = body at *
  have H3 : Bx (Bytes w3 vt body ∧ Below w1.heap.size w1 w3) := Bx.mk ⟨ho3.bytes, H2.out.2.trans (hb3.mono H2.out.2.size)⟩
  obtain ⟨at_, ct, hvt, -⟩ := ho3.bytes
  rw [HBl.out] at hvt
  subst hvt
  clear ho3 hb3 H2 HBe
  have HR3 : Bx (w3.heap[w.heap.size]? = some (.cells tbl.toArray 30 (0, 0))) := Bx.mk (by rw [H3.out.2.block _ H0.out.2.2]; exact H0.out.2.1)
  go_wp2_with (refine wpList_load_row rfl 30 _ rfl w.heap.size (by rfl) _ _ _ _ HR3.out Tryd.underlying30 rfl HT30.out ?_)
  refine (rtagB_any tbl HTb.out key nonce bound body _ _ _ _ w3 ((HV.out.1.later H0.out.1).later H3.out.2) ((HV.out.2.1.later H0.out.1).later H3.out.2) ((HV.out.2.2.1.later H0.out.1).later H3.out.2) H3.out.1 HL.out.1 (by have := HL.out; omega) HL.out.2.2.1 (by have h1 := HBl.out; omega)).mono ?_
  rintro e w4 ⟨rfl, hb4⟩
  have HTl : Bx ((tagB (bindK key) nonce bound body).length = 32) := Bx.mk (tagB_length _ _ _ _)
  generalize tagB (bindK key) nonce bound body = tg at *
  have HSe : Bx (sealB key nonce bound b = body ++ tg) := HSe0
  have H4 : Bx (Below w.heap.size w w4 ∧ Bytes w4 (.slice at_ L ct) body) := Bx.mk ⟨H0.out.1.trans ((H3.out.2.trans (hb4.mono H3.out.2.size)).mono H0.out.1.size), H3.out.1.later hb4⟩
  clear hb4 H3 HR3 HSe0 H0
  have HZ3 := Bx.mk (HZ0.out tg HTl.out)
  go_upto_region 3 with (refine wpList_store_var rfl 34 _ _ rfl w4 _ _ rfl (by rfl) (u8s tg) (by rfl) HZ3.out.1 HZ3.out.2 (one_u8s _) ?_; intro w5 hb5 hr5 hl5)
  have B0 : Bx (Below w.heap.size w w5.drew ∧ Bytes w5.drew (.slice at_ L ct) body ∧ Bytes w5.drew (.slice (some ⟨w4.heap.size, 0, none⟩) 32 32) tg) := Bx.mk ⟨(H4.out.1.trans (hb5.mono H4.out.1.size)).drew, (H4.out.2.later hb5).later (Below.refl _ _).drew, (row_bytes hr5 HTl.out).later (Below.refl _ _).drew⟩
  clear hb5 hr5 hl5 H4 HZ3 hz32v HZ0
  generalize w4.heap.size = D at *
  have HSS : Bx (∀ W, Below w5.drew.heap.size w5.drew W → Bx (Below w.heap.size w W)) := Bx.mk (fun W hb => ⟨B0.out.1.trans (hb.mono B0.out.1.size)⟩)
  simp only [Act.put]
  refine wp_region_noPanic ?_
  refine wp_region_held_drew (S := fun W => Bx (Below w.heap.size w W)) (by kernel_rfl) (HSS.out _ (Below.refl _ _)) (fun hHeld => ?_)
  generalize w5.drew = W0 at *
  refine takeL 1 (v := ?_) rfl (by kernel_rfl) (by kernel_rfl) (by kernel_rfl) (fun _ _ _ h => h) (Or.inl ⟨by rfl, ?_⟩) hHeld ?_
  rotate_left 1
  · (intro w hSw; go_simp; try with_reducible rfl)
  try simp only [Act.put, List.setIfInBounds_toArray, List.set_cons_zero, List.set_cons_succ]
  refine takeL 3 (v := ?_) rfl (by kernel_rfl) (by kernel_rfl) (by kernel_rfl) (fun _ _ _ h => h) (Or.inl ⟨by rfl, ?_⟩) hHeld ?_
  rotate_left 1
  · (intro w hSw; go_simp; try with_reducible rfl)
  try simp only [Act.put, List.setIfInBounds_toArray, List.set_cons_zero, List.set_cons_succ]
  refine stepL 0 (by kernel_rfl) rfl (fun K hK => ?_)
  go_simp
  have B1 : Bx (OwnB (W0.alloc (.cells #[] 5)) W0.heap.size (.slice (some ⟨W0.heap.size, 0, none⟩) 0 0) [] ∧ Below W0.heap.size W0 (W0.alloc (.cells #[] 5))) := Bx.mk ⟨own_empty _ _ (Nat.le_refl _), below_a _⟩
  refine hK.out _ _ (HSS.out _ B1.out.2) (fun hHeld => ?_)
  clear hK K
  try simp only [Act.put, List.setIfInBounds_toArray, List.set_cons_zero, List.set_cons_succ]
  generalize W0.alloc (.cells #[] 5) = W1 at *
  obtain ⟨D0, hD0⟩ : ∃ d, d = W0.heap.size := ⟨_, rfl⟩
  have B1 : Bx (OwnB W1 W0.heap.size (.slice (some ⟨D0, 0, none⟩) 0 0) [] ∧ Below W0.heap.size W0 W1) := Bx.mk (by rw [hD0]; exact B1.out)
  rw [← hD0]
  clear hD0
  refine stepL 2 (by kernel_rfl) rfl (fun K hK => ?_)
  refine step_ap rfl _ _ rfl W0.heap.size _ [] (by rfl) B1.out.1 _ body (by rfl) (B0.out.2.1.later B1.out.2) (by rw [HBl.out]; simp; omega) B1.out.2.size ?_
  intro v2 W2 ho2 hg2 _
  have B2 : Bx (OwnB W2 W0.heap.size v2 body ∧ Below W0.heap.size W0 W2) := Bx.mk ⟨ho2, B1.out.2.trans (own_below B1.out.1 hg2 B1.out.2.size)⟩
  clear ho2 hg2 B1
  refine hK.out _ _ (HSS.out _ B2.out.2) (fun hHeld => ?_)
  clear hK K
  try simp only [Act.put, List.setIfInBounds_toArray, List.set_cons_zero, List.set_cons_succ]
  refine stepL 4 (by kernel_rfl) rfl (fun K hK => ?_)
  refine step_ap rfl _ _ rfl W0.heap.size _ body (by rfl) B2.out.1 _ tg (by rfl) (B0.out.2.2.later B2.out.2) (by rw [HBl.out, HTl.out]; omega) B2.out.2.size ?_
  intro v3 W3 ho3 hg3 _
  have B3 : Bx (OwnB W3 W0.heap.size v3 (body ++ tg) ∧ Below W0.heap.size W0 W3) := Bx.mk ⟨ho3, B2.out.2.trans (own_below B2.out.1 hg3 B2.out.2.size)⟩
  clear ho3 hg3 B2
  refine hK.out _ _ (HSS.out _ B3.out.2) (fun hHeld => ?_)
  clear hK K
  try simp only [Act.put, List.setIfInBounds_toArray, List.set_cons_zero, List.set_cons_succ]
  refine takeL 5 (v := ?_) rfl (by kernel_rfl) (by kernel_rfl) (by kernel_rfl) (fun _ _ _ h => h) (Or.inl ⟨by rfl, ?_⟩) hHeld ?_
  rotate_left 1
  · (intro w hSw; go_simp; try with_reducible rfl)
  try simp only [Act.put, List.setIfInBounds_toArray, List.set_cons_zero, List.set_cons_succ]
  refine wpAnyH_done (by kernel_rfl) ?_ _
  refine NoPanic.normal ?_
  clear hHeld HSS
  go_wp2
  go_ret
  exact ⟨_, rfl, by rw [HSe.out]; exact B3.out.1.weak B0.out.1.size, B0.out.1.trans (B3.out.2.mono B0.out.1.size)⟩
set_option maxRecDepth 100000 in
set_option maxHeartbeats 4000000 in
theorem ropen_in (tbl : List Value) (htb : u32s (kTab ++ hTab) = tbl.toArray) (key nonce bound sl : List UInt8) (vk vn vd vb : Value) (w : World) (hk : Bytes w vk key) (hn : Bytes w vn nonce) (hd : Bytes w vd bound) (hb : Bytes w vb sl) (hkl : key.length ≤ 1000) (hnl : nonce.length ≤ 32) (hdl : bound.length ≤ 1000) (h32 : 32 ≤ sl.length) (hsl : sl.length ≤ 1000) :
    Calls Tryd.prog 30 #[.agg tbl.toArray, vk, vn, vd, vb] w (OpensQ key nonce bound sl w) := by
  have HV := Bx.mk (And.intro hk (And.intro hn (And.intro hd hb)))
  have HTb := Bx.mk htb
  have HL := Bx.mk (And.intro hkl (And.intro (show nonce.length ≤ 255 by omega) (And.intro hdl hsl)))
  obtain ⟨ak, ck, rfl, -⟩ := hk
  obtain ⟨an, cn, rfl, -⟩ := hn
  obtain ⟨ad, cd, rfl, -⟩ := hd
  obtain ⟨ab, cb, hvs, hcb, -, hrr⟩ := id hb
  obtain ⟨c, o, hab, -⟩ := hrr (by omega)
  subst hab
  subst hvs
  obtain ⟨nk, hnk⟩ : ∃ n, key.length = n := ⟨_, rfl⟩
  obtain ⟨nn, hnn⟩ : ∃ n, nonce.length = n := ⟨_, rfl⟩
  obtain ⟨nd, hnd⟩ : ∃ n, bound.length = n := ⟨_, rfl⟩
  obtain ⟨L, hL⟩ : ∃ n, sl.length = n := ⟨_, rfl⟩
  rw [hnk, hnn, hnd, hL] at HV ⊢
  rw [hL] at h32 hsl hcb
  rw [hnn] at hnl
  obtain ⟨m, hm⟩ : ∃ m, L - 32 = m := ⟨_, rfl⟩
  have hL1 : (L : Int) ≤ 1000 := by omega
  have hnn1 : (nn : Int) ≤ 32 := by omega
  have hLm : (L : Int) - 32 = (m : Int) := by omega
  have hm1 : (m : Int) ≤ 1000 := by omega
  have hm0 : (0 : Int) ≤ (m : Int) := by omega
  have hmL : (m : Int) ≤ (L : Int) := by omega
  have s1 := fun W => cut_bytes (some ⟨c, o, none⟩) L cb m (by omega) (by omega) (fun h => by cases h) W
  have s2 := fun W => cut_from c o L cb m (by omega) (by omega) W
  have HB0 : Bx (Bytes w (.slice (some ⟨c, o, none⟩) m cb) (sl.take m) ∧ Bytes w (.slice (some ⟨c, o + m, none⟩) (L - m) (cb - m)) (sl.drop m)) := Bx.mk ⟨HV.out.2.2.2.take m (by omega), HV.out.2.2.2.drop m (by omega)⟩
  have HB1 : Bx ((sl.take m).length = m ∧ (sl.drop m).length = 32 ∧ m ≤ 1000) := Bx.mk ⟨by rw [List.length_take]; omega, by rw [List.length_drop]; omega, by omega⟩
  have HXb : Bx (xorL (sl.take m) (strm (hideK key) nonce m) = trnd (hideK key) nonce (sl.take m)) := Bx.mk (by
    have h := trnd_xor (hideK key) nonce (sl.take m)
    rw [HB1.out.1] at h
    exact h)
  unfold OpensQ
  rw [hL, hm]
  generalize sl.take m = body at *
  generalize sl.drop m = tl at *
  clear hnk hnn hnd hL hkl hdl hrr hm hcb hb
  have HT30 : Bx ((Tryd.prog.info? 30).map (·.size) = some tbl.toArray.size) := Bx.mk (tbl_size2 htb)
  obtain ⟨z32, hz32⟩ : ∃ z, u8s (List.replicate 32 0) = z := ⟨_, rfl⟩
  have hz32v : ∀ W : World, (zeroValue 34).run Tryd.prog W = .ok (.agg z32) W := fun W => by rw [← hz32, zero32]; kernel_rfl
  have HZ0 : Bx (∀ bl : List UInt8, bl.length = 32 → (u8s bl).size = z32.size ∧ (Tryd.prog.info? 34).map (·.size) = some (u8s bl).size) := Bx.mk (fun bl hl => ⟨by rw [← hz32, u8s_size, u8s_size, hl]; rfl, by rw [u8s_size, hl]; kernel_rfl⟩)
  clear hz32
  have H0 : Bx (Below w.heap.size w (w.alloc (.cells tbl.toArray 30)) ∧ (w.alloc (.cells tbl.toArray 30)).heap[w.heap.size]? = some (.cells tbl.toArray 30 (0, 0)) ∧ w.heap.size < (w.alloc (.cells tbl.toArray 30)).heap.size) := Bx.mk ⟨below_a _, hnew _ _ _ rfl, by simp⟩
  have hu30 := Tryd.underlying30
  have hi30 : (Tryd.prog.info? 30).map (·.size) = some tbl.length := tbl_size3 htb
  clear htb
  go_enter Tryd.func30, Tryd.ntmps30
  go_upto_region 8 with (fail)
  have HV1 : Bx (Bytes (w.alloc (.cells tbl.toArray 30)) (.slice ak nk ck) key ∧ Bytes (w.alloc (.cells tbl.toArray 30)) (.slice an nn cn) nonce ∧ Bytes (w.alloc (.cells tbl.toArray 30)) (.slice ad nd cd) bound ∧ Bytes (w.alloc (.cells tbl.toArray 30)) (.slice (some ⟨c, o, none⟩) m cb) body ∧ Bytes (w.alloc (.cells tbl.toArray 30)) (.slice (some ⟨c, o + m, none⟩) (L - m) (cb - m)) tl) := Bx.mk ⟨HV.out.1.later (below_a _), HV.out.2.1.later (below_a _), HV.out.2.2.1.later (below_a _), HB0.out.1.later (below_a _), HB0.out.2.later (below_a _)⟩
  generalize w.alloc (.cells tbl.toArray 30) = w1 at *
  clear HV HB0
  have HRng : Bx (∀ W, Below w1.heap.size w1 W → W.rangeAt w.heap.size 0 tbl ∧ Bx (Below w1.heap.size w1 W)) := Bx.mk (fun W hb => ⟨row_rng (by rw [hb.block _ H0.out.2.2]; exact H0.out.2.1), ⟨hb⟩⟩)
  have HTl : Bx ((tagB (bindK key) nonce bound body).length = 32) := Bx.mk (tagB_length _ _ _ _)
  obtain ⟨tg, htg⟩ : ∃ t, tagB (bindK key) nonce bound body = t := ⟨_, rfl⟩
  have HBe := Bx.mk htg
  have HTe : Bx (tagB (bindK key) nonce bound body = tg) := Bx.mk htg
  rw [htg] at HTl
  clear htg
  have HZ3 := Bx.mk (HZ0.out tg HTl.out)
  have B0 : Bx (Below w1.heap.size w1 w1.drew) := Bx.mk (Below.refl _ _).drew
  have bb : Bx (Below w1.drew.heap.size w1.drew w1.drew) := Bx.mk (Below.refl _ _)
  have HSS : Bx (∀ W, Below w1.drew.heap.size w1.drew W → W.rangeAt w.heap.size 0 tbl ∧ Bx (Below w1.heap.size w1 W)) := Bx.mk (fun W hb => HRng.out W (B0.out.trans (hb.mono B0.out.size)))
  refine wp_region_noPanic ?_
  refine wp_region_held_drew (S := fun W => W.rangeAt w.heap.size 0 tbl ∧ Bx (Below w1.heap.size w1 W)) (by kernel_rfl) (HSS.out _ bb.out) (fun hHeld => ?_)
  generalize w1.drew = W0 at *
  refine takeL 0 rfl (by kernel_rfl) (by kernel_rfl) (by kernel_rfl) (fun _ _ _ h => h) (yieldsIf_load_mid (by rfl) _ _ rfl _ _ rfl _ _ (fun w hSw => hSw.1) hu30 rfl hi30) hHeld ?_
  try simp only [Act.put, List.setIfInBounds_toArray, List.set_cons_zero, List.set_cons_succ]
  refine takeL 1 (v := ?_) rfl (by kernel_rfl) (by kernel_rfl) (by kernel_rfl) (fun _ _ _ h => h) (Or.inl ⟨by rfl, ?_⟩) hHeld ?_
  rotate_left 1
  · (intro w hSw; go_simp; try with_reducible rfl)
  try simp only [Act.put, List.setIfInBounds_toArray, List.set_cons_zero, List.set_cons_succ]
  refine takeL 2 (v := ?_) rfl (by kernel_rfl) (by kernel_rfl) (by kernel_rfl) (fun _ _ _ h => h) (Or.inl ⟨by rfl, ?_⟩) hHeld ?_
  rotate_left 1
  · (intro w hSw; go_simp; try with_reducible rfl)
  try simp only [Act.put, List.setIfInBounds_toArray, List.set_cons_zero, List.set_cons_succ]
  refine takeL 3 (v := ?_) rfl (by kernel_rfl) (by kernel_rfl) (by kernel_rfl) (fun _ _ _ h => h) (Or.inl ⟨by rfl, ?_⟩) hHeld ?_
  rotate_left 1
  · (intro w hSw; go_simp; try with_reducible rfl)
  try simp only [Act.put, List.setIfInBounds_toArray, List.set_cons_zero, List.set_cons_succ]
  refine takeL 4 (v := ?_) rfl (by kernel_rfl) (by kernel_rfl) (by kernel_rfl) (fun _ _ _ h => h) (Or.inl ⟨by rfl, ?_⟩) hHeld ?_
  rotate_left 1
  · (intro w hSw; go_simp; try with_reducible rfl)
  try simp only [Act.put, List.setIfInBounds_toArray, List.set_cons_zero, List.set_cons_succ]
  refine takeL 5 (v := ?_) rfl (by kernel_rfl) (by kernel_rfl) (by kernel_rfl) (fun _ _ _ h => h) (Or.inl ⟨by rfl, ?_⟩) hHeld ?_
  rotate_left 1
  · (intro w hSw; go_simp; try with_reducible rfl)
  try simp only [Act.put, List.setIfInBounds_toArray, List.set_cons_zero, List.set_cons_succ]
  refine takeL 6 (v := ?_) rfl (by kernel_rfl) (by kernel_rfl) (by kernel_rfl) (fun _ _ _ h => h) (Or.inl ⟨by rfl, ?_⟩) hHeld ?_
  rotate_left 1
  · (intro w hSw; go_simp; try with_reducible rfl)
  try simp only [Act.put, List.setIfInBounds_toArray, List.set_cons_zero, List.set_cons_succ]
  refine wpAnyH_ready (rs := [7, 8]) (by kernel_rfl) (by simp) ?_
  refine consM 7 rfl (fun K hK => ?_) (consM 8 rfl (fun K hK => ?_) AllReadyH.nil)
  · go_simp
    refine (rtagB_any tbl HTb.out key nonce bound body _ _ _ _ _ ((HV1.out.1.later B0.out).later bb.out) ((HV1.out.2.1.later B0.out).later bb.out) ((HV1.out.2.2.1.later B0.out).later bb.out) ((HV1.out.2.2.2.1.later B0.out).later bb.out) HL.out.1 (by have := HL.out; omega) HL.out.2.2.1 (by have := HB1.out; omega)).mono ?_
    rintro e W1 ⟨rfl, hb⟩
    show K _ _
    rw [HBe.out]
    have bb := Bx.mk (bb.out.trans (hb.mono bb.out.size))
    clear hb
    refine hK.out _ _ (HSS.out _ bb.out) (fun hHeld => ?_)
    clear hK K
    try simp only [Act.put, List.setIfInBounds_toArray, List.set_cons_zero, List.set_cons_succ]
    refine stepL 8 (by kernel_rfl) rfl (fun K hK => ?_)
    go_simp
    have R : Bx ((W1.alloc (.cells z32 34)).heap[W1.heap.size]? = some (.cells z32 34 (0, 0)) ∧ W0.heap.size ≤ W1.heap.size) := Bx.mk ⟨hnew _ _ _ rfl, bb.out.size⟩
    have bb := Bx.mk (bb.out.alloc bb.out.size (.cells z32 34))
    refine hK.out _ _ (HSS.out _ bb.out) (fun hHeld => ?_)
    clear hK K
    try simp only [Act.put, List.setIfInBounds_toArray, List.set_cons_zero, List.set_cons_succ]
    generalize W1.alloc (.cells z32 34) = W2 at *
    generalize W1.heap.size = DN at *
    refine stepL 9 (by kernel_rfl) rfl (fun K hK => ?_)
    refine step_st rfl 34 _ _ rfl DN (u8s tg) (by rfl) (by rfl) (there_row R.out.1 0 _ (by rw [HZ3.out.1]; simp)) HZ3.out.2 (one_u8s _) ?_
    have HF : Bx (Below W0.heap.size W0 (W2.setCells DN 0 (u8s tg).toList) ∧ (W2.setCells DN 0 (u8s tg).toList).heap[DN]? = some (.cells (u8s tg) 34 (0, 0))) := Bx.mk ⟨below_setCells R.out.2 _ _ _ _ bb.out, heap_setCells_all R.out.1 HZ3.out.1⟩
    generalize W2.setCells DN 0 (u8s tg).toList = WF at *
    refine hK.out _ _ (HSS.out _ HF.out.1) (fun hHeld => ?_)
    clear hK K bb R
    try simp only [Act.put, List.setIfInBounds_toArray, List.set_cons_zero, List.set_cons_succ]
    refine wpAnyH_done (by kernel_rfl) ?_ _
    refine NoPanic.normal ?_
    clear hHeld HSS
    have H6 : Bx (Below w1.heap.size w1 WF ∧ Bytes WF (.slice (some ⟨DN, 0, none⟩) 32 32) tg) := Bx.mk ⟨B0.out.trans (HF.out.1.mono B0.out.size), row_bytes HF.out.2 HTl.out⟩
    clear HF B0
    go_upto_region 9 with (fail)
    have HC : Bx (∀ W n, W = WF.drewN n → Calls Tryd.prog 16 #[.slice (some ⟨DN, 0, none⟩) 32 32, .slice (some ⟨c, o + m, none⟩) (L - m) (cb - m)] W fun e w' => e = .returned (.bool (decide (tg = tl))) ∧ ∃ k, w' = W.drewN k) := Bx.mk (fun W n hW => by
      subst hW
      exact same_any tg tl _ _ _ (H6.out.2.later (below_drewN (Below.refl _ _) _)) ((HV1.out.2.2.2.2.later H6.out.1).later (below_drewN (Below.refl _ _) _)) (by have := HTl.out; omega) (by have := HB1.out; omega))
    try simp only [Act.put]
    go_big_quiet ((go_at_call 16; first | (with_reducible exact Calls.quiet_of (HC.out _ _ rfl)) | (with_reducible exact qz (HC.out _ _ rfl))))
    have H7 : Bx (Below w1.heap.size w1 (WF.drewN nq)) := Bx.mk (below_drewN H6.out.1 _)
    generalize WF.drewN nq = w7 at *
    clear H6 HC
    by_cases hd : tg = tl
    · have HD : Bx (decide (tg = tl) = true) := Bx.mk (decide_eq_true hd)
      have HD2 := Bx.mk hd
      clear hd
      rw [HD.out]
      have B1 : Bx (Below w1.heap.size w1 w7.drew) := Bx.mk H7.out.drew
      go_upto_region 11 with (fail)
      refine wp_region_noPanic ?_
      refine wp_region_held_drew (S := fun W => W.rangeAt w.heap.size 0 tbl ∧ Bx (Below w1.heap.size w1 W)) (by kernel_rfl) (HRng.out _ B1.out) (fun hHeld => ?_)
      generalize w7.drew = W0 at *
      refine takeL 0 (v := ?_) rfl (by kernel_rfl) (by kernel_rfl) (by kernel_rfl) (fun _ _ _ h => h) (Or.inl ⟨by rfl, ?_⟩) hHeld ?_
      rotate_left 1
      · (intro w hSw; go_simp; try with_reducible rfl)
      try simp only [Act.put, List.setIfInBounds_toArray, List.set_cons_zero, List.set_cons_succ]
      refine takeL 1 (v := ?_) rfl (by kernel_rfl) (by kernel_rfl) (by kernel_rfl) (fun _ _ _ h => h) (Or.inl ⟨by rfl, ?_⟩) hHeld ?_
      rotate_left 1
      · (intro w hSw; go_simp; try with_reducible rfl)
      try simp only [Act.put, List.setIfInBounds_toArray, List.set_cons_zero, List.set_cons_succ]
      refine takeL 2 (v := ?_) rfl (by kernel_rfl) (by kernel_rfl) (by kernel_rfl) (fun _ _ _ h => h) (Or.inl ⟨by rfl, ?_⟩) hHeld ?_
      rotate_left 1
      · (intro w hSw; go_simp; try with_reducible rfl)
      try simp only [Act.put, List.setIfInBounds_toArray, List.set_cons_zero, List.set_cons_succ]
      refine takeL 3 rfl (by kernel_rfl) (by kernel_rfl) (by kernel_rfl) (fun _ _ _ h => h) (yieldsIf_load_mid (by rfl) _ _ rfl _ _ rfl _ _ (fun w hSw => hSw.1) hu30 rfl hi30) hHeld ?_
      try simp only [Act.put, List.setIfInBounds_toArray, List.set_cons_zero, List.set_cons_succ]
      refine takeL 4 (v := ?_) rfl (by kernel_rfl) (by kernel_rfl) (by kernel_rfl) (fun _ _ _ h => h) (Or.inl ⟨by rfl, ?_⟩) hHeld ?_
      rotate_left 1
      · (intro w hSw; go_simp; try with_reducible rfl)
      try simp only [Act.put, List.setIfInBounds_toArray, List.set_cons_zero, List.set_cons_succ]
      refine takeL 5 (v := ?_) rfl (by kernel_rfl) (by kernel_rfl) (by kernel_rfl) (fun _ _ _ h => h) (Or.inl ⟨by rfl, ?_⟩) hHeld ?_
      rotate_left 1
      · (intro w hSw; go_simp; try with_reducible rfl)
      try simp only [Act.put, List.setIfInBounds_toArray, List.set_cons_zero, List.set_cons_succ]
      refine takeL 6 (v := ?_) rfl (by kernel_rfl) (by kernel_rfl) (by kernel_rfl) (fun _ _ _ h => h) (Or.inl ⟨by rfl, ?_⟩) hHeld ?_
      rotate_left 1
      · (intro w hSw; go_simp; try with_reducible rfl)
      try simp only [Act.put, List.setIfInBounds_toArray, List.set_cons_zero, List.set_cons_succ]
      refine stepL 7 (by kernel_rfl) rfl (fun K hK => ?_)
      go_simp
      refine (rstrm_any tbl HTb.out key nonce m _ _ W0 (HV1.out.1.later B1.out) (HV1.out.2.1.later B1.out) HL.out.1 HL.out.2.1 (by omega)).mono ?_
      rintro e W1 ⟨vs, rfl, hs1, hb1⟩
      show K _ _
      have C1 := Bx.mk (And.intro hs1 (B1.out.trans (hb1.mono B1.out.size)))
      clear hs1 hb1
      refine hK.out _ _ (HRng.out _ C1.out.2) (fun hHeld => ?_)
      clear hK K
      try simp only [Act.put, List.setIfInBounds_toArray, List.set_cons_zero, List.set_cons_succ]
      refine stepL 8 (by kernel_rfl) rfl (fun K hK => ?_)
      go_simp
      refine (rturn_any body (strm (hideK key) nonce m) _ _ W1 (HV1.out.2.2.2.1.later C1.out.2) C1.out.1 (by rw [strm_length, HB1.out.1]; omega) (by rw [strm_length]; omega)).mono ?_
      rintro e W2 ⟨vt, rfl, ho2, hb2⟩
      show K _ _
      have C2 : Bx (OwnB W2 w.heap.size vt (trnd (hideK key) nonce body) ∧ Below w1.heap.size w1 W2) := Bx.mk ⟨by rw [← HXb.out]; exact ho2.weak (Nat.le_trans H0.out.1.size C1.out.2.size), C1.out.2.trans (hb2.mono C1.out.2.size)⟩
      clear ho2 hb2 C1
      refine hK.out _ _ (HRng.out _ C2.out.2) (fun hHeld => ?_)
      clear hK K
      try simp only [Act.put, List.setIfInBounds_toArray, List.set_cons_zero, List.set_cons_succ]
      refine takeL 9 (v := ?_) rfl (by kernel_rfl) (by kernel_rfl) (by kernel_rfl) (fun _ _ _ h => h) (Or.inl ⟨by rfl, ?_⟩) hHeld ?_
      rotate_left 1
      · (intro w hSw; go_simp; try with_reducible rfl)
      try simp only [Act.put, List.setIfInBounds_toArray, List.set_cons_zero, List.set_cons_succ]
      refine takeL 10 (v := ?_) rfl (by kernel_rfl) (by kernel_rfl) (by kernel_rfl) (fun _ _ _ h => h) (Or.inl ⟨by rfl, ?_⟩) hHeld ?_
      rotate_left 1
      · (intro w hSw; go_simp; try with_reducible rfl)
      try simp only [Act.put, List.setIfInBounds_toArray, List.set_cons_zero, List.set_cons_succ]
      refine wpAnyH_done (by kernel_rfl) ?_ _
      refine NoPanic.normal ?_
      clear hHeld
      go_wp2
      go_ret2
      exact Or.inl ⟨by rw [HTe.out]; exact HD2.out, _, rfl, C2.out.1, H0.out.1.trans (C2.out.2.mono H0.out.1.size)⟩
    · have HD : Bx (decide (tg = tl) = false) := Bx.mk (decide_eq_false hd)
      have HD2 := Bx.mk hd
      clear hd
      rw [HD.out]
      go_wp2
      go_ret2
      exact Or.inr ⟨by rw [HTe.out]; exact HD2.out, rfl, H0.out.1.trans (H7.out.mono H0.out.1.size)⟩
  · go_simp
    have R : Bx ((W0.alloc (.cells z32 34)).heap[W0.heap.size]? = some (.cells z32 34 (0, 0)) ∧ W0.heap.size ≤ W0.heap.size) := Bx.mk ⟨hnew _ _ _ rfl, bb.out.size⟩
    have bb := Bx.mk (bb.out.alloc bb.out.size (.cells z32 34))
    refine hK.out _ _ (HSS.out _ bb.out) (fun hHeld => ?_)
    clear hK K
    try simp only [Act.put, List.setIfInBounds_toArray, List.set_cons_zero, List.set_cons_succ]
    generalize W0.alloc (.cells z32 34) = W1 at *
    obtain ⟨DN, hDN⟩ : ∃ d, d = W0.heap.size := ⟨_, rfl⟩
    have R : Bx (W1.heap[DN]? = some (.cells z32 34 (0, 0)) ∧ W0.heap.size ≤ DN) := Bx.mk (by rw [hDN]; exact R.out)
    rw [← hDN]
    clear hDN
    refine stepL 7 (by kernel_rfl) rfl (fun K hK => ?_)
    go_simp
    refine (rtagB_any tbl HTb.out key nonce bound body _ _ _ _ _ ((HV1.out.1.later B0.out).later bb.out) ((HV1.out.2.1.later B0.out).later bb.out) ((HV1.out.2.2.1.later B0.out).later bb.out) ((HV1.out.2.2.2.1.later B0.out).later bb.out) HL.out.1 (by have := HL.out; omega) HL.out.2.2.1 (by have := HB1.out; omega)).mono ?_
    rintro e W2 ⟨rfl, hb⟩
    show K _ _
    rw [HBe.out]
    have R := Bx.mk (And.intro (show W2.heap[DN]? = some (.cells z32 34 (0, 0)) by rw [hb.block _ (Array.getElem?_eq_some_iff.1 R.out.1).1]; exact R.out.1) R.out.2)
    have bb := Bx.mk (bb.out.trans (hb.mono bb.out.size))
    clear hb
    refine hK.out _ _ (HSS.out _ bb.out) (fun hHeld => ?_)
    clear hK K
    try simp only [Act.put, List.setIfInBounds_toArray, List.set_cons_zero, List.set_cons_succ]
    refine stepL 9 (by kernel_rfl) rfl (fun K hK => ?_)
    refine step_st rfl 34 _ _ rfl DN (u8s tg) (by rfl) (by rfl) (there_row R.out.1 0 _ (by rw [HZ3.out.1]; simp)) HZ3.out.2 (one_u8s _) ?_
    have HF : Bx (Below W0.heap.size W0 (W2.setCells DN 0 (u8s tg).toList) ∧ (W2.setCells DN 0 (u8s tg).toList).heap[DN]? = some (.cells (u8s tg) 34 (0, 0))) := Bx.mk ⟨below_setCells R.out.2 _ _ _ _ bb.out, heap_setCells_all R.out.1 HZ3.out.1⟩
    generalize W2.setCells DN 0 (u8s tg).toList = WF at *
    refine hK.out _ _ (HSS.out _ HF.out.1) (fun hHeld => ?_)
    clear hK K bb R
    try simp only [Act.put, List.setIfInBounds_toArray, List.set_cons_zero, List.set_cons_succ]
    refine wpAnyH_done (by kernel_rfl) ?_ _
    refine NoPanic.normal ?_
    clear hHeld HSS
    have H6 : Bx (Below w1.heap.size w1 WF ∧ Bytes WF (.slice (some ⟨DN, 0, none⟩) 32 32) tg) := Bx.mk ⟨B0.out.trans (HF.out.1.mono B0.out.size), row_bytes HF.out.2 HTl.out⟩
    clear HF B0
    go_upto_region 9 with (fail)
    have HC : Bx (∀ W n, W = WF.drewN n → Calls Tryd.prog 16 #[.slice (some ⟨DN, 0, none⟩) 32 32, .slice (some ⟨c, o + m, none⟩) (L - m) (cb - m)] W fun e w' => e = .returned (.bool (decide (tg = tl))) ∧ ∃ k, w' = W.drewN k) := Bx.mk (fun W n hW => by
      subst hW
      exact same_any tg tl _ _ _ (H6.out.2.later (below_drewN (Below.refl _ _) _)) ((HV1.out.2.2.2.2.later H6.out.1).later (below_drewN (Below.refl _ _) _)) (by have := HTl.out; omega) (by have := HB1.out; omega))
    try simp only [Act.put]
    go_big_quiet ((go_at_call 16; first | (with_reducible exact Calls.quiet_of (HC.out _ _ rfl)) | (with_reducible exact qz (HC.out _ _ rfl))))
    have H7 : Bx (Below w1.heap.size w1 (WF.drewN nq)) := Bx.mk (below_drewN H6.out.1 _)
    generalize WF.drewN nq = w7 at *
    clear H6 HC
    by_cases hd : tg = tl
    · have HD : Bx (decide (tg = tl) = true) := Bx.mk (decide_eq_true hd)
      have HD2 := Bx.mk hd
      clear hd
      rw [HD.out]
      have B1 : Bx (Below w1.heap.size w1 w7.drew) := Bx.mk H7.out.drew
      go_upto_region 11 with (fail)
      refine wp_region_noPanic ?_
      refine wp_region_held_drew (S := fun W => W.rangeAt w.heap.size 0 tbl ∧ Bx (Below w1.heap.size w1 W)) (by kernel_rfl) (HRng.out _ B1.out) (fun hHeld => ?_)
      generalize w7.drew = W0 at *
      refine takeL 0 (v := ?_) rfl (by kernel_rfl) (by kernel_rfl) (by kernel_rfl) (fun _ _ _ h => h) (Or.inl ⟨by rfl, ?_⟩) hHeld ?_
      rotate_left 1
      · (intro w hSw; go_simp; try with_reducible rfl)
      try simp only [Act.put, List.setIfInBounds_toArray, List.set_cons_zero, List.set_cons_succ]
      refine takeL 1 (v := ?_) rfl (by kernel_rfl) (by kernel_rfl) (by kernel_rfl) (fun _ _ _ h => h) (Or.inl ⟨by rfl, ?_⟩) hHeld ?_
      rotate_left 1
      · (intro w hSw; go_simp; try with_reducible rfl)
      try simp only [Act.put, List.setIfInBounds_toArray, List.set_cons_zero, List.set_cons_succ]
      refine takeL 2 (v := ?_) rfl (by kernel_rfl) (by kernel_rfl) (by kernel_rfl) (fun _ _ _ h => h) (Or.inl ⟨by rfl, ?_⟩) hHeld ?_
      rotate_left 1
      · (intro w hSw; go_simp; try with_reducible rfl)
      try simp only [Act.put, List.setIfInBounds_toArray, List.set_cons_zero, List.set_cons_succ]
      refine takeL 3 rfl (by kernel_rfl) (by kernel_rfl) (by kernel_rfl) (fun _ _ _ h => h) (yieldsIf_load_mid (by rfl) _ _ rfl _ _ rfl _ _ (fun w hSw => hSw.1) hu30 rfl hi30) hHeld ?_
      try simp only [Act.put, List.setIfInBounds_toArray, List.set_cons_zero, List.set_cons_succ]
      refine takeL 4 (v := ?_) rfl (by kernel_rfl) (by kernel_rfl) (by kernel_rfl) (fun _ _ _ h => h) (Or.inl ⟨by rfl, ?_⟩) hHeld ?_
      rotate_left 1
      · (intro w hSw; go_simp; try with_reducible rfl)
      try simp only [Act.put, List.setIfInBounds_toArray, List.set_cons_zero, List.set_cons_succ]
      refine takeL 5 (v := ?_) rfl (by kernel_rfl) (by kernel_rfl) (by kernel_rfl) (fun _ _ _ h => h) (Or.inl ⟨by rfl, ?_⟩) hHeld ?_
      rotate_left 1
      · (intro w hSw; go_simp; try with_reducible rfl)
      try simp only [Act.put, List.setIfInBounds_toArray, List.set_cons_zero, List.set_cons_succ]
      refine takeL 6 (v := ?_) rfl (by kernel_rfl) (by kernel_rfl) (by kernel_rfl) (fun _ _ _ h => h) (Or.inl ⟨by rfl, ?_⟩) hHeld ?_
      rotate_left 1
      · (intro w hSw; go_simp; try with_reducible rfl)
      try simp only [Act.put, List.setIfInBounds_toArray, List.set_cons_zero, List.set_cons_succ]
      refine stepL 7 (by kernel_rfl) rfl (fun K hK => ?_)
      go_simp
      refine (rstrm_any tbl HTb.out key nonce m _ _ W0 (HV1.out.1.later B1.out) (HV1.out.2.1.later B1.out) HL.out.1 HL.out.2.1 (by omega)).mono ?_
      rintro e W1 ⟨vs, rfl, hs1, hb1⟩
      show K _ _
      have C1 := Bx.mk (And.intro hs1 (B1.out.trans (hb1.mono B1.out.size)))
      clear hs1 hb1
      refine hK.out _ _ (HRng.out _ C1.out.2) (fun hHeld => ?_)
      clear hK K
      try simp only [Act.put, List.setIfInBounds_toArray, List.set_cons_zero, List.set_cons_succ]
      refine stepL 8 (by kernel_rfl) rfl (fun K hK => ?_)
      go_simp
      refine (rturn_any body (strm (hideK key) nonce m) _ _ W1 (HV1.out.2.2.2.1.later C1.out.2) C1.out.1 (by rw [strm_length, HB1.out.1]; omega) (by rw [strm_length]; omega)).mono ?_
      rintro e W2 ⟨vt, rfl, ho2, hb2⟩
      show K _ _
      have C2 : Bx (OwnB W2 w.heap.size vt (trnd (hideK key) nonce body) ∧ Below w1.heap.size w1 W2) := Bx.mk ⟨by rw [← HXb.out]; exact ho2.weak (Nat.le_trans H0.out.1.size C1.out.2.size), C1.out.2.trans (hb2.mono C1.out.2.size)⟩
      clear ho2 hb2 C1
      refine hK.out _ _ (HRng.out _ C2.out.2) (fun hHeld => ?_)
      clear hK K
      try simp only [Act.put, List.setIfInBounds_toArray, List.set_cons_zero, List.set_cons_succ]
      refine takeL 9 (v := ?_) rfl (by kernel_rfl) (by kernel_rfl) (by kernel_rfl) (fun _ _ _ h => h) (Or.inl ⟨by rfl, ?_⟩) hHeld ?_
      rotate_left 1
      · (intro w hSw; go_simp; try with_reducible rfl)
      try simp only [Act.put, List.setIfInBounds_toArray, List.set_cons_zero, List.set_cons_succ]
      refine takeL 10 (v := ?_) rfl (by kernel_rfl) (by kernel_rfl) (by kernel_rfl) (fun _ _ _ h => h) (Or.inl ⟨by rfl, ?_⟩) hHeld ?_
      rotate_left 1
      · (intro w hSw; go_simp; try with_reducible rfl)
      try simp only [Act.put, List.setIfInBounds_toArray, List.set_cons_zero, List.set_cons_succ]
      refine wpAnyH_done (by kernel_rfl) ?_ _
      refine NoPanic.normal ?_
      clear hHeld
      go_wp2
      go_ret2
      exact Or.inl ⟨by rw [HTe.out]; exact HD2.out, _, rfl, C2.out.1, H0.out.1.trans (C2.out.2.mono H0.out.1.size)⟩
    · have HD : Bx (decide (tg = tl) = false) := Bx.mk (decide_eq_false hd)
      have HD2 := Bx.mk hd
      clear hd
      rw [HD.out]
      go_wp2
      go_ret2
      exact Or.inr ⟨by rw [HTe.out]; exact HD2.out, rfl, H0.out.1.trans (H7.out.mono H0.out.1.size)⟩
set_option maxRecDepth 100000 in
theorem ropen_bad (tb vk vn vd vb : Value) (nonce sl : List UInt8) (cs : Array Value) (w : World) (ht : tb = .agg cs) (hn : Bytes w vn nonce) (hb : Bytes w vb sl) (hnl : nonce.length ≤ 1000) (hsl : sl.length ≤ 1000) (h : 32 < nonce.length ∨ sl.length < 32) :
    Calls Tryd.prog 30 #[tb, vk, vn, vd, vb] w fun e w' => e = .returned (.tuple #[.slice none 0 0, .int .i64 (if 32 < nonce.length then 1 else 4)]) ∧ Below w.heap.size w w' := by
  subst ht
  obtain ⟨an, cn, rfl, -⟩ := hn
  obtain ⟨ab, cb, rfl, -⟩ := hb
  obtain ⟨nn, hnn⟩ : ∃ n, nonce.length = n := ⟨_, rfl⟩
  obtain ⟨L, hL⟩ : ∃ n, sl.length = n := ⟨_, rfl⟩
  rw [hnn] at hnl h ⊢
  rw [hL] at hsl h ⊢
  have hnn1 : (nn : Int) ≤ 1000 := by omega
  have hL1 : (L : Int) ≤ 1000 := by omega
  clear hnn hL
  by_cases h32 : 32 < nn
  · have t1 : (32 : Int) < (nn : Int) := by omega
    rw [if_pos h32]
    clear h
    go_enter Tryd.func30, Tryd.ntmps30
    go_wp2
    go_ret2
    exact ⟨rfl, below_a _⟩
  · have t1 : ¬ (32 : Int) < (nn : Int) := by omega
    have t2 : (L : Int) - 32 < 0 := by omega
    have t3 : (L : Int) < 32 := by omega
    rw [if_neg h32]
    clear h
    go_enter Tryd.func30, Tryd.ntmps30
    go_wp2
    go_ret2
    exact ⟨rfl, below_a _⟩
end Go.Proofs.YtcaehkglfliihaaDoor
