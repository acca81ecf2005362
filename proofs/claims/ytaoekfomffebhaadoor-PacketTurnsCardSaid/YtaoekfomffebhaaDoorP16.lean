/-
  Keys: what a key tags, derives and is known by.
-/
import Derived.Test.YtaoekfomffebhaaDoorKa
import Derived.Test.YtaoekfomffebhaaDoorP5
import Derived.Test.YtaoekfomffebhaaDoorP8
namespace Go.Proofs.YtaoekfomffebhaaDoor
open Go Go.RowKit
theorem IsKey.parts {w : World} {v : Value} {bs : List UInt8} (h : IsKey w v bs) : ∃ p a cap, v = .pointer (some ⟨p, 0, none⟩) ∧ w.cell? ⟨p, 0, none⟩ = some (.slice a bs.length cap) ∧ Bytes w (.slice a bs.length cap) bs := by
  obtain ⟨p, s, hv, hr, hb⟩ := h
  have hc : w.cell? ⟨p, 0, none⟩ = some s := by rw [cell_of_row _ _ _ _ _ _ hr]; rfl
  have hb' := hb
  obtain ⟨a, cap, rfl, -⟩ := hb
  exact ⟨p, a, cap, hv, hc, hb'⟩
set_option maxRecDepth 100000 in
set_option maxHeartbeats 1000000 in
theorem ktag_any (bs : List UInt8) (pss : List (List UInt8)) (v vp : Value) (w : World) (hv : IsKey w v bs) (hp : Parts w vp pss) (hl : bs.length ≤ 1000000) (hl2 : pss.length ≤ 1000000) (hl3 : pss.flatten.length ≤ 100000000) (hTab : Tab w) (hg : 1 < w.heap.size) :
    Calls Tryd.prog 30 #[v, vp] w fun e w' => e = .returned (.agg (u8s (hmac bs pss.flatten))) ∧ Below w.heap.size w w' := by
  have HP := Bx.mk hp
  have HL := Bx.mk (And.intro hl (And.intro hl2 hl3))
  have HA := Bx.mk hTab
  have HK := Bx.mk hv
  clear hl hl2 hl3 hTab hp
  obtain ⟨z32, hz32⟩ : ∃ z, u8s (List.replicate 32 0) = z := ⟨_, rfl⟩
  have hz32v : ∀ W : World, (zeroValue 27).run Tryd.prog W = .ok (.agg z32) W := fun W => by rw [← hz32, zero32]; kernel_rfl
  have H0 : Bx (Below w.heap.size w (w.alloc (.cells z32 27)) ∧ (w.alloc (.cells z32 27)).heap[w.heap.size]? = some (.cells (u8s (List.replicate 32 0)) 27 (0, 0)) ∧ w.heap.size < (w.alloc (.cells z32 27)).heap.size) := Bx.mk ⟨below_a _, by rw [hnew _ _ _ rfl, hz32], by simp⟩
  clear hz32
  obtain ⟨p, a, cap, rfl, hc, hb⟩ := (hv.later H0.out.1).parts
  have HB := Bx.mk hb
  obtain ⟨n, hn⟩ : ∃ n, bs.length = n := ⟨_, rfl⟩
  rw [hn] at HB hc
  clear hn hv hb
  go_enter Tryd.func30, Tryd.ntmps30
  go_wp2_with fail
  generalize w.alloc (.cells z32 27) = w0 at *
  refine (tag_any bs pss _ _ w0 HB.out (HP.out.later H0.out.1) HL.out.1 HL.out.2.1 HL.out.2.2 (HA.out.later H0.out.1 hg) (Nat.lt_of_lt_of_le hg H0.out.1.size)).mono ?_
  rintro e w2 ⟨rfl, hb2⟩
  have H2 : Bx (Below w.heap.size w w2 ∧ w2.heap[w.heap.size]? = some (.cells (u8s (List.replicate 32 0)) 27 (0, 0))) := Bx.mk ⟨H0.out.1.trans (hb2.mono H0.out.1.size), by rw [hb2.block _ H0.out.2.2]; exact H0.out.2.1⟩
  clear hb2 H0 hc HB hz32v
  have HSL : Bx ((hmac bs pss.flatten).length = 32) := Bx.mk (sha_length _)
  generalize hhm : hmac bs pss.flatten = hm at *
  have HHM := Bx.mk hhm
  clear hhm
  have HI : Bx ((Tryd.prog.info? 27).map (·.size) = some (u8s hm).size) := Bx.mk (by rw [u8s_size, HSL.out]; kernel_rfl)
  have HZ : Bx ((u8s hm).size = (u8s (List.replicate 32 0)).size) := Bx.mk (by rw [u8s_size, u8s_size, HSL.out]; rfl)
  go_wp2_with (refine wpList_store_new rfl 27 _ _ rfl w.heap.size (u8s hm) _ _ (by rfl) (by rfl) H2.out.2 HZ.out HI.out (one_u8s _) ?_; intro w3 hw3 hr3; have H3 : Bx (Below w.heap.size w w3 ∧ w3.heap[w.heap.size]? = some (.cells (u8s hm) 27 (0, 0))) := Bx.mk ⟨by rw [hw3]; exact below_setCells (Nat.le_refl _) _ _ _ _ H2.out.1, hr3⟩; clear hw3 hr3)
  refine bodyPost_ret (results_cell_row rfl _ _ w.heap.size _ (u8s hm) _ _ rfl H3.out.2 Tryd.underlying27 rfl HI.out) rfl ?_
  exact ⟨by first | rfl | rw [HHM.out], H3.out.1⟩
end Go.Proofs.YtaoekfomffebhaaDoor
namespace Go.Proofs.YtaoekfomffebhaaDoor
open Go Go.ChangeShapes Go.WideShapes Go.ChangeAt Go.RowKit
set_option maxRecDepth 100000 in
set_option maxHeartbeats 4000000 in
theorem tagged_plain (x : Pk) (v : Value) (w : World) (ht : x.t.length = 32) (hb : Bytes w v x.b) (p : Nat) (hp : plainB x.k = true) : Calls Tryd.prog 9 #[pkV x v, .pointer (some ⟨p, 0, none⟩)] w fun e w' => e = .returned (.tuple #[pkV Pk.zero (.slice none 0 0), .int .i64 11]) ∧ Below w.heap.size w w' := by
  obtain ⟨a0, c0, rfl, -, -⟩ := bytes_form hb
  obtain ⟨zc, hzc⟩ : ∃ zc, pkC Pk.zero (.slice none 0 0) = zc := ⟨_, rfl⟩
  have hzv : ∀ W : World, (zeroValue 33).run Tryd.prog W = .ok (.agg zc) W := fun W => by rw [← hzc]; exact pk_zeroW W
  have hbz : Tryd.prog.built 33 [] = some zc := by rw [← hzc]; exact pk_noneW
  have HI : Bx ((Tryd.prog.info? 33).map (·.size) = some zc.size) := Bx.mk (by rw [← hzc]; exact pk_infoW _ _ rfl)
  have HO : Bx (zc.all (·.oneCell') = true) := Bx.mk (by rw [← hzc]; exact pkC_one _ _ _ _)
  obtain ⟨B, hB⟩ : ∃ B, w.heap.size = B := ⟨_, rfl⟩
  have H0 := Bx.mk (((KP.start w B hB).new (.cells (pkC x (.slice a0 x.b.length c0)) 33)).new (.cells zc 33))
  rw [alloc_sizeP, hB] at H0
  have HAt : Bx (PkAt ((w.alloc (.cells (pkC x (.slice a0 x.b.length c0)) 33)).alloc (.cells zc 33)) B x (.slice a0 x.b.length c0)) := Bx.mk (pk_at (H0.out.rows _ (.tail _ (.head _))))
  obtain ⟨tk, htk⟩ : ∃ tk, pkC x (.slice a0 x.b.length c0) = tk := ⟨_, rfl⟩
  have HTK := Bx.mk htk
  unfold pkV
  rw [htk] at H0 HAt ⊢
  rw [hB, hzc]
  clear hzc htk hb ht
  have k0 := HAt.out.k
  go_enter Tryd.func9, Tryd.ntmps9
  go_wp2_with fail
  generalize (w.alloc (.cells tk 33)).alloc (.cells zc 33) = w0 at *
  refine (plain14 x.k _ hp w0).mono ?_
  rintro e w1 ⟨rfl, rfl⟩
  go_wp2_with (first | (refine wpList_buildTo rfl 33 _ rfl _ rfl zc hbz ?_) | (refine wpList_store_new rfl 33 _ _ rfl (B + 1) zc zc _ (by rfl) (by rfl) (H0.out.rows _ (.head _)) rfl HI.out HO.out ?_; intro w8 hw8 hr8; have hg8 := Bx.mk (kb_ofP hw8); have HR8 := Bx.mk hr8; clear hw8 hr8))
  refine bodyPost_ret (results_pair rfl _ _ _ (B + 1) _ rfl (run_loadVar_row _ (B + 1) _ _ _ _ _ HR8.out Tryd.underlying33 rfl (HI.out))) rfl ?_
  exact ⟨rfl, H0.out.below.trans (grown_below hg8.out (by omega) H0.out.le)⟩
set_option maxRecDepth 100000 in
set_option maxHeartbeats 4000000 in
theorem tagged_bad (x : Pk) (v : Value) (w : World) (ht : x.t.length = 32) (hb : Bytes w v x.b) (p : Nat) (hp : plainB x.k = false) (hc : chkP x ≠ 0) : Calls Tryd.prog 9 #[pkV x v, .pointer (some ⟨p, 0, none⟩)] w fun e w' => e = .returned (.tuple #[pkV Pk.zero (.slice none 0 0), .int .i64 (chkP x)]) ∧ Below w.heap.size w w' := by
  obtain ⟨a0, c0, rfl, -, -⟩ := bytes_form hb
  obtain ⟨zc, hzc⟩ : ∃ zc, pkC Pk.zero (.slice none 0 0) = zc := ⟨_, rfl⟩
  have hzv : ∀ W : World, (zeroValue 33).run Tryd.prog W = .ok (.agg zc) W := fun W => by rw [← hzc]; exact pk_zeroW W
  have hbz : Tryd.prog.built 33 [] = some zc := by rw [← hzc]; exact pk_noneW
  have HI : Bx ((Tryd.prog.info? 33).map (·.size) = some zc.size) := Bx.mk (by rw [← hzc]; exact pk_infoW _ _ rfl)
  have HO : Bx (zc.all (·.oneCell') = true) := Bx.mk (by rw [← hzc]; exact pkC_one _ _ _ _)
  obtain ⟨B, hB⟩ : ∃ B, w.heap.size = B := ⟨_, rfl⟩
  have H0 := Bx.mk (((KP.start w B hB).new (.cells (pkC x (.slice a0 x.b.length c0)) 33)).new (.cells zc 33))
  rw [alloc_sizeP, hB] at H0
  have HHd : Bx (∀ W, Below B w W → Calls Tryd.prog 28 #[pkV x (.slice a0 x.b.length c0)] W fun e w' => e = .returned (.tuple #[.slice none 0 0, .int .i64 (chkP x)]) ∧ Below W.heap.size W w') := Bx.mk fun W h => head14_bad x _ W ht (hb.old hB h) hc
  have HIx := Bx.mk (pk_infoW x (.slice a0 x.b.length c0) ht)
  have HAt : Bx (PkAt ((w.alloc (.cells (pkC x (.slice a0 x.b.length c0)) 33)).alloc (.cells zc 33)) B x (.slice a0 x.b.length c0)) := Bx.mk (pk_at (H0.out.rows _ (.tail _ (.head _))))
  obtain ⟨tk, htk⟩ : ∃ tk, pkC x (.slice a0 x.b.length c0) = tk := ⟨_, rfl⟩
  have HTK := Bx.mk htk
  unfold pkV at HHd
  unfold pkV
  rw [htk] at H0 HHd HIx HAt ⊢
  rw [hB, hzc]
  clear hzc htk hb ht
  generalize chkP x = ck at *
  have k0 := HAt.out.k
  go_enter Tryd.func9, Tryd.ntmps9
  go_wp2_with fail
  generalize (w.alloc (.cells tk 33)).alloc (.cells zc 33) = w0 at *
  refine (plain14 x.k _ hp w0).mono ?_
  rintro e w1 ⟨rfl, rfl⟩
  go_wp2_with (refine wpList_load_row rfl 33 _ rfl B (by rfl) _ _ _ _ (H0.out.rows _ (.tail _ (.head _))) Tryd.underlying33 rfl HIx.out ?_)
  refine (HHd.out w0 H0.out.below).mono ?_
  rintro e w2 ⟨rfl, hb2⟩
  have H2 := Bx.mk (H0.out.later hb2)
  clear hb2 H0 HHd HAt k0
  go_wp2_with (first | (refine wpList_buildTo rfl 33 _ rfl _ rfl zc hbz ?_) | (refine wpList_store_new rfl 33 _ _ rfl (B + 1) zc zc _ (by rfl) (by rfl) (H2.out.rows _ (.head _)) rfl HI.out HO.out ?_; intro w8 hw8 hr8; have hg8 := Bx.mk (kb_ofP hw8); have HR8 := Bx.mk hr8; clear hw8 hr8))
  refine bodyPost_ret (results_pair rfl _ _ _ (B + 1) _ rfl (run_loadVar_row _ (B + 1) _ _ _ _ _ HR8.out Tryd.underlying33 rfl (HI.out))) rfl ?_
  exact ⟨rfl, H2.out.below.trans (grown_below hg8.out (by omega) H2.out.le)⟩
end Go.Proofs.YtaoekfomffebhaaDoor
namespace Go.Proofs.YtaoekfomffebhaaDoor
open Go Go.ChangeShapes Go.WideShapes Go.ChangeAt Go.RowKit
/-- The packet with its tag. -/
def tgP (key : List UInt8) (x : Pk) : Pk := { x with t := tagK key x }
theorem pk_store (W : World) (B : Nat) (T : TypeId) (x : Pk) (v u : Value) (sk : List UInt8) (h : W.heap[B]? = some (.cells (pkC x v) T (0, 0))) (hx : x.t.length = 32) (hs : sk.length = 32) :
    ((W.setCell ⟨B, 8, none⟩ u).setCells B 9 (u8s sk).toList).heap[B]? = some (.cells (pkC { x with t := sk } u) T (0, 0)) ∧ (W.setCell ⟨B, 8, none⟩ u).there B 9 (u8s sk).size ∧ W.grownBy ((W.setCell ⟨B, 8, none⟩ u).setCells B 9 (u8s sk).toList) (some B) := by
  have h1 : (W.setCell ⟨B, 8, none⟩ u).heap[B]? = some (.cells (pkC x u) T (0, 0)) := heap_setCell_same W B 8 _ T u h
  have hsz : (u8s sk).size = 32 := by rw [u8s_size, hs]
  refine ⟨?_, there_row h1 9 _ (by rw [hsz, pkC_size x u hx]; omega), kb_trans (kb_setCell W 8 u) (kb_setCells _ _ _)⟩
  rw [heap_setCells_same B T (u8s sk).toList 9 _ _ h1]
  congr 2
  apply Array.ext_getElem?
  intro i
  rw [spl_get, pkC_size x u hx, Array.length_toList, hsz]
  by_cases h9 : i < 9
  · rw [if_neg (by omega)]
    match i, h9 with
    | 0, _ => rfl
    | 1, _ => rfl
    | 2, _ => rfl
    | 3, _ => rfl
    | 4, _ => rfl
    | 5, _ => rfl
    | 6, _ => rfl
    | 7, _ => rfl
    | 8, _ => rfl
  · obtain ⟨j, rfl⟩ : ∃ j, i = j + 9 := ⟨i - 9, by omega⟩
    have e1 : (pkC { x with t := sk } u)[j + 9]? = (u8s sk).toList[j]? := by unfold pkC; rw [List.getElem?_toArray]; rfl
    have e2 : (pkC x u)[j + 9]? = (u8s x.t).toList[j]? := by unfold pkC; rw [List.getElem?_toArray]; rfl
    by_cases h4 : j < 32
    · rw [if_pos (by omega), e1]
      congr 1
    · rw [if_neg (by omega), e1, e2, List.getElem?_eq_none (by rw [Array.length_toList, u8s_size, hx]; omega), List.getElem?_eq_none (by rw [Array.length_toList, u8s_size, hs]; omega)]
set_option maxRecDepth 100000 in
set_option maxHeartbeats 4000000 in
theorem tagged_ok (x : Pk) (v : Value) (bs : List UInt8) (vk : Value) (w : World) (ht : x.t.length = 32) (hb : Bytes w v x.b) (hk : IsKey w vk bs) (hkl : bs.length ≤ 1000000) (hp : plainB x.k = false) (hc : chkP x = 0) (hTab : Tab w) (hg : 1 < w.heap.size) :
    Calls Tryd.prog 9 #[pkV x v, vk] w fun e w' => ∃ u, e = .returned (.tuple #[pkV (tgP bs x) u, .int .i64 0]) ∧ OwnB w' w.heap.size u (tgP bs x).b ∧ Below w.heap.size w w' := by
  obtain ⟨a0, c0, rfl, -, -⟩ := bytes_form hb
  obtain ⟨zc, hzc⟩ : ∃ zc, pkC Pk.zero (.slice none 0 0) = zc := ⟨_, rfl⟩
  have hzv : ∀ W : World, (zeroValue 33).run Tryd.prog W = .ok (.agg zc) W := fun W => by rw [← hzc]; exact pk_zeroW W
  have HZ := Bx.mk (show zc.size = 41 by rw [← hzc, pkC_size _ _ rfl])
  obtain ⟨B, hB⟩ : ∃ B, w.heap.size = B := ⟨_, rfl⟩
  have H0 := Bx.mk (((KP.start w B hB).new (.cells (pkC x (.slice a0 x.b.length c0)) 33)).new (.cells zc 33))
  rw [alloc_sizeP, hB] at H0
  have HHd : Bx (∀ W, Below B w W → Calls Tryd.prog 28 #[pkV x (.slice a0 x.b.length c0)] W fun e w' => ∃ u, e = .returned (.tuple #[u, .int .i64 0]) ∧ OwnB w' W.heap.size u (hdB x) ∧ Below W.heap.size W w') := Bx.mk fun W h => head14_ok x _ W ht (hb.old hB h) hc
  have HCl : Bx (∀ W, Below B w W → Calls Tryd.prog 29 #[.slice a0 x.b.length c0] W fun e w' => ∃ u, e = .returned u ∧ OwnB w' W.heap.size u x.b ∧ Below W.heap.size W w') := Bx.mk fun W h => clone_any x.b _ W (hb.old hB h) (by have := (chkP_ok hc).2.2.2.2.1; omega)
  have HTg : Bx (∀ W u, Below B w W → Parts W u [hdB x] → Calls Tryd.prog 30 #[vk, u] W fun e w' => e = .returned (.agg (u8s (tagK bs x))) ∧ Below W.heap.size W w') := Bx.mk fun W u h hu => by
    have hb' : Below w.heap.size w W := by rw [hB]; exact h
    have := ktag_any bs [hdB x] vk u W (hk.later hb') hu hkl (by simp) (by simp [hdB_length]; have := (chkP_ok hc).2.2.2.2.1; omega) (hTab.later hb' hg) (Nat.lt_of_lt_of_le hg hb'.size)
    rw [show [hdB x].flatten = hdB x by simp] at this
    exact this
  have HIx := Bx.mk (pk_infoW x (.slice a0 x.b.length c0) ht)
  have HAt : Bx (∀ W, KP w B [(B + 1, .cells zc 33), (B, .cells (pkC x (.slice a0 x.b.length c0)) 33)] W → PkAt W B x (.slice a0 x.b.length c0)) := Bx.mk fun W h => pk_at (h.rows _ (.tail _ (.head _)))
  have HSt := Bx.mk fun (W : World) (u : Value) (h : W.heap[B]? = some (.cells (pkC x (.slice a0 x.b.length c0)) 33 (0, 0))) => pk_store W B 33 x (.slice a0 x.b.length c0) u (tagK bs x) h ht (tagK_length _ _)
  have HSk : Bx ((Tryd.prog.info? 27).map (·.size) = some (u8s (tagK bs x)).size) := Bx.mk (by rw [u8s_size, tagK_length]; kernel_rfl)
  have HL : Bx (x.b.length ≤ 512) := Bx.mk (chkP_ok hc).2.2.2.2.1
  have HIz : Bx (∀ a n c, (Tryd.prog.info? 33).map (·.size) = some (pkC (tgP bs x) (.slice a n c)).size ∧ (pkC (tgP bs x) (.slice a n c)).size = zc.size ∧ (pkC (tgP bs x) (.slice a n c)).all (·.oneCell') = true) := Bx.mk fun a n c => ⟨pk_infoW _ _ (tagK_length _ _), by rw [HZ.out, pkC_size _ _ (tagK_length _ _)], pkC_one _ _ _ _⟩
  obtain ⟨tk, htk⟩ : ∃ tk, pkC x (.slice a0 x.b.length c0) = tk := ⟨_, rfl⟩
  have HTK := Bx.mk htk
  unfold pkV at HHd
  unfold pkV
  rw [htk] at H0 HHd HIx HAt HSt ⊢
  rw [hB]
  obtain ⟨p, s0, rfl, -, -⟩ := hk
  unfold tgP at HIz ⊢
  generalize tagK bs x = sk at *
  generalize hdB x = hd at *
  clear hzc htk hb ht hkl hc hTab hg
  have k0 := (HAt.out _ H0.out).k
  go_enter Tryd.func9, Tryd.ntmps9
  go_wp2_with fail
  generalize (w.alloc (.cells tk 33)).alloc (.cells zc 33) = w0 at *
  refine (plain14 x.k _ hp w0).mono ?_
  rintro e w1 ⟨rfl, rfl⟩
  go_wp2_with (refine wpList_load_row rfl 33 _ rfl B (by rfl) _ _ _ _ (H0.out.rows _ (.tail _ (.head _))) Tryd.underlying33 rfl HIx.out ?_)
  refine (HHd.out w0 H0.out.below).mono ?_
  rintro e w2 ⟨u2, rfl, ho2, hb2⟩
  have H2 := Bx.mk (And.intro (H0.out.later hb2) ho2.bytes)
  obtain ⟨a2, c2, hv2⟩ := own_form ho2
  subst hv2
  clear hb2 ho2 H0 HHd k0
  have k8 := (HAt.out _ H2.out.1).b
  go_wp2_with fail
  refine (HCl.out w2 H2.out.1.below).mono ?_
  rintro e w3 ⟨u3, rfl, ho3, hb3⟩
  have H3 := Bx.mk (And.intro (H2.out.1.later hb3) (And.intro (H2.out.2.later hb3) (ho3.weak (show B + 2 ≤ w2.heap.size by have := H2.out.1.lt (x := (B + 1, _)) (.head _); simp only at this; omega))))
  obtain ⟨a3, c3, hv3⟩ := own_form ho3
  subst hv3
  clear hb3 ho3 H2 HCl k8
  have H4 := Bx.mk (And.intro (H3.out.1.alloc (.cells #[.slice a2 hd.length c2] 26)) (And.intro (one_part H3.out.2.1) (own_a H3.out.2.2 (.cells #[.slice a2 hd.length c2] 26))))
  clear H3
  go_wp2_with fail
  generalize w3.alloc (.cells #[.slice a2 hd.length c2] 26) = w4 at *
  generalize w3.heap.size = G at *
  refine (HTg.out w4 _ H4.out.1.below H4.out.2.1).mono ?_
  rintro e w5 ⟨rfl, hb5⟩
  have H5 := Bx.mk (And.intro (H4.out.1.later hb5) (H4.out.2.2.later hb5 (fun g hg => (H4.out.2.2.lt g hg).1)))
  clear hb5 H4
  have HR := Bx.mk (HSt.out w5 (.slice a3 x.b.length c3) (H5.out.1.rows _ (.tail _ (.head _))))
  have hfz : w5.frozen? ⟨B, 8, none⟩ = false := frozen_of_row _ _ _ _ _ (H5.out.1.rows _ (.tail _ (.head _)))
  have k8 := (HAt.out _ H5.out.1).b
  clear HSt
  skip -- M1
  go_upto_region 9 with (refine wpList_store_mid rfl 27 _ _ rfl B 9 (u8s sk) (by rfl) (by rfl) HR.out.2.1 HSk.out (one_u8s _) ?_)
  skip -- M2
  have H6 := Bx.mk (And.intro (H5.out.1.swap.set HR.out.2.2 HR.out.1 (Nat.le_refl _) (by intro y hy; simp at hy; subst hy; simp only; omega)).swap (H5.out.2.kept HR.out.2.2 (fun e => by have := (H5.out.2.lt _ e).2; omega)))
  generalize (w5.setCell ⟨B, 8, none⟩ (.slice a3 x.b.length c3)).setCells B 9 (u8s sk).toList = w6 at *
  have HJ := Bx.mk (HIz.out a3 x.b.length c3)
  clear H5 HR hfz k8 HIz
  obtain ⟨tz, htz⟩ : ∃ tz, pkC { x with t := sk } (.slice a3 x.b.length c3) = tz := ⟨_, rfl⟩
  have HTZ := Bx.mk htz
  rw [htz] at H6 HJ
  clear htz
  go_wp2_with (first | (refine wpList_load_row rfl 33 _ rfl B (by rfl) _ _ _ _ (H6.out.1.rows _ (.tail _ (.head _))) Tryd.underlying33 rfl HJ.out.1 ?_) | (refine wpList_store_new rfl 33 _ _ rfl (B + 1) tz zc _ (by rfl) (by rfl) (H6.out.1.rows _ (.head _)) HJ.out.2.1 HJ.out.1 HJ.out.2.2 ?_; intro w8 hw8 hr8; have hg8 := Bx.mk (kb_ofP hw8); have HR8 := Bx.mk hr8; clear hw8 hr8))
  refine bodyPost_ret (results_pair rfl _ _ _ (B + 1) _ rfl (run_loadVar_row _ (B + 1) _ _ _ _ _ HR8.out Tryd.underlying33 rfl HJ.out.1)) rfl ?_
  exact ⟨_, by rw [HTZ.out]; rfl, (H6.out.2.kept hg8.out (fun e => by have := (H6.out.2.lt _ e).2; omega)).weak (by omega), H6.out.1.below.trans (grown_below hg8.out (by omega) H6.out.1.le)⟩
end Go.Proofs.YtaoekfomffebhaaDoor
namespace Go.Proofs.YtaoekfomffebhaaDoor
open Go Go.ChangeShapes Go.WideShapes Go.ChangeAt Go.RowKit
set_option maxRecDepth 100000 in
set_option maxHeartbeats 4000000 in
theorem holds14_ok (x : Pk) (v : Value) (bs : List UInt8) (vk : Value) (w : World) (ht : x.t.length = 32) (hb : Bytes w v x.b) (hk : IsKey w vk bs) (hkl : bs.length ≤ 1000000) (hp : plainB x.k = false) (hc : chkP x = 0) (hTab : Tab w) (hg : 1 < w.heap.size) (d : Bool) (hd : d = true ↔ tagK bs x = x.t) : Calls Tryd.prog 12 #[pkV x v, vk] w fun e w' => e = .returned (.bool d) ∧ Below w.heap.size w w' := by
  obtain ⟨a0, c0, rfl, -, -⟩ := bytes_form hb
  obtain ⟨zc, hzc⟩ : ∃ zc, pkC Pk.zero (.slice none 0 0) = zc := ⟨_, rfl⟩
  have hzv : ∀ W : World, (zeroValue 33).run Tryd.prog W = .ok (.agg zc) W := fun W => by rw [← hzc]; exact pk_zeroW W
  obtain ⟨B, hB⟩ : ∃ B, w.heap.size = B := ⟨_, rfl⟩
  have H0 := Bx.mk ((KP.start w B hB).new (.cells (pkC x (.slice a0 x.b.length c0)) 33))
  rw [hB] at H0
  have HIx := Bx.mk (pk_infoW x (.slice a0 x.b.length c0) ht)
  have HT : Bx (∀ W, Below B w W → Calls Tryd.prog 9 #[pkV x (.slice a0 x.b.length c0), vk] W fun e w' => ∃ u, e = .returned (.tuple #[pkV (tgP bs x) u, .int .i64 0]) ∧ OwnB w' W.heap.size u (tgP bs x).b ∧ Below W.heap.size W w') := Bx.mk fun W h => by
    have hb' : Below w.heap.size w W := by rw [hB]; exact h
    exact tagged_ok x _ bs vk W ht (hb.later hb') (hk.later hb') hkl hp hc (hTab.later hb' hg) (Nat.lt_of_lt_of_le hg hb'.size)
  have HTl : Bx ((tgP bs x).t.length = 32 ∧ (tgP bs x).t = tagK bs x ∧ x.t.length = 32) := Bx.mk ⟨tagK_length _ _, rfl, ht⟩
  have HD := Bx.mk hd
  have HAt : Bx (∀ W, W.heap[B]? = some (.cells (pkC x (.slice a0 x.b.length c0)) 33 (0, 0)) → PkAt W B x (.slice a0 x.b.length c0)) := Bx.mk fun W h => pk_at h
  obtain ⟨p, s0, rfl, -, -⟩ := hk
  obtain ⟨tk, htk⟩ : ∃ tk, pkC x (.slice a0 x.b.length c0) = tk := ⟨_, rfl⟩
  unfold pkV at HT
  unfold pkV
  rw [htk] at H0 HT HIx HAt ⊢
  rw [hB]
  have HZ := Bx.mk (show zc.size = 41 by rw [← hzc, pkC_size _ _ rfl])
  clear hkl hp hc hTab hg hd
  generalize tagK bs x = sk at *
  generalize tgP bs x = y at *
  clear hzc htk hb ht
  go_enter Tryd.func12, Tryd.ntmps12
  go_wp2_with (refine wpList_load_row rfl 33 _ rfl B (by rfl) _ _ _ _ (H0.out.rows _ (.head _)) Tryd.underlying33 rfl HIx.out ?_)
  generalize w.alloc (.cells tk 33) = w0 at *
  refine (HT.out w0 H0.out.below).mono ?_
  rintro e w1 ⟨u1, rfl, ho1, hb1⟩
  have H1 := Bx.mk (H0.out.later hb1)
  obtain ⟨a1, c1, hv1⟩ := own_form ho1
  subst hv1
  clear ho1 hb1 H0 HT
  have HJ : Bx ((Tryd.prog.info? 33).map (·.size) = some (pkC y (.slice a1 y.b.length c1)).size ∧ (pkC y (.slice a1 y.b.length c1)).size = zc.size ∧ (pkC y (.slice a1 y.b.length c1)).all (·.oneCell') = true) := Bx.mk ⟨pk_infoW _ _ HTl.out.1, by rw [HZ.out, pkC_size _ _ HTl.out.1], pkC_one _ _ _ _⟩
  obtain ⟨tz, htz⟩ : ∃ tz, pkC y (.slice a1 y.b.length c1) = tz := ⟨_, rfl⟩
  have HTz : Bx (∀ (W : World) D, W.heap[D]? = some (.cells tz 33 (0, 0)) → PkAt W D y (.slice a1 y.b.length c1)) := Bx.mk fun W D h => by
    rw [← htz] at h
    exact pk_at h
  rw [htz] at HJ ⊢
  clear htz
  obtain ⟨D, hD⟩ : ∃ D, w1.heap.size = D := ⟨_, rfl⟩
  have HDB : Bx (B < D) := Bx.mk (by rw [← hD]; exact H1.out.lt (.head _))
  have H2 := Bx.mk (H1.out.new (.cells zc 33))
  rw [hD] at H2
  clear H1
  go_upto_region 2 with (first | (refine wpList_store_new rfl 33 _ _ rfl D tz zc _ (by rfl) (by rfl) (H2.out.rows _ (.head _)) HJ.out.2.1 HJ.out.1 HJ.out.2.2 ?_; intro w3 hw8 hr8; have hg8 := Bx.mk (kb_ofP hw8); have HR8 := Bx.mk hr8; clear hw8 hr8))
  have H3 := Bx.mk (H2.out.set hg8.out HR8.out (Nat.le_of_lt HDB.out) (by intro y hy; have := HDB.out; simp at hy; subst hy; simp only; omega)).drew
  clear H2 hg8 HR8 hzv hD
  refine wp_region_noPanic ?_
  refine wp_region_held_drew (S := fun _ => True) (by kernel_rfl) (trivial) (fun hHeld => ?_)
  generalize w3.drew = W0 at *
  refine takeL 0 (v := ?_) rfl (by kernel_rfl) (by kernel_rfl) (by kernel_rfl) (fun _ _ _ h => h) (Or.inl ⟨by rfl, ?_⟩) hHeld ?_
  rotate_left 1
  · (intro w hSw; go_simp; try with_reducible rfl)
  try simp only [Act.put, List.setIfInBounds_toArray, List.set_cons_zero, List.set_cons_succ]
  refine takeL 1 (v := ?_) rfl (by kernel_rfl) (by kernel_rfl) (by kernel_rfl) (fun _ _ _ h => h) (Or.inl ⟨by rfl, ?_⟩) hHeld ?_
  rotate_left 1
  · (intro w hSw; go_simp; try with_reducible rfl)
  try simp only [Act.put, List.setIfInBounds_toArray, List.set_cons_zero, List.set_cons_succ]
  refine takeL 2 (v := ?_) rfl (by kernel_rfl) (by kernel_rfl) (by kernel_rfl) (fun _ _ _ h => h) (Or.inl ⟨by rfl, ?_⟩) hHeld ?_
  rotate_left 1
  · (intro w hSw; go_simp; try with_reducible rfl)
  try simp only [Act.put, List.setIfInBounds_toArray, List.set_cons_zero, List.set_cons_succ]
  refine takeL 3 (v := ?_) rfl (by kernel_rfl) (by kernel_rfl) (by kernel_rfl) (fun _ _ _ h => h) (Or.inl ⟨by rfl, ?_⟩) hHeld ?_
  rotate_left 1
  · (intro w hSw; go_simp; try with_reducible rfl)
  try simp only [Act.put, List.setIfInBounds_toArray, List.set_cons_zero, List.set_cons_succ]
  refine takeL 4 (v := ?_) rfl (by kernel_rfl) (by kernel_rfl) (by kernel_rfl) (fun _ _ _ h => h) (Or.inl ⟨by rfl, ?_⟩) hHeld ?_
  rotate_left 1
  · (intro w hSw; go_simp; try with_reducible rfl)
  try simp only [Act.put, List.setIfInBounds_toArray, List.set_cons_zero, List.set_cons_succ]
  refine takeL 5 (v := ?_) rfl (by kernel_rfl) (by kernel_rfl) (by kernel_rfl) (fun _ _ _ h => h) (Or.inl ⟨by rfl, ?_⟩) hHeld ?_
  rotate_left 1
  · (intro w hSw; go_simp; try with_reducible rfl)
  try simp only [Act.put, List.setIfInBounds_toArray, List.set_cons_zero, List.set_cons_succ]
  refine takeL 6 (v := ?_) rfl (by kernel_rfl) (by kernel_rfl) (by kernel_rfl) (fun _ _ _ h => h) (Or.inl ⟨by rfl, ?_⟩) hHeld ?_
  rotate_left 1
  · (intro w hSw; go_simp; try with_reducible rfl)
  try simp only [Act.put, List.setIfInBounds_toArray, List.set_cons_zero, List.set_cons_succ]
  refine stepL 7 (by kernel_rfl) rfl (fun K hK => ?_)
  go_simp
  refine (equal_any y.t x.t _ _ W0 ((HTz.out W0 D (H3.out.rows _ (.head _))).tag HTl.out.1) ((HAt.out W0 (H3.out.rows _ (.tail _ (.head _)))).tag HTl.out.2.2) (by rw [HTl.out.1]; omega) (by rw [HTl.out.2.2]; omega)).mono ?_
  rintro e W1 ⟨rfl, nd, rfl⟩
  show K _ _
  rw [show decide (y.t = x.t) = d by rw [HTl.out.2.1]; cases d with | true => exact decide_eq_true (HD.out.1 rfl) | false => exact decide_eq_false fun e => by simpa using HD.out.2 e]
  have H4 := Bx.mk (below_drewN H3.out.below nd)
  refine hK.out _ _ trivial (fun hHeld => ?_)
  clear hK K
  try simp only [Act.put, List.setIfInBounds_toArray, List.set_cons_zero, List.set_cons_succ]
  refine takeL 8 (v := ?_) rfl (by kernel_rfl) (by kernel_rfl) (by kernel_rfl) (fun _ _ _ h => h) (Or.inl ⟨by rfl, ?_⟩) hHeld ?_
  rotate_left 1
  · (intro w hSw; go_simp; try with_reducible rfl)
  try simp only [Act.put, List.setIfInBounds_toArray, List.set_cons_zero, List.set_cons_succ]
  refine takeL 9 (v := ?_) rfl (by kernel_rfl) (by kernel_rfl) (by kernel_rfl) (fun _ _ _ h => h) (Or.inl ⟨by rfl, ?_⟩) hHeld ?_
  rotate_left 1
  · (intro w hSw; go_simp; try with_reducible rfl)
  try simp only [Act.put, List.setIfInBounds_toArray, List.set_cons_zero, List.set_cons_succ]
  refine wpAnyH_done (by kernel_rfl) ?_ _
  refine NoPanic.normal ?_
  clear hHeld
  try go_wp2
  go_ret
  exact ⟨rfl, H4.out⟩
set_option maxRecDepth 100000 in
set_option maxHeartbeats 4000000 in
theorem holds14_err (x : Pk) (v : Value) (code : Int) (q : Option Addr) (w : World) (ht : x.t.length = 32) (hb : Bytes w v x.b) (hcode : code ≠ 0) (hT : ∀ W, Below w.heap.size w W → Calls Tryd.prog 9 #[pkV x v, .pointer q] W fun e w' => e = .returned (.tuple #[pkV Pk.zero (.slice none 0 0), .int .i64 code]) ∧ Below W.heap.size W w') : Calls Tryd.prog 12 #[pkV x v, .pointer q] w fun e w' => e = .returned (.bool false) ∧ Below w.heap.size w w' := by
  obtain ⟨a0, c0, rfl, -, -⟩ := bytes_form hb
  obtain ⟨zc, hzc⟩ : ∃ zc, pkC Pk.zero (.slice none 0 0) = zc := ⟨_, rfl⟩
  have hzv : ∀ W : World, (zeroValue 33).run Tryd.prog W = .ok (.agg zc) W := fun W => by rw [← hzc]; exact pk_zeroW W
  obtain ⟨B, hB⟩ : ∃ B, w.heap.size = B := ⟨_, rfl⟩
  have H0 := Bx.mk ((KP.start w B hB).new (.cells (pkC x (.slice a0 x.b.length c0)) 33))
  rw [hB] at H0
  have HIx := Bx.mk (pk_infoW x (.slice a0 x.b.length c0) ht)
  have HT : Bx (∀ W, Below B w W → Calls Tryd.prog 9 #[pkV x (.slice a0 x.b.length c0), .pointer q] W fun e w' => e = .returned (.tuple #[pkV Pk.zero (.slice none 0 0), .int .i64 code]) ∧ Below W.heap.size W w') := Bx.mk fun W h => hT W (by rw [hB]; exact h)
  have HJ : Bx ((Tryd.prog.info? 33).map (·.size) = some zc.size ∧ zc.size = zc.size ∧ zc.all (·.oneCell') = true) := Bx.mk ⟨by rw [← hzc]; exact pk_infoW _ _ rfl, rfl, by rw [← hzc]; exact pkC_one _ _ _ _⟩
  obtain ⟨tk, htk⟩ : ∃ tk, pkC x (.slice a0 x.b.length c0) = tk := ⟨_, rfl⟩
  unfold pkV at HT
  unfold pkV
  rw [htk] at H0 HT HIx ⊢
  rw [hB]
  rw [hzc] at HT
  clear hT
  clear hzc htk hb ht
  go_enter Tryd.func12, Tryd.ntmps12
  go_wp2_with (refine wpList_load_row rfl 33 _ rfl B (by rfl) _ _ _ _ (H0.out.rows _ (.head _)) Tryd.underlying33 rfl HIx.out ?_)
  generalize w.alloc (.cells tk 33) = w0 at *
  refine (HT.out w0 H0.out.below).mono ?_
  rintro e w1 ⟨rfl, hb1⟩
  have H1 := Bx.mk (H0.out.later hb1)
  clear hb1 H0 HT
  obtain ⟨D, hD⟩ : ∃ D, w1.heap.size = D := ⟨_, rfl⟩
  have HDB : Bx (B < D) := Bx.mk (by rw [← hD]; exact H1.out.lt (.head _))
  have H2 := Bx.mk (H1.out.new (.cells zc 33))
  rw [hD] at H2
  clear H1
  go_upto_region 2 with (first | (refine wpList_store_new rfl 33 _ _ rfl D zc zc _ (by rfl) (by rfl) (H2.out.rows _ (.head _)) rfl HJ.out.1 HJ.out.2.2 ?_; intro w3 hw8 hr8; have hg8 := Bx.mk (kb_ofP hw8); have HR8 := Bx.mk hr8; clear hw8 hr8))
  have H3 := Bx.mk (H2.out.set hg8.out HR8.out (Nat.le_of_lt HDB.out) (by intro y hy; have := HDB.out; simp at hy; subst hy; simp only; omega)).drew
  clear H2 hg8 HR8 hzv hD
  have hcd : decide (code = 0) = false := decide_eq_false hcode
  refine wp_region_noPanic ?_
  refine wp_region_held_drew (S := fun _ => True) (by kernel_rfl) (trivial) (fun hHeld => ?_)
  generalize w3.drew = W0 at *
  refine takeL 0 (v := ?_) rfl (by kernel_rfl) (by kernel_rfl) (by kernel_rfl) (fun _ _ _ h => h) (Or.inl ⟨by rfl, ?_⟩) hHeld ?_
  rotate_left 1
  · (intro w hSw; go_simp; try with_reducible rfl)
  try simp only [Act.put, List.setIfInBounds_toArray, List.set_cons_zero, List.set_cons_succ]
  refine takeL 1 (v := .bool false) rfl (by kernel_rfl) (by kernel_rfl) (by kernel_rfl) (fun _ _ _ h => h) (Or.inl ⟨by rfl, ?_⟩) hHeld ?_
  · (intro w hSw; go_simp; try with_reducible rfl)
  try simp only [Act.put, List.setIfInBounds_toArray, List.set_cons_zero, List.set_cons_succ]
  refine takeL 2 (v := ?_) rfl (by kernel_rfl) (by kernel_rfl) (by kernel_rfl) (fun _ _ _ h => h) (Or.inl ⟨by rfl, ?_⟩) hHeld ?_
  rotate_left 1
  · (intro w hSw; go_simp; try with_reducible rfl)
  try simp only [Act.put, List.setIfInBounds_toArray, List.set_cons_zero, List.set_cons_succ]
  refine takeL 3 (v := undef) rfl (by kernel_rfl) (by kernel_rfl) (by kernel_rfl) (fun _ _ _ h => h) (Or.inr ⟨by rfl, rfl⟩) hHeld ?_
  try simp only [Act.put, List.setIfInBounds_toArray, List.set_cons_zero, List.set_cons_succ]
  refine takeL 4 (v := undef) rfl (by kernel_rfl) (by kernel_rfl) (by kernel_rfl) (fun _ _ _ h => h) (Or.inr ⟨by rfl, rfl⟩) hHeld ?_
  try simp only [Act.put, List.setIfInBounds_toArray, List.set_cons_zero, List.set_cons_succ]
  refine takeL 5 (v := undef) rfl (by kernel_rfl) (by kernel_rfl) (by kernel_rfl) (fun _ _ _ h => h) (Or.inr ⟨by rfl, rfl⟩) hHeld ?_
  try simp only [Act.put, List.setIfInBounds_toArray, List.set_cons_zero, List.set_cons_succ]
  refine takeL 6 (v := undef) rfl (by kernel_rfl) (by kernel_rfl) (by kernel_rfl) (fun _ _ _ h => h) (Or.inr ⟨by rfl, rfl⟩) hHeld ?_
  try simp only [Act.put, List.setIfInBounds_toArray, List.set_cons_zero, List.set_cons_succ]
  refine takeL 7 (v := undef) rfl (by kernel_rfl) (by kernel_rfl) (by kernel_rfl) (fun _ _ _ h => h) (Or.inr ⟨by rfl, rfl⟩) hHeld ?_
  try simp only [Act.put, List.setIfInBounds_toArray, List.set_cons_zero, List.set_cons_succ]
  refine takeL 8 (v := ?_) rfl (by kernel_rfl) (by kernel_rfl) (by kernel_rfl) (fun _ _ _ h => h) (Or.inl ⟨by rfl, ?_⟩) hHeld ?_
  rotate_left 1
  · (intro w hSw; go_simp; try with_reducible rfl)
  try simp only [Act.put, List.setIfInBounds_toArray, List.set_cons_zero, List.set_cons_succ]
  refine takeL 9 (v := ?_) rfl (by kernel_rfl) (by kernel_rfl) (by kernel_rfl) (fun _ _ _ h => h) (Or.inl ⟨by rfl, ?_⟩) hHeld ?_
  rotate_left 1
  · (intro w hSw; go_simp; try with_reducible rfl)
  try simp only [Act.put, List.setIfInBounds_toArray, List.set_cons_zero, List.set_cons_succ]
  refine wpAnyH_done (by kernel_rfl) ?_ _
  refine NoPanic.normal ?_
  clear hHeld
  try go_wp2
  go_ret
  exact ⟨rfl, H3.out.below⟩
end Go.Proofs.YtaoekfomffebhaaDoor
namespace Go.Proofs.YtaoekfomffebhaaDoor
open Go Go.ChangeShapes Go.WideShapes Go.ChangeAt Go.RowKit
theorem alloc_sizeQ (w : World) (o : Obj) : (w.alloc o).heap.size = w.heap.size + 1 := by simp
set_option maxRecDepth 100000 in
set_option maxHeartbeats 4000000 in
theorem some_own (q : Nat) (b more : List UInt8) (er : Int) (w : World) (hb : b.length ≤ 512) (h : IsR w q (beN 2 b.length ++ (b ++ more)) er) (hl : more.length ≤ 5000) :
    Calls Tryd.prog 94 #[.pointer (some ⟨q, 0, none⟩)] w fun e w' => ∃ v', e = .returned (.tuple #[v', .int .i64 0]) ∧ OwnB w' w.heap.size v' b ∧ IsR w' q more er ∧ w.grownBy w' (some q) := by
  have HN := Bx.mk (rnumber_ok q 1 b.length (b ++ more) er w (by omega) (by omega) (by simp [wid]; omega) (by omega) h (by rw [List.length_append]; omega))
  have HL : Bx (b.length ≤ 512 ∧ more.length ≤ 5000) := Bx.mk ⟨hb, hl⟩
  obtain ⟨L, hL⟩ : ∃ n, b.length = n := ⟨_, rfl⟩
  have HLe := Bx.mk hL
  rw [hL] at HN hb
  have hb1 : (L : Int) ≤ 512 := by omega
  clear h hl hL hb
  go_enter Tryd.func94, Tryd.ntmps94
  go_wp2_with fail
  refine HN.out.mono ?_
  rintro e w1 ⟨rfl, hr1, hg1⟩
  have H1 := Bx.mk (And.intro hr1 hg1)
  have HT := Bx.mk (take_ok q _ er L w1 hr1 (by rw [List.length_append, HLe.out]; omega) (by have := HL.out; rw [List.length_append]; omega))
  have e1 : (b ++ more).take L = b := by rw [List.take_left' HLe.out]
  have e2 : (b ++ more).drop L = more := by rw [List.drop_left' HLe.out]
  rw [e1, e2] at HT
  clear hr1 hg1 HN e1 e2
  go_wp2_with fail
  refine HT.out.mono ?_
  rintro e w2 ⟨v2, rfl, hb2, hr2, hg2⟩
  have H2 := Bx.mk (And.intro hb2 (And.intro hr2 (kb_trans H1.out.2 hg2)))
  obtain ⟨⟨a2, c2, rfl, -⟩, -⟩ := hb2
  rw [HLe.out] at H2
  rw [HLe.out]
  clear hr2 hg2 H1 HT
  go_wp2_with fail
  refine (clone_any b _ w2 H2.out.1.1 (by have := HL.out; omega)).mono ?_
  rintro e w3 ⟨v3, rfl, ho3, hb3⟩
  have H3 : Bx (OwnB w3 w.heap.size v3 b ∧ IsR w3 q more er ∧ w.grownBy w3 (some q)) := Bx.mk ⟨ho3.weak H2.out.2.2.size, H2.out.2.1.later hb3, kb_trans H2.out.2.2 (kb_below _ hb3)⟩
  clear ho3 hb3 H2
  go_wp2
  go_ret2
  exact ⟨_, rfl, H3.out⟩
set_option maxRecDepth 100000 in
set_option maxHeartbeats 4000000 in
theorem field_own (q : Nat) (b more : List UInt8) (er : Int) (w : World) (hbl : b.length ≤ 512) (h : IsR w q (beN 2 b.length ++ (b ++ more)) er) (hl : more.length ≤ 5000) :
    Calls Tryd.prog 86 #[.pointer (some ⟨q, 0, none⟩), .int .i64 4] w fun e w' => ∃ vb, e = .returned (.tuple #[.agg #[.int .i64 4, .int .i64 0, vb], .int .i64 0]) ∧ OwnB w' w.heap.size vb b ∧ IsR w' q more er ∧ w.grownBy w' (some q) := by
  have hq := h.lt
  have HA : Bx (Below w.heap.size w (w.alloc (.cells #[.int .i64 0, .int .i64 0, .slice none 0 0] 96))) := Bx.mk (below_a _)
  have HS := Bx.mk (some_own q b more er _ hbl (h.later HA.out) hl)
  have hkk : (decide ((0 : Int) ≤ 4) && decide ((4 : Int) ≤ 4)) = true := by simp
  clear h hl hbl
  go_enter Tryd.func86, Tryd.ntmps86
  go_wp2_with fail
  refine (known_any 4 _).mono ?_
  rintro e w1 ⟨rfl, rfl⟩
  rw [hkk]
  go_wp2_with fail
  refine HS.out.mono ?_
  rintro e w2 ⟨v2, rfl, hb2, hr2, hg2⟩
  have HR2 : Bx (w2.heap[w.heap.size]? = some (.cells #[.int .i64 0, .int .i64 0, .slice none 0 0] 96 (0, 0))) := Bx.mk (by rw [hg2.block _ (by simp) (fun e => by injection e with e; omega), hnew _ _ _ rfl])
  have H2 := Bx.mk (And.intro hb2 (And.intro hr2 (kb_trans (kb_below (some q) HA.out) hg2)))
  obtain ⟨a2, c2, hv2⟩ := own_form hb2
  subst hv2
  clear hr2 hg2 HS HA hb2
  generalize b.length = L at *
  obtain ⟨D, hD⟩ : ∃ D, w.heap.size = D := ⟨_, rfl⟩
  have HD : Bx (w.heap.size = D ∧ q ≠ D) := Bx.mk ⟨hD, by omega⟩
  rw [alloc_sizeQ] at H2
  rw [hD] at HR2 H2 ⊢
  clear hD hq
  go_wp2_with (refine wpList_store_new rfl 96 _ _ rfl D #[.int .i64 4, .int .i64 0, .slice a2 L c2] _ _ (by rfl) (by rfl) HR2.out rfl (by kernel_rfl) (by simp [Value.oneCell']) ?_; intro w3 hw3 hr3; have hg3 : Bx (w2.grownBy w3 (some D)) := Bx.mk (by rw [hw3]; exact kb_setCells _ _ _); have HR3 := Bx.mk hr3; clear hw3 hr3)
  have hg3 := hg3.out
  have hr3 := HR3.out
  have H3 := Bx.mk (And.intro (H2.out.1.kept hg3 (fun e => by have := (H2.out.1.lt _ e).2; omega)) (And.intro (H2.out.2.1.aside HR2.out (fun x e => by cases e) hg3 HD.out.2) (kb_new H2.out.2.2 hg3 (Nat.le_of_eq HD.out.1))))
  refine bodyPost_ret (results_pair rfl _ _ _ D _ rfl (run_loadVar_row _ D _ _ _ _ _ hr3 Tryd.underlying96 rfl (by kernel_rfl))) rfl ?_
  exact ⟨_, rfl, H3.out.1.weak (by have := HD.out.1; omega), H3.out.2⟩
set_option maxRecDepth 100000 in
set_option maxHeartbeats 4000000 in
theorem get_own (q : Nat) (b more : List UInt8) (w : World) (hc : b.length ≤ 512) (h : IsR w q (beN 2 b.length ++ (b ++ more)) 0) (hl : more.length ≤ 5000) :
    Calls Tryd.prog 78 #[.pointer (some ⟨q, 0, none⟩), .int .i64 4] w fun e w' => ∃ vb, e = .returned (.agg #[.int .i64 4, .int .i64 0, vb]) ∧ OwnB w' w.heap.size vb b ∧ IsR w' q more 0 ∧ w.grownBy w' (some q) := by
  have hq := h.lt
  have HA : Bx (Below w.heap.size w (w.alloc (.cells #[.int .i64 0, .int .i64 0, .slice none 0 0] 96))) := Bx.mk (below_a _)
  have HR := Bx.mk (h.later HA.out)
  have HF := Bx.mk (field_own q b more 0 _ hc (h.later HA.out) hl)
  clear hc h hl
  go_enter Tryd.func78, Tryd.ntmps78
  go_wp2_with fail
  refine (rerr_any q _ 0 _ HR.out).mono ?_
  rintro e w1 ⟨rfl, rfl⟩
  go_wp2_with fail
  refine HF.out.mono ?_
  rintro e w2 ⟨vb, rfl, hb2, hr2, hg2⟩
  have HR2 : Bx (w2.heap[w.heap.size]? = some (.cells #[.int .i64 0, .int .i64 0, .slice none 0 0] 96 (0, 0))) := Bx.mk (by rw [hg2.block _ (by simp) (fun e => by injection e with e; omega), hnew _ _ _ rfl])
  obtain ⟨D, hD⟩ : ∃ D, w.heap.size = D := ⟨_, rfl⟩
  have HD : Bx (w.heap.size = D ∧ q ≠ D) := Bx.mk ⟨hD, by omega⟩
  rw [hD] at HR2 ⊢
  have hD2 : D < w2.heap.size := (Array.getElem?_eq_some_iff.1 HR2.out).1
  rw [alloc_sizeQ, hD] at hb2
  obtain ⟨a2, c2, hvb⟩ := own_form hb2
  subst hvb
  have H3 : Bx (OwnB (w2.alloc (.cells #[.int .i64 4, .int .i64 0, .slice a2 b.length c2] 96)) (D + 1) (.slice a2 b.length c2) b ∧ IsR (w2.alloc (.cells #[.int .i64 4, .int .i64 0, .slice a2 b.length c2] 96)) q more 0 ∧ w.grownBy (w2.alloc (.cells #[.int .i64 4, .int .i64 0, .slice a2 b.length c2] 96)) (some q) ∧ (w2.alloc (.cells #[.int .i64 4, .int .i64 0, .slice a2 b.length c2] 96)).heap[D]? = some (.cells #[.int .i64 0, .int .i64 0, .slice none 0 0] 96 (0, 0))) :=
    Bx.mk ⟨own_a hb2 _, hr2.later (below_a _), kb_trans (kb_trans (kb_below (some q) HA.out) hg2) (kb_below _ (below_a _)), by rw [(below_a _).block D hD2]; exact HR2.out⟩
  clear hb2 hr2 hg2 HR2 HA HR HF hD hq
  generalize b.length = L at *
  have HX := Bx.mk (box_range w2 (.int .i64 4) (.int .i64 0) (.slice a2 L c2) 96)
  have hE : D ≠ w2.heap.size := by omega
  go_upto_region 4 with fail
  generalize w2.alloc (.cells #[.int .i64 4, .int .i64 0, .slice a2 L c2] 96) = wB at *
  generalize w2.heap.size = E at *
  clear hD2
  go_wp2_with (first | refine wpList_load_mid rfl 96 _ rfl E 0 (by rfl) _ _ HX.out Tryd.underlying96 rfl (by kernel_rfl) ?_ | (refine wpList_store_new rfl 96 _ _ rfl D #[.int .i64 4, .int .i64 0, .slice a2 L c2] _ _ (by rfl) (by rfl) H3.out.2.2.2 rfl (by kernel_rfl) (by simp [Value.oneCell']) ?_; intro w3 hw3 hr3; have hg3 : Bx (wB.grownBy w3 (some D)) := Bx.mk (by rw [hw3]; exact kb_setCells _ _ _); have HR3 := Bx.mk hr3; clear hw3 hr3))
  have hg3 := hg3.out
  have hr3 := HR3.out
  have H4 := Bx.mk (And.intro (H3.out.1.kept hg3 (fun e => by have := (H3.out.1.lt _ e).2; omega)) (And.intro (H3.out.2.1.aside H3.out.2.2.2 (fun x e => by cases e) hg3 HD.out.2) (kb_new H3.out.2.2.1 hg3 (Nat.le_of_eq HD.out.1))))
  refine bodyPost_ret (results_cell_row rfl _ _ D _ _ _ _ rfl hr3 Tryd.underlying96 rfl (by kernel_rfl)) rfl ?_
  exact ⟨_, rfl, H4.out.1.weak (by have := HD.out.1; omega), H4.out.2⟩
theorem get4_own (q : Nat) (l : List UInt8) (er : Int) (w : World) (h : IsR w q l er) (hl : l.length ≤ 5000) :
    Calls Tryd.prog 78 #[.pointer (some ⟨q, 0, none⟩), .int .i64 4] w fun e w' => ∃ vb, e = .returned (.agg #[.int .i64 (getR l er 4).1.s, .int .i64 (getR l er 4).1.n, vb]) ∧ OwnB w' w.heap.size vb (getR l er 4).1.b ∧ IsR w' q (getR l er 4).2.1 (getR l er 4).2.2 ∧ w.grownBy w' (some q) := by
  unfold getR
  by_cases he : er = 0
  · subst he
    rw [if_neg (by simp)]
    have hA := h.later (below_a (.cells #[.int .i64 0, .int .i64 0, .slice none 0 0] 96))
    have hA2 := hA.later (below_a (.cells #[.int .i64 0, .int .i64 0, .slice none 0 0] 96))
    have hq := hA.lt
    unfold getF
    rw [if_neg (by omega), if_pos rfl]
    by_cases h2 : l.length < 2
    · rw [if_pos h2]
      exact (get_fails q 4 4 l w (by omega) h (field_badS q 4 0 _ hq ((some_end q l 0 _ hA2 h2).mono fun e w' ⟨he, hw⟩ => ⟨he, ⟨l, by rw [hw]; exact hA2⟩, by rw [hw]; exact kb_refl _ _⟩))).mono fun e w' ⟨he, hr, hg⟩ => ⟨_, he, OwnB.nil _ _, hr, hg⟩
    · rw [if_neg h2]
      by_cases hc : 512 < valN (l.take 2)
      · rw [if_pos hc]
        exact (get_fails q 4 3 l w (by omega) h (field_badS q 3 0 _ hq ((some_long q l 0 _ hA2 (by omega) (by omega) hc).mono fun e w' ⟨he, hr, hg⟩ => ⟨he, ⟨_, hr⟩, hg⟩))).mono fun e w' ⟨he, hr, hg⟩ => ⟨_, he, OwnB.nil _ _, hr, hg⟩
      · rw [if_neg hc]
        by_cases hm : l.length - 2 < valN (l.take 2)
        · rw [if_pos hm]
          exact (get_fails q 4 4 l w (by omega) h (field_badS q 4 0 _ hq ((some_miss q l 0 _ hA2 (by omega) (by omega) (by omega) hm).mono fun e w' ⟨he, hr, hg⟩ => ⟨he, ⟨_, hr⟩, hg⟩))).mono fun e w' ⟨he, hr, hg⟩ => ⟨_, he, OwnB.nil _ _, hr, hg⟩
        · rw [if_neg hm]
          have hbl : ((l.drop 2).take (valN (l.take 2))).length = valN (l.take 2) := by rw [List.length_take, List.length_drop]; omega
          have he : beN 2 ((l.drop 2).take (valN (l.take 2))).length ++ ((l.drop 2).take (valN (l.take 2)) ++ (l.drop 2).drop (valN (l.take 2))) = l := by
            have h2l : (l.take 2).length = 2 := by rw [List.length_take]; omega
            have hv := beN_val (l.take 2)
            rw [h2l] at hv
            rw [hbl, hv, List.take_append_drop, List.take_append_drop]
          exact get_own q ((l.drop 2).take (valN (l.take 2))) _ w (by rw [hbl]; omega) (by rw [he]; exact h) (by rw [List.length_drop, List.length_drop]; omega)
  · rw [if_pos he]
    exact (get_bad q l er 4 w h he).mono fun e w' ⟨he, hb⟩ => ⟨_, he, OwnB.nil _ _, h.later hb, kb_below _ hb⟩
set_option maxRecDepth 100000 in
set_option maxHeartbeats 4000000 in
theorem rbyt_own (q : Nat) (z : Int) (l : List UInt8) (er : Int) (w : World) (h : IsR w q l er) (hl : l.length ≤ 5000) :
    Calls Tryd.prog 60 #[.pointer (some ⟨q, 0, none⟩), .int .i64 z] w fun e w' => ∃ v', e = .returned v' ∧ OwnB w' w.heap.size v' (bytR l er z).1 ∧ IsR w' q (bytR l er z).2.1 (bytR l er z).2.2 ∧ w.grownBy w' (some q) := by
  have HG := Bx.mk (get4_own q l er w h hl)
  unfold bytR
  clear h hl
  generalize getR l er 4 = g at *
  obtain ⟨⟨fs, fn, fb⟩, l', er'⟩ := g
  simp only at HG ⊢
  have hf := fld2g
  by_cases hz : z < (fb.length : Int)
  · rw [if_pos hz]
    obtain ⟨st, hst⟩ : ∃ st, (if er' = 0 then (([] : List UInt8), (3 : Int)) else (l', er')) = st := ⟨_, rfl⟩
    have HSt := Bx.mk hst
    rw [hst]
    clear hst
    obtain ⟨L, hL⟩ : ∃ n, fb.length = n := ⟨_, rfl⟩
    have HL := Bx.mk hL
    rw [hL] at hz
    clear hL
    go_enter Tryd.func60, Tryd.ntmps60
    go_wp2_with fail
    refine HG.out.mono ?_
    rintro e w1 ⟨vb, rfl, hb1, hr1, hg1⟩
    have H1 := Bx.mk (And.intro hr1 hg1)
    obtain ⟨ab, cb, hv9⟩ := own_form hb1
    subst hv9
    clear hr1 hg1 HG hb1
    rw [HL.out]
    go_wp2_with fail
    refine (fail_any q l' er' 3 w1 H1.out.1).mono ?_
    rintro e w2 ⟨⟨v2, rfl⟩, hr2, hg2⟩
    rw [HSt.out] at hr2
    have H2 := Bx.mk (And.intro hr2 (kb_trans H1.out.2 hg2))
    clear hr2 hg2 H1 HSt
    go_wp2
    go_ret
    exact ⟨_, rfl, OwnB.nil _ _, H2.out⟩
  · rw [if_neg hz]
    obtain ⟨L, hL⟩ : ∃ n, fb.length = n := ⟨_, rfl⟩
    have HL := Bx.mk hL
    rw [hL] at hz
    clear hL
    go_enter Tryd.func60, Tryd.ntmps60
    go_wp2_with fail
    refine HG.out.mono ?_
    rintro e w1 ⟨vb, rfl, hb1, hr1, hg1⟩
    have H1 := Bx.mk (And.intro hb1 (And.intro hr1 hg1))
    obtain ⟨ab, cb, hv9⟩ := own_form hb1
    subst hv9
    clear hr1 hg1 HG hb1
    rw [HL.out]
    rw [HL.out] at H1
    go_wp2
    go_ret
    exact ⟨_, rfl, H1.out.1, H1.out.2⟩
end Go.Proofs.YtaoekfomffebhaaDoor
namespace Go.Proofs.YtaoekfomffebhaaDoor
open Go Go.ChangeShapes Go.WideShapes Go.ChangeAt Go.RowKit
theorem zero32Q : ∀ W : World, (zeroValue 27).run Tryd.prog W = .ok (.agg (u8s z32P)) W := fun W => by rw [z32_is]; kernel_rfl
/-- A reader's bytes and error behind k bytes that are read one by one; what they are. -/
def stT (p : List UInt8 × Int) : Nat → List UInt8 × Int
  | 0 => p
  | k + 1 => stepR (stT p k) 0
def tgB (p : List UInt8 × Int) (k : Nat) : UInt8 := UInt8.ofNat ((numR (stT p k) 0).toNat % 256)
def tgT (p : List UInt8 × Int) (k : Nat) : List UInt8 := (List.range 32).map fun j => if j < k then tgB p j else 0
theorem tgT_length (p : List UInt8 × Int) (k : Nat) : (tgT p k).length = 32 := by simp [tgT]
theorem tgT_zero (p : List UInt8 × Int) : tgT p 0 = z32P := by simp [tgT, z32P]; decide
theorem tgT_succ (p : List UInt8 × Int) (k : Nat) (h : k < 32) : (tgT p k).set k (tgB p k) = tgT p (k + 1) := by
  apply List.ext_getElem
  · simp [tgT]
  · intro i h1 h2
    rw [List.getElem_set]
    simp only [tgT, List.getElem_map, List.getElem_range]
    by_cases hi : k = i
    · subst hi
      rw [if_pos rfl, if_pos (by omega)]
    · rw [if_neg hi]
      by_cases h3 : i < k
      · rw [if_pos h3, if_pos (by omega)]
      · rw [if_neg h3, if_neg (by omega)]
theorem stT_len (p : List UInt8 × Int) (k : Nat) : (stT p k).1.length ≤ p.1.length := by
  induction k with
  | zero => exact Nat.le_refl _
  | succ k ih => exact Nat.le_trans (stepR_len _ _) ih
theorem num_byte (p : List UInt8 × Int) : 0 ≤ numR p 0 ∧ numR p 0 ≤ 255 := by
  unfold numR getR
  by_cases he : p.2 = 0
  · rw [if_neg (by simp [he])]
    unfold getF
    rw [if_neg (by omega), if_neg (by omega)]
    have hv := valN_lt (p.1.take (wid 0))
    have hl : (p.1.take (wid 0)).length ≤ 1 := by rw [List.length_take]; exact Nat.min_le_left _ _
    have h4 : 256 ^ (p.1.take (wid 0)).length ≤ 256 ^ 1 := Nat.pow_le_pow_right (by decide) hl
    by_cases h1 : p.1.length < wid 0
    · rw [if_pos h1]; exact ⟨by simp [Fd.zero], by simp [Fd.zero]⟩
    · rw [if_neg h1, if_neg (by omega)]
      simp only
      omega
  · rw [if_pos he]; exact ⟨by simp [Fd.zero], by simp [Fd.zero]⟩
theorem wrap_byte (p : List UInt8 × Int) (k : Nat) : IntKind.u8.wrap (numR (stT p k) 0) = ub (tgB p k) := by
  have h := num_byte (stT p k)
  unfold tgB
  rw [ub_nat, IntWalk.u8_in _ (by omega)]
  omega
/-- What holds while a tag is read: the reader's box, the result's cell, the tag so far, the reader itself. -/
structure TG (w : World) (B q : Nat) (z1 : Array Value) (p : List UInt8 × Int) (k : Nat) (W : World) : Prop where
  box : W.heap[B]? = some (.cells #[.pointer (some ⟨q, 0, none⟩)] 86 (0, 0))
  res : W.heap[B + 1]? = some (.cells z1 27 (0, 0))
  tag : W.heap[B + 1 + 1]? = some (.cells (u8s (tgT p k)) 27 (0, 0))
  rd : IsR W q (stT p k).1 (stT p k).2
  gr : w.grownBy W (some q)
  sz : B + 2 < W.heap.size
theorem TG.read {w : World} {B q : Nat} {z1 : Array Value} {p : List UInt8 × Int} {k : Nat} {W W1 : World} {l : List UInt8} {e : Int} (h : TG w B q z1 p k W) (h1 : IsR W1 q l e) (hg : W.grownBy W1 (some q)) (hq : q < B) :
    W1.heap[B]? = some (.cells #[.pointer (some ⟨q, 0, none⟩)] 86 (0, 0)) ∧ W1.heap[B + 1]? = some (.cells z1 27 (0, 0)) ∧ W1.heap[B + 1 + 1]? = some (.cells (u8s (tgT p k)) 27 (0, 0)) ∧ w.grownBy W1 (some q) ∧ B + 2 < W1.heap.size :=
  ⟨(hg.block B (by have := h.sz; omega) (fun e => by injection e with e; omega)).trans h.box, (hg.block (B + 1) (by have := h.sz; omega) (fun e => by injection e with e; omega)).trans h.res, (hg.block (B + 1 + 1) (by have := h.sz; omega) (fun e => by injection e with e; omega)).trans h.tag, kb_trans h.gr hg, Nat.lt_of_lt_of_le h.sz hg.size⟩
theorem TG.put {w : World} {B q : Nat} {z1 : Array Value} {p : List UInt8 × Int} {k : Nat} {W : World} (h : W.heap[B]? = some (.cells #[.pointer (some ⟨q, 0, none⟩)] 86 (0, 0)) ∧ W.heap[B + 1]? = some (.cells z1 27 (0, 0)) ∧ W.heap[B + 1 + 1]? = some (.cells (u8s (tgT p k)) 27 (0, 0)) ∧ w.grownBy W (some q) ∧ B + 2 < W.heap.size) (hr : IsR W q (stT p (k + 1)).1 (stT p (k + 1)).2) (hk : k < 32) (hq : q < B) (hB : w.heap.size = B) :
    TG w B q z1 p (k + 1) (W.setCell ⟨B + 1 + 1, k, none⟩ (.int .u8 (ub (tgB p k)))) := by
  obtain ⟨h1, h2, h3, h4, h5⟩ := h
  have hg := kb_setCell (b := B + 1 + 1) W k (.int .u8 (ub (tgB p k)))
  refine ⟨(hg.block B (by omega) (fun e => by injection e with e; omega)).trans h1, (hg.block (B + 1) (by omega) (fun e => by injection e with e; omega)).trans h2, ?_, hr.asideT h3 (by decide) hg (by omega), kb_new h4 hg (by omega), Nat.lt_of_lt_of_le h5 hg.size⟩
  rw [heap_setCell_same W (B + 1 + 1) k _ 27 _ h3, u8s_set, tgT_succ p k hk]
theorem TG.fin {w : World} {B q : Nat} {z1 : Array Value} {p : List UInt8 × Int} {k : Nat} {W W1 : World} (h : TG w B q z1 p k W) (hg : W.grownBy W1 (some (B + 1))) (hq : q < B) (hB : w.heap.size = B) : IsR W1 q (stT p k).1 (stT p k).2 ∧ w.grownBy W1 (some q) :=
  ⟨h.rd.asideT h.res (by decide) hg (by omega), kb_new h.gr hg (by omega)⟩
set_option maxRecDepth 100000 in
set_option maxHeartbeats 4000000 in
theorem rtagB14 (q : Nat) (p : List UInt8 × Int) (w : World) (h : IsR w q p.1 p.2) (hl : p.1.length ≤ 5000) :
    Calls Tryd.prog 61 #[.agg #[.pointer (some ⟨q, 0, none⟩)]] w fun e w' => e = .returned (.agg (u8s (tgT p 32))) ∧ IsR w' q (stT p 32).1 (stT p 32).2 ∧ w.grownBy w' (some q) := by
  obtain ⟨z1, hz1⟩ : ∃ z, u8s z32P = z := ⟨_, rfl⟩
  have hz1v : ∀ W : World, (zeroValue 27).run Tryd.prog W = .ok (.agg z1) W := fun W => by rw [← hz1]; exact zero32Q W
  have HZ1 := Bx.mk hz1
  obtain ⟨B, hB⟩ : ∃ B, w.heap.size = B := ⟨_, rfl⟩
  have K0 := Bx.mk ((((KP.start w B hB).new (.cells #[.pointer (some ⟨q, 0, none⟩)] 86)).new (.cells z1 27)).new (.cells z1 27))
  rw [alloc_sizeP, alloc_sizeP, hB] at K0
  have HqB : Bx (q < B) := Bx.mk (by rw [← hB]; exact h.lt)
  have HR0 : Bx (IsR (((w.alloc (.cells #[.pointer (some ⟨q, 0, none⟩)] 86)).alloc (.cells z1 27)).alloc (.cells z1 27)) q p.1 p.2) := Bx.mk (h.later (by rw [hB]; exact K0.out.below))
  have HL := Bx.mk hl
  have HB := Bx.mk hB
  obtain ⟨tt, htt⟩ : ∃ tt, u8s (tgT p 32) = tt := ⟨_, rfl⟩
  rw [htt]
  have HTT := Bx.mk htt
  clear hz1 hl h htt
  go_enter Tryd.func61, Tryd.ntmps61
  go_upto_region 3 with fail
  generalize ((w.alloc (.cells #[.pointer (some ⟨q, 0, none⟩)] 86)).alloc (.cells z1 27)).alloc (.cells z1 27) = w0 at *
  have H0 : Bx (TG w B q z1 p 0 w0) := Bx.mk ⟨K0.out.rows _ (.tail _ (.tail _ (.head _))), K0.out.rows _ (.tail _ (.head _)), by rw [tgT_zero, HZ1.out]; exact K0.out.rows _ (.head _), HR0.out, kb_below _ (by rw [HB.out]; exact K0.out.below), by have := K0.out.lt (x := (B + 1 + 1, _)) (.head _); simp only at this; omega⟩
  clear K0 HR0 hz1v
  go_loopw [5] (fun i wr => ∃ k : Nat, k ≤ 32 ∧ i = .int .i64 (k : Int) ∧ Bx (TG w B q z1 p k wr)) (fun i _ => 32 - (intOf i).toNat)
  case atStart => exact ⟨0, Nat.zero_le _, rfl, H0⟩
  case round =>
    clear H0
    obtain ⟨k, hk, rfl, HI⟩ := hrel
    by_cases hlt : k < 32
    · have hk1 : (k : Int) < 32 := by omega
      have hk0 : (0 : Int) ≤ (k : Int) := by omega
      have hc0 : wr.cell? ⟨B, 0, none⟩ = some (.pointer (some ⟨q, 0, none⟩)) := by rw [cell_of_row _ _ _ _ _ _ HI.out.box]; rfl
      have HN := Bx.mk (rnum_any q 0 (stT p k).1 (stT p k).2 wr HI.out.rd (Nat.le_trans (stT_len p k) HL.out) (by omega))
      go_wp2_with fail
      refine HN.out.mono ?_
      rintro e w3 ⟨rfl, hr3, hg3⟩
      have H3 := Bx.mk (And.intro (HI.out.read hr3 hg3 HqB.out) (show IsR w3 q (stT p (k + 1)).1 (stT p (k + 1)).2 from hr3))
      have hwr : IntKind.u8.wrap (getR (stT p k).1 (stT p k).2 0).1.n = ub (tgB p k) := wrap_byte p k
      generalize (getR (stT p k).1 (stT p k).2 0).1.n = nn at *
      clear hr3 hg3 HN HI hc0
      have hfz : w3.frozen? ⟨B + 1 + 1, k, none⟩ = false := frozen_of_row _ _ _ _ _ H3.out.1.2.2.1
      have hck : w3.cell? ⟨B + 1 + 1, k, none⟩ = some (.int .u8 (ub ((tgT p k).getD k 0))) := by rw [cell_of_row _ _ _ _ _ _ H3.out.1.2.2.1]; exact u8s_get _ _ (by rw [tgT_length]; exact hlt)
      have H4 : Bx (TG w B q z1 p (k + 1) (w3.setCell ⟨B + 1 + 1, k, none⟩ (.int .u8 (ub (tgB p k))))) := Bx.mk (TG.put H3.out.1 H3.out.2 hlt HqB.out HB.out)
      clear H3
      generalize ub (tgB p k) = tb at *
      generalize ub ((tgT p k).getD k 0) = ob at *
      go_wp2
      go_roundw
      case rel => exact ⟨k + 1, by omega, by go_num, H4⟩
      case measure => simp [intOf]; omega
    · obtain rfl : k = 32 := by omega
      have HSz : Bx ((Tryd.prog.info? 27).map (·.size) = some (u8s (tgT p 32)).size ∧ (u8s (tgT p 32)).size = z1.size) := Bx.mk ⟨by rw [u8s_size, tgT_length]; kernel_rfl, by rw [← HZ1.out, u8s_size, u8s_size, tgT_length]; rfl⟩
      have HTG := HI.out.tag
      have HTGx := Bx.mk HTG
      have HO : Bx (tt.all (·.oneCell') = true) := Bx.mk (by rw [← HTT.out]; exact one_u8s _)
      rw [HTT.out] at HTGx HSz
      clear HTG hlt
      go_wp2_with (first | (refine wpList_load_row rfl 27 _ rfl (B + 1 + 1) (by rfl) _ _ _ _ HTGx.out Tryd.underlying27 rfl HSz.out.1 ?_) | (refine wpList_store_new rfl 27 _ _ rfl (B + 1) tt z1 _ (by rfl) (by rfl) HI.out.res HSz.out.2 HSz.out.1 HO.out ?_; intro w8 hw8 hr8; have hg8 := Bx.mk (kb_ofP hw8); have HR8 := Bx.mk hr8; clear hw8 hr8))
      have H9 := Bx.mk (HI.out.fin hg8.out HqB.out HB.out)
      refine bodyPost_ret (results_cell_row rfl _ _ (B + 1) _ tt _ _ rfl HR8.out Tryd.underlying27 rfl HSz.out.1) rfl ?_
      exact ⟨rfl, H9.out⟩
end Go.Proofs.YtaoekfomffebhaaDoor
