/-
  Tagged and Holds.
-/
import Derived.Test.YtaoekfomffebhaaDoorKb
import Derived.Test.YtaoekfomffebhaaDoorP6
import Derived.Test.YtaoekfomffebhaaDoorP8
import Derived.Test.YtaoekfomffebhaaDoorP10
namespace Go.Proofs.YtaoekfomffebhaaDoor
open Go Go.ChangeShapes Go.WideShapes Go.ChangeAt Go.RowKit
set_option maxRecDepth 100000 in
set_option maxHeartbeats 4000000 in
theorem tagged_nil (x : Pk) (v : Value) (w : World) (ht : x.t.length = 32) (hb : Bytes w v x.b) : Calls Tryd.prog 9 #[pkV x v, .pointer none] w fun e w' => e = .returned (.tuple #[pkV Pk.zero (.slice none 0 0), .int .i64 1]) ∧ Below w.heap.size w w' := by
  obtain ⟨a0, c0, rfl, -, -⟩ := bytes_form hb
  obtain ⟨zc, hzc⟩ : ∃ zc, pkC Pk.zero (.slice none 0 0) = zc := ⟨_, rfl⟩
  have hzv : ∀ W : World, (zeroValue 33).run Tryd.prog W = .ok (.agg zc) W := fun W => by rw [← hzc]; exact pk_zeroW W
  have hbz : Tryd.prog.built 33 [] = some zc := by rw [← hzc]; exact pk_noneW
  have HI : Bx ((Tryd.prog.info? 33).map (·.size) = some zc.size) := Bx.mk (by rw [← hzc]; exact pk_infoW _ _ rfl)
  have HO : Bx (zc.all (·.oneCell') = true) := Bx.mk (by rw [← hzc]; exact pkC_one _ _ _ _)
  obtain ⟨B, hB⟩ : ∃ B, w.heap.size = B := ⟨_, rfl⟩
  have H0 := Bx.mk (((KP.start w B hB).new (.cells (pkC x (.slice a0 x.b.length c0)) 33)).new (.cells zc 33))
  rw [alloc_sizeP, hB] at H0
  obtain ⟨tk, htk⟩ : ∃ tk, pkC x (.slice a0 x.b.length c0) = tk := ⟨_, rfl⟩
  have HTK := Bx.mk htk
  unfold pkV
  rw [htk] at H0 ⊢
  rw [hB, hzc]
  clear hzc htk hb ht
  go_enter Tryd.func9, Tryd.ntmps9
  go_wp2_with (first | (refine wpList_buildTo rfl 33 _ rfl _ rfl zc hbz ?_) | (refine wpList_store_new rfl 33 _ _ rfl (B + 1) zc zc _ (by rfl) (by rfl) (H0.out.rows _ (.head _)) rfl HI.out HO.out ?_; intro w8 hw8 hr8; have hg8 := Bx.mk (kb_ofP hw8); have HR8 := Bx.mk hr8; clear hw8 hr8))
  refine bodyPost_ret (results_pair rfl _ _ _ (B + 1) _ rfl (run_loadVar_row _ (B + 1) _ _ _ _ _ HR8.out Tryd.underlying33 rfl (HI.out))) rfl ?_
  exact ⟨rfl, H0.out.below.trans (grown_below hg8.out (by omega) H0.out.le)⟩
set_option maxRecDepth 100000 in
set_option maxHeartbeats 4000000 in
theorem tagged_plain (x : Pk) (v : Value) (w : World) (ht : x.t.length = 32) (hb : Bytes w v x.b) (p : Nat) (hp : plainB x.k = true) : Calls Tryd.prog 9 #[pkV x v, .pointer (some ⟨p, 0, none⟩)] w fun e w' => e = .returned (.tuple #[pkV Pk.zero (.slice none 0 0), .int .i64 11]) ∧ Below w.heap.size w w' := by
  obtain ⟨a0, c0, rfl, -, -⟩ := bytes_form hb
  obtain ⟨zc, hzc⟩ : ∃ zc, pkC Pk.zero (.slice none 0 0) = zc := ⟨_, rfl⟩
  have hzv : ∀ W : World, (zeroValue 33).run Tryd.prog W = .ok (.agg zc) W := fun W => by rw [← hzc]; exact pk_zeroW W
  have hbz : Tryd.prog.built 33 [] = some zc := by rw [← hzc]; exact pk_noneW
  have HI : Bx ((Tryd.prog.info? 33).map (·.size) = some zc.size) := Bx.mk (by rw [← hzc]; exact pk_infoW _ _ rfl)
  have HO : Bx (zc.all (·.oneCell') = true) := Bx.mk (by rw [← hzc]; exact pkC_one _ _ _ _)
  obtain ⟨B, hB⟩ : ∃ B, w.heap.size = B := ⟨_, rfl⟩
  have H0 := Bx.mk (((KP.start w B hB).new (.cells (pkC x (.slice a0 x.b.length c0)) 33)).new (.cells zc 33))
  rw [alloc_sizeP, hB] at H0
  have HAt : Bx (PkAt ((w.alloc (.cells (pkC x (.slice a0 x.b.length c0)) 33)).alloc (.cells zc 33)) B x (.slice a0 x.b.length c0)) := Bx.mk (pk_at (H0.out.rows _ (.tail _ (.head _))))
  obtain ⟨tk, htk⟩ : ∃ tk, pkC x (.slice a0 x.b.length c0) = tk := ⟨_, rfl⟩
  have HTK := Bx.mk htk
  unfold pkV
  rw [htk] at H0 HAt ⊢
  rw [hB, hzc]
  clear hzc htk hb ht
  have k0 := HAt.out.k
  go_enter Tryd.func9, Tryd.ntmps9
  go_wp2_with fail
  generalize (w.alloc (.cells tk 33)).alloc (.cells zc 33) = w0 at *
  refine (plain14 x.k _ hp w0).mono ?_
  rintro e w1 ⟨rfl, rfl⟩
  go_wp2_with (first | (refine wpList_buildTo rfl 33 _ rfl _ rfl zc hbz ?_) | (refine wpList_store_new rfl 33 _ _ rfl (B + 1) zc zc _ (by rfl) (by rfl) (H0.out.rows _ (.head _)) rfl HI.out HO.out ?_; intro w8 hw8 hr8; have hg8 := Bx.mk (kb_ofP hw8); have HR8 := Bx.mk hr8; clear hw8 hr8))
  refine bodyPost_ret (results_pair rfl _ _ _ (B + 1) _ rfl (run_loadVar_row _ (B + 1) _ _ _ _ _ HR8.out Tryd.underlying33 rfl (HI.out))) rfl ?_
  exact ⟨rfl, H0.out.below.trans (grown_below hg8.out (by omega) H0.out.le)⟩
set_option maxRecDepth 100000 in
set_option maxHeartbeats 4000000 in
theorem tagged_bad (x : Pk) (v : Value) (w : World) (ht : x.t.length = 32) (hb : Bytes w v x.b) (p : Nat) (hp : plainB x.k = false) (hc : chkP x ≠ 0) : Calls Tryd.prog 9 #[pkV x v, .pointer (some ⟨p, 0, none⟩)] w fun e w' => e = .returned (.tuple #[pkV Pk.zero (.slice none 0 0), .int .i64 (chkP x)]) ∧ Below w.heap.size w w' := by
  obtain ⟨a0, c0, rfl, -, -⟩ := bytes_form hb
  obtain ⟨zc, hzc⟩ : ∃ zc, pkC Pk.zero (.slice none 0 0) = zc := ⟨_, rfl⟩
  have hzv : ∀ W : World, (zeroValue 33).run Tryd.prog W = .ok (.agg zc) W := fun W => by rw [← hzc]; exact pk_zeroW W
  have hbz : Tryd.prog.built 33 [] = some zc := by rw [← hzc]; exact pk_noneW
  have HI : Bx ((Tryd.prog.info? 33).map (·.size) = some zc.size) := Bx.mk (by rw [← hzc]; exact pk_infoW _ _ rfl)
  have HO : Bx (zc.all (·.oneCell') = true) := Bx.mk (by rw [← hzc]; exact pkC_one _ _ _ _)
  obtain ⟨B, hB⟩ : ∃ B, w.heap.size = B := ⟨_, rfl⟩
  have H0 := Bx.mk (((KP.start w B hB).new (.cells (pkC x (.slice a0 x.b.length c0)) 33)).new (.cells zc 33))
  rw [alloc_sizeP, hB] at H0
  have HHd : Bx (∀ W, Below B w W → Calls Tryd.prog 28 #[pkV x (.slice a0 x.b.length c0)] W fun e w' => e = .returned (.tuple #[.slice none 0 0, .int .i64 (chkP x)]) ∧ Below W.heap.size W w') := Bx.mk fun W h => head14_bad x _ W ht (hb.old hB h) hc
  have HIx := Bx.mk (pk_infoW x (.slice a0 x.b.length c0) ht)
  have HAt : Bx (PkAt ((w.alloc (.cells (pkC x (.slice a0 x.b.length c0)) 33)).alloc (.cells zc 33)) B x (.slice a0 x.b.length c0)) := Bx.mk (pk_at (H0.out.rows _ (.tail _ (.head _))))
  obtain ⟨tk, htk⟩ : ∃ tk, pkC x (.slice a0 x.b.length c0) = tk := ⟨_, rfl⟩
  have HTK := Bx.mk htk
  unfold pkV at HHd
  unfold pkV
  rw [htk] at H0 HHd HIx HAt ⊢
  rw [hB, hzc]
  clear hzc htk hb ht
  generalize chkP x = ck at *
  have k0 := HAt.out.k
  go_enter Tryd.func9, Tryd.ntmps9
  go_wp2_with fail
  generalize (w.alloc (.cells tk 33)).alloc (.cells zc 33) = w0 at *
  refine (plain14 x.k _ hp w0).mono ?_
  rintro e w1 ⟨rfl, rfl⟩
  go_wp2_with (refine wpList_load_row rfl 33 _ rfl B (by rfl) _ _ _ _ (H0.out.rows _ (.tail _ (.head _))) Tryd.underlying33 rfl HIx.out ?_)
  refine (HHd.out w0 H0.out.below).mono ?_
  rintro e w2 ⟨rfl, hb2⟩
  have H2 := Bx.mk (H0.out.later hb2)
  clear hb2 H0 HHd HAt k0
  go_wp2_with (first | (refine wpList_buildTo rfl 33 _ rfl _ rfl zc hbz ?_) | (refine wpList_store_new rfl 33 _ _ rfl (B + 1) zc zc _ (by rfl) (by rfl) (H2.out.rows _ (.head _)) rfl HI.out HO.out ?_; intro w8 hw8 hr8; have hg8 := Bx.mk (kb_ofP hw8); have HR8 := Bx.mk hr8; clear hw8 hr8))
  refine bodyPost_ret (results_pair rfl _ _ _ (B + 1) _ rfl (run_loadVar_row _ (B + 1) _ _ _ _ _ HR8.out Tryd.underlying33 rfl (HI.out))) rfl ?_
  exact ⟨rfl, H2.out.below.trans (grown_below hg8.out (by omega) H2.out.le)⟩
end Go.Proofs.YtaoekfomffebhaaDoor
namespace Go.Proofs.YtaoekfomffebhaaDoor
open Go Go.ChangeShapes Go.WideShapes Go.ChangeAt Go.RowKit
/-- The packet with its tag. -/
def tgP (key : List UInt8) (x : Pk) : Pk := { x with t := tagK key x }
theorem pk_store (W : World) (B : Nat) (T : TypeId) (x : Pk) (v u : Value) (sk : List UInt8) (h : W.heap[B]? = some (.cells (pkC x v) T (0, 0))) (hx : x.t.length = 32) (hs : sk.length = 32) :
    ((W.setCell ⟨B, 8, none⟩ u).setCells B 9 (u8s sk).toList).heap[B]? = some (.cells (pkC { x with t := sk } u) T (0, 0)) ∧ (W.setCell ⟨B, 8, none⟩ u).there B 9 (u8s sk).size ∧ W.grownBy ((W.setCell ⟨B, 8, none⟩ u).setCells B 9 (u8s sk).toList) (some B) := by
  have h1 : (W.setCell ⟨B, 8, none⟩ u).heap[B]? = some (.cells (pkC x u) T (0, 0)) := heap_setCell_same W B 8 _ T u h
  have hsz : (u8s sk).size = 32 := by rw [u8s_size, hs]
  refine ⟨?_, there_row h1 9 _ (by rw [hsz, pkC_size x u hx]; omega), kb_trans (kb_setCell W 8 u) (kb_setCells _ _ _)⟩
  rw [heap_setCells_same B T (u8s sk).toList 9 _ _ h1]
  congr 2
  apply Array.ext_getElem?
  intro i
  rw [spl_get, pkC_size x u hx, Array.length_toList, hsz]
  by_cases h9 : i < 9
  · rw [if_neg (by omega)]
    match i, h9 with
    | 0, _ => rfl
    | 1, _ => rfl
    | 2, _ => rfl
    | 3, _ => rfl
    | 4, _ => rfl
    | 5, _ => rfl
    | 6, _ => rfl
    | 7, _ => rfl
    | 8, _ => rfl
  · obtain ⟨j, rfl⟩ : ∃ j, i = j + 9 := ⟨i - 9, by omega⟩
    have e1 : (pkC { x with t := sk } u)[j + 9]? = (u8s sk).toList[j]? := by unfold pkC; rw [List.getElem?_toArray]; rfl
    have e2 : (pkC x u)[j + 9]? = (u8s x.t).toList[j]? := by unfold pkC; rw [List.getElem?_toArray]; rfl
    by_cases h4 : j < 32
    · rw [if_pos (by omega), e1]
      congr 1
    · rw [if_neg (by omega), e1, e2, List.getElem?_eq_none (by rw [Array.length_toList, u8s_size, hx]; omega), List.getElem?_eq_none (by rw [Array.length_toList, u8s_size, hs]; omega)]
set_option maxRecDepth 100000 in
set_option maxHeartbeats 4000000 in
theorem tagged_ok (x : Pk) (v : Value) (bs : List UInt8) (vk : Value) (w : World) (ht : x.t.length = 32) (hb : Bytes w v x.b) (hk : IsKey w vk bs) (hkl : bs.length ≤ 1000000) (hp : plainB x.k = false) (hc : chkP x = 0) (hTab : Tab w) (hg : 1 < w.heap.size) :
    Calls Tryd.prog 9 #[pkV x v, vk] w fun e w' => ∃ u, e = .returned (.tuple #[pkV (tgP bs x) u, .int .i64 0]) ∧ OwnB w' w.heap.size u (tgP bs x).b ∧ Below w.heap.size w w' := by
  obtain ⟨a0, c0, rfl, -, -⟩ := bytes_form hb
  obtain ⟨zc, hzc⟩ : ∃ zc, pkC Pk.zero (.slice none 0 0) = zc := ⟨_, rfl⟩
  have hzv : ∀ W : World, (zeroValue 33).run Tryd.prog W = .ok (.agg zc) W := fun W => by rw [← hzc]; exact pk_zeroW W
  have HZ := Bx.mk (show zc.size = 41 by rw [← hzc, pkC_size _ _ rfl])
  obtain ⟨B, hB⟩ : ∃ B, w.heap.size = B := ⟨_, rfl⟩
  have H0 := Bx.mk (((KP.start w B hB).new (.cells (pkC x (.slice a0 x.b.length c0)) 33)).new (.cells zc 33))
  rw [alloc_sizeP, hB] at H0
  have HHd : Bx (∀ W, Below B w W → Calls Tryd.prog 28 #[pkV x (.slice a0 x.b.length c0)] W fun e w' => ∃ u, e = .returned (.tuple #[u, .int .i64 0]) ∧ OwnB w' W.heap.size u (hdB x) ∧ Below W.heap.size W w') := Bx.mk fun W h => head14_ok x _ W ht (hb.old hB h) hc
  have HCl : Bx (∀ W, Below B w W → Calls Tryd.prog 29 #[.slice a0 x.b.length c0] W fun e w' => ∃ u, e = .returned u ∧ OwnB w' W.heap.size u x.b ∧ Below W.heap.size W w') := Bx.mk fun W h => clone_any x.b _ W (hb.old hB h) (by have := (chkP_ok hc).2.2.2.2.1; omega)
  have HTg : Bx (∀ W u, Below B w W → Parts W u [hdB x] → Calls Tryd.prog 30 #[vk, u] W fun e w' => e = .returned (.agg (u8s (tagK bs x))) ∧ Below W.heap.size W w') := Bx.mk fun W u h hu => by
    have hb' : Below w.heap.size w W := by rw [hB]; exact h
    have := ktag_any bs [hdB x] vk u W (hk.later hb') hu hkl (by simp) (by simp [hdB_length]; have := (chkP_ok hc).2.2.2.2.1; omega) (hTab.later hb' hg) (Nat.lt_of_lt_of_le hg hb'.size)
    rw [show [hdB x].flatten = hdB x by simp] at this
    exact this
  have HIx := Bx.mk (pk_infoW x (.slice a0 x.b.length c0) ht)
  have HAt : Bx (∀ W, KP w B [(B + 1, .cells zc 33), (B, .cells (pkC x (.slice a0 x.b.length c0)) 33)] W → PkAt W B x (.slice a0 x.b.length c0)) := Bx.mk fun W h => pk_at (h.rows _ (.tail _ (.head _)))
  have HSt := Bx.mk fun (W : World) (u : Value) (h : W.heap[B]? = some (.cells (pkC x (.slice a0 x.b.length c0)) 33 (0, 0))) => pk_store W B 33 x (.slice a0 x.b.length c0) u (tagK bs x) h ht (tagK_length _ _)
  have HSk : Bx ((Tryd.prog.info? 27).map (·.size) = some (u8s (tagK bs x)).size) := Bx.mk (by rw [u8s_size, tagK_length]; kernel_rfl)
  have HL : Bx (x.b.length ≤ 512) := Bx.mk (chkP_ok hc).2.2.2.2.1
  have HIz : Bx (∀ a n c, (Tryd.prog.info? 33).map (·.size) = some (pkC (tgP bs x) (.slice a n c)).size ∧ (pkC (tgP bs x) (.slice a n c)).size = zc.size ∧ (pkC (tgP bs x) (.slice a n c)).all (·.oneCell') = true) := Bx.mk fun a n c => ⟨pk_infoW _ _ (tagK_length _ _), by rw [HZ.out, pkC_size _ _ (tagK_length _ _)], pkC_one _ _ _ _⟩
  obtain ⟨tk, htk⟩ : ∃ tk, pkC x (.slice a0 x.b.length c0) = tk := ⟨_, rfl⟩
  have HTK := Bx.mk htk
  unfold pkV at HHd
  unfold pkV
  rw [htk] at H0 HHd HIx HAt HSt ⊢
  rw [hB]
  obtain ⟨p, s0, rfl, -, -⟩ := hk
  unfold tgP at HIz ⊢
  generalize tagK bs x = sk at *
  generalize hdB x = hd at *
  clear hzc htk hb ht hkl hc hTab hg
  have k0 := (HAt.out _ H0.out).k
  go_enter Tryd.func9, Tryd.ntmps9
  go_wp2_with fail
  generalize (w.alloc (.cells tk 33)).alloc (.cells zc 33) = w0 at *
  refine (plain14 x.k _ hp w0).mono ?_
  rintro e w1 ⟨rfl, rfl⟩
  go_wp2_with (refine wpList_load_row rfl 33 _ rfl B (by rfl) _ _ _ _ (H0.out.rows _ (.tail _ (.head _))) Tryd.underlying33 rfl HIx.out ?_)
  refine (HHd.out w0 H0.out.below).mono ?_
  rintro e w2 ⟨u2, rfl, ho2, hb2⟩
  have H2 := Bx.mk (And.intro (H0.out.later hb2) ho2.bytes)
  obtain ⟨a2, c2, hv2⟩ := own_form ho2
  subst hv2
  clear hb2 ho2 H0 HHd k0
  have k8 := (HAt.out _ H2.out.1).b
  go_wp2_with fail
  refine (HCl.out w2 H2.out.1.below).mono ?_
  rintro e w3 ⟨u3, rfl, ho3, hb3⟩
  have H3 := Bx.mk (And.intro (H2.out.1.later hb3) (And.intro (H2.out.2.later hb3) (ho3.weak (show B + 2 ≤ w2.heap.size by have := H2.out.1.lt (x := (B + 1, _)) (.head _); simp only at this; omega))))
  obtain ⟨a3, c3, hv3⟩ := own_form ho3
  subst hv3
  clear hb3 ho3 H2 HCl k8
  have H4 := Bx.mk (And.intro (H3.out.1.alloc (.cells #[.slice a2 hd.length c2] 26)) (And.intro (one_part H3.out.2.1) (own_a H3.out.2.2 (.cells #[.slice a2 hd.length c2] 26))))
  clear H3
  go_wp2_with fail
  generalize w3.alloc (.cells #[.slice a2 hd.length c2] 26) = w4 at *
  generalize w3.heap.size = G at *
  refine (HTg.out w4 _ H4.out.1.below H4.out.2.1).mono ?_
  rintro e w5 ⟨rfl, hb5⟩
  have H5 := Bx.mk (And.intro (H4.out.1.later hb5) (H4.out.2.2.later hb5 (fun g hg => (H4.out.2.2.lt g hg).1)))
  clear hb5 H4
  have HR := Bx.mk (HSt.out w5 (.slice a3 x.b.length c3) (H5.out.1.rows _ (.tail _ (.head _))))
  have hfz : w5.frozen? ⟨B, 8, none⟩ = false := frozen_of_row _ _ _ _ _ (H5.out.1.rows _ (.tail _ (.head _)))
  have k8 := (HAt.out _ H5.out.1).b
  clear HSt
  skip -- M1
  go_upto_region 9 with (refine wpList_store_mid rfl 27 _ _ rfl B 9 (u8s sk) (by rfl) (by rfl) HR.out.2.1 HSk.out (one_u8s _) ?_)
  skip -- M2
  have H6 := Bx.mk (And.intro (H5.out.1.swap.set HR.out.2.2 HR.out.1 (Nat.le_refl _) (by intro y hy; simp at hy; subst hy; simp only; omega)).swap (H5.out.2.kept HR.out.2.2 (fun e => by have := (H5.out.2.lt _ e).2; omega)))
  generalize (w5.setCell ⟨B, 8, none⟩ (.slice a3 x.b.length c3)).setCells B 9 (u8s sk).toList = w6 at *
  have HJ := Bx.mk (HIz.out a3 x.b.length c3)
  clear H5 HR hfz k8 HIz
  obtain ⟨tz, htz⟩ : ∃ tz, pkC { x with t := sk } (.slice a3 x.b.length c3) = tz := ⟨_, rfl⟩
  have HTZ := Bx.mk htz
  rw [htz] at H6 HJ
  clear htz
  go_wp2_with (first | (refine wpList_load_row rfl 33 _ rfl B (by rfl) _ _ _ _ (H6.out.1.rows _ (.tail _ (.head _))) Tryd.underlying33 rfl HJ.out.1 ?_) | (refine wpList_store_new rfl 33 _ _ rfl (B + 1) tz zc _ (by rfl) (by rfl) (H6.out.1.rows _ (.head _)) HJ.out.2.1 HJ.out.1 HJ.out.2.2 ?_; intro w8 hw8 hr8; have hg8 := Bx.mk (kb_ofP hw8); have HR8 := Bx.mk hr8; clear hw8 hr8))
  refine bodyPost_ret (results_pair rfl _ _ _ (B + 1) _ rfl (run_loadVar_row _ (B + 1) _ _ _ _ _ HR8.out Tryd.underlying33 rfl HJ.out.1)) rfl ?_
  exact ⟨_, by rw [HTZ.out]; rfl, (H6.out.2.kept hg8.out (fun e => by have := (H6.out.2.lt _ e).2; omega)).weak (by omega), H6.out.1.below.trans (grown_below hg8.out (by omega) H6.out.1.le)⟩
end Go.Proofs.YtaoekfomffebhaaDoor
namespace Go.Proofs.YtaoekfomffebhaaDoor
open Go Go.ChangeShapes Go.WideShapes Go.ChangeAt Go.RowKit
set_option maxRecDepth 100000 in
set_option maxHeartbeats 4000000 in
theorem holds14_ok (x : Pk) (v : Value) (bs : List UInt8) (vk : Value) (w : World) (ht : x.t.length = 32) (hb : Bytes w v x.b) (hk : IsKey w vk bs) (hkl : bs.length ≤ 1000000) (hp : plainB x.k = false) (hc : chkP x = 0) (hTab : Tab w) (hg : 1 < w.heap.size) (d : Bool) (hd : d = true ↔ tagK bs x = x.t) : Calls Tryd.prog 12 #[pkV x v, vk] w fun e w' => e = .returned (.bool d) ∧ Below w.heap.size w w' := by
  obtain ⟨a0, c0, rfl, -, -⟩ := bytes_form hb
  obtain ⟨zc, hzc⟩ : ∃ zc, pkC Pk.zero (.slice none 0 0) = zc := ⟨_, rfl⟩
  have hzv : ∀ W : World, (zeroValue 33).run Tryd.prog W = .ok (.agg zc) W := fun W => by rw [← hzc]; exact pk_zeroW W
  obtain ⟨B, hB⟩ : ∃ B, w.heap.size = B := ⟨_, rfl⟩
  have H0 := Bx.mk ((KP.start w B hB).new (.cells (pkC x (.slice a0 x.b.length c0)) 33))
  rw [hB] at H0
  have HIx := Bx.mk (pk_infoW x (.slice a0 x.b.length c0) ht)
  have HT : Bx (∀ W, Below B w W → Calls Tryd.prog 9 #[pkV x (.slice a0 x.b.length c0), vk] W fun e w' => ∃ u, e = .returned (.tuple #[pkV (tgP bs x) u, .int .i64 0]) ∧ OwnB w' W.heap.size u (tgP bs x).b ∧ Below W.heap.size W w') := Bx.mk fun W h => by
    have hb' : Below w.heap.size w W := by rw [hB]; exact h
    exact tagged_ok x _ bs vk W ht (hb.later hb') (hk.later hb') hkl hp hc (hTab.later hb' hg) (Nat.lt_of_lt_of_le hg hb'.size)
  have HTl : Bx ((tgP bs x).t.length = 32 ∧ (tgP bs x).t = tagK bs x ∧ x.t.length = 32) := Bx.mk ⟨tagK_length _ _, rfl, ht⟩
  have HD := Bx.mk hd
  have HAt : Bx (∀ W, W.heap[B]? = some (.cells (pkC x (.slice a0 x.b.length c0)) 33 (0, 0)) → PkAt W B x (.slice a0 x.b.length c0)) := Bx.mk fun W h => pk_at h
  obtain ⟨p, s0, rfl, -, -⟩ := hk
  obtain ⟨tk, htk⟩ : ∃ tk, pkC x (.slice a0 x.b.length c0) = tk := ⟨_, rfl⟩
  unfold pkV at HT
  unfold pkV
  rw [htk] at H0 HT HIx HAt ⊢
  rw [hB]
  have HZ := Bx.mk (show zc.size = 41 by rw [← hzc, pkC_size _ _ rfl])
  clear hkl hp hc hTab hg hd
  generalize tagK bs x = sk at *
  generalize tgP bs x = y at *
  clear hzc htk hb ht
  go_enter Tryd.func12, Tryd.ntmps12
  go_wp2_with (refine wpList_load_row rfl 33 _ rfl B (by rfl) _ _ _ _ (H0.out.rows _ (.head _)) Tryd.underlying33 rfl HIx.out ?_)
  generalize w.alloc (.cells tk 33) = w0 at *
  refine (HT.out w0 H0.out.below).mono ?_
  rintro e w1 ⟨u1, rfl, ho1, hb1⟩
  have H1 := Bx.mk (H0.out.later hb1)
  obtain ⟨a1, c1, hv1⟩ := own_form ho1
  subst hv1
  clear ho1 hb1 H0 HT
  have HJ : Bx ((Tryd.prog.info? 33).map (·.size) = some (pkC y (.slice a1 y.b.length c1)).size ∧ (pkC y (.slice a1 y.b.length c1)).size = zc.size ∧ (pkC y (.slice a1 y.b.length c1)).all (·.oneCell') = true) := Bx.mk ⟨pk_infoW _ _ HTl.out.1, by rw [HZ.out, pkC_size _ _ HTl.out.1], pkC_one _ _ _ _⟩
  obtain ⟨tz, htz⟩ : ∃ tz, pkC y (.slice a1 y.b.length c1) = tz := ⟨_, rfl⟩
  have HTz : Bx (∀ (W : World) D, W.heap[D]? = some (.cells tz 33 (0, 0)) → PkAt W D y (.slice a1 y.b.length c1)) := Bx.mk fun W D h => by
    rw [← htz] at h
    exact pk_at h
  rw [htz] at HJ ⊢
  clear htz
  obtain ⟨D, hD⟩ : ∃ D, w1.heap.size = D := ⟨_, rfl⟩
  have HDB : Bx (B < D) := Bx.mk (by rw [← hD]; exact H1.out.lt (.head _))
  have H2 := Bx.mk (H1.out.new (.cells zc 33))
  rw [hD] at H2
  clear H1
  go_upto_region 2 with (first | (refine wpList_store_new rfl 33 _ _ rfl D tz zc _ (by rfl) (by rfl) (H2.out.rows _ (.head _)) HJ.out.2.1 HJ.out.1 HJ.out.2.2 ?_; intro w3 hw8 hr8; have hg8 := Bx.mk (kb_ofP hw8); have HR8 := Bx.mk hr8; clear hw8 hr8))
  have H3 := Bx.mk (H2.out.set hg8.out HR8.out (Nat.le_of_lt HDB.out) (by intro y hy; have := HDB.out; simp at hy; subst hy; simp only; omega)).drew
  clear H2 hg8 HR8 hzv hD
  refine wp_region_noPanic ?_
  refine wp_region_held_drew (S := fun _ => True) (by kernel_rfl) (trivial) (fun hHeld => ?_)
  generalize w3.drew = W0 at *
  refine takeL 0 (v := ?_) rfl (by kernel_rfl) (by kernel_rfl) (by kernel_rfl) (fun _ _ _ h => h) (Or.inl ⟨by rfl, ?_⟩) hHeld ?_
  rotate_left 1
  · (intro w hSw; go_simp; try with_reducible rfl)
  try simp only [Act.put, List.setIfInBounds_toArray, List.set_cons_zero, List.set_cons_succ]
  refine takeL 1 (v := ?_) rfl (by kernel_rfl) (by kernel_rfl) (by kernel_rfl) (fun _ _ _ h => h) (Or.inl ⟨by rfl, ?_⟩) hHeld ?_
  rotate_left 1
  · (intro w hSw; go_simp; try with_reducible rfl)
  try simp only [Act.put, List.setIfInBounds_toArray, List.set_cons_zero, List.set_cons_succ]
  refine takeL 2 (v := ?_) rfl (by kernel_rfl) (by kernel_rfl) (by kernel_rfl) (fun _ _ _ h => h) (Or.inl ⟨by rfl, ?_⟩) hHeld ?_
  rotate_left 1
  · (intro w hSw; go_simp; try with_reducible rfl)
  try simp only [Act.put, List.setIfInBounds_toArray, List.set_cons_zero, List.set_cons_succ]
  refine takeL 3 (v := ?_) rfl (by kernel_rfl) (by kernel_rfl) (by kernel_rfl) (fun _ _ _ h => h) (Or.inl ⟨by rfl, ?_⟩) hHeld ?_
  rotate_left 1
  · (intro w hSw; go_simp; try with_reducible rfl)
  try simp only [Act.put, List.setIfInBounds_toArray, List.set_cons_zero, List.set_cons_succ]
  refine takeL 4 (v := ?_) rfl (by kernel_rfl) (by kernel_rfl) (by kernel_rfl) (fun _ _ _ h => h) (Or.inl ⟨by rfl, ?_⟩) hHeld ?_
  rotate_left 1
  · (intro w hSw; go_simp; try with_reducible rfl)
  try simp only [Act.put, List.setIfInBounds_toArray, List.set_cons_zero, List.set_cons_succ]
  refine takeL 5 (v := ?_) rfl (by kernel_rfl) (by kernel_rfl) (by kernel_rfl) (fun _ _ _ h => h) (Or.inl ⟨by rfl, ?_⟩) hHeld ?_
  rotate_left 1
  · (intro w hSw; go_simp; try with_reducible rfl)
  try simp only [Act.put, List.setIfInBounds_toArray, List.set_cons_zero, List.set_cons_succ]
  refine takeL 6 (v := ?_) rfl (by kernel_rfl) (by kernel_rfl) (by kernel_rfl) (fun _ _ _ h => h) (Or.inl ⟨by rfl, ?_⟩) hHeld ?_
  rotate_left 1
  · (intro w hSw; go_simp; try with_reducible rfl)
  try simp only [Act.put, List.setIfInBounds_toArray, List.set_cons_zero, List.set_cons_succ]
  refine stepL 7 (by kernel_rfl) rfl (fun K hK => ?_)
  go_simp
  refine (equal_any y.t x.t _ _ W0 ((HTz.out W0 D (H3.out.rows _ (.head _))).tag HTl.out.1) ((HAt.out W0 (H3.out.rows _ (.tail _ (.head _)))).tag HTl.out.2.2) (by rw [HTl.out.1]; omega) (by rw [HTl.out.2.2]; omega)).mono ?_
  rintro e W1 ⟨rfl, nd, rfl⟩
  show K _ _
  rw [show decide (y.t = x.t) = d by rw [HTl.out.2.1]; cases d with | true => exact decide_eq_true (HD.out.1 rfl) | false => exact decide_eq_false fun e => by simpa using HD.out.2 e]
  have H4 := Bx.mk (below_drewN H3.out.below nd)
  refine hK.out _ _ trivial (fun hHeld => ?_)
  clear hK K
  try simp only [Act.put, List.setIfInBounds_toArray, List.set_cons_zero, List.set_cons_succ]
  refine takeL 8 (v := ?_) rfl (by kernel_rfl) (by kernel_rfl) (by kernel_rfl) (fun _ _ _ h => h) (Or.inl ⟨by rfl, ?_⟩) hHeld ?_
  rotate_left 1
  · (intro w hSw; go_simp; try with_reducible rfl)
  try simp only [Act.put, List.setIfInBounds_toArray, List.set_cons_zero, List.set_cons_succ]
  refine takeL 9 (v := ?_) rfl (by kernel_rfl) (by kernel_rfl) (by kernel_rfl) (fun _ _ _ h => h) (Or.inl ⟨by rfl, ?_⟩) hHeld ?_
  rotate_left 1
  · (intro w hSw; go_simp; try with_reducible rfl)
  try simp only [Act.put, List.setIfInBounds_toArray, List.set_cons_zero, List.set_cons_succ]
  refine wpAnyH_done (by kernel_rfl) ?_ _
  refine NoPanic.normal ?_
  clear hHeld
  try go_wp2
  go_ret
  exact ⟨rfl, H4.out⟩
set_option maxRecDepth 100000 in
set_option maxHeartbeats 4000000 in
theorem holds14_err (x : Pk) (v : Value) (code : Int) (q : Option Addr) (w : World) (ht : x.t.length = 32) (hb : Bytes w v x.b) (hcode : code ≠ 0) (hT : ∀ W, Below w.heap.size w W → Calls Tryd.prog 9 #[pkV x v, .pointer q] W fun e w' => e = .returned (.tuple #[pkV Pk.zero (.slice none 0 0), .int .i64 code]) ∧ Below W.heap.size W w') : Calls Tryd.prog 12 #[pkV x v, .pointer q] w fun e w' => e = .returned (.bool false) ∧ Below w.heap.size w w' := by
  obtain ⟨a0, c0, rfl, -, -⟩ := bytes_form hb
  obtain ⟨zc, hzc⟩ : ∃ zc, pkC Pk.zero (.slice none 0 0) = zc := ⟨_, rfl⟩
  have hzv : ∀ W : World, (zeroValue 33).run Tryd.prog W = .ok (.agg zc) W := fun W => by rw [← hzc]; exact pk_zeroW W
  obtain ⟨B, hB⟩ : ∃ B, w.heap.size = B := ⟨_, rfl⟩
  have H0 := Bx.mk ((KP.start w B hB).new (.cells (pkC x (.slice a0 x.b.length c0)) 33))
  rw [hB] at H0
  have HIx := Bx.mk (pk_infoW x (.slice a0 x.b.length c0) ht)
  have HT : Bx (∀ W, Below B w W → Calls Tryd.prog 9 #[pkV x (.slice a0 x.b.length c0), .pointer q] W fun e w' => e = .returned (.tuple #[pkV Pk.zero (.slice none 0 0), .int .i64 code]) ∧ Below W.heap.size W w') := Bx.mk fun W h => hT W (by rw [hB]; exact h)
  have HJ : Bx ((Tryd.prog.info? 33).map (·.size) = some zc.size ∧ zc.size = zc.size ∧ zc.all (·.oneCell') = true) := Bx.mk ⟨by rw [← hzc]; exact pk_infoW _ _ rfl, rfl, by rw [← hzc]; exact pkC_one _ _ _ _⟩
  obtain ⟨tk, htk⟩ : ∃ tk, pkC x (.slice a0 x.b.length c0) = tk := ⟨_, rfl⟩
  unfold pkV at HT
  unfold pkV
  rw [htk] at H0 HT HIx ⊢
  rw [hB]
  rw [hzc] at HT
  clear hT
  clear hzc htk hb ht
  go_enter Tryd.func12, Tryd.ntmps12
  go_wp2_with (refine wpList_load_row rfl 33 _ rfl B (by rfl) _ _ _ _ (H0.out.rows _ (.head _)) Tryd.underlying33 rfl HIx.out ?_)
  generalize w.alloc (.cells tk 33) = w0 at *
  refine (HT.out w0 H0.out.below).mono ?_
  rintro e w1 ⟨rfl, hb1⟩
  have H1 := Bx.mk (H0.out.later hb1)
  clear hb1 H0 HT
  obtain ⟨D, hD⟩ : ∃ D, w1.heap.size = D := ⟨_, rfl⟩
  have HDB : Bx (B < D) := Bx.mk (by rw [← hD]; exact H1.out.lt (.head _))
  have H2 := Bx.mk (H1.out.new (.cells zc 33))
  rw [hD] at H2
  clear H1
  go_upto_region 2 with (first | (refine wpList_store_new rfl 33 _ _ rfl D zc zc _ (by rfl) (by rfl) (H2.out.rows _ (.head _)) rfl HJ.out.1 HJ.out.2.2 ?_; intro w3 hw8 hr8; have hg8 := Bx.mk (kb_ofP hw8); have HR8 := Bx.mk hr8; clear hw8 hr8))
  have H3 := Bx.mk (H2.out.set hg8.out HR8.out (Nat.le_of_lt HDB.out) (by intro y hy; have := HDB.out; simp at hy; subst hy; simp only; omega)).drew
  clear H2 hg8 HR8 hzv hD
  have hcd : decide (code = 0) = false := decide_eq_false hcode
  refine wp_region_noPanic ?_
  refine wp_region_held_drew (S := fun _ => True) (by kernel_rfl) (trivial) (fun hHeld => ?_)
  generalize w3.drew = W0 at *
  refine takeL 0 (v := ?_) rfl (by kernel_rfl) (by kernel_rfl) (by kernel_rfl) (fun _ _ _ h => h) (Or.inl ⟨by rfl, ?_⟩) hHeld ?_
  rotate_left 1
  · (intro w hSw; go_simp; try with_reducible rfl)
  try simp only [Act.put, List.setIfInBounds_toArray, List.set_cons_zero, List.set_cons_succ]
  refine takeL 1 (v := .bool false) rfl (by kernel_rfl) (by kernel_rfl) (by kernel_rfl) (fun _ _ _ h => h) (Or.inl ⟨by rfl, ?_⟩) hHeld ?_
  · (intro w hSw; go_simp; try with_reducible rfl)
  try simp only [Act.put, List.setIfInBounds_toArray, List.set_cons_zero, List.set_cons_succ]
  refine takeL 2 (v := ?_) rfl (by kernel_rfl) (by kernel_rfl) (by kernel_rfl) (fun _ _ _ h => h) (Or.inl ⟨by rfl, ?_⟩) hHeld ?_
  rotate_left 1
  · (intro w hSw; go_simp; try with_reducible rfl)
  try simp only [Act.put, List.setIfInBounds_toArray, List.set_cons_zero, List.set_cons_succ]
  refine takeL 3 (v := undef) rfl (by kernel_rfl) (by kernel_rfl) (by kernel_rfl) (fun _ _ _ h => h) (Or.inr ⟨by rfl, rfl⟩) hHeld ?_
  try simp only [Act.put, List.setIfInBounds_toArray, List.set_cons_zero, List.set_cons_succ]
  refine takeL 4 (v := undef) rfl (by kernel_rfl) (by kernel_rfl) (by kernel_rfl) (fun _ _ _ h => h) (Or.inr ⟨by rfl, rfl⟩) hHeld ?_
  try simp only [Act.put, List.setIfInBounds_toArray, List.set_cons_zero, List.set_cons_succ]
  refine takeL 5 (v := undef) rfl (by kernel_rfl) (by kernel_rfl) (by kernel_rfl) (fun _ _ _ h => h) (Or.inr ⟨by rfl, rfl⟩) hHeld ?_
  try simp only [Act.put, List.setIfInBounds_toArray, List.set_cons_zero, List.set_cons_succ]
  refine takeL 6 (v := undef) rfl (by kernel_rfl) (by kernel_rfl) (by kernel_rfl) (fun _ _ _ h => h) (Or.inr ⟨by rfl, rfl⟩) hHeld ?_
  try simp only [Act.put, List.setIfInBounds_toArray, List.set_cons_zero, List.set_cons_succ]
  refine takeL 7 (v := undef) rfl (by kernel_rfl) (by kernel_rfl) (by kernel_rfl) (fun _ _ _ h => h) (Or.inr ⟨by rfl, rfl⟩) hHeld ?_
  try simp only [Act.put, List.setIfInBounds_toArray, List.set_cons_zero, List.set_cons_succ]
  refine takeL 8 (v := ?_) rfl (by kernel_rfl) (by kernel_rfl) (by kernel_rfl) (fun _ _ _ h => h) (Or.inl ⟨by rfl, ?_⟩) hHeld ?_
  rotate_left 1
  · (intro w hSw; go_simp; try with_reducible rfl)
  try simp only [Act.put, List.setIfInBounds_toArray, List.set_cons_zero, List.set_cons_succ]
  refine takeL 9 (v := ?_) rfl (by kernel_rfl) (by kernel_rfl) (by kernel_rfl) (fun _ _ _ h => h) (Or.inl ⟨by rfl, ?_⟩) hHeld ?_
  rotate_left 1
  · (intro w hSw; go_simp; try with_reducible rfl)
  try simp only [Act.put, List.setIfInBounds_toArray, List.set_cons_zero, List.set_cons_succ]
  refine wpAnyH_done (by kernel_rfl) ?_ _
  refine NoPanic.normal ?_
  clear hHeld
  try go_wp2
  go_ret
  exact ⟨rfl, H3.out.below⟩
end Go.Proofs.YtaoekfomffebhaaDoor
namespace Go.Proofs.YtaoekfomffebhaaDoor
open Go Go.ChangeShapes Go.WideShapes Go.ChangeAt Go.RowKit
/-- A reader's bytes and error behind k bytes that are read one by one; what they are. -/
def stT (p : List UInt8 × Int) : Nat → List UInt8 × Int
  | 0 => p
  | k + 1 => stepR (stT p k) 0
def tgB (p : List UInt8 × Int) (k : Nat) : UInt8 := UInt8.ofNat ((numR (stT p k) 0).toNat % 256)
def tgT (p : List UInt8 × Int) (k : Nat) : List UInt8 := (List.range 32).map fun j => if j < k then tgB p j else 0
theorem tgT_succ (p : List UInt8 × Int) (k : Nat) (h : k < 32) : (tgT p k).set k (tgB p k) = tgT p (k + 1) := by
  apply List.ext_getElem
  · simp [tgT]
  · intro i h1 h2
    rw [List.getElem_set]
    simp only [tgT, List.getElem_map, List.getElem_range]
    by_cases hi : k = i
    · subst hi
      rw [if_pos rfl, if_pos (by omega)]
    · rw [if_neg hi]
      by_cases h3 : i < k
      · rw [if_pos h3, if_pos (by omega)]
      · rw [if_neg h3, if_neg (by omega)]
/-- What holds while a tag is read: the reader's box, the result's cell, the tag so far, the reader itself. -/
structure TG (w : World) (B q : Nat) (z1 : Array Value) (p : List UInt8 × Int) (k : Nat) (W : World) : Prop where
  box : W.heap[B]? = some (.cells #[.pointer (some ⟨q, 0, none⟩)] 86 (0, 0))
  res : W.heap[B + 1]? = some (.cells z1 27 (0, 0))
  tag : W.heap[B + 1 + 1]? = some (.cells (u8s (tgT p k)) 27 (0, 0))
  rd : IsR W q (stT p k).1 (stT p k).2
  gr : w.grownBy W (some q)
  sz : B + 2 < W.heap.size
theorem TG.put {w : World} {B q : Nat} {z1 : Array Value} {p : List UInt8 × Int} {k : Nat} {W : World} (h : W.heap[B]? = some (.cells #[.pointer (some ⟨q, 0, none⟩)] 86 (0, 0)) ∧ W.heap[B + 1]? = some (.cells z1 27 (0, 0)) ∧ W.heap[B + 1 + 1]? = some (.cells (u8s (tgT p k)) 27 (0, 0)) ∧ w.grownBy W (some q) ∧ B + 2 < W.heap.size) (hr : IsR W q (stT p (k + 1)).1 (stT p (k + 1)).2) (hk : k < 32) (hq : q < B) (hB : w.heap.size = B) :
    TG w B q z1 p (k + 1) (W.setCell ⟨B + 1 + 1, k, none⟩ (.int .u8 (ub (tgB p k)))) := by
  obtain ⟨h1, h2, h3, h4, h5⟩ := h
  have hg := kb_setCell (b := B + 1 + 1) W k (.int .u8 (ub (tgB p k)))
  refine ⟨(hg.block B (by omega) (fun e => by injection e with e; omega)).trans h1, (hg.block (B + 1) (by omega) (fun e => by injection e with e; omega)).trans h2, ?_, hr.asideT h3 (by decide) hg (by omega), kb_new h4 hg (by omega), Nat.lt_of_lt_of_le h5 hg.size⟩
  rw [heap_setCell_same W (B + 1 + 1) k _ 27 _ h3, u8s_set, tgT_succ p k hk]
end Go.Proofs.YtaoekfomffebhaaDoor
namespace Go.Proofs.YtaoekfomffebhaaDoor
open Go Go.ChangeShapes Go.WideShapes Go.ChangeAt Go.RowKit
theorem pk_setT (x : Pk) (u : Value) (sk : List UInt8) (hx : x.t.length = 32) (hs : sk.length = 32) : spl (pkC x u) 9 (u8s sk).toList = pkC { x with t := sk } u := by
  have hsz : (u8s sk).size = 32 := by rw [u8s_size, hs]
  apply Array.ext_getElem?
  intro i
  rw [spl_get, pkC_size x u hx, Array.length_toList, hsz]
  by_cases h9 : i < 9
  · rw [if_neg (by omega)]
    match i, h9 with
    | 0, _ => rfl
    | 1, _ => rfl
    | 2, _ => rfl
    | 3, _ => rfl
    | 4, _ => rfl
    | 5, _ => rfl
    | 6, _ => rfl
    | 7, _ => rfl
    | 8, _ => rfl
  · obtain ⟨j, rfl⟩ : ∃ j, i = j + 9 := ⟨i - 9, by omega⟩
    have e1 : (pkC { x with t := sk } u)[j + 9]? = (u8s sk).toList[j]? := by unfold pkC; rw [List.getElem?_toArray]; rfl
    have e2 : (pkC x u)[j + 9]? = (u8s x.t).toList[j]? := by unfold pkC; rw [List.getElem?_toArray]; rfl
    by_cases h4 : j < 32
    · rw [if_pos (by omega), e1]
      congr 1
    · rw [if_neg (by omega), e1, e2, List.getElem?_eq_none (by rw [Array.length_toList, u8s_size, hx]; omega), List.getElem?_eq_none (by rw [Array.length_toList, u8s_size, hs]; omega)]
/-- What holds while a packet is read. -/
structure PR (w : World) (B q D : Nat) (zc : Array Value) (x : Pk) (v : Value) (p : List UInt8 × Int) (W : World) : Prop where
  box : W.heap[B]? = some (.cells #[.pointer (some ⟨q, 0, none⟩)] 86 (0, 0))
  res : W.heap[B + 1]? = some (.cells zc 33 (0, 0))
  pk : W.heap[D]? = some (.cells (pkC x v) 33 (0, 0))
  rd : IsR W q p.1 p.2
  gr : w.grownBy W (some q)
  lt : B + 1 < D
  qlt : q < B
  at_ : w.heap.size = B
theorem PR.dlt {w : World} {B q D : Nat} {zc : Array Value} {x : Pk} {v : Value} {p : List UInt8 × Int} {W : World} (h : PR w B q D zc x v p W) : D < W.heap.size := (Array.getElem?_eq_some_iff.1 h.pk).1
theorem PR.put {w : World} {B q D : Nat} {zc : Array Value} {x y : Pk} {v u : Value} {p : List UInt8 × Int} {W W1 : World} (h : PR w B q D zc x v p W) (hg : W.grownBy W1 (some D)) (hp : W1.heap[D]? = some (.cells (pkC y u) 33 (0, 0))) : PR w B q D zc y u p W1 := by
  have h2 := h.dlt
  have h3 := h.lt
  have h4 := h.qlt
  exact ⟨(hg.block B (by omega) (fun e => by injection e with e; omega)).trans h.box, (hg.block (B + 1) (by omega) (fun e => by injection e with e; omega)).trans h.res, hp, h.rd.asideT h.pk (by decide) hg (by omega), kb_new h.gr hg (by have := h.at_; omega), h.lt, h.qlt, h.at_⟩
end Go.Proofs.YtaoekfomffebhaaDoor
namespace Go.Proofs.YtaoekfomffebhaaDoor
open Go Go.ChangeShapes Go.WideShapes Go.ChangeAt Go.RowKit
/-- What holds behind the reading. -/
structure PP (w : World) (B R q D : Nat) (zc : Array Value) (x : Pk) (u : Value) (p : List UInt8 × Int) (W : World) : Prop where
  res : W.heap[B]? = some (.cells zc 33 (0, 0))
  box : W.heap[R]? = some (.cells #[.pointer (some ⟨q, 0, none⟩)] 86 (0, 0))
  pk : W.heap[D]? = some (.cells (pkC x u) 33 (0, 0))
  rd : IsR W q p.1 p.2
  body : OwnB W (B + 1) u x.b
  below : Below B w W
  lt : B < W.heap.size
theorem PP.later {w : World} {B R q D : Nat} {zc : Array Value} {x : Pk} {u : Value} {p : List UInt8 × Int} {W W1 : World} (h : PP w B R q D zc x u p W) (hb : Below W.heap.size W W1) : PP w B R q D zc x u p W1 :=
  ⟨(hb.block B (Array.getElem?_eq_some_iff.1 h.res).1).trans h.res, (hb.block R (Array.getElem?_eq_some_iff.1 h.box).1).trans h.box, (hb.block D (Array.getElem?_eq_some_iff.1 h.pk).1).trans h.pk, h.rd.later hb, h.body.later hb (fun g hg => (h.body.lt g hg).1), h.below.trans (hb.mono (Nat.le_of_lt h.lt)), Nat.lt_of_lt_of_le h.lt hb.size⟩
end Go.Proofs.YtaoekfomffebhaaDoor
namespace Go.Proofs.YtaoekfomffebhaaDoor
open Go Go.RowKit
theorem Bytes.asideN {w : World} {v : Value} {l : List UInt8} (h : Bytes w v l) {M : Nat} (hM : w.heap.size ≤ M) : BytesN w M v l := by
  refine ⟨h, fun h0 e => ?_⟩
  obtain ⟨a, n, rfl, -, -, hr⟩ := h
  obtain ⟨g, o, rfl, hc⟩ := hr h0
  have hg := World.block_lt_of_cell? _ _ (hc 0 h0)
  have : g = M := by simpa [Value.ownBlock] using e
  simp at hg
  omega
theorem OwnB.asideN {w : World} {base M : Nat} {v : Value} {l : List UInt8} (h : OwnB w base v l) (hM : M < base) : BytesN w M v l := ⟨h.bytes, fun _ e => by have := (h.lt _ e).2; omega⟩
/-- Bytes, a key and the digest's table beside block M. -/
structure FX (M : Nat) (bs : List (Value × List UInt8)) (vk : Value) (kb : List UInt8) (W : World) : Prop where
  bytes : ∀ x ∈ bs, BytesN W M x.1 x.2
  key : ∃ p s, vk = .pointer (some ⟨p, 0, none⟩) ∧ p ≠ M ∧ W.heap[p]? = some (.cells #[s] 74 (0, 0)) ∧ BytesN W M s kb
  tab : Tab W
  tg : 1 < W.heap.size
  gne : 1 ≠ M
theorem FX.grown {M : Nat} {bs : List (Value × List UInt8)} {vk : Value} {kb : List UInt8} {W W1 : World} (h : FX M bs vk kb W) (hg : W.grownBy W1 (some M)) : FX M bs vk kb W1 := by
  obtain ⟨p, s, h1, h2, h3, h4⟩ := h.key
  have hgb := hg.block _ h.tg (fun e => by injection e with e; exact h.gne e)
  exact ⟨fun x hx => (h.bytes x hx).grown hg, ⟨p, s, h1, h2, (hg.block p (Array.getElem?_eq_some_iff.1 h3).1 (fun e => by injection e with e; exact h2 e)).trans h3, h4.grown hg⟩, fun k hk => (World.cell?_of_block hgb).trans (h.tab k hk), Nat.lt_of_lt_of_le h.tg hg.size, h.gne⟩
theorem FX.later {M : Nat} {bs : List (Value × List UInt8)} {vk : Value} {kb : List UInt8} {W W1 : World} (h : FX M bs vk kb W) (hb : Below W.heap.size W W1) : FX M bs vk kb W1 := h.grown (kb_below (some M) hb)
theorem FX.isKey {M : Nat} {bs : List (Value × List UInt8)} {vk : Value} {kb : List UInt8} {W : World} (h : FX M bs vk kb W) : IsKey W vk kb := by
  obtain ⟨p, s, h1, -, h3, h4⟩ := h.key
  exact ⟨p, s, h1, h3, h4.1⟩
theorem FX.at0 {M : Nat} {x : Value × List UInt8} {bs : List (Value × List UInt8)} {vk : Value} {kb : List UInt8} {W : World} (h : FX M (x :: bs) vk kb W) : Bytes W x.1 x.2 := (h.bytes x (.head _)).1
theorem FX.at1 {M : Nat} {x y : Value × List UInt8} {bs : List (Value × List UInt8)} {vk : Value} {kb : List UInt8} {W : World} (h : FX M (x :: y :: bs) vk kb W) : Bytes W y.1 y.2 := (h.bytes y (.tail _ (.head _))).1
theorem FX.at2 {M : Nat} {x y z : Value × List UInt8} {bs : List (Value × List UInt8)} {vk : Value} {kb : List UInt8} {W : World} (h : FX M (x :: y :: z :: bs) vk kb W) : Bytes W z.1 z.2 := (h.bytes z (.tail _ (.tail _ (.head _)))).1
theorem FX.cons {M : Nat} {x : Value × List UInt8} {bs : List (Value × List UInt8)} {vk : Value} {kb : List UInt8} {W : World} (h : FX M bs vk kb W) (hx : BytesN W M x.1 x.2) : FX M (x :: bs) vk kb W :=
  ⟨fun y hy => by rcases List.mem_cons.1 hy with rfl | hy; exact hx; exact h.bytes y hy, h.key, h.tab, h.tg, h.gne⟩
theorem chkP_tag (x : Pk) (t : List UInt8) (h : plainB x.k = false) : chkP { x with t := t } = chkP x := by
  unfold chkP
  simp [h]
theorem plain_kind (x : Pk) (hp : plainB x.k = false) (hc : chkP x = 0) : 2 < x.k := by
  have h := (kindB_iff _).1 (chkP_ok hc).1
  unfold plainB at hp
  simp at hp
  omega
end Go.Proofs.YtaoekfomffebhaaDoor
namespace Go.Proofs.YtaoekfomffebhaaDoor
open Go Go.ChangeShapes Go.WideShapes Go.ChangeAt Go.RowKit
theorem KP.fresh {w : World} {B A : Nat} {rs : List (Nat × Obj)} {W W1 : World} {o o1 : Obj} (h : KP w B rs W) (hA : W.heap.size = A) (hg : (W.alloc o).grownBy W1 (some A)) (hr : W1.heap[A]? = some o1) : KP w B ((A, o1) :: rs) W1 ∧ Below W.heap.size W W1 := by
  have k := h.new o
  rw [hA] at k
  have hle := h.le
  exact ⟨k.set hg hr (by omega) (fun x hx => by have := h.lt hx; omega), (below_a o).trans (grown_below hg (by omega) (by have := (below_a (W := W) o).size; omega))⟩
end Go.Proofs.YtaoekfomffebhaaDoor
