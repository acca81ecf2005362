/-
  The walks of the tag that binds, and of bytes that are turned by the stream.
-/
import Derived.Test.YtcaehkglfliihaaDoorSb
namespace Go.Proofs.YtcaehkglfliihaaDoor
open Go Go.RowKit
theorem framed_succ0 (pss : List (List UInt8)) (k : Nat) (h : k < pss.length) : framed (pss.take (k + 1)) = framed (pss.take k) ++ [lenB (pss.getD k []).length, pss.getD k []] := by
  unfold framed
  rw [List.take_succ_eq_append_getElem h, List.flatMap_append]
  simp [h]
set_option maxRecDepth 100000 in
set_option maxHeartbeats 1000000 in
theorem bind_any (hk bk : List UInt8) (pss : List (List UInt8)) (v vp : Value) (w : World) (hv : IsPair w v hk bk) (hp : Parts w vp pss) (hkl : bk.length ≤ 1000000) (hn : pss.length ≤ 1000) (hpl : ∀ p ∈ pss, p.length ≤ 1000000) (hfl : (frame pss).length ≤ 100000000) (hTab : Tab w) (hg : 0 < w.heap.size) :
    Calls Tryd.prog 60 #[v, vp] w fun e w' => e = .returned (.agg (u8s (hmac bk (frame pss)))) ∧ Below w.heap.size w w' := by
  obtain ⟨q, k1, k2, rfl, hr, hk1, hk2⟩ := hv
  obtain ⟨q2, rfl⟩ := hk2.form
  have HPr : Bx (w.cell? ⟨q, 1, none⟩ = some (.pointer (some ⟨q2, 0, none⟩)) ∧ q < w.heap.size ∧ IsKey w (.pointer (some ⟨q2, 0, none⟩)) bk) := Bx.mk ⟨by rw [cell_of_row _ _ _ _ _ _ hr]; rfl, (Array.getElem?_eq_some_iff.1 hr).1, hk2⟩
  clear hr hk1 hk2
  have HA := Bx.mk hTab
  have HKl := Bx.mk (And.intro hkl hfl)
  have HPL := Bx.mk hpl
  have HP0 := Bx.mk hp
  obtain ⟨a, cap, rfl, -⟩ := hp
  obtain ⟨n, hnn⟩ : ∃ n, pss.length = n := ⟨_, rfl⟩
  have HN := Bx.mk hnn
  rw [hnn] at HP0 hn ⊢
  have hn1 : (n : Int) ≤ 1000 := by omega
  clear hnn hpl hTab hkl hfl
  obtain ⟨z32, hz32⟩ : ∃ z, u8s (List.replicate 32 0) = z := ⟨_, rfl⟩
  have hz32v : ∀ W : World, (zeroValue 34).run Tryd.prog W = .ok (.agg z32) W := fun W => by rw [← hz32, zero32]; kernel_rfl
  have H0 : Bx (Below w.heap.size w (w.alloc (.cells z32 34)) ∧ (w.alloc (.cells z32 34)).heap[w.heap.size]? = some (.cells (u8s (List.replicate 32 0)) 34 (0, 0)) ∧ w.heap.size < (w.alloc (.cells z32 34)).heap.size) := Bx.mk ⟨below_a _, by rw [hnew _ _ _ rfl, hz32], by simp⟩
  clear hz32
  obtain ⟨i0, hi0, hz0, hz1, hz2⟩ := info_parts (P := Tryd.prog) (e := 22) (z := .slice none 0 0) (size := 1) (bytes := 24) (by kernel_rfl)
  obtain ⟨cp, hcp⟩ : ∃ cp, cp = 2 * n := ⟨_, rfl⟩
  have hcp1 : 2 * (n : Int) = (cp : Int) := by omega
  have HCP := Bx.mk hcp
  clear hcp
  go_enter Tryd.func60, Tryd.ntmps60
  go_upto_region 1 with (fail)
  have HP : Bx (Parts (w.alloc (.cells z32 34)) (.slice a n cap) pss) := Bx.mk (HP0.out.later H0.out.1)
  generalize w.alloc (.cells z32 34) = w0 at *
  clear HP0 hz32v
  go_upto_region 2 with (refine wpList_make_own w0 rfl _ _ 23 rfl w0.heap.size 22 i0 _ 1 Tryd.underlying23 hi0 hz0 hz1 .i64 .i64 _ cp (by rfl) (by rfl) rfl (by rw [hz2]; have := HCP.out; omega) (by have := HCP.out; unfold maxLen; omega) (Nat.le_refl _) ?_; intro w1 ho1 hg1)
  have H1 : Bx (FrS w0 cp [] [] w1) := Bx.mk (by
    have hlt : w0.heap.size < w1.heap.size := by
      rcases ho1.2 with ⟨hv, _⟩ | ⟨g, c, cur, hv, _, hh, _⟩
      · cases hv
      · injection hv with e1 _ _
        injection e1 with e1
        injection e1 with e1 _
        subst e1
        exact (Array.getElem?_eq_some_iff.1 hh).1
    exact ⟨⟨hg1.os, hg1.tape, hg1.output, hg1.size, fun i hi => hg1.block i hi (by intro e; cases e)⟩, ho1, rfl, (fun j hj => by simp at hj), hlt⟩)
  clear ho1 hg1 hi0 hz0 hz1 hz2 hcp1
  go_wp2
  go_loopw [5, 14] (fun vv i wr => ∃ j m : Nat, j ≤ n ∧ m = 2 * j ∧ vv = .slice (some ⟨w0.heap.size, 0, none⟩) m cp ∧ i = .int .i64 (j : Int) ∧ Bx (∃ xs : List Value, xs.length = m ∧ FrS w0 cp xs (framed (pss.take j)) wr)) (fun _ i _ => n - (intOf i).toNat)
  case atStart => exact ⟨0, 0, by omega, rfl, rfl, rfl, ⟨[], rfl, H1.out⟩⟩
  case round =>
    clear H1
    obtain ⟨j, m, hj, hm, rfl, rfl, HF⟩ := hrel
    by_cases hlt : j < n
    · obtain ⟨a', cap', hv', hr'⟩ := HP.out
      injection hv' with e1 e2 e3
      obtain ⟨p, o, ha, hcell⟩ := hr' (by omega)
      subst e1
      subst ha
      obtain ⟨xv, hx, hxb⟩ := hcell j (by rw [HN.out]; exact hlt)
      obtain ⟨xs, hxs, hF⟩ := HF.out
      have hcw : wr.cell? ⟨p, o + j, none⟩ = some xv := by
        rw [hF.below.cell (p := ⟨p, o + j, none⟩) (World.block_lt_of_cell? _ _ hx)]
        exact hx
      have hpj : (pss.getD j []).length ≤ 1000000 := by
        have h : j < pss.length := by rw [HN.out]; exact hlt
        have hmem : pss.getD j [] ∈ pss := by
          rw [List.getD_eq_getElem?_getD, List.getElem?_eq_getElem h]
          exact List.getElem_mem h
        exact HPL.out _ hmem
      have HSc : Bx (framed (pss.take (j + 1)) = framed (pss.take j) ++ [lenB (pss.getD j []).length, pss.getD j []]) := Bx.mk (framed_succ0 pss j (by rw [HN.out]; exact hlt))
      generalize pss.getD j [] = pj at *
      obtain ⟨ax, cx, hxf, -, -⟩ := bytes_form hxb
      obtain ⟨pl, hpl⟩ : ∃ pl, pj.length = pl := ⟨_, rfl⟩
      rw [hpl] at hxf hpj HSc
      have HXB := Bx.mk hxb
      have HF2 := Bx.mk (And.intro hxs hF)
      subst hxf
      have hpl1 : (pl : Int) ≤ 1000000 := by omega
      have hj1 : (j : Int) < (n : Int) := by omega
      have HM := Bx.mk (And.intro hm hlt)
      clear hr' e2 e3 hcell hx hxb hF hxs HF hpl hm
      obtain ⟨wq, rfl⟩ : ∃ wq : World, wq = wr := ⟨_, rfl⟩
      go_wp2_with fail
      refine (four_any pl wq (by omega)).mono ?_
      rintro e w5 ⟨rfl, hb5, hy5⟩
      have H5 : Bx (FrS w0 cp xs (framed (pss.take j)) w5 ∧ BN w5 w0.heap.size (.slice (some ⟨wq.heap.size, 0, none⟩) 4 4) (lenB pl) ∧ BN w5 w0.heap.size (.slice ax pl cx) pj) := Bx.mk ⟨HF2.out.2.later hb5, hy5.bn (by have := HF2.out.2.lt; omega), HXB.out.bn_old (HF2.out.2.later hb5).below (Nat.le_refl _)⟩
      have HXL := Bx.mk HF2.out.1
      clear hb5 hy5 HF2 hcw
      generalize wq.heap.size = L5 at *
      go_wp2_with (refine wpList_ap2 rfl _ _ rfl w0 w5 cp xs _ (.slice (some ⟨L5, 0, none⟩) 4 4) (.slice ax pl cx) (lenB pl) pj H5.out.1 H5.out.2.1 H5.out.2.2 rfl rfl m HXL.out (by rfl) (by rfl) (by have := HCP.out; have := HM.out; omega) ?_; intro w6 hF6; have H6 : Bx (∃ ys : List Value, ys.length = m + 2 ∧ FrS w0 cp ys (framed (pss.take (j + 1))) w6) := Bx.mk ⟨xs ++ [.slice (some ⟨L5, 0, none⟩) 4 4, .slice ax pl cx], by (rw [List.length_append, HXL.out]; rfl), by (rw [HSc.out]; exact hF6)⟩; clear hF6)
      go_roundw
      case rel => exact ⟨j + 1, m + 2, by omega, by have := HM.out; omega, rfl, by go_num, H6⟩
      case measure => simp [intOf]; omega
    · obtain ⟨xs, hxs, hF⟩ := HF.out
      have ej : pss.take j = pss := List.take_of_length_le (by rw [HN.out]; omega)
      rw [ej] at hF
      have HQ : Bx (Parts wr (.slice (some ⟨w0.heap.size, 0, none⟩) m cp) (framed pss) ∧ Below w.heap.size w wr ∧ wr.heap[w.heap.size]? = some (.cells (u8s (List.replicate 32 0)) 34 (0, 0)) ∧ w.heap.size < wr.heap.size) := Bx.mk ⟨by rw [← hxs]; exact hF.parts, H0.out.1.trans (hF.below.mono H0.out.1.size), by rw [hF.below.block _ H0.out.2.2]; exact H0.out.2.1, Nat.lt_of_lt_of_le H0.out.2.2 hF.below.size⟩
      have hc2 : wr.cell? ⟨q, 1, none⟩ = some (.pointer (some ⟨q2, 0, none⟩)) := by rw [HQ.out.2.1.cell (p := ⟨q, 1, none⟩) HPr.out.2.1]; exact HPr.out.1
      have HFl : Bx ((framed pss).length ≤ 1000000) := Bx.mk (by rw [framed_all, HN.out]; omega)
      have hj2 : ¬ (j : Int) < (n : Int) := by omega
      clear HF hF ej hxs hm H0 HP
      go_wp2_with fail
      refine (ktag_any bk (framed pss) _ _ wr (HPr.out.2.2.later HQ.out.2.1) HQ.out.1 HKl.out.1 HFl.out HKl.out.2 (HA.out.later HQ.out.2.1 hg) (Nat.lt_of_lt_of_le hg HQ.out.2.1.size)).mono ?_
      rintro e w7 ⟨rfl, hb7⟩
      have H7 : Bx (Below w.heap.size w w7 ∧ w7.heap[w.heap.size]? = some (.cells (u8s (List.replicate 32 0)) 34 (0, 0))) := Bx.mk ⟨HQ.out.2.1.trans (hb7.mono HQ.out.2.1.size), by rw [hb7.block _ HQ.out.2.2.2]; exact HQ.out.2.2.1⟩
      clear hb7 HQ hc2
      have HE : Bx (hmac bk (framed pss).flatten = hmac bk (frame pss)) := Bx.mk rfl
      rw [HE.out]
      have HSL : Bx ((hmac bk (frame pss)).length = 32) := Bx.mk (hmac_length _ _)
      generalize hhm : hmac bk (frame pss) = hm at *
      have HHM := Bx.mk hhm
      clear hhm
      have HI : Bx ((Tryd.prog.info? 34).map (·.size) = some (u8s hm).size) := Bx.mk (by rw [u8s_size, HSL.out]; kernel_rfl)
      have HZ : Bx ((u8s hm).size = (u8s (List.replicate 32 0)).size) := Bx.mk (by rw [u8s_size, u8s_size, HSL.out]; rfl)
      go_wp2_with (refine wpList_store_new rfl 34 _ _ rfl w.heap.size (u8s hm) _ _ (by rfl) (by rfl) H7.out.2 HZ.out HI.out (one_u8s _) ?_; intro w8 hw8 hr8; have H8 : Bx (Below w.heap.size w w8 ∧ w8.heap[w.heap.size]? = some (.cells (u8s hm) 34 (0, 0))) := Bx.mk ⟨by rw [hw8]; exact below_setCells (Nat.le_refl _) _ _ _ _ H7.out.1, hr8⟩; clear hw8 hr8)
      refine bodyPost_ret (results_cell_row rfl _ _ w.heap.size _ (u8s hm) _ _ rfl H8.out.2 Tryd.underlying34 rfl HI.out) rfl ?_
      exact ⟨by first | rfl | rw [HHM.out], H8.out.1⟩
end Go.Proofs.YtcaehkglfliihaaDoor
