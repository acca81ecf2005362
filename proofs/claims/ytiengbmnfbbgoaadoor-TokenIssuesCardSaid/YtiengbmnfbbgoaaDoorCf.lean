/-
  Claims: the document's claims, whether they are right, their bytes.
-/
import Derived.Test.YtiengbmnfbbgoaaDoorCb
import Derived.Test.YtiengbmnfbbgoaaDoorIe
namespace Go.Proofs.YtiengbmnfbbgoaaDoor
open Go Go.RowKit
set_option maxRecDepth 100000 in
theorem cto_any (c : Cl) (w : World) : Calls Tryd.prog 13 #[clV c] w fun e w' => e = .returned (clV c) ∧ Below w.heap.size w w' := by
  obtain ⟨i, r, x, s⟩ := c
  unfold clV
  simp only
  go_enter Tryd.func13, Tryd.ntmps13
  go_wp2
  refine bodyPost_ret (results_cell_row rfl _ _ (w.heap.size + 1) _ _ _ _ rfl (hnew _ _ _ (by simp)) Tryd.underlying36 rfl (by kernel_rfl)) rfl ?_
  exact ⟨rfl, (below_a _).trans ((below_a _).mono (by simp))⟩
set_option maxRecDepth 100000 in
theorem cof_any (c : Cl) (w : World) : Calls Tryd.prog 28 #[clV c] w fun e w' => e = .returned (clV c) ∧ Below w.heap.size w w' := by
  obtain ⟨i, r, x, s⟩ := c
  unfold clV
  simp only
  go_enter Tryd.func28, Tryd.ntmps28
  go_wp2
  refine bodyPost_ret (results_cell_row rfl _ _ (w.heap.size + 1) _ _ _ _ rfl (hnew _ _ _ (by simp)) Tryd.underlying24 rfl (by kernel_rfl)) rfl ?_
  exact ⟨rfl, (below_a _).trans ((below_a _).mono (by simp))⟩
set_option maxRecDepth 100000 in
theorem cright_any (c : Cl) (w : World) : Calls Tryd.prog 14 #[clV c] w fun e w' => e = .returned (.bool (okC c)) ∧ Below w.heap.size w w' := by
  obtain ⟨i, r, x, s⟩ := c
  have HB := Bx.mk (below_a (W := w) (.cells #[.int .i64 i, .int .i64 r, .int .i64 x, .int .i64 s] 24))
  unfold clV
  simp only
  go_enter Tryd.func14, Tryd.ntmps14
  go_wp2
  all_goals go_ret
  all_goals refine ⟨ret_bool ?_, HB.out⟩
  all_goals rw [Bool.eq_iff_iff, okC_iff]
  all_goals simp only [decide_eq_true_eq, Bool.false_eq_true, false_iff]
  all_goals omega
theorem chk_num2 (s n : Int) (h0 : 0 ≤ s) (h3 : s ≤ 3) (h1 : 0 ≤ n) (h2 : n ≤ most s) : chk (fNum s n) = 0 := by
  unfold chk fNum
  simp only
  rw [if_neg (by omega), if_neg (by omega), if_neg (by simp; omega)]
theorem enc_num2 (s n : Int) (h3 : s ≤ 3) : enc (fNum s n) = beN (wid s) n.toNat := by unfold enc fNum; simp only; rw [if_neg (by omega)]
/-- What stays while the document's bytes are written. -/
structure DB (w : World) (B : Nat) (c : Cl) (W : World) : Prop where
  box : W.heap[B]? = some (.cells (clC c) 24 (0, 0))
  below : Below B w W
theorem DB.later {w : World} {B : Nat} {c : Cl} {W W1 : World} (h : DB w B c W) {K : Nat} (hb : Below K W W1) (hK : B < K) : DB w B c W1 :=
  ⟨by rw [hb.block B hK]; exact h.box, h.below.trans (hb.mono (Nat.le_of_lt hK))⟩
theorem DB.lt {w : World} {B : Nat} {c : Cl} {W : World} (h : DB w B c W) : B < W.heap.size := (Array.getElem?_eq_some_iff.1 h.box).1
theorem DB.cell {w : World} {B : Nat} {c : Cl} {W : World} (h : DB w B c W) (k : Nat) (v : Value) (hv : (clC c)[k]? = some v) : W.cell? ⟨B, k, none⟩ = some v := by rw [cell_of_row _ _ _ _ _ _ h.box]; exact hv
set_option maxRecDepth 100000 in
set_option maxHeartbeats 2000000 in
theorem rbytes_any (c : Cl) (w : World) (hc : okC c = true) : Calls Tryd.prog 23 #[clV c] w fun e w' => ∃ v, e = .returned v ∧ OwnB w' w.heap.size v (clB c) ∧ Below w.heap.size w w' := by
  obtain ⟨i, r, x, s⟩ := c
  have HOK := Bx.mk ((okC_iff i r x s).mp hc)
  have K1 := Bx.mk (chk_num2 1 i (by omega) (by omega) (by have := HOK.out; omega) (by have := HOK.out; unfold most; simp; omega))
  have K3 := Bx.mk (chk_num2 2 x (by omega) (by omega) (by have := HOK.out; omega) (by have := HOK.out; unfold most; simp; omega))
  have K4 := Bx.mk (chk_num2 1 s (by omega) (by omega) (by have := HOK.out; omega) (by have := HOK.out; unfold most; simp; omega))
  have E1 : Bx (enc (fNum 1 i) = beN 2 i.toNat) := Bx.mk (enc_num2 1 i (by omega))
  have E3 : Bx (enc (fNum 2 x) = beN 4 x.toNat) := Bx.mk (enc_num2 2 x (by omega))
  have E4 : Bx (enc (fNum 1 s) = beN 2 s.toNat) := Bx.mk (enc_num2 1 s (by omega))
  obtain ⟨rb, hrb⟩ : ∃ rb, UInt8.ofNat (r.toNat % 256) = rb := ⟨_, rfl⟩
  have hw8 : IntKind.u8.wrap r = ub rb := by rw [← hrb, ub_nat, IntWalk.u8_in _ (by have := HOK.out; omega)]; have := HOK.out; omega
  have HRB : Bx (beN 1 r.toNat = [rb]) := Bx.mk (by rw [← hrb]; simp [beN])
  clear hrb hc
  obtain ⟨B, hB⟩ : ∃ B, w.heap.size = B := ⟨_, rfl⟩
  have H0 : Bx (DB w B ⟨i, r, x, s⟩ (w.alloc (.cells #[.int .i64 i, .int .i64 r, .int .i64 x, .int .i64 s] 24))) := Bx.mk ⟨hnew _ _ _ hB.symm, by rw [← hB]; exact below_a _⟩
  unfold clV
  simp only
  rw [hB]
  go_enter Tryd.func23, Tryd.ntmps23
  go_wp2_with fail
  generalize w.alloc (.cells #[.int .i64 i, .int .i64 r, .int .i64 x, .int .i64 s] 24) = w0 at *
  refine (rout_any (fNum 1 i) _ w0 ⟨_, rfl, Bytes.nil _⟩ K1.out).mono ?_
  rintro e w1 ⟨v1, rfl, ho1, hb1⟩
  rw [E1.out] at ho1
  have H1 : Bx (DB w B ⟨i, r, x, s⟩ w1 ∧ OwnB w1 (B + 1) v1 (beN 2 i.toNat)) := Bx.mk ⟨H0.out.later hb1 H0.out.lt, ho1.weak H0.out.lt⟩
  obtain ⟨a1, c1, hv1⟩ := own_form ho1
  subst hv1
  clear ho1 hb1 H0 K1 E1
  have hc1 : w1.cell? ⟨B, 1, none⟩ = some (.int .i64 r) := H1.out.1.cell 1 _ rfl
  have HA : Bx (DB w B ⟨i, r, x, s⟩ (w1.alloc (.cells #[.int .u8 (ub rb)] 5)) ∧ OwnB (w1.alloc (.cells #[.int .u8 (ub rb)] 5)) (B + 1) (.slice a1 (beN 2 i.toNat).length c1) (beN 2 i.toNat) ∧ Bytes (w1.alloc (.cells #[.int .u8 (ub rb)] 5)) (.slice (some ⟨w1.heap.size, 0, none⟩) 1 1) [rb] ∧ B + 1 ≤ (w1.alloc (.cells #[.int .u8 (ub rb)] 5)).heap.size) := Bx.mk ⟨H1.out.1.later (below_a _) H1.out.1.lt, own_a H1.out.2 _, built1 _ _, by have := H1.out.1.lt; simp; omega⟩
  clear H1
  go_upto_region 3 with (refine wpList_ap rfl _ _ rfl (B + 1) _ _ rfl HA.out.2.1 _ _ rfl HA.out.2.2.1 (by simp [beN_length]) HA.out.2.2.2 ?_; intro v2 w2 ho2 hg2 _)
  have H2 : Bx (DB w B ⟨i, r, x, s⟩ w2 ∧ OwnB w2 (B + 1) v2 (beN 2 i.toNat ++ beN 1 r.toNat)) := Bx.mk ⟨HA.out.1.later (own_below HA.out.2.1 hg2 HA.out.2.2.2) (by omega), by rw [HRB.out]; exact ho2⟩
  obtain ⟨a2, c2, hv2⟩ := own_form H2.out.2
  subst hv2
  clear ho2 hg2 HA hc1 HRB hw8
  have hc2 : w2.cell? ⟨B, 2, none⟩ = some (.int .i64 x) := H2.out.1.cell 2 _ rfl
  go_wp2_with fail
  refine (rout_any (fNum 2 x) _ w2 ⟨_, rfl, Bytes.nil _⟩ K3.out).mono ?_
  rintro e w3 ⟨v3, rfl, ho3, hb3⟩
  rw [E3.out] at ho3
  have H3 : Bx (DB w B ⟨i, r, x, s⟩ w3 ∧ OwnB w3 (B + 1) (.slice a2 (beN 2 i.toNat ++ beN 1 r.toNat).length c2) (beN 2 i.toNat ++ beN 1 r.toNat) ∧ Bytes w3 v3 (beN 4 x.toNat) ∧ B + 1 ≤ w3.heap.size) := Bx.mk ⟨H2.out.1.later hb3 H2.out.1.lt, H2.out.2.later hb3 (fun g hg => (H2.out.2.lt g hg).1), ho3.bytes, by have := H2.out.1.lt; have := hb3.size; omega⟩
  obtain ⟨a3, c3, hv3⟩ := own_form ho3
  subst hv3
  clear ho3 hb3 H2 K3 E3 hc2
  go_upto_region 4 with (refine wpList_ap rfl _ _ rfl (B + 1) _ _ rfl H3.out.2.1 _ _ rfl H3.out.2.2.1 (by simp [beN_length]) H3.out.2.2.2 ?_; intro v4 w4 ho4 hg4 _)
  have H4 : Bx (DB w B ⟨i, r, x, s⟩ w4 ∧ OwnB w4 (B + 1) v4 (beN 2 i.toNat ++ beN 1 r.toNat ++ beN 4 x.toNat)) := Bx.mk ⟨H3.out.1.later (own_below H3.out.2.1 hg4 H3.out.2.2.2) (by omega), ho4⟩
  obtain ⟨a4, c4, hv4⟩ := own_form ho4
  subst hv4
  clear ho4 hg4 H3
  have hc3 : w4.cell? ⟨B, 3, none⟩ = some (.int .i64 s) := H4.out.1.cell 3 _ rfl
  go_wp2_with fail
  refine (rout_any (fNum 1 s) _ w4 ⟨_, rfl, Bytes.nil _⟩ K4.out).mono ?_
  rintro e w5 ⟨v5, rfl, ho5, hb5⟩
  rw [E4.out] at ho5
  have H5 : Bx (DB w B ⟨i, r, x, s⟩ w5 ∧ OwnB w5 (B + 1) (.slice a4 (beN 2 i.toNat ++ beN 1 r.toNat ++ beN 4 x.toNat).length c4) (beN 2 i.toNat ++ beN 1 r.toNat ++ beN 4 x.toNat) ∧ Bytes w5 v5 (beN 2 s.toNat) ∧ B + 1 ≤ w5.heap.size) := Bx.mk ⟨H4.out.1.later hb5 H4.out.1.lt, H4.out.2.later hb5 (fun g hg => (H4.out.2.lt g hg).1), ho5.bytes, by have := H4.out.1.lt; have := hb5.size; omega⟩
  obtain ⟨a5, c5, hv5⟩ := own_form ho5
  subst hv5
  clear ho5 hb5 H4 K4 E4 hc3
  go_wp2_with (refine wpList_ap rfl _ _ rfl (B + 1) _ _ rfl H5.out.2.1 _ _ rfl H5.out.2.2.1 (by simp [beN_length]) H5.out.2.2.2 ?_; intro v6 w6 ho6 hg6 _)
  go_ret
  exact ⟨_, rfl, ho6.weak (by omega), H5.out.1.below.trans ((own_below H5.out.2.1 hg6 H5.out.2.2.2).mono (by omega))⟩
end Go.Proofs.YtiengbmnfbbgoaaDoor
