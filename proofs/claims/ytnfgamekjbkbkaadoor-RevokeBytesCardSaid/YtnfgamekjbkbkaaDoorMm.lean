/-
  RevokeBytes, of a delta that is as it may be.
-/
import Derived.Test.YtnfgamekjbkbkaaDoorMk
namespace Go.Proofs.YtnfgamekjbkbkaaDoor
open Go Go.RowKit
set_option maxRecDepth 100000 in
set_option maxHeartbeats 16000000 in
theorem bytes_good (v : V4) (x : VV) (m : L4) (b : List UInt8) (vb : Value) (w : World) (hx : RowsI w x m) (hm : Most m 9223372036854775807) (hb : Bytes w vb b) (hbl : b.length ≤ 9223372036854775807) (hF : Full w) (hf : 0 < w.heap.size) (hw : withinB v (m.take 40) = true) :
    Calls Tryd.prog 3 #[.agg (dC v x), vb] w fun e w' => e = .returned (.bool true) ∧ Below w.heap.size w w' := by
  obtain ⟨E, hE⟩ : ∃ E, w.heap.size = E := ⟨_, rfl⟩
  obtain ⟨ab, cb, rfl, hcb, hnb, -⟩ := id hb
  obtain ⟨n3, hn3⟩ : ∃ n, min b.length 300 = n := ⟨_, rfl⟩
  have hmin : min (b.length : Int) 300 = (n3 : Int) := by omega
  have HCut := fun W => cut_bytes ab b.length cb n3 (by omega) hcb hnb W
  have HBt : Bx (∀ W, Below E w W → Bytes W (.slice ab n3 cb) (b.take n3)) := ⟨fun W h => (hb.later (by rw [hE]; exact h)).take n3 (by omega)⟩
  have HBn : Bx ((b.take n3).length = n3 ∧ n3 ≤ 300) := ⟨by rw [List.length_take]; omega, by omega⟩
  have hbl1 : (b.length : Int) ≤ 9223372036854775807 := by omega
  have hbl0 : (0 : Int) ≤ (b.length : Int) := by omega
  have HF : Bx (∀ W, Below E w W → Full W ∧ 0 < W.heap.size) := ⟨fun W h => ⟨hF.later (by rw [hE]; exact h) hf, by have := h.size; omega⟩⟩
  have K0 : Bx (KR w E [(E, (.cells (dC v x) 26))] (w.alloc (.cells (dC v x) 26))) := Bx.mk (by
    subst hE
    exact (KR.start w).new (.cells (dC v x) 26))
  have HTo := Bx.mk (to8 v x m (w.alloc (.cells (dC v x) 26)) (hx.later (below_a _)) hm)
  have HM : Bx (Most (m.take 40) 40) := ⟨⟨by simp [L4.take]; omega, by simp [L4.take]; omega, by simp [L4.take]; omega, by simp [L4.take]; omega⟩⟩
  generalize m.take 40 = l at *
  rw [hE]
  clear hx hm hb hF hf hn3 hcb hnb
  generalize b.take n3 = b3 at *
  generalize b.length = bn at *
  go_enter Tryd.func3, Tryd.ntmps3
  go_wp2_with (refine wpList_load_row rfl 26 _ rfl E (by rfl) _ (dC v x) (0, 0) _ (K0.out.rows _ (.head _)) Tryd.underlying26 rfl (by kernel_rfl) ?_)
  generalize w.alloc (.cells (dC v x) 26) = w0 at *
  refine HTo.out.mono ?_
  rintro e w1 ⟨u0, rfl, hu, hb⟩
  obtain ⟨p1, q1, t1, s1, a1, b1, c1, d1, rfl⟩ := hu.forms
  have R1 : Bx (BK w E [] ⟨.slice p1 l.a.length a1, .slice q1 l.b.length b1, .slice t1 l.c.length c1, .slice s1 l.d.length d1⟩ l w1) := ⟨⟨(K0.out.later hb).sub (fun _ h => (List.not_mem_nil h).elim), hu⟩⟩
  clear hu hb HTo K0
  unfold dC
  simp only
  obtain ⟨XX, hXX⟩ : ∃ X, w1.heap.size = X := ⟨_, rfl⟩
  have HOf := Bx.mk (fun W h => of8 v ⟨.slice p1 l.a.length a1, .slice q1 l.b.length b1, .slice t1 l.c.length c1, .slice s1 l.d.length d1⟩ l W h)
  unfold dC at HOf
  simp only at HOf
  go_wp2_with (first | (refine wpList_store_vx rfl 30 _ _ rfl w1 XX hXX #[.int .i64 0, .int .i64 0, .int .i64 0, .int .i64 0, .slice none 0 0, .slice none 0 0, .slice none 0 0, .slice none 0 0] 30 rfl (by rfl) #[.int .i64 v.a, .int .i64 v.b, .int .i64 v.c, .int .i64 v.d, .slice p1 l.a.length a1, .slice q1 l.b.length b1, .slice t1 l.c.length c1, .slice s1 l.d.length d1] (by rfl) rfl (by kernel_rfl) (by simp [Value.oneCell']) ?_; intro w2 hb hr _; have R2 := Bx.mk (R1.out.var hXX hb hr); clear hb hr R1) | (refine wpList_load_row rfl 30 _ rfl XX (by rfl) _ #[.int .i64 v.a, .int .i64 v.b, .int .i64 v.c, .int .i64 v.d, .slice p1 l.a.length a1, .slice q1 l.b.length b1, .slice t1 l.c.length c1, .slice s1 l.d.length d1] (0, 0) _ (R2.out.k.rows _ (.head _)) Tryd.underlying30 rfl (by kernel_rfl) ?_))
  refine (HOf.out w2 R2.out.r).mono ?_
  rintro e w3 ⟨rfl, hb⟩
  have R3 := Bx.mk (R2.out.later hb)
  clear hb R2
  obtain ⟨YY, hYY⟩ : ∃ X, w3.heap.size = X := ⟨_, rfl⟩
  go_wp2_with (first | (refine wpList_store_vx rfl 26 _ _ rfl w3 YY hYY #[.int .i64 0, .int .i64 0, .int .i64 0, .int .i64 0, .slice none 0 0, .slice none 0 0, .slice none 0 0, .slice none 0 0] 26 rfl (by rfl) #[.int .i64 v.a, .int .i64 v.b, .int .i64 v.c, .int .i64 v.d, .slice p1 l.a.length a1, .slice q1 l.b.length b1, .slice t1 l.c.length c1, .slice s1 l.d.length d1] (by rfl) rfl (by kernel_rfl) (by simp [Value.oneCell']) ?_; intro w4 hb hr _; have R4 := Bx.mk (R3.out.var hYY hb hr); clear hb hr R3) | (refine wpList_load_row rfl 30 _ rfl XX (by rfl) _ #[.int .i64 v.a, .int .i64 v.b, .int .i64 v.c, .int .i64 v.d, .slice p1 l.a.length a1, .slice q1 l.b.length b1, .slice t1 l.c.length c1, .slice s1 l.d.length d1] (0, 0) _ (R4.out.k.rows _ (.tail _ (.head _))) Tryd.underlying30 rfl (by kernel_rfl) ?_))
  clear hmin HCut hbl1 hbl0
  have HR := Bx.mk (fun W h => rcheck8 v ⟨.slice p1 l.a.length a1, .slice q1 l.b.length b1, .slice t1 l.c.length c1, .slice s1 l.d.length d1⟩ l W h ⟨by have := HM.out.a; omega, by have := HM.out.b; omega, by have := HM.out.c; omega, by have := HM.out.d; omega⟩)
  unfold dC at HR
  simp only at HR
  have HPa := Bx.mk (fun W (h : Below E w W) => parse8_any b3 (.slice ab n3 cb) W (HBt.out W h) (by have := HBn.out; omega) (HF.out W h).1 (HF.out W h).2)
  have HE := Bx.mk (show paE b3 = (if endE (dlS (b3, 0)) ≠ 0 then endE (dlS (b3, 0)) else if withinB (dlV (b3, 0)) (dlL (b3, 0)) = true then 0 else 3) from rfl)
  have HA := Bx.mk (show paV b3 = (if paE b3 = 0 then dlV (b3, 0) else V4.zero) from rfl)
  have HB := Bx.mk (show paL b3 = (if paE b3 = 0 then dlL (b3, 0) else L4.nil) from rfl)
  rw [hw] at HR
  have HBd := Bx.mk (bytes8_ok v ⟨.slice p1 l.a.length a1, .slice q1 l.b.length b1, .slice t1 l.c.length c1, .slice s1 l.d.length d1⟩ l w4 R4.out.r HM.out (HF.out _ R4.out.k.below).1 (HF.out _ R4.out.k.below).2 hw)
  have HDl := Bx.mk (show (dlB v l).length ≤ 400 by rw [dlB_length]; have := HM.out.a; have := HM.out.b; have := HM.out.c; have := HM.out.d; omega)
  have HPk := Bx.mk (pa_back v l hw ⟨by have := HM.out.a; omega, by have := HM.out.b; omega, by have := HM.out.c; omega, by have := HM.out.d; omega⟩)
  have HRb := Bx.mk (fun W (h : Rows4 W ⟨.slice p1 l.a.length a1, .slice q1 l.b.length b1, .slice t1 l.c.length c1, .slice s1 l.d.length d1⟩ l) => rbytes8 v ⟨.slice p1 l.a.length a1, .slice q1 l.b.length b1, .slice t1 l.c.length c1, .slice s1 l.d.length d1⟩ l W h HM.out hw)
  unfold dC at HBd HRb
  simp only at HBd HRb
  generalize dlB v l = db at *
  refine HBd.out.mono ?_
  rintro e w5 ⟨u5, rfl, ho, hb⟩
  have HC := Bx.mk (fun W (h : Below w5.heap.size w5 W) => ho.bytes.later h)
  have R5 := Bx.mk (R4.out.later hb)
  clear hb HBd R4 ho
  go_wp2_with (refine wpList_load_row rfl 26 _ rfl YY (by rfl) _ #[.int .i64 v.a, .int .i64 v.b, .int .i64 v.c, .int .i64 v.d, .slice p1 l.a.length a1, .slice q1 l.b.length b1, .slice t1 l.c.length c1, .slice s1 l.d.length d1] (0, 0) _ (R5.out.k.rows _ (.head _)) Tryd.underlying26 rfl (by kernel_rfl) ?_)
  refine (HR.out w5 R5.out.r).mono ?_
  rintro e w6 ⟨rfl, hb⟩
  have R6 := Bx.mk (R5.out.later hb)
  have HB6 := Bx.mk hb
  clear hb R5 HR
  go_wp2_with fail
  refine (parse8_any db u5 w6 (HC.out _ HB6.out) HDl.out (HF.out _ R6.out.k.below).1 (HF.out _ R6.out.k.below).2).mono ?_
  rintro e w7 ⟨uz, rfl, hrow, hb⟩
  rw [HPk.out.2.2] at hrow
  rw [HPk.out.1, HPk.out.2.1]
  have R7 := Bx.mk (R6.out.later hb)
  have HB7 := Bx.mk (HB6.out.trans (hb.mono HB6.out.size))
  obtain ⟨g1, g2, g3, g4, m1, m2, m3, m4, rfl⟩ := hrow.forms
  have HZ : Bx (Rows4 w7 ⟨.slice g1 l.a.length m1, .slice g2 l.b.length m2, .slice g3 l.c.length m3, .slice g4 l.d.length m4⟩ l) := ⟨hrow⟩
  clear hb R6 HB6 hrow HPk
  unfold dC
  simp only
  obtain ⟨ZZ, hZZ⟩ : ∃ X, w7.heap.size = X := ⟨_, rfl⟩
  go_upto_region 9 with (refine wpList_store_vx rfl 30 _ _ rfl w7 ZZ hZZ #[.int .i64 0, .int .i64 0, .int .i64 0, .int .i64 0, .slice none 0 0, .slice none 0 0, .slice none 0 0, .slice none 0 0] 30 rfl (by rfl) #[.int .i64 v.a, .int .i64 v.b, .int .i64 v.c, .int .i64 v.d, .slice g1 l.a.length m1, .slice g2 l.b.length m2, .slice g3 l.c.length m3, .slice g4 l.d.length m4] (by rfl) rfl (by kernel_rfl) (by simp [Value.oneCell']) ?_; intro w8 hb hr _; have R8 := Bx.mk (R7.out.var hZZ hb hr); have HB8 := Bx.mk (HB7.out.trans (hb.mono HB7.out.size)); have HZ8 := Bx.mk (HZ.out.later hb); clear hb hr R7 HB7 HZ)
  have HSl : Bx (∀ W, (BK w E [(ZZ, (.cells #[.int .i64 v.a, .int .i64 v.b, .int .i64 v.c, .int .i64 v.d, .slice g1 l.a.length m1, .slice g2 l.b.length m2, .slice g3 l.c.length m3, .slice g4 l.d.length m4] 30)), (YY, (.cells #[.int .i64 v.a, .int .i64 v.b, .int .i64 v.c, .int .i64 v.d, .slice p1 l.a.length a1, .slice q1 l.b.length b1, .slice t1 l.c.length c1, .slice s1 l.d.length d1] 26)), (XX, (.cells #[.int .i64 v.a, .int .i64 v.b, .int .i64 v.c, .int .i64 v.d, .slice p1 l.a.length a1, .slice q1 l.b.length b1, .slice t1 l.c.length c1, .slice s1 l.d.length d1] 30))] ⟨.slice p1 l.a.length a1, .slice q1 l.b.length b1, .slice t1 l.c.length c1, .slice s1 l.d.length d1⟩ l W ∧ Rows4 W ⟨.slice g1 l.a.length m1, .slice g2 l.b.length m2, .slice g3 l.c.length m3, .slice g4 l.d.length m4⟩ l ∧ Below w5.heap.size w5 W) → W.rangeAt YY 0 [.int .i64 v.a, .int .i64 v.b, .int .i64 v.c, .int .i64 v.d, .slice p1 l.a.length a1, .slice q1 l.b.length b1, .slice t1 l.c.length c1, .slice s1 l.d.length d1] ∧ W.rangeAt ZZ 0 [.int .i64 v.a, .int .i64 v.b, .int .i64 v.c, .int .i64 v.d, .slice g1 l.a.length m1, .slice g2 l.b.length m2, .slice g3 l.c.length m3, .slice g4 l.d.length m4]) := ⟨fun W h => ⟨row_rng8 (l := [.int .i64 v.a, .int .i64 v.b, .int .i64 v.c, .int .i64 v.d, .slice p1 l.a.length a1, .slice q1 l.b.length b1, .slice t1 l.c.length c1, .slice s1 l.d.length d1]) (h.1.k.rows _ (.tail _ (.head _))), row_rng8 (l := [.int .i64 v.a, .int .i64 v.b, .int .i64 v.c, .int .i64 v.d, .slice g1 l.a.length m1, .slice g2 l.b.length m2, .slice g3 l.c.length m3, .slice g4 l.d.length m4]) (h.1.k.rows _ (.head _))⟩⟩
  have HLt : Bx (∀ W W1, (BK w E [(ZZ, (.cells #[.int .i64 v.a, .int .i64 v.b, .int .i64 v.c, .int .i64 v.d, .slice g1 l.a.length m1, .slice g2 l.b.length m2, .slice g3 l.c.length m3, .slice g4 l.d.length m4] 30)), (YY, (.cells #[.int .i64 v.a, .int .i64 v.b, .int .i64 v.c, .int .i64 v.d, .slice p1 l.a.length a1, .slice q1 l.b.length b1, .slice t1 l.c.length c1, .slice s1 l.d.length d1] 26)), (XX, (.cells #[.int .i64 v.a, .int .i64 v.b, .int .i64 v.c, .int .i64 v.d, .slice p1 l.a.length a1, .slice q1 l.b.length b1, .slice t1 l.c.length c1, .slice s1 l.d.length d1] 30))] ⟨.slice p1 l.a.length a1, .slice q1 l.b.length b1, .slice t1 l.c.length c1, .slice s1 l.d.length d1⟩ l W ∧ Rows4 W ⟨.slice g1 l.a.length m1, .slice g2 l.b.length m2, .slice g3 l.c.length m3, .slice g4 l.d.length m4⟩ l ∧ Below w5.heap.size w5 W) → Below W.heap.size W W1 → (BK w E [(ZZ, (.cells #[.int .i64 v.a, .int .i64 v.b, .int .i64 v.c, .int .i64 v.d, .slice g1 l.a.length m1, .slice g2 l.b.length m2, .slice g3 l.c.length m3, .slice g4 l.d.length m4] 30)), (YY, (.cells #[.int .i64 v.a, .int .i64 v.b, .int .i64 v.c, .int .i64 v.d, .slice p1 l.a.length a1, .slice q1 l.b.length b1, .slice t1 l.c.length c1, .slice s1 l.d.length d1] 26)), (XX, (.cells #[.int .i64 v.a, .int .i64 v.b, .int .i64 v.c, .int .i64 v.d, .slice p1 l.a.length a1, .slice q1 l.b.length b1, .slice t1 l.c.length c1, .slice s1 l.d.length d1] 30))] ⟨.slice p1 l.a.length a1, .slice q1 l.b.length b1, .slice t1 l.c.length c1, .slice s1 l.d.length d1⟩ l W1 ∧ Rows4 W1 ⟨.slice g1 l.a.length m1, .slice g2 l.b.length m2, .slice g3 l.c.length m3, .slice g4 l.d.length m4⟩ l ∧ Below w5.heap.size w5 W1)) := ⟨fun W W1 h hb => ⟨h.1.later hb, h.2.1.later hb, h.2.2.trans (hb.mono h.2.2.size)⟩⟩
  have HOfC := Bx.mk (fun W h => of8 v ⟨.slice g1 l.a.length m1, .slice g2 l.b.length m2, .slice g3 l.c.length m3, .slice g4 l.d.length m4⟩ l W h)
  have HSmC := Bx.mk (fun W h h' => same8 v ⟨.slice g1 l.a.length m1, .slice g2 l.b.length m2, .slice g3 l.c.length m3, .slice g4 l.d.length m4⟩ ⟨.slice p1 l.a.length a1, .slice q1 l.b.length b1, .slice t1 l.c.length c1, .slice s1 l.d.length d1⟩ l W h h' ⟨by have := HM.out.a; omega, by have := HM.out.b; omega, by have := HM.out.c; omega, by have := HM.out.d; omega⟩)
  unfold dC at HOfC HSmC
  simp only at HOfC HSmC
  have Y1 := Bx.mk (HLt.out _ _ ⟨R8.out, HZ8.out, HB8.out⟩ (Below.refl _ _).drew)
  clear R8 HZ8 HB8 hw HOf HF
  refine wp_region_noPanic ?_
  refine wp_region_held_drew (S := fun W => W.rangeAt YY 0 [.int .i64 v.a, .int .i64 v.b, .int .i64 v.c, .int .i64 v.d, .slice p1 l.a.length a1, .slice q1 l.b.length b1, .slice t1 l.c.length c1, .slice s1 l.d.length d1] ∧ W.rangeAt ZZ 0 [.int .i64 v.a, .int .i64 v.b, .int .i64 v.c, .int .i64 v.d, .slice g1 l.a.length m1, .slice g2 l.b.length m2, .slice g3 l.c.length m3, .slice g4 l.d.length m4]) (by kernel_rfl) (HSl.out _ Y1.out) (fun hHeld => ?_)
  generalize w8.drew = z1 at *
  refine takeL 0 (v := ?_) rfl (by kernel_rfl) (by kernel_rfl) (by kernel_rfl) (fun _ _ _ h => h) (Or.inl ⟨by rfl, ?_⟩) hHeld ?_
  rotate_left 1
  · (intro w hSw; go_simp; try with_reducible rfl)
  try simp only [Act.put, List.setIfInBounds_toArray, List.set_cons_zero, List.set_cons_succ]
  refine takeL 1 (v := ?_) rfl (by kernel_rfl) (by kernel_rfl) (by kernel_rfl) (fun _ _ _ h => h) (Or.inl ⟨by rfl, ?_⟩) hHeld ?_
  rotate_left 1
  · (intro w hSw; go_simp; try with_reducible rfl)
  try simp only [Act.put, List.setIfInBounds_toArray, List.set_cons_zero, List.set_cons_succ]
  refine takeL 2 (v := ?_) rfl (by kernel_rfl) (by kernel_rfl) (by kernel_rfl) (fun _ _ _ h => h) (Or.inl ⟨by rfl, ?_⟩) hHeld ?_
  rotate_left 1
  · (intro w hSw; go_simp; try with_reducible rfl)
  try simp only [Act.put, List.setIfInBounds_toArray, List.set_cons_zero, List.set_cons_succ]
  refine takeL 3 (v := ?_) rfl (by kernel_rfl) (by kernel_rfl) (by kernel_rfl) (fun _ _ _ h => h) (Or.inl ⟨by rfl, ?_⟩) hHeld ?_
  rotate_left 1
  · (intro w hSw; go_simp; try with_reducible rfl)
  try simp only [Act.put, List.setIfInBounds_toArray, List.set_cons_zero, List.set_cons_succ]
  refine takeL 4 rfl (by kernel_rfl) (by kernel_rfl) (by kernel_rfl) (fun _ _ _ h => h) (yieldsIf_load_mid (by rfl) _ _ rfl _ _ rfl _ _ (fun w hSw => hSw.1) Tryd.underlying26 rfl (by kernel_rfl)) hHeld ?_
  try simp only [Act.put, List.setIfInBounds_toArray, List.set_cons_zero, List.set_cons_succ]
  refine stepL 5 (by kernel_rfl) rfl (fun K hK => ?_)
  go_simp
  refine (HRb.out z1 Y1.out.1.r).mono ?_
  rintro e z2 ⟨u6, rfl, ho6, hb⟩
  show K _ _
  have HB6 := Bx.mk ho6.bytes
  have Y2 := Bx.mk (HLt.out _ _ Y1.out hb)
  clear hb ho6 Y1
  refine hK.out _ _ (HSl.out _ Y2.out) (fun hHeld => ?_)
  clear hK K
  try simp only [Act.put, List.setIfInBounds_toArray, List.set_cons_zero, List.set_cons_succ]
  refine stepL 6 (by kernel_rfl) rfl (fun K hK => ?_)
  go_simp
  refine (same_self db u5 u6 z2 (HC.out _ Y2.out.2.2) HB6.out HDl.out).mono ?_
  rintro e z3 ⟨rfl, hb⟩
  show K _ _
  have Y3 := Bx.mk (HLt.out _ _ Y2.out hb)
  clear hb Y2
  refine hK.out _ _ (HSl.out _ Y3.out) (fun hHeld => ?_)
  clear hK K
  try simp only [Act.put, List.setIfInBounds_toArray, List.set_cons_zero, List.set_cons_succ]
  refine takeL 7 (v := ?_) rfl (by kernel_rfl) (by kernel_rfl) (by kernel_rfl) (fun _ _ _ h => h) (Or.inl ⟨by rfl, ?_⟩) hHeld ?_
  rotate_left 1
  · (intro w hSw; go_simp; try with_reducible rfl)
  try simp only [Act.put, List.setIfInBounds_toArray, List.set_cons_zero, List.set_cons_succ]
  refine takeL 8 (v := ?_) rfl (by kernel_rfl) (by kernel_rfl) (by kernel_rfl) (fun _ _ _ h => h) (Or.inl ⟨by rfl, ?_⟩) hHeld ?_
  rotate_left 1
  · (intro w hSw; go_simp; try with_reducible rfl)
  try simp only [Act.put, List.setIfInBounds_toArray, List.set_cons_zero, List.set_cons_succ]
  refine takeL 9 (v := ?_) rfl (by kernel_rfl) (by kernel_rfl) (by kernel_rfl) (fun _ _ _ h => h) (Or.inl ⟨by rfl, ?_⟩) hHeld ?_
  rotate_left 1
  · (intro w hSw; go_simp; try with_reducible rfl)
  try simp only [Act.put, List.setIfInBounds_toArray, List.set_cons_zero, List.set_cons_succ]
  refine takeL 10 (v := ?_) rfl (by kernel_rfl) (by kernel_rfl) (by kernel_rfl) (fun _ _ _ h => h) (Or.inl ⟨by rfl, ?_⟩) hHeld ?_
  rotate_left 1
  · (intro w hSw; go_simp; try with_reducible rfl)
  try simp only [Act.put, List.setIfInBounds_toArray, List.set_cons_zero, List.set_cons_succ]
  refine takeL 11 (v := ?_) rfl (by kernel_rfl) (by kernel_rfl) (by kernel_rfl) (fun _ _ _ h => h) (Or.inl ⟨by rfl, ?_⟩) hHeld ?_
  rotate_left 1
  · (intro w hSw; go_simp; try with_reducible rfl)
  try simp only [Act.put, List.setIfInBounds_toArray, List.set_cons_zero, List.set_cons_succ]
  refine takeL 12 (v := ?_) rfl (by kernel_rfl) (by kernel_rfl) (by kernel_rfl) (fun _ _ _ h => h) (Or.inl ⟨by rfl, ?_⟩) hHeld ?_
  rotate_left 1
  · (intro w hSw; go_simp; try with_reducible rfl)
  try simp only [Act.put, List.setIfInBounds_toArray, List.set_cons_zero, List.set_cons_succ]
  refine takeL 13 (v := ?_) rfl (by kernel_rfl) (by kernel_rfl) (by kernel_rfl) (fun _ _ _ h => h) (Or.inl ⟨by rfl, ?_⟩) hHeld ?_
  rotate_left 1
  · (intro w hSw; go_simp; try with_reducible rfl)
  try simp only [Act.put, List.setIfInBounds_toArray, List.set_cons_zero, List.set_cons_succ]
  refine takeL 14 rfl (by kernel_rfl) (by kernel_rfl) (by kernel_rfl) (fun _ _ _ h => h) (yieldsIf_load_mid (by rfl) _ _ rfl _ _ rfl _ _ (fun w hSw => hSw.2) Tryd.underlying30 rfl (by kernel_rfl)) hHeld ?_
  try simp only [Act.put, List.setIfInBounds_toArray, List.set_cons_zero, List.set_cons_succ]
  refine takeL 16 rfl (by kernel_rfl) (by kernel_rfl) (by kernel_rfl) (fun _ _ _ h => h) (yieldsIf_load_mid (by rfl) _ _ rfl _ _ rfl _ _ (fun w hSw => hSw.1) Tryd.underlying26 rfl (by kernel_rfl)) hHeld ?_
  try simp only [Act.put, List.setIfInBounds_toArray, List.set_cons_zero, List.set_cons_succ]
  refine stepL 15 (by kernel_rfl) rfl (fun K hK => ?_)
  go_simp
  refine (HOfC.out z3 Y3.out.2.1).mono ?_
  rintro e z4 ⟨rfl, hb⟩
  show K _ _
  have Y4 := Bx.mk (HLt.out _ _ Y3.out hb)
  clear hb Y3
  refine hK.out _ _ (HSl.out _ Y4.out) (fun hHeld => ?_)
  clear hK K
  try simp only [Act.put, List.setIfInBounds_toArray, List.set_cons_zero, List.set_cons_succ]
  refine stepL 17 (by kernel_rfl) rfl (fun K hK => ?_)
  go_simp
  refine (HSmC.out z4 Y4.out.2.1 Y4.out.1.r).mono ?_
  rintro e z5 ⟨rfl, hb⟩
  show K _ _
  have Y5 := Bx.mk (HLt.out _ _ Y4.out hb)
  clear hb Y4
  refine hK.out _ _ (HSl.out _ Y5.out) (fun hHeld => ?_)
  clear hK K
  try simp only [Act.put, List.setIfInBounds_toArray, List.set_cons_zero, List.set_cons_succ]
  refine takeL 18 (v := ?_) rfl (by kernel_rfl) (by kernel_rfl) (by kernel_rfl) (fun _ _ _ h => h) (Or.inl ⟨by rfl, ?_⟩) hHeld ?_
  rotate_left 1
  · (intro w hSw; go_simp; try with_reducible rfl)
  try simp only [Act.put, List.setIfInBounds_toArray, List.set_cons_zero, List.set_cons_succ]
  refine takeL 19 (v := ?_) rfl (by kernel_rfl) (by kernel_rfl) (by kernel_rfl) (fun _ _ _ h => h) (Or.inl ⟨by rfl, ?_⟩) hHeld ?_
  rotate_left 1
  · (intro w hSw; go_simp; try with_reducible rfl)
  try simp only [Act.put, List.setIfInBounds_toArray, List.set_cons_zero, List.set_cons_succ]
  refine wpAnyH_done (by kernel_rfl) ?_ _
  refine NoPanic.normal ?_
  clear hHeld
  have R9 : Bx (KR w E [] z5) := ⟨Y5.out.1.k.sub (fun _ h => (List.not_mem_nil h).elim)⟩
  clear Y5 HSl HLt HOfC HSmC HRb HC HB6
  go_wp2_with fail
  refine (HPa.out z5 R9.out.below).mono ?_
  rintro e wP ⟨pu, rfl, hrow, hb⟩
  have HRo := Bx.mk hrow
  have KP := Bx.mk (R9.out.later hb)
  clear hrow hb R9
  generalize paE b3 = pe at *
  generalize paV b3 = pv at *
  generalize paL b3 = pl at *
  obtain ⟨p5, p6, p7, p8, a5, a6, a7, a8, rfl⟩ := HRo.out.forms
  have RP : Bx (BK w E [] ⟨.slice p5 pl.a.length a5, .slice p6 pl.b.length a6, .slice p7 pl.c.length a7, .slice p8 pl.d.length a8⟩ pl wP) := ⟨⟨KP.out, HRo.out⟩⟩
  clear HRo KP
  unfold dC
  simp only
  obtain ⟨TT, hTT⟩ : ∃ X, wP.heap.size = X := ⟨_, rfl⟩
  go_wp2_with (refine wpList_store_vx rfl 30 _ _ rfl wP TT hTT #[.int .i64 0, .int .i64 0, .int .i64 0, .int .i64 0, .slice none 0 0, .slice none 0 0, .slice none 0 0, .slice none 0 0] 30 rfl (by rfl) #[.int .i64 pv.a, .int .i64 pv.b, .int .i64 pv.c, .int .i64 pv.d, .slice p5 pl.a.length a5, .slice p6 pl.b.length a6, .slice p7 pl.c.length a7, .slice p8 pl.d.length a8] (by rfl) rfl (by kernel_rfl) (by simp [Value.oneCell']) ?_; intro w7 hb hr _; have R7 := Bx.mk (RP.out.var hTT hb hr); clear hb hr RP)
  have HNw := Bx.mk (new_ok b3 (.slice ab n3 cb) w7 (HBt.out _ R7.out.k.below) (by have := HBn.out; omega))
  obtain ⟨qq, hqq⟩ : ∃ X, w7.heap.size = X := ⟨_, rfl⟩
  have HKS := Bx.mk (KR.start w7)
  rw [hqq] at HNw HKS
  refine HNw.out.mono ?_
  rintro e w8 ⟨rfl, hr, hb⟩
  obtain ⟨DD, hDD⟩ : ∃ X, w8.heap.size = X := ⟨_, rfl⟩
  have hlt : qq < w8.heap.size := hr.lt
  have PRs : Bx (PR w7 qq qq DD #[.int .i64 0, .int .i64 0, .int .i64 0, .int .i64 0, .slice none 0 0, .slice none 0 0, .slice none 0 0, .slice none 0 0] [] (b3, 0) (w8.alloc (.cells #[.int .i64 0, .int .i64 0, .int .i64 0, .int .i64 0, .slice none 0 0, .slice none 0 0, .slice none 0 0, .slice none 0 0] 26))) := ⟨by
    have hK := (HKS.out.later (by rw [hqq]; exact hb)).new (.cells #[.int .i64 0, .int .i64 0, .int .i64 0, .int .i64 0, .slice none 0 0, .slice none 0 0, .slice none 0 0, .slice none 0 0] 26)
    rw [hDD] at hK hlt
    exact ⟨hK, hr.later (below_a _), fun _ h => (List.not_mem_nil h).elim, hlt, Nat.le_refl _⟩⟩
  clear hr hb HNw HKS hlt
  go_wp2_with fail
  clear hDD
  generalize w8.alloc (.cells #[.int .i64 0, .int .i64 0, .int .i64 0, .int .i64 0, .slice none 0 0, .slice none 0 0, .slice none 0 0, .slice none 0 0] 26) = w8' at *
  refine loopB w7 qq qq DD (b3, 0) _ _ (by have := HBn.out; simp only; omega) _ _ w8' ⟨⟨rfl, rfl⟩, rfl, rfl, rfl, rfl⟩ rfl PRs.out ?_
  intro a9 w9 u9 hPB h9 hk9 hr9
  have HLR := Bx.mk (law_reads (b3, 0))
  rw [HLR.out.1] at hk9
  rw [HLR.out.2.1] at hr9
  have HS4 := HLR.out.2.2.2
  have R9 := Bx.mk (R7.out.later (by rw [hqq]; exact hk9.below))
  have HRow9 := Bx.mk h9
  have HK9 := Bx.mk hk9
  have HEnd := Bx.mk (fun W (h : Below w9.heap.size w9 W) => rend_any qq (dlS (b3, 0)).1 (dlS (b3, 0)).2 W (hr9.later h) (by have := HBn.out; simp only at HS4; omega))
  rw [show (if (dlS (b3, 0)).2 ≠ 0 then (dlS (b3, 0)).2 else if 0 < (dlS (b3, 0)).1.length then 3 else 0) = endE (dlS (b3, 0)) from rfl] at HEnd
  have HMo := Bx.mk (dlL_most (b3, 0) (by have := HBn.out; simp only; omega))
  have hbr := build_rd
  clear PRs R7 hk9 h9 hr9 HS4 hqq
  have HL3 : Bx (endE (dlS (b3, 0)) = 0 → _) := ⟨HLR.out.2.2.1⟩
  clear HLR
  generalize endE (dlS (b3, 0)) = en at *
  generalize dlV (b3, 0) = lv at *
  generalize dlL (b3, 0) = ll at *
  obtain ⟨y9, rfl, hy2⟩ := open152 hPB.fr
  have e11 := (hy2 11).symm.trans hPB.s11
  have e12 := (hy2 12).symm.trans hPB.s12
  have e13 := (hy2 13).symm.trans hPB.s13
  have e14 := (hy2 14).symm.trans hPB.s14
  clear hPB hy2
  rw [e11, e12, e13, e14]
  clear e11 e12 e13 e14
  go_wp2_with fail
  refine (HEnd.out w9 (Below.refl _ _)).mono ?_
  rintro e wz ⟨rfl, hwz⟩
  rw [hwz]
  clear hwz wz
  by_cases hen : en = 0
  · subst hen
    rw [if_neg (by simp)] at HE
    have hrow9 := HRow9.out
    rw [HL3.out rfl] at hrow9
    obtain ⟨r1, r2, r3, r4, k1, k2, k3, k4, rfl⟩ := hrow9.forms
    have HR9 : Bx (Rows4 w9 ⟨.slice r1 ll.a.length k1, .slice r2 ll.b.length k2, .slice r3 ll.c.length k3, .slice r4 ll.d.length k4⟩ ll) := ⟨hrow9⟩
    clear hrow9 HRow9 HEnd HL3
    have HChk := Bx.mk (rcheck8 lv ⟨.slice r1 ll.a.length k1, .slice r2 ll.b.length k2, .slice r3 ll.c.length k3, .slice r4 ll.d.length k4⟩ ll w9 HR9.out HMo.out)
    unfold dC at HChk HK9
    simp only at HChk HK9
    go_wp2_with (refine wpList_load_row rfl 26 _ rfl DD (by rfl) _ #[.int .i64 lv.a, .int .i64 lv.b, .int .i64 lv.c, .int .i64 lv.d, .slice r1 ll.a.length k1, .slice r2 ll.b.length k2, .slice r3 ll.c.length k3, .slice r4 ll.d.length k4] (0, 0) _ (HK9.out.rows _ (.head _)) Tryd.underlying26 rfl (by kernel_rfl) ?_)
    refine HChk.out.mono ?_
    rintro e x1 ⟨rfl, hb⟩
    have HB9 := Bx.mk hb
    clear hb HChk
    cases hwl : withinB lv ll with
    | false =>
      rw [hwl, if_neg (by simp)] at HE
      have h1 : pe = 3 := HE.out
      subst h1
      rw [if_neg (by decide)] at HA HB
      have R10 := Bx.mk (R9.out.later HB9.out)
      clear HB9 R9
      go_wp2_with fail
      refine (known8_any x1).mono ?_
      rintro e x2 ⟨rfl, hb⟩
      have R11 := Bx.mk (R10.out.later hb)
      clear hb R10
      have HOf2 := Bx.mk (of8 pv ⟨.slice p5 pl.a.length a5, .slice p6 pl.b.length a6, .slice p7 pl.c.length a7, .slice p8 pl.d.length a8⟩ pl x2 R11.out.r)
      unfold dC at HOf2
      simp only at HOf2
      go_wp2_with (refine wpList_load_rowg (by rfl) 30 _ rfl TT (by rfl) _ #[.int .i64 pv.a, .int .i64 pv.b, .int .i64 pv.c, .int .i64 pv.d, .slice p5 pl.a.length a5, .slice p6 pl.b.length a6, .slice p7 pl.c.length a7, .slice p8 pl.d.length a8] (0, 0) _ (R11.out.k.rows _ (.head _)) Tryd.underlying30 rfl (by kernel_rfl) ?_)
      refine HOf2.out.mono ?_
      rintro e x3 ⟨rfl, hb⟩
      have R12 := Bx.mk (R11.out.later hb)
      clear hb R11 HOf2
      have HSz := Bx.mk (same_zero pv ⟨.slice p5 pl.a.length a5, .slice p6 pl.b.length a6, .slice p7 pl.c.length a7, .slice p8 pl.d.length a8⟩ pl x3 HA.out HB.out R12.out.r)
      unfold dC at HSz
      simp only at HSz
      go_wp2_with fail
      refine HSz.out.mono ?_
      rintro e x4 ⟨rfl, hb⟩
      have R13 := Bx.mk (R12.out.later hb)
      clear hb
      go_wp2
      go_ret
      exact ⟨rfl, R13.out.k.below⟩
    | true =>
      rw [hwl, if_pos rfl] at HE
      have h1 : pe = 0 := HE.out
      subst h1
      rw [if_pos rfl] at HA HB
      have h2 : pv = lv := HA.out
      have h3 : pl = ll := HB.out
      subst h2 h3
      have Y0 : Bx (BK w E [(TT, (.cells #[.int .i64 pv.a, .int .i64 pv.b, .int .i64 pv.c, .int .i64 pv.d, .slice p5 pl.a.length a5, .slice p6 pl.b.length a6, .slice p7 pl.c.length a7, .slice p8 pl.d.length a8] 30))] ⟨.slice p5 pl.a.length a5, .slice p6 pl.b.length a6, .slice p7 pl.c.length a7, .slice p8 pl.d.length a8⟩ pl x1 ∧ KR w7 qq [(DD, (.cells #[.int .i64 pv.a, .int .i64 pv.b, .int .i64 pv.c, .int .i64 pv.d, .slice r1 pl.a.length k1, .slice r2 pl.b.length k2, .slice r3 pl.c.length k3, .slice r4 pl.d.length k4] 26))] x1 ∧ Rows4 x1 ⟨.slice r1 pl.a.length k1, .slice r2 pl.b.length k2, .slice r3 pl.c.length k3, .slice r4 pl.d.length k4⟩ pl) := ⟨R9.out.later HB9.out, HK9.out.later HB9.out, HR9.out.later HB9.out⟩
      have HSl : Bx (∀ W, (BK w E [(TT, (.cells #[.int .i64 pv.a, .int .i64 pv.b, .int .i64 pv.c, .int .i64 pv.d, .slice p5 pl.a.length a5, .slice p6 pl.b.length a6, .slice p7 pl.c.length a7, .slice p8 pl.d.length a8] 30))] ⟨.slice p5 pl.a.length a5, .slice p6 pl.b.length a6, .slice p7 pl.c.length a7, .slice p8 pl.d.length a8⟩ pl W ∧ KR w7 qq [(DD, (.cells #[.int .i64 pv.a, .int .i64 pv.b, .int .i64 pv.c, .int .i64 pv.d, .slice r1 pl.a.length k1, .slice r2 pl.b.length k2, .slice r3 pl.c.length k3, .slice r4 pl.d.length k4] 26))] W ∧ Rows4 W ⟨.slice r1 pl.a.length k1, .slice r2 pl.b.length k2, .slice r3 pl.c.length k3, .slice r4 pl.d.length k4⟩ pl) → W.rangeAt TT 0 [.int .i64 pv.a, .int .i64 pv.b, .int .i64 pv.c, .int .i64 pv.d, .slice p5 pl.a.length a5, .slice p6 pl.b.length a6, .slice p7 pl.c.length a7, .slice p8 pl.d.length a8] ∧ W.rangeAt DD 0 [.int .i64 pv.a, .int .i64 pv.b, .int .i64 pv.c, .int .i64 pv.d, .slice r1 pl.a.length k1, .slice r2 pl.b.length k2, .slice r3 pl.c.length k3, .slice r4 pl.d.length k4]) := ⟨fun W h => ⟨row_rng8 (l := [.int .i64 pv.a, .int .i64 pv.b, .int .i64 pv.c, .int .i64 pv.d, .slice p5 pl.a.length a5, .slice p6 pl.b.length a6, .slice p7 pl.c.length a7, .slice p8 pl.d.length a8]) (h.1.k.rows _ (.head _)), row_rng8 (l := [.int .i64 pv.a, .int .i64 pv.b, .int .i64 pv.c, .int .i64 pv.d, .slice r1 pl.a.length k1, .slice r2 pl.b.length k2, .slice r3 pl.c.length k3, .slice r4 pl.d.length k4]) (h.2.1.rows _ (.head _))⟩⟩
      have HLt : Bx (∀ W W1, (BK w E [(TT, (.cells #[.int .i64 pv.a, .int .i64 pv.b, .int .i64 pv.c, .int .i64 pv.d, .slice p5 pl.a.length a5, .slice p6 pl.b.length a6, .slice p7 pl.c.length a7, .slice p8 pl.d.length a8] 30))] ⟨.slice p5 pl.a.length a5, .slice p6 pl.b.length a6, .slice p7 pl.c.length a7, .slice p8 pl.d.length a8⟩ pl W ∧ KR w7 qq [(DD, (.cells #[.int .i64 pv.a, .int .i64 pv.b, .int .i64 pv.c, .int .i64 pv.d, .slice r1 pl.a.length k1, .slice r2 pl.b.length k2, .slice r3 pl.c.length k3, .slice r4 pl.d.length k4] 26))] W ∧ Rows4 W ⟨.slice r1 pl.a.length k1, .slice r2 pl.b.length k2, .slice r3 pl.c.length k3, .slice r4 pl.d.length k4⟩ pl) → Below W.heap.size W W1 → (BK w E [(TT, (.cells #[.int .i64 pv.a, .int .i64 pv.b, .int .i64 pv.c, .int .i64 pv.d, .slice p5 pl.a.length a5, .slice p6 pl.b.length a6, .slice p7 pl.c.length a7, .slice p8 pl.d.length a8] 30))] ⟨.slice p5 pl.a.length a5, .slice p6 pl.b.length a6, .slice p7 pl.c.length a7, .slice p8 pl.d.length a8⟩ pl W1 ∧ KR w7 qq [(DD, (.cells #[.int .i64 pv.a, .int .i64 pv.b, .int .i64 pv.c, .int .i64 pv.d, .slice r1 pl.a.length k1, .slice r2 pl.b.length k2, .slice r3 pl.c.length k3, .slice r4 pl.d.length k4] 26))] W1 ∧ Rows4 W1 ⟨.slice r1 pl.a.length k1, .slice r2 pl.b.length k2, .slice r3 pl.c.length k3, .slice r4 pl.d.length k4⟩ pl)) := ⟨fun W W1 h hb => ⟨h.1.later hb, h.2.1.later hb, h.2.2.later hb⟩⟩
      have HOfC := Bx.mk (fun W h => of8 pv ⟨.slice p5 pl.a.length a5, .slice p6 pl.b.length a6, .slice p7 pl.c.length a7, .slice p8 pl.d.length a8⟩ pl W h)
      have HSmC := Bx.mk (fun W h h' => same8 pv ⟨.slice p5 pl.a.length a5, .slice p6 pl.b.length a6, .slice p7 pl.c.length a7, .slice p8 pl.d.length a8⟩ ⟨.slice r1 pl.a.length k1, .slice r2 pl.b.length k2, .slice r3 pl.c.length k3, .slice r4 pl.d.length k4⟩ pl W h h' ⟨by have := HMo.out.a; omega, by have := HMo.out.b; omega, by have := HMo.out.c; omega, by have := HMo.out.d; omega⟩)
      unfold dC at HOfC HSmC
      simp only at HOfC HSmC
      clear R9 HK9 HR9 HB9 HA HB HE hwl
      go_upto_region 29 with fail
      have Y1 := Bx.mk (HLt.out _ _ Y0.out (Below.refl _ _).drew)
      clear Y0
      refine wp_region_noPanic ?_
      refine wp_region_held_drew (S := fun W => W.rangeAt TT 0 [.int .i64 pv.a, .int .i64 pv.b, .int .i64 pv.c, .int .i64 pv.d, .slice p5 pl.a.length a5, .slice p6 pl.b.length a6, .slice p7 pl.c.length a7, .slice p8 pl.d.length a8] ∧ W.rangeAt DD 0 [.int .i64 pv.a, .int .i64 pv.b, .int .i64 pv.c, .int .i64 pv.d, .slice r1 pl.a.length k1, .slice r2 pl.b.length k2, .slice r3 pl.c.length k3, .slice r4 pl.d.length k4]) (by kernel_rfl) (HSl.out _ Y1.out) (fun hHeld => ?_)
      generalize x1.drew = z1 at *
      refine stepL 0 (by kernel_rfl) rfl (fun K hK => ?_)
      go_simp
      refine (known8_any z1).mono ?_
      rintro e z2 ⟨rfl, hb⟩
      show K _ _
      have Y2 := Bx.mk (HLt.out _ _ Y1.out hb)
      clear hb Y1
      refine hK.out _ _ (HSl.out _ Y2.out) (fun hHeld => ?_)
      clear hK K
      try simp only [Act.put, List.setIfInBounds_toArray, List.set_cons_zero, List.set_cons_succ]
      refine takeL 1 (v := ?_) rfl (by kernel_rfl) (by kernel_rfl) (by kernel_rfl) (fun _ _ _ h => h) (Or.inl ⟨by rfl, ?_⟩) hHeld ?_
      rotate_left 1
      · (intro w hSw; go_simp; try with_reducible rfl)
      try simp only [Act.put, List.setIfInBounds_toArray, List.set_cons_zero, List.set_cons_succ]
      refine takeL 2 (v := ?_) rfl (by kernel_rfl) (by kernel_rfl) (by kernel_rfl) (fun _ _ _ h => h) (Or.inl ⟨by rfl, ?_⟩) hHeld ?_
      rotate_left 1
      · (intro w hSw; go_simp; try with_reducible rfl)
      try simp only [Act.put, List.setIfInBounds_toArray, List.set_cons_zero, List.set_cons_succ]
      refine takeL 3 (v := ?_) rfl (by kernel_rfl) (by kernel_rfl) (by kernel_rfl) (fun _ _ _ h => h) (Or.inl ⟨by rfl, ?_⟩) hHeld ?_
      rotate_left 1
      · (intro w hSw; go_simp; try with_reducible rfl)
      try simp only [Act.put, List.setIfInBounds_toArray, List.set_cons_zero, List.set_cons_succ]
      refine takeL 4 (v := ?_) rfl (by kernel_rfl) (by kernel_rfl) (by kernel_rfl) (fun _ _ _ h => h) (Or.inl ⟨by rfl, ?_⟩) hHeld ?_
      rotate_left 1
      · (intro w hSw; go_simp; try with_reducible rfl)
      try simp only [Act.put, List.setIfInBounds_toArray, List.set_cons_zero, List.set_cons_succ]
      refine takeL 5 (v := ?_) rfl (by kernel_rfl) (by kernel_rfl) (by kernel_rfl) (fun _ _ _ h => h) (Or.inl ⟨by rfl, ?_⟩) hHeld ?_
      rotate_left 1
      · (intro w hSw; go_simp; try with_reducible rfl)
      try simp only [Act.put, List.setIfInBounds_toArray, List.set_cons_zero, List.set_cons_succ]
      refine takeL 6 rfl (by kernel_rfl) (by kernel_rfl) (by kernel_rfl) (fun _ _ _ h => h) (yieldsIf_load_mid (by rfl) _ _ rfl _ _ rfl _ _ (fun w hSw => hSw.1) Tryd.underlying30 rfl (by kernel_rfl)) hHeld ?_
      try simp only [Act.put, List.setIfInBounds_toArray, List.set_cons_zero, List.set_cons_succ]
      refine takeL 8 rfl (by kernel_rfl) (by kernel_rfl) (by kernel_rfl) (fun _ _ _ h => h) (yieldsIf_load_mid (by rfl) _ _ rfl _ _ rfl _ _ (fun w hSw => hSw.2) Tryd.underlying26 rfl (by kernel_rfl)) hHeld ?_
      try simp only [Act.put, List.setIfInBounds_toArray, List.set_cons_zero, List.set_cons_succ]
      refine stepL 7 (by kernel_rfl) rfl (fun K hK => ?_)
      go_simp
      refine (HOfC.out z2 Y2.out.1.r).mono ?_
      rintro e z3 ⟨rfl, hb⟩
      show K _ _
      have Y3 := Bx.mk (HLt.out _ _ Y2.out hb)
      clear hb Y2
      refine hK.out _ _ (HSl.out _ Y3.out) (fun hHeld => ?_)
      clear hK K
      try simp only [Act.put, List.setIfInBounds_toArray, List.set_cons_zero, List.set_cons_succ]
      refine stepL 9 (by kernel_rfl) rfl (fun K hK => ?_)
      go_simp
      refine (HSmC.out z3 Y3.out.1.r Y3.out.2.2).mono ?_
      rintro e z4 ⟨rfl, hb⟩
      show K _ _
      have Y4 := Bx.mk (HLt.out _ _ Y3.out hb)
      clear hb Y3
      refine hK.out _ _ (HSl.out _ Y4.out) (fun hHeld => ?_)
      clear hK K
      try simp only [Act.put, List.setIfInBounds_toArray, List.set_cons_zero, List.set_cons_succ]
      refine takeL 10 (v := ?_) rfl (by kernel_rfl) (by kernel_rfl) (by kernel_rfl) (fun _ _ _ h => h) (Or.inl ⟨by rfl, ?_⟩) hHeld ?_
      rotate_left 1
      · (intro w hSw; go_simp; try with_reducible rfl)
      try simp only [Act.put, List.setIfInBounds_toArray, List.set_cons_zero, List.set_cons_succ]
      refine takeL 11 (v := ?_) rfl (by kernel_rfl) (by kernel_rfl) (by kernel_rfl) (fun _ _ _ h => h) (Or.inl ⟨by rfl, ?_⟩) hHeld ?_
      rotate_left 1
      · (intro w hSw; go_simp; try with_reducible rfl)
      try simp only [Act.put, List.setIfInBounds_toArray, List.set_cons_zero, List.set_cons_succ]
      refine wpAnyH_done (by kernel_rfl) ?_ _
      refine NoPanic.normal ?_
      clear hHeld
      go_wp2
      go_ret
      exact ⟨rfl, Y4.out.1.k.below⟩
  · rw [if_pos hen] at HE
    have h1 : pe = en := HE.out
    subst h1
    rw [if_neg hen] at HA HB
    go_wp2_with fail
    refine (known8_any w9).mono ?_
    rintro e x2 ⟨rfl, hb⟩
    have R11 := Bx.mk (R9.out.later hb)
    have HB2 := Bx.mk hb
    clear hb R9
    go_wp2_with fail
    refine (HEnd.out x2 HB2.out).mono ?_
    rintro e wz ⟨rfl, hwz⟩
    rw [hwz]
    clear hwz wz HEnd
    have HOf2 := Bx.mk (of8 pv ⟨.slice p5 pl.a.length a5, .slice p6 pl.b.length a6, .slice p7 pl.c.length a7, .slice p8 pl.d.length a8⟩ pl x2 R11.out.r)
    unfold dC at HOf2
    simp only at HOf2
    go_wp2_with (refine wpList_load_rowg (by rfl) 30 _ rfl TT (by rfl) _ #[.int .i64 pv.a, .int .i64 pv.b, .int .i64 pv.c, .int .i64 pv.d, .slice p5 pl.a.length a5, .slice p6 pl.b.length a6, .slice p7 pl.c.length a7, .slice p8 pl.d.length a8] (0, 0) _ (R11.out.k.rows _ (.head _)) Tryd.underlying30 rfl (by kernel_rfl) ?_)
    refine HOf2.out.mono ?_
    rintro e x3 ⟨rfl, hb⟩
    have R12 := Bx.mk (R11.out.later hb)
    clear hb R11 HOf2
    have HSz := Bx.mk (same_zero pv ⟨.slice p5 pl.a.length a5, .slice p6 pl.b.length a6, .slice p7 pl.c.length a7, .slice p8 pl.d.length a8⟩ pl x3 HA.out HB.out R12.out.r)
    unfold dC at HSz
    simp only at HSz
    go_wp2_with fail
    refine HSz.out.mono ?_
    rintro e x4 ⟨rfl, hb⟩
    have R13 := Bx.mk (R12.out.later hb)
    clear hb
    go_wp2
    go_ret
    exact ⟨rfl, R13.out.k.below⟩
end Go.Proofs.YtnfgamekjbkbkaaDoor
