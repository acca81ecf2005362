/-
  The walk of ClaimsBytes.
-/
import Derived.Test.YtiomjknhlfhlhaaCg
namespace Go.Proofs.Ytiomjknhlfhlhaa
open Go Go.RowKit
/-- Blocks that stay as they are. -/
def RowsAt (W : World) (ks : List (Nat × Obj)) : Prop := ∀ k ∈ ks, W.heap[k.1]? = some k.2
theorem RowsAt.later {W W1 : World} {ks : List (Nat × Obj)} (h : RowsAt W ks) (hb : Below W.heap.size W W1) : RowsAt W1 ks := fun k hk => by
  rw [hb.block k.1 (Array.getElem?_eq_some_iff.1 (h k hk)).1]
  exact h k hk
theorem RowsAt.grown {W W1 : World} {ks : List (Nat × Obj)} {q : Nat} (h : RowsAt W ks) (hg : W.grownBy W1 (some q)) (hq : ∀ k ∈ ks, k.1 ≠ q) : RowsAt W1 ks := fun k hk => by
  rw [hg.block k.1 (Array.getElem?_eq_some_iff.1 (h k hk)).1 (fun e => hq k hk (by injection e))]
  exact h k hk
theorem RowsAt.lt {W : World} {ks : List (Nat × Obj)} (h : RowsAt W ks) : ∀ k ∈ ks, k.1 < W.heap.size := fun k hk => (Array.getElem?_eq_some_iff.1 (h k hk)).1
theorem RowsAt.add {W : World} {ks : List (Nat × Obj)} (h : RowsAt W ks) (g : Nat) (o : Obj) (hg : W.heap[g]? = some o) : RowsAt W ((g, o) :: ks) := fun k hk => by
  rcases List.mem_cons.1 hk with rfl | hk
  · exact hg
  · exact h k hk
theorem four_cells {W : World} {g : Nat} {a b c d : Value} {t : TypeId} (h : W.heap[g]? = some (.cells #[a, b, c, d] t (0, 0))) : W.cell? ⟨g, 0, none⟩ = some a ∧ W.cell? ⟨g, 1, none⟩ = some b ∧ W.cell? ⟨g, 2, none⟩ = some c ∧ W.cell? ⟨g, 3, none⟩ = some d :=
  ⟨by rw [cell_of_row _ _ _ _ _ _ h]; rfl, by rw [cell_of_row _ _ _ _ _ _ h]; rfl, by rw [cell_of_row _ _ _ _ _ _ h]; rfl, by rw [cell_of_row _ _ _ _ _ _ h]; rfl⟩
/-- What stays along the law. -/
structure LS (w : World) (B : Nat) (ks : List (Nat × Obj)) (v6 : Value) (cb : List UInt8) (vb : Value) (bh : List UInt8) (W : World) : Prop where
  rows : RowsAt W ks
  below : Below B w W
  b6 : Bytes W v6 cb
  bb : Bytes W vb bh
  le : B ≤ W.heap.size
theorem LS.later {w : World} {B : Nat} {ks : List (Nat × Obj)} {v6 : Value} {cb : List UInt8} {vb : Value} {bh : List UInt8} {W W1 : World} (h : LS w B ks v6 cb vb bh W) (hb : Below W.heap.size W W1) : LS w B ks v6 cb vb bh W1 :=
  ⟨h.rows.later hb, h.below.trans (hb.mono h.le), h.b6.later hb, h.bb.later hb, Nat.le_trans h.le hb.size⟩
theorem LS.add {w : World} {B : Nat} {ks : List (Nat × Obj)} {v6 : Value} {cb : List UInt8} {vb : Value} {bh : List UInt8} {W : World} (h : LS w B ks v6 cb vb bh W) (g : Nat) (o : Obj) (hg : W.heap[g]? = some o) : LS w B ((g, o) :: ks) v6 cb vb bh W :=
  ⟨h.rows.add g o hg, h.below, h.b6, h.bb, h.le⟩
/-- Over a call that changes a reader's block alone. -/
theorem LS.read {w : World} {B q : Nat} {ks : List (Nat × Obj)} {v6 : Value} {cb : List UInt8} {vb : Value} {bh l : List UInt8} {e : Int} {W W1 : World} (h : LS w B ks v6 cb vb bh W) (hr : IsR W q l e) (hg : W.grownBy W1 (some q)) (hq : ∀ k ∈ ks, k.1 ≠ q) (hB : B ≤ q) : LS w B ks v6 cb vb bh W1 := by
  obtain ⟨vr, h1, h2⟩ := hr
  have hoff : ∀ (i : Nat) y, (#[vr, .int .i64 e] : Array Value)[i]? ≠ some (.int .u8 y) := fun i y hh => by
    obtain ⟨a, c, hv, -⟩ := h2.1
    subst hv
    match i, hh with
    | 0, hh => simp at hh
    | 1, hh => simp at hh
    | i + 2, hh => simp at hh
  exact ⟨h.rows.grown hg hq, h.below.trans (grown_below hg hB h.le), (BytesN.grown (p := q) ⟨h.b6, h.b6.offA h1 hoff⟩ hg).1, (BytesN.grown (p := q) ⟨h.bb, h.bb.offA h1 hoff⟩ hg).1, Nat.le_trans h.le hg.size⟩
set_option maxRecDepth 100000 in
set_option maxHeartbeats 4000000 in
theorem cbytes_law (c : Cl) (bs : List UInt8) (v : Value) (w : World) (hv : Bytes w v bs) (hl : bs.length ≤ 9223372036854775807) :
    Calls Try.prog 3 #[clV c, v] w fun e w' => e = .returned (.bool true) ∧ Below w.heap.size w w' := by
  have HV := Bx.mk hv
  obtain ⟨a, cap, rfl, hc, hnone, -⟩ := hv
  obtain ⟨n, hnn⟩ : ∃ n, bs.length = n := ⟨_, rfl⟩
  obtain ⟨m, hm⟩ : ∃ m, m = min n 20 := ⟨_, rfl⟩
  have m1 : (if (20 : Int) < (n : Int) then (20 : Int) else (n : Int)) = (m : Int) := by split <;> omega
  have s1 := fun W => cut_bytes a n cap m (by omega) (by omega) hnone W
  rw [hnn] at hl hc HV ⊢
  have HM : Bx (Bytes w (.slice a m cap) (bs.take m)) := Bx.mk (HV.out.take m (by omega))
  have HML : Bx ((bs.take m).length = m ∧ m ≤ 20) := Bx.mk (by rw [List.length_take]; omega)
  generalize bs.take m = bh at *
  have hn1 : (n : Int) ≤ 9223372036854775807 := by omega
  clear hnn hm hc hnone hl HV
  obtain ⟨B, hB⟩ : ∃ B, w.heap.size = B := ⟨_, rfl⟩
  rw [hB]
  obtain ⟨i, r, x, s⟩ := c
  have HT : Bx (∀ W : World, _) := Bx.mk (fun W => cto_any ⟨i, r, x, s⟩ W)
  have HRt : Bx (∀ W : World, _) := Bx.mk (fun W => right_any ⟨i, r, x, s⟩ W)
  have HCk : Bx (∀ W : World, _) := Bx.mk (fun W => check_any ⟨i, r, x, s⟩ W)
  have HBo : Bx (∀ W : World, okC ⟨i, r, x, s⟩ = true → _) := Bx.mk (fun W h => bytes_ok ⟨i, r, x, s⟩ W h)
  have HBb : Bx (∀ W : World, okC ⟨i, r, x, s⟩ = false → _) := Bx.mk (fun W h => bytes_bad ⟨i, r, x, s⟩ W h)
  have HRb : Bx (∀ W : World, okC ⟨i, r, x, s⟩ = true → _) := Bx.mk (fun W h => rbytes_any ⟨i, r, x, s⟩ W h)
  unfold clV at HT HRt HCk HBo HBb HRb ⊢
  simp only at HT HRt HCk HBo HBb HRb ⊢
  have H0 : Bx (LS w B [(B, (.cells #[.int .i64 i, .int .i64 r, .int .i64 x, .int .i64 s] 23))] (.slice none 0 0) [] (.slice a m cap) bh (w.alloc (.cells #[.int .i64 i, .int .i64 r, .int .i64 x, .int .i64 s] 23))) := Bx.mk ⟨fun k hk => by simp at hk; subst hk; exact hnew _ _ _ hB.symm, by rw [← hB]; exact below_a _, Bytes.nil _, HM.out.later (below_a _), by simp; omega⟩
  clear HM
  go_enter Try.func3, Try.ntmps3
  go_wp2_with fail
  generalize w.alloc (.cells #[.int .i64 i, .int .i64 r, .int .i64 x, .int .i64 s] 23) = w0 at *
  refine (HT.out w0).mono ?_
  rintro e w1 ⟨rfl, hb1⟩
  obtain ⟨X, hX⟩ : ∃ X, w1.heap.size = X := ⟨_, rfl⟩
  have H1 : Bx (LS w B [(X, (.cells #[.int .i64 i, .int .i64 r, .int .i64 x, .int .i64 s] 25)), (B, (.cells #[.int .i64 i, .int .i64 r, .int .i64 x, .int .i64 s] 23))] (.slice none 0 0) [] (.slice a m cap) bh (w1.alloc (.cells #[.int .i64 i, .int .i64 r, .int .i64 x, .int .i64 s] 25)) ∧ B < X) := Bx.mk ⟨((H0.out.later hb1).later (below_a _)).add _ _ (hnew _ _ _ hX.symm), by rw [← hX]; exact (H0.out.later hb1).rows.lt _ (.head _)⟩
  clear hb1 H0 HT
  go_wp2_with fail
  generalize w1.alloc (.cells #[.int .i64 i, .int .i64 r, .int .i64 x, .int .i64 s] 25) = w2 at *
  clear hX
  by_cases ho : okC ⟨i, r, x, s⟩ = true
  · have HPs := Bx.mk (ps_clB ⟨i, r, x, s⟩ ho)
    have HP0 := Bx.mk (ps_clB0 ⟨i, r, x, s⟩ ho)
    have HRd := Bx.mk (rd_clB ⟨i, r, x, s⟩ bh ho)
    have HCL := Bx.mk (clB_length ⟨i, r, x, s⟩)
    have HBo := Bx.mk (fun W => HBo.out W ho)
    have HRb := Bx.mk (fun W => HRb.out W ho)
    rw [ho] at HRt HCk
    rw [if_pos rfl] at HCk
    clear HBb ho
    generalize clB ⟨i, r, x, s⟩ = cb at *
    refine (HBo.out w2).mono ?_
    rintro e w3 ⟨v6, rfl, ho3, hb3⟩
    have H3 : Bx (LS w B [(X, (.cells #[.int .i64 i, .int .i64 r, .int .i64 x, .int .i64 s] 25)), (B, (.cells #[.int .i64 i, .int .i64 r, .int .i64 x, .int .i64 s] 23))] v6 cb (.slice a m cap) bh w3 ∧ B < X) := Bx.mk ⟨let h := H1.out.1.later hb3; ⟨h.rows, h.below, ho3.bytes, h.bb, h.le⟩, H1.out.2⟩
    obtain ⟨a6, c6, hv6⟩ := own_form ho3
    rw [HCL.out] at hv6
    subst hv6
    clear ho3 hb3 H1 HBo
    obtain ⟨k0, k1, k2, k3⟩ := four_cells (H3.out.1.rows _ (.tail _ (.head _)))
    go_wp2_with fail
    refine (HRt.out w3).mono ?_
    rintro e w4 ⟨rfl, hb4⟩
    have H4 : Bx (LS w B [(X, (.cells #[.int .i64 i, .int .i64 r, .int .i64 x, .int .i64 s] 25)), (B, (.cells #[.int .i64 i, .int .i64 r, .int .i64 x, .int .i64 s] 23))] (.slice a6 9 c6) cb (.slice a m cap) bh w4 ∧ B < X) := Bx.mk ⟨H3.out.1.later hb4, H3.out.2⟩
    clear hb4 H3 HRt k0 k1 k2 k3
    go_wp2_with fail
    refine (parse_any cb _ w4 H4.out.1.b6 (by rw [HCL.out]; omega)).mono ?_
    rintro e w5 ⟨rfl, hb5⟩
    rw [HPs.out.1, HPs.out.2]
    unfold clV
    simp only
    obtain ⟨Y, hY⟩ : ∃ Y, w5.heap.size = Y := ⟨_, rfl⟩
    have H5 : Bx (LS w B [(Y, (.cells #[.int .i64 i, .int .i64 r, .int .i64 x, .int .i64 s] 25)), (X, (.cells #[.int .i64 i, .int .i64 r, .int .i64 x, .int .i64 s] 25)), (B, (.cells #[.int .i64 i, .int .i64 r, .int .i64 x, .int .i64 s] 23))] (.slice a6 9 c6) cb (.slice a m cap) bh (w5.alloc (.cells #[.int .i64 i, .int .i64 r, .int .i64 x, .int .i64 s] 25)) ∧ B < X ∧ X < Y) := Bx.mk ⟨((H4.out.1.later hb5).later (below_a _)).add _ _ (hnew _ _ _ hY.symm), H4.out.2, by rw [← hY]; exact (H4.out.1.later hb5).rows.lt _ (.head _)⟩
    clear hb5 H4 HPs
    go_upto_region 7 with (fail)
    generalize w5.alloc (.cells #[.int .i64 i, .int .i64 r, .int .i64 x, .int .i64 s] 25) = w6 at *
    clear hY
    obtain ⟨K, hK⟩ : ∃ K, w6.heap.size = K := ⟨_, rfl⟩
    have H6 : Bx (LS w B [(Y, (.cells #[.int .i64 i, .int .i64 r, .int .i64 x, .int .i64 s] 25)), (X, (.cells #[.int .i64 i, .int .i64 r, .int .i64 x, .int .i64 s] 25)), (B, (.cells #[.int .i64 i, .int .i64 r, .int .i64 x, .int .i64 s] 23))] (.slice a6 9 c6) cb (.slice a m cap) bh (w6.alloc (.cells #[] 5)) ∧ OwnB (w6.alloc (.cells #[] 5)) K (.slice (some ⟨K, 0, none⟩) 0 0) [] ∧ Below K w6 (w6.alloc (.cells #[] 5)) ∧ K ≤ (w6.alloc (.cells #[] 5)).heap.size) := Bx.mk ⟨H5.out.1.later (below_a _), by rw [← hK]; exact own_empty w6 _ (Nat.le_refl _), by rw [← hK]; exact below_a _, by simp; omega⟩
    go_wp2_with (first | (refine wpList_ap rfl _ _ rfl K _ _ rfl H6.out.2.1 _ _ rfl H6.out.1.b6 (by rw [HCL.out]; simp) H6.out.2.2.2 ?_; intro v7 w7 ho7 hg7 _; have H7 : Bx (Below w6.heap.size w6 w7 ∧ OwnB w7 K v7 ([] ++ cb) ∧ K ≤ w7.heap.size) := Bx.mk ⟨by rw [hK]; exact H6.out.2.2.1.trans (own_below H6.out.2.1 hg7 H6.out.2.2.2), ho7, Nat.le_trans H6.out.2.2.2 hg7.size⟩; clear ho7 hg7) | (refine wpList_ap rfl _ _ rfl K _ _ rfl H7.out.2.1 _ _ rfl (H5.out.1.later H7.out.1).bb (by have := HML.out; simp [HCL.out]; omega) H7.out.2.2 ?_; intro v8 w8 ho8 hg8 _; have H8 : Bx (Below w6.heap.size w6 w8 ∧ OwnB w8 K v8 (cb ++ bh)) := Bx.mk ⟨H7.out.1.trans ((own_below H7.out.2.1 hg8 H7.out.2.2).mono (by rw [hK]; exact Nat.le_refl _)), ho8⟩; clear ho8 hg8))
    have HL9 : Bx (LS w B [(Y, (.cells #[.int .i64 i, .int .i64 r, .int .i64 x, .int .i64 s] 25)), (X, (.cells #[.int .i64 i, .int .i64 r, .int .i64 x, .int .i64 s] 25)), (B, (.cells #[.int .i64 i, .int .i64 r, .int .i64 x, .int .i64 s] 23))] (.slice a6 9 c6) cb (.slice a m cap) bh w8) := Bx.mk (H5.out.1.later H8.out.1)
    obtain ⟨q, hq⟩ : ∃ q, w8.heap.size = q := ⟨_, rfl⟩
    have HYq : Bx (Y < q ∧ X < Y ∧ B < X) := Bx.mk ⟨by rw [← hq]; exact HL9.out.rows.lt _ (.head _), H5.out.2.2, H5.out.2.1⟩
    obtain ⟨a8, c8, hv8⟩ := own_form H8.out.2
    obtain ⟨a7, c7, hv7⟩ := own_form H7.out.2.1
    refine (new_ok (cb ++ bh) _ w8 H8.out.2.bytes (by rw [List.length_append, HCL.out]; have := HML.out; omega)).mono ?_
    rintro e w9 ⟨rfl, hr9, hb9⟩
    rw [hq] at hr9 ⊢
    have H9 : Bx (LS w B [(Y, (.cells #[.int .i64 i, .int .i64 r, .int .i64 x, .int .i64 s] 25)), (X, (.cells #[.int .i64 i, .int .i64 r, .int .i64 x, .int .i64 s] 25)), (B, (.cells #[.int .i64 i, .int .i64 r, .int .i64 x, .int .i64 s] 23))] (.slice a6 9 c6) cb (.slice a m cap) bh w9 ∧ IsR w9 q (cb ++ bh) 0) := Bx.mk ⟨HL9.out.later hb9, hr9⟩
    clear hr9 hb9 HL9 H8 H7 H6 H5 hK hq
    subst hv8
    subst hv7
    go_wp2_with fail
    refine (read_any q (cb ++ bh, 0) w9 H9.out.2 (by show (cb ++ bh).length ≤ 5000; rw [List.length_append, HCL.out]; have := HML.out; omega)).mono ?_
    rintro e w10 ⟨rfl, hr10, hg10⟩
    rw [HRd.out.2.2] at hr10
    rw [HRd.out.1, HRd.out.2.1]
    unfold clV
    simp only
    obtain ⟨Z, hZ⟩ : ∃ Z, w10.heap.size = Z := ⟨_, rfl⟩
    have H10 : Bx (LS w B [(Y, (.cells #[.int .i64 i, .int .i64 r, .int .i64 x, .int .i64 s] 25)), (X, (.cells #[.int .i64 i, .int .i64 r, .int .i64 x, .int .i64 s] 25)), (B, (.cells #[.int .i64 i, .int .i64 r, .int .i64 x, .int .i64 s] 23))] (.slice a6 9 c6) cb (.slice a m cap) bh w10) := Bx.mk (H9.out.1.read H9.out.2 hg10 (fun k hk => by have := HYq.out; simp at hk; rcases hk with rfl | rfl | rfl <;> simp <;> omega) (by have := HYq.out; omega))
    have H11 : Bx (LS w B [(Z, (.cells #[.int .i64 i, .int .i64 r, .int .i64 x, .int .i64 s] 25)), (Y, (.cells #[.int .i64 i, .int .i64 r, .int .i64 x, .int .i64 s] 25)), (X, (.cells #[.int .i64 i, .int .i64 r, .int .i64 x, .int .i64 s] 25)), (B, (.cells #[.int .i64 i, .int .i64 r, .int .i64 x, .int .i64 s] 23))] (.slice a6 9 c6) cb (.slice a m cap) bh (w10.alloc (.cells #[.int .i64 i, .int .i64 r, .int .i64 x, .int .i64 s] 25)) ∧ IsR (w10.alloc (.cells #[.int .i64 i, .int .i64 r, .int .i64 x, .int .i64 s] 25)) q bh 0) := Bx.mk ⟨(H10.out.later (below_a _)).add _ _ (hnew _ _ _ hZ.symm), hr10.later (below_a _)⟩
    clear hr10 hg10 H9 H10 HRd
    go_upto_region 9 with (fail)
    generalize w10.alloc (.cells #[.int .i64 i, .int .i64 r, .int .i64 x, .int .i64 s] 25) = w11 at *
    clear hZ
    obtain ⟨K, hK⟩ : ∃ K, w11.heap.size = K := ⟨_, rfl⟩
    have H12 : Bx (LS w B [(Z, (.cells #[.int .i64 i, .int .i64 r, .int .i64 x, .int .i64 s] 25)), (Y, (.cells #[.int .i64 i, .int .i64 r, .int .i64 x, .int .i64 s] 25)), (X, (.cells #[.int .i64 i, .int .i64 r, .int .i64 x, .int .i64 s] 25)), (B, (.cells #[.int .i64 i, .int .i64 r, .int .i64 x, .int .i64 s] 23))] (.slice a6 9 c6) cb (.slice a m cap) bh (w11.alloc (.cells #[] 5)) ∧ OwnB (w11.alloc (.cells #[] 5)) K (.slice (some ⟨K, 0, none⟩) 0 0) [] ∧ Below K w11 (w11.alloc (.cells #[] 5)) ∧ K ≤ (w11.alloc (.cells #[] 5)).heap.size) := Bx.mk ⟨H11.out.1.later (below_a _), by rw [← hK]; exact own_empty w11 _ (Nat.le_refl _), by rw [← hK]; exact below_a _, by simp; omega⟩
    go_wp2_with (first | (refine wpList_ap rfl _ _ rfl K _ _ rfl H12.out.2.1 _ _ rfl H12.out.1.b6 (by rw [HCL.out]; simp) H12.out.2.2.2 ?_; intro v13 w13 ho13 hg13 _; obtain ⟨a13, c13, hv13⟩ := own_form ho13; subst hv13; have H13 : Bx (Below w11.heap.size w11 (w13.alloc (.cells #[.int .u8 0] 5)) ∧ OwnB (w13.alloc (.cells #[.int .u8 0] 5)) K (.slice a13 ([] ++ cb).length c13) ([] ++ cb) ∧ K ≤ (w13.alloc (.cells #[.int .u8 0] 5)).heap.size ∧ Bytes (w13.alloc (.cells #[.int .u8 0] 5)) (.slice (some ⟨w13.heap.size, 0, none⟩) 1 1) [0]) := Bx.mk ⟨by rw [hK]; exact (H12.out.2.2.1.trans (own_below H12.out.2.1 hg13 H12.out.2.2.2)).alloc (Nat.le_trans H12.out.2.2.2 hg13.size) _, own_a ho13 _, by have := H12.out.2.2.2; have := hg13.size; simp; omega, built1 _ _⟩; clear ho13 hg13) | (refine wpList_ap rfl _ _ rfl K _ _ rfl H13.out.2.1 _ _ rfl H13.out.2.2.2 (by simp [HCL.out]) H13.out.2.2.1 ?_; intro v14 w14 ho14 hg14 _; have H14 : Bx (Below w11.heap.size w11 w14 ∧ OwnB w14 K v14 (cb ++ [0])) := Bx.mk ⟨H13.out.1.trans ((own_below H13.out.2.1 hg14 H13.out.2.2.1).mono (by rw [hK]; exact Nat.le_refl _)), ho14⟩; clear ho14 hg14))
    refine (parse_any (cb ++ [0]) _ w14 H14.out.2.bytes (by rw [List.length_append, HCL.out]; simp)).mono ?_
    rintro e w15 ⟨rfl, hb15⟩
    rw [HP0.out]
    obtain ⟨⟨j0, j1, j2, j3⟩, hj⟩ : ∃ c, psC (cb ++ [0]) = c := ⟨_, rfl⟩
    rw [hj]
    unfold clV
    simp only
    have H15 : Bx (LS w B [(Z, (.cells #[.int .i64 i, .int .i64 r, .int .i64 x, .int .i64 s] 25)), (Y, (.cells #[.int .i64 i, .int .i64 r, .int .i64 x, .int .i64 s] 25)), (X, (.cells #[.int .i64 i, .int .i64 r, .int .i64 x, .int .i64 s] 25)), (B, (.cells #[.int .i64 i, .int .i64 r, .int .i64 x, .int .i64 s] 23))] (.slice a6 9 c6) cb (.slice a m cap) bh (w15.alloc (.cells #[.int .i64 j0, .int .i64 j1, .int .i64 j2, .int .i64 j3] 25)) ∧ IsR (w15.alloc (.cells #[.int .i64 j0, .int .i64 j1, .int .i64 j2, .int .i64 j3] 25)) q bh 0) := Bx.mk ⟨((H11.out.1.later H14.out.1).later hb15).later (below_a _), ((H11.out.2.later H14.out.1).later hb15).later (below_a _)⟩
    obtain ⟨a14, c14, hv14⟩ := own_form H14.out.2
    subst hv14
    clear hb15 hj H14 H13 H12 H11 HP0 hK
    go_upto_region 10 with (fail)
    generalize w15.alloc (.cells #[.int .i64 j0, .int .i64 j1, .int .i64 j2, .int .i64 j3] 25) = w16 at *
    go_wp2_with fail
    refine (known5_any w16).mono ?_
    rintro e w17 ⟨rfl, hb17⟩
    have H17 := Bx.mk (And.intro (H15.out.1.later hb17) (H15.out.2.later hb17))
    clear hb17 H15
    obtain ⟨k0, k1, k2, k3⟩ := four_cells (H17.out.1.rows _ (.tail _ (.tail _ (.head _))))
    go_wp2_with fail
    refine (HCk.out w17).mono ?_
    rintro e w18 ⟨rfl, hb18⟩
    have H18 := Bx.mk (And.intro (H17.out.1.later hb18) (H17.out.2.later hb18))
    clear hb18 H17 HCk k0 k1 k2 k3
    obtain ⟨k0, k1, k2, k3⟩ := four_cells (H18.out.1.rows _ (.tail _ (.tail _ (.tail _ (.head _)))))
    go_wp2_with fail
    refine (HRb.out w18).mono ?_
    rintro e w19 ⟨v19, rfl, ho19, hb19⟩
    have H19 : Bx (LS w B [(Z, (.cells #[.int .i64 i, .int .i64 r, .int .i64 x, .int .i64 s] 25)), (Y, (.cells #[.int .i64 i, .int .i64 r, .int .i64 x, .int .i64 s] 25)), (X, (.cells #[.int .i64 i, .int .i64 r, .int .i64 x, .int .i64 s] 25)), (B, (.cells #[.int .i64 i, .int .i64 r, .int .i64 x, .int .i64 s] 23))] (.slice a6 9 c6) cb (.slice a m cap) bh w19 ∧ IsR w19 q bh 0 ∧ Bytes w19 v19 cb) := Bx.mk ⟨H18.out.1.later hb19, H18.out.2.later hb19, ho19.bytes⟩
    obtain ⟨a19, c19, hv19⟩ := own_form ho19
    subst hv19
    clear ho19 hb19 H18 HRb k0 k1 k2 k3
    go_wp2_with fail
    refine (same_any cb cb _ _ w19 H19.out.1.b6 H19.out.2.2 (by rw [HCL.out]; omega) (by rw [HCL.out]; omega)).mono ?_
    rintro e w20 ⟨rfl, n20, rfl⟩
    rw [decide_eq_true rfl]
    have H20 : Bx (LS w B [(Z, (.cells #[.int .i64 i, .int .i64 r, .int .i64 x, .int .i64 s] 25)), (Y, (.cells #[.int .i64 i, .int .i64 r, .int .i64 x, .int .i64 s] 25)), (X, (.cells #[.int .i64 i, .int .i64 r, .int .i64 x, .int .i64 s] 25)), (B, (.cells #[.int .i64 i, .int .i64 r, .int .i64 x, .int .i64 s] 23))] (.slice a6 9 c6) cb (.slice a m cap) bh (w19.drewN n20) ∧ IsR (w19.drewN n20) q bh 0) := Bx.mk ⟨H19.out.1.later (below_drewN (Below.refl _ _) _), H19.out.2.1.later (below_drewN (Below.refl _ _) _)⟩
    generalize w19.drewN n20 = w21 at *
    clear H19
    obtain ⟨k0, k1, k2, k3⟩ := four_cells (H20.out.1.rows _ (.head _))
    obtain ⟨l0, l1, l2, l3⟩ := four_cells (H20.out.1.rows _ (.tail _ (.head _)))
    obtain ⟨p0, p1, p2, p3⟩ := four_cells (H20.out.1.rows _ (.tail _ (.tail _ (.head _))))
    go_wp2_with fail
    refine (left_any q bh 0 w21 H20.out.2).mono ?_
    rintro e w22 ⟨rfl, hw⟩
    rw [hw, HML.out.1]
    go_wp2
    go_ret
    exact ⟨rfl, H20.out.1.below⟩
  · have hof : okC ⟨i, r, x, s⟩ = false := by simpa using ho
    rw [hof] at HRt HCk
    rw [if_neg (by simp)] at HCk
    have HBb := Bx.mk (fun W => HBb.out W hof)
    clear HBo HRb ho hof
    refine (HBb.out w2).mono ?_
    rintro e w3 ⟨rfl, hb3⟩
    have H3 := Bx.mk (H1.out.1.later hb3)
    clear hb3 H1 HBb
    obtain ⟨k0, k1, k2, k3⟩ := four_cells (H3.out.rows _ (.tail _ (.head _)))
    go_wp2_with fail
    refine (HRt.out w3).mono ?_
    rintro e w4 ⟨rfl, hb4⟩
    have H4 := Bx.mk (H3.out.later hb4)
    clear hb4 H3 HRt k0 k1 k2 k3
    go_wp2_with fail
    refine (known5_any w4).mono ?_
    rintro e w5 ⟨rfl, hb5⟩
    have H5 := Bx.mk (H4.out.later hb5)
    clear hb5 H4
    obtain ⟨k0, k1, k2, k3⟩ := four_cells (H5.out.rows _ (.head _))
    go_wp2_with fail
    refine (HCk.out w5).mono ?_
    rintro e w6 ⟨rfl, hb6⟩
    have H6 := Bx.mk (H5.out.later hb6)
    clear hb6 H5 HCk k0 k1 k2 k3
    go_wp2
    go_ret
    exact ⟨rfl, H6.out.below⟩
end Go.Proofs.Ytiomjknhlfhlhaa
