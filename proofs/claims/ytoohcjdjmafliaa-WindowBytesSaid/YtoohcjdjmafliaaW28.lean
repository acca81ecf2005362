/-
  WindowBytes: what is no nonce; the whole.
-/
import Derived.Test.YtoohcjdjmafliaaW27
namespace Go.Proofs.Ytoohcjdjmafliaa
open Go Go.RowKit
set_option maxRecDepth 100000 in
set_option maxHeartbeats 4000000 in
theorem wbytes_bad (n o : Nn) (bs : List UInt8) (v2 : Value) (w : World) (hv : Bytes w v2 bs) (hbl : bs.length ≤ 9223372036854775807) (hok : okN n = false) :
    Calls Try.prog 6 #[nv n, nv o, v2] w fun e w' => e = .returned (.bool true) ∧ Below w.heap.size w w' := by
  obtain ⟨a0, cap, hv2, hcap, hnone, -⟩ := id hv
  subst hv2
  obtain ⟨l0, hl0⟩ : ∃ l, bs.length = l := ⟨_, rfl⟩
  obtain ⟨m, hm⟩ : ∃ m, m = min l0 20 := ⟨_, rfl⟩
  rw [hl0] at hv hbl hcap ⊢
  have hmin : min (l0 : Int) 20 = (m : Int) := by omega
  have hmin2 : (if (20 : Int) < (l0 : Int) then (20 : Int) else (l0 : Int)) = (m : Int) := by split <;> omega
  have s1 := fun W => cut_bytes a0 l0 cap m (by omega) (by omega) hnone W
  have HV : Bx (Bytes w (.slice a0 m cap) (bs.take m)) := Bx.mk (hv.take m (by omega))
  have HM : Bx ((bs.take m).length = m ∧ m ≤ 20) := Bx.mk ⟨by rw [List.length_take]; omega, by omega⟩
  generalize bs.take m = ys at *
  have hm20 : (m : Int) ≤ 20 := by omega
  have hn1 : (l0 : Int) ≤ 9223372036854775807 := by omega
  have HKn := Bx.mk fun (W : World) => known12_any W
  have HT1 := Bx.mk fun (W : World) => to12_any n W
  have HT2 := Bx.mk fun (W : World) => to12_any o W
  have HRi := Bx.mk fun (W : World) => rright12_any n W
  have HCh := Bx.mk fun (W : World) => check_any n W
  have HLs := Bx.mk fun (W : World) => wless_any n o W
  have HRl := Bx.mk fun (W : World) => rless_any n o W
  have HOf := Bx.mk fun (x : Nn) (W : World) => of12_any x W
  have HRw := Bx.mk fun (x : Nn) (W : World) => rright12_any x W
  rw [hok] at HRi HCh
  have R0 := Bx.mk (WBf.start w n o)
  have HBy := Bx.mk fun (W : World) => nbytes_bad n W hok
  clear hv hbl hnone hl0 hm hok hcap
  obtain ⟨b, c⟩ := n
  obtain ⟨d, g⟩ := o
  unfold nv at HBy HT1 HT2 HRi HCh HLs HRl ⊢
  obtain ⟨x0, x1⟩ := R0.out.x.cells
  obtain ⟨y0, y1⟩ := R0.out.y.cells
  simp only at x0 x1 y0 y1 ⊢
  go_enter Try.func6, Try.ntmps6
  go_wp2_with fail
  skip -- M1
  refine (HT1.out _).mono ?_
  rintro e w1 ⟨rfl, hb⟩
  have R1 := Bx.mk (R0.out.later hb)
  clear hb R0 x0 x1 y0 y1
  go_wp2_with fail
  refine (HBy.out _).mono ?_
  rintro e w2 ⟨rfl, hb⟩
  have R2 : Bx (WBf w ⟨b, c⟩ ⟨d, g⟩ w2 ∧ Bytes w2 (.slice none 0 0) []) := Bx.mk ⟨R1.out.later hb, Bytes.nil _⟩
  clear hb R1
  cases hlo : lessN ⟨b, c⟩ ⟨d, g⟩ with
  | true =>
    rw [hlo] at HLs HRl
    clear hlo
    go_upto_region 3 with fail
    have RD := Bx.mk (And.intro (R2.out.1.later (Below.refl _ _).drew) (R2.out.2.later (Below.refl _ _).drew))
    refine wp_region_noPanic ?_
    refine wp_region_held_drew (S := fun W => W.rangeAt w.heap.size 0 [.int .i64 b, .int .i64 c] ∧ W.rangeAt (w.heap.size + 1) 0 [.int .i64 d, .int .i64 g]) (by kernel_rfl) (⟨RD.out.1.x.range, RD.out.1.y.range⟩) (fun hHeld => ?_)
    have Z0 := RD
    clear RD R2
    generalize w2.drew = W0 at *
    refine takeL 0 rfl (by kernel_rfl) (by kernel_rfl) (by kernel_rfl) (fun _ _ _ h => h) (yieldsIf_load_mid (by rfl) _ _ rfl _ _ rfl _ _ (fun w hSw => hSw.1) Try.underlying29 rfl (by kernel_rfl)) hHeld ?_
    try simp only [Act.put, List.setIfInBounds_toArray, List.set_cons_zero, List.set_cons_succ]
    refine takeL 2 (v := ?_) rfl (by kernel_rfl) (by kernel_rfl) (by kernel_rfl) (fun _ _ _ h => h) (Or.inl ⟨by rfl, ?_⟩) hHeld ?_
    rotate_left 1
    · (intro w hSw; go_simp; try with_reducible rfl)
    try simp only [Act.put, List.setIfInBounds_toArray, List.set_cons_zero, List.set_cons_succ]
    refine takeL 3 (v := ?_) rfl (by kernel_rfl) (by kernel_rfl) (by kernel_rfl) (fun _ _ _ h => h) (Or.inl ⟨by rfl, ?_⟩) hHeld ?_
    rotate_left 1
    · (intro w hSw; go_simp; try with_reducible rfl)
    try simp only [Act.put, List.setIfInBounds_toArray, List.set_cons_zero, List.set_cons_succ]
    refine stepL 1 (by kernel_rfl) rfl (fun K hK => ?_)
    go_simp
    refine (HRi.out W0).mono ?_
    rintro e W1 ⟨rfl, hb⟩
    show K _ _
    have R1 := Bx.mk (And.intro (Z0.out.1.later hb) (Z0.out.2.later hb))
    clear hb Z0
    refine hK.out _ _ (⟨R1.out.1.x.range, R1.out.1.y.range⟩) (fun hHeld => ?_)
    clear hK K
    try simp only [Act.put, List.setIfInBounds_toArray, List.set_cons_zero, List.set_cons_succ]
    refine takeL 4 (v := ?_) rfl (by kernel_rfl) (by kernel_rfl) (by kernel_rfl) (fun _ _ _ h => h) (Or.inl ⟨by rfl, ?_⟩) hHeld ?_
    rotate_left 1
    · (intro w hSw; go_simp; try with_reducible rfl)
    try simp only [Act.put, List.setIfInBounds_toArray, List.set_cons_zero, List.set_cons_succ]
    refine takeL 5 (v := ?_) rfl (by kernel_rfl) (by kernel_rfl) (by kernel_rfl) (fun _ _ _ h => h) (Or.inl ⟨by rfl, ?_⟩) hHeld ?_
    rotate_left 1
    · (intro w hSw; go_simp; try with_reducible rfl)
    try simp only [Act.put, List.setIfInBounds_toArray, List.set_cons_zero, List.set_cons_succ]
    refine takeL 6 rfl (by kernel_rfl) (by kernel_rfl) (by kernel_rfl) (fun _ _ _ h => h) (yieldsIf_load_mid (by rfl) _ _ rfl _ _ rfl _ _ (fun w hSw => hSw.1) Try.underlying29 rfl (by kernel_rfl)) hHeld ?_
    try simp only [Act.put, List.setIfInBounds_toArray, List.set_cons_zero, List.set_cons_succ]
    refine takeL 10 rfl (by kernel_rfl) (by kernel_rfl) (by kernel_rfl) (fun _ _ _ h => h) (yieldsIf_load_mid (by rfl) _ _ rfl _ _ rfl _ _ (fun w hSw => hSw.1) Try.underlying29 rfl (by kernel_rfl)) hHeld ?_
    try simp only [Act.put, List.setIfInBounds_toArray, List.set_cons_zero, List.set_cons_succ]
    refine stepL 7 (by kernel_rfl) rfl (fun K hK => ?_)
    go_simp
    refine (HT1.out W1).mono ?_
    rintro e W2 ⟨rfl, hb⟩
    show K _ _
    have R2 := Bx.mk (And.intro (R1.out.1.later hb) (R1.out.2.later hb))
    clear hb R1
    refine hK.out _ _ (⟨R2.out.1.x.range, R2.out.1.y.range⟩) (fun hHeld => ?_)
    clear hK K
    try simp only [Act.put, List.setIfInBounds_toArray, List.set_cons_zero, List.set_cons_succ]
    refine stepL 8 (by kernel_rfl) rfl (fun K hK => ?_)
    go_simp
    refine (HCh.out W2).mono ?_
    rintro e W3 ⟨rfl, hb⟩
    show K _ _
    have R3 := Bx.mk (And.intro (R2.out.1.later hb) (R2.out.2.later hb))
    clear hb R2
    refine hK.out _ _ (⟨R3.out.1.x.range, R3.out.1.y.range⟩) (fun hHeld => ?_)
    clear hK K
    try simp only [Act.put, List.setIfInBounds_toArray, List.set_cons_zero, List.set_cons_succ]
    refine takeL 9 (v := ?_) rfl (by kernel_rfl) (by kernel_rfl) (by kernel_rfl) (fun _ _ _ h => h) (Or.inl ⟨by rfl, ?_⟩) hHeld ?_
    rotate_left 1
    · (intro w hSw; go_simp; try with_reducible rfl)
    try simp only [Act.put, List.setIfInBounds_toArray, List.set_cons_zero, List.set_cons_succ]
    refine stepL 11 (by kernel_rfl) rfl (fun K hK => ?_)
    go_simp
    refine (HRi.out W3).mono ?_
    rintro e W4 ⟨rfl, hb⟩
    show K _ _
    have R4 := Bx.mk (And.intro (R3.out.1.later hb) (R3.out.2.later hb))
    clear hb R3
    refine hK.out _ _ (⟨R4.out.1.x.range, R4.out.1.y.range⟩) (fun hHeld => ?_)
    clear hK K
    try simp only [Act.put, List.setIfInBounds_toArray, List.set_cons_zero, List.set_cons_succ]
    refine takeL 12 (v := ?_) rfl (by kernel_rfl) (by kernel_rfl) (by kernel_rfl) (fun _ _ _ h => h) (Or.inl ⟨by rfl, ?_⟩) hHeld ?_
    rotate_left 1
    · (intro w hSw; go_simp; try with_reducible rfl)
    try simp only [Act.put, List.setIfInBounds_toArray, List.set_cons_zero, List.set_cons_succ]
    refine takeL 13 (v := ?_) rfl (by kernel_rfl) (by kernel_rfl) (by kernel_rfl) (fun _ _ _ h => h) (Or.inl ⟨by rfl, ?_⟩) hHeld ?_
    rotate_left 1
    · (intro w hSw; go_simp; try with_reducible rfl)
    try simp only [Act.put, List.setIfInBounds_toArray, List.set_cons_zero, List.set_cons_succ]
    refine takeL 14 (v := ?_) rfl (by kernel_rfl) (by kernel_rfl) (by kernel_rfl) (fun _ _ _ h => h) (Or.inl ⟨by rfl, ?_⟩) hHeld ?_
    rotate_left 1
    · (intro w hSw; go_simp; try with_reducible rfl)
    try simp only [Act.put, List.setIfInBounds_toArray, List.set_cons_zero, List.set_cons_succ]
    refine takeL 15 rfl (by kernel_rfl) (by kernel_rfl) (by kernel_rfl) (fun _ _ _ h => h) (yieldsIf_load_mid (by rfl) _ _ rfl _ _ rfl _ _ (fun w hSw => hSw.1) Try.underlying29 rfl (by kernel_rfl)) hHeld ?_
    try simp only [Act.put, List.setIfInBounds_toArray, List.set_cons_zero, List.set_cons_succ]
    refine takeL 17 rfl (by kernel_rfl) (by kernel_rfl) (by kernel_rfl) (fun _ _ _ h => h) (yieldsIf_load_mid (by rfl) _ _ rfl _ _ rfl _ _ (fun w hSw => hSw.2) Try.underlying29 rfl (by kernel_rfl)) hHeld ?_
    try simp only [Act.put, List.setIfInBounds_toArray, List.set_cons_zero, List.set_cons_succ]
    refine takeL 20 rfl (by kernel_rfl) (by kernel_rfl) (by kernel_rfl) (fun _ _ _ h => h) (yieldsIf_load_mid (by rfl) _ _ rfl _ _ rfl _ _ (fun w hSw => hSw.1) Try.underlying29 rfl (by kernel_rfl)) hHeld ?_
    try simp only [Act.put, List.setIfInBounds_toArray, List.set_cons_zero, List.set_cons_succ]
    refine takeL 21 rfl (by kernel_rfl) (by kernel_rfl) (by kernel_rfl) (fun _ _ _ h => h) (yieldsIf_load_mid (by rfl) _ _ rfl _ _ rfl _ _ (fun w hSw => hSw.2) Try.underlying29 rfl (by kernel_rfl)) hHeld ?_
    try simp only [Act.put, List.setIfInBounds_toArray, List.set_cons_zero, List.set_cons_succ]
    refine stepL 16 (by kernel_rfl) rfl (fun K hK => ?_)
    go_simp
    refine (HT1.out W4).mono ?_
    rintro e W5 ⟨rfl, hb⟩
    show K _ _
    have R5 := Bx.mk (And.intro (R4.out.1.later hb) (R4.out.2.later hb))
    clear hb R4
    refine hK.out _ _ (⟨R5.out.1.x.range, R5.out.1.y.range⟩) (fun hHeld => ?_)
    clear hK K
    try simp only [Act.put, List.setIfInBounds_toArray, List.set_cons_zero, List.set_cons_succ]
    refine stepL 18 (by kernel_rfl) rfl (fun K hK => ?_)
    go_simp
    refine (HT2.out W5).mono ?_
    rintro e W6 ⟨rfl, hb⟩
    show K _ _
    have R6 := Bx.mk (And.intro (R5.out.1.later hb) (R5.out.2.later hb))
    clear hb R5
    refine hK.out _ _ (⟨R6.out.1.x.range, R6.out.1.y.range⟩) (fun hHeld => ?_)
    clear hK K
    try simp only [Act.put, List.setIfInBounds_toArray, List.set_cons_zero, List.set_cons_succ]
    refine stepL 19 (by kernel_rfl) rfl (fun K hK => ?_)
    go_simp
    refine (HLs.out W6).mono ?_
    rintro e W7 ⟨rfl, hb⟩
    show K _ _
    have R7 := Bx.mk (And.intro (R6.out.1.later hb) (R6.out.2.later hb))
    clear hb R6
    refine hK.out _ _ (⟨R7.out.1.x.range, R7.out.1.y.range⟩) (fun hHeld => ?_)
    clear hK K
    try simp only [Act.put, List.setIfInBounds_toArray, List.set_cons_zero, List.set_cons_succ]
    refine stepL 22 (by kernel_rfl) rfl (fun K hK => ?_)
    go_simp
    refine (HRl.out W7).mono ?_
    rintro e W8 ⟨rfl, hb⟩
    show K _ _
    have R8 := Bx.mk (And.intro (R7.out.1.later hb) (R7.out.2.later hb))
    clear hb R7
    refine hK.out _ _ (⟨R8.out.1.x.range, R8.out.1.y.range⟩) (fun hHeld => ?_)
    clear hK K
    try simp only [Act.put, List.setIfInBounds_toArray, List.set_cons_zero, List.set_cons_succ]
    refine takeL 23 (v := ?_) rfl (by kernel_rfl) (by kernel_rfl) (by kernel_rfl) (fun _ _ _ h => h) (Or.inl ⟨by rfl, ?_⟩) hHeld ?_
    rotate_left 1
    · (intro w hSw; go_simp; try with_reducible rfl)
    try simp only [Act.put, List.setIfInBounds_toArray, List.set_cons_zero, List.set_cons_succ]
    refine takeL 24 (v := ?_) rfl (by kernel_rfl) (by kernel_rfl) (by kernel_rfl) (fun _ _ _ h => h) (Or.inl ⟨by rfl, ?_⟩) hHeld ?_
    rotate_left 1
    · (intro w hSw; go_simp; try with_reducible rfl)
    try simp only [Act.put, List.setIfInBounds_toArray, List.set_cons_zero, List.set_cons_succ]
    refine wpAnyH_done (by kernel_rfl) ?_ _
    refine NoPanic.normal ?_
    clear hHeld
    have RS := Bx.mk R8.out.1.bel
    clear R8
    have HY : Bx (Bytes W8 (.slice a0 m cap) ys) := Bx.mk (HV.out.later RS.out)
    go_wp2_with fail
    refine (new_ok ys _ W8 HY.out (by have := HM.out; omega)).mono ?_
    rintro e u1 ⟨rfl, hr, hb⟩
    have U1 : Bx (IsR u1 W8.heap.size ys 0 ∧ Below w.heap.size w u1 ∧ w.heap.size ≤ W8.heap.size) := Bx.mk ⟨hr, RS.out.trans (hb.mono RS.out.size), RS.out.size⟩
    clear hr hb RS HY
    generalize W8.heap.size = q1 at *
    go_wp2_with fail
    refine (nread_any q1 (ys, 0) u1 U1.out.1 (by have := HM.out; show ys.length ≤ 5000; omega)).mono ?_
    rintro e u2 ⟨rfl, hr, hg⟩
    have U2 : Bx (IsR u2 q1 (nrR (ys, 0)).1 (nrR (ys, 0)).2 ∧ Below w.heap.size w u2) := Bx.mk ⟨hr, U1.out.2.1.trans (grown_belowW hg U1.out.2.2 U1.out.2.1.size)⟩
    clear hr hg U1
    have U3 : Bx (BoxN 24 u2.heap.size (nrC (ys, 0)) (u2.alloc (.cells #[.int .i64 (nrC (ys, 0)).b, .int .i64 (nrC (ys, 0)).c] 24)) ∧ IsR (u2.alloc (.cells #[.int .i64 (nrC (ys, 0)).b, .int .i64 (nrC (ys, 0)).c] 24)) q1 (nrR (ys, 0)).1 (nrR (ys, 0)).2 ∧ Below w.heap.size w (u2.alloc (.cells #[.int .i64 (nrC (ys, 0)).b, .int .i64 (nrC (ys, 0)).c] 24))) := Bx.mk ⟨hnew _ _ _ rfl, U2.out.1.later (below_a _), U2.out.2.trans ((below_a _).mono U2.out.2.size)⟩
    clear U2
    unfold nv
    by_cases h6 : m < 6
    · have h6i : (m : Int) < 6 := by omega
      obtain ⟨hE, hC⟩ := nr_short ys (by rw [HM.out.1]; exact h6)
      rw [hE, hC]
      rw [hC] at U3
      clear hE hC h6
      simp only [Nn.zero]
      go_wp2_with fail
      refine (HKn.out _).mono ?_
      rintro e u4 ⟨rfl, hb⟩
      have U4 := Bx.mk (And.intro (U3.out.1.later hb) (U3.out.2.2.trans (hb.mono U3.out.2.2.size)))
      clear hb U3
      obtain ⟨y0, y1⟩ := U4.out.1.cells
      simp only [Nn.zero] at y0 y1
      go_wp2
      go_ret
      exact ⟨rfl, U4.out.2⟩
    · have h6i : ¬ (m : Int) < 6 := by omega
      have hl6 : 6 ≤ ys.length := by rw [HM.out.1]; omega
      have HNum := Bx.mk (nr_num ys hl6)
      have HErr := Bx.mk (nr_err ys hl6)
      have HRr := Bx.mk (nr_long ys hl6).2
      obtain ⟨cb, ob, ha, -⟩ := HV.out.cell 0 (by omega)
      subst ha
      have HY : Bx (Bytes (u2.alloc (.cells #[.int .i64 (nrC (ys, 0)).b, .int .i64 (nrC (ys, 0)).c] 24)) (.slice (some ⟨cb, ob, none⟩) m cap) ys) := Bx.mk (HV.out.later U3.out.2.2)
      have m1 : (0 : Int) < (m : Int) := by omega
      have m2 : (1 : Int) < (m : Int) := by omega
      have m3 : (2 : Int) < (m : Int) := by omega
      have m4 : (3 : Int) < (m : Int) := by omega
      have m5 : (4 : Int) < (m : Int) := by omega
      have m6 : (5 : Int) < (m : Int) := by omega
      have p1 : 0 < m := by omega
      have p2 : 1 < m := by omega
      have p3 : 2 < m := by omega
      have p4 : 3 < m := by omega
      have p5 : 4 < m := by omega
      have p6 : 5 < m := by omega
      have hC6 := Bx.mk (bytes_six HY.out (by omega))
      have B0 := Bx.mk (And.intro (ub_nonneg (ys.getD 0 0)) (ub_le (ys.getD 0 0)))
      have B1 := Bx.mk (And.intro (ub_nonneg (ys.getD 1 0)) (ub_le (ys.getD 1 0)))
      have B2 := Bx.mk (And.intro (ub_nonneg (ys.getD 2 0)) (ub_le (ys.getD 2 0)))
      have B3 := Bx.mk (And.intro (ub_nonneg (ys.getD 3 0)) (ub_le (ys.getD 3 0)))
      have B4 := Bx.mk (And.intro (ub_nonneg (ys.getD 4 0)) (ub_le (ys.getD 4 0)))
      have B5 := Bx.mk (And.intro (ub_nonneg (ys.getD 5 0)) (ub_le (ys.getD 5 0)))
      go_upto_region 16 with fail
      have HC0 : Bx (∃ v, w.cell? ⟨cb, ob, none⟩ = some v) := Bx.mk ⟨_, (bytes_six HV.out (by omega)) 0 (by omega)⟩
      obtain ⟨vc0, hc0⟩ := HC0.out
      have HC0 := Bx.mk hc0
      clear hc0
      have H6 : Bx ((u2.alloc (.cells #[.int .i64 (nrC (ys, 0)).b, .int .i64 (nrC (ys, 0)).c] 24)).drew.cell? ⟨cb, ob, none⟩ = some (.int .u8 (ub (ys.getD 0 0))) ∧ (u2.alloc (.cells #[.int .i64 (nrC (ys, 0)).b, .int .i64 (nrC (ys, 0)).c] 24)).drew.cell? ⟨cb, ob + 1, none⟩ = some (.int .u8 (ub (ys.getD 1 0))) ∧ (u2.alloc (.cells #[.int .i64 (nrC (ys, 0)).b, .int .i64 (nrC (ys, 0)).c] 24)).drew.cell? ⟨cb, ob + 2, none⟩ = some (.int .u8 (ub (ys.getD 2 0))) ∧ (u2.alloc (.cells #[.int .i64 (nrC (ys, 0)).b, .int .i64 (nrC (ys, 0)).c] 24)).drew.cell? ⟨cb, ob + 3, none⟩ = some (.int .u8 (ub (ys.getD 3 0))) ∧ (u2.alloc (.cells #[.int .i64 (nrC (ys, 0)).b, .int .i64 (nrC (ys, 0)).c] 24)).drew.cell? ⟨cb, ob + 4, none⟩ = some (.int .u8 (ub (ys.getD 4 0))) ∧ (u2.alloc (.cells #[.int .i64 (nrC (ys, 0)).b, .int .i64 (nrC (ys, 0)).c] 24)).drew.cell? ⟨cb, ob + 5, none⟩ = some (.int .u8 (ub (ys.getD 5 0)))) := Bx.mk ⟨hC6.out 0 (by omega), hC6.out 1 (by omega), hC6.out 2 (by omega), hC6.out 3 (by omega), hC6.out 4 (by omega), hC6.out 5 (by omega)⟩
      have U5 : Bx (BoxN 24 u2.heap.size (nrC (ys, 0)) (u2.alloc (.cells #[.int .i64 (nrC (ys, 0)).b, .int .i64 (nrC (ys, 0)).c] 24)).drew ∧ IsR (u2.alloc (.cells #[.int .i64 (nrC (ys, 0)).b, .int .i64 (nrC (ys, 0)).c] 24)).drew q1 (nrR (ys, 0)).1 (nrR (ys, 0)).2 ∧ Below w.heap.size w (u2.alloc (.cells #[.int .i64 (nrC (ys, 0)).b, .int .i64 (nrC (ys, 0)).c] 24)).drew) := Bx.mk ⟨U3.out.1.later (Below.refl _ _).drew, U3.out.2.1.later (Below.refl _ _).drew, U3.out.2.2.drew⟩
      clear hC6 HY U3
      rw [HRr.out] at U5
      clear HRr
      generalize ub (ys.getD 0 0) = x0 at *
      generalize ub (ys.getD 1 0) = x1 at *
      generalize ub (ys.getD 2 0) = x2 at *
      generalize ub (ys.getD 3 0) = x3 at *
      generalize ub (ys.getD 4 0) = x4 at *
      generalize ub (ys.getD 5 0) = x5 at *
      have HW : Bx (∀ z : Int, 0 ≤ z → z ≤ 9223372036854775807 → IntKind.i64.wrap z = z) := Bx.mk fun z h1 h2 => by simp [IntKind.wrap_i64]; omega
      have r0 := HW.out x0 (by have := B0.out; omega) (by have := B0.out; omega)
      have r1 := HW.out x1 (by have := B1.out; omega) (by have := B1.out; omega)
      have r2 := HW.out x2 (by have := B2.out; omega) (by have := B2.out; omega)
      have r3 := HW.out x3 (by have := B3.out; omega) (by have := B3.out; omega)
      have r4 := HW.out x4 (by have := B4.out; omega) (by have := B4.out; omega)
      have r5 := HW.out x5 (by have := B5.out; omega) (by have := B5.out; omega)
      have t0 := HW.out (256 * x0) (by have := B0.out; omega) (by have := B0.out; omega)
      have t1 := HW.out (256 * x0 + x1) (by have := B0.out; have := B1.out; omega) (by have := B0.out; have := B1.out; omega)
      have t2 := HW.out (16777216 * x2) (by have := B2.out; omega) (by have := B2.out; omega)
      have t3 := HW.out (65536 * x3) (by have := B3.out; omega) (by have := B3.out; omega)
      have t4 := HW.out (16777216 * x2 + 65536 * x3) (by have := B2.out; have := B3.out; omega) (by have := B2.out; have := B3.out; omega)
      have t5 := HW.out (256 * x4) (by have := B4.out; omega) (by have := B4.out; omega)
      have t6 := HW.out (16777216 * x2 + 65536 * x3 + 256 * x4) (by have := B2.out; have := B3.out; have := B4.out; omega) (by have := B2.out; have := B3.out; have := B4.out; omega)
      have t7 := HW.out (16777216 * x2 + 65536 * x3 + 256 * x4 + x5) (by have := B2.out; have := B3.out; have := B4.out; have := B5.out; omega) (by have := B2.out; have := B3.out; have := B4.out; have := B5.out; omega)
      clear h6
      refine wp_region_noPanic ?_
      refine wp_region_held_drew (S := fun W => W.cell? ⟨cb, ob, none⟩ = some (.int .u8 x0) ∧ W.cell? ⟨cb, ob + 1, none⟩ = some (.int .u8 x1) ∧ W.cell? ⟨cb, ob + 2, none⟩ = some (.int .u8 x2) ∧ W.cell? ⟨cb, ob + 3, none⟩ = some (.int .u8 x3) ∧ W.cell? ⟨cb, ob + 4, none⟩ = some (.int .u8 x4) ∧ W.cell? ⟨cb, ob + 5, none⟩ = some (.int .u8 x5)) (by kernel_rfl) (H6.out) (fun hHeld => ?_)
      generalize (u2.alloc (.cells #[.int .i64 (nrC (ys, 0)).b, .int .i64 (nrC (ys, 0)).c] 24)).drew = J0 at *
      refine takeL 0 (v := ?_) rfl (by kernel_rfl) (by kernel_rfl) (by kernel_rfl) (fun _ _ _ h => h) (Or.inl ⟨by rfl, ?_⟩) hHeld ?_
      rotate_left 1
      · (intro w hSw; go_simp; try with_reducible rfl)
      try simp only [Act.put, List.setIfInBounds_toArray, List.set_cons_zero, List.set_cons_succ]
      refine takeL 1 (v := ?_) rfl (by kernel_rfl) (by kernel_rfl) (by kernel_rfl) (fun _ _ _ h => h) (Or.inl ⟨by rfl, ?_⟩) hHeld ?_
      rotate_left 1
      · (intro w hSw; go_simp; try with_reducible rfl)
      try simp only [Act.put, List.setIfInBounds_toArray, List.set_cons_zero, List.set_cons_succ]
      refine takeL 2 (v := ?_) rfl (by kernel_rfl) (by kernel_rfl) (by kernel_rfl) (fun _ _ _ h => h) (Or.inl ⟨by rfl, ?_⟩) hHeld ?_
      rotate_left 1
      · (intro w hSw; obtain ⟨q0, q1', q2, q3, q4, q5⟩ := hSw; clear q1' q2 q3 q4 q5; go_simp; try with_reducible rfl)
      try simp only [Act.put, List.setIfInBounds_toArray, List.set_cons_zero, List.set_cons_succ]
      refine takeL 3 (v := ?_) rfl (by kernel_rfl) (by kernel_rfl) (by kernel_rfl) (fun _ _ _ h => h) (Or.inl ⟨by rfl, ?_⟩) hHeld ?_
      rotate_left 1
      · (intro w hSw; go_simp; try with_reducible rfl)
      try simp only [Act.put, List.setIfInBounds_toArray, List.set_cons_zero, List.set_cons_succ]
      refine takeL 4 (v := ?_) rfl (by kernel_rfl) (by kernel_rfl) (by kernel_rfl) (fun _ _ _ h => h) (Or.inl ⟨by rfl, ?_⟩) hHeld ?_
      rotate_left 1
      · (intro w hSw; go_simp; try with_reducible rfl)
      try simp only [Act.put, List.setIfInBounds_toArray, List.set_cons_zero, List.set_cons_succ]
      refine takeL 5 (v := ?_) rfl (by kernel_rfl) (by kernel_rfl) (by kernel_rfl) (fun _ _ _ h => h) (Or.inl ⟨by rfl, ?_⟩) hHeld ?_
      rotate_left 1
      · (intro w hSw; go_simp; try with_reducible rfl)
      try simp only [Act.put, List.setIfInBounds_toArray, List.set_cons_zero, List.set_cons_succ]
      refine takeL 6 (v := ?_) rfl (by kernel_rfl) (by kernel_rfl) (by kernel_rfl) (fun _ _ _ h => h) (Or.inl ⟨by rfl, ?_⟩) hHeld ?_
      rotate_left 1
      · (intro w hSw; go_simp; try with_reducible rfl)
      try simp only [Act.put, List.setIfInBounds_toArray, List.set_cons_zero, List.set_cons_succ]
      refine takeL 7 (v := ?_) rfl (by kernel_rfl) (by kernel_rfl) (by kernel_rfl) (fun _ _ _ h => h) (Or.inl ⟨by rfl, ?_⟩) hHeld ?_
      rotate_left 1
      · (intro w hSw; obtain ⟨q0, q1', q2, q3, q4, q5⟩ := hSw; clear q0 q2 q3 q4 q5; go_simp; try with_reducible rfl)
      try simp only [Act.put, List.setIfInBounds_toArray, List.set_cons_zero, List.set_cons_succ]
      refine takeL 8 (v := ?_) rfl (by kernel_rfl) (by kernel_rfl) (by kernel_rfl) (fun _ _ _ h => h) (Or.inl ⟨by rfl, ?_⟩) hHeld ?_
      rotate_left 1
      · (intro w hSw; go_simp; try with_reducible rfl)
      try simp only [Act.put, List.setIfInBounds_toArray, List.set_cons_zero, List.set_cons_succ]
      refine takeL 9 (v := ?_) rfl (by kernel_rfl) (by kernel_rfl) (by kernel_rfl) (fun _ _ _ h => h) (Or.inl ⟨by rfl, ?_⟩) hHeld ?_
      rotate_left 1
      · (intro w hSw; go_simp; try with_reducible rfl)
      try simp only [Act.put, List.setIfInBounds_toArray, List.set_cons_zero, List.set_cons_succ]
      refine takeL 10 (v := ?_) rfl (by kernel_rfl) (by kernel_rfl) (by kernel_rfl) (fun _ _ _ h => h) (Or.inl ⟨by rfl, ?_⟩) hHeld ?_
      rotate_left 1
      · (intro w hSw; go_simp; try with_reducible rfl)
      try simp only [Act.put, List.setIfInBounds_toArray, List.set_cons_zero, List.set_cons_succ]
      refine takeL 11 (v := ?_) rfl (by kernel_rfl) (by kernel_rfl) (by kernel_rfl) (fun _ _ _ h => h) (Or.inl ⟨by rfl, ?_⟩) hHeld ?_
      rotate_left 1
      · (intro w hSw; go_simp; try with_reducible rfl)
      try simp only [Act.put, List.setIfInBounds_toArray, List.set_cons_zero, List.set_cons_succ]
      refine takeL 12 (v := ?_) rfl (by kernel_rfl) (by kernel_rfl) (by kernel_rfl) (fun _ _ _ h => h) (Or.inl ⟨by rfl, ?_⟩) hHeld ?_
      rotate_left 1
      · (intro w hSw; obtain ⟨q0, q1', q2, q3, q4, q5⟩ := hSw; clear q0 q1' q3 q4 q5; go_simp; try with_reducible rfl)
      try simp only [Act.put, List.setIfInBounds_toArray, List.set_cons_zero, List.set_cons_succ]
      refine takeL 13 (v := ?_) rfl (by kernel_rfl) (by kernel_rfl) (by kernel_rfl) (fun _ _ _ h => h) (Or.inl ⟨by rfl, ?_⟩) hHeld ?_
      rotate_left 1
      · (intro w hSw; go_simp; try with_reducible rfl)
      try simp only [Act.put, List.setIfInBounds_toArray, List.set_cons_zero, List.set_cons_succ]
      refine takeL 14 (v := ?_) rfl (by kernel_rfl) (by kernel_rfl) (by kernel_rfl) (fun _ _ _ h => h) (Or.inl ⟨by rfl, ?_⟩) hHeld ?_
      rotate_left 1
      · (intro w hSw; go_simp; try with_reducible rfl)
      try simp only [Act.put, List.setIfInBounds_toArray, List.set_cons_zero, List.set_cons_succ]
      refine takeL 15 (v := ?_) rfl (by kernel_rfl) (by kernel_rfl) (by kernel_rfl) (fun _ _ _ h => h) (Or.inl ⟨by rfl, ?_⟩) hHeld ?_
      rotate_left 1
      · (intro w hSw; go_simp; try with_reducible rfl)
      try simp only [Act.put, List.setIfInBounds_toArray, List.set_cons_zero, List.set_cons_succ]
      refine takeL 16 (v := ?_) rfl (by kernel_rfl) (by kernel_rfl) (by kernel_rfl) (fun _ _ _ h => h) (Or.inl ⟨by rfl, ?_⟩) hHeld ?_
      rotate_left 1
      · (intro w hSw; go_simp; try with_reducible rfl)
      try simp only [Act.put, List.setIfInBounds_toArray, List.set_cons_zero, List.set_cons_succ]
      refine takeL 17 (v := ?_) rfl (by kernel_rfl) (by kernel_rfl) (by kernel_rfl) (fun _ _ _ h => h) (Or.inl ⟨by rfl, ?_⟩) hHeld ?_
      rotate_left 1
      · (intro w hSw; obtain ⟨q0, q1', q2, q3, q4, q5⟩ := hSw; clear q0 q1' q2 q4 q5; go_simp; try with_reducible rfl)
      try simp only [Act.put, List.setIfInBounds_toArray, List.set_cons_zero, List.set_cons_succ]
      refine takeL 18 (v := ?_) rfl (by kernel_rfl) (by kernel_rfl) (by kernel_rfl) (fun _ _ _ h => h) (Or.inl ⟨by rfl, ?_⟩) hHeld ?_
      rotate_left 1
      · (intro w hSw; go_simp; try with_reducible rfl)
      try simp only [Act.put, List.setIfInBounds_toArray, List.set_cons_zero, List.set_cons_succ]
      refine takeL 19 (v := ?_) rfl (by kernel_rfl) (by kernel_rfl) (by kernel_rfl) (fun _ _ _ h => h) (Or.inl ⟨by rfl, ?_⟩) hHeld ?_
      rotate_left 1
      · (intro w hSw; go_simp; try with_reducible rfl)
      try simp only [Act.put, List.setIfInBounds_toArray, List.set_cons_zero, List.set_cons_succ]
      refine takeL 20 (v := ?_) rfl (by kernel_rfl) (by kernel_rfl) (by kernel_rfl) (fun _ _ _ h => h) (Or.inl ⟨by rfl, ?_⟩) hHeld ?_
      rotate_left 1
      · (intro w hSw; go_simp; try with_reducible rfl)
      try simp only [Act.put, List.setIfInBounds_toArray, List.set_cons_zero, List.set_cons_succ]
      refine takeL 21 (v := ?_) rfl (by kernel_rfl) (by kernel_rfl) (by kernel_rfl) (fun _ _ _ h => h) (Or.inl ⟨by rfl, ?_⟩) hHeld ?_
      rotate_left 1
      · (intro w hSw; go_simp; try with_reducible rfl)
      try simp only [Act.put, List.setIfInBounds_toArray, List.set_cons_zero, List.set_cons_succ]
      refine takeL 22 (v := ?_) rfl (by kernel_rfl) (by kernel_rfl) (by kernel_rfl) (fun _ _ _ h => h) (Or.inl ⟨by rfl, ?_⟩) hHeld ?_
      rotate_left 1
      · (intro w hSw; go_simp; try with_reducible rfl)
      try simp only [Act.put, List.setIfInBounds_toArray, List.set_cons_zero, List.set_cons_succ]
      refine takeL 23 (v := ?_) rfl (by kernel_rfl) (by kernel_rfl) (by kernel_rfl) (fun _ _ _ h => h) (Or.inl ⟨by rfl, ?_⟩) hHeld ?_
      rotate_left 1
      · (intro w hSw; obtain ⟨q0, q1', q2, q3, q4, q5⟩ := hSw; clear q0 q1' q2 q3 q5; go_simp; try with_reducible rfl)
      try simp only [Act.put, List.setIfInBounds_toArray, List.set_cons_zero, List.set_cons_succ]
      refine takeL 24 (v := ?_) rfl (by kernel_rfl) (by kernel_rfl) (by kernel_rfl) (fun _ _ _ h => h) (Or.inl ⟨by rfl, ?_⟩) hHeld ?_
      rotate_left 1
      · (intro w hSw; go_simp; try with_reducible rfl)
      try simp only [Act.put, List.setIfInBounds_toArray, List.set_cons_zero, List.set_cons_succ]
      refine takeL 25 (v := ?_) rfl (by kernel_rfl) (by kernel_rfl) (by kernel_rfl) (fun _ _ _ h => h) (Or.inl ⟨by rfl, ?_⟩) hHeld ?_
      rotate_left 1
      · (intro w hSw; go_simp; try with_reducible rfl)
      try simp only [Act.put, List.setIfInBounds_toArray, List.set_cons_zero, List.set_cons_succ]
      refine takeL 26 (v := ?_) rfl (by kernel_rfl) (by kernel_rfl) (by kernel_rfl) (fun _ _ _ h => h) (Or.inl ⟨by rfl, ?_⟩) hHeld ?_
      rotate_left 1
      · (intro w hSw; go_simp; try with_reducible rfl)
      try simp only [Act.put, List.setIfInBounds_toArray, List.set_cons_zero, List.set_cons_succ]
      refine takeL 27 (v := ?_) rfl (by kernel_rfl) (by kernel_rfl) (by kernel_rfl) (fun _ _ _ h => h) (Or.inl ⟨by rfl, ?_⟩) hHeld ?_
      rotate_left 1
      · (intro w hSw; go_simp; try with_reducible rfl)
      try simp only [Act.put, List.setIfInBounds_toArray, List.set_cons_zero, List.set_cons_succ]
      refine takeL 28 (v := ?_) rfl (by kernel_rfl) (by kernel_rfl) (by kernel_rfl) (fun _ _ _ h => h) (Or.inl ⟨by rfl, ?_⟩) hHeld ?_
      rotate_left 1
      · (intro w hSw; go_simp; try with_reducible rfl)
      try simp only [Act.put, List.setIfInBounds_toArray, List.set_cons_zero, List.set_cons_succ]
      refine takeL 29 (v := ?_) rfl (by kernel_rfl) (by kernel_rfl) (by kernel_rfl) (fun _ _ _ h => h) (Or.inl ⟨by rfl, ?_⟩) hHeld ?_
      rotate_left 1
      · (intro w hSw; obtain ⟨q0, q1', q2, q3, q4, q5⟩ := hSw; clear q0 q1' q2 q3 q4; go_simp; try with_reducible rfl)
      try simp only [Act.put, List.setIfInBounds_toArray, List.set_cons_zero, List.set_cons_succ]
      refine takeL 30 (v := ?_) rfl (by kernel_rfl) (by kernel_rfl) (by kernel_rfl) (fun _ _ _ h => h) (Or.inl ⟨by rfl, ?_⟩) hHeld ?_
      rotate_left 1
      · (intro w hSw; go_simp; try with_reducible rfl)
      try simp only [Act.put, List.setIfInBounds_toArray, List.set_cons_zero, List.set_cons_succ]
      refine takeL 31 (v := ?_) rfl (by kernel_rfl) (by kernel_rfl) (by kernel_rfl) (fun _ _ _ h => h) (Or.inl ⟨by rfl, ?_⟩) hHeld ?_
      rotate_left 1
      · (intro w hSw; go_simp; try with_reducible rfl)
      try simp only [Act.put, List.setIfInBounds_toArray, List.set_cons_zero, List.set_cons_succ]
      refine takeL 32 rfl (by kernel_rfl) (by kernel_rfl) (by kernel_rfl) (fun _ _ _ h => h) (yieldsIf_build12 (by rfl) 29 _ rfl #[.int .i64 (256 * x0 + x1), .int .i64 (16777216 * x2 + 65536 * x3 + 256 * x4 + x5)] (by kernel_rfl)) hHeld ?_
      try simp only [Act.put, List.setIfInBounds_toArray, List.set_cons_zero, List.set_cons_succ]
      refine stepL 33 (by kernel_rfl) rfl (fun K hK => ?_)
      go_simp
      have U6 : Bx (BoxN 24 u2.heap.size (nrC (ys, 0)) (J0.alloc (.cells #[.int .i64 0, .int .i64 0] 29)) ∧ IsR (J0.alloc (.cells #[.int .i64 0, .int .i64 0] 29)) q1 (ys.drop 6) 0 ∧ Below w.heap.size w (J0.alloc (.cells #[.int .i64 0, .int .i64 0] 29)) ∧ BoxN 29 J0.heap.size Nn.zero (J0.alloc (.cells #[.int .i64 0, .int .i64 0] 29)) ∧ w.heap.size ≤ J0.heap.size ∧ J0.heap.size ≠ u2.heap.size ∧ q1 ≠ J0.heap.size) := Bx.mk ⟨U5.out.1.later (below_a _), U5.out.2.1.later (below_a _), U5.out.2.2.trans ((below_a _).mono U5.out.2.2.size), hnew _ _ _ rfl, U5.out.2.2.size, by have := U5.out.1.lt; omega, by have := U5.out.2.1.lt; omega⟩
      have H6 := Bx.mk (six_later H6.out (below_a (.cells #[.int .i64 0, .int .i64 0] 29)))
      refine hK.out _ _ H6.out (fun hHeld => ?_)
      clear hK K U5
      try simp only [Act.put, List.setIfInBounds_toArray, List.set_cons_zero, List.set_cons_succ]
      generalize J0.alloc (.cells #[.int .i64 0, .int .i64 0] 29) = J1 at *
      generalize J0.heap.size = D at *
      refine stepL 34 (by kernel_rfl) rfl (fun K hK => ?_)
      obtain ⟨z0, z1⟩ := U6.out.2.2.2.1.cells
      simp only [Nn.zero] at z0 z1
      have f0 := U6.out.2.2.2.1.frozen 0
      have f1 := U6.out.2.2.2.1.frozen 1
      have U7 : Bx (BoxN 24 u2.heap.size (nrC (ys, 0)) ((J1.setCell ⟨D, 0, none⟩ (.int .i64 (256 * x0 + x1))).setCell ⟨D, 1, none⟩ (.int .i64 (16777216 * x2 + 65536 * x3 + 256 * x4 + x5))) ∧ IsR ((J1.setCell ⟨D, 0, none⟩ (.int .i64 (256 * x0 + x1))).setCell ⟨D, 1, none⟩ (.int .i64 (16777216 * x2 + 65536 * x3 + 256 * x4 + x5))) q1 (ys.drop 6) 0 ∧ Below w.heap.size w ((J1.setCell ⟨D, 0, none⟩ (.int .i64 (256 * x0 + x1))).setCell ⟨D, 1, none⟩ (.int .i64 (16777216 * x2 + 65536 * x3 + 256 * x4 + x5))) ∧ BoxN 29 D ⟨256 * x0 + x1, 16777216 * x2 + 65536 * x3 + 256 * x4 + x5⟩ ((J1.setCell ⟨D, 0, none⟩ (.int .i64 (256 * x0 + x1))).setCell ⟨D, 1, none⟩ (.int .i64 (16777216 * x2 + 65536 * x3 + 256 * x4 + x5)))) := Bx.mk ⟨U6.out.1.aside (grown_set2 _ _ _ _) (fun e => U6.out.2.2.2.2.2.1 e.symm), U6.out.2.1.asideA U6.out.2.2.2.1 (two_off _ _) (grown_set2 _ _ _ _) U6.out.2.2.2.2.2.2, below_set2 U6.out.2.2.1 U6.out.2.2.2.2.1 _ _, U6.out.2.2.2.1.store _ _⟩
      have HcbD : Bx (cb ≠ D) := Bx.mk (by have h1 : cb < w.heap.size := World.block_lt_of_cell? _ _ HC0.out; have := U6.out.2.2.2.2.1; omega)
      have H7 : Bx (((J1.setCell ⟨D, 0, none⟩ (.int .i64 (256 * x0 + x1))).setCell ⟨D, 1, none⟩ (.int .i64 (16777216 * x2 + 65536 * x3 + 256 * x4 + x5))).cell? ⟨cb, ob, none⟩ = some (.int .u8 x0) ∧ ((J1.setCell ⟨D, 0, none⟩ (.int .i64 (256 * x0 + x1))).setCell ⟨D, 1, none⟩ (.int .i64 (16777216 * x2 + 65536 * x3 + 256 * x4 + x5))).cell? ⟨cb, ob + 1, none⟩ = some (.int .u8 x1) ∧ ((J1.setCell ⟨D, 0, none⟩ (.int .i64 (256 * x0 + x1))).setCell ⟨D, 1, none⟩ (.int .i64 (16777216 * x2 + 65536 * x3 + 256 * x4 + x5))).cell? ⟨cb, ob + 2, none⟩ = some (.int .u8 x2) ∧ ((J1.setCell ⟨D, 0, none⟩ (.int .i64 (256 * x0 + x1))).setCell ⟨D, 1, none⟩ (.int .i64 (16777216 * x2 + 65536 * x3 + 256 * x4 + x5))).cell? ⟨cb, ob + 3, none⟩ = some (.int .u8 x3) ∧ ((J1.setCell ⟨D, 0, none⟩ (.int .i64 (256 * x0 + x1))).setCell ⟨D, 1, none⟩ (.int .i64 (16777216 * x2 + 65536 * x3 + 256 * x4 + x5))).cell? ⟨cb, ob + 4, none⟩ = some (.int .u8 x4) ∧ ((J1.setCell ⟨D, 0, none⟩ (.int .i64 (256 * x0 + x1))).setCell ⟨D, 1, none⟩ (.int .i64 (16777216 * x2 + 65536 * x3 + 256 * x4 + x5))).cell? ⟨cb, ob + 5, none⟩ = some (.int .u8 x5)) := Bx.mk (six_aside H6.out (grown_set2 D J1 (.int .i64 (256 * x0 + x1)) (.int .i64 (16777216 * x2 + 65536 * x3 + 256 * x4 + x5))) HcbD.out)
      go_simp
      refine hK.out _ _ H7.out (fun hHeld => ?_)
      clear hK K z0 z1 f0 f1 U6 H6 H7
      try simp only [Act.put, List.setIfInBounds_toArray, List.set_cons_zero, List.set_cons_succ]
      generalize ((J1.setCell ⟨D, 0, none⟩ (.int .i64 (256 * x0 + x1))).setCell ⟨D, 1, none⟩ (.int .i64 (16777216 * x2 + 65536 * x3 + 256 * x4 + x5))) = J2 at *
      refine wpAnyH_done (by kernel_rfl) ?_ _
      refine NoPanic.normal ?_
      clear hHeld
      clear r0 r1 r2 r3 r4 r5 t0 t1 t2 t3 t4 t5 t6 t7
      obtain ⟨A, hA⟩ : ∃ A, 256 * x0 + x1 = A := ⟨_, rfl⟩
      obtain ⟨C, hCC⟩ : ∃ C, 16777216 * x2 + 65536 * x3 + 256 * x4 + x5 = C := ⟨_, rfl⟩
      rw [hA, hCC] at HNum U7 ⊢
      clear hA hCC
      obtain ⟨z0, z1⟩ := U7.out.2.2.2.cells
      simp only at z0 z1
      have HRw2 := HRw.out ⟨A, C⟩
      unfold nv at HRw2
      cases hw : okN ⟨A, C⟩ with
      | false =>
        rw [hw] at HRw2
        have HRw3 := Bx.mk HRw2
        clear HRw2
        have hE := HErr.out
        rw [HNum.out, hw] at hE
        have hC : nrC (ys, 0) = Nn.zero := by unfold nrC; rw [hE]; simp
        rw [hC] at U7
        rw [hE, hC]
        clear hE hC hw
        simp only [Nn.zero, Bool.false_eq_true, if_false]
        go_wp2_with fail
        refine (HRw3.out _).mono ?_
        rintro e u3 ⟨rfl, hb⟩
        have U3 : Bx (BoxN 24 u2.heap.size Nn.zero u3 ∧ True ∧ Below w.heap.size w u3) := Bx.mk ⟨U7.out.1.later hb, trivial, U7.out.2.2.1.trans (hb.mono U7.out.2.2.1.size)⟩
        clear hb U7 z0 z1
        go_wp2_with fail
        refine (HKn.out _).mono ?_
        rintro e u4 ⟨rfl, hb⟩
        have U4 := Bx.mk (And.intro (U3.out.1.later hb) (U3.out.2.2.trans (hb.mono U3.out.2.2.size)))
        clear hb U3
        obtain ⟨y0, y1⟩ := U4.out.1.cells
        simp only [Nn.zero] at y0 y1
        go_wp2
        go_ret
        exact ⟨rfl, U4.out.2⟩
      | true =>
        rw [hw] at HRw2
        have HRw3 := Bx.mk HRw2
        clear HRw2
        have hE := HErr.out
        rw [HNum.out, hw] at hE
        have hC : nrC (ys, 0) = ⟨A, C⟩ := by unfold nrC; rw [hE]; rw [if_pos rfl, if_pos rfl]; exact HNum.out
        rw [hC] at U7
        rw [hE, hC]
        clear hE hC hw
        simp only [if_true]
        go_wp2_with fail
        refine (HRw3.out _).mono ?_
        rintro e u3 ⟨rfl, hb⟩
        have U8 := Bx.mk (And.intro (U7.out.1.later hb) (And.intro (U7.out.2.1.later hb) (And.intro (U7.out.2.2.1.trans (hb.mono U7.out.2.2.1.size)) (U7.out.2.2.2.later hb))))
        clear hb U7 z0 z1
        have HOfw := Bx.mk (HOf.out ⟨A, C⟩)
        unfold nv at HOfw
        have hs6 : IntKind.i64.wrap ((m : Int) - 6) = (m : Int) - 6 := by simp [IntKind.wrap_i64]; omega
        have HLf := Bx.mk fun (W : World) (h : IsR W q1 (ys.drop 6) 0) => left_any q1 (ys.drop 6) 0 W h
        rw [show (((ys.drop 6).length : Nat) : Int) = (m : Int) - 6 by rw [List.length_drop, HM.out.1]; omega] at HLf
        go_upto_region 19 with fail
        have UD := Bx.mk (And.intro (U8.out.1.later (Below.refl _ _).drew) (And.intro (U8.out.2.1.later (Below.refl _ _).drew) (And.intro U8.out.2.2.1.drew (U8.out.2.2.2.later (Below.refl _ _).drew))))
        refine wp_region_noPanic ?_
        refine wp_region_held_drew (S := fun W => W.rangeAt u2.heap.size 0 [.int .i64 A, .int .i64 C] ∧ W.rangeAt D 0 [.int .i64 A, .int .i64 C]) (by kernel_rfl) (⟨UD.out.1.range, UD.out.2.2.2.range⟩) (fun hHeld => ?_)
        have T0 := UD
        clear UD U8
        generalize u3.drew = L0 at *
        refine stepL 0 (by kernel_rfl) rfl (fun K hK => ?_)
        go_simp
        refine (HKn.out L0).mono ?_
        rintro e L1 ⟨rfl, hb⟩
        show K _ _
        have T1 := Bx.mk (And.intro (T0.out.1.later hb) (And.intro (T0.out.2.1.later hb) (And.intro (T0.out.2.2.1.trans (hb.mono T0.out.2.2.1.size)) (T0.out.2.2.2.later hb))))
        clear hb T0
        refine hK.out _ _ (⟨T1.out.1.range, T1.out.2.2.2.range⟩) (fun hHeld => ?_)
        clear hK K
        try simp only [Act.put, List.setIfInBounds_toArray, List.set_cons_zero, List.set_cons_succ]
        refine takeL 1 (v := ?_) rfl (by kernel_rfl) (by kernel_rfl) (by kernel_rfl) (fun _ _ _ h => h) (Or.inl ⟨by rfl, ?_⟩) hHeld ?_
        rotate_left 1
        · (intro w hSw; go_simp; try with_reducible rfl)
        try simp only [Act.put, List.setIfInBounds_toArray, List.set_cons_zero, List.set_cons_succ]
        refine takeL 2 (v := ?_) rfl (by kernel_rfl) (by kernel_rfl) (by kernel_rfl) (fun _ _ _ h => h) (Or.inl ⟨by rfl, ?_⟩) hHeld ?_
        rotate_left 1
        · (intro w hSw; go_simp; try with_reducible rfl)
        try simp only [Act.put, List.setIfInBounds_toArray, List.set_cons_zero, List.set_cons_succ]
        refine takeL 3 (v := ?_) rfl (by kernel_rfl) (by kernel_rfl) (by kernel_rfl) (fun _ _ _ h => h) (Or.inl ⟨by rfl, ?_⟩) hHeld ?_
        rotate_left 1
        · (intro w hSw; go_simp; try with_reducible rfl)
        try simp only [Act.put, List.setIfInBounds_toArray, List.set_cons_zero, List.set_cons_succ]
        refine takeL 4 (v := ?_) rfl (by kernel_rfl) (by kernel_rfl) (by kernel_rfl) (fun _ _ _ h => h) (Or.inl ⟨by rfl, ?_⟩) hHeld ?_
        rotate_left 1
        · (intro w hSw; go_simp; try with_reducible rfl)
        try simp only [Act.put, List.setIfInBounds_toArray, List.set_cons_zero, List.set_cons_succ]
        refine takeL 5 (v := ?_) rfl (by kernel_rfl) (by kernel_rfl) (by kernel_rfl) (fun _ _ _ h => h) (Or.inl ⟨by rfl, ?_⟩) hHeld ?_
        rotate_left 1
        · (intro w hSw; go_simp; try with_reducible rfl)
        try simp only [Act.put, List.setIfInBounds_toArray, List.set_cons_zero, List.set_cons_succ]
        refine takeL 6 rfl (by kernel_rfl) (by kernel_rfl) (by kernel_rfl) (fun _ _ _ h => h) (yieldsIf_load_mid (by rfl) _ _ rfl _ _ rfl _ _ (fun w hSw => hSw.1) Try.underlying24 rfl (by kernel_rfl)) hHeld ?_
        try simp only [Act.put, List.setIfInBounds_toArray, List.set_cons_zero, List.set_cons_succ]
        refine takeL 8 rfl (by kernel_rfl) (by kernel_rfl) (by kernel_rfl) (fun _ _ _ h => h) (yieldsIf_load_mid (by rfl) _ _ rfl _ _ rfl _ _ (fun w hSw => hSw.2) Try.underlying29 rfl (by kernel_rfl)) hHeld ?_
        try simp only [Act.put, List.setIfInBounds_toArray, List.set_cons_zero, List.set_cons_succ]
        refine stepL 7 (by kernel_rfl) rfl (fun K hK => ?_)
        go_simp
        refine (HOfw.out L1).mono ?_
        rintro e L2 ⟨rfl, hb⟩
        show K _ _
        have T2 := Bx.mk (And.intro (T1.out.1.later hb) (And.intro (T1.out.2.1.later hb) (And.intro (T1.out.2.2.1.trans (hb.mono T1.out.2.2.1.size)) (T1.out.2.2.2.later hb))))
        clear hb T1
        refine hK.out _ _ (⟨T2.out.1.range, T2.out.2.2.2.range⟩) (fun hHeld => ?_)
        clear hK K
        try simp only [Act.put, List.setIfInBounds_toArray, List.set_cons_zero, List.set_cons_succ]
        refine takeL 9 (v := ?_) rfl (by kernel_rfl) (by kernel_rfl) (by kernel_rfl) (fun _ _ _ h => h) (Or.inl ⟨by rfl, ?_⟩) hHeld ?_
        rotate_left 1
        · (intro w hSw; go_simp; try with_reducible rfl)
        try simp only [Act.put, List.setIfInBounds_toArray, List.set_cons_zero, List.set_cons_succ]
        refine takeL 10 (v := ?_) rfl (by kernel_rfl) (by kernel_rfl) (by kernel_rfl) (fun _ _ _ h => h) (Or.inl ⟨by rfl, ?_⟩) hHeld ?_
        rotate_left 1
        · (intro w hSw; go_simp; try with_reducible rfl)
        try simp only [Act.put, List.setIfInBounds_toArray, List.set_cons_zero, List.set_cons_succ]
        refine takeL 11 (v := ?_) rfl (by kernel_rfl) (by kernel_rfl) (by kernel_rfl) (fun _ _ _ h => h) (Or.inl ⟨by rfl, ?_⟩) hHeld ?_
        rotate_left 1
        · (intro w hSw; go_simp; try with_reducible rfl)
        try simp only [Act.put, List.setIfInBounds_toArray, List.set_cons_zero, List.set_cons_succ]
        refine takeL 12 (v := ?_) rfl (by kernel_rfl) (by kernel_rfl) (by kernel_rfl) (fun _ _ _ h => h) (Or.inl ⟨by rfl, ?_⟩) hHeld ?_
        rotate_left 1
        · (intro w hSw; go_simp; try with_reducible rfl)
        try simp only [Act.put, List.setIfInBounds_toArray, List.set_cons_zero, List.set_cons_succ]
        refine takeL 14 (v := ?_) rfl (by kernel_rfl) (by kernel_rfl) (by kernel_rfl) (fun _ _ _ h => h) (Or.inl ⟨by rfl, ?_⟩) hHeld ?_
        rotate_left 1
        · (intro w hSw; go_simp; try with_reducible rfl)
        try simp only [Act.put, List.setIfInBounds_toArray, List.set_cons_zero, List.set_cons_succ]
        refine takeL 15 (v := ?_) rfl (by kernel_rfl) (by kernel_rfl) (by kernel_rfl) (fun _ _ _ h => h) (Or.inl ⟨by rfl, ?_⟩) hHeld ?_
        rotate_left 1
        · (intro w hSw; go_simp; try with_reducible rfl)
        try simp only [Act.put, List.setIfInBounds_toArray, List.set_cons_zero, List.set_cons_succ]
        refine takeL 16 (v := ?_) rfl (by kernel_rfl) (by kernel_rfl) (by kernel_rfl) (fun _ _ _ h => h) (Or.inl ⟨by rfl, ?_⟩) hHeld ?_
        rotate_left 1
        · (intro w hSw; go_simp; try with_reducible rfl)
        try simp only [Act.put, List.setIfInBounds_toArray, List.set_cons_zero, List.set_cons_succ]
        refine stepL 13 (by kernel_rfl) rfl (fun K hK => ?_)
        go_simp
        refine (HLf.out L2 T2.out.2.1).mono ?_
        rintro e L3 ⟨rfl, hWW⟩
        show K _ _
        have T3 := T2
        rw [← hWW] at T3
        clear hWW T2
        refine hK.out _ _ (⟨T3.out.1.range, T3.out.2.2.2.range⟩) (fun hHeld => ?_)
        clear hK K
        try simp only [Act.put, List.setIfInBounds_toArray, List.set_cons_zero, List.set_cons_succ]
        refine takeL 17 (v := ?_) rfl (by kernel_rfl) (by kernel_rfl) (by kernel_rfl) (fun _ _ _ h => h) (Or.inl ⟨by rfl, ?_⟩) hHeld ?_
        rotate_left 1
        · (intro w hSw; go_simp; try with_reducible rfl)
        try simp only [Act.put, List.setIfInBounds_toArray, List.set_cons_zero, List.set_cons_succ]
        refine takeL 18 (v := ?_) rfl (by kernel_rfl) (by kernel_rfl) (by kernel_rfl) (fun _ _ _ h => h) (Or.inl ⟨by rfl, ?_⟩) hHeld ?_
        rotate_left 1
        · (intro w hSw; go_simp; try with_reducible rfl)
        try simp only [Act.put, List.setIfInBounds_toArray, List.set_cons_zero, List.set_cons_succ]
        refine takeL 19 (v := ?_) rfl (by kernel_rfl) (by kernel_rfl) (by kernel_rfl) (fun _ _ _ h => h) (Or.inl ⟨by rfl, ?_⟩) hHeld ?_
        rotate_left 1
        · (intro w hSw; go_simp; try with_reducible rfl)
        try simp only [Act.put, List.setIfInBounds_toArray, List.set_cons_zero, List.set_cons_succ]
        refine wpAnyH_done (by kernel_rfl) ?_ _
        refine NoPanic.normal ?_
        clear hHeld
        go_wp2
        go_ret
        exact ⟨rfl, T3.out.2.2.1⟩
  | false =>
    rw [hlo] at HLs HRl
    clear hlo
    go_upto_region 3 with fail
    have RD := Bx.mk (And.intro (R2.out.1.later (Below.refl _ _).drew) (R2.out.2.later (Below.refl _ _).drew))
    refine wp_region_noPanic ?_
    refine wp_region_held_drew (S := fun W => W.rangeAt w.heap.size 0 [.int .i64 b, .int .i64 c] ∧ W.rangeAt (w.heap.size + 1) 0 [.int .i64 d, .int .i64 g]) (by kernel_rfl) (⟨RD.out.1.x.range, RD.out.1.y.range⟩) (fun hHeld => ?_)
    have Z0 := RD
    clear RD R2
    generalize w2.drew = W0 at *
    refine takeL 0 rfl (by kernel_rfl) (by kernel_rfl) (by kernel_rfl) (fun _ _ _ h => h) (yieldsIf_load_mid (by rfl) _ _ rfl _ _ rfl _ _ (fun w hSw => hSw.1) Try.underlying29 rfl (by kernel_rfl)) hHeld ?_
    try simp only [Act.put, List.setIfInBounds_toArray, List.set_cons_zero, List.set_cons_succ]
    refine takeL 2 (v := ?_) rfl (by kernel_rfl) (by kernel_rfl) (by kernel_rfl) (fun _ _ _ h => h) (Or.inl ⟨by rfl, ?_⟩) hHeld ?_
    rotate_left 1
    · (intro w hSw; go_simp; try with_reducible rfl)
    try simp only [Act.put, List.setIfInBounds_toArray, List.set_cons_zero, List.set_cons_succ]
    refine takeL 3 (v := ?_) rfl (by kernel_rfl) (by kernel_rfl) (by kernel_rfl) (fun _ _ _ h => h) (Or.inl ⟨by rfl, ?_⟩) hHeld ?_
    rotate_left 1
    · (intro w hSw; go_simp; try with_reducible rfl)
    try simp only [Act.put, List.setIfInBounds_toArray, List.set_cons_zero, List.set_cons_succ]
    refine stepL 1 (by kernel_rfl) rfl (fun K hK => ?_)
    go_simp
    refine (HRi.out W0).mono ?_
    rintro e W1 ⟨rfl, hb⟩
    show K _ _
    have R1 := Bx.mk (And.intro (Z0.out.1.later hb) (Z0.out.2.later hb))
    clear hb Z0
    refine hK.out _ _ (⟨R1.out.1.x.range, R1.out.1.y.range⟩) (fun hHeld => ?_)
    clear hK K
    try simp only [Act.put, List.setIfInBounds_toArray, List.set_cons_zero, List.set_cons_succ]
    refine takeL 4 (v := ?_) rfl (by kernel_rfl) (by kernel_rfl) (by kernel_rfl) (fun _ _ _ h => h) (Or.inl ⟨by rfl, ?_⟩) hHeld ?_
    rotate_left 1
    · (intro w hSw; go_simp; try with_reducible rfl)
    try simp only [Act.put, List.setIfInBounds_toArray, List.set_cons_zero, List.set_cons_succ]
    refine takeL 5 (v := ?_) rfl (by kernel_rfl) (by kernel_rfl) (by kernel_rfl) (fun _ _ _ h => h) (Or.inl ⟨by rfl, ?_⟩) hHeld ?_
    rotate_left 1
    · (intro w hSw; go_simp; try with_reducible rfl)
    try simp only [Act.put, List.setIfInBounds_toArray, List.set_cons_zero, List.set_cons_succ]
    refine takeL 6 rfl (by kernel_rfl) (by kernel_rfl) (by kernel_rfl) (fun _ _ _ h => h) (yieldsIf_load_mid (by rfl) _ _ rfl _ _ rfl _ _ (fun w hSw => hSw.1) Try.underlying29 rfl (by kernel_rfl)) hHeld ?_
    try simp only [Act.put, List.setIfInBounds_toArray, List.set_cons_zero, List.set_cons_succ]
    refine takeL 10 rfl (by kernel_rfl) (by kernel_rfl) (by kernel_rfl) (fun _ _ _ h => h) (yieldsIf_load_mid (by rfl) _ _ rfl _ _ rfl _ _ (fun w hSw => hSw.1) Try.underlying29 rfl (by kernel_rfl)) hHeld ?_
    try simp only [Act.put, List.setIfInBounds_toArray, List.set_cons_zero, List.set_cons_succ]
    refine stepL 7 (by kernel_rfl) rfl (fun K hK => ?_)
    go_simp
    refine (HT1.out W1).mono ?_
    rintro e W2 ⟨rfl, hb⟩
    show K _ _
    have R2 := Bx.mk (And.intro (R1.out.1.later hb) (R1.out.2.later hb))
    clear hb R1
    refine hK.out _ _ (⟨R2.out.1.x.range, R2.out.1.y.range⟩) (fun hHeld => ?_)
    clear hK K
    try simp only [Act.put, List.setIfInBounds_toArray, List.set_cons_zero, List.set_cons_succ]
    refine stepL 8 (by kernel_rfl) rfl (fun K hK => ?_)
    go_simp
    refine (HCh.out W2).mono ?_
    rintro e W3 ⟨rfl, hb⟩
    show K _ _
    have R3 := Bx.mk (And.intro (R2.out.1.later hb) (R2.out.2.later hb))
    clear hb R2
    refine hK.out _ _ (⟨R3.out.1.x.range, R3.out.1.y.range⟩) (fun hHeld => ?_)
    clear hK K
    try simp only [Act.put, List.setIfInBounds_toArray, List.set_cons_zero, List.set_cons_succ]
    refine takeL 9 (v := ?_) rfl (by kernel_rfl) (by kernel_rfl) (by kernel_rfl) (fun _ _ _ h => h) (Or.inl ⟨by rfl, ?_⟩) hHeld ?_
    rotate_left 1
    · (intro w hSw; go_simp; try with_reducible rfl)
    try simp only [Act.put, List.setIfInBounds_toArray, List.set_cons_zero, List.set_cons_succ]
    refine stepL 11 (by kernel_rfl) rfl (fun K hK => ?_)
    go_simp
    refine (HRi.out W3).mono ?_
    rintro e W4 ⟨rfl, hb⟩
    show K _ _
    have R4 := Bx.mk (And.intro (R3.out.1.later hb) (R3.out.2.later hb))
    clear hb R3
    refine hK.out _ _ (⟨R4.out.1.x.range, R4.out.1.y.range⟩) (fun hHeld => ?_)
    clear hK K
    try simp only [Act.put, List.setIfInBounds_toArray, List.set_cons_zero, List.set_cons_succ]
    refine takeL 12 (v := ?_) rfl (by kernel_rfl) (by kernel_rfl) (by kernel_rfl) (fun _ _ _ h => h) (Or.inl ⟨by rfl, ?_⟩) hHeld ?_
    rotate_left 1
    · (intro w hSw; go_simp; try with_reducible rfl)
    try simp only [Act.put, List.setIfInBounds_toArray, List.set_cons_zero, List.set_cons_succ]
    refine takeL 13 (v := ?_) rfl (by kernel_rfl) (by kernel_rfl) (by kernel_rfl) (fun _ _ _ h => h) (Or.inl ⟨by rfl, ?_⟩) hHeld ?_
    rotate_left 1
    · (intro w hSw; go_simp; try with_reducible rfl)
    try simp only [Act.put, List.setIfInBounds_toArray, List.set_cons_zero, List.set_cons_succ]
    refine takeL 14 (v := ?_) rfl (by kernel_rfl) (by kernel_rfl) (by kernel_rfl) (fun _ _ _ h => h) (Or.inl ⟨by rfl, ?_⟩) hHeld ?_
    rotate_left 1
    · (intro w hSw; go_simp; try with_reducible rfl)
    try simp only [Act.put, List.setIfInBounds_toArray, List.set_cons_zero, List.set_cons_succ]
    refine takeL 15 rfl (by kernel_rfl) (by kernel_rfl) (by kernel_rfl) (fun _ _ _ h => h) (yieldsIf_load_mid (by rfl) _ _ rfl _ _ rfl _ _ (fun w hSw => hSw.1) Try.underlying29 rfl (by kernel_rfl)) hHeld ?_
    try simp only [Act.put, List.setIfInBounds_toArray, List.set_cons_zero, List.set_cons_succ]
    refine takeL 17 rfl (by kernel_rfl) (by kernel_rfl) (by kernel_rfl) (fun _ _ _ h => h) (yieldsIf_load_mid (by rfl) _ _ rfl _ _ rfl _ _ (fun w hSw => hSw.2) Try.underlying29 rfl (by kernel_rfl)) hHeld ?_
    try simp only [Act.put, List.setIfInBounds_toArray, List.set_cons_zero, List.set_cons_succ]
    refine takeL 20 rfl (by kernel_rfl) (by kernel_rfl) (by kernel_rfl) (fun _ _ _ h => h) (yieldsIf_load_mid (by rfl) _ _ rfl _ _ rfl _ _ (fun w hSw => hSw.1) Try.underlying29 rfl (by kernel_rfl)) hHeld ?_
    try simp only [Act.put, List.setIfInBounds_toArray, List.set_cons_zero, List.set_cons_succ]
    refine takeL 21 rfl (by kernel_rfl) (by kernel_rfl) (by kernel_rfl) (fun _ _ _ h => h) (yieldsIf_load_mid (by rfl) _ _ rfl _ _ rfl _ _ (fun w hSw => hSw.2) Try.underlying29 rfl (by kernel_rfl)) hHeld ?_
    try simp only [Act.put, List.setIfInBounds_toArray, List.set_cons_zero, List.set_cons_succ]
    refine stepL 16 (by kernel_rfl) rfl (fun K hK => ?_)
    go_simp
    refine (HT1.out W4).mono ?_
    rintro e W5 ⟨rfl, hb⟩
    show K _ _
    have R5 := Bx.mk (And.intro (R4.out.1.later hb) (R4.out.2.later hb))
    clear hb R4
    refine hK.out _ _ (⟨R5.out.1.x.range, R5.out.1.y.range⟩) (fun hHeld => ?_)
    clear hK K
    try simp only [Act.put, List.setIfInBounds_toArray, List.set_cons_zero, List.set_cons_succ]
    refine stepL 18 (by kernel_rfl) rfl (fun K hK => ?_)
    go_simp
    refine (HT2.out W5).mono ?_
    rintro e W6 ⟨rfl, hb⟩
    show K _ _
    have R6 := Bx.mk (And.intro (R5.out.1.later hb) (R5.out.2.later hb))
    clear hb R5
    refine hK.out _ _ (⟨R6.out.1.x.range, R6.out.1.y.range⟩) (fun hHeld => ?_)
    clear hK K
    try simp only [Act.put, List.setIfInBounds_toArray, List.set_cons_zero, List.set_cons_succ]
    refine stepL 19 (by kernel_rfl) rfl (fun K hK => ?_)
    go_simp
    refine (HLs.out W6).mono ?_
    rintro e W7 ⟨rfl, hb⟩
    show K _ _
    have R7 := Bx.mk (And.intro (R6.out.1.later hb) (R6.out.2.later hb))
    clear hb R6
    refine hK.out _ _ (⟨R7.out.1.x.range, R7.out.1.y.range⟩) (fun hHeld => ?_)
    clear hK K
    try simp only [Act.put, List.setIfInBounds_toArray, List.set_cons_zero, List.set_cons_succ]
    refine stepL 22 (by kernel_rfl) rfl (fun K hK => ?_)
    go_simp
    refine (HRl.out W7).mono ?_
    rintro e W8 ⟨rfl, hb⟩
    show K _ _
    have R8 := Bx.mk (And.intro (R7.out.1.later hb) (R7.out.2.later hb))
    clear hb R7
    refine hK.out _ _ (⟨R8.out.1.x.range, R8.out.1.y.range⟩) (fun hHeld => ?_)
    clear hK K
    try simp only [Act.put, List.setIfInBounds_toArray, List.set_cons_zero, List.set_cons_succ]
    refine takeL 23 (v := ?_) rfl (by kernel_rfl) (by kernel_rfl) (by kernel_rfl) (fun _ _ _ h => h) (Or.inl ⟨by rfl, ?_⟩) hHeld ?_
    rotate_left 1
    · (intro w hSw; go_simp; try with_reducible rfl)
    try simp only [Act.put, List.setIfInBounds_toArray, List.set_cons_zero, List.set_cons_succ]
    refine takeL 24 (v := ?_) rfl (by kernel_rfl) (by kernel_rfl) (by kernel_rfl) (fun _ _ _ h => h) (Or.inl ⟨by rfl, ?_⟩) hHeld ?_
    rotate_left 1
    · (intro w hSw; go_simp; try with_reducible rfl)
    try simp only [Act.put, List.setIfInBounds_toArray, List.set_cons_zero, List.set_cons_succ]
    refine wpAnyH_done (by kernel_rfl) ?_ _
    refine NoPanic.normal ?_
    clear hHeld
    have RS := Bx.mk R8.out.1.bel
    clear R8
    have HY : Bx (Bytes W8 (.slice a0 m cap) ys) := Bx.mk (HV.out.later RS.out)
    go_wp2_with fail
    refine (new_ok ys _ W8 HY.out (by have := HM.out; omega)).mono ?_
    rintro e u1 ⟨rfl, hr, hb⟩
    have U1 : Bx (IsR u1 W8.heap.size ys 0 ∧ Below w.heap.size w u1 ∧ w.heap.size ≤ W8.heap.size) := Bx.mk ⟨hr, RS.out.trans (hb.mono RS.out.size), RS.out.size⟩
    clear hr hb RS HY
    generalize W8.heap.size = q1 at *
    go_wp2_with fail
    refine (nread_any q1 (ys, 0) u1 U1.out.1 (by have := HM.out; show ys.length ≤ 5000; omega)).mono ?_
    rintro e u2 ⟨rfl, hr, hg⟩
    have U2 : Bx (IsR u2 q1 (nrR (ys, 0)).1 (nrR (ys, 0)).2 ∧ Below w.heap.size w u2) := Bx.mk ⟨hr, U1.out.2.1.trans (grown_belowW hg U1.out.2.2 U1.out.2.1.size)⟩
    clear hr hg U1
    have U3 : Bx (BoxN 24 u2.heap.size (nrC (ys, 0)) (u2.alloc (.cells #[.int .i64 (nrC (ys, 0)).b, .int .i64 (nrC (ys, 0)).c] 24)) ∧ IsR (u2.alloc (.cells #[.int .i64 (nrC (ys, 0)).b, .int .i64 (nrC (ys, 0)).c] 24)) q1 (nrR (ys, 0)).1 (nrR (ys, 0)).2 ∧ Below w.heap.size w (u2.alloc (.cells #[.int .i64 (nrC (ys, 0)).b, .int .i64 (nrC (ys, 0)).c] 24))) := Bx.mk ⟨hnew _ _ _ rfl, U2.out.1.later (below_a _), U2.out.2.trans ((below_a _).mono U2.out.2.size)⟩
    clear U2
    unfold nv
    by_cases h6 : m < 6
    · have h6i : (m : Int) < 6 := by omega
      obtain ⟨hE, hC⟩ := nr_short ys (by rw [HM.out.1]; exact h6)
      rw [hE, hC]
      rw [hC] at U3
      clear hE hC h6
      simp only [Nn.zero]
      go_wp2_with fail
      refine (HKn.out _).mono ?_
      rintro e u4 ⟨rfl, hb⟩
      have U4 := Bx.mk (And.intro (U3.out.1.later hb) (U3.out.2.2.trans (hb.mono U3.out.2.2.size)))
      clear hb U3
      obtain ⟨y0, y1⟩ := U4.out.1.cells
      simp only [Nn.zero] at y0 y1
      go_wp2
      go_ret
      exact ⟨rfl, U4.out.2⟩
    · have h6i : ¬ (m : Int) < 6 := by omega
      have hl6 : 6 ≤ ys.length := by rw [HM.out.1]; omega
      have HNum := Bx.mk (nr_num ys hl6)
      have HErr := Bx.mk (nr_err ys hl6)
      have HRr := Bx.mk (nr_long ys hl6).2
      obtain ⟨cb, ob, ha, -⟩ := HV.out.cell 0 (by omega)
      subst ha
      have HY : Bx (Bytes (u2.alloc (.cells #[.int .i64 (nrC (ys, 0)).b, .int .i64 (nrC (ys, 0)).c] 24)) (.slice (some ⟨cb, ob, none⟩) m cap) ys) := Bx.mk (HV.out.later U3.out.2.2)
      have m1 : (0 : Int) < (m : Int) := by omega
      have m2 : (1 : Int) < (m : Int) := by omega
      have m3 : (2 : Int) < (m : Int) := by omega
      have m4 : (3 : Int) < (m : Int) := by omega
      have m5 : (4 : Int) < (m : Int) := by omega
      have m6 : (5 : Int) < (m : Int) := by omega
      have p1 : 0 < m := by omega
      have p2 : 1 < m := by omega
      have p3 : 2 < m := by omega
      have p4 : 3 < m := by omega
      have p5 : 4 < m := by omega
      have p6 : 5 < m := by omega
      have hC6 := Bx.mk (bytes_six HY.out (by omega))
      have B0 := Bx.mk (And.intro (ub_nonneg (ys.getD 0 0)) (ub_le (ys.getD 0 0)))
      have B1 := Bx.mk (And.intro (ub_nonneg (ys.getD 1 0)) (ub_le (ys.getD 1 0)))
      have B2 := Bx.mk (And.intro (ub_nonneg (ys.getD 2 0)) (ub_le (ys.getD 2 0)))
      have B3 := Bx.mk (And.intro (ub_nonneg (ys.getD 3 0)) (ub_le (ys.getD 3 0)))
      have B4 := Bx.mk (And.intro (ub_nonneg (ys.getD 4 0)) (ub_le (ys.getD 4 0)))
      have B5 := Bx.mk (And.intro (ub_nonneg (ys.getD 5 0)) (ub_le (ys.getD 5 0)))
      go_upto_region 16 with fail
      have HC0 : Bx (∃ v, w.cell? ⟨cb, ob, none⟩ = some v) := Bx.mk ⟨_, (bytes_six HV.out (by omega)) 0 (by omega)⟩
      obtain ⟨vc0, hc0⟩ := HC0.out
      have HC0 := Bx.mk hc0
      clear hc0
      have H6 : Bx ((u2.alloc (.cells #[.int .i64 (nrC (ys, 0)).b, .int .i64 (nrC (ys, 0)).c] 24)).drew.cell? ⟨cb, ob, none⟩ = some (.int .u8 (ub (ys.getD 0 0))) ∧ (u2.alloc (.cells #[.int .i64 (nrC (ys, 0)).b, .int .i64 (nrC (ys, 0)).c] 24)).drew.cell? ⟨cb, ob + 1, none⟩ = some (.int .u8 (ub (ys.getD 1 0))) ∧ (u2.alloc (.cells #[.int .i64 (nrC (ys, 0)).b, .int .i64 (nrC (ys, 0)).c] 24)).drew.cell? ⟨cb, ob + 2, none⟩ = some (.int .u8 (ub (ys.getD 2 0))) ∧ (u2.alloc (.cells #[.int .i64 (nrC (ys, 0)).b, .int .i64 (nrC (ys, 0)).c] 24)).drew.cell? ⟨cb, ob + 3, none⟩ = some (.int .u8 (ub (ys.getD 3 0))) ∧ (u2.alloc (.cells #[.int .i64 (nrC (ys, 0)).b, .int .i64 (nrC (ys, 0)).c] 24)).drew.cell? ⟨cb, ob + 4, none⟩ = some (.int .u8 (ub (ys.getD 4 0))) ∧ (u2.alloc (.cells #[.int .i64 (nrC (ys, 0)).b, .int .i64 (nrC (ys, 0)).c] 24)).drew.cell? ⟨cb, ob + 5, none⟩ = some (.int .u8 (ub (ys.getD 5 0)))) := Bx.mk ⟨hC6.out 0 (by omega), hC6.out 1 (by omega), hC6.out 2 (by omega), hC6.out 3 (by omega), hC6.out 4 (by omega), hC6.out 5 (by omega)⟩
      have U5 : Bx (BoxN 24 u2.heap.size (nrC (ys, 0)) (u2.alloc (.cells #[.int .i64 (nrC (ys, 0)).b, .int .i64 (nrC (ys, 0)).c] 24)).drew ∧ IsR (u2.alloc (.cells #[.int .i64 (nrC (ys, 0)).b, .int .i64 (nrC (ys, 0)).c] 24)).drew q1 (nrR (ys, 0)).1 (nrR (ys, 0)).2 ∧ Below w.heap.size w (u2.alloc (.cells #[.int .i64 (nrC (ys, 0)).b, .int .i64 (nrC (ys, 0)).c] 24)).drew) := Bx.mk ⟨U3.out.1.later (Below.refl _ _).drew, U3.out.2.1.later (Below.refl _ _).drew, U3.out.2.2.drew⟩
      clear hC6 HY U3
      rw [HRr.out] at U5
      clear HRr
      generalize ub (ys.getD 0 0) = x0 at *
      generalize ub (ys.getD 1 0) = x1 at *
      generalize ub (ys.getD 2 0) = x2 at *
      generalize ub (ys.getD 3 0) = x3 at *
      generalize ub (ys.getD 4 0) = x4 at *
      generalize ub (ys.getD 5 0) = x5 at *
      have HW : Bx (∀ z : Int, 0 ≤ z → z ≤ 9223372036854775807 → IntKind.i64.wrap z = z) := Bx.mk fun z h1 h2 => by simp [IntKind.wrap_i64]; omega
      have r0 := HW.out x0 (by have := B0.out; omega) (by have := B0.out; omega)
      have r1 := HW.out x1 (by have := B1.out; omega) (by have := B1.out; omega)
      have r2 := HW.out x2 (by have := B2.out; omega) (by have := B2.out; omega)
      have r3 := HW.out x3 (by have := B3.out; omega) (by have := B3.out; omega)
      have r4 := HW.out x4 (by have := B4.out; omega) (by have := B4.out; omega)
      have r5 := HW.out x5 (by have := B5.out; omega) (by have := B5.out; omega)
      have t0 := HW.out (256 * x0) (by have := B0.out; omega) (by have := B0.out; omega)
      have t1 := HW.out (256 * x0 + x1) (by have := B0.out; have := B1.out; omega) (by have := B0.out; have := B1.out; omega)
      have t2 := HW.out (16777216 * x2) (by have := B2.out; omega) (by have := B2.out; omega)
      have t3 := HW.out (65536 * x3) (by have := B3.out; omega) (by have := B3.out; omega)
      have t4 := HW.out (16777216 * x2 + 65536 * x3) (by have := B2.out; have := B3.out; omega) (by have := B2.out; have := B3.out; omega)
      have t5 := HW.out (256 * x4) (by have := B4.out; omega) (by have := B4.out; omega)
      have t6 := HW.out (16777216 * x2 + 65536 * x3 + 256 * x4) (by have := B2.out; have := B3.out; have := B4.out; omega) (by have := B2.out; have := B3.out; have := B4.out; omega)
      have t7 := HW.out (16777216 * x2 + 65536 * x3 + 256 * x4 + x5) (by have := B2.out; have := B3.out; have := B4.out; have := B5.out; omega) (by have := B2.out; have := B3.out; have := B4.out; have := B5.out; omega)
      clear h6
      refine wp_region_noPanic ?_
      refine wp_region_held_drew (S := fun W => W.cell? ⟨cb, ob, none⟩ = some (.int .u8 x0) ∧ W.cell? ⟨cb, ob + 1, none⟩ = some (.int .u8 x1) ∧ W.cell? ⟨cb, ob + 2, none⟩ = some (.int .u8 x2) ∧ W.cell? ⟨cb, ob + 3, none⟩ = some (.int .u8 x3) ∧ W.cell? ⟨cb, ob + 4, none⟩ = some (.int .u8 x4) ∧ W.cell? ⟨cb, ob + 5, none⟩ = some (.int .u8 x5)) (by kernel_rfl) (H6.out) (fun hHeld => ?_)
      generalize (u2.alloc (.cells #[.int .i64 (nrC (ys, 0)).b, .int .i64 (nrC (ys, 0)).c] 24)).drew = J0 at *
      refine takeL 0 (v := ?_) rfl (by kernel_rfl) (by kernel_rfl) (by kernel_rfl) (fun _ _ _ h => h) (Or.inl ⟨by rfl, ?_⟩) hHeld ?_
      rotate_left 1
      · (intro w hSw; go_simp; try with_reducible rfl)
      try simp only [Act.put, List.setIfInBounds_toArray, List.set_cons_zero, List.set_cons_succ]
      refine takeL 1 (v := ?_) rfl (by kernel_rfl) (by kernel_rfl) (by kernel_rfl) (fun _ _ _ h => h) (Or.inl ⟨by rfl, ?_⟩) hHeld ?_
      rotate_left 1
      · (intro w hSw; go_simp; try with_reducible rfl)
      try simp only [Act.put, List.setIfInBounds_toArray, List.set_cons_zero, List.set_cons_succ]
      refine takeL 2 (v := ?_) rfl (by kernel_rfl) (by kernel_rfl) (by kernel_rfl) (fun _ _ _ h => h) (Or.inl ⟨by rfl, ?_⟩) hHeld ?_
      rotate_left 1
      · (intro w hSw; obtain ⟨q0, q1', q2, q3, q4, q5⟩ := hSw; clear q1' q2 q3 q4 q5; go_simp; try with_reducible rfl)
      try simp only [Act.put, List.setIfInBounds_toArray, List.set_cons_zero, List.set_cons_succ]
      refine takeL 3 (v := ?_) rfl (by kernel_rfl) (by kernel_rfl) (by kernel_rfl) (fun _ _ _ h => h) (Or.inl ⟨by rfl, ?_⟩) hHeld ?_
      rotate_left 1
      · (intro w hSw; go_simp; try with_reducible rfl)
      try simp only [Act.put, List.setIfInBounds_toArray, List.set_cons_zero, List.set_cons_succ]
      refine takeL 4 (v := ?_) rfl (by kernel_rfl) (by kernel_rfl) (by kernel_rfl) (fun _ _ _ h => h) (Or.inl ⟨by rfl, ?_⟩) hHeld ?_
      rotate_left 1
      · (intro w hSw; go_simp; try with_reducible rfl)
      try simp only [Act.put, List.setIfInBounds_toArray, List.set_cons_zero, List.set_cons_succ]
      refine takeL 5 (v := ?_) rfl (by kernel_rfl) (by kernel_rfl) (by kernel_rfl) (fun _ _ _ h => h) (Or.inl ⟨by rfl, ?_⟩) hHeld ?_
      rotate_left 1
      · (intro w hSw; go_simp; try with_reducible rfl)
      try simp only [Act.put, List.setIfInBounds_toArray, List.set_cons_zero, List.set_cons_succ]
      refine takeL 6 (v := ?_) rfl (by kernel_rfl) (by kernel_rfl) (by kernel_rfl) (fun _ _ _ h => h) (Or.inl ⟨by rfl, ?_⟩) hHeld ?_
      rotate_left 1
      · (intro w hSw; go_simp; try with_reducible rfl)
      try simp only [Act.put, List.setIfInBounds_toArray, List.set_cons_zero, List.set_cons_succ]
      refine takeL 7 (v := ?_) rfl (by kernel_rfl) (by kernel_rfl) (by kernel_rfl) (fun _ _ _ h => h) (Or.inl ⟨by rfl, ?_⟩) hHeld ?_
      rotate_left 1
      · (intro w hSw; obtain ⟨q0, q1', q2, q3, q4, q5⟩ := hSw; clear q0 q2 q3 q4 q5; go_simp; try with_reducible rfl)
      try simp only [Act.put, List.setIfInBounds_toArray, List.set_cons_zero, List.set_cons_succ]
      refine takeL 8 (v := ?_) rfl (by kernel_rfl) (by kernel_rfl) (by kernel_rfl) (fun _ _ _ h => h) (Or.inl ⟨by rfl, ?_⟩) hHeld ?_
      rotate_left 1
      · (intro w hSw; go_simp; try with_reducible rfl)
      try simp only [Act.put, List.setIfInBounds_toArray, List.set_cons_zero, List.set_cons_succ]
      refine takeL 9 (v := ?_) rfl (by kernel_rfl) (by kernel_rfl) (by kernel_rfl) (fun _ _ _ h => h) (Or.inl ⟨by rfl, ?_⟩) hHeld ?_
      rotate_left 1
      · (intro w hSw; go_simp; try with_reducible rfl)
      try simp only [Act.put, List.setIfInBounds_toArray, List.set_cons_zero, List.set_cons_succ]
      refine takeL 10 (v := ?_) rfl (by kernel_rfl) (by kernel_rfl) (by kernel_rfl) (fun _ _ _ h => h) (Or.inl ⟨by rfl, ?_⟩) hHeld ?_
      rotate_left 1
      · (intro w hSw; go_simp; try with_reducible rfl)
      try simp only [Act.put, List.setIfInBounds_toArray, List.set_cons_zero, List.set_cons_succ]
      refine takeL 11 (v := ?_) rfl (by kernel_rfl) (by kernel_rfl) (by kernel_rfl) (fun _ _ _ h => h) (Or.inl ⟨by rfl, ?_⟩) hHeld ?_
      rotate_left 1
      · (intro w hSw; go_simp; try with_reducible rfl)
      try simp only [Act.put, List.setIfInBounds_toArray, List.set_cons_zero, List.set_cons_succ]
      refine takeL 12 (v := ?_) rfl (by kernel_rfl) (by kernel_rfl) (by kernel_rfl) (fun _ _ _ h => h) (Or.inl ⟨by rfl, ?_⟩) hHeld ?_
      rotate_left 1
      · (intro w hSw; obtain ⟨q0, q1', q2, q3, q4, q5⟩ := hSw; clear q0 q1' q3 q4 q5; go_simp; try with_reducible rfl)
      try simp only [Act.put, List.setIfInBounds_toArray, List.set_cons_zero, List.set_cons_succ]
      refine takeL 13 (v := ?_) rfl (by kernel_rfl) (by kernel_rfl) (by kernel_rfl) (fun _ _ _ h => h) (Or.inl ⟨by rfl, ?_⟩) hHeld ?_
      rotate_left 1
      · (intro w hSw; go_simp; try with_reducible rfl)
      try simp only [Act.put, List.setIfInBounds_toArray, List.set_cons_zero, List.set_cons_succ]
      refine takeL 14 (v := ?_) rfl (by kernel_rfl) (by kernel_rfl) (by kernel_rfl) (fun _ _ _ h => h) (Or.inl ⟨by rfl, ?_⟩) hHeld ?_
      rotate_left 1
      · (intro w hSw; go_simp; try with_reducible rfl)
      try simp only [Act.put, List.setIfInBounds_toArray, List.set_cons_zero, List.set_cons_succ]
      refine takeL 15 (v := ?_) rfl (by kernel_rfl) (by kernel_rfl) (by kernel_rfl) (fun _ _ _ h => h) (Or.inl ⟨by rfl, ?_⟩) hHeld ?_
      rotate_left 1
      · (intro w hSw; go_simp; try with_reducible rfl)
      try simp only [Act.put, List.setIfInBounds_toArray, List.set_cons_zero, List.set_cons_succ]
      refine takeL 16 (v := ?_) rfl (by kernel_rfl) (by kernel_rfl) (by kernel_rfl) (fun _ _ _ h => h) (Or.inl ⟨by rfl, ?_⟩) hHeld ?_
      rotate_left 1
      · (intro w hSw; go_simp; try with_reducible rfl)
      try simp only [Act.put, List.setIfInBounds_toArray, List.set_cons_zero, List.set_cons_succ]
      refine takeL 17 (v := ?_) rfl (by kernel_rfl) (by kernel_rfl) (by kernel_rfl) (fun _ _ _ h => h) (Or.inl ⟨by rfl, ?_⟩) hHeld ?_
      rotate_left 1
      · (intro w hSw; obtain ⟨q0, q1', q2, q3, q4, q5⟩ := hSw; clear q0 q1' q2 q4 q5; go_simp; try with_reducible rfl)
      try simp only [Act.put, List.setIfInBounds_toArray, List.set_cons_zero, List.set_cons_succ]
      refine takeL 18 (v := ?_) rfl (by kernel_rfl) (by kernel_rfl) (by kernel_rfl) (fun _ _ _ h => h) (Or.inl ⟨by rfl, ?_⟩) hHeld ?_
      rotate_left 1
      · (intro w hSw; go_simp; try with_reducible rfl)
      try simp only [Act.put, List.setIfInBounds_toArray, List.set_cons_zero, List.set_cons_succ]
      refine takeL 19 (v := ?_) rfl (by kernel_rfl) (by kernel_rfl) (by kernel_rfl) (fun _ _ _ h => h) (Or.inl ⟨by rfl, ?_⟩) hHeld ?_
      rotate_left 1
      · (intro w hSw; go_simp; try with_reducible rfl)
      try simp only [Act.put, List.setIfInBounds_toArray, List.set_cons_zero, List.set_cons_succ]
      refine takeL 20 (v := ?_) rfl (by kernel_rfl) (by kernel_rfl) (by kernel_rfl) (fun _ _ _ h => h) (Or.inl ⟨by rfl, ?_⟩) hHeld ?_
      rotate_left 1
      · (intro w hSw; go_simp; try with_reducible rfl)
      try simp only [Act.put, List.setIfInBounds_toArray, List.set_cons_zero, List.set_cons_succ]
      refine takeL 21 (v := ?_) rfl (by kernel_rfl) (by kernel_rfl) (by kernel_rfl) (fun _ _ _ h => h) (Or.inl ⟨by rfl, ?_⟩) hHeld ?_
      rotate_left 1
      · (intro w hSw; go_simp; try with_reducible rfl)
      try simp only [Act.put, List.setIfInBounds_toArray, List.set_cons_zero, List.set_cons_succ]
      refine takeL 22 (v := ?_) rfl (by kernel_rfl) (by kernel_rfl) (by kernel_rfl) (fun _ _ _ h => h) (Or.inl ⟨by rfl, ?_⟩) hHeld ?_
      rotate_left 1
      · (intro w hSw; go_simp; try with_reducible rfl)
      try simp only [Act.put, List.setIfInBounds_toArray, List.set_cons_zero, List.set_cons_succ]
      refine takeL 23 (v := ?_) rfl (by kernel_rfl) (by kernel_rfl) (by kernel_rfl) (fun _ _ _ h => h) (Or.inl ⟨by rfl, ?_⟩) hHeld ?_
      rotate_left 1
      · (intro w hSw; obtain ⟨q0, q1', q2, q3, q4, q5⟩ := hSw; clear q0 q1' q2 q3 q5; go_simp; try with_reducible rfl)
      try simp only [Act.put, List.setIfInBounds_toArray, List.set_cons_zero, List.set_cons_succ]
      refine takeL 24 (v := ?_) rfl (by kernel_rfl) (by kernel_rfl) (by kernel_rfl) (fun _ _ _ h => h) (Or.inl ⟨by rfl, ?_⟩) hHeld ?_
      rotate_left 1
      · (intro w hSw; go_simp; try with_reducible rfl)
      try simp only [Act.put, List.setIfInBounds_toArray, List.set_cons_zero, List.set_cons_succ]
      refine takeL 25 (v := ?_) rfl (by kernel_rfl) (by kernel_rfl) (by kernel_rfl) (fun _ _ _ h => h) (Or.inl ⟨by rfl, ?_⟩) hHeld ?_
      rotate_left 1
      · (intro w hSw; go_simp; try with_reducible rfl)
      try simp only [Act.put, List.setIfInBounds_toArray, List.set_cons_zero, List.set_cons_succ]
      refine takeL 26 (v := ?_) rfl (by kernel_rfl) (by kernel_rfl) (by kernel_rfl) (fun _ _ _ h => h) (Or.inl ⟨by rfl, ?_⟩) hHeld ?_
      rotate_left 1
      · (intro w hSw; go_simp; try with_reducible rfl)
      try simp only [Act.put, List.setIfInBounds_toArray, List.set_cons_zero, List.set_cons_succ]
      refine takeL 27 (v := ?_) rfl (by kernel_rfl) (by kernel_rfl) (by kernel_rfl) (fun _ _ _ h => h) (Or.inl ⟨by rfl, ?_⟩) hHeld ?_
      rotate_left 1
      · (intro w hSw; go_simp; try with_reducible rfl)
      try simp only [Act.put, List.setIfInBounds_toArray, List.set_cons_zero, List.set_cons_succ]
      refine takeL 28 (v := ?_) rfl (by kernel_rfl) (by kernel_rfl) (by kernel_rfl) (fun _ _ _ h => h) (Or.inl ⟨by rfl, ?_⟩) hHeld ?_
      rotate_left 1
      · (intro w hSw; go_simp; try with_reducible rfl)
      try simp only [Act.put, List.setIfInBounds_toArray, List.set_cons_zero, List.set_cons_succ]
      refine takeL 29 (v := ?_) rfl (by kernel_rfl) (by kernel_rfl) (by kernel_rfl) (fun _ _ _ h => h) (Or.inl ⟨by rfl, ?_⟩) hHeld ?_
      rotate_left 1
      · (intro w hSw; obtain ⟨q0, q1', q2, q3, q4, q5⟩ := hSw; clear q0 q1' q2 q3 q4; go_simp; try with_reducible rfl)
      try simp only [Act.put, List.setIfInBounds_toArray, List.set_cons_zero, List.set_cons_succ]
      refine takeL 30 (v := ?_) rfl (by kernel_rfl) (by kernel_rfl) (by kernel_rfl) (fun _ _ _ h => h) (Or.inl ⟨by rfl, ?_⟩) hHeld ?_
      rotate_left 1
      · (intro w hSw; go_simp; try with_reducible rfl)
      try simp only [Act.put, List.setIfInBounds_toArray, List.set_cons_zero, List.set_cons_succ]
      refine takeL 31 (v := ?_) rfl (by kernel_rfl) (by kernel_rfl) (by kernel_rfl) (fun _ _ _ h => h) (Or.inl ⟨by rfl, ?_⟩) hHeld ?_
      rotate_left 1
      · (intro w hSw; go_simp; try with_reducible rfl)
      try simp only [Act.put, List.setIfInBounds_toArray, List.set_cons_zero, List.set_cons_succ]
      refine takeL 32 rfl (by kernel_rfl) (by kernel_rfl) (by kernel_rfl) (fun _ _ _ h => h) (yieldsIf_build12 (by rfl) 29 _ rfl #[.int .i64 (256 * x0 + x1), .int .i64 (16777216 * x2 + 65536 * x3 + 256 * x4 + x5)] (by kernel_rfl)) hHeld ?_
      try simp only [Act.put, List.setIfInBounds_toArray, List.set_cons_zero, List.set_cons_succ]
      refine stepL 33 (by kernel_rfl) rfl (fun K hK => ?_)
      go_simp
      have U6 : Bx (BoxN 24 u2.heap.size (nrC (ys, 0)) (J0.alloc (.cells #[.int .i64 0, .int .i64 0] 29)) ∧ IsR (J0.alloc (.cells #[.int .i64 0, .int .i64 0] 29)) q1 (ys.drop 6) 0 ∧ Below w.heap.size w (J0.alloc (.cells #[.int .i64 0, .int .i64 0] 29)) ∧ BoxN 29 J0.heap.size Nn.zero (J0.alloc (.cells #[.int .i64 0, .int .i64 0] 29)) ∧ w.heap.size ≤ J0.heap.size ∧ J0.heap.size ≠ u2.heap.size ∧ q1 ≠ J0.heap.size) := Bx.mk ⟨U5.out.1.later (below_a _), U5.out.2.1.later (below_a _), U5.out.2.2.trans ((below_a _).mono U5.out.2.2.size), hnew _ _ _ rfl, U5.out.2.2.size, by have := U5.out.1.lt; omega, by have := U5.out.2.1.lt; omega⟩
      have H6 := Bx.mk (six_later H6.out (below_a (.cells #[.int .i64 0, .int .i64 0] 29)))
      refine hK.out _ _ H6.out (fun hHeld => ?_)
      clear hK K U5
      try simp only [Act.put, List.setIfInBounds_toArray, List.set_cons_zero, List.set_cons_succ]
      generalize J0.alloc (.cells #[.int .i64 0, .int .i64 0] 29) = J1 at *
      generalize J0.heap.size = D at *
      refine stepL 34 (by kernel_rfl) rfl (fun K hK => ?_)
      obtain ⟨z0, z1⟩ := U6.out.2.2.2.1.cells
      simp only [Nn.zero] at z0 z1
      have f0 := U6.out.2.2.2.1.frozen 0
      have f1 := U6.out.2.2.2.1.frozen 1
      have U7 : Bx (BoxN 24 u2.heap.size (nrC (ys, 0)) ((J1.setCell ⟨D, 0, none⟩ (.int .i64 (256 * x0 + x1))).setCell ⟨D, 1, none⟩ (.int .i64 (16777216 * x2 + 65536 * x3 + 256 * x4 + x5))) ∧ IsR ((J1.setCell ⟨D, 0, none⟩ (.int .i64 (256 * x0 + x1))).setCell ⟨D, 1, none⟩ (.int .i64 (16777216 * x2 + 65536 * x3 + 256 * x4 + x5))) q1 (ys.drop 6) 0 ∧ Below w.heap.size w ((J1.setCell ⟨D, 0, none⟩ (.int .i64 (256 * x0 + x1))).setCell ⟨D, 1, none⟩ (.int .i64 (16777216 * x2 + 65536 * x3 + 256 * x4 + x5))) ∧ BoxN 29 D ⟨256 * x0 + x1, 16777216 * x2 + 65536 * x3 + 256 * x4 + x5⟩ ((J1.setCell ⟨D, 0, none⟩ (.int .i64 (256 * x0 + x1))).setCell ⟨D, 1, none⟩ (.int .i64 (16777216 * x2 + 65536 * x3 + 256 * x4 + x5)))) := Bx.mk ⟨U6.out.1.aside (grown_set2 _ _ _ _) (fun e => U6.out.2.2.2.2.2.1 e.symm), U6.out.2.1.asideA U6.out.2.2.2.1 (two_off _ _) (grown_set2 _ _ _ _) U6.out.2.2.2.2.2.2, below_set2 U6.out.2.2.1 U6.out.2.2.2.2.1 _ _, U6.out.2.2.2.1.store _ _⟩
      have HcbD : Bx (cb ≠ D) := Bx.mk (by have h1 : cb < w.heap.size := World.block_lt_of_cell? _ _ HC0.out; have := U6.out.2.2.2.2.1; omega)
      have H7 : Bx (((J1.setCell ⟨D, 0, none⟩ (.int .i64 (256 * x0 + x1))).setCell ⟨D, 1, none⟩ (.int .i64 (16777216 * x2 + 65536 * x3 + 256 * x4 + x5))).cell? ⟨cb, ob, none⟩ = some (.int .u8 x0) ∧ ((J1.setCell ⟨D, 0, none⟩ (.int .i64 (256 * x0 + x1))).setCell ⟨D, 1, none⟩ (.int .i64 (16777216 * x2 + 65536 * x3 + 256 * x4 + x5))).cell? ⟨cb, ob + 1, none⟩ = some (.int .u8 x1) ∧ ((J1.setCell ⟨D, 0, none⟩ (.int .i64 (256 * x0 + x1))).setCell ⟨D, 1, none⟩ (.int .i64 (16777216 * x2 + 65536 * x3 + 256 * x4 + x5))).cell? ⟨cb, ob + 2, none⟩ = some (.int .u8 x2) ∧ ((J1.setCell ⟨D, 0, none⟩ (.int .i64 (256 * x0 + x1))).setCell ⟨D, 1, none⟩ (.int .i64 (16777216 * x2 + 65536 * x3 + 256 * x4 + x5))).cell? ⟨cb, ob + 3, none⟩ = some (.int .u8 x3) ∧ ((J1.setCell ⟨D, 0, none⟩ (.int .i64 (256 * x0 + x1))).setCell ⟨D, 1, none⟩ (.int .i64 (16777216 * x2 + 65536 * x3 + 256 * x4 + x5))).cell? ⟨cb, ob + 4, none⟩ = some (.int .u8 x4) ∧ ((J1.setCell ⟨D, 0, none⟩ (.int .i64 (256 * x0 + x1))).setCell ⟨D, 1, none⟩ (.int .i64 (16777216 * x2 + 65536 * x3 + 256 * x4 + x5))).cell? ⟨cb, ob + 5, none⟩ = some (.int .u8 x5)) := Bx.mk (six_aside H6.out (grown_set2 D J1 (.int .i64 (256 * x0 + x1)) (.int .i64 (16777216 * x2 + 65536 * x3 + 256 * x4 + x5))) HcbD.out)
      go_simp
      refine hK.out _ _ H7.out (fun hHeld => ?_)
      clear hK K z0 z1 f0 f1 U6 H6 H7
      try simp only [Act.put, List.setIfInBounds_toArray, List.set_cons_zero, List.set_cons_succ]
      generalize ((J1.setCell ⟨D, 0, none⟩ (.int .i64 (256 * x0 + x1))).setCell ⟨D, 1, none⟩ (.int .i64 (16777216 * x2 + 65536 * x3 + 256 * x4 + x5))) = J2 at *
      refine wpAnyH_done (by kernel_rfl) ?_ _
      refine NoPanic.normal ?_
      clear hHeld
      clear r0 r1 r2 r3 r4 r5 t0 t1 t2 t3 t4 t5 t6 t7
      obtain ⟨A, hA⟩ : ∃ A, 256 * x0 + x1 = A := ⟨_, rfl⟩
      obtain ⟨C, hCC⟩ : ∃ C, 16777216 * x2 + 65536 * x3 + 256 * x4 + x5 = C := ⟨_, rfl⟩
      rw [hA, hCC] at HNum U7 ⊢
      clear hA hCC
      obtain ⟨z0, z1⟩ := U7.out.2.2.2.cells
      simp only at z0 z1
      have HRw2 := HRw.out ⟨A, C⟩
      unfold nv at HRw2
      cases hw : okN ⟨A, C⟩ with
      | false =>
        rw [hw] at HRw2
        have HRw3 := Bx.mk HRw2
        clear HRw2
        have hE := HErr.out
        rw [HNum.out, hw] at hE
        have hC : nrC (ys, 0) = Nn.zero := by unfold nrC; rw [hE]; simp
        rw [hC] at U7
        rw [hE, hC]
        clear hE hC hw
        simp only [Nn.zero, Bool.false_eq_true, if_false]
        go_wp2_with fail
        refine (HRw3.out _).mono ?_
        rintro e u3 ⟨rfl, hb⟩
        have U3 : Bx (BoxN 24 u2.heap.size Nn.zero u3 ∧ True ∧ Below w.heap.size w u3) := Bx.mk ⟨U7.out.1.later hb, trivial, U7.out.2.2.1.trans (hb.mono U7.out.2.2.1.size)⟩
        clear hb U7 z0 z1
        go_wp2_with fail
        refine (HKn.out _).mono ?_
        rintro e u4 ⟨rfl, hb⟩
        have U4 := Bx.mk (And.intro (U3.out.1.later hb) (U3.out.2.2.trans (hb.mono U3.out.2.2.size)))
        clear hb U3
        obtain ⟨y0, y1⟩ := U4.out.1.cells
        simp only [Nn.zero] at y0 y1
        go_wp2
        go_ret
        exact ⟨rfl, U4.out.2⟩
      | true =>
        rw [hw] at HRw2
        have HRw3 := Bx.mk HRw2
        clear HRw2
        have hE := HErr.out
        rw [HNum.out, hw] at hE
        have hC : nrC (ys, 0) = ⟨A, C⟩ := by unfold nrC; rw [hE]; rw [if_pos rfl, if_pos rfl]; exact HNum.out
        rw [hC] at U7
        rw [hE, hC]
        clear hE hC hw
        simp only [if_true]
        go_wp2_with fail
        refine (HRw3.out _).mono ?_
        rintro e u3 ⟨rfl, hb⟩
        have U8 := Bx.mk (And.intro (U7.out.1.later hb) (And.intro (U7.out.2.1.later hb) (And.intro (U7.out.2.2.1.trans (hb.mono U7.out.2.2.1.size)) (U7.out.2.2.2.later hb))))
        clear hb U7 z0 z1
        have HOfw := Bx.mk (HOf.out ⟨A, C⟩)
        unfold nv at HOfw
        have hs6 : IntKind.i64.wrap ((m : Int) - 6) = (m : Int) - 6 := by simp [IntKind.wrap_i64]; omega
        have HLf := Bx.mk fun (W : World) (h : IsR W q1 (ys.drop 6) 0) => left_any q1 (ys.drop 6) 0 W h
        rw [show (((ys.drop 6).length : Nat) : Int) = (m : Int) - 6 by rw [List.length_drop, HM.out.1]; omega] at HLf
        go_upto_region 19 with fail
        have UD := Bx.mk (And.intro (U8.out.1.later (Below.refl _ _).drew) (And.intro (U8.out.2.1.later (Below.refl _ _).drew) (And.intro U8.out.2.2.1.drew (U8.out.2.2.2.later (Below.refl _ _).drew))))
        refine wp_region_noPanic ?_
        refine wp_region_held_drew (S := fun W => W.rangeAt u2.heap.size 0 [.int .i64 A, .int .i64 C] ∧ W.rangeAt D 0 [.int .i64 A, .int .i64 C]) (by kernel_rfl) (⟨UD.out.1.range, UD.out.2.2.2.range⟩) (fun hHeld => ?_)
        have T0 := UD
        clear UD U8
        generalize u3.drew = L0 at *
        refine stepL 0 (by kernel_rfl) rfl (fun K hK => ?_)
        go_simp
        refine (HKn.out L0).mono ?_
        rintro e L1 ⟨rfl, hb⟩
        show K _ _
        have T1 := Bx.mk (And.intro (T0.out.1.later hb) (And.intro (T0.out.2.1.later hb) (And.intro (T0.out.2.2.1.trans (hb.mono T0.out.2.2.1.size)) (T0.out.2.2.2.later hb))))
        clear hb T0
        refine hK.out _ _ (⟨T1.out.1.range, T1.out.2.2.2.range⟩) (fun hHeld => ?_)
        clear hK K
        try simp only [Act.put, List.setIfInBounds_toArray, List.set_cons_zero, List.set_cons_succ]
        refine takeL 1 (v := ?_) rfl (by kernel_rfl) (by kernel_rfl) (by kernel_rfl) (fun _ _ _ h => h) (Or.inl ⟨by rfl, ?_⟩) hHeld ?_
        rotate_left 1
        · (intro w hSw; go_simp; try with_reducible rfl)
        try simp only [Act.put, List.setIfInBounds_toArray, List.set_cons_zero, List.set_cons_succ]
        refine takeL 2 (v := ?_) rfl (by kernel_rfl) (by kernel_rfl) (by kernel_rfl) (fun _ _ _ h => h) (Or.inl ⟨by rfl, ?_⟩) hHeld ?_
        rotate_left 1
        · (intro w hSw; go_simp; try with_reducible rfl)
        try simp only [Act.put, List.setIfInBounds_toArray, List.set_cons_zero, List.set_cons_succ]
        refine takeL 3 (v := ?_) rfl (by kernel_rfl) (by kernel_rfl) (by kernel_rfl) (fun _ _ _ h => h) (Or.inl ⟨by rfl, ?_⟩) hHeld ?_
        rotate_left 1
        · (intro w hSw; go_simp; try with_reducible rfl)
        try simp only [Act.put, List.setIfInBounds_toArray, List.set_cons_zero, List.set_cons_succ]
        refine takeL 4 (v := ?_) rfl (by kernel_rfl) (by kernel_rfl) (by kernel_rfl) (fun _ _ _ h => h) (Or.inl ⟨by rfl, ?_⟩) hHeld ?_
        rotate_left 1
        · (intro w hSw; go_simp; try with_reducible rfl)
        try simp only [Act.put, List.setIfInBounds_toArray, List.set_cons_zero, List.set_cons_succ]
        refine takeL 5 (v := ?_) rfl (by kernel_rfl) (by kernel_rfl) (by kernel_rfl) (fun _ _ _ h => h) (Or.inl ⟨by rfl, ?_⟩) hHeld ?_
        rotate_left 1
        · (intro w hSw; go_simp; try with_reducible rfl)
        try simp only [Act.put, List.setIfInBounds_toArray, List.set_cons_zero, List.set_cons_succ]
        refine takeL 6 rfl (by kernel_rfl) (by kernel_rfl) (by kernel_rfl) (fun _ _ _ h => h) (yieldsIf_load_mid (by rfl) _ _ rfl _ _ rfl _ _ (fun w hSw => hSw.1) Try.underlying24 rfl (by kernel_rfl)) hHeld ?_
        try simp only [Act.put, List.setIfInBounds_toArray, List.set_cons_zero, List.set_cons_succ]
        refine takeL 8 rfl (by kernel_rfl) (by kernel_rfl) (by kernel_rfl) (fun _ _ _ h => h) (yieldsIf_load_mid (by rfl) _ _ rfl _ _ rfl _ _ (fun w hSw => hSw.2) Try.underlying29 rfl (by kernel_rfl)) hHeld ?_
        try simp only [Act.put, List.setIfInBounds_toArray, List.set_cons_zero, List.set_cons_succ]
        refine stepL 7 (by kernel_rfl) rfl (fun K hK => ?_)
        go_simp
        refine (HOfw.out L1).mono ?_
        rintro e L2 ⟨rfl, hb⟩
        show K _ _
        have T2 := Bx.mk (And.intro (T1.out.1.later hb) (And.intro (T1.out.2.1.later hb) (And.intro (T1.out.2.2.1.trans (hb.mono T1.out.2.2.1.size)) (T1.out.2.2.2.later hb))))
        clear hb T1
        refine hK.out _ _ (⟨T2.out.1.range, T2.out.2.2.2.range⟩) (fun hHeld => ?_)
        clear hK K
        try simp only [Act.put, List.setIfInBounds_toArray, List.set_cons_zero, List.set_cons_succ]
        refine takeL 9 (v := ?_) rfl (by kernel_rfl) (by kernel_rfl) (by kernel_rfl) (fun _ _ _ h => h) (Or.inl ⟨by rfl, ?_⟩) hHeld ?_
        rotate_left 1
        · (intro w hSw; go_simp; try with_reducible rfl)
        try simp only [Act.put, List.setIfInBounds_toArray, List.set_cons_zero, List.set_cons_succ]
        refine takeL 10 (v := ?_) rfl (by kernel_rfl) (by kernel_rfl) (by kernel_rfl) (fun _ _ _ h => h) (Or.inl ⟨by rfl, ?_⟩) hHeld ?_
        rotate_left 1
        · (intro w hSw; go_simp; try with_reducible rfl)
        try simp only [Act.put, List.setIfInBounds_toArray, List.set_cons_zero, List.set_cons_succ]
        refine takeL 11 (v := ?_) rfl (by kernel_rfl) (by kernel_rfl) (by kernel_rfl) (fun _ _ _ h => h) (Or.inl ⟨by rfl, ?_⟩) hHeld ?_
        rotate_left 1
        · (intro w hSw; go_simp; try with_reducible rfl)
        try simp only [Act.put, List.setIfInBounds_toArray, List.set_cons_zero, List.set_cons_succ]
        refine takeL 12 (v := ?_) rfl (by kernel_rfl) (by kernel_rfl) (by kernel_rfl) (fun _ _ _ h => h) (Or.inl ⟨by rfl, ?_⟩) hHeld ?_
        rotate_left 1
        · (intro w hSw; go_simp; try with_reducible rfl)
        try simp only [Act.put, List.setIfInBounds_toArray, List.set_cons_zero, List.set_cons_succ]
        refine takeL 14 (v := ?_) rfl (by kernel_rfl) (by kernel_rfl) (by kernel_rfl) (fun _ _ _ h => h) (Or.inl ⟨by rfl, ?_⟩) hHeld ?_
        rotate_left 1
        · (intro w hSw; go_simp; try with_reducible rfl)
        try simp only [Act.put, List.setIfInBounds_toArray, List.set_cons_zero, List.set_cons_succ]
        refine takeL 15 (v := ?_) rfl (by kernel_rfl) (by kernel_rfl) (by kernel_rfl) (fun _ _ _ h => h) (Or.inl ⟨by rfl, ?_⟩) hHeld ?_
        rotate_left 1
        · (intro w hSw; go_simp; try with_reducible rfl)
        try simp only [Act.put, List.setIfInBounds_toArray, List.set_cons_zero, List.set_cons_succ]
        refine takeL 16 (v := ?_) rfl (by kernel_rfl) (by kernel_rfl) (by kernel_rfl) (fun _ _ _ h => h) (Or.inl ⟨by rfl, ?_⟩) hHeld ?_
        rotate_left 1
        · (intro w hSw; go_simp; try with_reducible rfl)
        try simp only [Act.put, List.setIfInBounds_toArray, List.set_cons_zero, List.set_cons_succ]
        refine stepL 13 (by kernel_rfl) rfl (fun K hK => ?_)
        go_simp
        refine (HLf.out L2 T2.out.2.1).mono ?_
        rintro e L3 ⟨rfl, hWW⟩
        show K _ _
        have T3 := T2
        rw [← hWW] at T3
        clear hWW T2
        refine hK.out _ _ (⟨T3.out.1.range, T3.out.2.2.2.range⟩) (fun hHeld => ?_)
        clear hK K
        try simp only [Act.put, List.setIfInBounds_toArray, List.set_cons_zero, List.set_cons_succ]
        refine takeL 17 (v := ?_) rfl (by kernel_rfl) (by kernel_rfl) (by kernel_rfl) (fun _ _ _ h => h) (Or.inl ⟨by rfl, ?_⟩) hHeld ?_
        rotate_left 1
        · (intro w hSw; go_simp; try with_reducible rfl)
        try simp only [Act.put, List.setIfInBounds_toArray, List.set_cons_zero, List.set_cons_succ]
        refine takeL 18 (v := ?_) rfl (by kernel_rfl) (by kernel_rfl) (by kernel_rfl) (fun _ _ _ h => h) (Or.inl ⟨by rfl, ?_⟩) hHeld ?_
        rotate_left 1
        · (intro w hSw; go_simp; try with_reducible rfl)
        try simp only [Act.put, List.setIfInBounds_toArray, List.set_cons_zero, List.set_cons_succ]
        refine takeL 19 (v := ?_) rfl (by kernel_rfl) (by kernel_rfl) (by kernel_rfl) (fun _ _ _ h => h) (Or.inl ⟨by rfl, ?_⟩) hHeld ?_
        rotate_left 1
        · (intro w hSw; go_simp; try with_reducible rfl)
        try simp only [Act.put, List.setIfInBounds_toArray, List.set_cons_zero, List.set_cons_succ]
        refine wpAnyH_done (by kernel_rfl) ?_ _
        refine NoPanic.normal ?_
        clear hHeld
        go_wp2
        go_ret
        exact ⟨rfl, T3.out.2.2.1⟩
theorem wbytes_all (n o : Nn) (bs : List UInt8) (v2 : Value) (w : World) (hv : Bytes w v2 bs) (hbl : bs.length ≤ 9223372036854775807) :
    Calls Try.prog 6 #[nv n, nv o, v2] w fun e w' => e = .returned (.bool true) ∧ Below w.heap.size w w' := by
  cases hok : okN n with
  | true => exact wbytes_ok n o bs v2 w hv hbl hok
  | false => exact wbytes_bad n o bs v2 w hv hbl hok
end Go.Proofs.Ytoohcjdjmafliaa
