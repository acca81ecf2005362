/-
  The document's head of a packet.
-/
import Derived.Test.YtaoekfomffebhaaDoorP6
namespace Go.Proofs.YtaoekfomffebhaaDoor
open Go Go.ChangeShapes Go.WideShapes Go.ChangeAt Go.RowKit
theorem own_one14 (W : World) (x : UInt8) (base : Nat) (h : base ≤ W.heap.size) : OwnB (W.alloc (.cells #[.int .u8 (ub x)] 5)) base (.slice (some ⟨W.heap.size, 0, none⟩) 1 1) [x] :=
  ⟨rfl, .inr ⟨W.heap.size, 1, _, rfl, h, hnew _ _ _ rfl, Nat.le_refl _, by simp only [maxLen]; omega, rfl, rfl⟩⟩
theorem PB.own {w : World} {B : Nat} {T : TypeId} {x : Pk} {v u : Value} {l : List UInt8} {W W1 : World} (h : PB w B T x v W) (ho : OwnB W (B + 1) u l) (hg : W.grownBy W1 u.ownBlock) : PB w B T x v W1 := by
  have hb := own_below ho hg (by have := h.lt; omega)
  exact ⟨(hb.block B (by omega)).trans h.row, h.below.trans (hb.mono (by omega))⟩
set_option maxRecDepth 100000 in
set_option maxHeartbeats 4000000 in
theorem two14 (n : Int) (w : World) (h0 : 0 ≤ n) (h1 : n ≤ 65535) : Calls Tryd.prog 54 #[.int .i64 n] w fun e w' => ∃ v, e = .returned v ∧ OwnB w' w.heap.size v (beN 2 n.toNat) ∧ Below w.heap.size w w' := by
  have K := Bx.mk (chk_num2 1 n (by omega) (by omega) h0 (by unfold most; simp; omega))
  have E : Bx (enc (fNum 1 n) = beN 2 n.toNat) := Bx.mk (enc_num2 1 n (by omega))
  go_enter Tryd.func54, Tryd.ntmps54
  go_wp2_with fail
  refine (rout_any (fNum 1 n) _ w ⟨_, rfl, Bytes.nil _⟩ K.out).mono ?_
  rintro e w1 ⟨v1, rfl, ho1, hb1⟩
  rw [E.out] at ho1
  have H := Bx.mk (And.intro ho1 hb1)
  clear ho1 hb1
  go_wp2
  go_ret
  exact ⟨_, rfl, H.out.1, H.out.2⟩
set_option maxRecDepth 100000 in
set_option maxHeartbeats 4000000 in
theorem four14 (n : Int) (w : World) (h0 : 0 ≤ n) (h1 : n ≤ 4294967295) : Calls Tryd.prog 55 #[.int .i64 n] w fun e w' => ∃ v, e = .returned v ∧ OwnB w' w.heap.size v (beN 4 n.toNat) ∧ Below w.heap.size w w' := by
  have K := Bx.mk (chk_num2 2 n (by omega) (by omega) h0 (by unfold most; simp; omega))
  have E : Bx (enc (fNum 2 n) = beN 4 n.toNat) := Bx.mk (enc_num2 2 n (by omega))
  go_enter Tryd.func55, Tryd.ntmps55
  go_wp2_with fail
  refine (rout_any (fNum 2 n) _ w ⟨_, rfl, Bytes.nil _⟩ K.out).mono ?_
  rintro e w1 ⟨v1, rfl, ho1, hb1⟩
  rw [E.out] at ho1
  have H := Bx.mk (And.intro ho1 hb1)
  clear ho1 hb1
  go_wp2
  go_ret
  exact ⟨_, rfl, H.out.1, H.out.2⟩
theorem two14n (n : Nat) (w : World) (h1 : n ≤ 65535) : Calls Tryd.prog 54 #[.int .i64 (n : Int)] w fun e w' => ∃ v, e = .returned v ∧ OwnB w' w.heap.size v (beN 2 n) ∧ Below w.heap.size w w' := by
  have h := two14 (n : Int) w (by omega) (by omega)
  rw [Int.toNat_natCast] at h
  exact h
set_option maxRecDepth 100000 in
set_option maxHeartbeats 4000000 in
theorem rhead14 (x : Pk) (v : Value) (w : World) (ht : x.t.length = 32) (hb : Bytes w v x.b) (hc : chkP x = 0) : Calls Tryd.prog 36 #[pkV x v] w fun e w' => ∃ u, e = .returned u ∧ OwnB w' w.heap.size u (hdB x) ∧ Below w.heap.size w w' := by
  obtain ⟨a0, c0, rfl, -, -⟩ := bytes_form hb
  obtain ⟨B, hB⟩ : ∃ B, w.heap.size = B := ⟨_, rfl⟩
  have H0 := Bx.mk (PB.new hB 29 x (.slice a0 x.b.length c0))
  have HBy : Bx (∀ W, Below B w W → Bytes W (.slice a0 x.b.length c0) x.b) := Bx.mk fun W h => hb.old hB h
  obtain ⟨tk, htk⟩ : ∃ tk, pkC x (.slice a0 x.b.length c0) = tk := ⟨_, rfl⟩
  unfold pkV
  rw [htk]
  have H0 : Bx (PB w B 29 x (.slice a0 x.b.length c0) (w.alloc (.cells tk 29))) := by rw [← htk]; exact H0
  rw [hB]
  obtain ⟨g1, g2, g3, g4, g5, -⟩ := chkP_ok hc
  have HG := Bx.mk (And.intro ((kindB_iff _).1 g1) (And.intro g2 (And.intro ((placeB_iff _).1 g3) (And.intro ((okN_iff _).1 g4) g5))))
  have hbl : (x.b.length : Int) ≤ 512 := by omega
  obtain ⟨rb, hrb⟩ : ∃ rb, UInt8.ofNat (x.k.toNat % 256) = rb := ⟨_, rfl⟩
  have hw8 : IntKind.u8.wrap x.k = ub rb := by rw [← hrb, ub_nat, IntWalk.u8_in _ (by have := HG.out.1; omega)]; have := HG.out.1; omega
  have HRB : Bx (beN 1 x.k.toNat = [rb]) := Bx.mk (by rw [← hrb]; simp [beN])
  obtain ⟨hd, hhd⟩ : ∃ hd, hdB x = hd := ⟨_, rfl⟩
  have HHD : Bx (hd = [rb] ++ clB x.c ++ beN 2 x.to.toNat ++ beN 2 x.n.b.toNat ++ beN 4 x.n.c.toNat ++ beN 2 x.b.length ++ x.b) := Bx.mk (by rw [← hhd]; unfold hdB; rw [HRB.out]; simp [nB, List.append_assoc])
  rw [hhd]
  clear hrb hc g1 g2 g3 g4 g5 hb htk HRB hhd
  go_enter Tryd.func36, Tryd.ntmps36
  go_upto_region 1 with fail
  generalize w.alloc (.cells tk 29) = w0 at *
  have R0 := Bx.mk (And.intro (H0.out.later (Below.refl _ _).drew) True.intro)
  clear H0
  refine wp_region_noPanic ?_
  refine wp_region_held_drew (S := fun W => PkAt W B x (.slice a0 x.b.length c0)) (by kernel_rfl) (R0.out.1.at) (fun hHeld => ?_)
  generalize w0.drew = W0 at *
  refine takeL 0 (v := ?_) rfl (by kernel_rfl) (by kernel_rfl) (by kernel_rfl) (fun _ _ _ h => h) (Or.inl ⟨by rfl, ?_⟩) hHeld ?_
  rotate_left 1
  · (intro w hSw; go_simp; try with_reducible rfl)
  try simp only [Act.put, List.setIfInBounds_toArray, List.set_cons_zero, List.set_cons_succ]
  refine takeL 1 (v := ?_) rfl (by kernel_rfl) (by kernel_rfl) (by kernel_rfl) (fun _ _ _ h => h) (Or.inl ⟨by rfl, ?_⟩) hHeld ?_
  rotate_left 1
  · (intro w hSw; have q := hSw.k; clear hSw; go_simp; try with_reducible rfl)
  try simp only [Act.put, List.setIfInBounds_toArray, List.set_cons_zero, List.set_cons_succ]
  refine takeL 2 (v := ?_) rfl (by kernel_rfl) (by kernel_rfl) (by kernel_rfl) (fun _ _ _ h => h) (Or.inl ⟨by rfl, ?_⟩) hHeld ?_
  rotate_left 1
  · (intro w hSw; go_simp; try with_reducible rfl)
  try simp only [Act.put, List.setIfInBounds_toArray, List.set_cons_zero, List.set_cons_succ]
  refine takeL 4 (v := ?_) rfl (by kernel_rfl) (by kernel_rfl) (by kernel_rfl) (fun _ _ _ h => h) (Or.inl ⟨by rfl, ?_⟩) hHeld ?_
  rotate_left 1
  · (intro w hSw; go_simp; try with_reducible rfl)
  try simp only [Act.put, List.setIfInBounds_toArray, List.set_cons_zero, List.set_cons_succ]
  refine takeL 5 rfl (by kernel_rfl) (by kernel_rfl) (by kernel_rfl) (fun _ _ _ h => h) (yieldsIf_load_mid (by rfl) _ _ rfl _ _ rfl _ _ (fun w hSw => hSw.c) Tryd.underlying23 rfl (by kernel_rfl)) hHeld ?_
  try simp only [Act.put, List.setIfInBounds_toArray, List.set_cons_zero, List.set_cons_succ]
  refine wpAnyH_ready (rs := [3, 6]) (by kernel_rfl) (by simp) ?_
  refine consM 3 rfl (fun K hK => ?_) (consM 6 rfl (fun K hK => ?_) AllReadyH.nil)
  · go_simp
    show K _ _
    have hb := below_a (W := W0) (.cells #[.int .u8 (ub rb)] 5)
    have R1 := Bx.mk (And.intro (R0.out.1.later hb) (own_one14 W0 rb (B + 1) (by have := R0.out.1.lt; omega)))
    clear hb R0
    refine hK.out _ _ (R1.out.1.at) (fun hHeld => ?_)
    clear hK K
    try simp only [Act.put, List.setIfInBounds_toArray, List.set_cons_zero, List.set_cons_succ]
    generalize W0.alloc (.cells #[.int .u8 (ub rb)] 5) = W1 at *
    generalize W0.heap.size = G at *
    refine stepL 6 (by kernel_rfl) rfl (fun K hK => ?_)
    go_simp
    refine (rbytes_any x.c W1 HG.out.2.1).mono ?_
    rintro e W2 ⟨u2, rfl, ho, hb⟩
    show K _ _
    have R2 := Bx.mk (And.intro (R1.out.1.later hb) (And.intro (R1.out.2.later hb (fun g hg => (R1.out.2.lt g hg).1)) (ho.bytes)))
    obtain ⟨q2, k2, hv⟩ := own_form ho
    rw [clB_length] at hv
    subst hv
    clear hb ho R1
    refine hK.out _ _ (R2.out.1.at) (fun hHeld => ?_)
    clear hK K
    try simp only [Act.put, List.setIfInBounds_toArray, List.set_cons_zero, List.set_cons_succ]
    refine stepL 7 (by kernel_rfl) rfl (fun K hK => ?_)
    refine step_ap rfl _ _ rfl (B + 1) _ _ (by rfl) R2.out.2.1 _ _ (by rfl) R2.out.2.2 (by simp [clB_length]) (by have := R2.out.1.lt; omega) ?_
    intro u3 W3 ho hg _
    obtain ⟨l1, hl⟩ : ∃ l, [rb] ++ clB x.c = l := ⟨_, rfl⟩
    rw [hl] at ho
    have HEl1 := Bx.mk hl
    have HLl1 : Bx (l1.length ≤ 100) := Bx.mk (by rw [← hl]; simp [clB_length])
    clear hl
    have R3 := Bx.mk (And.intro (R2.out.1.own R2.out.2.1 hg) ho)
    obtain ⟨q3, k3, hv⟩ := own_form ho
    subst hv
    clear ho hg R2
    refine hK.out _ _ (R3.out.1.at) (fun hHeld => ?_)
    clear hK K
    try simp only [Act.put, List.setIfInBounds_toArray, List.set_cons_zero, List.set_cons_succ]
    refine takeL 8 (v := ?_) rfl (by kernel_rfl) (by kernel_rfl) (by kernel_rfl) (fun _ _ _ h => h) (Or.inl ⟨by rfl, ?_⟩) hHeld ?_
    rotate_left 1
    · (intro w hSw; go_simp; try with_reducible rfl)
    try simp only [Act.put, List.setIfInBounds_toArray, List.set_cons_zero, List.set_cons_succ]
    refine wpAnyH_done (by kernel_rfl) ?_ _
    refine NoPanic.normal ?_
    clear hHeld
    go_upto_region 2 with fail
    have hb := (Below.refl W3.heap.size W3).drew
    have R4 := Bx.mk (And.intro (R3.out.1.later hb) (R3.out.2.later hb (fun g hg => (R3.out.2.lt g hg).1)))
    clear hb R3
    refine wp_region_noPanic ?_
    refine wp_region_held_drew (S := fun W => PkAt W B x (.slice a0 x.b.length c0)) (by kernel_rfl) (R4.out.1.at) (fun hHeld => ?_)
    generalize W3.drew = W4 at *
    refine takeL 0 (v := ?_) rfl (by kernel_rfl) (by kernel_rfl) (by kernel_rfl) (fun _ _ _ h => h) (Or.inl ⟨by rfl, ?_⟩) hHeld ?_
    rotate_left 1
    · (intro w hSw; go_simp; try with_reducible rfl)
    try simp only [Act.put, List.setIfInBounds_toArray, List.set_cons_zero, List.set_cons_succ]
    refine takeL 1 (v := ?_) rfl (by kernel_rfl) (by kernel_rfl) (by kernel_rfl) (fun _ _ _ h => h) (Or.inl ⟨by rfl, ?_⟩) hHeld ?_
    rotate_left 1
    · (intro w hSw; go_simp; try with_reducible rfl)
    try simp only [Act.put, List.setIfInBounds_toArray, List.set_cons_zero, List.set_cons_succ]
    refine takeL 2 (v := ?_) rfl (by kernel_rfl) (by kernel_rfl) (by kernel_rfl) (fun _ _ _ h => h) (Or.inl ⟨by rfl, ?_⟩) hHeld ?_
    rotate_left 1
    · (intro w hSw; have q := hSw.to; clear hSw; go_simp; try with_reducible rfl)
    try simp only [Act.put, List.setIfInBounds_toArray, List.set_cons_zero, List.set_cons_succ]
    refine takeL 5 (v := ?_) rfl (by kernel_rfl) (by kernel_rfl) (by kernel_rfl) (fun _ _ _ h => h) (Or.inl ⟨by rfl, ?_⟩) hHeld ?_
    rotate_left 1
    · (intro w hSw; go_simp; try with_reducible rfl)
    try simp only [Act.put, List.setIfInBounds_toArray, List.set_cons_zero, List.set_cons_succ]
    refine takeL 6 (v := ?_) rfl (by kernel_rfl) (by kernel_rfl) (by kernel_rfl) (fun _ _ _ h => h) (Or.inl ⟨by rfl, ?_⟩) hHeld ?_
    rotate_left 1
    · (intro w hSw; go_simp; try with_reducible rfl)
    try simp only [Act.put, List.setIfInBounds_toArray, List.set_cons_zero, List.set_cons_succ]
    refine takeL 7 (v := ?_) rfl (by kernel_rfl) (by kernel_rfl) (by kernel_rfl) (fun _ _ _ h => h) (Or.inl ⟨by rfl, ?_⟩) hHeld ?_
    rotate_left 1
    · (intro w hSw; have q := hSw.n0; clear hSw; go_simp; try with_reducible rfl)
    try simp only [Act.put, List.setIfInBounds_toArray, List.set_cons_zero, List.set_cons_succ]
    refine stepL 3 (by kernel_rfl) rfl (fun K hK => ?_)
    go_simp
    refine (two14 x.to W4 (by have := HG.out.2.2.1; omega) (by have := HG.out.2.2.1; omega)).mono ?_
    rintro e W5 ⟨u5, rfl, ho, hb⟩
    show K _ _
    have R5 := Bx.mk (And.intro (R4.out.1.later hb) (And.intro (R4.out.2.later hb (fun g hg => (R4.out.2.lt g hg).1)) (ho.bytes)))
    obtain ⟨q5, k5, hv⟩ := own_form ho
    rw [beN_length] at hv
    subst hv
    clear hb ho R4
    refine hK.out _ _ (R5.out.1.at) (fun hHeld => ?_)
    clear hK K
    try simp only [Act.put, List.setIfInBounds_toArray, List.set_cons_zero, List.set_cons_succ]
    refine stepL 4 (by kernel_rfl) rfl (fun K hK => ?_)
    refine step_ap rfl _ _ rfl (B + 1) _ _ (by rfl) R5.out.2.1 _ _ (by rfl) R5.out.2.2 (by have := HLl1.out; simp [beN_length]; omega) (by have := R5.out.1.lt; omega) ?_
    intro u6 W6 ho hg _
    obtain ⟨l2, hl⟩ : ∃ l, l1 ++ beN 2 x.to.toNat = l := ⟨_, rfl⟩
    rw [hl] at ho
    have HEl2 := Bx.mk hl
    have HLl2 : Bx (l2.length ≤ 200) := Bx.mk (by rw [← hl]; have := HLl1.out; simp [beN_length]; omega)
    clear hl
    have R6 := Bx.mk (And.intro (R5.out.1.own R5.out.2.1 hg) ho)
    obtain ⟨q6, k6, hv⟩ := own_form ho
    subst hv
    clear ho hg R5
    refine hK.out _ _ (R6.out.1.at) (fun hHeld => ?_)
    clear hK K
    try simp only [Act.put, List.setIfInBounds_toArray, List.set_cons_zero, List.set_cons_succ]
    refine stepL 8 (by kernel_rfl) rfl (fun K hK => ?_)
    go_simp
    refine (two14 x.n.b W6 (by have := HG.out.2.2.2.1; omega) (by have := HG.out.2.2.2.1; omega)).mono ?_
    rintro e W7 ⟨u7, rfl, ho, hb⟩
    show K _ _
    have R7 := Bx.mk (And.intro (R6.out.1.later hb) (And.intro (R6.out.2.later hb (fun g hg => (R6.out.2.lt g hg).1)) (ho.bytes)))
    obtain ⟨q7, k7, hv⟩ := own_form ho
    rw [beN_length] at hv
    subst hv
    clear hb ho R6
    refine hK.out _ _ (R7.out.1.at) (fun hHeld => ?_)
    clear hK K
    try simp only [Act.put, List.setIfInBounds_toArray, List.set_cons_zero, List.set_cons_succ]
    refine stepL 9 (by kernel_rfl) rfl (fun K hK => ?_)
    refine step_ap rfl _ _ rfl (B + 1) _ _ (by rfl) R7.out.2.1 _ _ (by rfl) R7.out.2.2 (by have := HLl2.out; simp [beN_length]; omega) (by have := R7.out.1.lt; omega) ?_
    intro u8 W8 ho hg _
    obtain ⟨l3, hl⟩ : ∃ l, l2 ++ beN 2 x.n.b.toNat = l := ⟨_, rfl⟩
    rw [hl] at ho
    have HEl3 := Bx.mk hl
    have HLl3 : Bx (l3.length ≤ 300) := Bx.mk (by rw [← hl]; have := HLl2.out; simp [beN_length]; omega)
    clear hl
    have R8 := Bx.mk (And.intro (R7.out.1.own R7.out.2.1 hg) ho)
    obtain ⟨q8, k8, hv⟩ := own_form ho
    subst hv
    clear ho hg R7
    refine hK.out _ _ (R8.out.1.at) (fun hHeld => ?_)
    clear hK K
    try simp only [Act.put, List.setIfInBounds_toArray, List.set_cons_zero, List.set_cons_succ]
    refine takeL 10 (v := ?_) rfl (by kernel_rfl) (by kernel_rfl) (by kernel_rfl) (fun _ _ _ h => h) (Or.inl ⟨by rfl, ?_⟩) hHeld ?_
    rotate_left 1
    · (intro w hSw; go_simp; try with_reducible rfl)
    try simp only [Act.put, List.setIfInBounds_toArray, List.set_cons_zero, List.set_cons_succ]
    refine wpAnyH_done (by kernel_rfl) ?_ _
    refine NoPanic.normal ?_
    clear hHeld
    go_upto_region 3 with fail
    have hb := (Below.refl W8.heap.size W8).drew
    have R9 := Bx.mk (And.intro (R8.out.1.later hb) (R8.out.2.later hb (fun g hg => (R8.out.2.lt g hg).1)))
    clear hb R8
    refine wp_region_noPanic ?_
    refine wp_region_held_drew (S := fun W => PkAt W B x (.slice a0 x.b.length c0)) (by kernel_rfl) (R9.out.1.at) (fun hHeld => ?_)
    generalize W8.drew = W9 at *
    refine takeL 0 (v := ?_) rfl (by kernel_rfl) (by kernel_rfl) (by kernel_rfl) (fun _ _ _ h => h) (Or.inl ⟨by rfl, ?_⟩) hHeld ?_
    rotate_left 1
    · (intro w hSw; go_simp; try with_reducible rfl)
    try simp only [Act.put, List.setIfInBounds_toArray, List.set_cons_zero, List.set_cons_succ]
    refine takeL 1 (v := ?_) rfl (by kernel_rfl) (by kernel_rfl) (by kernel_rfl) (fun _ _ _ h => h) (Or.inl ⟨by rfl, ?_⟩) hHeld ?_
    rotate_left 1
    · (intro w hSw; go_simp; try with_reducible rfl)
    try simp only [Act.put, List.setIfInBounds_toArray, List.set_cons_zero, List.set_cons_succ]
    refine takeL 2 (v := ?_) rfl (by kernel_rfl) (by kernel_rfl) (by kernel_rfl) (fun _ _ _ h => h) (Or.inl ⟨by rfl, ?_⟩) hHeld ?_
    rotate_left 1
    · (intro w hSw; go_simp; try with_reducible rfl)
    try simp only [Act.put, List.setIfInBounds_toArray, List.set_cons_zero, List.set_cons_succ]
    refine takeL 3 (v := ?_) rfl (by kernel_rfl) (by kernel_rfl) (by kernel_rfl) (fun _ _ _ h => h) (Or.inl ⟨by rfl, ?_⟩) hHeld ?_
    rotate_left 1
    · (intro w hSw; have q := hSw.n1; clear hSw; go_simp; try with_reducible rfl)
    try simp only [Act.put, List.setIfInBounds_toArray, List.set_cons_zero, List.set_cons_succ]
    refine takeL 6 (v := ?_) rfl (by kernel_rfl) (by kernel_rfl) (by kernel_rfl) (fun _ _ _ h => h) (Or.inl ⟨by rfl, ?_⟩) hHeld ?_
    rotate_left 1
    · (intro w hSw; go_simp; try with_reducible rfl)
    try simp only [Act.put, List.setIfInBounds_toArray, List.set_cons_zero, List.set_cons_succ]
    refine takeL 7 (v := ?_) rfl (by kernel_rfl) (by kernel_rfl) (by kernel_rfl) (fun _ _ _ h => h) (Or.inl ⟨by rfl, ?_⟩) hHeld ?_
    rotate_left 1
    · (intro w hSw; have q := hSw.b; clear hSw; go_simp; try with_reducible rfl)
    try simp only [Act.put, List.setIfInBounds_toArray, List.set_cons_zero, List.set_cons_succ]
    refine takeL 8 (v := ?_) rfl (by kernel_rfl) (by kernel_rfl) (by kernel_rfl) (fun _ _ _ h => h) (Or.inl ⟨by rfl, ?_⟩) hHeld ?_
    rotate_left 1
    · (intro w hSw; go_simp; try with_reducible rfl)
    try simp only [Act.put, List.setIfInBounds_toArray, List.set_cons_zero, List.set_cons_succ]
    refine stepL 4 (by kernel_rfl) rfl (fun K hK => ?_)
    go_simp
    refine (four14 x.n.c W9 (by have := HG.out.2.2.2.1; omega) (by have := HG.out.2.2.2.1; omega)).mono ?_
    rintro e W10 ⟨u10, rfl, ho, hb⟩
    show K _ _
    have R10 := Bx.mk (And.intro (R9.out.1.later hb) (And.intro (R9.out.2.later hb (fun g hg => (R9.out.2.lt g hg).1)) (ho.bytes)))
    obtain ⟨q10, k10, hv⟩ := own_form ho
    rw [beN_length] at hv
    subst hv
    clear hb ho R9
    refine hK.out _ _ (R10.out.1.at) (fun hHeld => ?_)
    clear hK K
    try simp only [Act.put, List.setIfInBounds_toArray, List.set_cons_zero, List.set_cons_succ]
    refine stepL 5 (by kernel_rfl) rfl (fun K hK => ?_)
    refine step_ap rfl _ _ rfl (B + 1) _ _ (by rfl) R10.out.2.1 _ _ (by rfl) R10.out.2.2 (by have := HLl3.out; simp [beN_length]; omega) (by have := R10.out.1.lt; omega) ?_
    intro u11 W11 ho hg _
    obtain ⟨l4, hl⟩ : ∃ l, l3 ++ beN 4 x.n.c.toNat = l := ⟨_, rfl⟩
    rw [hl] at ho
    have HEl4 := Bx.mk hl
    have HLl4 : Bx (l4.length ≤ 400) := Bx.mk (by rw [← hl]; have := HLl3.out; simp [beN_length]; omega)
    clear hl
    have R11 := Bx.mk (And.intro (R10.out.1.own R10.out.2.1 hg) ho)
    obtain ⟨q11, k11, hv⟩ := own_form ho
    subst hv
    clear ho hg R10
    refine hK.out _ _ (R11.out.1.at) (fun hHeld => ?_)
    clear hK K
    try simp only [Act.put, List.setIfInBounds_toArray, List.set_cons_zero, List.set_cons_succ]
    refine stepL 9 (by kernel_rfl) rfl (fun K hK => ?_)
    go_simp
    refine (two14n x.b.length W11 (by have := HG.out.2.2.2.2; omega)).mono ?_
    rintro e W12 ⟨u12, rfl, ho, hb⟩
    show K _ _
    have R12 := Bx.mk (And.intro (R11.out.1.later hb) (And.intro (R11.out.2.later hb (fun g hg => (R11.out.2.lt g hg).1)) (ho.bytes)))
    obtain ⟨q12, k12, hv⟩ := own_form ho
    rw [beN_length] at hv
    subst hv
    clear hb ho R11
    refine hK.out _ _ (R12.out.1.at) (fun hHeld => ?_)
    clear hK K
    try simp only [Act.put, List.setIfInBounds_toArray, List.set_cons_zero, List.set_cons_succ]
    refine stepL 10 (by kernel_rfl) rfl (fun K hK => ?_)
    refine step_ap rfl _ _ rfl (B + 1) _ _ (by rfl) R12.out.2.1 _ _ (by rfl) R12.out.2.2 (by have := HLl4.out; simp [beN_length]; omega) (by have := R12.out.1.lt; omega) ?_
    intro u13 W13 ho hg _
    obtain ⟨l5, hl⟩ : ∃ l, l4 ++ beN 2 x.b.length = l := ⟨_, rfl⟩
    rw [hl] at ho
    have HEl5 := Bx.mk hl
    have HLl5 : Bx (l5.length ≤ 500) := Bx.mk (by rw [← hl]; have := HLl4.out; simp [beN_length]; omega)
    clear hl
    have R13 := Bx.mk (And.intro (R12.out.1.own R12.out.2.1 hg) ho)
    obtain ⟨q13, k13, hv⟩ := own_form ho
    subst hv
    clear ho hg R12
    refine hK.out _ _ (R13.out.1.at) (fun hHeld => ?_)
    clear hK K
    try simp only [Act.put, List.setIfInBounds_toArray, List.set_cons_zero, List.set_cons_succ]
    refine takeL 11 (v := ?_) rfl (by kernel_rfl) (by kernel_rfl) (by kernel_rfl) (fun _ _ _ h => h) (Or.inl ⟨by rfl, ?_⟩) hHeld ?_
    rotate_left 1
    · (intro w hSw; go_simp; try with_reducible rfl)
    try simp only [Act.put, List.setIfInBounds_toArray, List.set_cons_zero, List.set_cons_succ]
    refine wpAnyH_done (by kernel_rfl) ?_ _
    refine NoPanic.normal ?_
    clear hHeld
    skip
    have k8 := R13.out.1.at.b
    go_wp2_with (refine wpList_ap rfl _ _ rfl (B + 1) _ _ (by rfl) R13.out.2 _ _ (by rfl) (HBy.out _ R13.out.1.below) (by have := HLl5.out; have := HG.out.2.2.2.2; omega) (by have := R13.out.1.lt; omega) ?_; intro u99 W99 ho hg _; have R99 := Bx.mk (And.intro (R13.out.1.own R13.out.2 hg) ho); clear ho hg)
    go_ret
    refine ⟨_, rfl, ?_, R99.out.1.below⟩
    have hq := R99.out.2.weak (by omega : B ≤ B + 1)
    rw [← HEl5.out, ← HEl4.out, ← HEl3.out, ← HEl2.out, ← HEl1.out] at hq
    rw [HHD.out]
    exact hq
  · go_simp
    refine (rbytes_any x.c W0 HG.out.2.1).mono ?_
    rintro e W1 ⟨u1, rfl, ho, hb⟩
    show K _ _
    have R1 := Bx.mk (And.intro (R0.out.1.later hb) (ho.bytes))
    obtain ⟨q1, k1, hv⟩ := own_form ho
    rw [clB_length] at hv
    subst hv
    clear hb ho R0
    refine hK.out _ _ (R1.out.1.at) (fun hHeld => ?_)
    clear hK K
    try simp only [Act.put, List.setIfInBounds_toArray, List.set_cons_zero, List.set_cons_succ]
    refine stepL 3 (by kernel_rfl) rfl (fun K hK => ?_)
    go_simp
    show K _ _
    have hb := below_a (W := W1) (.cells #[.int .u8 (ub rb)] 5)
    have R2 := Bx.mk (And.intro (R1.out.1.later hb) (And.intro (R1.out.2.later hb) (own_one14 W1 rb (B + 1) (by have := R1.out.1.lt; omega))))
    clear hb R1
    refine hK.out _ _ (R2.out.1.at) (fun hHeld => ?_)
    clear hK K
    try simp only [Act.put, List.setIfInBounds_toArray, List.set_cons_zero, List.set_cons_succ]
    generalize W1.alloc (.cells #[.int .u8 (ub rb)] 5) = W2 at *
    generalize W1.heap.size = G at *
    refine stepL 7 (by kernel_rfl) rfl (fun K hK => ?_)
    refine step_ap rfl _ _ rfl (B + 1) _ _ (by rfl) R2.out.2.2 _ _ (by rfl) R2.out.2.1 (by simp [clB_length]) (by have := R2.out.1.lt; omega) ?_
    intro u3 W3 ho hg _
    obtain ⟨l1, hl⟩ : ∃ l, [rb] ++ clB x.c = l := ⟨_, rfl⟩
    rw [hl] at ho
    have HEl1 := Bx.mk hl
    have HLl1 : Bx (l1.length ≤ 100) := Bx.mk (by rw [← hl]; simp [clB_length])
    clear hl
    have R3 := Bx.mk (And.intro (R2.out.1.own R2.out.2.2 hg) ho)
    obtain ⟨q3, k3, hv⟩ := own_form ho
    subst hv
    clear ho hg R2
    refine hK.out _ _ (R3.out.1.at) (fun hHeld => ?_)
    clear hK K
    try simp only [Act.put, List.setIfInBounds_toArray, List.set_cons_zero, List.set_cons_succ]
    refine takeL 8 (v := ?_) rfl (by kernel_rfl) (by kernel_rfl) (by kernel_rfl) (fun _ _ _ h => h) (Or.inl ⟨by rfl, ?_⟩) hHeld ?_
    rotate_left 1
    · (intro w hSw; go_simp; try with_reducible rfl)
    try simp only [Act.put, List.setIfInBounds_toArray, List.set_cons_zero, List.set_cons_succ]
    refine wpAnyH_done (by kernel_rfl) ?_ _
    refine NoPanic.normal ?_
    clear hHeld
    go_upto_region 2 with fail
    have hb := (Below.refl W3.heap.size W3).drew
    have R4 := Bx.mk (And.intro (R3.out.1.later hb) (R3.out.2.later hb (fun g hg => (R3.out.2.lt g hg).1)))
    clear hb R3
    refine wp_region_noPanic ?_
    refine wp_region_held_drew (S := fun W => PkAt W B x (.slice a0 x.b.length c0)) (by kernel_rfl) (R4.out.1.at) (fun hHeld => ?_)
    generalize W3.drew = W4 at *
    refine takeL 0 (v := ?_) rfl (by kernel_rfl) (by kernel_rfl) (by kernel_rfl) (fun _ _ _ h => h) (Or.inl ⟨by rfl, ?_⟩) hHeld ?_
    rotate_left 1
    · (intro w hSw; go_simp; try with_reducible rfl)
    try simp only [Act.put, List.setIfInBounds_toArray, List.set_cons_zero, List.set_cons_succ]
    refine takeL 1 (v := ?_) rfl (by kernel_rfl) (by kernel_rfl) (by kernel_rfl) (fun _ _ _ h => h) (Or.inl ⟨by rfl, ?_⟩) hHeld ?_
    rotate_left 1
    · (intro w hSw; go_simp; try with_reducible rfl)
    try simp only [Act.put, List.setIfInBounds_toArray, List.set_cons_zero, List.set_cons_succ]
    refine takeL 2 (v := ?_) rfl (by kernel_rfl) (by kernel_rfl) (by kernel_rfl) (fun _ _ _ h => h) (Or.inl ⟨by rfl, ?_⟩) hHeld ?_
    rotate_left 1
    · (intro w hSw; have q := hSw.to; clear hSw; go_simp; try with_reducible rfl)
    try simp only [Act.put, List.setIfInBounds_toArray, List.set_cons_zero, List.set_cons_succ]
    refine takeL 5 (v := ?_) rfl (by kernel_rfl) (by kernel_rfl) (by kernel_rfl) (fun _ _ _ h => h) (Or.inl ⟨by rfl, ?_⟩) hHeld ?_
    rotate_left 1
    · (intro w hSw; go_simp; try with_reducible rfl)
    try simp only [Act.put, List.setIfInBounds_toArray, List.set_cons_zero, List.set_cons_succ]
    refine takeL 6 (v := ?_) rfl (by kernel_rfl) (by kernel_rfl) (by kernel_rfl) (fun _ _ _ h => h) (Or.inl ⟨by rfl, ?_⟩) hHeld ?_
    rotate_left 1
    · (intro w hSw; go_simp; try with_reducible rfl)
    try simp only [Act.put, List.setIfInBounds_toArray, List.set_cons_zero, List.set_cons_succ]
    refine takeL 7 (v := ?_) rfl (by kernel_rfl) (by kernel_rfl) (by kernel_rfl) (fun _ _ _ h => h) (Or.inl ⟨by rfl, ?_⟩) hHeld ?_
    rotate_left 1
    · (intro w hSw; have q := hSw.n0; clear hSw; go_simp; try with_reducible rfl)
    try simp only [Act.put, List.setIfInBounds_toArray, List.set_cons_zero, List.set_cons_succ]
    refine stepL 3 (by kernel_rfl) rfl (fun K hK => ?_)
    go_simp
    refine (two14 x.to W4 (by have := HG.out.2.2.1; omega) (by have := HG.out.2.2.1; omega)).mono ?_
    rintro e W5 ⟨u5, rfl, ho, hb⟩
    show K _ _
    have R5 := Bx.mk (And.intro (R4.out.1.later hb) (And.intro (R4.out.2.later hb (fun g hg => (R4.out.2.lt g hg).1)) (ho.bytes)))
    obtain ⟨q5, k5, hv⟩ := own_form ho
    rw [beN_length] at hv
    subst hv
    clear hb ho R4
    refine hK.out _ _ (R5.out.1.at) (fun hHeld => ?_)
    clear hK K
    try simp only [Act.put, List.setIfInBounds_toArray, List.set_cons_zero, List.set_cons_succ]
    refine stepL 4 (by kernel_rfl) rfl (fun K hK => ?_)
    refine step_ap rfl _ _ rfl (B + 1) _ _ (by rfl) R5.out.2.1 _ _ (by rfl) R5.out.2.2 (by have := HLl1.out; simp [beN_length]; omega) (by have := R5.out.1.lt; omega) ?_
    intro u6 W6 ho hg _
    obtain ⟨l2, hl⟩ : ∃ l, l1 ++ beN 2 x.to.toNat = l := ⟨_, rfl⟩
    rw [hl] at ho
    have HEl2 := Bx.mk hl
    have HLl2 : Bx (l2.length ≤ 200) := Bx.mk (by rw [← hl]; have := HLl1.out; simp [beN_length]; omega)
    clear hl
    have R6 := Bx.mk (And.intro (R5.out.1.own R5.out.2.1 hg) ho)
    obtain ⟨q6, k6, hv⟩ := own_form ho
    subst hv
    clear ho hg R5
    refine hK.out _ _ (R6.out.1.at) (fun hHeld => ?_)
    clear hK K
    try simp only [Act.put, List.setIfInBounds_toArray, List.set_cons_zero, List.set_cons_succ]
    refine stepL 8 (by kernel_rfl) rfl (fun K hK => ?_)
    go_simp
    refine (two14 x.n.b W6 (by have := HG.out.2.2.2.1; omega) (by have := HG.out.2.2.2.1; omega)).mono ?_
    rintro e W7 ⟨u7, rfl, ho, hb⟩
    show K _ _
    have R7 := Bx.mk (And.intro (R6.out.1.later hb) (And.intro (R6.out.2.later hb (fun g hg => (R6.out.2.lt g hg).1)) (ho.bytes)))
    obtain ⟨q7, k7, hv⟩ := own_form ho
    rw [beN_length] at hv
    subst hv
    clear hb ho R6
    refine hK.out _ _ (R7.out.1.at) (fun hHeld => ?_)
    clear hK K
    try simp only [Act.put, List.setIfInBounds_toArray, List.set_cons_zero, List.set_cons_succ]
    refine stepL 9 (by kernel_rfl) rfl (fun K hK => ?_)
    refine step_ap rfl _ _ rfl (B + 1) _ _ (by rfl) R7.out.2.1 _ _ (by rfl) R7.out.2.2 (by have := HLl2.out; simp [beN_length]; omega) (by have := R7.out.1.lt; omega) ?_
    intro u8 W8 ho hg _
    obtain ⟨l3, hl⟩ : ∃ l, l2 ++ beN 2 x.n.b.toNat = l := ⟨_, rfl⟩
    rw [hl] at ho
    have HEl3 := Bx.mk hl
    have HLl3 : Bx (l3.length ≤ 300) := Bx.mk (by rw [← hl]; have := HLl2.out; simp [beN_length]; omega)
    clear hl
    have R8 := Bx.mk (And.intro (R7.out.1.own R7.out.2.1 hg) ho)
    obtain ⟨q8, k8, hv⟩ := own_form ho
    subst hv
    clear ho hg R7
    refine hK.out _ _ (R8.out.1.at) (fun hHeld => ?_)
    clear hK K
    try simp only [Act.put, List.setIfInBounds_toArray, List.set_cons_zero, List.set_cons_succ]
    refine takeL 10 (v := ?_) rfl (by kernel_rfl) (by kernel_rfl) (by kernel_rfl) (fun _ _ _ h => h) (Or.inl ⟨by rfl, ?_⟩) hHeld ?_
    rotate_left 1
    · (intro w hSw; go_simp; try with_reducible rfl)
    try simp only [Act.put, List.setIfInBounds_toArray, List.set_cons_zero, List.set_cons_succ]
    refine wpAnyH_done (by kernel_rfl) ?_ _
    refine NoPanic.normal ?_
    clear hHeld
    go_upto_region 3 with fail
    have hb := (Below.refl W8.heap.size W8).drew
    have R9 := Bx.mk (And.intro (R8.out.1.later hb) (R8.out.2.later hb (fun g hg => (R8.out.2.lt g hg).1)))
    clear hb R8
    refine wp_region_noPanic ?_
    refine wp_region_held_drew (S := fun W => PkAt W B x (.slice a0 x.b.length c0)) (by kernel_rfl) (R9.out.1.at) (fun hHeld => ?_)
    generalize W8.drew = W9 at *
    refine takeL 0 (v := ?_) rfl (by kernel_rfl) (by kernel_rfl) (by kernel_rfl) (fun _ _ _ h => h) (Or.inl ⟨by rfl, ?_⟩) hHeld ?_
    rotate_left 1
    · (intro w hSw; go_simp; try with_reducible rfl)
    try simp only [Act.put, List.setIfInBounds_toArray, List.set_cons_zero, List.set_cons_succ]
    refine takeL 1 (v := ?_) rfl (by kernel_rfl) (by kernel_rfl) (by kernel_rfl) (fun _ _ _ h => h) (Or.inl ⟨by rfl, ?_⟩) hHeld ?_
    rotate_left 1
    · (intro w hSw; go_simp; try with_reducible rfl)
    try simp only [Act.put, List.setIfInBounds_toArray, List.set_cons_zero, List.set_cons_succ]
    refine takeL 2 (v := ?_) rfl (by kernel_rfl) (by kernel_rfl) (by kernel_rfl) (fun _ _ _ h => h) (Or.inl ⟨by rfl, ?_⟩) hHeld ?_
    rotate_left 1
    · (intro w hSw; go_simp; try with_reducible rfl)
    try simp only [Act.put, List.setIfInBounds_toArray, List.set_cons_zero, List.set_cons_succ]
    refine takeL 3 (v := ?_) rfl (by kernel_rfl) (by kernel_rfl) (by kernel_rfl) (fun _ _ _ h => h) (Or.inl ⟨by rfl, ?_⟩) hHeld ?_
    rotate_left 1
    · (intro w hSw; have q := hSw.n1; clear hSw; go_simp; try with_reducible rfl)
    try simp only [Act.put, List.setIfInBounds_toArray, List.set_cons_zero, List.set_cons_succ]
    refine takeL 6 (v := ?_) rfl (by kernel_rfl) (by kernel_rfl) (by kernel_rfl) (fun _ _ _ h => h) (Or.inl ⟨by rfl, ?_⟩) hHeld ?_
    rotate_left 1
    · (intro w hSw; go_simp; try with_reducible rfl)
    try simp only [Act.put, List.setIfInBounds_toArray, List.set_cons_zero, List.set_cons_succ]
    refine takeL 7 (v := ?_) rfl (by kernel_rfl) (by kernel_rfl) (by kernel_rfl) (fun _ _ _ h => h) (Or.inl ⟨by rfl, ?_⟩) hHeld ?_
    rotate_left 1
    · (intro w hSw; have q := hSw.b; clear hSw; go_simp; try with_reducible rfl)
    try simp only [Act.put, List.setIfInBounds_toArray, List.set_cons_zero, List.set_cons_succ]
    refine takeL 8 (v := ?_) rfl (by kernel_rfl) (by kernel_rfl) (by kernel_rfl) (fun _ _ _ h => h) (Or.inl ⟨by rfl, ?_⟩) hHeld ?_
    rotate_left 1
    · (intro w hSw; go_simp; try with_reducible rfl)
    try simp only [Act.put, List.setIfInBounds_toArray, List.set_cons_zero, List.set_cons_succ]
    refine stepL 4 (by kernel_rfl) rfl (fun K hK => ?_)
    go_simp
    refine (four14 x.n.c W9 (by have := HG.out.2.2.2.1; omega) (by have := HG.out.2.2.2.1; omega)).mono ?_
    rintro e W10 ⟨u10, rfl, ho, hb⟩
    show K _ _
    have R10 := Bx.mk (And.intro (R9.out.1.later hb) (And.intro (R9.out.2.later hb (fun g hg => (R9.out.2.lt g hg).1)) (ho.bytes)))
    obtain ⟨q10, k10, hv⟩ := own_form ho
    rw [beN_length] at hv
    subst hv
    clear hb ho R9
    refine hK.out _ _ (R10.out.1.at) (fun hHeld => ?_)
    clear hK K
    try simp only [Act.put, List.setIfInBounds_toArray, List.set_cons_zero, List.set_cons_succ]
    refine stepL 5 (by kernel_rfl) rfl (fun K hK => ?_)
    refine step_ap rfl _ _ rfl (B + 1) _ _ (by rfl) R10.out.2.1 _ _ (by rfl) R10.out.2.2 (by have := HLl3.out; simp [beN_length]; omega) (by have := R10.out.1.lt; omega) ?_
    intro u11 W11 ho hg _
    obtain ⟨l4, hl⟩ : ∃ l, l3 ++ beN 4 x.n.c.toNat = l := ⟨_, rfl⟩
    rw [hl] at ho
    have HEl4 := Bx.mk hl
    have HLl4 : Bx (l4.length ≤ 400) := Bx.mk (by rw [← hl]; have := HLl3.out; simp [beN_length]; omega)
    clear hl
    have R11 := Bx.mk (And.intro (R10.out.1.own R10.out.2.1 hg) ho)
    obtain ⟨q11, k11, hv⟩ := own_form ho
    subst hv
    clear ho hg R10
    refine hK.out _ _ (R11.out.1.at) (fun hHeld => ?_)
    clear hK K
    try simp only [Act.put, List.setIfInBounds_toArray, List.set_cons_zero, List.set_cons_succ]
    refine stepL 9 (by kernel_rfl) rfl (fun K hK => ?_)
    go_simp
    refine (two14n x.b.length W11 (by have := HG.out.2.2.2.2; omega)).mono ?_
    rintro e W12 ⟨u12, rfl, ho, hb⟩
    show K _ _
    have R12 := Bx.mk (And.intro (R11.out.1.later hb) (And.intro (R11.out.2.later hb (fun g hg => (R11.out.2.lt g hg).1)) (ho.bytes)))
    obtain ⟨q12, k12, hv⟩ := own_form ho
    rw [beN_length] at hv
    subst hv
    clear hb ho R11
    refine hK.out _ _ (R12.out.1.at) (fun hHeld => ?_)
    clear hK K
    try simp only [Act.put, List.setIfInBounds_toArray, List.set_cons_zero, List.set_cons_succ]
    refine stepL 10 (by kernel_rfl) rfl (fun K hK => ?_)
    refine step_ap rfl _ _ rfl (B + 1) _ _ (by rfl) R12.out.2.1 _ _ (by rfl) R12.out.2.2 (by have := HLl4.out; simp [beN_length]; omega) (by have := R12.out.1.lt; omega) ?_
    intro u13 W13 ho hg _
    obtain ⟨l5, hl⟩ : ∃ l, l4 ++ beN 2 x.b.length = l := ⟨_, rfl⟩
    rw [hl] at ho
    have HEl5 := Bx.mk hl
    have HLl5 : Bx (l5.length ≤ 500) := Bx.mk (by rw [← hl]; have := HLl4.out; simp [beN_length]; omega)
    clear hl
    have R13 := Bx.mk (And.intro (R12.out.1.own R12.out.2.1 hg) ho)
    obtain ⟨q13, k13, hv⟩ := own_form ho
    subst hv
    clear ho hg R12
    refine hK.out _ _ (R13.out.1.at) (fun hHeld => ?_)
    clear hK K
    try simp only [Act.put, List.setIfInBounds_toArray, List.set_cons_zero, List.set_cons_succ]
    refine takeL 11 (v := ?_) rfl (by kernel_rfl) (by kernel_rfl) (by kernel_rfl) (fun _ _ _ h => h) (Or.inl ⟨by rfl, ?_⟩) hHeld ?_
    rotate_left 1
    · (intro w hSw; go_simp; try with_reducible rfl)
    try simp only [Act.put, List.setIfInBounds_toArray, List.set_cons_zero, List.set_cons_succ]
    refine wpAnyH_done (by kernel_rfl) ?_ _
    refine NoPanic.normal ?_
    clear hHeld
    skip
    have k8 := R13.out.1.at.b
    go_wp2_with (refine wpList_ap rfl _ _ rfl (B + 1) _ _ (by rfl) R13.out.2 _ _ (by rfl) (HBy.out _ R13.out.1.below) (by have := HLl5.out; have := HG.out.2.2.2.2; omega) (by have := R13.out.1.lt; omega) ?_; intro u99 W99 ho hg _; have R99 := Bx.mk (And.intro (R13.out.1.own R13.out.2 hg) ho); clear ho hg)
    go_ret
    refine ⟨_, rfl, ?_, R99.out.1.below⟩
    have hq := R99.out.2.weak (by omega : B ≤ B + 1)
    rw [← HEl5.out, ← HEl4.out, ← HEl3.out, ← HEl2.out, ← HEl1.out] at hq
    rw [HHD.out]
    exact hq
end Go.Proofs.YtaoekfomffebhaaDoor
