/-
  Revocations: how many, two rows joined.
-/
import Derived.Test.YtmfhdhggpepbbaaDoorEk
namespace Go.Proofs.YtmfhdhggpepbbaaDoor
open Go Go.RowKit
set_option maxRecDepth 100000 in
set_option maxHeartbeats 1000000 in
theorem sum_any8 (a b c d : Nat) (w : World) (ha : a ≤ 1000000) (hb : b ≤ 1000000) (hc : c ≤ 1000000) (hd : d ≤ 1000000) : Calls Tryd.prog 47 #[(V4.mk a b c d).v] w fun e w' => e = .returned (.int .i64 ((a + b + c + d : Nat) : Int)) ∧ Below w.heap.size w w' := by
  obtain ⟨m, hm⟩ : ∃ m, a + b + c + d = m := ⟨_, rfl⟩
  rw [hm]
  have HM := Bx.mk hm
  have a1 : (a : Int) ≤ 1000000 := by omega
  have b1 : (b : Int) ≤ 1000000 := by omega
  have c1 : (c : Int) ≤ 1000000 := by omega
  have d1 : (d : Int) ≤ 1000000 := by omega
  have a0 : (0 : Int) ≤ (a : Int) := by omega
  have b0 : (0 : Int) ≤ (b : Int) := by omega
  have c0 : (0 : Int) ≤ (c : Int) := by omega
  have d0 : (0 : Int) ≤ (d : Int) := by omega
  have i0 := idxV0 a b c d
  have i1 := idxV1 a b c d
  have i2 := idxV2 a b c d
  have i3 := idxV3 a b c d
  have hbl := below_a (W := w) (.cells #[.int .i64 (a : Int), .int .i64 (b : Int), .int .i64 (c : Int), .int .i64 (d : Int)] 39)
  have HBl := Bx.mk hbl
  unfold V4.v
  clear hm hbl ha hb hc hd
  go_enter Tryd.func47, Tryd.ntmps47
  go_wp2
  refine wp_loop_rounds 5 ?_
  rw [rounds_succ]
  go_wp2
  rw [rounds_succ]
  go_wp2
  rw [rounds_succ]
  go_wp2
  rw [rounds_succ]
  go_wp2
  rw [rounds_succ]
  go_wp2
  go_ret
  refine ⟨?_, HBl.out⟩
  have h := HM.out
  show Ending.returned (Value.int .i64 _) = _
  congr 2
  omega
/-- Two rows joined. -/
def bothN (l1 : List Int) (n : Nat) (l2 : List Int) : Nat := min (l1.length - n) l2.length
def fitL (l1 : List Int) (n : Nat) (l2 : List Int) : Prop := (l1.take (n + bothN l1 n l2)).drop n = l2.take (bothN l1 n l2)
instance (l1 : List Int) (n : Nat) (l2 : List Int) : Decidable (fitL l1 n l2) := inferInstanceAs (Decidable (_ = _))
set_option maxRecDepth 100000 in
set_option maxHeartbeats 1000000 in
theorem joined_bad (l1 l2 : List Int) (n : Nat) (v1 v2 : Value) (w : World) (h1 : IsL w v1 l1) (h2 : IsL w v2 l2) (hn : n ≤ l1.length) (hs1 : l1.length ≤ 1000) (hs2 : l2.length ≤ 1000) (hf : ¬ fitL l1 n l2) :
    Calls Tryd.prog 46 #[v1, .int .i64 (n : Int), v2] w fun e w' => e = .returned (.tuple #[.slice none 0 0, .bool false]) ∧ Below w.heap.size w w' := by
  obtain ⟨b, hb⟩ : ∃ b, bothN l1 n l2 = b := ⟨_, rfl⟩
  have hbl : n + b ≤ l1.length := by rw [← hb]; unfold bothN; omega
  have hbm : b ≤ l2.length := by rw [← hb]; unfold bothN; omega
  have hmin : min ((l1.length : Int) - (n : Int)) (l2.length : Int) = (b : Int) := by rw [← hb]; unfold bothN; omega
  obtain ⟨nb, hnb⟩ : ∃ nb, n + b = nb := ⟨_, rfl⟩
  have hP1 : ∀ W, Below w.heap.size w W → IsL W v1 l1 := fun W h => h1.later h
  have hP2 : ∀ W, Below w.heap.size w W → IsL W v2 l2 := fun W h => h2.later h
  obtain ⟨a1, c1, hv1⟩ := h1.form
  obtain ⟨a2, c2, hv2⟩ := h2.form
  subst hv1 hv2
  have hc1 : l1.length ≤ c1 := by
    obtain ⟨a', c', hv, hc, -⟩ := h1
    injection hv with e1 e2 e3
    rw [e3]; exact hc
  have hc2 : l2.length ≤ c2 := by
    obtain ⟨a', c', hv, hc, -⟩ := h2
    injection hv with e1 e2 e3
    rw [e3]; exact hc
  have HCut1 := Bx.mk (fun W => cut_lh a1 l1.length c1 n nb (by omega) (by omega) W)
  have HCut2 := Bx.mk (fun W => cut_h a2 l2.length c2 b (by omega) W)
  have HCut3 := Bx.mk (fun W => cut_l a2 l2.length c2 b hbm W)
  have HPa : Bx (∀ W, Below w.heap.size w W → IsL W (sl a1 c1 n nb) ((l1.take nb).drop n)) := ⟨fun W h => (hP1 W h).part n nb (by omega) (by omega)⟩
  have HPb : Bx (∀ W, Below w.heap.size w W → IsL W (.slice a2 b c2) (l2.take b)) := ⟨fun W h => (hP2 W h).cut b hbm c2 (by omega) (fun e => by
    obtain ⟨a', c', hv, _, hc, -⟩ := h2
    injection hv with e1 e2 e3
    rw [e3]; exact hc (e1.symm.trans e))⟩
  have HPc : Bx (∀ W, Below w.heap.size w W → IsL W (sl a2 c2 b l2.length) (l2.drop b)) := ⟨fun W h => by
    have h' := (hP2 W h).part b l2.length hbm (Nat.le_refl _)
    rw [List.take_length] at h'
    exact h'⟩
  have HPd := Bx.mk hP1
  have hl1 : (l1.length : Int) ≤ 1000 := by omega
  have hl2 : (l2.length : Int) ≤ 1000 := by omega
  have hn0 : (n : Int) ≤ (l1.length : Int) := by omega
  have hb1 : (b : Int) ≤ 1000 := by omega
  have hsum : (n : Int) + (b : Int) = (nb : Int) := by omega
  have hnb1 : (nb : Int) ≤ 1000 := by omega
  have hwr : IntKind.i64.wrap (nb : Int) = (nb : Int) := by rw [IntKind.wrap_i64]; omega
  have hnn : (n : Int) ≤ (nb : Int) := by omega
  have HL : Bx (l1.length ≤ 1000 ∧ l2.length ≤ 1000) := ⟨⟨hs1, hs2⟩⟩
  have HEq := Bx.mk (fun W (h : Below w.heap.size w W) => equal_any8 _ _ _ _ W (HPa.out W h) (HPb.out W h) (by rw [List.length_drop, List.length_take]; omega) (by rw [List.length_take]; omega))
  rw [decide_eq_false (by have h := hf; unfold fitL at h; rw [hb, hnb] at h; exact h)] at HEq
  clear hf
  clear hP1 hP2 h1 h2 hb hbl hbm hc1 hc2 hs1 hs2 hn hnb
  go_enter Tryd.func46, Tryd.ntmps46
  go_upto_region 2 with fail
  have R0 := Bx.mk (Below.refl w.heap.size w).drew
  refine wp_region_noPanic ?_
  refine wp_region_held_drew (S := fun _ => True) (by kernel_rfl) (trivial) (fun hHeld => ?_)
  generalize w.drew = W0 at *
  refine takeL 0 (v := ?_) rfl (by kernel_rfl) (by kernel_rfl) (by kernel_rfl) (fun _ _ _ h => h) (Or.inl ⟨by rfl, ?_⟩) hHeld ?_
  rotate_left 1
  · (intro w hSw; go_simp; try with_reducible rfl)
  try simp only [Act.put, List.setIfInBounds_toArray, List.set_cons_zero, List.set_cons_succ]
  refine takeL 1 (v := ?_) rfl (by kernel_rfl) (by kernel_rfl) (by kernel_rfl) (fun _ _ _ h => h) (Or.inl ⟨by rfl, ?_⟩) hHeld ?_
  rotate_left 1
  · (intro w hSw; go_simp; try with_reducible rfl)
  try simp only [Act.put, List.setIfInBounds_toArray, List.set_cons_zero, List.set_cons_succ]
  refine takeL 2 (v := ?_) rfl (by kernel_rfl) (by kernel_rfl) (by kernel_rfl) (fun _ _ _ h => h) (Or.inl ⟨by rfl, ?_⟩) hHeld ?_
  rotate_left 1
  · (intro w hSw; go_simp; try with_reducible rfl)
  try simp only [Act.put, List.setIfInBounds_toArray, List.set_cons_zero, List.set_cons_succ]
  refine takeL 3 (v := ?_) rfl (by kernel_rfl) (by kernel_rfl) (by kernel_rfl) (fun _ _ _ h => h) (Or.inl ⟨by rfl, ?_⟩) hHeld ?_
  rotate_left 1
  · (intro w hSw; go_simp; try with_reducible rfl)
  try simp only [Act.put, List.setIfInBounds_toArray, List.set_cons_zero, List.set_cons_succ]
  refine takeL 4 (v := ?_) rfl (by kernel_rfl) (by kernel_rfl) (by kernel_rfl) (fun _ _ _ h => h) (Or.inl ⟨by rfl, ?_⟩) hHeld ?_
  rotate_left 1
  · (intro w hSw; have h := hsum; have h2 := hwr; go_simp; try with_reducible rfl)
  try simp only [Act.put, List.setIfInBounds_toArray, List.set_cons_zero, List.set_cons_succ]
  refine takeL 5 (v := ?_) rfl (by kernel_rfl) (by kernel_rfl) (by kernel_rfl) (fun _ _ _ h => h) (Or.inl ⟨by rfl, ?_⟩) hHeld ?_
  rotate_left 1
  · (intro w hSw; have h := HCut1.out w; go_simp; try with_reducible rfl)
  try simp only [Act.put, List.setIfInBounds_toArray, List.set_cons_zero, List.set_cons_succ]
  refine takeL 6 (v := ?_) rfl (by kernel_rfl) (by kernel_rfl) (by kernel_rfl) (fun _ _ _ h => h) (Or.inl ⟨by rfl, ?_⟩) hHeld ?_
  rotate_left 1
  · (intro w hSw; go_simp; try with_reducible rfl)
  try simp only [Act.put, List.setIfInBounds_toArray, List.set_cons_zero, List.set_cons_succ]
  refine takeL 7 (v := ?_) rfl (by kernel_rfl) (by kernel_rfl) (by kernel_rfl) (fun _ _ _ h => h) (Or.inl ⟨by rfl, ?_⟩) hHeld ?_
  rotate_left 1
  · (intro w hSw; go_simp; try with_reducible rfl)
  try simp only [Act.put, List.setIfInBounds_toArray, List.set_cons_zero, List.set_cons_succ]
  refine takeL 8 (v := ?_) rfl (by kernel_rfl) (by kernel_rfl) (by kernel_rfl) (fun _ _ _ h => h) (Or.inl ⟨by rfl, ?_⟩) hHeld ?_
  rotate_left 1
  · (intro w hSw; have h := HCut2.out w; go_simp; try with_reducible rfl)
  try simp only [Act.put, List.setIfInBounds_toArray, List.set_cons_zero, List.set_cons_succ]
  refine stepL 9 (by kernel_rfl) rfl (fun K hK => ?_)
  go_simp
  refine (HEq.out W0 R0.out).mono ?_
  rintro e W1 ⟨rfl, hb⟩
  show K _ _
  have R1 := Bx.mk (R0.out.trans (hb.mono R0.out.size))
  clear hb
  refine hK.out _ _ (trivial) (fun hHeld => ?_)
  clear hK K
  try simp only [Act.put, List.setIfInBounds_toArray, List.set_cons_zero, List.set_cons_succ]
  refine takeL 10 (v := ?_) rfl (by kernel_rfl) (by kernel_rfl) (by kernel_rfl) (fun _ _ _ h => h) (Or.inl ⟨by rfl, ?_⟩) hHeld ?_
  rotate_left 1
  · (intro w hSw; go_simp; try with_reducible rfl)
  try simp only [Act.put, List.setIfInBounds_toArray, List.set_cons_zero, List.set_cons_succ]
  refine wpAnyH_done (by kernel_rfl) ?_ _
  refine NoPanic.normal ?_
  clear hHeld
  go_wp2
  go_ret2
  exact ⟨rfl, R1.out⟩
set_option maxRecDepth 100000 in
set_option maxHeartbeats 1000000 in
theorem joined_ok (l1 l2 r : List Int) (n : Nat) (v1 v2 : Value) (w : World) (h1 : IsL w v1 l1) (h2 : IsL w v2 l2) (hn : n ≤ l1.length) (hs1 : l1.length ≤ 1000) (hs2 : l2.length ≤ 1000) (hf : fitL l1 n l2) (hr : l1 ++ l2.drop (bothN l1 n l2) = r) (h64 : ∀ x ∈ r, in64 x) :
    Calls Tryd.prog 46 #[v1, .int .i64 (n : Int), v2] w fun e w' => ∃ v, e = .returned (.tuple #[v, .bool (!dupB r)]) ∧ IsL w' v r ∧ Below w.heap.size w w' := by
  obtain ⟨b, hb⟩ : ∃ b, bothN l1 n l2 = b := ⟨_, rfl⟩
  have hbl : n + b ≤ l1.length := by rw [← hb]; unfold bothN; omega
  have hbm : b ≤ l2.length := by rw [← hb]; unfold bothN; omega
  have hmin : min ((l1.length : Int) - (n : Int)) (l2.length : Int) = (b : Int) := by rw [← hb]; unfold bothN; omega
  obtain ⟨nb, hnb⟩ : ∃ nb, n + b = nb := ⟨_, rfl⟩
  have hP1 : ∀ W, Below w.heap.size w W → IsL W v1 l1 := fun W h => h1.later h
  have hP2 : ∀ W, Below w.heap.size w W → IsL W v2 l2 := fun W h => h2.later h
  obtain ⟨a1, c1, hv1⟩ := h1.form
  obtain ⟨a2, c2, hv2⟩ := h2.form
  subst hv1 hv2
  have hc1 : l1.length ≤ c1 := by
    obtain ⟨a', c', hv, hc, -⟩ := h1
    injection hv with e1 e2 e3
    rw [e3]; exact hc
  have hc2 : l2.length ≤ c2 := by
    obtain ⟨a', c', hv, hc, -⟩ := h2
    injection hv with e1 e2 e3
    rw [e3]; exact hc
  have HCut1 := Bx.mk (fun W => cut_lh a1 l1.length c1 n nb (by omega) (by omega) W)
  have HCut2 := Bx.mk (fun W => cut_h a2 l2.length c2 b (by omega) W)
  have HCut3 := Bx.mk (fun W => cut_l a2 l2.length c2 b hbm W)
  have HPa : Bx (∀ W, Below w.heap.size w W → IsL W (sl a1 c1 n nb) ((l1.take nb).drop n)) := ⟨fun W h => (hP1 W h).part n nb (by omega) (by omega)⟩
  have HPb : Bx (∀ W, Below w.heap.size w W → IsL W (.slice a2 b c2) (l2.take b)) := ⟨fun W h => (hP2 W h).cut b hbm c2 (by omega) (fun e => by
    obtain ⟨a', c', hv, _, hc, -⟩ := h2
    injection hv with e1 e2 e3
    rw [e3]; exact hc (e1.symm.trans e))⟩
  have HPc : Bx (∀ W, Below w.heap.size w W → IsL W (sl a2 c2 b l2.length) (l2.drop b)) := ⟨fun W h => by
    have h' := (hP2 W h).part b l2.length hbm (Nat.le_refl _)
    rw [List.take_length] at h'
    exact h'⟩
  have HPd := Bx.mk hP1
  have hl1 : (l1.length : Int) ≤ 1000 := by omega
  have hl2 : (l2.length : Int) ≤ 1000 := by omega
  have hn0 : (n : Int) ≤ (l1.length : Int) := by omega
  have hb1 : (b : Int) ≤ 1000 := by omega
  have hsum : (n : Int) + (b : Int) = (nb : Int) := by omega
  have hnb1 : (nb : Int) ≤ 1000 := by omega
  have hwr : IntKind.i64.wrap (nb : Int) = (nb : Int) := by rw [IntKind.wrap_i64]; omega
  have hnn : (n : Int) ≤ (nb : Int) := by omega
  have HL : Bx (l1.length ≤ 1000 ∧ l2.length ≤ 1000) := ⟨⟨hs1, hs2⟩⟩
  have HEq := Bx.mk (fun W (h : Below w.heap.size w W) => equal_any8 _ _ _ _ W (HPa.out W h) (HPb.out W h) (by rw [List.length_drop, List.length_take]; omega) (by rw [List.length_take]; omega))
  rw [decide_eq_true (by have h := hf; unfold fitL at h; rw [hb, hnb] at h; exact h)] at HEq
  rw [hb] at hr
  have HR := Bx.mk hr
  have H64 := Bx.mk h64
  have HRl : Bx (r.length ≤ 2000) := ⟨by rw [← hr, List.length_append, List.length_drop]; omega⟩
  clear hf hr h64
  clear hP1 hP2 h1 h2 hb hbl hbm hc1 hc2 hs1 hs2 hn hnb
  go_enter Tryd.func46, Tryd.ntmps46
  go_upto_region 2 with fail
  have R0 := Bx.mk (Below.refl w.heap.size w).drew
  refine wp_region_noPanic ?_
  refine wp_region_held_drew (S := fun _ => True) (by kernel_rfl) (trivial) (fun hHeld => ?_)
  generalize w.drew = W0 at *
  refine takeL 0 (v := ?_) rfl (by kernel_rfl) (by kernel_rfl) (by kernel_rfl) (fun _ _ _ h => h) (Or.inl ⟨by rfl, ?_⟩) hHeld ?_
  rotate_left 1
  · (intro w hSw; go_simp; try with_reducible rfl)
  try simp only [Act.put, List.setIfInBounds_toArray, List.set_cons_zero, List.set_cons_succ]
  refine takeL 1 (v := ?_) rfl (by kernel_rfl) (by kernel_rfl) (by kernel_rfl) (fun _ _ _ h => h) (Or.inl ⟨by rfl, ?_⟩) hHeld ?_
  rotate_left 1
  · (intro w hSw; go_simp; try with_reducible rfl)
  try simp only [Act.put, List.setIfInBounds_toArray, List.set_cons_zero, List.set_cons_succ]
  refine takeL 2 (v := ?_) rfl (by kernel_rfl) (by kernel_rfl) (by kernel_rfl) (fun _ _ _ h => h) (Or.inl ⟨by rfl, ?_⟩) hHeld ?_
  rotate_left 1
  · (intro w hSw; go_simp; try with_reducible rfl)
  try simp only [Act.put, List.setIfInBounds_toArray, List.set_cons_zero, List.set_cons_succ]
  refine takeL 3 (v := ?_) rfl (by kernel_rfl) (by kernel_rfl) (by kernel_rfl) (fun _ _ _ h => h) (Or.inl ⟨by rfl, ?_⟩) hHeld ?_
  rotate_left 1
  · (intro w hSw; go_simp; try with_reducible rfl)
  try simp only [Act.put, List.setIfInBounds_toArray, List.set_cons_zero, List.set_cons_succ]
  refine takeL 4 (v := ?_) rfl (by kernel_rfl) (by kernel_rfl) (by kernel_rfl) (fun _ _ _ h => h) (Or.inl ⟨by rfl, ?_⟩) hHeld ?_
  rotate_left 1
  · (intro w hSw; have h := hsum; have h2 := hwr; go_simp; try with_reducible rfl)
  try simp only [Act.put, List.setIfInBounds_toArray, List.set_cons_zero, List.set_cons_succ]
  refine takeL 5 (v := ?_) rfl (by kernel_rfl) (by kernel_rfl) (by kernel_rfl) (fun _ _ _ h => h) (Or.inl ⟨by rfl, ?_⟩) hHeld ?_
  rotate_left 1
  · (intro w hSw; have h := HCut1.out w; go_simp; try with_reducible rfl)
  try simp only [Act.put, List.setIfInBounds_toArray, List.set_cons_zero, List.set_cons_succ]
  refine takeL 6 (v := ?_) rfl (by kernel_rfl) (by kernel_rfl) (by kernel_rfl) (fun _ _ _ h => h) (Or.inl ⟨by rfl, ?_⟩) hHeld ?_
  rotate_left 1
  · (intro w hSw; go_simp; try with_reducible rfl)
  try simp only [Act.put, List.setIfInBounds_toArray, List.set_cons_zero, List.set_cons_succ]
  refine takeL 7 (v := ?_) rfl (by kernel_rfl) (by kernel_rfl) (by kernel_rfl) (fun _ _ _ h => h) (Or.inl ⟨by rfl, ?_⟩) hHeld ?_
  rotate_left 1
  · (intro w hSw; go_simp; try with_reducible rfl)
  try simp only [Act.put, List.setIfInBounds_toArray, List.set_cons_zero, List.set_cons_succ]
  refine takeL 8 (v := ?_) rfl (by kernel_rfl) (by kernel_rfl) (by kernel_rfl) (fun _ _ _ h => h) (Or.inl ⟨by rfl, ?_⟩) hHeld ?_
  rotate_left 1
  · (intro w hSw; have h := HCut2.out w; go_simp; try with_reducible rfl)
  try simp only [Act.put, List.setIfInBounds_toArray, List.set_cons_zero, List.set_cons_succ]
  refine stepL 9 (by kernel_rfl) rfl (fun K hK => ?_)
  go_simp
  refine (HEq.out W0 R0.out).mono ?_
  rintro e W1 ⟨rfl, hb⟩
  show K _ _
  have R1 := Bx.mk (R0.out.trans (hb.mono R0.out.size))
  clear hb
  refine hK.out _ _ (trivial) (fun hHeld => ?_)
  clear hK K
  try simp only [Act.put, List.setIfInBounds_toArray, List.set_cons_zero, List.set_cons_succ]
  refine takeL 10 (v := ?_) rfl (by kernel_rfl) (by kernel_rfl) (by kernel_rfl) (fun _ _ _ h => h) (Or.inl ⟨by rfl, ?_⟩) hHeld ?_
  rotate_left 1
  · (intro w hSw; go_simp; try with_reducible rfl)
  try simp only [Act.put, List.setIfInBounds_toArray, List.set_cons_zero, List.set_cons_succ]
  refine wpAnyH_done (by kernel_rfl) ?_ _
  refine NoPanic.normal ?_
  clear hHeld
  have h3 := HCut3.out
  go_wp2_with fail
  refine (longer_any l1 (l2.drop b) _ _ W1 (HPd.out W1 R1.out) (HPc.out W1 R1.out) (by rw [List.length_drop]; have := HL.out; omega)).mono ?_
  rintro e w5 ⟨v5, rfl, h5, hb5⟩
  rw [HR.out] at h5
  obtain ⟨a5, c5, hv5⟩ := h5.form
  subst hv5
  have H5 := Bx.mk h5
  have R2 := Bx.mk (R1.out.trans (hb5.mono R1.out.size))
  clear h5 hb5 HCut1 HCut2 HCut3 HPa HPb HPc HPd HEq h3
  go_wp2_with fail
  refine (twice_any r _ w5 H5.out (by have := HRl.out; omega) H64.out).mono ?_
  rintro e w6 ⟨rfl, hb6⟩
  have H6 := Bx.mk (H5.out.later hb6)
  have R3 := Bx.mk (R2.out.trans (hb6.mono R2.out.size))
  clear hb6 H5 R2 R1
  go_wp2
  go_ret2
  exact ⟨_, rfl, H6.out, R3.out⟩
end Go.Proofs.YtmfhdhggpepbbaaDoor
