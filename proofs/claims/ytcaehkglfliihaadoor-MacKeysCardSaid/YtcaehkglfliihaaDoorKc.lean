/-
  Keys: what a key is known by.
-/
import Derived.Test.YtcaehkglfliihaaDoorKb
namespace Go.Proofs.YtcaehkglfliihaaDoor
open Go Go.RowKit
theorem zeroB8 : u8s (List.replicate 8 0) = #[.int .u8 0, .int .u8 0, .int .u8 0, .int .u8 0, .int .u8 0, .int .u8 0, .int .u8 0, .int .u8 0] := by kernel_rfl
/-- The two arrays of eight bytes. -/
structure Pr (w : World) (W : World) : Prop where
  below : Below w.heap.size w W
  size : w.heap.size + 2 ≤ W.heap.size
  res : W.heap[w.heap.size]? = some (.cells (u8s (List.replicate 8 0)) 36 (0, 0))
  out : W.heap[w.heap.size + 1]? = some (.cells (u8s (List.replicate 8 0)) 36 (0, 0))
theorem Pr.later {w W W1 : World} (h : Pr w W) (hb : Below W.heap.size W W1) : Pr w W1 :=
  ⟨h.below.trans (hb.mono h.below.size), Nat.le_trans h.size hb.size, by rw [hb.block _ (by have := h.size; omega)]; exact h.res, by rw [hb.block _ (by have := h.size; omega)]; exact h.out⟩
theorem Pr.start (w : World) (z : Array Value) (hz : u8s (List.replicate 8 0) = z) : Pr w ((w.alloc (.cells z 36)).alloc (.cells z 36)) := by
  subst hz
  exact ⟨((Below.refl _ _).alloc (Nat.le_refl _) _).alloc (by simp) _, by simp, by rw [hold _ _ _ (by simp), hnew _ _ _ rfl], by rw [hnew _ _ _ (by simp)]⟩
/-- The label that a key is known by. -/
def prt : List UInt8 := [112, 114, 105, 110, 116]
set_option maxRecDepth 100000 in
set_option maxHeartbeats 1000000 in
theorem print_any (bs : List UInt8) (v : Value) (w : World) (hv : IsKey w v bs) (hl : bs.length ≤ 1000000) (hTab : Tab w) (hg : 0 < w.heap.size) :
    Calls Tryd.prog 13 #[v] w fun e w' => e = .returned (.agg (u8s ((hmac bs (frame [prt])).take 8))) ∧ Below w.heap.size w w' := by
  have HL := Bx.mk hl
  have HA := Bx.mk hTab
  obtain ⟨z8, hz8⟩ : ∃ z, u8s (List.replicate 8 0) = z := ⟨_, rfl⟩
  have hz8v : ∀ W : World, (zeroValue 36).run Tryd.prog W = .ok (.agg z8) W := fun W => by rw [← hz8, zeroB8]; kernel_rfl
  have HF : Bx (Pr w ((w.alloc (.cells z8 36)).alloc (.cells z8 36))) := Bx.mk (Pr.start w z8 hz8)
  clear hz8
  obtain ⟨z32, hz32⟩ : ∃ z, u8s (List.replicate 32 0) = z := ⟨_, rfl⟩
  have hz32v : ∀ W : World, (zeroValue 34).run Tryd.prog W = .ok (.agg z32) W := fun W => by rw [← hz32, zero32]; kernel_rfl
  have HZ0 := Bx.mk hz32
  clear hz32
  obtain ⟨p, a, cap, rfl, hc, hb⟩ := (hv.later HF.out.below).parts
  have HB := Bx.mk hb
  obtain ⟨n, hn⟩ : ∃ n, bs.length = n := ⟨_, rfl⟩
  rw [hn] at HB hc
  clear hn hv hb hl hTab
  go_enter Tryd.func13, Tryd.ntmps13
  go_upto_region 4 with (fail)
  generalize (w.alloc (.cells z8 36)).alloc (.cells z8 36) = w1 at *
  go_wp2_with fail
  refine (derive_any bs prt [] _ _ w1 HB.out (Parts.nil _) HL.out (by decide) (by simp) (by simp) (HA.out.later HF.out.below hg) (Nat.lt_of_lt_of_le hg HF.out.below.size)).mono ?_
  rintro e w2 ⟨rfl, hb2⟩
  have H2 : Bx (Pr w w2) := Bx.mk (HF.out.later hb2)
  clear hb2 HF HB hc hz8v
  have HSL : Bx ((hmac bs (frame [prt])).length = 32) := Bx.mk (sha_length _)
  generalize hhm : hmac bs (frame [prt]) = hm at *
  have HHM := Bx.mk hhm
  clear hhm
  have HI : Bx ((Tryd.prog.info? 34).map (·.size) = some (u8s hm).size) := Bx.mk (by rw [u8s_size, HSL.out]; kernel_rfl)
  have HZ3 : Bx ((u8s hm).size = z32.size) := Bx.mk (by rw [u8s_size, HSL.out, ← HZ0.out]; rfl)
  go_upto_region 5 with (refine wpList_store_var rfl 34 _ _ rfl w2 _ _ rfl (by rfl) (u8s hm) (by rfl) HZ3.out HI.out (one_u8s _) ?_; intro w3 hb3 hr3 hl3)
  have H3 : Bx (Pr w w3.drew ∧ Bytes w3.drew (.slice (some ⟨w2.heap.size, 0, none⟩) 32 32) hm) := Bx.mk ⟨(H2.out.later hb3).later (Below.refl _ _).drew, (row_bytes hr3 HSL.out).later (Below.refl _ _).drew⟩
  clear hb3 hr3 hl3 HZ3 HI HZ0 hz32v H2
  generalize w2.heap.size = D at *
  obtain ⟨o8, ho8⟩ : ∃ o8, hm.take 8 = o8 := ⟨_, rfl⟩
  have HO := Bx.mk ho8
  have HOL : Bx (o8.length = 8) := Bx.mk (by rw [← ho8, List.length_take, HSL.out]; rfl)
  clear ho8
  refine wp_region_noPanic ?_
  refine wp_region_held_drew (S := fun W => Bx (Pr w W ∧ Bytes W (.slice (some ⟨D, 0, none⟩) 32 32) hm) ∨ Bx (Below w.heap.size w W ∧ W.heap[w.heap.size]? = some (.cells (u8s (List.replicate 8 0)) 36 (0, 0)) ∧ W.heap[w.heap.size + 1]? = some (.cells (u8s o8) 36 (0, 0)))) (by kernel_rfl) (Or.inl H3) (fun hHeld => ?_)
  refine takeL 0 (v := ?_) rfl (by kernel_rfl) (by kernel_rfl) (by kernel_rfl) (fun _ _ _ h => h) (Or.inl ⟨by rfl, ?_⟩) hHeld ?_
  rotate_left 1
  · (intro w hSw; go_simp; try with_reducible rfl)
  try simp only [Act.put, List.setIfInBounds_toArray, List.set_cons_zero, List.set_cons_succ]
  refine takeL 1 (v := ?_) rfl (by kernel_rfl) (by kernel_rfl) (by kernel_rfl) (fun _ _ _ h => h) (Or.inl ⟨by rfl, ?_⟩) hHeld ?_
  rotate_left 1
  · (intro w hSw; go_simp; try with_reducible rfl)
  try simp only [Act.put, List.setIfInBounds_toArray, List.set_cons_zero, List.set_cons_succ]
  refine stepL 2 (by kernel_rfl) rfl (fun K hK => ?_)
  refine step_copy_splice rfl _ _ 22 22 rfl 5 Tryd.underlying22 (by kernel_rfl) (some ⟨w.heap.size + 1, 0, none⟩) (some ⟨D, 0, none⟩) 8 8 32 32 (by rfl) (by rfl) (w.heap.size + 1) 0 (vs8 (List.replicate 8 0)) 36 H3.out.1.out (vs8 o8) (by rw [vs8_length, HOL.out]; rfl) (fun _ => ⟨rfl, _, rfl, ?_⟩) (by rw [vs8_length, vs8_length, HOL.out]; simp) ?_ (w.heap.size + 1) w3.drew (Below.refl _ _) (Nat.le_refl _) ?_
  · intro j u hu
    have hj : j < 8 := by have := (List.getElem?_eq_some_iff.1 hu).1; rw [vs8_length, HOL.out] at this; exact this
    obtain ⟨c, o, he, hcell⟩ := H3.out.2.cell j (by omega)
    injection he with he
    injection he with h1 h2
    subst h1
    subst h2
    rw [show (⟨D, 0, none⟩ : Addr).add j = ⟨D, 0 + j, none⟩ by (simp [Addr.add]; try (intro h; exact h.symm)), hcell, ← hu]
    have e : (vs8 o8)[j]? = some (.int .u8 (ub (o8.getD j 0))) := by
      unfold vs8
      rw [List.getElem?_map]
      have hj' : j < o8.length := by rw [HOL.out]; exact hj
      simp [hj']
    rw [e, ← HO.out]
    have hj3 : j < hm.length := by rw [HSL.out]; omega
    simp [hj, hj3]
  · intro u hu
    unfold vs8 at hu
    obtain ⟨x, _, rfl⟩ := List.mem_map.1 hu
    rfl
  intro w4 hr4 hb4
  have H4 : Bx (Below w.heap.size w w4 ∧ w4.heap[w.heap.size]? = some (.cells (u8s (List.replicate 8 0)) 36 (0, 0)) ∧ w4.heap[w.heap.size + 1]? = some (.cells (u8s o8) 36 (0, 0))) := Bx.mk ⟨H3.out.1.below.trans (hb4.mono (by omega)), by rw [hb4.block _ (by omega)]; exact H3.out.1.res, by
    have h : w4.heap[w.heap.size + 1]? = some (.cells (splice (vs8 (List.replicate 8 0)) 0 (vs8 o8)).toArray 36 (0, 0)) := hr4
    rw [h]
    have e : splice (vs8 (List.replicate 8 0)) 0 (vs8 o8) = vs8 o8 := by
      unfold splice
      rw [List.drop_of_length_le (by rw [vs8_length, vs8_length, HOL.out]; simp)]
      simp
    rw [e]
    rfl⟩
  clear hr4 hb4 H3 hHeld
  refine hK.out _ _ (Or.inr H4) (fun hHeld => ?_)
  clear hK K
  try simp only [Act.put, List.setIfInBounds_toArray, List.set_cons_zero, List.set_cons_succ]
  refine wpAnyH_done (by kernel_rfl) ?_ _
  clear hHeld
  refine NoPanic.normal ?_
  have HI8 : Bx ((Tryd.prog.info? 36).map (·.size) = some (u8s o8).size) := Bx.mk (by rw [u8s_size, HOL.out]; kernel_rfl)
  have HZ8 : Bx ((u8s o8).size = (u8s (List.replicate 8 0)).size) := Bx.mk (by rw [u8s_size, u8s_size, HOL.out]; rfl)
  go_wp2_with (first | (refine wpList_load_row rfl 36 _ rfl (w.heap.size + 1) (by rfl) _ _ _ _ H4.out.2.2 Tryd.underlying36 rfl HI8.out ?_) | (refine wpList_store_new rfl 36 _ _ rfl w.heap.size (u8s o8) _ _ (by rfl) (by rfl) H4.out.2.1 HZ8.out HI8.out (one_u8s _) ?_; intro w6 hw6 hr6; have H6 : Bx (Below w.heap.size w w6 ∧ w6.heap[w.heap.size]? = some (.cells (u8s o8) 36 (0, 0))) := Bx.mk ⟨by rw [hw6]; exact below_setCells (Nat.le_refl _) _ _ _ _ H4.out.1, hr6⟩; clear hw6 hr6))
  refine bodyPost_ret (results_cell_row rfl _ _ w.heap.size _ (u8s o8) _ _ rfl H6.out.2 Tryd.underlying36 rfl HI8.out) rfl ?_
  exact ⟨by rw [HHM.out, HO.out], H6.out.1⟩
set_option maxRecDepth 100000 in
set_option maxHeartbeats 1000000 in
theorem print_nil (w : World) : Calls Tryd.prog 13 #[.pointer none] w fun e w' => e = .returned (.agg (u8s (List.replicate 8 0))) ∧ Below w.heap.size w w' := by
  obtain ⟨z8, hz8⟩ : ∃ z, u8s (List.replicate 8 0) = z := ⟨_, rfl⟩
  have hz8v : ∀ W : World, (zeroValue 36).run Tryd.prog W = .ok (.agg z8) W := fun W => by rw [← hz8, zeroB8]; kernel_rfl
  have HF : Bx (Pr w ((w.alloc (.cells z8 36)).alloc (.cells z8 36))) := Bx.mk (Pr.start w z8 hz8)
  clear hz8
  obtain ⟨o8, ho8⟩ : ∃ o8, List.replicate 8 (0 : UInt8) = o8 := ⟨_, rfl⟩
  have HO := Bx.mk ho8
  have HOL : Bx (o8.length = 8) := Bx.mk (by rw [← ho8]; rfl)
  clear ho8
  have HI8 : Bx ((Tryd.prog.info? 36).map (·.size) = some (u8s o8).size) := Bx.mk (by rw [u8s_size, HOL.out]; kernel_rfl)
  have HZ8 : Bx ((u8s o8).size = (u8s (List.replicate 8 0)).size) := Bx.mk (by rw [u8s_size, u8s_size, HOL.out]; rfl)
  have HP2 : Bx (∀ W, Pr w W → W.heap[w.heap.size + 1]? = some (.cells (u8s o8) 36 (0, 0))) := Bx.mk (fun W h => by rw [← HO.out]; exact h.out)
  rw [HO.out]
  go_enter Tryd.func13, Tryd.ntmps13
  go_upto_region 3 with (fail)
  generalize (w.alloc (.cells z8 36)).alloc (.cells z8 36) = w1 at *
  go_wp2_with (first | (refine wpList_load_row rfl 36 _ rfl (w.heap.size + 1) (by rfl) _ _ _ _ (HP2.out _ HF.out) Tryd.underlying36 rfl HI8.out ?_) | (refine wpList_store_new rfl 36 _ _ rfl w.heap.size (u8s o8) _ _ (by rfl) (by rfl) HF.out.res HZ8.out HI8.out (one_u8s _) ?_; intro w6 hw6 hr6; have H6 : Bx (Below w.heap.size w w6 ∧ w6.heap[w.heap.size]? = some (.cells (u8s o8) 36 (0, 0))) := Bx.mk ⟨by rw [hw6]; exact below_setCells (Nat.le_refl _) _ _ _ _ HF.out.below, hr6⟩; clear hw6 hr6))
  refine bodyPost_ret (results_cell_row rfl _ _ w.heap.size _ (u8s o8) _ _ rfl H6.out.2 Tryd.underlying36 rfl HI8.out) rfl ?_
  exact ⟨rfl, H6.out.1⟩
end Go.Proofs.YtcaehkglfliihaaDoor
