/-
  The walk of what is opened.
-/
import Derived.Test.YtcaehkglfliihaaDoorSe
namespace Go.Proofs.YtcaehkglfliihaaDoor
open Go Go.RowKit
/-- What opening gives: the bytes, or that the tag is another one. -/
def OpenQ (hk bk nonce bound sl : List UInt8) (w : World) (e : Ending) (w' : World) : Prop :=
  (tagB bk nonce bound (sl.take (sl.length - 32)) = sl.drop (sl.length - 32) ∧ ∃ v', e = .returned (.tuple #[v', .int .i64 0]) ∧ OwnB w' w.heap.size v' (trnd hk nonce (sl.take (sl.length - 32))) ∧ Below w.heap.size w w') ∨
  (tagB bk nonce bound (sl.take (sl.length - 32)) ≠ sl.drop (sl.length - 32) ∧ e = .returned (.tuple #[.slice none 0 0, .int .i64 5]) ∧ Below w.heap.size w w')
set_option maxRecDepth 100000 in
set_option maxHeartbeats 1000000 in
theorem opened_in (hk bk nonce bound sl : List UInt8) (v vn vd vs : Value) (w : World) (hv : IsPair w v hk bk) (hn : Bytes w vn nonce) (hd : Bytes w vd bound) (hb : Bytes w vs sl) (hnl : nonce.length ≤ 32) (hdl : bound.length ≤ 100000) (h32 : 32 ≤ sl.length) (hsl : sl.length ≤ 65568) (hkl : hk.length ≤ 1000000) (hkl2 : bk.length ≤ 1000000) (hTab : Tab w) (hg : 0 < w.heap.size) :
    Calls Tryd.prog 46 #[v, vn, vd, vs] w (OpenQ hk bk nonce bound sl w) := by
  have HV := Bx.mk (And.intro hv (And.intro hn (And.intro hd hb)))
  have HL := Bx.mk (And.intro hnl (And.intro hdl (And.intro hkl hkl2)))
  have HA := Bx.mk hTab
  obtain ⟨p, rfl⟩ := hv.form
  obtain ⟨an, cn, rfl, -⟩ := hn
  obtain ⟨ad, cd, rfl, -⟩ := hd
  obtain ⟨ab, cb, hvs, hcb, -, hrr⟩ := id hb
  obtain ⟨c, o, hab, -⟩ := hrr (by omega)
  subst hab
  subst hvs
  obtain ⟨nn, hnn⟩ : ∃ n, nonce.length = n := ⟨_, rfl⟩
  obtain ⟨nd, hnd⟩ : ∃ n, bound.length = n := ⟨_, rfl⟩
  obtain ⟨L, hL⟩ : ∃ n, sl.length = n := ⟨_, rfl⟩
  have HSL := Bx.mk hL
  rw [hnn, hnd, hL] at HV ⊢
  rw [hL] at h32 hsl hcb
  obtain ⟨m, hm⟩ : ∃ m, L - 32 = m := ⟨_, rfl⟩
  have HM := Bx.mk hm
  have hL1 : (L : Int) ≤ 65568 := by omega
  have hL2 : (32 : Int) ≤ (L : Int) := by omega
  have s1 := fun W => cut_bytes (some ⟨c, o, none⟩) L cb m (by omega) (by omega) (fun h => by cases h) W
  have s2 := fun W => cut_from c o L cb m (by omega) (by omega) W
  have HB1 : Bx (Bytes w (.slice (some ⟨c, o, none⟩) m cb) (sl.take m) ∧ Bytes w (.slice (some ⟨c, o + m, none⟩) (L - m) (cb - m)) (sl.drop m) ∧ (sl.take m).length = m ∧ (sl.drop m).length = 32) := Bx.mk ⟨HV.out.2.2.2.take m (by omega), HV.out.2.2.2.drop m (by omega), by rw [List.length_take]; omega, by rw [List.length_drop]; omega⟩
  unfold OpenQ
  rw [hL, hm]
  generalize sl.take m = body at *
  generalize sl.drop m = tl at *
  have hm1 : (m : Int) ≤ 65536 := by omega
  have hm0 : (m : Int) ≤ (L : Int) := by omega
  clear hnn hnd hL hnl hdl hkl hkl2 hTab hv hb hrr hm hcb
  obtain ⟨z32, hz32⟩ : ∃ z, u8s (List.replicate 32 0) = z := ⟨_, rfl⟩
  have hz32v : ∀ W : World, (zeroValue 34).run Tryd.prog W = .ok (.agg z32) W := fun W => by rw [← hz32, zero32]; kernel_rfl
  have HZ0 : Bx (∀ bl : List UInt8, bl.length = 32 → (u8s bl).size = z32.size ∧ (Tryd.prog.info? 34).map (·.size) = some (u8s bl).size) := Bx.mk (fun bl hl => ⟨by rw [← hz32, u8s_size, u8s_size, hl]; rfl, by rw [u8s_size, hl]; kernel_rfl⟩)
  clear hz32
  go_enter Tryd.func46, Tryd.ntmps46
  go_wp2_with fail
  refine (takes_any hk bk nonce _ _ w HV.out.1 HV.out.2.1 (by have := HL.out; omega)).mono ?_
  rintro e w1 ⟨rfl, rfl⟩
  have HT : Bx (decide (nonce.length ≤ 32) = true) := Bx.mk (decide_eq_true HL.out.1)
  rw [HT.out]
  go_wp2_with fail
  refine (size_any 65536 w1 (by omega) (by omega)).mono ?_
  rintro e w2 ⟨rfl, rfl⟩
  rw [if_neg (by omega)]
  go_wp2_with fail
  refine (masked_any sl _ w2 HV.out.2.2.2 (by have := HSL.out; omega)).mono ?_
  rintro e w3 ⟨rfl, rfl⟩
  have HMm : Bx (((sl.length - 32 : Nat) : Int) = (m : Int)) := Bx.mk (by rw [HSL.out, HM.out])
  rw [HMm.out]
  go_wp2_with fail
  have H3 : Bx (Below w3.heap.size w3 (w3.alloc (.cells #[.slice an nn cn, .slice ad nd cd, .slice (some ⟨c, o, none⟩) m cb] 22)) ∧ Parts (w3.alloc (.cells #[.slice an nn cn, .slice ad nd cd, .slice (some ⟨c, o, none⟩) m cb] 22)) (.slice (some ⟨w3.heap.size, 0, none⟩) 3 3) [nonce, bound, body]) := Bx.mk ⟨below_a _, three_parts HV.out.2.1 HV.out.2.2.1 HB1.out.1⟩
  generalize w3.alloc (.cells #[.slice an nn cn, .slice ad nd cd, .slice (some ⟨c, o, none⟩) m cb] 22) = w4 at *
  have HFl : Bx ((frame [nonce, bound, body]).length ≤ 100000000) := Bx.mk (by have h1 := HL.out; have h2 := HB1.out.2.2.1; have := frame3_len nonce bound body 100000 (by omega) (by omega) (by omega); omega)
  have HPl : Bx (∀ p ∈ [nonce, bound, body], p.length ≤ 1000000) := Bx.mk (fun p hp => by have h1 := HL.out; have h2 := HB1.out.2.2.1; simp at hp; rcases hp with rfl | rfl | rfl <;> omega)
  refine (bind_any hk bk [nonce, bound, body] _ _ w4 (HV.out.1.later H3.out.1) H3.out.2 HL.out.2.2.2 (by simp) HPl.out HFl.out (HA.out.later H3.out.1 hg) (Nat.lt_of_lt_of_le hg H3.out.1.size)).mono ?_
  rintro e w5 ⟨rfl, hb5⟩
  have H5 : Bx (Below w3.heap.size w3 w5) := Bx.mk (H3.out.1.trans (hb5.mono H3.out.1.size))
  clear hb5 H3
  have HTl : Bx ((hmac bk (frame [nonce, bound, body])).length = 32) := Bx.mk (hmac_length _ _)
  have HTe : Bx (tagB bk nonce bound body = hmac bk (frame [nonce, bound, body])) := Bx.mk rfl
  generalize hmac bk (frame [nonce, bound, body]) = tg at *
  have HZ3 := Bx.mk (HZ0.out tg HTl.out)
  go_upto_region 9 with (refine wpList_store_var rfl 34 _ _ rfl w5 _ _ rfl (by rfl) (u8s tg) (by rfl) HZ3.out.1 HZ3.out.2 (one_u8s _) ?_; intro w6 hb6 hr6 hl6)
  have H6 : Bx (Below w3.heap.size w3 w6 ∧ Bytes w6 (.slice (some ⟨w5.heap.size, 0, none⟩) 32 32) tg) := Bx.mk ⟨H5.out.trans (hb6.mono H5.out.size), row_bytes hr6 HTl.out⟩
  clear hb6 hr6 hl6 H5
  generalize w5.heap.size = D5 at *
  have HC : Bx (∀ W n, W = w6.drewN n → Calls Tryd.prog 62 #[.slice (some ⟨D5, 0, none⟩) 32 32, .slice (some ⟨c, o + m, none⟩) (L - m) (cb - m)] W fun e w' => e = .returned (.bool (decide (tg = tl))) ∧ ∃ k, w' = W.drewN k) := Bx.mk (fun W n hW => by
    subst hW
    exact equal_any tg tl _ _ _ (H6.out.2.later (below_drewN (Below.refl _ _) _)) ((HB1.out.2.1.later H6.out.1).later (below_drewN (Below.refl _ _) _)) (by have := HTl.out; omega) (by have := HB1.out; omega))
  simp only [Act.put]
  go_big_quiet ((go_at_call 62; first | (with_reducible exact Calls.quiet_of (HC.out _ _ rfl)) | (with_reducible exact qz (HC.out _ _ rfl))))
  have H7 : Bx (Below w3.heap.size w3 (w6.drewN nq)) := Bx.mk (below_drewN H6.out.1 _)
  generalize w6.drewN nq = w7 at *
  clear H6 HC
  by_cases hd : tg = tl
  · have HD : Bx (decide (tg = tl) = true) := Bx.mk (decide_eq_true hd)
    have HD2 := Bx.mk hd
    clear hd
    rw [HD.out]
    go_wp2_with fail
    refine (sturned_any hk bk nonce body _ _ _ w7 (HV.out.1.later H7.out) (HV.out.2.1.later H7.out) (HB1.out.1.later H7.out) HL.out.1 HL.out.2.2.1 (by have := HB1.out; omega) (HA.out.later H7.out hg) (Nat.lt_of_lt_of_le hg H7.out.size)).mono ?_
    rintro e w8 ⟨vt, rfl, ho8, hb8⟩
    have H8 : Bx (OwnB w8 w3.heap.size vt (trnd hk nonce body) ∧ Below w3.heap.size w3 w8) := Bx.mk ⟨ho8.weak H7.out.size, H7.out.trans (hb8.mono H7.out.size)⟩
    clear ho8 hb8
    go_wp2
    go_ret2
    exact Or.inl ⟨by rw [HTe.out]; exact HD2.out, _, rfl, H8.out⟩
  · have HD : Bx (decide (tg = tl) = false) := Bx.mk (decide_eq_false hd)
    have HD2 := Bx.mk hd
    clear hd
    rw [HD.out]
    go_wp2
    go_ret2
    exact Or.inr ⟨by rw [HTe.out]; exact HD2.out, rfl, H7.out⟩
set_option maxRecDepth 100000 in
theorem opened_arg (hk bk nonce : List UInt8) (v vn vd vb : Value) (w : World) (hv : IsPair w v hk bk) (hn : Bytes w vn nonce) (hnl : 32 < nonce.length) (hnl2 : nonce.length ≤ 140737488355328) :
    Calls Tryd.prog 46 #[v, vn, vd, vb] w fun e w' => e = .returned (.tuple #[.slice none 0 0, .int .i64 1]) ∧ w' = w := by
  have HV := Bx.mk (And.intro hv hn)
  have HT : Bx (decide (nonce.length ≤ 32) = false ∧ nonce.length ≤ 140737488355328) := Bx.mk ⟨decide_eq_false (by omega), hnl2⟩
  obtain ⟨p, rfl⟩ := hv.form
  clear hv hn hnl hnl2
  go_enter Tryd.func46, Tryd.ntmps46
  go_wp2_with fail
  refine (takes_any hk bk nonce _ _ w HV.out.1 HV.out.2 HT.out.2).mono ?_
  rintro e w1 ⟨rfl, rfl⟩
  rw [HT.out.1]
  go_wp2
  go_ret2
  exact ⟨rfl, rfl⟩
set_option maxRecDepth 100000 in
theorem opened_nil (vn vd vb : Value) (w : World) :
    Calls Tryd.prog 46 #[.pointer none, vn, vd, vb] w fun e w' => e = .returned (.tuple #[.slice none 0 0, .int .i64 1]) ∧ w' = w := by
  go_enter Tryd.func46, Tryd.ntmps46
  go_wp2_with fail
  refine (takes_nil _ w).mono ?_
  rintro e w1 ⟨rfl, rfl⟩
  go_wp2
  go_ret2
  exact ⟨rfl, rfl⟩
set_option maxRecDepth 100000 in
theorem opened_out (hk bk nonce sl : List UInt8) (v vn vd vs : Value) (w : World) (hv : IsPair w v hk bk) (hn : Bytes w vn nonce) (hb : Bytes w vs sl) (hnl : nonce.length ≤ 32) (hbl : sl.length < 32 ∨ 65568 < sl.length) (hbl2 : sl.length ≤ 140737488355328) :
    Calls Tryd.prog 46 #[v, vn, vd, vs] w fun e w' => e = .returned (.tuple #[.slice none 0 0, .int .i64 (if sl.length < 32 then 4 else 2)]) ∧ w' = w := by
  have HV := Bx.mk (And.intro hv hn)
  have HT : Bx (decide (nonce.length ≤ 32) = true ∧ nonce.length ≤ 140737488355328) := Bx.mk ⟨decide_eq_true (by omega), by omega⟩
  obtain ⟨p, rfl⟩ := hv.form
  obtain ⟨ab, cb, rfl, -⟩ := hb
  obtain ⟨L, hL⟩ : ∃ n, sl.length = n := ⟨_, rfl⟩
  rw [hL] at hbl hbl2 ⊢
  have hL2 : (L : Int) ≤ 140737488355328 := by omega
  clear hv hn hnl hL
  by_cases h : L < 32
  · have hL1 : (L : Int) < 32 := by omega
    rw [if_pos h]
    go_enter Tryd.func46, Tryd.ntmps46
    go_wp2_with fail
    refine (takes_any hk bk nonce _ _ w HV.out.1 HV.out.2 HT.out.2).mono ?_
    rintro e w1 ⟨rfl, rfl⟩
    rw [HT.out.1]
    go_wp2
    go_ret2
    exact ⟨rfl, rfl⟩
  · have hL1 : (65568 : Int) < (L : Int) := by omega
    rw [if_neg h]
    go_enter Tryd.func46, Tryd.ntmps46
    go_wp2_with fail
    refine (takes_any hk bk nonce _ _ w HV.out.1 HV.out.2 HT.out.2).mono ?_
    rintro e w1 ⟨rfl, rfl⟩
    rw [HT.out.1]
    go_wp2_with fail
    refine (size_any 65536 w1 (by omega) (by omega)).mono ?_
    rintro e w2 ⟨rfl, rfl⟩
    rw [if_neg (by omega)]
    go_wp2
    go_ret2
    exact ⟨rfl, rfl⟩
end Go.Proofs.YtcaehkglfliihaaDoor
