/-
  The walk of ClaimsRoles.
-/
import Derived.Test.YtiomjknhlfhlhaaLp
import Derived.LoopN
namespace Go.Proofs.Ytiomjknhlfhlhaa
open Go Go.RowKit
theorem cut_ints (a : Option Addr) (n cap m : Nat) (hm : m ≤ n) (hc : n ≤ cap) (ha : a = none → cap = 0) (W : World) : (Instr.slice 46 (.slice a n cap) none (some (.int .i64 (m : Int))) none).run Try.prog W = .ok (.slice a m cap) W := by
  have he : Try.prog.elem 46 = 3 := by kernel_rfl
  have hs : ((sizeOf 3).run Try.prog W) = .ok 1 W := by kernel_rfl
  rw [run_slice_h W 46 a n cap (by rw [he]; exact Try.underlying46) .i64 (m : Int) (by omega) (by omega), he, hs]
  simp only [Result.andThen, sliced, Int.toNat_natCast, Nat.zero_mul, Nat.sub_zero]
  congr 2
  rcases a with _ | ad
  · simp
  · simp [Addr.add]
theorem Ints.take {w : World} {a : Option Addr} {n cap : Nat} {ns : List Int} (h : Ints w (.slice a n cap) ns) (m : Nat) (hm : m ≤ n) : Ints w (.slice a m cap) (ns.take m) := by
  obtain ⟨a', cap', hv, hc, hn, hr⟩ := h
  injection hv with e1 e2 e3
  subst e1 e3
  have hl : (ns.take m).length = m := by rw [List.length_take]; omega
  refine ⟨a, cap, by rw [hl], by omega, hn, fun hp => ?_⟩
  obtain ⟨g, o, ha, hf⟩ := hr (by omega)
  refine ⟨g, o, ha, fun i hi => ?_⟩
  rw [hf i (by omega)]
  rw [List.getD_eq_getElem?_getD, List.getD_eq_getElem?_getD, List.getElem?_take, if_pos (by omega)]
set_option maxRecDepth 100000 in
set_option maxHeartbeats 8000000 in
theorem roles_law (a b : Int) (ns : List Int) (v : Value) (w : World) (hv : Ints w v ns) (hl : ns.length ≤ 9223372036854775807) :
    Calls Try.prog 5 #[.int .i64 a, .int .i64 b, v] w fun e w' => e = .returned (.bool true) ∧ Below w.heap.size w w' := by
  have HV := Bx.mk hv
  obtain ⟨al, cl, rfl, hc, hnone, -⟩ := hv
  obtain ⟨n, hnn⟩ : ∃ n, ns.length = n := ⟨_, rfl⟩
  obtain ⟨m, hm⟩ : ∃ m, m = min n 10 := ⟨_, rfl⟩
  have m1 : (if (10 : Int) < (n : Int) then (10 : Int) else (n : Int)) = (m : Int) := by split <;> omega
  have s1 := fun W => cut_ints al n cl m (by omega) (by omega) hnone W
  rw [hnn] at hl hc HV ⊢
  have HM : Bx (Ints w (.slice al m cl) (ns.take m)) := Bx.mk (HV.out.take m (by omega))
  have HZ : Bx ((ns.take m).length = m ∧ m ≤ 10) := Bx.mk (by rw [List.length_take]; omega)
  generalize ns.take m = zs at *
  have hn1 : (n : Int) ≤ 9223372036854775807 := by omega
  clear hnn hm hc hnone hl HV
  obtain ⟨B, hB⟩ : ∃ B, w.heap.size = B := ⟨_, rfl⟩
  rw [hB]
  obtain ⟨x, hx, ex⟩ := low8 a
  obtain ⟨y, hy, ey⟩ := low8 b
  have hx1 : (x : Int) < 256 := by omega
  go_enter Try.func5, Try.ntmps5
  go_wp2_with fail
  try rw [ex]
  try rw [ey]
  clear ex ey m1 s1
  by_cases hR : zs.all isR = true
  · refine (mask_ok zs _ w HM.out (by have := HZ.out; omega) hR).mono ?_
    rintro e w1 ⟨rfl, hw⟩
    rw [hw]
    clear hw w1
    go_wp2
    refine loop1 (.int .i64 a) (.int .i64 (mkN zs : Int)) (.int .i64 0) al m cl x y zs w hx HZ.out.2 HM.out _ _ _ ⟨⟨rfl, rfl⟩, rfl, rfl, rfl, rfl, rfl, rfl, by rw [List.take_zero]; rfl, by rw [List.take_zero]; rfl, rfl, rfl⟩ ?_
    intro a' w' h
    obtain ⟨xx, rfl, hxx⟩ := open195 h.fr
    have e0 := (hxx 0).symm.trans h.s0
    have e2 := (hxx 2).symm.trans h.s2
    have e7 := (hxx 7).symm.trans h.s7
    have e8 := (hxx 8).symm.trans h.s8
    have e9 := (hxx 9).symm.trans h.s9
    have e10 := (hxx 10).symm.trans h.s10
    have e11 := (hxx 11).symm.trans h.s11
    have e12 := (hxx 12).symm.trans h.s12
    have e13 := (hxx 13).symm.trans h.s13
    have ew := h.w
    subst ew
    clear h hxx
    rw [e0, e2, e7, e8, e9, e10, e11, e12, e13]
    clear e0 e2 e7 e8 e9 e10 e11 e12 e13
    rw [List.take_of_length_le (by have := HZ.out; omega), hR]
    obtain ⟨Hb, hH⟩ : ∃ b, hasL x zs = b := ⟨_, rfl⟩
    rw [hH]
    have HHs : Bx (∀ W vv, Ints W vv zs → _) := Bx.mk (fun W vv h => has_any 0 0 0 x zs vv W hx h (by have := HZ.out; omega))
    rw [hH] at HHs
    have HTo : Bx (∀ W, _) := Bx.mk (fun W => cto_any ⟨0, (x : Int), 0, 0⟩ W)
    unfold clV at HHs HTo
    simp only at HHs HTo
    clear hH
    have hHb : (Hb != Hb) = false := by cases Hb <;> rfl
    obtain ⟨cv, hcv⟩ : ∃ b, covN x y = b := ⟨_, rfl⟩
    have hcb : (cv != cv) = false := by cases cv <;> rfl
    go_wp2_with fail
    refine (covers_any x y w' (by omega) (by omega)).mono ?_
    rintro e w1 ⟨rfl, hw⟩
    rw [hw, hcv]
    clear hw w1
    go_wp2_with fail
    refine (rcov_any x y w' hx hy).mono ?_
    rintro e w1 ⟨rfl, hw⟩
    rw [hw, hcv]
    clear hw w1 hcv
    go_wp2_with fail
    refine (HTo.out w').mono ?_
    rintro e w1 ⟨rfl, hb1⟩
    have H1 : Bx (Ints w1 (.slice al m cl) zs ∧ Below B w' w1 ∧ B ≤ w1.heap.size) := Bx.mk ⟨HM.out.later hb1, by rw [← hB]; exact hb1, by rw [← hB]; exact hb1.size⟩
    clear hb1 HTo
    go_wp2_with fail
    refine (HHs.out w1 _ H1.out.1).mono ?_
    rintro e w2 ⟨rfl, hb2⟩
    have H2 : Bx (Ints w2 (.slice al m cl) zs ∧ Below B w' w2 ∧ B ≤ w2.heap.size) := Bx.mk ⟨H1.out.1.later hb2, H1.out.2.1.trans (hb2.mono H1.out.2.2), Nat.le_trans H1.out.2.2 hb2.size⟩
    clear hb2 H1 HHs
    go_wp2_with fail
    refine (roles_ok x w2 hx).mono ?_
    rintro e w3 ⟨vr, rfl, ho3, hb3⟩
    obtain ⟨ar, cr, hvr⟩ := ho3.form
    obtain ⟨nr, hnr⟩ : ∃ n, (rolesK x 8).length = n := ⟨_, rfl⟩
    rw [hnr] at hvr
    subst hvr
    have H3 : Bx (Ints w3 (.slice al m cl) zs ∧ Below B w' w3 ∧ B ≤ w3.heap.size ∧ Ints w3 (.slice ar nr cr) (rolesK x 8)) := Bx.mk ⟨H2.out.1.later hb3, H2.out.2.1.trans (hb3.mono H2.out.2.2), Nat.le_trans H2.out.2.2 hb3.size, ho3.ints⟩
    have HNr : Bx (nr ≤ 8) := Bx.mk (by rw [← hnr]; exact rolesK_length x 8)
    clear hb3 ho3 H2
    go_wp2
    refine loop2 (.int .i64 a) (.int .i64 (mkN zs : Int)) (.bool true) al m cl x ar nr cr w3 hx H3.out.2.2.2 _ _ _ ⟨⟨rfl, rfl⟩, rfl, rfl, rfl, rfl, rfl, rfl, rfl, rfl, rfl⟩ ?_
    intro a' w4 h
    obtain ⟨xx, rfl, hxx⟩ := open195 h.fr
    have e0 := (hxx 0).symm.trans h.s0
    have e2 := (hxx 2).symm.trans h.s2
    have e7 := (hxx 7).symm.trans h.s7
    have e9 := (hxx 9).symm.trans h.s9
    have e11 := (hxx 11).symm.trans h.s11
    have e15 := (hxx 15).symm.trans h.s15
    have e16 := (hxx 16).symm.trans h.s16
    have e17 := (hxx 17).symm.trans h.s17
    have ew := h.w
    subst ew
    clear h hxx
    rw [e0, e2, e7, e9, e11, e15, e16, e17]
    clear e0 e2 e7 e9 e11 e15 e16 e17
    rw [hnr]
    go_wp2_with fail
    refine (mask_ok (rolesK x 8) _ w4 H3.out.2.2.2 (by rw [hnr]; have := HNr.out; omega) (roles_back x hx).2).mono ?_
    rintro e w5 ⟨rfl, hw⟩
    rw [hw, (roles_back x hx).1]
    clear hw w5 hnr
    go_wp2
    refine loop3 (.int .i64 a) (.slice ar nr cr) (.int .i64 (nr : Int)) (.int .i64 (x : Int)) (.int .i64 0) al m cl x zs w4 HZ.out.2 H3.out.1 hR _ _ _ ⟨⟨rfl, rfl⟩, rfl, rfl, rfl, rfl, rfl, rfl, rfl, rfl, rfl, rfl, rfl⟩ ?_
    intro a' w6 h
    obtain ⟨xx, rfl, hxx⟩ := open195 h.fr
    have e0 := (hxx 0).symm.trans h.s0
    have e2 := (hxx 2).symm.trans h.s2
    have e7 := (hxx 7).symm.trans h.s7
    have e9 := (hxx 9).symm.trans h.s9
    have e11 := (hxx 11).symm.trans h.s11
    have e15 := (hxx 15).symm.trans h.s15
    have e16 := (hxx 16).symm.trans h.s16
    have e18 := (hxx 18).symm.trans h.s18
    have e19 := (hxx 19).symm.trans h.s19
    have e20 := (hxx 20).symm.trans h.s20
    have ew := h.w
    subst ew
    clear h hxx
    rw [e0, e2, e7, e9, e11, e15, e16, e18, e19, e20]
    clear e0 e2 e7 e9 e11 e15 e16 e18 e19 e20
    by_cases h0 : a < 0
    · have h0i : ¬ 0 ≤ a := by omega
      go_wp2_with fail
      refine (known5_any w6).mono ?_
      rintro e w7 ⟨rfl, hb7⟩
      have H7 : Bx (Below B w' w7) := Bx.mk (H3.out.2.1.trans (hb7.mono H3.out.2.2.1))
      clear hb7
      go_wp2_with fail
      refine (roles_bad a w7 (.inl h0)).mono ?_
      rintro e w8 ⟨rfl, hw⟩
      rw [hw]
      clear hw w8
      go_wp2
      go_ret
      exact ⟨rfl, H7.out⟩
    by_cases h8 : 255 < a
    · have h0i : 0 ≤ a := by omega
      have h8i : ¬ a < 256 := by omega
      go_wp2_with fail
      refine (known5_any w6).mono ?_
      rintro e w7 ⟨rfl, hb7⟩
      have H7 : Bx (Below B w' w7) := Bx.mk (H3.out.2.1.trans (hb7.mono H3.out.2.2.1))
      clear hb7
      go_wp2_with fail
      refine (roles_bad a w7 (.inr h8)).mono ?_
      rintro e w8 ⟨rfl, hw⟩
      rw [hw]
      clear hw w8
      go_wp2
      go_ret
      exact ⟨rfl, H7.out⟩
    have h0i : 0 ≤ a := by omega
    have h8i : a < 256 := by omega
    go_wp2_with fail
    refine (known5_any w6).mono ?_
    rintro e w7 ⟨rfl, hb7⟩
    have H7 : Bx (Below B w' w7) := Bx.mk (H3.out.2.1.trans (hb7.mono H3.out.2.2.1))
    clear hb7
    go_wp2
    go_ret
    exact ⟨rfl, H7.out⟩
  · have hR : zs.all isR = false := by simpa using hR
    refine (mask_bad zs _ w HM.out (by have := HZ.out; omega) hR).mono ?_
    rintro e w1 ⟨rfl, hw⟩
    rw [hw]
    clear hw w1
    go_wp2
    refine loop1 (.int .i64 a) (.int .i64 0) (.int .i64 10) al m cl x y zs w hx HZ.out.2 HM.out _ _ _ ⟨⟨rfl, rfl⟩, rfl, rfl, rfl, rfl, rfl, rfl, by rw [List.take_zero]; rfl, by rw [List.take_zero]; rfl, rfl, rfl⟩ ?_
    intro a' w' h
    obtain ⟨xx, rfl, hxx⟩ := open195 h.fr
    have e0 := (hxx 0).symm.trans h.s0
    have e2 := (hxx 2).symm.trans h.s2
    have e7 := (hxx 7).symm.trans h.s7
    have e8 := (hxx 8).symm.trans h.s8
    have e9 := (hxx 9).symm.trans h.s9
    have e10 := (hxx 10).symm.trans h.s10
    have e11 := (hxx 11).symm.trans h.s11
    have e12 := (hxx 12).symm.trans h.s12
    have e13 := (hxx 13).symm.trans h.s13
    have ew := h.w
    subst ew
    clear h hxx
    rw [e0, e2, e7, e8, e9, e10, e11, e12, e13]
    clear e0 e2 e7 e8 e9 e10 e11 e12 e13
    rw [List.take_of_length_le (by have := HZ.out; omega), hR]
    obtain ⟨Hb, hH⟩ : ∃ b, hasL x zs = b := ⟨_, rfl⟩
    rw [hH]
    have HHs : Bx (∀ W vv, Ints W vv zs → _) := Bx.mk (fun W vv h => has_any 0 0 0 x zs vv W hx h (by have := HZ.out; omega))
    rw [hH] at HHs
    have HTo : Bx (∀ W, _) := Bx.mk (fun W => cto_any ⟨0, (x : Int), 0, 0⟩ W)
    unfold clV at HHs HTo
    simp only at HHs HTo
    clear hH
    have hHb : (Hb != Hb) = false := by cases Hb <;> rfl
    obtain ⟨cv, hcv⟩ : ∃ b, covN x y = b := ⟨_, rfl⟩
    have hcb : (cv != cv) = false := by cases cv <;> rfl
    go_wp2_with fail
    refine (covers_any x y w' (by omega) (by omega)).mono ?_
    rintro e w1 ⟨rfl, hw⟩
    rw [hw, hcv]
    clear hw w1
    go_wp2_with fail
    refine (rcov_any x y w' hx hy).mono ?_
    rintro e w1 ⟨rfl, hw⟩
    rw [hw, hcv]
    clear hw w1 hcv
    go_wp2_with fail
    refine (HTo.out w').mono ?_
    rintro e w1 ⟨rfl, hb1⟩
    have H1 : Bx (Ints w1 (.slice al m cl) zs ∧ Below B w' w1 ∧ B ≤ w1.heap.size) := Bx.mk ⟨HM.out.later hb1, by rw [← hB]; exact hb1, by rw [← hB]; exact hb1.size⟩
    clear hb1 HTo
    go_wp2_with fail
    refine (HHs.out w1 _ H1.out.1).mono ?_
    rintro e w2 ⟨rfl, hb2⟩
    have H2 : Bx (Ints w2 (.slice al m cl) zs ∧ Below B w' w2 ∧ B ≤ w2.heap.size) := Bx.mk ⟨H1.out.1.later hb2, H1.out.2.1.trans (hb2.mono H1.out.2.2), Nat.le_trans H1.out.2.2 hb2.size⟩
    clear hb2 H1 HHs
    go_wp2_with fail
    refine (roles_ok x w2 hx).mono ?_
    rintro e w3 ⟨vr, rfl, ho3, hb3⟩
    obtain ⟨ar, cr, hvr⟩ := ho3.form
    obtain ⟨nr, hnr⟩ : ∃ n, (rolesK x 8).length = n := ⟨_, rfl⟩
    rw [hnr] at hvr
    subst hvr
    have H3 : Bx (Ints w3 (.slice al m cl) zs ∧ Below B w' w3 ∧ B ≤ w3.heap.size ∧ Ints w3 (.slice ar nr cr) (rolesK x 8)) := Bx.mk ⟨H2.out.1.later hb3, H2.out.2.1.trans (hb3.mono H2.out.2.2), Nat.le_trans H2.out.2.2 hb3.size, ho3.ints⟩
    have HNr : Bx (nr ≤ 8) := Bx.mk (by rw [← hnr]; exact rolesK_length x 8)
    clear hb3 ho3 H2
    go_wp2
    refine loop2 (.int .i64 a) (.int .i64 0) (.bool false) al m cl x ar nr cr w3 hx H3.out.2.2.2 _ _ _ ⟨⟨rfl, rfl⟩, rfl, rfl, rfl, rfl, rfl, rfl, rfl, rfl, rfl⟩ ?_
    intro a' w4 h
    obtain ⟨xx, rfl, hxx⟩ := open195 h.fr
    have e0 := (hxx 0).symm.trans h.s0
    have e2 := (hxx 2).symm.trans h.s2
    have e7 := (hxx 7).symm.trans h.s7
    have e9 := (hxx 9).symm.trans h.s9
    have e11 := (hxx 11).symm.trans h.s11
    have e15 := (hxx 15).symm.trans h.s15
    have e16 := (hxx 16).symm.trans h.s16
    have e17 := (hxx 17).symm.trans h.s17
    have ew := h.w
    subst ew
    clear h hxx
    rw [e0, e2, e7, e9, e11, e15, e16, e17]
    clear e0 e2 e7 e9 e11 e15 e16 e17
    rw [hnr]
    go_wp2_with fail
    refine (mask_ok (rolesK x 8) _ w4 H3.out.2.2.2 (by rw [hnr]; have := HNr.out; omega) (roles_back x hx).2).mono ?_
    rintro e w5 ⟨rfl, hw⟩
    rw [hw, (roles_back x hx).1]
    clear hw w5 hnr
    go_wp2
    refine wp_loop_rounds 1 ?_
    rw [rounds_succ]
    by_cases h0 : a < 0
    · have h0i : ¬ 0 ≤ a := by omega
      go_wp2_with fail
      refine (known5_any w4).mono ?_
      rintro e w7 ⟨rfl, hb7⟩
      have H7 : Bx (Below B w' w7) := Bx.mk (H3.out.2.1.trans (hb7.mono H3.out.2.2.1))
      clear hb7
      go_wp2_with fail
      refine (roles_bad a w7 (.inl h0)).mono ?_
      rintro e w8 ⟨rfl, hw⟩
      rw [hw]
      clear hw w8
      go_wp2
      go_ret
      exact ⟨rfl, H7.out⟩
    by_cases h8 : 255 < a
    · have h0i : 0 ≤ a := by omega
      have h8i : ¬ a < 256 := by omega
      go_wp2_with fail
      refine (known5_any w4).mono ?_
      rintro e w7 ⟨rfl, hb7⟩
      have H7 : Bx (Below B w' w7) := Bx.mk (H3.out.2.1.trans (hb7.mono H3.out.2.2.1))
      clear hb7
      go_wp2_with fail
      refine (roles_bad a w7 (.inr h8)).mono ?_
      rintro e w8 ⟨rfl, hw⟩
      rw [hw]
      clear hw w8
      go_wp2
      go_ret
      exact ⟨rfl, H7.out⟩
    have h0i : 0 ≤ a := by omega
    have h8i : a < 256 := by omega
    go_wp2_with fail
    refine (known5_any w4).mono ?_
    rintro e w7 ⟨rfl, hb7⟩
    have H7 : Bx (Below B w' w7) := Bx.mk (H3.out.2.1.trans (hb7.mono H3.out.2.2.1))
    clear hb7
    go_wp2
    go_ret
    exact ⟨rfl, H7.out⟩
end Go.Proofs.Ytiomjknhlfhlhaa
