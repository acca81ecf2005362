/-
  The walk of ClaimsCovers.
-/
import Derived.Test.YtiomjknhlfhlhaaCb
import Derived.Test.YtiomjknhlfhlhaaCd
namespace Go.Proofs.Ytiomjknhlfhlhaa
open Go Go.RowKit
set_option maxRecDepth 100000 in
set_option maxHeartbeats 4000000 in
theorem covers_law (a b c : Int) (w : World) :
    Calls Try.prog 6 #[.int .i64 a, .int .i64 b, .int .i64 c] w fun e w' => e = .returned (.bool true) ∧ Below w.heap.size w w' := by
  obtain ⟨B, hB⟩ : ∃ B, w.heap.size = B := ⟨_, rfl⟩
  rw [hB]
  go_enter Try.func6, Try.ntmps6
  go_wp2_with fail
  obtain ⟨x, hx, ex⟩ := low8 a
  obtain ⟨y, hy, ey⟩ := low8 b
  obtain ⟨z, hz, ez⟩ := low8 c
  rw [ex, ey, ez]
  clear ex ey ez
  refine (covers_any x y w (by omega) (by omega)).mono ?_
  rintro e w1 ⟨rfl, hw⟩
  rw [hw]
  clear hw w1
  go_wp2_with fail
  refine (covers_any y x w (by omega) (by omega)).mono ?_
  rintro e w1 ⟨rfl, hw⟩
  rw [hw]
  clear hw w1
  go_wp2_with fail
  refine (covers_any y z w (by omega) (by omega)).mono ?_
  rintro e w1 ⟨rfl, hw⟩
  rw [hw]
  clear hw w1
  go_wp2_with fail
  refine (roles_ok x w hx).mono ?_
  rintro e w1 ⟨v1, rfl, ho1, hb1⟩
  rw [hB] at ho1 hb1
  have HX := Bx.mk (roles_back x hx)
  have HY := Bx.mk (roles_back y hy)
  have HLx := Bx.mk (rolesK_length x 8)
  have HLy := Bx.mk (rolesK_length y 8)
  generalize rolesK x 8 = rx at *
  have H1 := Bx.mk (And.intro ho1 hb1)
  obtain ⟨a1, c1, hv1⟩ := ho1.form
  subst hv1
  clear ho1 hb1
  go_wp2_with fail
  refine (roles_ok y w1 hy).mono ?_
  rintro e w2 ⟨v2, rfl, ho2, hb2⟩
  generalize rolesK y 8 = ry at *
  have H2 : Bx (OwnI w2 B (.slice a1 rx.length c1) rx ∧ Ints w2 v2 ry ∧ Below B w w2 ∧ B ≤ w2.heap.size) := Bx.mk ⟨H1.out.1.later hb2 (fun g hg => (H1.out.1.lt g hg).1), ho2.ints, H1.out.2.trans (hb2.mono (by have := H1.out.2.size; omega)), by have := H1.out.2.size; have := hb2.size; omega⟩
  obtain ⟨a2, c2, hv2⟩ := ho2.form
  subst hv2
  clear ho2 hb2 H1
  go_upto_region 4 with (refine wpList_apI rfl _ _ rfl B _ _ rfl H2.out.1 _ _ rfl H2.out.2.1 (by have := HLx.out; have := HLy.out; omega) H2.out.2.2.2 ?_; intro v3 w3 ho3 hg3)
  have H3 : Bx (Ints w3 v3 (rx ++ ry) ∧ Below B w w3) := Bx.mk ⟨ho3.ints, H2.out.2.2.1.trans (ownI_below H2.out.1 hg3 H2.out.2.2.2)⟩
  have HM : Bx (mkN (rx ++ ry) = x ||| y) := Bx.mk (by rw [mkN_append, HX.out.1, HY.out.1])
  have hxy : x ||| y < 256 := Nat.or_lt_two_pow (n := 8) hx hy
  obtain ⟨a3, c3, hv3⟩ := ho3.form
  rw [List.length_append] at hv3
  subst hv3
  clear ho3 hg3 H2
  go_wp2_with fail
  refine (mask_ok (rx ++ ry) _ w3 H3.out.1 (by have := HLx.out; have := HLy.out; simp; omega) (by rw [List.all_append, HX.out.2, HY.out.2]; rfl)).mono ?_
  rintro e w4 ⟨rfl, hw⟩
  rw [hw, HM.out]
  clear hw w4 HM HX HY
  have HS := Bx.mk (And.intro (cov_self x) (And.intro (cov_left x y) (cov_right x y)))
  have HT : Bx ((covN x y = true → covN y x = true → x = y) ∧ (covN x y = true → covN y z = true → covN x z = true) ∧ (covN z x = true → covN z y = true → covN z (x ||| y) = true)) := Bx.mk ⟨cov_anti, cov_trans, cov_or⟩
  obtain ⟨m, hm⟩ : ∃ m, x ||| y = m := ⟨_, rfl⟩
  rw [hm] at HS HT hxy ⊢
  clear hm
  go_wp2_with fail
  refine (known5_any w3).mono ?_
  rintro e w5 ⟨rfl, hb5⟩
  have H5 : Bx (Below B w w5) := Bx.mk (H3.out.2.trans (hb5.mono (by rw [← hB]; exact H3.out.2.size)))
  clear hb5 H3
  go_wp2_with (refine (covers_any _ _ w5 (by omega) (by omega)).mono ?_; rintro e w6 ⟨rfl, hw⟩; rw [hw]; clear hw w6; try rw [HS.out.1]; try rw [HS.out.2.1]; try rw [HS.out.2.2])
  all_goals go_ret
  all_goals refine ⟨ret_bool ?_, H5.out⟩
  all_goals have t1 := HT.out.1
  all_goals have t2 := HT.out.2.1
  all_goals have t3 := HT.out.2.2
  all_goals have s1 := HS.out
  all_goals clear HT HS
  all_goals first | rfl | simp_all
end Go.Proofs.Ytiomjknhlfhlhaa
