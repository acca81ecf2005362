/-
  The walk of TokenReads.
-/
import Derived.Test.YtiengbmnfbbgoaaDoorQm
import Derived.Test.YtiengbmnfbbgoaaDoorQd
namespace Go.Proofs.YtiengbmnfbbgoaaDoor
open Go Go.RowKit
set_option maxRecDepth 100000 in
set_option maxHeartbeats 1000000 in
theorem reads_short (m0 b0 : List UInt8) (vm vb : Value) (w : World) (hm : Bytes w vm m0) (hb : Bytes w vb b0) (hml : m0.length ≤ 9223372036854775807) (hbl : b0.length ≤ 9223372036854775807) (hc : (b0.take 50).length < 41) (hTab : Tab w) (hg : 0 < w.heap.size) :
    Calls Tryd.prog 4 #[vm, vb] w fun e w' => e = .returned (.bool true) ∧ Below w.heap.size w w' := by
  obtain ⟨zc, hzc⟩ : ∃ zc, tkC c0 z32 = zc := ⟨_, rfl⟩
  have hzv : ∀ W : World, (zeroValue 39).run Tryd.prog W = .ok (.agg zc) W := fun W => by rw [← hzc]; exact tk_zero W
  have hbz : Tryd.prog.built 39 [] = some zc := by rw [← hzc]; exact tk_none
  have HM1 : Bx ((Tryd.prog.info? 39).map (·.size) = some zc.size ∧ zc.all (·.oneCell') = true) := Bx.mk (by rw [← hzc]; exact ⟨tk_info _ _ rfl, tkC_one _ _⟩)
  have hself : ∀ W : World, (binOp .eql 39 (.agg zc) (.agg zc)).run Tryd.prog W = .ok (.bool true) W := fun W => by rw [← hzc]; exact self_tk_eql _ _ rfl W
  have HT : Bx (∀ W, Below w.heap.size w W → Tab W ∧ 0 < W.heap.size) := Bx.mk fun W hb => ⟨hTab.later hb hg, Nat.lt_of_lt_of_le hg hb.size⟩
  have HCm := Bx.mk (cut6_any m0 70 vm w hm hml (by omega))
  have HCb := Bx.mk (cut6_any b0 50 vb w hb hbl (by omega))
  have HMl : Bx ((m0.take 70).length ≤ 70) := Bx.mk (by rw [List.length_take]; omega)
  have HBl : Bx ((b0.take 50).length ≤ 50) := Bx.mk (by rw [List.length_take]; omega)
  have HV := Bx.mk (And.intro hm hb)
  obtain ⟨am, cm, rfl, -⟩ := hm
  obtain ⟨ab, cb, rfl, -⟩ := hb
  clear hTab hg hml hbl
  generalize m0.take 70 = mk at *
  generalize b0.take 50 = bb at *
  generalize m0.length = mn at *
  generalize b0.length = bn at *
  have HP : Bx (∀ (W : World) v, Bytes W v bb → Calls Tryd.prog 20 #[v] W fun e w' => e = .returned (.tuple #[.agg zc, .int .i64 4]) ∧ Below W.heap.size W w') := Bx.mk fun W v hv => by
    have h := tparse_len bb v W hv (by have := HBl.out; omega) (by omega)
    rw [if_pos hc] at h
    unfold TNone tkV at h
    rw [hzc] at h
    exact h
  clear hzc
  obtain ⟨B, hB⟩ : ∃ B, w.heap.size = B := ⟨_, rfl⟩
  have HB := Bx.mk hB
  rw [hB] at HT ⊢
  go_enter Tryd.func4, Tryd.ntmps4
  go_wp2_with fail
  refine HCm.out.mono ?_
  rintro e w1 ⟨v1, rfl, hm1, rfl⟩
  have HM := Bx.mk (hm1 w HV.out.1)
  clear hm1
  go_wp2_with fail
  refine HCb.out.mono ?_
  rintro e w1 ⟨v2, rfl, hb1, rfl⟩
  have HBB := Bx.mk (hb1 w HV.out.2)
  clear hb1 HCm HCb
  obtain ⟨am, cm, hv1, -⟩ := HM.out
  subst hv1
  obtain ⟨ab, cb, hv2, hcap, hnil, -⟩ := HBB.out
  subst hv2
  generalize mk.length = mn at *
  obtain ⟨n, hn⟩ : ∃ n, bb.length = n := ⟨_, rfl⟩
  rw [hn] at HBB hcap
  rw [hn] at hc
  have hn1 : (n : Int) < 41 := by omega
  clear hcap hnil hc
  go_wp2_with fail
  refine (HP.out w _ HBB.out).mono ?_
  rintro e w1 ⟨rfl, hb1⟩
  have H1 := Bx.mk ((KS.start w B HB.out).later hb1)
  clear hb1 HP
  obtain ⟨D, hD⟩ : ∃ D, w1.heap.size = D := ⟨_, rfl⟩
  have HDB : Bx (B ≤ D) := Bx.mk (by rw [← hD]; exact H1.out.le)
  have H2 := Bx.mk (H1.out.new (.cells zc 39))
  rw [hD] at H2
  clear H1
  go_upto_region 4 with (refine wpList_store_new rfl 39 _ _ rfl D zc zc _ (by rfl) (by rfl) (H2.out.rows _ (.head _)) rfl HM1.out.1 HM1.out.2 ?_; intro w3 hw8 hr8; have hg8 := Bx.mk (kb_of hw8); have HR8 := Bx.mk hr8; clear hw8 hr8)
  have B1 := Bx.mk (H2.out.set hg8.out HR8.out HDB.out (fun y hy => (List.not_mem_nil hy).elim))
  clear H2 hg8 HR8 hD
  clear hn
  go_wp2_with fail
  refine (known6_any w3 (HT.out w3 B1.out.below).1 (HT.out w3 B1.out.below).2).mono ?_
  rintro e wk ⟨rfl, hbk⟩
  have BK := Bx.mk (B1.out.later hbk)
  clear hbk B1
  go_wp2_with (first | (refine wpList_load_roww (by rfl) 39 _ rfl D (by rfl) _ _ _ _ (BK.out.rows _ (.head _)) Tryd.underlying39 rfl HM1.out.1 ?_) | (refine wpList_buildw (by rfl) 39 _ rfl zc hbz ?_))
  go_ret
  exact ⟨rfl, BK.out.below⟩
set_option maxRecDepth 100000 in
set_option maxHeartbeats 1000000 in
theorem reads_form (m0 b0 : List UInt8) (vm vb : Value) (w : World) (hm : Bytes w vm m0) (hb : Bytes w vb b0) (hml : m0.length ≤ 9223372036854775807) (hbl : b0.length ≤ 9223372036854775807) (hc : 41 ≤ (b0.take 50).length) (hc2 : 41 < (b0.take 50).length ∨ dE ((b0.take 50).take 9) = 3) (hTab : Tab w) (hg : 0 < w.heap.size) :
    Calls Tryd.prog 4 #[vm, vb] w fun e w' => e = .returned (.bool true) ∧ Below w.heap.size w w' := by
  obtain ⟨zc, hzc⟩ : ∃ zc, tkC c0 z32 = zc := ⟨_, rfl⟩
  have hzv : ∀ W : World, (zeroValue 39).run Tryd.prog W = .ok (.agg zc) W := fun W => by rw [← hzc]; exact tk_zero W
  have hbz : Tryd.prog.built 39 [] = some zc := by rw [← hzc]; exact tk_none
  have HM1 : Bx ((Tryd.prog.info? 39).map (·.size) = some zc.size ∧ zc.all (·.oneCell') = true) := Bx.mk (by rw [← hzc]; exact ⟨tk_info _ _ rfl, tkC_one _ _⟩)
  have hself : ∀ W : World, (binOp .eql 39 (.agg zc) (.agg zc)).run Tryd.prog W = .ok (.bool true) W := fun W => by rw [← hzc]; exact self_tk_eql _ _ rfl W
  have HT : Bx (∀ W, Below w.heap.size w W → Tab W ∧ 0 < W.heap.size) := Bx.mk fun W hb => ⟨hTab.later hb hg, Nat.lt_of_lt_of_le hg hb.size⟩
  have HCm := Bx.mk (cut6_any m0 70 vm w hm hml (by omega))
  have HCb := Bx.mk (cut6_any b0 50 vb w hb hbl (by omega))
  have HMl : Bx ((m0.take 70).length ≤ 70) := Bx.mk (by rw [List.length_take]; omega)
  have HBl : Bx ((b0.take 50).length ≤ 50) := Bx.mk (by rw [List.length_take]; omega)
  have HV := Bx.mk (And.intro hm hb)
  obtain ⟨am, cm, rfl, -⟩ := hm
  obtain ⟨ab, cb, rfl, -⟩ := hb
  clear hTab hg hml hbl
  generalize m0.take 70 = mk at *
  generalize b0.take 50 = bb at *
  generalize m0.length = mn at *
  generalize b0.length = bn at *
  have HHl : Bx ((bb.take 9).length = 9) := Bx.mk (by rw [List.length_take]; omega)
  have HP : Bx (∀ (W : World) v, Bytes W v bb → Calls Tryd.prog 20 #[v] W fun e w' => e = .returned (.tuple #[.agg zc, .int .i64 3]) ∧ Below W.heap.size W w') := Bx.mk fun W v hv => by
    have h : Calls Tryd.prog 20 #[v] W (TNone 3 W) := by
      by_cases h1 : bb.length = 41
      · exact tparse_bad bb v W hv h1 (by rw [psE_is, if_neg (by rw [HHl.out]; omega)]; exact hc2.resolve_left (by omega))
      · have h := tparse_len bb v W hv (by have := HBl.out; omega) h1
        rw [if_neg (by omega)] at h
        exact h
    unfold TNone tkV at h
    rw [hzc] at h
    exact h
  have HDp : Bx (∀ (W : World) v, Bytes W v (bb.take 9) → Calls Tryd.prog 27 #[v] W fun e w' => e = .returned (.tuple #[clV (dC (bb.take 9)), .int .i64 (dE (bb.take 9))]) ∧ Below W.heap.size W w') := Bx.mk fun W v hv => dparse_any (bb.take 9) v W hv (by rw [HHl.out]; omega)
  clear hzc
  obtain ⟨B, hB⟩ : ∃ B, w.heap.size = B := ⟨_, rfl⟩
  have HB := Bx.mk hB
  rw [hB] at HT ⊢
  go_enter Tryd.func4, Tryd.ntmps4
  go_wp2_with fail
  refine HCm.out.mono ?_
  rintro e w1 ⟨v1, rfl, hm1, rfl⟩
  have HM := Bx.mk (hm1 w HV.out.1)
  clear hm1
  go_wp2_with fail
  refine HCb.out.mono ?_
  rintro e w1 ⟨v2, rfl, hb1, rfl⟩
  have HBB := Bx.mk (hb1 w HV.out.2)
  clear hb1 HCm HCb
  obtain ⟨am, cm, hv1, -⟩ := HM.out
  subst hv1
  obtain ⟨ab, cb, hv2, hcap, hnil, -⟩ := HBB.out
  subst hv2
  generalize mk.length = mn at *
  obtain ⟨n, hn⟩ : ∃ n, bb.length = n := ⟨_, rfl⟩
  rw [hn] at HBB hcap
  rw [hn] at hc hc2
  have hn1 : ¬ ((n : Int) < 41) := by omega
  have hsl : ∀ W, (Instr.slice 22 (.slice ab n cb) none (some (.int .i64 9)) none).run Tryd.prog W = .ok (.slice ab 9 cb) W := fun W => cut_bytes ab n cb 9 (by omega) hcap hnil W
  have h9 : (9 : Int) ≤ (n : Int) := by omega
  have HT9 := Bx.mk (HBB.out.take 9 (by omega))
  have HC2 := Bx.mk hc2
  clear hcap hnil hc hc2
  go_wp2_with fail
  refine (HP.out w _ HBB.out).mono ?_
  rintro e w1 ⟨rfl, hb1⟩
  have H1 := Bx.mk ((KS.start w B HB.out).later hb1)
  clear hb1 HP
  obtain ⟨D, hD⟩ : ∃ D, w1.heap.size = D := ⟨_, rfl⟩
  have HDB : Bx (B ≤ D) := Bx.mk (by rw [← hD]; exact H1.out.le)
  have H2 := Bx.mk (H1.out.new (.cells zc 39))
  rw [hD] at H2
  clear H1
  go_upto_region 5 with (refine wpList_store_new rfl 39 _ _ rfl D zc zc _ (by rfl) (by rfl) (H2.out.rows _ (.head _)) rfl HM1.out.1 HM1.out.2 ?_; intro w3 hw8 hr8; have hg8 := Bx.mk (kb_of hw8); have HR8 := Bx.mk hr8; clear hw8 hr8)
  have B1 := Bx.mk (H2.out.set hg8.out HR8.out HDB.out (fun y hy => (List.not_mem_nil hy).elim))
  clear H2 hg8 HR8 hD
  clear hn
  generalize bb.take 9 = hd at *
  generalize dC hd = dc at *
  obtain ⟨j0, j1, j2, j3⟩ := dc
  unfold clV at HDp
  simp only at HDp
  obtain ⟨er, her⟩ : ∃ er, dE hd = er := ⟨_, rfl⟩
  rw [her] at HDp HC2
  clear her
  go_wp2_with fail
  refine (HDp.out w3 _ (HT9.out.later (by rw [HB.out]; exact B1.out.below))).mono ?_
  rintro e w4 ⟨rfl, hb4⟩
  have B1 := Bx.mk (((B1.out.later hb4).new (.cells #[.int .i64 j0, .int .i64 j1, .int .i64 j2, .int .i64 j3] 24)))
  clear hb4 HDp
  by_cases h1 : 41 < n
  · have t1 : (41 : Int) < (n : Int) := by omega
    go_upto_region 7 with fail
    generalize w4.alloc (.cells #[.int .i64 j0, .int .i64 j1, .int .i64 j2, .int .i64 j3] 24) = w5 at *
    go_wp2_with fail
    refine (known6_any w5 (HT.out w5 B1.out.below).1 (HT.out w5 B1.out.below).2).mono ?_
    rintro e wk ⟨rfl, hbk⟩
    have BK := Bx.mk (B1.out.later hbk)
    clear hbk B1
    go_wp2_with (first | (refine wpList_load_roww (by rfl) 39 _ rfl D (by rfl) _ _ _ _ (BK.out.rows _ (.tail _ (.head _))) Tryd.underlying39 rfl HM1.out.1 ?_) | (refine wpList_buildw (by rfl) 39 _ rfl zc hbz ?_))
    go_ret
    exact ⟨rfl, BK.out.below⟩
  · have t1 : ¬ ((41 : Int) < (n : Int)) := by omega
    obtain rfl : er = 3 := HC2.out.resolve_left h1
    go_upto_region 7 with fail
    generalize w4.alloc (.cells #[.int .i64 j0, .int .i64 j1, .int .i64 j2, .int .i64 j3] 24) = w5 at *
    go_wp2_with fail
    refine (known6_any w5 (HT.out w5 B1.out.below).1 (HT.out w5 B1.out.below).2).mono ?_
    rintro e wk ⟨rfl, hbk⟩
    have BK := Bx.mk (B1.out.later hbk)
    clear hbk B1
    go_wp2_with (first | (refine wpList_load_roww (by rfl) 39 _ rfl D (by rfl) _ _ _ _ (BK.out.rows _ (.tail _ (.head _))) Tryd.underlying39 rfl HM1.out.1 ?_) | (refine wpList_buildw (by rfl) 39 _ rfl zc hbz ?_))
    go_ret
    exact ⟨rfl, BK.out.below⟩
end Go.Proofs.YtiengbmnfbbgoaaDoor
