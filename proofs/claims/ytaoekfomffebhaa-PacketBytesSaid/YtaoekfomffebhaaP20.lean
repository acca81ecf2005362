/-
  Packets as bytes: the law.
-/
import Derived.Test.YtaoekfomffebhaaP9
import Derived.Test.YtaoekfomffebhaaP1
import Derived.Test.YtaoekfomffebhaaP6
import Derived.OpenShut
import Derived.ChangeArms
import Derived.Deep.Slices
import Derived.Deep.Matrix
namespace Go.Proofs.Ytaoekfomffebhaa
open Go Go.ChangeShapes Go.WideShapes Go.ChangeAt Go.RowKit
set_option maxRecDepth 100000 in
set_option maxHeartbeats 4000000 in
theorem walkPacketBytes (X : Pk) (v : Value) (n : Int) (w : World) (ht : X.t.length = 32) (hb : Bytes w v X.b) (hl : X.b.length ≤ 9223372036854775807) :
    Calls Try.prog 3 #[pkV X v, .int .i64 n] w fun e w' => e = .returned (.bool true) ∧ Below w.heap.size w w' := by
  obtain ⟨aX, cX, rfl, -, -⟩ := bytes_form hb
  obtain ⟨zc, hzc⟩ : ∃ zc, pkC Pk.zero (.slice none 0 0) = zc := ⟨_, rfl⟩
  have hzv : ∀ W : World, (zeroValue 33).run Try.prog W = .ok (.agg zc) W := fun W => by rw [← hzc]; exact pk_zeroW W
  have hzr : ∀ W : World, (zeroValue 29).run Try.prog W = .ok (.agg zc) W := fun W => by rw [← hzc]; exact pk_zeroR W
  have HZ := Bx.mk (show zc.size = 41 by rw [← hzc, pkC_size _ _ rfl])
  obtain ⟨B, hB⟩ : ∃ B, w.heap.size = B := ⟨_, rfl⟩
  have HTo : Bx (∀ W, Below B w W → Calls Try.prog 4 #[pkV X (.slice aX X.b.length cX)] W fun e w' => ∃ u, e = .returned (pkV (cutP X) u) ∧ Bytes w' u (cutP X).b ∧ Below W.heap.size W w') := Bx.mk fun W h => to14 X _ W ht (hb.old hB h) hl
  have HIX := Bx.mk (pk_infoR X (.slice aX X.b.length cX) ht)
  have K0 := Bx.mk ((KP.start w B hB).new (.cells (pkC X (.slice aX X.b.length cX)) 29))
  rw [hB] at K0
  obtain ⟨tX, htX⟩ : ∃ tX, pkC X (.slice aX X.b.length cX) = tX := ⟨_, rfl⟩
  unfold pkV at HTo
  rw [htX] at HTo HIX K0
  have hpx : pkV X (.slice aX X.b.length cX) = .agg tX := by unfold pkV; rw [htX]
  rw [hpx]
  have ht2 : (cutP X).t.length = 32 := ht
  have hl2 : (cutP X).b.length ≤ 520 := by show (X.b.take 520).length ≤ 520; rw [List.length_take]; omega
  generalize cutP X = x at *
  rw [hB]
  clear hb hl ht hpx htX hzc
  go_enter Try.func3, Try.ntmps3
  go_wp2_with (refine wpList_load_row rfl 29 _ rfl B (by rfl) _ _ _ _ (K0.out.rows _ (.head _)) Try.underlying29 rfl HIX.out ?_)
  generalize w.alloc (.cells tX 29) = w0 at *
  refine (HTo.out w0 K0.out.below).mono ?_
  rintro e w1 ⟨u, rfl, hu, hb1⟩
  have K1 := Bx.mk (And.intro (K0.out.later hb1) hu)
  obtain ⟨au, cu, rfl, -, -⟩ := bytes_form hu
  clear hu hb1 K0 HTo
  have HC : Bx (∀ W, Bytes W (.slice au x.b.length cu) x.b → (Calls Try.prog 9 #[pkV x (.slice au x.b.length cu)] W fun e w' => e = .returned (.int .i64 (chkP x)) ∧ Below W.heap.size W w') ∧ (Calls Try.prog 8 #[pkV x (.slice au x.b.length cu)] W fun e w' => e = .returned (.int .i64 (chkP x)) ∧ Below W.heap.size W w') ∧ (Calls Try.prog 5 #[pkV x (.slice au x.b.length cu)] W fun e w' => e = .returned (pkV x (.slice au x.b.length cu)) ∧ Below W.heap.size W w') ∧ (Calls Try.prog 10 #[pkV x (.slice au x.b.length cu), pkV x (.slice au x.b.length cu)] W fun e w' => e = .returned (.bool true) ∧ Below W.heap.size W w')) := Bx.mk fun W h => ⟨check14 x _ W ht2 h, rcheck14 x _ W ht2 h, of14 x _ W ht2 h, psame14 x x _ _ W ht2 ht2 h h (by omega) (by omega) true (by simp)⟩
  have HBad : Bx (chkP x ≠ 0 → ∀ W, Bytes W (.slice au x.b.length cu) x.b → (Calls Try.prog 6 #[pkV x (.slice au x.b.length cu)] W fun e w' => e = .returned (.tuple #[.slice none 0 0, .int .i64 (chkP x)]) ∧ Below W.heap.size W w') ∧ (Calls Try.prog 7 #[pkV x (.slice au x.b.length cu)] W fun e w' => e = .returned (.tuple #[.slice none 0 0, .int .i64 (chkP x)]) ∧ Below W.heap.size W w')) := Bx.mk fun hc W h => ⟨pbytes_bad x _ W ht2 h hc, head14_bad x _ W ht2 h hc⟩
  have HOk : Bx (chkP x = 0 → ∀ W, Bytes W (.slice au x.b.length cu) x.b → (Calls Try.prog 6 #[pkV x (.slice au x.b.length cu)] W fun e w' => ∃ u, e = .returned (.tuple #[u, .int .i64 0]) ∧ OwnB w' W.heap.size u (pkB x) ∧ Below W.heap.size W w') ∧ (Calls Try.prog 7 #[pkV x (.slice au x.b.length cu)] W fun e w' => ∃ u, e = .returned (.tuple #[u, .int .i64 0]) ∧ OwnB w' W.heap.size u (hdB x) ∧ Below W.heap.size W w') ∧ (Calls Try.prog 15 #[pkV x (.slice au x.b.length cu)] W fun e w' => ∃ u, e = .returned u ∧ OwnB w' W.heap.size u (pkB x) ∧ Below W.heap.size W w') ∧ (Calls Try.prog 16 #[pkV x (.slice au x.b.length cu)] W fun e w' => ∃ u, e = .returned u ∧ OwnB w' W.heap.size u (hdB x) ∧ Below W.heap.size W w')) := Bx.mk fun hc W h => ⟨pbytes_ok x _ W ht2 h hc, head14_ok x _ W ht2 h hc, rbytes14 x _ W ht2 h hc, rhead14 x _ W ht2 h hc⟩
  have HPa : Bx (chkP x = 0 → ∀ W u, Bytes W u (pkB x) → Calls Try.prog 13 #[u] W fun e w' => ∃ u, e = .returned (.tuple #[pkV x u, .int .i64 0]) ∧ OwnB w' W.heap.size u x.b ∧ Below W.heap.size W w') := Bx.mk fun hc W u h => by
    obtain ⟨h1, h2⟩ := parse_fwd x hc ht2
    have := parse14 (pkB x) u W h (by unfold pkB; rw [List.length_append, hdB_length, ht2]; omega)
    rw [h1, h2] at this
    exact this
  have HSm : Bx (∀ W u, Bytes W u x.b → Bytes W (.slice au x.b.length cu) x.b → Calls Try.prog 10 #[pkV x u, pkV x (.slice au x.b.length cu)] W fun e w' => e = .returned (.bool true) ∧ Below W.heap.size W w') := Bx.mk fun W u h h2 => psame14 x x _ _ W ht2 ht2 h h2 (by omega) (by omega) true (by simp)
  have HIt : Bx (((Try.prog.info? 33).map (·.size) = some (pkC x (.slice au x.b.length cu)).size ∧ (Try.prog.info? 29).map (·.size) = some (pkC x (.slice au x.b.length cu)).size) ∧ (pkC x (.slice au x.b.length cu)).size = zc.size ∧ (pkC x (.slice au x.b.length cu)).all (·.oneCell') = true) := Bx.mk ⟨⟨pk_infoW _ _ ht2, pk_infoR _ _ ht2⟩, by rw [HZ.out, pkC_size _ _ ht2], pkC_one _ _ _ _⟩
  have HIz : Bx (∀ a n c, (Try.prog.info? 33).map (·.size) = some (pkC x (.slice a n c)).size ∧ (pkC x (.slice a n c)).size = zc.size ∧ (pkC x (.slice a n c)).all (·.oneCell') = true) := Bx.mk fun a n c => ⟨pk_infoW _ _ ht2, by rw [HZ.out, pkC_size _ _ ht2], pkC_one _ _ _ _⟩
  have HLen : Bx ((pkB x).length = 52 + x.b.length ∧ x.b.length ≤ 520 ∧ (hdB x).length = 20 + x.b.length ∧ (chkP x = 0 → x.b.length ≤ 512)) := Bx.mk ⟨by unfold pkB; rw [List.length_append, hdB_length, ht2]; omega, hl2, hdB_length x, fun h => (chkP_ok h).2.2.2.2.1⟩
  unfold pkV at *
  obtain ⟨tk, htk⟩ : ∃ tk, pkC x (.slice au x.b.length cu) = tk := ⟨_, rfl⟩
  rw [htk] at HC HBad HOk HSm HIt ⊢
  have HTK := Bx.mk htk
  clear ht2 hl2 htk
  obtain ⟨A, hA⟩ : ∃ A, w1.heap.size = A := ⟨_, rfl⟩
  have HnA : Bx ((w1.alloc (.cells zc 33)).heap[A]? = some (.cells zc 33 (0, 0))) := Bx.mk (hnew _ _ _ hA.symm)
  go_wp2_with (first | (refine wpList_store_new rfl 33 _ _ rfl A tk zc _ (by rfl) (by rfl) HnA.out HIt.out.2.1 HIt.out.1.1 HIt.out.2.2 ?_; intro w2 hw8 hr8; have F2 := Bx.mk (K1.out.1.fresh hA (kb_ofP hw8) hr8); have K2 := Bx.mk (And.intro F2.out.1 (K1.out.2.later F2.out.2)); clear hw8 hr8 F2) | (refine wpList_load_row rfl 33 _ rfl A (by rfl) _ _ _ _ (K2.out.1.rows _ (.head _)) Try.underlying33 rfl HIt.out.1.1 ?_))
  clear K1 HnA hA
  refine (HC.out w2 K2.out.2).2.2.1.mono ?_
  rintro e w3 ⟨rfl, hb3⟩
  have K3 := Bx.mk (And.intro (K2.out.1.later hb3) (K2.out.2.later hb3))
  clear hb3 K2
  obtain ⟨E, hE⟩ : ∃ E, w3.heap.size = E := ⟨_, rfl⟩
  have HnE : Bx ((w3.alloc (.cells zc 29)).heap[E]? = some (.cells zc 29 (0, 0))) := Bx.mk (hnew _ _ _ hE.symm)
  go_wp2_with (first | (refine wpList_store_new rfl 29 _ _ rfl E tk zc _ (by rfl) (by rfl) HnE.out HIt.out.2.1 HIt.out.1.2 HIt.out.2.2 ?_; intro w4 hw8 hr8; have F4 := Bx.mk (K3.out.1.fresh hE (kb_ofP hw8) hr8); have K4 := Bx.mk (And.intro F4.out.1 (K3.out.2.later F4.out.2)); clear hw8 hr8 F4) | (refine wpList_load_row rfl 33 _ rfl A (by rfl) _ _ _ _ (K4.out.1.rows _ (.tail _ (.head _))) Try.underlying33 rfl HIt.out.1.1 ?_))
  have HZv := Bx.mk hzv
  clear K3 HnE hE hzv hzr
  by_cases hc : chkP x = 0
  · by_cases hn : n < 0
    · refine ((HOk.out hc w4 K4.out.2).1).mono ?_
      rintro e w5 ⟨u7, rfl, ho, hb⟩
      have K5 := Bx.mk (And.intro (K4.out.1.later hb) (And.intro (K4.out.2.later hb) (ho.bytes)))
      obtain ⟨u7a, u7c, hv9⟩ := own_form ho
      subst hv9
      clear hb K4 ho
      go_wp2_with ((refine wpList_load_midP (by rfl) 33 _ rfl A 0 (by rfl) tk.toList _ (row_rngP (by rw [Array.toArray_toList]; exact K5.out.1.rows _ (.tail _ (.head _)))) Try.underlying33 rfl HIt.out.1.1 ?_; rw [Array.toArray_toList]))
      refine ((HOk.out hc w5 K5.out.2.1).2.1).mono ?_
      rintro e w6 ⟨u9, rfl, ho, hb⟩
      have K6 := Bx.mk (And.intro (K5.out.1.later hb) (And.intro (K5.out.2.1.later hb) (And.intro (K5.out.2.2.later hb) (ho.bytes))))
      obtain ⟨u9a, u9c, hv9⟩ := own_form ho
      subst hv9
      clear hb K5 ho
      go_wp2_with ((refine wpList_load_midP (by rfl) 29 _ rfl E 0 (by rfl) tk.toList _ (row_rngP (by rw [Array.toArray_toList]; exact K6.out.1.rows _ (.head _))) Try.underlying29 rfl HIt.out.1.2 ?_; rw [Array.toArray_toList]))
      refine ((HC.out w6 K6.out.2.1).2.1).mono ?_
      rintro e w7 ⟨rfl, hb⟩
      have K7 := Bx.mk (And.intro (K6.out.1.later hb) (And.intro (K6.out.2.1.later hb) (And.intro (K6.out.2.2.1.later hb) (K6.out.2.2.2.later hb))))
      clear hb K6
      rw [hc]
      have hn0 : ¬ (0 : Int) ≤ n := by omega
      go_wp2_with ((refine wpList_load_midP (by rfl) 33 _ rfl A 0 (by rfl) tk.toList _ (row_rngP (by rw [Array.toArray_toList]; exact K7.out.1.rows _ (.tail _ (.head _)))) Try.underlying33 rfl HIt.out.1.1 ?_; rw [Array.toArray_toList]))
      refine ((HC.out w7 K7.out.2.1).1).mono ?_
      rintro e w8 ⟨rfl, hb⟩
      have K8 := Bx.mk (And.intro (K7.out.1.later hb) (And.intro (K7.out.2.1.later hb) (And.intro (K7.out.2.2.1.later hb) (K7.out.2.2.2.later hb))))
      clear hb K7
      rw [hc]
      go_wp2_with ((refine wpList_load_midP (by rfl) 33 _ rfl A 0 (by rfl) tk.toList _ (row_rngP (by rw [Array.toArray_toList]; exact K8.out.1.rows _ (.tail _ (.head _)))) Try.underlying33 rfl HIt.out.1.1 ?_; rw [Array.toArray_toList]))
      refine ((HC.out w8 K8.out.2.1).2.2.2).mono ?_
      rintro e w9 ⟨rfl, hb⟩
      have K9 := Bx.mk (And.intro (K8.out.1.later hb) (And.intro (K8.out.2.1.later hb) (And.intro (K8.out.2.2.1.later hb) (K8.out.2.2.2.later hb))))
      clear hb K8
      go_wp2_with fail
      refine (size14 n w9).mono ?_
      rintro e w' ⟨rfl, hw9⟩
      obtain rfl := hw9
      rw [show szP n = 0 by unfold szP; rw [if_neg (by omega)]]
      go_wp2_with fail
      refine (HPa.out hc w9 _ K9.out.2.2.1).mono ?_
      rintro e w10 ⟨uz, rfl, ho, hb⟩
      have K10 := Bx.mk (And.intro (K9.out.1.later hb) (And.intro (K9.out.2.1.later hb) (And.intro (K9.out.2.2.1.later hb) (And.intro (K9.out.2.2.2.later hb) (ho.bytes)))))
      obtain ⟨az, cz, hv9⟩ := own_form ho
      subst hv9
      clear hb ho K9
      have HIy := Bx.mk (HIz.out az x.b.length cz)
      have HSz : Bx (∀ W, Bytes W (.slice az x.b.length cz) x.b → Bytes W (.slice au x.b.length cu) x.b → _) := Bx.mk fun W h h2 => HSm.out W (.slice az x.b.length cz) h h2
      obtain ⟨tz, htz⟩ : ∃ tz, pkC x (.slice az x.b.length cz) = tz := ⟨_, rfl⟩
      rw [htz] at HIy HSz ⊢
      clear htz
      obtain ⟨Z, hZ⟩ : ∃ Z, w10.heap.size = Z := ⟨_, rfl⟩
      have hzv : ∀ W : World, (zeroValue 33).run Try.prog W = .ok (.agg zc) W := HZv.out
      have HnZ : Bx ((w10.alloc (.cells zc 33)).heap[Z]? = some (.cells zc 33 (0, 0))) := Bx.mk (hnew _ _ _ hZ.symm)
      go_wp2_with (refine wpList_store_new rfl 33 _ _ rfl Z tz zc _ (by rfl) (by rfl) HnZ.out HIy.out.2.1 HIy.out.1 HIy.out.2.2 ?_; intro w11 hw8 hr8; have F9 := Bx.mk (K10.out.1.fresh hZ (kb_ofP hw8) hr8); have K11 := Bx.mk (And.intro (F9.out.1) (And.intro (K10.out.2.1.later F9.out.2) (And.intro (K10.out.2.2.1.later F9.out.2) (And.intro (K10.out.2.2.2.1.later F9.out.2) (K10.out.2.2.2.2.later F9.out.2))))); clear hw8 hr8 F9)
      clear K10 HnZ hZ hzv
      refine (known14_any w11).mono ?_
      rintro e w12 ⟨rfl, hb⟩
      have K12 := Bx.mk (And.intro (K11.out.1.later hb) (And.intro (K11.out.2.1.later hb) (And.intro (K11.out.2.2.1.later hb) (And.intro (K11.out.2.2.2.1.later hb) (K11.out.2.2.2.2.later hb)))))
      clear hb K11
      go_wp2_with ((refine wpList_load_midP (by rfl) 29 _ rfl E 0 (by rfl) tk.toList _ (row_rngP (by rw [Array.toArray_toList]; exact K12.out.1.rows _ (.tail _ (.head _)))) Try.underlying29 rfl HIt.out.1.2 ?_; rw [Array.toArray_toList]))
      refine ((HOk.out hc w12 K12.out.2.1).2.2.1).mono ?_
      rintro e w13 ⟨u5, rfl, ho, hb⟩
      have K13 := Bx.mk (And.intro (K12.out.1.later hb) (And.intro (K12.out.2.1.later hb) (And.intro (K12.out.2.2.1.later hb) (And.intro (K12.out.2.2.2.1.later hb) (And.intro (K12.out.2.2.2.2.later hb) (ho.bytes))))))
      obtain ⟨u5a, u5c, hv9⟩ := own_form ho
      subst hv9
      clear hb K12 ho
      go_wp2_with fail
      refine (same_any (pkB x) (pkB x) _ _ w13 K13.out.2.2.1 K13.out.2.2.2.2.2 (by have := HLen.out; omega) (by have := HLen.out; omega)).mono ?_
      rintro e w14 ⟨rfl, nd, hw9⟩
      have hb : Below w13.heap.size w13 w14 := by rw [hw9]; exact below_drewN (Below.refl _ _) nd
      rw [show decide (pkB x = pkB x) = true by simp]
      have K14 := Bx.mk (And.intro (K13.out.1.later hb) (And.intro (K13.out.2.1.later hb) (And.intro (K13.out.2.2.1.later hb) (And.intro (K13.out.2.2.2.1.later hb) (And.intro (K13.out.2.2.2.2.1.later hb) (K13.out.2.2.2.2.2.later hb))))))
      clear hb hw9 K13
      go_wp2_with ((refine wpList_load_midP (by rfl) 29 _ rfl E 0 (by rfl) tk.toList _ (row_rngP (by rw [Array.toArray_toList]; exact K14.out.1.rows _ (.tail _ (.head _)))) Try.underlying29 rfl HIt.out.1.2 ?_; rw [Array.toArray_toList]))
      refine ((HOk.out hc w14 K14.out.2.1).2.2.2).mono ?_
      rintro e w15 ⟨u6, rfl, ho, hb⟩
      have K15 := Bx.mk (And.intro (K14.out.1.later hb) (And.intro (K14.out.2.1.later hb) (And.intro (K14.out.2.2.1.later hb) (And.intro (K14.out.2.2.2.1.later hb) (And.intro (K14.out.2.2.2.2.1.later hb) (And.intro (K14.out.2.2.2.2.2.later hb) (ho.bytes)))))))
      obtain ⟨u6a, u6c, hv9⟩ := own_form ho
      subst hv9
      clear hb K14 ho
      go_wp2_with fail
      refine (same_any (hdB x) (hdB x) _ _ w15 K15.out.2.2.2.1 K15.out.2.2.2.2.2.2 (by have := HLen.out; omega) (by have := HLen.out; omega)).mono ?_
      rintro e w16 ⟨rfl, nd, hw9⟩
      have hb : Below w15.heap.size w15 w16 := by rw [hw9]; exact below_drewN (Below.refl _ _) nd
      rw [show decide (hdB x = hdB x) = true by simp]
      have K16 := Bx.mk (And.intro (K15.out.1.later hb) (And.intro (K15.out.2.1.later hb) (And.intro (K15.out.2.2.1.later hb) (And.intro (K15.out.2.2.2.1.later hb) (And.intro (K15.out.2.2.2.2.1.later hb) (And.intro (K15.out.2.2.2.2.2.1.later hb) (K15.out.2.2.2.2.2.2.later hb)))))))
      clear hb hw9 K15
      go_wp2_with (first | (refine wpList_load_midP (by rfl) 33 _ rfl Z 0 (by rfl) tz.toList _ (row_rngP (by rw [Array.toArray_toList]; exact K16.out.1.rows _ (.head _))) Try.underlying33 rfl HIy.out.1 ?_; rw [Array.toArray_toList]) | (refine wpList_load_midP (by rfl) 33 _ rfl A 0 (by rfl) tk.toList _ (row_rngP (by rw [Array.toArray_toList]; exact K16.out.1.rows _ (.tail _ (.tail _ (.head _))))) Try.underlying33 rfl HIt.out.1.1 ?_; rw [Array.toArray_toList]))
      refine (HSz.out w16 K16.out.2.2.2.2.1 K16.out.2.1).mono ?_
      rintro e w17 ⟨rfl, hb⟩
      have K17 := Bx.mk (And.intro (K16.out.1.later hb) (And.intro (K16.out.2.1.later hb) (And.intro (K16.out.2.2.1.later hb) (And.intro (K16.out.2.2.2.1.later hb) (And.intro (K16.out.2.2.2.2.1.later hb) (And.intro (K16.out.2.2.2.2.2.1.later hb) (K16.out.2.2.2.2.2.2.later hb)))))))
      clear hb K16
      have k8 : w17.cell? ⟨A, 8, none⟩ = some (.slice au x.b.length cu) := (pk_at (x := x) (v := .slice au x.b.length cu) (by rw [HTK.out]; exact K17.out.1.rows _ (.tail _ (.tail _ (.head _))))).b
      have h512 := HLen.out.2.2.2 hc
      obtain ⟨xl, hxl⟩ : ∃ xl, x.b.length = xl := ⟨_, rfl⟩
      have HXL := Bx.mk hxl
      have HPL : Bx ((pkB x).length = 52 + xl) := Bx.mk (by rw [HLen.out.1, hxl])
      rw [hxl] at k8 h512
      rw [HPL.out]
      clear hxl
      go_wp2_with fail
      refine (size14 (xl : Int) w17).mono ?_
      rintro e w' ⟨rfl, hw9⟩
      obtain rfl := hw9
      have hsz : szP (xl : Int) = ((52 + xl : Nat) : Int) := by unfold szP; rw [if_pos (by omega)]; omega
      rw [hsz]
      go_wp2
      go_ret
      exact ⟨rfl, K17.out.1.below⟩
    · by_cases hm : 512 < n
      · refine ((HOk.out hc w4 K4.out.2).1).mono ?_
        rintro e w5 ⟨u7, rfl, ho, hb⟩
        have K5 := Bx.mk (And.intro (K4.out.1.later hb) (And.intro (K4.out.2.later hb) (ho.bytes)))
        obtain ⟨u7a, u7c, hv9⟩ := own_form ho
        subst hv9
        clear hb K4 ho
        go_wp2_with ((refine wpList_load_midP (by rfl) 33 _ rfl A 0 (by rfl) tk.toList _ (row_rngP (by rw [Array.toArray_toList]; exact K5.out.1.rows _ (.tail _ (.head _)))) Try.underlying33 rfl HIt.out.1.1 ?_; rw [Array.toArray_toList]))
        refine ((HOk.out hc w5 K5.out.2.1).2.1).mono ?_
        rintro e w6 ⟨u9, rfl, ho, hb⟩
        have K6 := Bx.mk (And.intro (K5.out.1.later hb) (And.intro (K5.out.2.1.later hb) (And.intro (K5.out.2.2.later hb) (ho.bytes))))
        obtain ⟨u9a, u9c, hv9⟩ := own_form ho
        subst hv9
        clear hb K5 ho
        go_wp2_with ((refine wpList_load_midP (by rfl) 29 _ rfl E 0 (by rfl) tk.toList _ (row_rngP (by rw [Array.toArray_toList]; exact K6.out.1.rows _ (.head _))) Try.underlying29 rfl HIt.out.1.2 ?_; rw [Array.toArray_toList]))
        refine ((HC.out w6 K6.out.2.1).2.1).mono ?_
        rintro e w7 ⟨rfl, hb⟩
        have K7 := Bx.mk (And.intro (K6.out.1.later hb) (And.intro (K6.out.2.1.later hb) (And.intro (K6.out.2.2.1.later hb) (K6.out.2.2.2.later hb))))
        clear hb K6
        rw [hc]
        have hn0 : (0 : Int) ≤ n := by omega
        have hn1 : ¬ n ≤ 512 := by omega
        go_wp2_with ((refine wpList_load_midP (by rfl) 33 _ rfl A 0 (by rfl) tk.toList _ (row_rngP (by rw [Array.toArray_toList]; exact K7.out.1.rows _ (.tail _ (.head _)))) Try.underlying33 rfl HIt.out.1.1 ?_; rw [Array.toArray_toList]))
        refine ((HC.out w7 K7.out.2.1).1).mono ?_
        rintro e w8 ⟨rfl, hb⟩
        have K8 := Bx.mk (And.intro (K7.out.1.later hb) (And.intro (K7.out.2.1.later hb) (And.intro (K7.out.2.2.1.later hb) (K7.out.2.2.2.later hb))))
        clear hb K7
        rw [hc]
        go_wp2_with ((refine wpList_load_midP (by rfl) 33 _ rfl A 0 (by rfl) tk.toList _ (row_rngP (by rw [Array.toArray_toList]; exact K8.out.1.rows _ (.tail _ (.head _)))) Try.underlying33 rfl HIt.out.1.1 ?_; rw [Array.toArray_toList]))
        refine ((HC.out w8 K8.out.2.1).2.2.2).mono ?_
        rintro e w9 ⟨rfl, hb⟩
        have K9 := Bx.mk (And.intro (K8.out.1.later hb) (And.intro (K8.out.2.1.later hb) (And.intro (K8.out.2.2.1.later hb) (K8.out.2.2.2.later hb))))
        clear hb K8
        go_wp2_with fail
        refine (size14 n w9).mono ?_
        rintro e w' ⟨rfl, hw9⟩
        obtain rfl := hw9
        rw [show szP n = 0 by unfold szP; rw [if_neg (by omega)]]
        go_wp2_with fail
        refine (HPa.out hc w9 _ K9.out.2.2.1).mono ?_
        rintro e w10 ⟨uz, rfl, ho, hb⟩
        have K10 := Bx.mk (And.intro (K9.out.1.later hb) (And.intro (K9.out.2.1.later hb) (And.intro (K9.out.2.2.1.later hb) (And.intro (K9.out.2.2.2.later hb) (ho.bytes)))))
        obtain ⟨az, cz, hv9⟩ := own_form ho
        subst hv9
        clear hb ho K9
        have HIy := Bx.mk (HIz.out az x.b.length cz)
        have HSz : Bx (∀ W, Bytes W (.slice az x.b.length cz) x.b → Bytes W (.slice au x.b.length cu) x.b → _) := Bx.mk fun W h h2 => HSm.out W (.slice az x.b.length cz) h h2
        obtain ⟨tz, htz⟩ : ∃ tz, pkC x (.slice az x.b.length cz) = tz := ⟨_, rfl⟩
        rw [htz] at HIy HSz ⊢
        clear htz
        obtain ⟨Z, hZ⟩ : ∃ Z, w10.heap.size = Z := ⟨_, rfl⟩
        have hzv : ∀ W : World, (zeroValue 33).run Try.prog W = .ok (.agg zc) W := HZv.out
        have HnZ : Bx ((w10.alloc (.cells zc 33)).heap[Z]? = some (.cells zc 33 (0, 0))) := Bx.mk (hnew _ _ _ hZ.symm)
        go_wp2_with (refine wpList_store_new rfl 33 _ _ rfl Z tz zc _ (by rfl) (by rfl) HnZ.out HIy.out.2.1 HIy.out.1 HIy.out.2.2 ?_; intro w11 hw8 hr8; have F9 := Bx.mk (K10.out.1.fresh hZ (kb_ofP hw8) hr8); have K11 := Bx.mk (And.intro (F9.out.1) (And.intro (K10.out.2.1.later F9.out.2) (And.intro (K10.out.2.2.1.later F9.out.2) (And.intro (K10.out.2.2.2.1.later F9.out.2) (K10.out.2.2.2.2.later F9.out.2))))); clear hw8 hr8 F9)
        clear K10 HnZ hZ hzv
        refine (known14_any w11).mono ?_
        rintro e w12 ⟨rfl, hb⟩
        have K12 := Bx.mk (And.intro (K11.out.1.later hb) (And.intro (K11.out.2.1.later hb) (And.intro (K11.out.2.2.1.later hb) (And.intro (K11.out.2.2.2.1.later hb) (K11.out.2.2.2.2.later hb)))))
        clear hb K11
        go_wp2_with ((refine wpList_load_midP (by rfl) 29 _ rfl E 0 (by rfl) tk.toList _ (row_rngP (by rw [Array.toArray_toList]; exact K12.out.1.rows _ (.tail _ (.head _)))) Try.underlying29 rfl HIt.out.1.2 ?_; rw [Array.toArray_toList]))
        refine ((HOk.out hc w12 K12.out.2.1).2.2.1).mono ?_
        rintro e w13 ⟨u5, rfl, ho, hb⟩
        have K13 := Bx.mk (And.intro (K12.out.1.later hb) (And.intro (K12.out.2.1.later hb) (And.intro (K12.out.2.2.1.later hb) (And.intro (K12.out.2.2.2.1.later hb) (And.intro (K12.out.2.2.2.2.later hb) (ho.bytes))))))
        obtain ⟨u5a, u5c, hv9⟩ := own_form ho
        subst hv9
        clear hb K12 ho
        go_wp2_with fail
        refine (same_any (pkB x) (pkB x) _ _ w13 K13.out.2.2.1 K13.out.2.2.2.2.2 (by have := HLen.out; omega) (by have := HLen.out; omega)).mono ?_
        rintro e w14 ⟨rfl, nd, hw9⟩
        have hb : Below w13.heap.size w13 w14 := by rw [hw9]; exact below_drewN (Below.refl _ _) nd
        rw [show decide (pkB x = pkB x) = true by simp]
        have K14 := Bx.mk (And.intro (K13.out.1.later hb) (And.intro (K13.out.2.1.later hb) (And.intro (K13.out.2.2.1.later hb) (And.intro (K13.out.2.2.2.1.later hb) (And.intro (K13.out.2.2.2.2.1.later hb) (K13.out.2.2.2.2.2.later hb))))))
        clear hb hw9 K13
        go_wp2_with ((refine wpList_load_midP (by rfl) 29 _ rfl E 0 (by rfl) tk.toList _ (row_rngP (by rw [Array.toArray_toList]; exact K14.out.1.rows _ (.tail _ (.head _)))) Try.underlying29 rfl HIt.out.1.2 ?_; rw [Array.toArray_toList]))
        refine ((HOk.out hc w14 K14.out.2.1).2.2.2).mono ?_
        rintro e w15 ⟨u6, rfl, ho, hb⟩
        have K15 := Bx.mk (And.intro (K14.out.1.later hb) (And.intro (K14.out.2.1.later hb) (And.intro (K14.out.2.2.1.later hb) (And.intro (K14.out.2.2.2.1.later hb) (And.intro (K14.out.2.2.2.2.1.later hb) (And.intro (K14.out.2.2.2.2.2.later hb) (ho.bytes)))))))
        obtain ⟨u6a, u6c, hv9⟩ := own_form ho
        subst hv9
        clear hb K14 ho
        go_wp2_with fail
        refine (same_any (hdB x) (hdB x) _ _ w15 K15.out.2.2.2.1 K15.out.2.2.2.2.2.2 (by have := HLen.out; omega) (by have := HLen.out; omega)).mono ?_
        rintro e w16 ⟨rfl, nd, hw9⟩
        have hb : Below w15.heap.size w15 w16 := by rw [hw9]; exact below_drewN (Below.refl _ _) nd
        rw [show decide (hdB x = hdB x) = true by simp]
        have K16 := Bx.mk (And.intro (K15.out.1.later hb) (And.intro (K15.out.2.1.later hb) (And.intro (K15.out.2.2.1.later hb) (And.intro (K15.out.2.2.2.1.later hb) (And.intro (K15.out.2.2.2.2.1.later hb) (And.intro (K15.out.2.2.2.2.2.1.later hb) (K15.out.2.2.2.2.2.2.later hb)))))))
        clear hb hw9 K15
        go_wp2_with (first | (refine wpList_load_midP (by rfl) 33 _ rfl Z 0 (by rfl) tz.toList _ (row_rngP (by rw [Array.toArray_toList]; exact K16.out.1.rows _ (.head _))) Try.underlying33 rfl HIy.out.1 ?_; rw [Array.toArray_toList]) | (refine wpList_load_midP (by rfl) 33 _ rfl A 0 (by rfl) tk.toList _ (row_rngP (by rw [Array.toArray_toList]; exact K16.out.1.rows _ (.tail _ (.tail _ (.head _))))) Try.underlying33 rfl HIt.out.1.1 ?_; rw [Array.toArray_toList]))
        refine (HSz.out w16 K16.out.2.2.2.2.1 K16.out.2.1).mono ?_
        rintro e w17 ⟨rfl, hb⟩
        have K17 := Bx.mk (And.intro (K16.out.1.later hb) (And.intro (K16.out.2.1.later hb) (And.intro (K16.out.2.2.1.later hb) (And.intro (K16.out.2.2.2.1.later hb) (And.intro (K16.out.2.2.2.2.1.later hb) (And.intro (K16.out.2.2.2.2.2.1.later hb) (K16.out.2.2.2.2.2.2.later hb)))))))
        clear hb K16
        have k8 : w17.cell? ⟨A, 8, none⟩ = some (.slice au x.b.length cu) := (pk_at (x := x) (v := .slice au x.b.length cu) (by rw [HTK.out]; exact K17.out.1.rows _ (.tail _ (.tail _ (.head _))))).b
        have h512 := HLen.out.2.2.2 hc
        obtain ⟨xl, hxl⟩ : ∃ xl, x.b.length = xl := ⟨_, rfl⟩
        have HXL := Bx.mk hxl
        have HPL : Bx ((pkB x).length = 52 + xl) := Bx.mk (by rw [HLen.out.1, hxl])
        rw [hxl] at k8 h512
        rw [HPL.out]
        clear hxl
        go_wp2_with fail
        refine (size14 (xl : Int) w17).mono ?_
        rintro e w' ⟨rfl, hw9⟩
        obtain rfl := hw9
        have hsz : szP (xl : Int) = ((52 + xl : Nat) : Int) := by unfold szP; rw [if_pos (by omega)]; omega
        rw [hsz]
        go_wp2
        go_ret
        exact ⟨rfl, K17.out.1.below⟩
      · refine ((HOk.out hc w4 K4.out.2).1).mono ?_
        rintro e w5 ⟨u7, rfl, ho, hb⟩
        have K5 := Bx.mk (And.intro (K4.out.1.later hb) (And.intro (K4.out.2.later hb) (ho.bytes)))
        obtain ⟨u7a, u7c, hv9⟩ := own_form ho
        subst hv9
        clear hb K4 ho
        go_wp2_with ((refine wpList_load_midP (by rfl) 33 _ rfl A 0 (by rfl) tk.toList _ (row_rngP (by rw [Array.toArray_toList]; exact K5.out.1.rows _ (.tail _ (.head _)))) Try.underlying33 rfl HIt.out.1.1 ?_; rw [Array.toArray_toList]))
        refine ((HOk.out hc w5 K5.out.2.1).2.1).mono ?_
        rintro e w6 ⟨u9, rfl, ho, hb⟩
        have K6 := Bx.mk (And.intro (K5.out.1.later hb) (And.intro (K5.out.2.1.later hb) (And.intro (K5.out.2.2.later hb) (ho.bytes))))
        obtain ⟨u9a, u9c, hv9⟩ := own_form ho
        subst hv9
        clear hb K5 ho
        go_wp2_with ((refine wpList_load_midP (by rfl) 29 _ rfl E 0 (by rfl) tk.toList _ (row_rngP (by rw [Array.toArray_toList]; exact K6.out.1.rows _ (.head _))) Try.underlying29 rfl HIt.out.1.2 ?_; rw [Array.toArray_toList]))
        refine ((HC.out w6 K6.out.2.1).2.1).mono ?_
        rintro e w7 ⟨rfl, hb⟩
        have K7 := Bx.mk (And.intro (K6.out.1.later hb) (And.intro (K6.out.2.1.later hb) (And.intro (K6.out.2.2.1.later hb) (K6.out.2.2.2.later hb))))
        clear hb K6
        rw [hc]
        have hn0 : (0 : Int) ≤ n := by omega
        have hn1 : n ≤ 512 := by omega
        have hwr : IntKind.i64.wrap (n + 52) = n + 52 := by simp [IntKind.wrap_i64]; omega
        go_wp2_with ((refine wpList_load_midP (by rfl) 33 _ rfl A 0 (by rfl) tk.toList _ (row_rngP (by rw [Array.toArray_toList]; exact K7.out.1.rows _ (.tail _ (.head _)))) Try.underlying33 rfl HIt.out.1.1 ?_; rw [Array.toArray_toList]))
        refine ((HC.out w7 K7.out.2.1).1).mono ?_
        rintro e w8 ⟨rfl, hb⟩
        have K8 := Bx.mk (And.intro (K7.out.1.later hb) (And.intro (K7.out.2.1.later hb) (And.intro (K7.out.2.2.1.later hb) (K7.out.2.2.2.later hb))))
        clear hb K7
        rw [hc]
        go_wp2_with ((refine wpList_load_midP (by rfl) 33 _ rfl A 0 (by rfl) tk.toList _ (row_rngP (by rw [Array.toArray_toList]; exact K8.out.1.rows _ (.tail _ (.head _)))) Try.underlying33 rfl HIt.out.1.1 ?_; rw [Array.toArray_toList]))
        refine ((HC.out w8 K8.out.2.1).2.2.2).mono ?_
        rintro e w9 ⟨rfl, hb⟩
        have K9 := Bx.mk (And.intro (K8.out.1.later hb) (And.intro (K8.out.2.1.later hb) (And.intro (K8.out.2.2.1.later hb) (K8.out.2.2.2.later hb))))
        clear hb K8
        go_wp2_with fail
        refine (size14 n w9).mono ?_
        rintro e w' ⟨rfl, hw9⟩
        obtain rfl := hw9
        rw [show szP n = n + 52 by unfold szP; rw [if_pos ⟨hn0, hn1⟩]; omega]
        go_wp2_with fail
        refine (HPa.out hc w9 _ K9.out.2.2.1).mono ?_
        rintro e w10 ⟨uz, rfl, ho, hb⟩
        have K10 := Bx.mk (And.intro (K9.out.1.later hb) (And.intro (K9.out.2.1.later hb) (And.intro (K9.out.2.2.1.later hb) (And.intro (K9.out.2.2.2.later hb) (ho.bytes)))))
        obtain ⟨az, cz, hv9⟩ := own_form ho
        subst hv9
        clear hb ho K9
        have HIy := Bx.mk (HIz.out az x.b.length cz)
        have HSz : Bx (∀ W, Bytes W (.slice az x.b.length cz) x.b → Bytes W (.slice au x.b.length cu) x.b → _) := Bx.mk fun W h h2 => HSm.out W (.slice az x.b.length cz) h h2
        obtain ⟨tz, htz⟩ : ∃ tz, pkC x (.slice az x.b.length cz) = tz := ⟨_, rfl⟩
        rw [htz] at HIy HSz ⊢
        clear htz
        obtain ⟨Z, hZ⟩ : ∃ Z, w10.heap.size = Z := ⟨_, rfl⟩
        have hzv : ∀ W : World, (zeroValue 33).run Try.prog W = .ok (.agg zc) W := HZv.out
        have HnZ : Bx ((w10.alloc (.cells zc 33)).heap[Z]? = some (.cells zc 33 (0, 0))) := Bx.mk (hnew _ _ _ hZ.symm)
        go_wp2_with (refine wpList_store_new rfl 33 _ _ rfl Z tz zc _ (by rfl) (by rfl) HnZ.out HIy.out.2.1 HIy.out.1 HIy.out.2.2 ?_; intro w11 hw8 hr8; have F9 := Bx.mk (K10.out.1.fresh hZ (kb_ofP hw8) hr8); have K11 := Bx.mk (And.intro (F9.out.1) (And.intro (K10.out.2.1.later F9.out.2) (And.intro (K10.out.2.2.1.later F9.out.2) (And.intro (K10.out.2.2.2.1.later F9.out.2) (K10.out.2.2.2.2.later F9.out.2))))); clear hw8 hr8 F9)
        clear K10 HnZ hZ hzv
        refine (known14_any w11).mono ?_
        rintro e w12 ⟨rfl, hb⟩
        have K12 := Bx.mk (And.intro (K11.out.1.later hb) (And.intro (K11.out.2.1.later hb) (And.intro (K11.out.2.2.1.later hb) (And.intro (K11.out.2.2.2.1.later hb) (K11.out.2.2.2.2.later hb)))))
        clear hb K11
        go_wp2_with ((refine wpList_load_midP (by rfl) 29 _ rfl E 0 (by rfl) tk.toList _ (row_rngP (by rw [Array.toArray_toList]; exact K12.out.1.rows _ (.tail _ (.head _)))) Try.underlying29 rfl HIt.out.1.2 ?_; rw [Array.toArray_toList]))
        refine ((HOk.out hc w12 K12.out.2.1).2.2.1).mono ?_
        rintro e w13 ⟨u5, rfl, ho, hb⟩
        have K13 := Bx.mk (And.intro (K12.out.1.later hb) (And.intro (K12.out.2.1.later hb) (And.intro (K12.out.2.2.1.later hb) (And.intro (K12.out.2.2.2.1.later hb) (And.intro (K12.out.2.2.2.2.later hb) (ho.bytes))))))
        obtain ⟨u5a, u5c, hv9⟩ := own_form ho
        subst hv9
        clear hb K12 ho
        go_wp2_with fail
        refine (same_any (pkB x) (pkB x) _ _ w13 K13.out.2.2.1 K13.out.2.2.2.2.2 (by have := HLen.out; omega) (by have := HLen.out; omega)).mono ?_
        rintro e w14 ⟨rfl, nd, hw9⟩
        have hb : Below w13.heap.size w13 w14 := by rw [hw9]; exact below_drewN (Below.refl _ _) nd
        rw [show decide (pkB x = pkB x) = true by simp]
        have K14 := Bx.mk (And.intro (K13.out.1.later hb) (And.intro (K13.out.2.1.later hb) (And.intro (K13.out.2.2.1.later hb) (And.intro (K13.out.2.2.2.1.later hb) (And.intro (K13.out.2.2.2.2.1.later hb) (K13.out.2.2.2.2.2.later hb))))))
        clear hb hw9 K13
        go_wp2_with ((refine wpList_load_midP (by rfl) 29 _ rfl E 0 (by rfl) tk.toList _ (row_rngP (by rw [Array.toArray_toList]; exact K14.out.1.rows _ (.tail _ (.head _)))) Try.underlying29 rfl HIt.out.1.2 ?_; rw [Array.toArray_toList]))
        refine ((HOk.out hc w14 K14.out.2.1).2.2.2).mono ?_
        rintro e w15 ⟨u6, rfl, ho, hb⟩
        have K15 := Bx.mk (And.intro (K14.out.1.later hb) (And.intro (K14.out.2.1.later hb) (And.intro (K14.out.2.2.1.later hb) (And.intro (K14.out.2.2.2.1.later hb) (And.intro (K14.out.2.2.2.2.1.later hb) (And.intro (K14.out.2.2.2.2.2.later hb) (ho.bytes)))))))
        obtain ⟨u6a, u6c, hv9⟩ := own_form ho
        subst hv9
        clear hb K14 ho
        go_wp2_with fail
        refine (same_any (hdB x) (hdB x) _ _ w15 K15.out.2.2.2.1 K15.out.2.2.2.2.2.2 (by have := HLen.out; omega) (by have := HLen.out; omega)).mono ?_
        rintro e w16 ⟨rfl, nd, hw9⟩
        have hb : Below w15.heap.size w15 w16 := by rw [hw9]; exact below_drewN (Below.refl _ _) nd
        rw [show decide (hdB x = hdB x) = true by simp]
        have K16 := Bx.mk (And.intro (K15.out.1.later hb) (And.intro (K15.out.2.1.later hb) (And.intro (K15.out.2.2.1.later hb) (And.intro (K15.out.2.2.2.1.later hb) (And.intro (K15.out.2.2.2.2.1.later hb) (And.intro (K15.out.2.2.2.2.2.1.later hb) (K15.out.2.2.2.2.2.2.later hb)))))))
        clear hb hw9 K15
        go_wp2_with (first | (refine wpList_load_midP (by rfl) 33 _ rfl Z 0 (by rfl) tz.toList _ (row_rngP (by rw [Array.toArray_toList]; exact K16.out.1.rows _ (.head _))) Try.underlying33 rfl HIy.out.1 ?_; rw [Array.toArray_toList]) | (refine wpList_load_midP (by rfl) 33 _ rfl A 0 (by rfl) tk.toList _ (row_rngP (by rw [Array.toArray_toList]; exact K16.out.1.rows _ (.tail _ (.tail _ (.head _))))) Try.underlying33 rfl HIt.out.1.1 ?_; rw [Array.toArray_toList]))
        refine (HSz.out w16 K16.out.2.2.2.2.1 K16.out.2.1).mono ?_
        rintro e w17 ⟨rfl, hb⟩
        have K17 := Bx.mk (And.intro (K16.out.1.later hb) (And.intro (K16.out.2.1.later hb) (And.intro (K16.out.2.2.1.later hb) (And.intro (K16.out.2.2.2.1.later hb) (And.intro (K16.out.2.2.2.2.1.later hb) (And.intro (K16.out.2.2.2.2.2.1.later hb) (K16.out.2.2.2.2.2.2.later hb)))))))
        clear hb K16
        have k8 : w17.cell? ⟨A, 8, none⟩ = some (.slice au x.b.length cu) := (pk_at (x := x) (v := .slice au x.b.length cu) (by rw [HTK.out]; exact K17.out.1.rows _ (.tail _ (.tail _ (.head _))))).b
        have h512 := HLen.out.2.2.2 hc
        obtain ⟨xl, hxl⟩ : ∃ xl, x.b.length = xl := ⟨_, rfl⟩
        have HXL := Bx.mk hxl
        have HPL : Bx ((pkB x).length = 52 + xl) := Bx.mk (by rw [HLen.out.1, hxl])
        rw [hxl] at k8 h512
        rw [HPL.out]
        clear hxl
        go_wp2_with fail
        refine (size14 (xl : Int) w17).mono ?_
        rintro e w' ⟨rfl, hw9⟩
        obtain rfl := hw9
        have hsz : szP (xl : Int) = ((52 + xl : Nat) : Int) := by unfold szP; rw [if_pos (by omega)]; omega
        rw [hsz]
        go_wp2
        go_ret
        exact ⟨rfl, K17.out.1.below⟩
  · by_cases hn : n < 0
    · refine ((HBad.out hc w4 K4.out.2).1).mono ?_
      rintro e w5 ⟨rfl, hb⟩
      have K5 := Bx.mk (And.intro (K4.out.1.later hb) (K4.out.2.later hb))
      clear hb K4
      go_wp2_with ((refine wpList_load_midP (by rfl) 33 _ rfl A 0 (by rfl) tk.toList _ (row_rngP (by rw [Array.toArray_toList]; exact K5.out.1.rows _ (.tail _ (.head _)))) Try.underlying33 rfl HIt.out.1.1 ?_; rw [Array.toArray_toList]))
      refine ((HBad.out hc w5 K5.out.2).2).mono ?_
      rintro e w6 ⟨rfl, hb⟩
      have K6 := Bx.mk (And.intro (K5.out.1.later hb) (K5.out.2.later hb))
      clear hb K5
      go_wp2_with ((refine wpList_load_midP (by rfl) 29 _ rfl E 0 (by rfl) tk.toList _ (row_rngP (by rw [Array.toArray_toList]; exact K6.out.1.rows _ (.head _))) Try.underlying29 rfl HIt.out.1.2 ?_; rw [Array.toArray_toList]))
      refine ((HC.out w6 K6.out.2).2.1).mono ?_
      rintro e w7 ⟨rfl, hb⟩
      have K7 := Bx.mk (And.intro (K6.out.1.later hb) (K6.out.2.later hb))
      clear hb K6
      have hn0 : ¬ (0 : Int) ≤ n := by omega
      obtain ⟨ck, hck⟩ : ∃ ck, chkP x = ck := ⟨_, rfl⟩
      have HCK := Bx.mk hck
      rw [hck]
      clear hck
      go_wp2_with ((refine wpList_load_midP (by rfl) 33 _ rfl A 0 (by rfl) tk.toList _ (row_rngP (by rw [Array.toArray_toList]; exact K7.out.1.rows _ (.tail _ (.head _)))) Try.underlying33 rfl HIt.out.1.1 ?_; rw [Array.toArray_toList]))
      refine ((HC.out w7 K7.out.2).1).mono ?_
      rintro e w8 ⟨rfl, hb⟩
      have K8 := Bx.mk (And.intro (K7.out.1.later hb) (K7.out.2.later hb))
      clear hb K7
      rw [HCK.out]
      go_wp2_with ((refine wpList_load_midP (by rfl) 33 _ rfl A 0 (by rfl) tk.toList _ (row_rngP (by rw [Array.toArray_toList]; exact K8.out.1.rows _ (.tail _ (.head _)))) Try.underlying33 rfl HIt.out.1.1 ?_; rw [Array.toArray_toList]))
      refine ((HC.out w8 K8.out.2).2.2.2).mono ?_
      rintro e w9 ⟨rfl, hb⟩
      have K9 := Bx.mk (And.intro (K8.out.1.later hb) (K8.out.2.later hb))
      clear hb K8
      go_wp2_with fail
      refine (size14 n w9).mono ?_
      rintro e w' ⟨rfl, hw9⟩
      obtain rfl := hw9
      rw [show szP n = 0 by unfold szP; rw [if_neg (by omega)]]
      have hckn : ¬ ck = 0 := fun e => hc (HCK.out.trans e)
      go_wp2_with fail
      refine (known14_any w9).mono ?_
      rintro e w10 ⟨rfl, hb⟩
      have K10 := Bx.mk (And.intro (K9.out.1.later hb) (K9.out.2.later hb))
      clear hb K9
      go_wp2
      go_ret
      exact ⟨rfl, K10.out.1.below⟩
    · by_cases hm : 512 < n
      · refine ((HBad.out hc w4 K4.out.2).1).mono ?_
        rintro e w5 ⟨rfl, hb⟩
        have K5 := Bx.mk (And.intro (K4.out.1.later hb) (K4.out.2.later hb))
        clear hb K4
        go_wp2_with ((refine wpList_load_midP (by rfl) 33 _ rfl A 0 (by rfl) tk.toList _ (row_rngP (by rw [Array.toArray_toList]; exact K5.out.1.rows _ (.tail _ (.head _)))) Try.underlying33 rfl HIt.out.1.1 ?_; rw [Array.toArray_toList]))
        refine ((HBad.out hc w5 K5.out.2).2).mono ?_
        rintro e w6 ⟨rfl, hb⟩
        have K6 := Bx.mk (And.intro (K5.out.1.later hb) (K5.out.2.later hb))
        clear hb K5
        go_wp2_with ((refine wpList_load_midP (by rfl) 29 _ rfl E 0 (by rfl) tk.toList _ (row_rngP (by rw [Array.toArray_toList]; exact K6.out.1.rows _ (.head _))) Try.underlying29 rfl HIt.out.1.2 ?_; rw [Array.toArray_toList]))
        refine ((HC.out w6 K6.out.2).2.1).mono ?_
        rintro e w7 ⟨rfl, hb⟩
        have K7 := Bx.mk (And.intro (K6.out.1.later hb) (K6.out.2.later hb))
        clear hb K6
        have hn0 : (0 : Int) ≤ n := by omega
        have hn1 : ¬ n ≤ 512 := by omega
        obtain ⟨ck, hck⟩ : ∃ ck, chkP x = ck := ⟨_, rfl⟩
        have HCK := Bx.mk hck
        rw [hck]
        clear hck
        go_wp2_with ((refine wpList_load_midP (by rfl) 33 _ rfl A 0 (by rfl) tk.toList _ (row_rngP (by rw [Array.toArray_toList]; exact K7.out.1.rows _ (.tail _ (.head _)))) Try.underlying33 rfl HIt.out.1.1 ?_; rw [Array.toArray_toList]))
        refine ((HC.out w7 K7.out.2).1).mono ?_
        rintro e w8 ⟨rfl, hb⟩
        have K8 := Bx.mk (And.intro (K7.out.1.later hb) (K7.out.2.later hb))
        clear hb K7
        rw [HCK.out]
        go_wp2_with ((refine wpList_load_midP (by rfl) 33 _ rfl A 0 (by rfl) tk.toList _ (row_rngP (by rw [Array.toArray_toList]; exact K8.out.1.rows _ (.tail _ (.head _)))) Try.underlying33 rfl HIt.out.1.1 ?_; rw [Array.toArray_toList]))
        refine ((HC.out w8 K8.out.2).2.2.2).mono ?_
        rintro e w9 ⟨rfl, hb⟩
        have K9 := Bx.mk (And.intro (K8.out.1.later hb) (K8.out.2.later hb))
        clear hb K8
        go_wp2_with fail
        refine (size14 n w9).mono ?_
        rintro e w' ⟨rfl, hw9⟩
        obtain rfl := hw9
        rw [show szP n = 0 by unfold szP; rw [if_neg (by omega)]]
        have hckn : ¬ ck = 0 := fun e => hc (HCK.out.trans e)
        go_wp2_with fail
        refine (known14_any w9).mono ?_
        rintro e w10 ⟨rfl, hb⟩
        have K10 := Bx.mk (And.intro (K9.out.1.later hb) (K9.out.2.later hb))
        clear hb K9
        go_wp2
        go_ret
        exact ⟨rfl, K10.out.1.below⟩
      · refine ((HBad.out hc w4 K4.out.2).1).mono ?_
        rintro e w5 ⟨rfl, hb⟩
        have K5 := Bx.mk (And.intro (K4.out.1.later hb) (K4.out.2.later hb))
        clear hb K4
        go_wp2_with ((refine wpList_load_midP (by rfl) 33 _ rfl A 0 (by rfl) tk.toList _ (row_rngP (by rw [Array.toArray_toList]; exact K5.out.1.rows _ (.tail _ (.head _)))) Try.underlying33 rfl HIt.out.1.1 ?_; rw [Array.toArray_toList]))
        refine ((HBad.out hc w5 K5.out.2).2).mono ?_
        rintro e w6 ⟨rfl, hb⟩
        have K6 := Bx.mk (And.intro (K5.out.1.later hb) (K5.out.2.later hb))
        clear hb K5
        go_wp2_with ((refine wpList_load_midP (by rfl) 29 _ rfl E 0 (by rfl) tk.toList _ (row_rngP (by rw [Array.toArray_toList]; exact K6.out.1.rows _ (.head _))) Try.underlying29 rfl HIt.out.1.2 ?_; rw [Array.toArray_toList]))
        refine ((HC.out w6 K6.out.2).2.1).mono ?_
        rintro e w7 ⟨rfl, hb⟩
        have K7 := Bx.mk (And.intro (K6.out.1.later hb) (K6.out.2.later hb))
        clear hb K6
        have hn0 : (0 : Int) ≤ n := by omega
        have hn1 : n ≤ 512 := by omega
        have hwr : IntKind.i64.wrap (n + 52) = n + 52 := by simp [IntKind.wrap_i64]; omega
        obtain ⟨ck, hck⟩ : ∃ ck, chkP x = ck := ⟨_, rfl⟩
        have HCK := Bx.mk hck
        rw [hck]
        clear hck
        go_wp2_with ((refine wpList_load_midP (by rfl) 33 _ rfl A 0 (by rfl) tk.toList _ (row_rngP (by rw [Array.toArray_toList]; exact K7.out.1.rows _ (.tail _ (.head _)))) Try.underlying33 rfl HIt.out.1.1 ?_; rw [Array.toArray_toList]))
        refine ((HC.out w7 K7.out.2).1).mono ?_
        rintro e w8 ⟨rfl, hb⟩
        have K8 := Bx.mk (And.intro (K7.out.1.later hb) (K7.out.2.later hb))
        clear hb K7
        rw [HCK.out]
        go_wp2_with ((refine wpList_load_midP (by rfl) 33 _ rfl A 0 (by rfl) tk.toList _ (row_rngP (by rw [Array.toArray_toList]; exact K8.out.1.rows _ (.tail _ (.head _)))) Try.underlying33 rfl HIt.out.1.1 ?_; rw [Array.toArray_toList]))
        refine ((HC.out w8 K8.out.2).2.2.2).mono ?_
        rintro e w9 ⟨rfl, hb⟩
        have K9 := Bx.mk (And.intro (K8.out.1.later hb) (K8.out.2.later hb))
        clear hb K8
        go_wp2_with fail
        refine (size14 n w9).mono ?_
        rintro e w' ⟨rfl, hw9⟩
        obtain rfl := hw9
        rw [show szP n = n + 52 by unfold szP; rw [if_pos ⟨hn0, hn1⟩]; omega]
        have hckn : ¬ ck = 0 := fun e => hc (HCK.out.trans e)
        go_wp2_with fail
        refine (known14_any w9).mono ?_
        rintro e w10 ⟨rfl, hb⟩
        have K10 := Bx.mk (And.intro (K9.out.1.later hb) (K9.out.2.later hb))
        clear hb K9
        go_wp2
        go_ret
        exact ⟨rfl, K10.out.1.below⟩
end Go.Proofs.Ytaoekfomffebhaa
namespace Go.Proofs.Ytaoekfomffebhaa
open Go
/-- A world to begin with. -/
noncomputable def laidWorld (os : Os) : World := World.holding Try.prog os ⟨#[], #[], []⟩
end Go.Proofs.Ytaoekfomffebhaa
namespace Go.Proofs.Ytaoekfomffebhaa
open Go Go.ChangeShapes Go.WideShapes Go.ChangeAt Go.RowKit
set_option maxRecDepth 100000 in
theorem raw_u32 {H : Type} {enc : TypeId × Value → H} {W : World} {fuel : Nat} {cs : List Value} {x : DataW H × List MemPlace} (hf : DataW.trod enc Try.prog W 0 (fun _ => true) true fuel 27 cs = some x) : ∃ l : List UInt8, l.length = 32 ∧ cs = (u8s l).toList := by
  obtain ⟨xs, n, -, -, hlen, hxl, hg⟩ := DataW.trod_array Try.underlying27 hf
  have hl : cs.length = 32 := hlen.trans (by kernel_rfl)
  have hc : Try.prog.cellsOf 5 = 1 := by kernel_rfl
  rw [hc] at hg
  have hrow : ∀ i, i < 32 → ∃ b : UInt8, cs[i]? = some (.int .u8 (ub b)) := fun i hi => by
    have h1 := hg i hi
    rw [Nat.mul_one, List.getElem?_eq_getElem (by omega)] at h1
    have e : (cs.drop i).take 1 = [cs[i]'(by omega)] := by rw [List.drop_eq_getElem_cons (by omega)]; rfl
    rw [e] at h1
    obtain ⟨m, e1, -, w1⟩ := DataW.trod_int Try.underlying5 h1
    obtain ⟨b, hb⟩ := lit_u8 m w1
    simp at e1
    exact ⟨b, by rw [List.getElem?_eq_getElem (by omega), e1, hb]⟩
  obtain ⟨f, hfb⟩ := Deep.choose_lt hrow
  refine ⟨(List.range 32).map f, by simp, ?_⟩
  apply List.ext_getElem?
  intro i
  by_cases hi : i < 32
  · rw [hfb i hi, Array.getElem?_toList, u8s_get _ _ (by simpa using hi)]
    congr 3
    rw [List.getD_eq_getElem?_getD, List.getElem?_map, List.getElem?_range hi]
    rfl
  · rw [List.getElem?_eq_none (by omega), List.getElem?_eq_none (by rw [Array.length_toList, u8s_size]; simp; omega)]
set_option maxRecDepth 100000 in
theorem claims_in {H : Type} {enc : TypeId × Value → H} {W : World} {fuel : Nat} {a0 a1 a2 a3 : Value} {x : DataW H × List MemPlace} (h : DataW.trod enc Try.prog W 0 (fun _ => true) true fuel 23 [a0, a1, a2, a3] = some x) : ∃ c : Cl, [a0, a1, a2, a3] = clL c := by
  obtain ⟨xs, n, -, -, hlen, hxl, hf⟩ := DataW.trod_struct Try.underlying23 h
  have hx4 : xs.length = 4 := hxl
  match xs, hx4 with
  | [y0, y1, y2, y3], _ =>
    have g0 : DataW.trod enc Try.prog W 0 (fun _ => true) true n 3 [a0] = some y0 := hf 0 _ rfl
    have g1 : DataW.trod enc Try.prog W 0 (fun _ => true) true n 3 [a1] = some y1 := hf 1 _ rfl
    have g2 : DataW.trod enc Try.prog W 0 (fun _ => true) true n 3 [a2] = some y2 := hf 2 _ rfl
    have g3 : DataW.trod enc Try.prog W 0 (fun _ => true) true n 3 [a3] = some y3 := hf 3 _ rfl
    obtain ⟨n0, e0, -, -⟩ := DataW.trod_int Try.underlying3 g0
    obtain ⟨n1, e1, -, -⟩ := DataW.trod_int Try.underlying3 g1
    obtain ⟨n2, e2, -, -⟩ := DataW.trod_int Try.underlying3 g2
    obtain ⟨n3, e3, -, -⟩ := DataW.trod_int Try.underlying3 g3
    simp at e0 e1 e2 e3
    subst e0 e1 e2 e3
    exact ⟨⟨n0, n1, n2, n3⟩, rfl⟩
/-- A packet that came in. -/
def PkIn (W : World) (cs : List Value) (x : Pk) : Prop := ∃ u, cs = pkL x u ∧ Bytes W u x.b ∧ x.b.length ≤ 9223372036854775807 ∧ x.t.length = 32
set_option maxRecDepth 100000 in
set_option maxHeartbeats 2000000 in
theorem packet_in {H : Type} {enc : TypeId × Value → H} {W : World} {fuel : Nat} {cs : List Value} {x : DataW H × List MemPlace} (h : DataW.trod enc Try.prog W 0 (fun _ => true) true fuel 29 cs = some x) : ∃ y : Pk, PkIn W cs y := by
  obtain ⟨xs, n, -, -, hlen, hxl, hf⟩ := DataW.trod_struct Try.underlying29 h
  have hl : cs.length = 41 := hlen.trans (by kernel_rfl)
  have hx6 : xs.length = 6 := hxl
  match cs, hl, xs, hx6 with
  | c0 :: c1 :: c2 :: c3 :: c4 :: c5 :: c6 :: c7 :: c8 :: r, hl, [y0, y1, y2, y3, y4, y5], _ =>
    have hr : r.length = 32 := by simpa using hl
    have g0 : DataW.trod enc Try.prog W 0 (fun _ => true) true n 3 [c0] = some y0 := hf 0 _ rfl
    have g1 : DataW.trod enc Try.prog W 0 (fun _ => true) true n 23 [c1, c2, c3, c4] = some y1 := hf 1 _ rfl
    have g2 : DataW.trod enc Try.prog W 0 (fun _ => true) true n 3 [c5] = some y2 := hf 2 _ rfl
    have g3 : DataW.trod enc Try.prog W 0 (fun _ => true) true n 25 [c6, c7] = some y3 := hf 3 _ rfl
    have g4 : DataW.trod enc Try.prog W 0 (fun _ => true) true n 26 [c8] = some y4 := hf 4 _ rfl
    have g5' : DataW.trod enc Try.prog W 0 (fun _ => true) true n 27 (r.take 32) = some y5 := hf 5 _ rfl
    rw [List.take_of_length_le (by omega)] at g5'
    obtain ⟨n0, e0, -, -⟩ := DataW.trod_int Try.underlying3 g0
    obtain ⟨c, ec⟩ := claims_in g1
    obtain ⟨n2, e2, -, -⟩ := DataW.trod_int Try.underlying3 g2
    obtain ⟨nn, en, -⟩ := nonce_in g3
    obtain ⟨bs, hb, hbl⟩ := raw_bytes g4
    obtain ⟨l, hl32, el⟩ := raw_u32 g5'
    simp at e0 e2
    unfold clL at ec
    injection ec with p1 ec
    injection ec with p2 ec
    injection ec with p3 ec
    injection ec with p4 ec
    injection en with p6 en
    injection en with p7 en
    subst e0 e2 p1 p2 p3 p4 p6 p7 el
    exact ⟨⟨n0, c, n2, nn, bs, l⟩, c8, rfl, hb, hbl, hl32⟩
set_option maxRecDepth 100000 in
/-- A packet by value. -/
theorem open_packet {H : Type} {enc : TypeId × Value → H} {W : World} {base : Nat} {v : Value} {d : DataW H} {p : List MemPlace} (hv : Value.okWide Try.prog W .any base 29 v) (h : DataW.Trod enc Try.prog W 0 (fun _ => true) true 29 v d p) :
    ∃ (x : Pk) (u : Value), v = pkV x u ∧ Bytes W u x.b ∧ x.b.length ≤ 9223372036854775807 ∧ x.t.length = 32 := by
  obtain ⟨cs, rfl, hsz⟩ := okWide_struct Try.underlying29 hv
  obtain ⟨fuel, hf⟩ := h
  have hf1 : DataW.trod enc Try.prog W 0 (fun _ => true) true fuel 29 cs.toList = some (d, p) := hf
  obtain ⟨x, u, e, hb, hbl, ht⟩ := packet_in hf1
  refine ⟨x, u, ?_, hb, hbl, ht⟩
  obtain ⟨l⟩ := cs
  simp only at e
  rw [e]
  rfl
/-- Packets in a row, to be read. -/
structure PksR (W : World) (v : Value) (l : List Pk) : Prop where
  form : ∃ a cap, v = .slice a l.length cap ∧ l.length ≤ cap ∧ (0 < l.length → ∃ g o, a = some ⟨g, o, none⟩ ∧ ∀ i, i < l.length → ∃ u, W.rangeAt g (o + i * 41) (pkL (l.getD i Pk.zero) u) ∧ Bytes W u (l.getD i Pk.zero).b)
  all : ∀ x ∈ l, x.b.length ≤ 9223372036854775807 ∧ x.t.length = 32
theorem PksR.later {w w1 : World} {v : Value} {l : List Pk} (h : PksR w v l) (hb : Below w.heap.size w w1) : PksR w1 v l := by
  obtain ⟨a, cap, hv, h1, hr⟩ := h.form
  refine ⟨⟨a, cap, hv, h1, fun hp => ?_⟩, h.all⟩
  obtain ⟨g, o, ha, hc⟩ := hr hp
  refine ⟨g, o, ha, fun k hk => ?_⟩
  obtain ⟨u, h2, h3⟩ := hc k hk
  exact ⟨u, fun j y hj => (hb.cell (World.block_lt_of_cell? _ _ (h2 j y hj))).trans (h2 j y hj), h3.later hb⟩
theorem PksR.start {w : World} {v : Value} {l : List Pk} (h : PksR w v l) (hp : 0 < l.length) : ∃ g o cap, v = .slice (some ⟨g, o, none⟩) l.length cap := by
  obtain ⟨a, cap, hv, -, hr⟩ := h.form
  obtain ⟨g, o, ha, -⟩ := hr hp
  exact ⟨g, o, cap, by rw [hv, ha]⟩
theorem PksR.at {w : World} {g o n cap : Nat} {l : List Pk} (h : PksR w (.slice (some ⟨g, o, none⟩) n cap) l) (k : Nat) (hk : k < l.length) : ∃ u, w.rangeAt g (o + k * 41) (pkL (l.getD k Pk.zero) u) ∧ Bytes w u (l.getD k Pk.zero).b := by
  obtain ⟨a', cap', hv, -, hr⟩ := h.form
  obtain ⟨b', o', ha, hx⟩ := hr (by omega)
  injection hv with e1 e2 e3
  rw [ha] at e1
  injection e1 with e1
  injection e1 with e4 e5
  subst e4 e5
  exact hx k hk
end Go.Proofs.Ytaoekfomffebhaa
