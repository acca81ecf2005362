/-
  The walk of the statement on frames.
-/
import Derived.Test.YtkfgpnigeknhmaaDoorMo
namespace Go.Proofs.YtkfgpnigeknhmaaDoor
open Go Go.RowKit
set_option maxRecDepth 100000 in
set_option maxHeartbeats 2000000 in
theorem frames_any (key la lb : List UInt8) (pl pm : List (List UInt8)) (v vl vm : Value) (w : World) (hv : Bytes w v key) (hp : Parts w vl pl) (hp2 : Parts w vm pm) (hl : key.length ≤ 9223372036854775807) (hla : la.length ≤ 9223372036854775807) (hlb : lb.length ≤ 9223372036854775807) (hn : pl.length ≤ 9223372036854775807) (hpl : ∀ p ∈ pl, p.length ≤ 9223372036854775807) (hn2 : pm.length ≤ 9223372036854775807) (hpl2 : ∀ p ∈ pm, p.length ≤ 9223372036854775807) (hTab : Tab w) (hg : 0 < w.heap.size) :
    Calls Tryd.prog 10 #[v, .string ⟨la.toArray⟩, .string ⟨lb.toArray⟩, vl, vm] w fun e w' => e = .returned (.bool true) ∧ Below w.heap.size w w' := by
  have HV := Bx.mk hv
  have HP := Bx.mk (And.intro hp (And.intro hn hpl))
  have HP2 := Bx.mk (And.intro hp2 (And.intro hn2 hpl2))
  have HA := Bx.mk hTab
  obtain ⟨a, cap, rfl, hc, hnone, -⟩ := hv
  have ea : (⟨la.toArray⟩ : ByteArray).size = la.length := rfl
  have eb : (⟨lb.toArray⟩ : ByteArray).size = lb.length := rfl
  obtain ⟨n, hnn⟩ : ∃ n, key.length = n := ⟨_, rfl⟩
  obtain ⟨ka, hka⟩ : ∃ k, la.length = k := ⟨_, rfl⟩
  obtain ⟨kb, hkb⟩ : ∃ k, lb.length = k := ⟨_, rfl⟩
  obtain ⟨m, hm⟩ : ∃ m, m = min n 70 := ⟨_, rfl⟩
  obtain ⟨qa, hqa⟩ : ∃ q, q = min ka 60 := ⟨_, rfl⟩
  obtain ⟨qb, hqb⟩ : ∃ q, q = min kb 60 := ⟨_, rfl⟩
  have m1 : (if (70 : Int) < (n : Int) then (70 : Int) else (n : Int)) = (m : Int) := by split <;> omega
  have qa1 : (if (60 : Int) < (ka : Int) then (60 : Int) else (ka : Int)) = (qa : Int) := by split <;> omega
  have qb1 : (if (60 : Int) < (kb : Int) then (60 : Int) else (kb : Int)) = (qb : Int) := by split <;> omega
  have s1 := fun W => cut_bytes a n cap m (by omega) (by omega) hnone W
  have sa := cut_str la qa
  have sb := cut_str lb qb
  rw [hnn] at hl hc HV ⊢
  have HB : Bx (Bytes w (.slice a m cap) (key.take m)) := Bx.mk (HV.out.take m (by omega))
  have HBL : Bx ((key.take m).length ≤ 70 ∧ (la.take qa).length ≤ 60 ∧ (lb.take qb).length ≤ 60) := Bx.mk (by rw [List.length_take, List.length_take, List.length_take]; omega)
  generalize key.take m = x at *
  generalize la.take qa = ta at *
  generalize lb.take qb = tb at *
  have hn1 : (n : Int) ≤ 9223372036854775807 := by omega
  have hk1 : (ka : Int) ≤ 9223372036854775807 := by omega
  have hk2 : (kb : Int) ≤ 9223372036854775807 := by omega
  have hq1 : (qa : Int) ≤ (ka : Int) := by omega
  have hq2 : (qb : Int) ≤ (kb : Int) := by omega
  rw [hka] at ea
  rw [hkb] at eb
  clear hnn hka hkb hTab hnone hm hqa hqb hl hla hlb hc HV hp hn hpl hp2 hn2 hpl2
  go_enter Tryd.func10, Tryd.ntmps10
  go_wp2
  go_big_quiet (fail)
  clear s1 sa sb m1 qa1 qb1 hn1 hk1 hk2 hq1 hq2 ea eb
  have H0 : Bx (Bytes (w.drewN nq) (.slice a m cap) x ∧ Tab (w.drewN nq) ∧ Below w.heap.size w (w.drewN nq) ∧ Parts (w.drewN nq) vl pl ∧ Parts (w.drewN nq) vm pm) := Bx.mk ⟨HB.out, HA.out, below_drewN (Below.refl _ _) _, HP.out.1, HP2.out.1⟩
  clear HB HA
  go_wp2_with fail
  generalize w.drewN nq = w0 at *
  refine (few2_any pl vl w0 H0.out.2.2.2.1 HP.out.2.1 HP.out.2.2).mono ?_
  rintro e w1 ⟨vo, va, vs1, rfl, hvals, hop, hob, hbel⟩
  have H1 : Bx (Parts w1 vo (cutQ pl) ∧ PartsR w1 vo (cutQ pl) ∧ Tab w1 ∧ Below w.heap.size w w1 ∧ Bytes w1 (.slice a m cap) x ∧ Parts w1 vm pm) := Bx.mk ⟨own_parts hop (hvals.later hbel), ⟨vs1, own_rowP hop, hvals.later hbel⟩, H0.out.2.1.later hbel (Nat.lt_of_lt_of_le hg H0.out.2.2.1.size), H0.out.2.2.1.trans (hbel.mono H0.out.2.2.1.size), H0.out.1.later hbel, H0.out.2.2.2.2.later hbel⟩
  clear hvals hop hob hbel HP H0
  go_wp2_with fail
  refine (few2_any pm vm w1 H1.out.2.2.2.2.2 HP2.out.2.1 HP2.out.2.2).mono ?_
  rintro e w2 ⟨vo2, va2, vs2, rfl, hvals, hop, hob, hbel⟩
  have H2 : Bx (FS w (.slice a m cap) vo vo2 x (cutQ pl) (cutQ pm) w2) := Bx.mk ⟨H1.out.2.2.2.1.trans (hbel.mono H1.out.2.2.2.1.size), H1.out.2.2.1.later hbel (Nat.lt_of_lt_of_le hg H1.out.2.2.2.1.size), H1.out.2.2.2.2.1.later hbel, H1.out.1.later hbel, own_parts hop (hvals.later hbel), H1.out.2.1.later hbel, ⟨vs2, own_rowP hop, hvals.later hbel⟩⟩
  clear hvals hop hob hbel HP2 H1
  have HC := Bx.mk (And.intro (And.intro (cutR_few pl) (cutR_len pl)) (And.intro (cutR_few pm) (cutR_len pm)))
  generalize cutQ pl = xs at *
  generalize cutQ pm = ys at *
  obtain ⟨ax, cx, hvo, -⟩ := H2.out.px
  obtain ⟨ay, cy, hvo2, -⟩ := H2.out.py
  subst hvo
  subst hvo2
  obtain ⟨nx, hnx⟩ : ∃ n, xs.length = n := ⟨_, rfl⟩
  obtain ⟨ny, hny⟩ : ∃ n, ys.length = n := ⟨_, rfl⟩
  have HNN := Bx.mk (And.intro hnx hny)
  rw [hnx, hny] at H2 ⊢
  clear hnx hny
  go_upto_region 4 with (fail)
  by_cases hab : ta = tb
  · subst hab
    go_wp2
    refine loopFm _ _ _ ax ay nx cx ny cy w2 ta ta xs ys H2.out.px H2.out.py HC.out.1.1 HC.out.1.2 HC.out.2.2 _ _ _ ⟨⟨⟨rfl, rfl⟩, rfl, rfl, rfl, rfl, rfl⟩, by unfold smTo; rw [HNN.out.1, HNN.out.2]; show Value.bool ((nx : Int) == (ny : Int)) = _; congr 1; rw [Bool.eq_iff_iff]; simp; omega, rfl, ⟨0, rfl⟩⟩ ?_
    intro a' w3 hFL h15 hw3
    obtain ⟨q3, rfl⟩ := hw3
    have H3 : Bx (FS w (.slice a m cap) (.slice ax nx cx) (.slice ay ny cy) x xs ys (w2.drewN q3)) := Bx.mk (H2.out.later hg (below_drewN (Below.refl _ _) _))
    clear H2
    generalize w2.drewN q3 = w3 at *
    obtain ⟨fx, rfl, hfx⟩ := open113 hFL.fr
    have e0 := (hfx 0).symm.trans hFL.s0
    have e1 := (hfx 1).symm.trans hFL.s1
    have e2 := (hfx 2).symm.trans hFL.s2
    have e11 := (hfx 11).symm.trans hFL.s11
    have e13 := (hfx 13).symm.trans hFL.s13
    have e15 := (hfx 15).symm.trans h15
    clear hFL hfx h15
    rw [e0, e1, e2, e11, e13, e15]
    clear e0 e1 e2 e11 e13 e15
    obtain ⟨sm, hsm⟩ : ∃ sm, decide (ta :: xs = ta :: ys) = sm := ⟨_, rfl⟩
    have HSM := Bx.mk hsm
    rw [hsm]
    clear hsm
    obtain ⟨ux, hrx, hvx⟩ := H3.out.rx
    have HUX := Bx.mk (And.intro hrx hvx)
    obtain ⟨uy, hry, hvy⟩ := H3.out.ry
    have HUY := Bx.mk (And.intro hry hvy)
    clear hrx hvx hry hvy
    go_wp2_with (first | (refine wpList_strb rfl _ rfl ta (by rfl) ?_; intro c5 pa hy hb; have pA : Bx (FS w (.slice a m cap) (.slice ax nx cx) (.slice ay ny cy) x xs ys pa ∧ Bytes pa (.slice (some ⟨w3.heap.size, 0, none⟩) ta.length c5) ta ∧ Below w3.heap.size w3 pa) := Bx.mk ⟨H3.out.later hg hb, hy, hb⟩; clear hy hb) | (refine wpList_apPl rfl _ _ rfl pa.heap.size _ [.slice (some ⟨w3.heap.size, 0, none⟩) ta.length c5] (by rfl) (own_one pa _) _ ux (by rfl) (((HUX.out.1.later (pA.out.2.2))).later (below_a _)) (vals_one HUX.out.2) (by have h1 := HUX.out.2.1; have h2 := HC.out; simp only [List.length_cons, List.length_nil]; omega) (by simp) ?_; intro v5 pb ho hgr; have pB : Bx (FS w (.slice a m cap) (.slice ax nx cx) (.slice ay ny cy) x xs ys pb ∧ Parts pb v5 (ta :: xs) ∧ Below w3.heap.size w3 pb) := Bx.mk (by have hb := ownP_below (own_one pa _) hgr (by simp); have hb2 : Below pa.heap.size pa pb := (below_a _).trans hb; have hb3 : Below w3.heap.size w3 pb := pA.out.2.2.trans (hb2.mono pA.out.2.2.size); exact ⟨pA.out.1.later hg hb2, own_parts ho ((HUX.out.2.later hb3).cons (pA.out.2.1.later hb2)), hb3⟩); clear ho hgr))
    refine (rframe_any (ta :: xs) v5 pb pB.out.2.1 (by have := HC.out; rw [List.length_cons]; omega) (fun p hp => by have h := HC.out; have h2 := HBL.out; rcases List.mem_cons.1 hp with rfl | hp; omega; have := h.1.2 p hp; omega)).mono ?_
    rintro e pc ⟨vv5, rfl, ho, hb⟩
    have H7 : Bx (FS w (.slice a m cap) (.slice ax nx cx) (.slice ay ny cy) x xs ys pc ∧ Bytes pc vv5 (frame (ta :: xs)) ∧ Below w3.heap.size w3 pc) := Bx.mk ⟨pB.out.1.later hg hb, ho.bytes, pB.out.2.2.trans (hb.mono pB.out.2.2.size)⟩
    obtain ⟨af, cf, hvf, -, -⟩ := bytes_form H7.out.2.1
    obtain ⟨nf, hnf⟩ : ∃ n, (frame (ta :: xs)).length = n := ⟨_, rfl⟩
    rw [hnf] at hvf
    clear hnf ho hb pA pB
    subst hvf
    go_wp2_with (first | (refine wpList_strb rfl _ rfl ta (by rfl) ?_; intro c6 ra hy hb; have rA : Bx (FS w (.slice a m cap) (.slice ax nx cx) (.slice ay ny cy) x xs ys ra ∧ Bytes ra (.slice (some ⟨pc.heap.size, 0, none⟩) ta.length c6) ta ∧ Below pc.heap.size pc ra) := Bx.mk ⟨H7.out.1.later hg hb, hy, hb⟩; clear hy hb) | (refine wpList_apPl rfl _ _ rfl ra.heap.size _ [.slice (some ⟨pc.heap.size, 0, none⟩) ta.length c6] (by rfl) (own_one ra _) _ uy (by rfl) (((HUY.out.1.later H7.out.2.2).later rA.out.2.2).later (below_a _)) (vals_one HUY.out.2) (by have h1 := HUY.out.2.1; have h2 := HC.out; simp only [List.length_cons, List.length_nil]; omega) (by simp) ?_; intro v6 rb ho hgr; have rB : Bx (FS w (.slice a m cap) (.slice ax nx cx) (.slice ay ny cy) x xs ys rb ∧ Parts rb v6 (ta :: ys) ∧ Below pc.heap.size pc rb) := Bx.mk (by have hb := ownP_below (own_one ra _) hgr (by simp); have hb2 : Below ra.heap.size ra rb := (below_a _).trans hb; have hb3 : Below pc.heap.size pc rb := rA.out.2.2.trans (hb2.mono rA.out.2.2.size); exact ⟨rA.out.1.later hg hb2, own_parts ho (((HUY.out.2.later H7.out.2.2).later hb3).cons (rA.out.2.1.later hb2)), hb3⟩); clear ho hgr))
    refine (rframe_any (ta :: ys) v6 rb rB.out.2.1 (by have := HC.out; rw [List.length_cons]; omega) (fun p hp => by have h := HC.out; have h2 := HBL.out; rcases List.mem_cons.1 hp with rfl | hp; omega; have := h.2.2 p hp; omega)).mono ?_
    rintro e rc ⟨vv6, rfl, ho, hb⟩
    have H8 : Bx (FS w (.slice a m cap) (.slice ax nx cx) (.slice ay ny cy) x xs ys rc ∧ Bytes rc (.slice af nf cf) (frame (ta :: xs)) ∧ Bytes rc vv6 (frame (ta :: ys))) := Bx.mk ⟨rB.out.1.later hg hb, (H7.out.2.1.later rB.out.2.2).later hb, ho.bytes⟩
    obtain ⟨ag, cg, hvg, -, -⟩ := bytes_form H8.out.2.2
    obtain ⟨ng, hng⟩ : ∃ n, (frame (ta :: ys)).length = n := ⟨_, rfl⟩
    rw [hng] at hvg
    clear hng ho hb rA rB H7 H3
    subst hvg
    go_upto_region 11 with (fail)
    refine reg11 w a ax ay af ag m cap nx cx ny cy nf cf ng cg x ta ta xs ys hg HBL.out.1 HBL.out.2.1 HBL.out.2.2 HC.out.1.1 HC.out.2.1 HC.out.1.2 HC.out.2.2 rc H8.out.1 H8.out.2.1 H8.out.2.2 _ _ ⟨⟨rfl, rfl⟩, rfl, rfl, rfl, rfl, rfl⟩ (by rw [HSM.out]; rfl) rfl rfl ?_
    intro a' W9 hFr h10 hb9
    have HF9 := Bx.mk hb9
    obtain ⟨fx, rfl, hfx⟩ := open113 hFr
    have e10 := (hfx 10).symm.trans h10
    clear hFr hfx h10 hb9
    rw [e10]
    clear e10
    go_wp2
    go_ret
    exact ⟨rfl, HF9.out⟩
  · have HAB := Bx.mk hab
    go_wp2
    clear hab
    refine loopFm _ _ _ ax ay nx cx ny cy w2 ta tb xs ys H2.out.px H2.out.py HC.out.1.1 HC.out.1.2 HC.out.2.2 _ _ _ ⟨⟨⟨rfl, rfl⟩, rfl, rfl, rfl, rfl, rfl⟩, by unfold smTo; rw [decide_eq_false (fun h => HAB.out h.1)]; rfl, rfl, ⟨0, rfl⟩⟩ ?_
    intro a' w3 hFL h15 hw3
    obtain ⟨q3, rfl⟩ := hw3
    have H3 : Bx (FS w (.slice a m cap) (.slice ax nx cx) (.slice ay ny cy) x xs ys (w2.drewN q3)) := Bx.mk (H2.out.later hg (below_drewN (Below.refl _ _) _))
    clear H2
    generalize w2.drewN q3 = w3 at *
    obtain ⟨fx, rfl, hfx⟩ := open113 hFL.fr
    have e0 := (hfx 0).symm.trans hFL.s0
    have e1 := (hfx 1).symm.trans hFL.s1
    have e2 := (hfx 2).symm.trans hFL.s2
    have e11 := (hfx 11).symm.trans hFL.s11
    have e13 := (hfx 13).symm.trans hFL.s13
    have e15 := (hfx 15).symm.trans h15
    clear hFL hfx h15
    rw [e0, e1, e2, e11, e13, e15]
    clear e0 e1 e2 e11 e13 e15
    obtain ⟨sm, hsm⟩ : ∃ sm, decide (ta :: xs = tb :: ys) = sm := ⟨_, rfl⟩
    have HSM := Bx.mk hsm
    rw [hsm]
    clear hsm
    obtain ⟨ux, hrx, hvx⟩ := H3.out.rx
    have HUX := Bx.mk (And.intro hrx hvx)
    obtain ⟨uy, hry, hvy⟩ := H3.out.ry
    have HUY := Bx.mk (And.intro hry hvy)
    clear hrx hvx hry hvy
    go_wp2_with (first | (refine wpList_strb rfl _ rfl ta (by rfl) ?_; intro c5 pa hy hb; have pA : Bx (FS w (.slice a m cap) (.slice ax nx cx) (.slice ay ny cy) x xs ys pa ∧ Bytes pa (.slice (some ⟨w3.heap.size, 0, none⟩) ta.length c5) ta ∧ Below w3.heap.size w3 pa) := Bx.mk ⟨H3.out.later hg hb, hy, hb⟩; clear hy hb) | (refine wpList_apPl rfl _ _ rfl pa.heap.size _ [.slice (some ⟨w3.heap.size, 0, none⟩) ta.length c5] (by rfl) (own_one pa _) _ ux (by rfl) (((HUX.out.1.later (pA.out.2.2))).later (below_a _)) (vals_one HUX.out.2) (by have h1 := HUX.out.2.1; have h2 := HC.out; simp only [List.length_cons, List.length_nil]; omega) (by simp) ?_; intro v5 pb ho hgr; have pB : Bx (FS w (.slice a m cap) (.slice ax nx cx) (.slice ay ny cy) x xs ys pb ∧ Parts pb v5 (ta :: xs) ∧ Below w3.heap.size w3 pb) := Bx.mk (by have hb := ownP_below (own_one pa _) hgr (by simp); have hb2 : Below pa.heap.size pa pb := (below_a _).trans hb; have hb3 : Below w3.heap.size w3 pb := pA.out.2.2.trans (hb2.mono pA.out.2.2.size); exact ⟨pA.out.1.later hg hb2, own_parts ho ((HUX.out.2.later hb3).cons (pA.out.2.1.later hb2)), hb3⟩); clear ho hgr))
    refine (rframe_any (ta :: xs) v5 pb pB.out.2.1 (by have := HC.out; rw [List.length_cons]; omega) (fun p hp => by have h := HC.out; have h2 := HBL.out; rcases List.mem_cons.1 hp with rfl | hp; omega; have := h.1.2 p hp; omega)).mono ?_
    rintro e pc ⟨vv5, rfl, ho, hb⟩
    have H7 : Bx (FS w (.slice a m cap) (.slice ax nx cx) (.slice ay ny cy) x xs ys pc ∧ Bytes pc vv5 (frame (ta :: xs)) ∧ Below w3.heap.size w3 pc) := Bx.mk ⟨pB.out.1.later hg hb, ho.bytes, pB.out.2.2.trans (hb.mono pB.out.2.2.size)⟩
    obtain ⟨af, cf, hvf, -, -⟩ := bytes_form H7.out.2.1
    obtain ⟨nf, hnf⟩ : ∃ n, (frame (ta :: xs)).length = n := ⟨_, rfl⟩
    rw [hnf] at hvf
    clear hnf ho hb pA pB
    subst hvf
    go_wp2_with (first | (refine wpList_strb rfl _ rfl tb (by rfl) ?_; intro c6 ra hy hb; have rA : Bx (FS w (.slice a m cap) (.slice ax nx cx) (.slice ay ny cy) x xs ys ra ∧ Bytes ra (.slice (some ⟨pc.heap.size, 0, none⟩) tb.length c6) tb ∧ Below pc.heap.size pc ra) := Bx.mk ⟨H7.out.1.later hg hb, hy, hb⟩; clear hy hb) | (refine wpList_apPl rfl _ _ rfl ra.heap.size _ [.slice (some ⟨pc.heap.size, 0, none⟩) tb.length c6] (by rfl) (own_one ra _) _ uy (by rfl) (((HUY.out.1.later H7.out.2.2).later rA.out.2.2).later (below_a _)) (vals_one HUY.out.2) (by have h1 := HUY.out.2.1; have h2 := HC.out; simp only [List.length_cons, List.length_nil]; omega) (by simp) ?_; intro v6 rb ho hgr; have rB : Bx (FS w (.slice a m cap) (.slice ax nx cx) (.slice ay ny cy) x xs ys rb ∧ Parts rb v6 (tb :: ys) ∧ Below pc.heap.size pc rb) := Bx.mk (by have hb := ownP_below (own_one ra _) hgr (by simp); have hb2 : Below ra.heap.size ra rb := (below_a _).trans hb; have hb3 : Below pc.heap.size pc rb := rA.out.2.2.trans (hb2.mono rA.out.2.2.size); exact ⟨rA.out.1.later hg hb2, own_parts ho (((HUY.out.2.later H7.out.2.2).later hb3).cons (rA.out.2.1.later hb2)), hb3⟩); clear ho hgr))
    refine (rframe_any (tb :: ys) v6 rb rB.out.2.1 (by have := HC.out; rw [List.length_cons]; omega) (fun p hp => by have h := HC.out; have h2 := HBL.out; rcases List.mem_cons.1 hp with rfl | hp; omega; have := h.2.2 p hp; omega)).mono ?_
    rintro e rc ⟨vv6, rfl, ho, hb⟩
    have H8 : Bx (FS w (.slice a m cap) (.slice ax nx cx) (.slice ay ny cy) x xs ys rc ∧ Bytes rc (.slice af nf cf) (frame (ta :: xs)) ∧ Bytes rc vv6 (frame (tb :: ys))) := Bx.mk ⟨rB.out.1.later hg hb, (H7.out.2.1.later rB.out.2.2).later hb, ho.bytes⟩
    obtain ⟨ag, cg, hvg, -, -⟩ := bytes_form H8.out.2.2
    obtain ⟨ng, hng⟩ : ∃ n, (frame (tb :: ys)).length = n := ⟨_, rfl⟩
    rw [hng] at hvg
    clear hng ho hb rA rB H7 H3
    subst hvg
    go_upto_region 11 with (fail)
    refine reg11 w a ax ay af ag m cap nx cx ny cy nf cf ng cg x ta tb xs ys hg HBL.out.1 HBL.out.2.1 HBL.out.2.2 HC.out.1.1 HC.out.2.1 HC.out.1.2 HC.out.2.2 rc H8.out.1 H8.out.2.1 H8.out.2.2 _ _ ⟨⟨rfl, rfl⟩, rfl, rfl, rfl, rfl, rfl⟩ (by rw [HSM.out]; rfl) rfl rfl ?_
    intro a' W9 hFr h10 hb9
    have HF9 := Bx.mk hb9
    obtain ⟨fx, rfl, hfx⟩ := open113 hFr
    have e10 := (hfx 10).symm.trans h10
    clear hFr hfx h10 hb9
    rw [e10]
    clear e10
    go_wp2
    go_ret
    exact ⟨rfl, HF9.out⟩
end Go.Proofs.YtkfgpnigeknhmaaDoor
