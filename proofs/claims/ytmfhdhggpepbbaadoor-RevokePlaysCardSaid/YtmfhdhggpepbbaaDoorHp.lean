/-
  Revocations: the document's Apply: the outer loop.
-/
import Derived.Test.YtmfhdhggpepbbaaDoorFz
namespace Go.Proofs.YtmfhdhggpepbbaaDoor
open Go Go.RowKit
/-- What the outer loop leaves alone. -/
structure AG (v0 v3 v6 : Value) (a : Act) : Prop where
  fr : Fr 115 a
  s0 : a.eval (.tmp 0) = v0
  s3 : a.eval (.tmp 3) = v3
  s6 : a.eval (.tmp 6) = v6
/-- Between two rounds of the outer loop. -/
structure AO (w : World) (E q N : Nat) (x : VV) (l : L4) (v : V4) (m : L4) (i : Nat) (a : Act) (W : World) : Prop where
  fr : AG (.pointer (some ⟨q, 0, none⟩)) (.pointer (some ⟨E, 0, none⟩)) (.pointer (some ⟨N, 0, none⟩)) a
  s7 : a.eval (.tmp 7) = .int .i64 (nnK l v m i : Int)
  s8 : a.eval (.tmp 8) = .int .i64 (badK l v m i)
  s10 : a.eval (.tmp 10) = .int .i64 (i : Int)
  k : KR w E [(E, .cells (dC v x) 33)] W
  nx : ∃ z : VV, W.heap[N]? = some (.cells #[z.a, z.b, z.c, z.d] 29 (0, 0)) ∧ ∀ j, j < i → IsL W (uN z j) (nJ l v m j)
  en : E < N
  ok : ∀ j, j < i → oJ l v m j = true
theorem dC_int (v : V4) (x : VV) : ∀ i, i < 4 → (dC v x)[i]? = some (.int .i64 (vN v i))
  | 0, _ => rfl
  | 1, _ => rfl
  | 2, _ => rfl
  | 3, _ => rfl
theorem dC_row (v : V4) (x : VV) : ∀ i, i < 4 → (dC v x)[4 + i]? = some (uN x i)
  | 0, _ => rfl
  | 1, _ => rfl
  | 2, _ => rfl
  | 3, _ => rfl
theorem nnK_le {l : L4} {v : V4} {m : L4} (hm : Most m 1000) : ∀ i, i ≤ 4 → nnK l v m i ≤ i * 1000
  | 0, _ => Nat.le_refl _
  | i + 1, hi => by
    have h1 := nnK_le (l := l) (v := v) hm i (by omega)
    have h2 := hm.nth i (by omega)
    have h3 : (nJ l v m i).length ≤ (lN l i).length + (lN m i).length := newJ_len _ _ _
    show nnK l v m i + ((nJ l v m i).length - (lN l i).length) ≤ _
    omega
set_option maxRecDepth 100000 in
set_option maxHeartbeats 4000000 in
theorem roundAO (w : World) (E q N : Nat) (x y : VV) (l : L4) (v : V4) (m : L4) (hE : w.heap.size = E) (hy : w.heap[q]? = some (.cells #[y.a, y.b, y.c, y.d] 29 (0, 0))) (hyr : Rows4 w y l) (hxr : Rows4 w x m) (hg : Good l) (hm : Most m 1000)
    (hv : ∀ i, i < 4 → 0 ≤ vN v i ∧ vN v i ≤ (lN l i).length) (Q : Exit → Act → World → Prop) (hret : ∀ a' w', Fr 115 a' → a'.eval (.tmp 4) = .int .i64 0 → a'.eval (.tmp 5) = .int .i64 3 → Below E w w' → okL l v m = false → Q .ret a' w')
    (i : Nat) (a : Act) (wr : World) (hi : i < 4) (h : AO w E q N x l v m i a wr) :
    Code.wp Tryd.prog (loopAt (Tryd.f16.body) 1) (Exit.then (fun a' w' => AO w E q N x l v m (i + 1) a' w') Q) a wr := by
  obtain ⟨z, hz, hzr⟩ := h.nx
  have hK := h.k
  have hql := (Array.getElem?_eq_some_iff.1 hy).1
  have hqy : wr.heap[q]? = some (.cells #[y.a, y.b, y.c, y.d] 29 (0, 0)) := by rw [hK.below.block q (by omega)]; exact hy
  obtain ⟨B, hB⟩ : ∃ B, wr.heap.size = B := ⟨_, rfl⟩
  have hNB : N < B := by rw [← hB]; exact (Array.getElem?_eq_some_iff.1 hz).1
  have hEB : E < B := by have := h.en; omega
  have hyw := (hyr.nth i hi).later (by rw [hE]; exact hK.below)
  have hxw := (hxr.nth i hi).later (by rw [hE]; exact hK.below)
  obtain ⟨ay, cy, hyf⟩ := hyw.form
  obtain ⟨ax, cx, hxf⟩ := hxw.form
  obtain ⟨r, hrr⟩ : ∃ r, lN l i = r := ⟨_, rfl⟩
  obtain ⟨d, hdd⟩ : ∃ d, lN m i = d := ⟨_, rfl⟩
  obtain ⟨f, hff⟩ : ∃ f : Nat, vN v i = (f : Int) := ⟨(vN v i).toNat, by have := (hv i hi).1; omega⟩
  have hfr : f ≤ r.length := by have := (hv i hi).2; rw [hrr] at this; omega
  have hrl : r.length ≤ 256 := by rw [← hrr]; exact (hg.nth i hi).1
  have hdl : d.length ≤ 1000 := by rw [← hdd]; exact hm.nth i hi
  rw [hyf, hrr] at hyw
  rw [hxf, hdd] at hxw
  rw [hrr] at hyf
  rw [hdd] at hxf
  have hA : AR wr E q i f ax ay d.length cx r.length cy r d := ⟨by rw [cell_of_row _ _ _ _ _ _ (hK.rows _ (.head _)), dC_row v x i hi, hxf], by rw [cell_of_row _ _ _ _ _ _ (hK.rows _ (.head _)), dC_int v x i hi, hff], by rw [cell_of_row _ _ _ _ _ _ hqy, ← hyf]; exact uN_at y i hi, hxw, hyw⟩
  have HnJ : Bx (nJ l v m i = newJ r f d) := ⟨by unfold nJ; rw [hrr, hdd, hff]; rfl⟩
  have HoJ : Bx (oJ l v m i = okJ r f d) := ⟨by unfold oJ; rw [hrr, hdd, hff]; rfl⟩
  have HnK : Bx (nnK l v m (i + 1) = nnK l v m i + ((newJ r f d).length - r.length)) := ⟨by rw [← HnJ.out, ← hrr]; rfl⟩
  have HbK : Bx (badK l v m (i + 1) = if 256 < (newJ r f d).length then 6 else badK l v m i) := ⟨by rw [← HnJ.out]; rfl⟩
  have HokF : Bx (okJ r f d = false → okL l v m = false) := ⟨fun hq => by
    cases ho : okL l v m
    · rfl
    · have := (okL_iff l v m).1 ho i hi
      rw [HoJ.out, hq] at this
      cases this⟩
  have hnle := nnK_le (l := l) (v := v) hm i (by omega)
  have HRet := Bx.mk hret
  have HL := Bx.mk (fun bd Q hr a w' h hq => loopIK wr B E q N i f (nnK l v m i) bd ax ay d.length cx r.length cy r d hB hi hA rfl rfl hdl (by omega) hfr (by omega) Q hr a w' h hq)
  have hz0 : (allK r f d 0).length - r.length = 0 := by rw [allK_zero]; omega
  have HZ := Bx.mk (And.intro hz (And.intro hzr (And.intro h.en h.ok)))
  have HKr := Bx.mk hK
  have HB1 : Bx (∀ W, Below B wr W → KR w E [(E, .cells (dC v x) 33)] W) := ⟨fun W hb => hK.later (by rw [hB]; exact hb)⟩
  have hO0 := ownI_empty wr B (by omega)
  rw [hB] at hO0
  have HO0 := Bx.mk hO0
  have HBa := Bx.mk (below_a (W := wr) (.cells #[] 3))
  rw [hB] at HBa
  have hsz : (wr.alloc (.cells #[] 3)).heap.size = B + 1 := by simp [hB]
  have HS0 := Bx.mk hsz
  have HIy : Bx (∀ W, Below B wr W → IsL W (.slice ay r.length cy) r ∧ W.cell? ⟨q, i, none⟩ = some (.slice ay r.length cy)) := ⟨fun W hb => ⟨hyw.later (by rw [hB]; exact hb), (hA.later (by rw [hB]; exact hb)).y⟩⟩
  obtain ⟨nr, hnr⟩ : ∃ n, r.length = n := ⟨_, rfl⟩
  have HNr := Bx.mk (And.intro hnr (And.intro hfr (And.intro hdl hrl)))
  have hbw := hB
  have hi0 : (0 : Int) ≤ (i : Int) := by omega
  have hi1 : (i : Int) < 4 := by omega
  generalize hnn : nnK l v m i = n0 at *
  generalize hbb : badK l v m i = bd at *
  have hs7 := h.s7
  have hs8 := h.s8
  rw [hnn] at hs7
  rw [hbb] at hs8
  obtain ⟨g, rfl, hg⟩ := open115 h.fr.fr
  have e0 := (hg 0).symm.trans h.fr.s0
  have e3 := (hg 3).symm.trans h.fr.s3
  have e6 := (hg 6).symm.trans h.fr.s6
  have e7 := (hg 7).symm.trans hs7
  have e8 := (hg 8).symm.trans hs8
  have e10 := (hg 10).symm.trans h.s10
  clear h hg hy hyr hxr hm hv hret hz hzr hK hql hqy hyw hxw hyf hxf hrr hdd hff hA hnle hO0 hsz hs7 hs8 hnn hbb hNB hEB hfr hdl hrl
  rw [e0, e3, e6, e7, e8, e10]
  clear e0 e3 e6 e7 e8 e10
  have ky := (HIy.out _ HBa.out).2
  rw [hnr] at ky
  have HIy2 := HIy
  rw [hnr] at HIy2
  conv => arg 2; whnf
  go_wp2_with (refine wpList_apI rfl _ _ rfl B _ ([] : List Int) (by rfl) HO0.out _ r (by rfl) (HIy2.out _ HBa.out).1.ints (by have := HNr.out; simp; omega) (by rw [HS0.out]; omega) ?_; intro v1 w2 ho hg; rw [List.nil_append] at ho; have HB2 : Bx (Below B wr w2 ∧ B ≤ w2.heap.size) := ⟨HBa.out.trans (ownI_below HO0.out hg (by rw [HS0.out]; omega)), by have := hg.size; rw [HS0.out] at this; omega⟩; have HO1 := Bx.mk ho; clear ho hg HO0 ky HBa)
  refine HL.out bd _ ?_ _ w2 ?_ ?_
  · intro a' w' h1 h2 h3 h4 h5
    refine HRet.out a' w' h1 h2 h3 (HB1.out w' h4).below (HokF.out ?_)
    unfold okJ
    rw [decide_eq_false h5]
    rfl
  · exact ⟨⟨⟨rfl, rfl⟩, rfl, rfl, rfl, rfl, rfl⟩, by rw [hz0]; rfl, rfl, by rw [allK_zero]; exact HO1.out, HB2.out.1, fun t ht => absurd ht (Nat.not_lt_zero _)⟩
  intro a5 w5 h5
  have h7 := h5.s7
  have hO := h5.o
  rw [allK_all] at h7 hO
  rw [← HnK.out] at h7
  have HF5 := Bx.mk (And.intro h5.b ((fit_iff HNr.out.2.1).2 h5.fit))
  obtain ⟨va, hva⟩ : ∃ x, a5.eval (.tmp 11) = x := ⟨_, rfl⟩
  rw [hva] at hO
  have HNj : Bx ((newJ r f d).length ≤ 3000) := ⟨Nat.le_trans (newJ_len r d f) (by have := HNr.out; omega)⟩
  obtain ⟨js, hjs⟩ : ∃ j, newJ r f d = j := ⟨_, rfl⟩
  rw [hjs] at hO HNj HbK
  have HJs := Bx.mk hjs
  obtain ⟨za, zc, rfl⟩ := hO.form
  obtain ⟨nk, hnk⟩ : ∃ n, js.length = n := ⟨_, rfl⟩
  rw [hnk] at hO hva HbK
  have hnk3 := HNj.out
  rw [hnk] at hnk3
  have HNk := Bx.mk hnk
  have HO5 := Bx.mk hO
  obtain ⟨u, rfl, hu⟩ := open115 h5.fr.fr
  have j0 := (hu 0).symm.trans h5.fr.s0
  have j3 := (hu 3).symm.trans h5.fr.s3
  have j6 := (hu 6).symm.trans h5.fr.s6
  have j8 := (hu 8).symm.trans h5.fr.s8
  have j10 := (hu 10).symm.trans h5.fr.s10
  have j7 := (hu 7).symm.trans h7
  have j11 := (hu 11).symm.trans hva
  clear h5 hu h7 hva hO hjs hnk HL HO1 HB2
  rw [j0, j3, j6, j8, j10, j7, j11]
  clear j0 j3 j6 j8 j10 j7 j11
  go_wp2_with fail
  refine (rtwice8 js _ w5 HO5.out.isL (by have := HNj.out; omega)).mono ?_
  rintro e w6 ⟨rfl, hb⟩
  have HJ6 := Bx.mk (HO5.out.isL.later hb)
  have HB6 : Bx (Below B wr w6) := ⟨HF5.out.1.trans (hb.mono (by have := HF5.out.1.size; rw [hbw] at this; exact this))⟩
  clear hb HO5
  cases hd : dupB js with
  | true =>
    go_wp2
    refine HRet.out _ _ ⟨rfl, rfl⟩ rfl rfl (HB1.out w6 HB6.out).below (HokF.out ?_)
    unfold okJ
    have hj := HJs.out
    unfold newJ at hj
    rw [hj, hd]
    simp
  | false =>
    have HOk : Bx (oJ l v m i = true) := ⟨by
      rw [HoJ.out]
      unfold okJ
      have hj := HJs.out
      unfold newJ at hj
      rw [hj, hd, decide_eq_true HF5.out.2]
      rfl⟩
    have HKw := Bx.mk (HB1.out w6 HB6.out)
    have HZw : Bx (w6.heap[N]? = some (.cells #[z.a, z.b, z.c, z.d] 29 (0, 0)) ∧ ∀ j, j < i → IsL w6 (uN z j) (nJ l v m j)) := ⟨by
      have hz := HZ.out.1
      exact ⟨by rw [HB6.out.block N (by rw [← hbw]; exact (Array.getElem?_eq_some_iff.1 hz).1)]; exact hz, fun j hj => (HZ.out.2.1 j hj).later (by rw [hbw]; exact HB6.out)⟩⟩
    by_cases hbg : 256 < nk
    · have hbg1 : (256 : Int) < (nk : Int) := by omega
      go_wp2_with (refine wpList_cellS rfl _ _ rfl N i za nk zc #[z.a, z.b, z.c, z.d] #[(setVV z i (.slice za nk zc)).a, (setVV z i (.slice za nk zc)).b, (setVV z i (.slice za nk zc)).c, (setVV z i (.slice za nk zc)).d] 29 (by rfl) (by rfl) HZw.out.1 (by simpa using hi) (setVV_arr z _ i hi) ?_; intro w7 hg hr; have HE7 : Bx (KR w E [(E, .cells (dC v x) 33)] w7 ∧ w7.heap[N]? = some (.cells #[(setVV z i (.slice za nk zc)).a, (setVV z i (.slice za nk zc)).b, (setVV z i (.slice za nk zc)).c, (setVV z i (.slice za nk zc)).d] 29 (0, 0)) ∧ ∀ j, j < i + 1 → IsL w7 (uN (setVV z i (.slice za nk zc)) j) (nJ l v m j)) := ⟨HKw.out.grown hg (by have := HZ.out.2.2.1; omega) (fun y hy => by rcases List.mem_cons.1 hy with rfl | hy; exact Nat.ne_of_lt HZ.out.2.2.1; cases hy), hr, fun j hj => by
        by_cases e : j = i
        · subst e
          rw [setVV_same z _ j hi, HnJ.out, HJs.out]
          exact HJ6.out.grown hg HZw.out.1 rs_int
        · rw [setVV_other z _ i j hi (by omega) e]
          exact (HZw.out.2 j (by omega)).grown hg HZw.out.1 rs_int⟩; clear hg hr)
      refine ⟨⟨⟨rfl, rfl⟩, rfl, rfl, rfl⟩, rfl, by rw [HbK.out, if_pos hbg]; rfl, by first | rfl | go_num, HE7.out.1, ⟨_, HE7.out.2.1, HE7.out.2.2⟩, HZ.out.2.2.1, fun j hj => ?_⟩
      by_cases e : j = i
      · subst e
        exact HOk.out
      · exact HZ.out.2.2.2 j (by omega)
    · have hbg1 : ¬ (256 : Int) < (nk : Int) := by omega
      go_wp2_with (refine wpList_cellS rfl _ _ rfl N i za nk zc #[z.a, z.b, z.c, z.d] #[(setVV z i (.slice za nk zc)).a, (setVV z i (.slice za nk zc)).b, (setVV z i (.slice za nk zc)).c, (setVV z i (.slice za nk zc)).d] 29 (by rfl) (by rfl) HZw.out.1 (by simpa using hi) (setVV_arr z _ i hi) ?_; intro w7 hg hr; have HE7 : Bx (KR w E [(E, .cells (dC v x) 33)] w7 ∧ w7.heap[N]? = some (.cells #[(setVV z i (.slice za nk zc)).a, (setVV z i (.slice za nk zc)).b, (setVV z i (.slice za nk zc)).c, (setVV z i (.slice za nk zc)).d] 29 (0, 0)) ∧ ∀ j, j < i + 1 → IsL w7 (uN (setVV z i (.slice za nk zc)) j) (nJ l v m j)) := ⟨HKw.out.grown hg (by have := HZ.out.2.2.1; omega) (fun y hy => by rcases List.mem_cons.1 hy with rfl | hy; exact Nat.ne_of_lt HZ.out.2.2.1; cases hy), hr, fun j hj => by
        by_cases e : j = i
        · subst e
          rw [setVV_same z _ j hi, HnJ.out, HJs.out]
          exact HJ6.out.grown hg HZw.out.1 rs_int
        · rw [setVV_other z _ i j hi (by omega) e]
          exact (HZw.out.2 j (by omega)).grown hg HZw.out.1 rs_int⟩; clear hg hr)
      refine ⟨⟨⟨rfl, rfl⟩, rfl, rfl, rfl⟩, rfl, by rw [HbK.out, if_neg hbg]; rfl, by first | rfl | go_num, HE7.out.1, ⟨_, HE7.out.2.1, HE7.out.2.2⟩, HZ.out.2.2.1, fun j hj => ?_⟩
      by_cases e : j = i
      · subst e
        exact HOk.out
      · exact HZ.out.2.2.2 j (by omega)
set_option maxRecDepth 100000 in
set_option maxHeartbeats 1000000 in
theorem lastAO (w : World) (E q N : Nat) (x : VV) (l : L4) (v : V4) (m : L4) (Q : Exit → Act → World → Prop) (N' : Act → World → Prop) (a : Act) (wr : World) (h : AO w E q N x l v m 4 a wr)
    (hq : ∀ a' w', AO w E q N x l v m 4 a' w' → Q (.exit 2) a' w') : Code.wp Tryd.prog (loopAt (Tryd.f16.body) 1) (Exit.then N' Q) a wr := by
  have HQ := Bx.mk hq
  have HS := Bx.mk (And.intro h.k (And.intro h.nx (And.intro h.en h.ok)))
  obtain ⟨g, rfl, hg⟩ := open115 h.fr.fr
  have e0 := (hg 0).symm.trans h.fr.s0
  have e3 := (hg 3).symm.trans h.fr.s3
  have e6 := (hg 6).symm.trans h.fr.s6
  have e7 := (hg 7).symm.trans h.s7
  have e8 := (hg 8).symm.trans h.s8
  have e10 := (hg 10).symm.trans h.s10
  clear h hg hq
  rw [e0, e3, e6, e7, e8, e10]
  clear e0 e3 e6 e7 e8 e10
  conv => arg 2; whnf
  go_wp2
  exact HQ.out _ _ ⟨⟨⟨rfl, rfl⟩, rfl, rfl, rfl⟩, rfl, rfl, rfl, HS.out.1, HS.out.2.1, HS.out.2.2.1, HS.out.2.2.2⟩
theorem loopAO (w : World) (E q N : Nat) (x y : VV) (l : L4) (v : V4) (m : L4) (hE : w.heap.size = E) (hy : w.heap[q]? = some (.cells #[y.a, y.b, y.c, y.d] 29 (0, 0))) (hyr : Rows4 w y l) (hxr : Rows4 w x m) (hg : Good l) (hm : Most m 1000)
    (hv : ∀ i, i < 4 → 0 ≤ vN v i ∧ vN v i ≤ (lN l i).length) (Q : Exit → Act → World → Prop) (hret : ∀ a' w', Fr 115 a' → a'.eval (.tmp 4) = .int .i64 0 → a'.eval (.tmp 5) = .int .i64 3 → Below E w w' → okL l v m = false → Q .ret a' w')
    (a : Act) (wr : World) (h : AO w E q N x l v m 0 a wr) (hq : ∀ a' w', AO w E q N x l v m 4 a' w' → Q (.exit 2) a' w') : Code.wp Tryd.prog (.loop (loopAt (Tryd.f16.body) 1)) Q a wr :=
  wp_count 4 (fun i a w' => AO w E q N x l v m i a w') 0 (Nat.zero_le _) h (fun i a w' hi hI => roundAO w E q N x y l v m hE hy hyr hxr hg hm hv Q hret i a w' hi hI) (fun a w' hI => lastAO w E q N x l v m Q _ a w' hI hq)
theorem build_rs0 (W : World) : (Instr.build 29 #[]).run Tryd.prog W = .ok (.agg #[.slice none 0 0, .slice none 0 0, .slice none 0 0, .slice none 0 0]) W := by kernel_rfl
set_option maxRecDepth 100000 in
set_option maxHeartbeats 8000000 in
theorem rapply8 (v : V4) (x : VV) (m l : L4) (q : Nat) (w : World) (hx : Rows4 w x m) (hm : Most m 256) (hs : RAt w q l) (hg : Good l) : Calls Tryd.prog 16 #[.pointer (some ⟨q, 0, none⟩), .agg (dC v x)] w fun e w' =>
    e = .returned (.tuple #[.int .i64 (applyL l v m).1, .int .i64 (applyL l v m).2.1]) ∧ RAt w' q (applyL l v m).2.2 ∧ w.grownBy w' (some q) := by
  obtain ⟨R, hR⟩ : ∃ R, applyL l v m = R := ⟨_, rfl⟩
  rw [hR]
  have HRes := Bx.mk hR
  obtain ⟨E, hE⟩ : ∃ E, w.heap.size = E := ⟨_, rfl⟩
  obtain ⟨y, hy, hyr⟩ := id hs
  have hql := (Array.getElem?_eq_some_iff.1 hy).1
  have HCk := Bx.mk (fun (W : World) (h : Rows4 W x m) => rcheck8 v x m W h hm)
  have HLo := Bx.mk (fun hv N => loopAO w E q N x y l v m hE hy hyr hx hg ⟨Nat.le_trans hm.a (by omega), Nat.le_trans hm.b (by omega), Nat.le_trans hm.c (by omega), Nat.le_trans hm.d (by omega)⟩ hv)
  obtain ⟨p1, q1, t1, s1, a1, b1, c1, d1, hyf⟩ := hyr.forms
  obtain ⟨la, hla⟩ : ∃ n, l.a.length = n := ⟨_, rfl⟩
  obtain ⟨lb, hlb⟩ : ∃ n, l.b.length = n := ⟨_, rfl⟩
  obtain ⟨lc, hlc⟩ : ∃ n, l.c.length = n := ⟨_, rfl⟩
  obtain ⟨ld, hld⟩ : ∃ n, l.d.length = n := ⟨_, rfl⟩
  have hcy : (#[y.a, y.b, y.c, y.d] : Array Value) = #[.slice p1 la a1, .slice q1 lb b1, .slice t1 lc c1, .slice s1 ld d1] := by rw [hyf, hla, hlb, hlc, hld]
  have HQw : Bx (∀ W, Below E w W → W.heap[q]? = some (.cells #[.slice p1 la a1, .slice q1 lb b1, .slice t1 lc c1, .slice s1 ld d1] 29 (0, 0)) ∧ RAt W q l) := ⟨fun W hb => ⟨by rw [hb.block q (by omega), hy, hcy], hs.later (by rw [hE]; exact hb)⟩⟩
  have HX : Bx (∀ W, Below E w W → Rows4 W x m) := ⟨fun W hb => hx.later (by rw [hE]; exact hb)⟩
  have K0 : Bx (KR w E [(E, .cells (dC v x) 33)] (w.alloc (.cells (dC v x) 33))) := ⟨by
    have h := (KR.start w).new (.cells (dC v x) 33)
    rw [hE] at h
    exact h⟩
  have HEb : Bx (∀ W, Below E w W → w.grownBy W (some q)) := ⟨fun W hb => kb_below _ (by rw [hE]; exact hb)⟩
  have HVl : Bx ((∀ i, i < 4 → vN v i ≤ (lN l i).length) ↔ (v.a ≤ la ∧ v.b ≤ lb ∧ v.c ≤ lc ∧ v.d ≤ ld)) := ⟨by
    constructor
    · intro h
      have h0 := h 0 (by omega)
      have h1 := h 1 (by omega)
      have h2 := h 2 (by omega)
      have h3 := h 3 (by omega)
      rw [← hla, ← hlb, ← hlc, ← hld]
      exact ⟨h0, h1, h2, h3⟩
    · rintro ⟨h0, h1, h2, h3⟩ i hi
      rw [← hla] at h0
      rw [← hlb] at h1
      rw [← hlc] at h2
      rw [← hld] at h3
      match i, hi with
      | 0, _ => exact h0
      | 1, _ => exact h1
      | 2, _ => exact h2
      | 3, _ => exact h3⟩
  have HCov : Bx (covV l.ver v = true ↔ (v.a ≤ la ∧ v.b ≤ lb ∧ v.c ≤ lc ∧ v.d ≤ ld)) := ⟨by unfold covV L4.ver; rw [hla, hlb, hlc, hld]; simp only [decide_eq_true_iff]⟩
  have HApp : Bx (applyL l v m = if withinB v m = true then if covV l.ver v = true then if okL l v m = true then if covV full4 (newL l v m).ver = true then ((cntL (newL l v m) : Int) - (cntL l : Int), 0, newL l v m) else (0, 6, l) else (0, 3, l) else (0, 9, l) else (0, 10, l)) := ⟨rfl⟩
  have hbr := build_rs0
  have hel := HEb
  clear hx hm hs hg hR hy hyr hql hyf hla hlb hlc hld hcy hel
  unfold dC at *
  go_enter Tryd.func16, Tryd.ntmps16
  go_wp2_with (refine wpList_load_row rfl 33 _ rfl E (by rfl) _ #[.int .i64 v.a, .int .i64 v.b, .int .i64 v.c, .int .i64 v.d, x.a, x.b, x.c, x.d] (0, 0) _ (K0.out.rows _ (.head _)) Tryd.underlying33 rfl (by kernel_rfl) ?_)
  refine (HCk.out _ (HX.out _ K0.out.below)).mono ?_
  generalize w.alloc _ = w0 at *
  rintro e w1 ⟨rfl, hb⟩
  have K1 := Bx.mk (K0.out.later hb)
  clear hb K0 HCk
  cases hwi : withinB v m with
  | false =>
    have hRR := HRes.out
    rw [HApp.out, if_neg (by rw [hwi]; decide)] at hRR
    clear HRes HApp
    subst hRR
    go_wp2
    go_ret2
    exact ⟨rfl, (HQw.out _ K1.out.below).2, HEb.out _ K1.out.below⟩
  | true =>
  have hRR := HRes.out
  rw [HApp.out, if_pos hwi] at hRR
  have HR2 := Bx.mk hRR
  clear hRR HRes HApp
  obtain ⟨N, hN⟩ : ∃ N, w1.heap.size = N := ⟨_, rfl⟩
  have K2 : Bx (KR w E [(N, .cells #[.slice none 0 0, .slice none 0 0, .slice none 0 0, .slice none 0 0] 29), (E, .cells #[.int .i64 v.a, .int .i64 v.b, .int .i64 v.c, .int .i64 v.d, x.a, x.b, x.c, x.d] 33)] (w1.alloc (.cells #[.slice none 0 0, .slice none 0 0, .slice none 0 0, .slice none 0 0] 29)) ∧ E < N) := ⟨by
    rw [← hN]
    exact ⟨K1.out.new _, K1.out.lt (.head _)⟩⟩
  clear K1
  go_wp2
  generalize w1.alloc _ = w2 at *
  clear hN
  have HEN := Bx.mk K2.out.2
  have R0 := Bx.mk K2.out.1
  clear K2
  refine wp_loop_rounds 5 ?_
  rw [rounds_succ]
  go_upto_region 8 with fail
  have V0 := Bx.mk R0.out.drew
  clear R0
  refine wp_region_noPanic ?_
  refine wp_region_held_drew (S := fun W => W.cell? ⟨E, 0, none⟩ = some (.int .i64 v.a) ∧ W.cell? ⟨q, 0, none⟩ = some (.slice p1 la a1)) (by kernel_rfl) (⟨by rw [cell_of_row _ _ _ _ _ _ (V0.out.rows _ (.tail _ (.head _)))]; rfl, by rw [cell_of_row _ _ _ _ _ _ (HQw.out _ V0.out.below).1]; rfl⟩) (fun hHeld => ?_)
  generalize w2.drew = y0 at *
  refine takeL 0 (v := ?_) rfl (by kernel_rfl) (by kernel_rfl) (by kernel_rfl) (fun _ _ _ h => h) (Or.inl ⟨by rfl, ?_⟩) hHeld ?_
  rotate_left 1
  · (intro w hSw; go_simp; try with_reducible rfl)
  try simp only [Act.put, List.setIfInBounds_toArray, List.set_cons_zero, List.set_cons_succ]
  refine takeL 1 (v := ?_) rfl (by kernel_rfl) (by kernel_rfl) (by kernel_rfl) (fun _ _ _ h => h) (Or.inl ⟨by rfl, ?_⟩) hHeld ?_
  rotate_left 1
  · (intro w hSw; go_simp; try with_reducible rfl)
  try simp only [Act.put, List.setIfInBounds_toArray, List.set_cons_zero, List.set_cons_succ]
  refine takeL 2 (v := ?_) rfl (by kernel_rfl) (by kernel_rfl) (by kernel_rfl) (fun _ _ _ h => h) (Or.inl ⟨by rfl, ?_⟩) hHeld ?_
  rotate_left 1
  · (intro w hSw; go_simp; try with_reducible rfl)
  try simp only [Act.put, List.setIfInBounds_toArray, List.set_cons_zero, List.set_cons_succ]
  refine takeL 3 (v := ?_) rfl (by kernel_rfl) (by kernel_rfl) (by kernel_rfl) (fun _ _ _ h => h) (Or.inl ⟨by rfl, ?_⟩) hHeld ?_
  rotate_left 1
  · (intro w hSw; have c1 := hSw.1; go_simp; try with_reducible rfl)
  try simp only [Act.put, List.setIfInBounds_toArray, List.set_cons_zero, List.set_cons_succ]
  refine takeL 4 (v := ?_) rfl (by kernel_rfl) (by kernel_rfl) (by kernel_rfl) (fun _ _ _ h => h) (Or.inl ⟨by rfl, ?_⟩) hHeld ?_
  rotate_left 1
  · (intro w hSw; go_simp; try with_reducible rfl)
  try simp only [Act.put, List.setIfInBounds_toArray, List.set_cons_zero, List.set_cons_succ]
  refine takeL 5 (v := ?_) rfl (by kernel_rfl) (by kernel_rfl) (by kernel_rfl) (fun _ _ _ h => h) (Or.inl ⟨by rfl, ?_⟩) hHeld ?_
  rotate_left 1
  · (intro w hSw; go_simp; try with_reducible rfl)
  try simp only [Act.put, List.setIfInBounds_toArray, List.set_cons_zero, List.set_cons_succ]
  refine takeL 6 (v := ?_) rfl (by kernel_rfl) (by kernel_rfl) (by kernel_rfl) (fun _ _ _ h => h) (Or.inl ⟨by rfl, ?_⟩) hHeld ?_
  rotate_left 1
  · (intro w hSw; go_simp; try with_reducible rfl)
  try simp only [Act.put, List.setIfInBounds_toArray, List.set_cons_zero, List.set_cons_succ]
  refine takeL 7 (v := ?_) rfl (by kernel_rfl) (by kernel_rfl) (by kernel_rfl) (fun _ _ _ h => h) (Or.inl ⟨by rfl, ?_⟩) hHeld ?_
  rotate_left 1
  · (intro w hSw; go_simp; try with_reducible rfl)
  try simp only [Act.put, List.setIfInBounds_toArray, List.set_cons_zero, List.set_cons_succ]
  refine takeL 8 (v := ?_) rfl (by kernel_rfl) (by kernel_rfl) (by kernel_rfl) (fun _ _ _ h => h) (Or.inl ⟨by rfl, ?_⟩) hHeld ?_
  rotate_left 1
  · (intro w hSw; go_simp; try with_reducible rfl)
  try simp only [Act.put, List.setIfInBounds_toArray, List.set_cons_zero, List.set_cons_succ]
  refine takeL 9 (v := ?_) rfl (by kernel_rfl) (by kernel_rfl) (by kernel_rfl) (fun _ _ _ h => h) (Or.inl ⟨by rfl, ?_⟩) hHeld ?_
  rotate_left 1
  · (intro w hSw; have c1 := hSw.2; go_simp; try with_reducible rfl)
  try simp only [Act.put, List.setIfInBounds_toArray, List.set_cons_zero, List.set_cons_succ]
  refine takeL 10 (v := ?_) rfl (by kernel_rfl) (by kernel_rfl) (by kernel_rfl) (fun _ _ _ h => h) (Or.inl ⟨by rfl, ?_⟩) hHeld ?_
  rotate_left 1
  · (intro w hSw; go_simp; try with_reducible rfl)
  try simp only [Act.put, List.setIfInBounds_toArray, List.set_cons_zero, List.set_cons_succ]
  refine takeL 11 (v := ?_) rfl (by kernel_rfl) (by kernel_rfl) (by kernel_rfl) (fun _ _ _ h => h) (Or.inl ⟨by rfl, ?_⟩) hHeld ?_
  rotate_left 1
  · (intro w hSw; go_simp; try with_reducible rfl)
  try simp only [Act.put, List.setIfInBounds_toArray, List.set_cons_zero, List.set_cons_succ]
  refine wpAnyH_done (by kernel_rfl) ?_ _
  refine NoPanic.normal ?_
  clear hHeld
  by_cases m0 : (la : Int) < v.a
  · have hRR := HR2.out
    rw [if_neg (fun h => by have := HCov.out.1 h; omega)] at hRR
    clear HR2 HCov
    subst hRR
    go_wp2
    go_ret2
    exact ⟨rfl, (HQw.out _ V0.out.below).2, HEb.out _ V0.out.below⟩
  go_wp2
  have R0 := V0
  clear V0
  rw [rounds_succ]
  go_upto_region 8 with fail
  have V0 := Bx.mk R0.out.drew
  clear R0
  refine wp_region_noPanic ?_
  refine wp_region_held_drew (S := fun W => W.cell? ⟨E, 1, none⟩ = some (.int .i64 v.b) ∧ W.cell? ⟨q, 1, none⟩ = some (.slice q1 lb b1)) (by kernel_rfl) (⟨by rw [cell_of_row _ _ _ _ _ _ (V0.out.rows _ (.tail _ (.head _)))]; rfl, by rw [cell_of_row _ _ _ _ _ _ (HQw.out _ V0.out.below).1]; rfl⟩) (fun hHeld => ?_)
  generalize y0.drew = y1 at *
  refine takeL 0 (v := ?_) rfl (by kernel_rfl) (by kernel_rfl) (by kernel_rfl) (fun _ _ _ h => h) (Or.inl ⟨by rfl, ?_⟩) hHeld ?_
  rotate_left 1
  · (intro w hSw; go_simp; try with_reducible rfl)
  try simp only [Act.put, List.setIfInBounds_toArray, List.set_cons_zero, List.set_cons_succ]
  refine takeL 1 (v := ?_) rfl (by kernel_rfl) (by kernel_rfl) (by kernel_rfl) (fun _ _ _ h => h) (Or.inl ⟨by rfl, ?_⟩) hHeld ?_
  rotate_left 1
  · (intro w hSw; go_simp; try with_reducible rfl)
  try simp only [Act.put, List.setIfInBounds_toArray, List.set_cons_zero, List.set_cons_succ]
  refine takeL 2 (v := ?_) rfl (by kernel_rfl) (by kernel_rfl) (by kernel_rfl) (fun _ _ _ h => h) (Or.inl ⟨by rfl, ?_⟩) hHeld ?_
  rotate_left 1
  · (intro w hSw; go_simp; try with_reducible rfl)
  try simp only [Act.put, List.setIfInBounds_toArray, List.set_cons_zero, List.set_cons_succ]
  refine takeL 3 (v := ?_) rfl (by kernel_rfl) (by kernel_rfl) (by kernel_rfl) (fun _ _ _ h => h) (Or.inl ⟨by rfl, ?_⟩) hHeld ?_
  rotate_left 1
  · (intro w hSw; have c1 := hSw.1; go_simp; try with_reducible rfl)
  try simp only [Act.put, List.setIfInBounds_toArray, List.set_cons_zero, List.set_cons_succ]
  refine takeL 4 (v := ?_) rfl (by kernel_rfl) (by kernel_rfl) (by kernel_rfl) (fun _ _ _ h => h) (Or.inl ⟨by rfl, ?_⟩) hHeld ?_
  rotate_left 1
  · (intro w hSw; go_simp; try with_reducible rfl)
  try simp only [Act.put, List.setIfInBounds_toArray, List.set_cons_zero, List.set_cons_succ]
  refine takeL 5 (v := ?_) rfl (by kernel_rfl) (by kernel_rfl) (by kernel_rfl) (fun _ _ _ h => h) (Or.inl ⟨by rfl, ?_⟩) hHeld ?_
  rotate_left 1
  · (intro w hSw; go_simp; try with_reducible rfl)
  try simp only [Act.put, List.setIfInBounds_toArray, List.set_cons_zero, List.set_cons_succ]
  refine takeL 6 (v := ?_) rfl (by kernel_rfl) (by kernel_rfl) (by kernel_rfl) (fun _ _ _ h => h) (Or.inl ⟨by rfl, ?_⟩) hHeld ?_
  rotate_left 1
  · (intro w hSw; go_simp; try with_reducible rfl)
  try simp only [Act.put, List.setIfInBounds_toArray, List.set_cons_zero, List.set_cons_succ]
  refine takeL 7 (v := ?_) rfl (by kernel_rfl) (by kernel_rfl) (by kernel_rfl) (fun _ _ _ h => h) (Or.inl ⟨by rfl, ?_⟩) hHeld ?_
  rotate_left 1
  · (intro w hSw; go_simp; try with_reducible rfl)
  try simp only [Act.put, List.setIfInBounds_toArray, List.set_cons_zero, List.set_cons_succ]
  refine takeL 8 (v := ?_) rfl (by kernel_rfl) (by kernel_rfl) (by kernel_rfl) (fun _ _ _ h => h) (Or.inl ⟨by rfl, ?_⟩) hHeld ?_
  rotate_left 1
  · (intro w hSw; go_simp; try with_reducible rfl)
  try simp only [Act.put, List.setIfInBounds_toArray, List.set_cons_zero, List.set_cons_succ]
  refine takeL 9 (v := ?_) rfl (by kernel_rfl) (by kernel_rfl) (by kernel_rfl) (fun _ _ _ h => h) (Or.inl ⟨by rfl, ?_⟩) hHeld ?_
  rotate_left 1
  · (intro w hSw; have c1 := hSw.2; go_simp; try with_reducible rfl)
  try simp only [Act.put, List.setIfInBounds_toArray, List.set_cons_zero, List.set_cons_succ]
  refine takeL 10 (v := ?_) rfl (by kernel_rfl) (by kernel_rfl) (by kernel_rfl) (fun _ _ _ h => h) (Or.inl ⟨by rfl, ?_⟩) hHeld ?_
  rotate_left 1
  · (intro w hSw; go_simp; try with_reducible rfl)
  try simp only [Act.put, List.setIfInBounds_toArray, List.set_cons_zero, List.set_cons_succ]
  refine takeL 11 (v := ?_) rfl (by kernel_rfl) (by kernel_rfl) (by kernel_rfl) (fun _ _ _ h => h) (Or.inl ⟨by rfl, ?_⟩) hHeld ?_
  rotate_left 1
  · (intro w hSw; go_simp; try with_reducible rfl)
  try simp only [Act.put, List.setIfInBounds_toArray, List.set_cons_zero, List.set_cons_succ]
  refine wpAnyH_done (by kernel_rfl) ?_ _
  refine NoPanic.normal ?_
  clear hHeld
  by_cases m1 : (lb : Int) < v.b
  · have hRR := HR2.out
    rw [if_neg (fun h => by have := HCov.out.1 h; omega)] at hRR
    clear HR2 HCov
    subst hRR
    go_wp2
    go_ret2
    exact ⟨rfl, (HQw.out _ V0.out.below).2, HEb.out _ V0.out.below⟩
  go_wp2
  have R0 := V0
  clear V0
  rw [rounds_succ]
  go_upto_region 8 with fail
  have V0 := Bx.mk R0.out.drew
  clear R0
  refine wp_region_noPanic ?_
  refine wp_region_held_drew (S := fun W => W.cell? ⟨E, 2, none⟩ = some (.int .i64 v.c) ∧ W.cell? ⟨q, 2, none⟩ = some (.slice t1 lc c1)) (by kernel_rfl) (⟨by rw [cell_of_row _ _ _ _ _ _ (V0.out.rows _ (.tail _ (.head _)))]; rfl, by rw [cell_of_row _ _ _ _ _ _ (HQw.out _ V0.out.below).1]; rfl⟩) (fun hHeld => ?_)
  generalize y1.drew = y2 at *
  refine takeL 0 (v := ?_) rfl (by kernel_rfl) (by kernel_rfl) (by kernel_rfl) (fun _ _ _ h => h) (Or.inl ⟨by rfl, ?_⟩) hHeld ?_
  rotate_left 1
  · (intro w hSw; go_simp; try with_reducible rfl)
  try simp only [Act.put, List.setIfInBounds_toArray, List.set_cons_zero, List.set_cons_succ]
  refine takeL 1 (v := ?_) rfl (by kernel_rfl) (by kernel_rfl) (by kernel_rfl) (fun _ _ _ h => h) (Or.inl ⟨by rfl, ?_⟩) hHeld ?_
  rotate_left 1
  · (intro w hSw; go_simp; try with_reducible rfl)
  try simp only [Act.put, List.setIfInBounds_toArray, List.set_cons_zero, List.set_cons_succ]
  refine takeL 2 (v := ?_) rfl (by kernel_rfl) (by kernel_rfl) (by kernel_rfl) (fun _ _ _ h => h) (Or.inl ⟨by rfl, ?_⟩) hHeld ?_
  rotate_left 1
  · (intro w hSw; go_simp; try with_reducible rfl)
  try simp only [Act.put, List.setIfInBounds_toArray, List.set_cons_zero, List.set_cons_succ]
  refine takeL 3 (v := ?_) rfl (by kernel_rfl) (by kernel_rfl) (by kernel_rfl) (fun _ _ _ h => h) (Or.inl ⟨by rfl, ?_⟩) hHeld ?_
  rotate_left 1
  · (intro w hSw; have c1 := hSw.1; go_simp; try with_reducible rfl)
  try simp only [Act.put, List.setIfInBounds_toArray, List.set_cons_zero, List.set_cons_succ]
  refine takeL 4 (v := ?_) rfl (by kernel_rfl) (by kernel_rfl) (by kernel_rfl) (fun _ _ _ h => h) (Or.inl ⟨by rfl, ?_⟩) hHeld ?_
  rotate_left 1
  · (intro w hSw; go_simp; try with_reducible rfl)
  try simp only [Act.put, List.setIfInBounds_toArray, List.set_cons_zero, List.set_cons_succ]
  refine takeL 5 (v := ?_) rfl (by kernel_rfl) (by kernel_rfl) (by kernel_rfl) (fun _ _ _ h => h) (Or.inl ⟨by rfl, ?_⟩) hHeld ?_
  rotate_left 1
  · (intro w hSw; go_simp; try with_reducible rfl)
  try simp only [Act.put, List.setIfInBounds_toArray, List.set_cons_zero, List.set_cons_succ]
  refine takeL 6 (v := ?_) rfl (by kernel_rfl) (by kernel_rfl) (by kernel_rfl) (fun _ _ _ h => h) (Or.inl ⟨by rfl, ?_⟩) hHeld ?_
  rotate_left 1
  · (intro w hSw; go_simp; try with_reducible rfl)
  try simp only [Act.put, List.setIfInBounds_toArray, List.set_cons_zero, List.set_cons_succ]
  refine takeL 7 (v := ?_) rfl (by kernel_rfl) (by kernel_rfl) (by kernel_rfl) (fun _ _ _ h => h) (Or.inl ⟨by rfl, ?_⟩) hHeld ?_
  rotate_left 1
  · (intro w hSw; go_simp; try with_reducible rfl)
  try simp only [Act.put, List.setIfInBounds_toArray, List.set_cons_zero, List.set_cons_succ]
  refine takeL 8 (v := ?_) rfl (by kernel_rfl) (by kernel_rfl) (by kernel_rfl) (fun _ _ _ h => h) (Or.inl ⟨by rfl, ?_⟩) hHeld ?_
  rotate_left 1
  · (intro w hSw; go_simp; try with_reducible rfl)
  try simp only [Act.put, List.setIfInBounds_toArray, List.set_cons_zero, List.set_cons_succ]
  refine takeL 9 (v := ?_) rfl (by kernel_rfl) (by kernel_rfl) (by kernel_rfl) (fun _ _ _ h => h) (Or.inl ⟨by rfl, ?_⟩) hHeld ?_
  rotate_left 1
  · (intro w hSw; have c1 := hSw.2; go_simp; try with_reducible rfl)
  try simp only [Act.put, List.setIfInBounds_toArray, List.set_cons_zero, List.set_cons_succ]
  refine takeL 10 (v := ?_) rfl (by kernel_rfl) (by kernel_rfl) (by kernel_rfl) (fun _ _ _ h => h) (Or.inl ⟨by rfl, ?_⟩) hHeld ?_
  rotate_left 1
  · (intro w hSw; go_simp; try with_reducible rfl)
  try simp only [Act.put, List.setIfInBounds_toArray, List.set_cons_zero, List.set_cons_succ]
  refine takeL 11 (v := ?_) rfl (by kernel_rfl) (by kernel_rfl) (by kernel_rfl) (fun _ _ _ h => h) (Or.inl ⟨by rfl, ?_⟩) hHeld ?_
  rotate_left 1
  · (intro w hSw; go_simp; try with_reducible rfl)
  try simp only [Act.put, List.setIfInBounds_toArray, List.set_cons_zero, List.set_cons_succ]
  refine wpAnyH_done (by kernel_rfl) ?_ _
  refine NoPanic.normal ?_
  clear hHeld
  by_cases m2 : (lc : Int) < v.c
  · have hRR := HR2.out
    rw [if_neg (fun h => by have := HCov.out.1 h; omega)] at hRR
    clear HR2 HCov
    subst hRR
    go_wp2
    go_ret2
    exact ⟨rfl, (HQw.out _ V0.out.below).2, HEb.out _ V0.out.below⟩
  go_wp2
  have R0 := V0
  clear V0
  rw [rounds_succ]
  go_upto_region 8 with fail
  have V0 := Bx.mk R0.out.drew
  clear R0
  refine wp_region_noPanic ?_
  refine wp_region_held_drew (S := fun W => W.cell? ⟨E, 3, none⟩ = some (.int .i64 v.d) ∧ W.cell? ⟨q, 3, none⟩ = some (.slice s1 ld d1)) (by kernel_rfl) (⟨by rw [cell_of_row _ _ _ _ _ _ (V0.out.rows _ (.tail _ (.head _)))]; rfl, by rw [cell_of_row _ _ _ _ _ _ (HQw.out _ V0.out.below).1]; rfl⟩) (fun hHeld => ?_)
  generalize y2.drew = y3 at *
  refine takeL 0 (v := ?_) rfl (by kernel_rfl) (by kernel_rfl) (by kernel_rfl) (fun _ _ _ h => h) (Or.inl ⟨by rfl, ?_⟩) hHeld ?_
  rotate_left 1
  · (intro w hSw; go_simp; try with_reducible rfl)
  try simp only [Act.put, List.setIfInBounds_toArray, List.set_cons_zero, List.set_cons_succ]
  refine takeL 1 (v := ?_) rfl (by kernel_rfl) (by kernel_rfl) (by kernel_rfl) (fun _ _ _ h => h) (Or.inl ⟨by rfl, ?_⟩) hHeld ?_
  rotate_left 1
  · (intro w hSw; go_simp; try with_reducible rfl)
  try simp only [Act.put, List.setIfInBounds_toArray, List.set_cons_zero, List.set_cons_succ]
  refine takeL 2 (v := ?_) rfl (by kernel_rfl) (by kernel_rfl) (by kernel_rfl) (fun _ _ _ h => h) (Or.inl ⟨by rfl, ?_⟩) hHeld ?_
  rotate_left 1
  · (intro w hSw; go_simp; try with_reducible rfl)
  try simp only [Act.put, List.setIfInBounds_toArray, List.set_cons_zero, List.set_cons_succ]
  refine takeL 3 (v := ?_) rfl (by kernel_rfl) (by kernel_rfl) (by kernel_rfl) (fun _ _ _ h => h) (Or.inl ⟨by rfl, ?_⟩) hHeld ?_
  rotate_left 1
  · (intro w hSw; have c1 := hSw.1; go_simp; try with_reducible rfl)
  try simp only [Act.put, List.setIfInBounds_toArray, List.set_cons_zero, List.set_cons_succ]
  refine takeL 4 (v := ?_) rfl (by kernel_rfl) (by kernel_rfl) (by kernel_rfl) (fun _ _ _ h => h) (Or.inl ⟨by rfl, ?_⟩) hHeld ?_
  rotate_left 1
  · (intro w hSw; go_simp; try with_reducible rfl)
  try simp only [Act.put, List.setIfInBounds_toArray, List.set_cons_zero, List.set_cons_succ]
  refine takeL 5 (v := ?_) rfl (by kernel_rfl) (by kernel_rfl) (by kernel_rfl) (fun _ _ _ h => h) (Or.inl ⟨by rfl, ?_⟩) hHeld ?_
  rotate_left 1
  · (intro w hSw; go_simp; try with_reducible rfl)
  try simp only [Act.put, List.setIfInBounds_toArray, List.set_cons_zero, List.set_cons_succ]
  refine takeL 6 (v := ?_) rfl (by kernel_rfl) (by kernel_rfl) (by kernel_rfl) (fun _ _ _ h => h) (Or.inl ⟨by rfl, ?_⟩) hHeld ?_
  rotate_left 1
  · (intro w hSw; go_simp; try with_reducible rfl)
  try simp only [Act.put, List.setIfInBounds_toArray, List.set_cons_zero, List.set_cons_succ]
  refine takeL 7 (v := ?_) rfl (by kernel_rfl) (by kernel_rfl) (by kernel_rfl) (fun _ _ _ h => h) (Or.inl ⟨by rfl, ?_⟩) hHeld ?_
  rotate_left 1
  · (intro w hSw; go_simp; try with_reducible rfl)
  try simp only [Act.put, List.setIfInBounds_toArray, List.set_cons_zero, List.set_cons_succ]
  refine takeL 8 (v := ?_) rfl (by kernel_rfl) (by kernel_rfl) (by kernel_rfl) (fun _ _ _ h => h) (Or.inl ⟨by rfl, ?_⟩) hHeld ?_
  rotate_left 1
  · (intro w hSw; go_simp; try with_reducible rfl)
  try simp only [Act.put, List.setIfInBounds_toArray, List.set_cons_zero, List.set_cons_succ]
  refine takeL 9 (v := ?_) rfl (by kernel_rfl) (by kernel_rfl) (by kernel_rfl) (fun _ _ _ h => h) (Or.inl ⟨by rfl, ?_⟩) hHeld ?_
  rotate_left 1
  · (intro w hSw; have c1 := hSw.2; go_simp; try with_reducible rfl)
  try simp only [Act.put, List.setIfInBounds_toArray, List.set_cons_zero, List.set_cons_succ]
  refine takeL 10 (v := ?_) rfl (by kernel_rfl) (by kernel_rfl) (by kernel_rfl) (fun _ _ _ h => h) (Or.inl ⟨by rfl, ?_⟩) hHeld ?_
  rotate_left 1
  · (intro w hSw; go_simp; try with_reducible rfl)
  try simp only [Act.put, List.setIfInBounds_toArray, List.set_cons_zero, List.set_cons_succ]
  refine takeL 11 (v := ?_) rfl (by kernel_rfl) (by kernel_rfl) (by kernel_rfl) (fun _ _ _ h => h) (Or.inl ⟨by rfl, ?_⟩) hHeld ?_
  rotate_left 1
  · (intro w hSw; go_simp; try with_reducible rfl)
  try simp only [Act.put, List.setIfInBounds_toArray, List.set_cons_zero, List.set_cons_succ]
  refine wpAnyH_done (by kernel_rfl) ?_ _
  refine NoPanic.normal ?_
  clear hHeld
  by_cases m3 : (ld : Int) < v.d
  · have hRR := HR2.out
    rw [if_neg (fun h => by have := HCov.out.1 h; omega)] at hRR
    clear HR2 HCov
    subst hRR
    go_wp2
    go_ret2
    exact ⟨rfl, (HQw.out _ V0.out.below).2, HEb.out _ V0.out.below⟩
  go_wp2
  have R0 := V0
  clear V0
  rw [rounds_succ]
  have hcv : covV l.ver v = true := HCov.out.2 ⟨by omega, by omega, by omega, by omega⟩
  have hwr := ((within_iff v m).1 hwi).1
  have hvv : ∀ i, i < 4 → 0 ≤ vN v i ∧ vN v i ≤ (lN l i).length := fun i hi => ⟨(by
    match i, hi with
    | 0, _ => exact hwr.1.1
    | 1, _ => exact hwr.2.1.1
    | 2, _ => exact hwr.2.2.1.1
    | 3, _ => exact hwr.2.2.2.1), HVl.out.2 (HCov.out.1 hcv) i hi⟩
  have hRR := HR2.out
  rw [if_pos hcv] at hRR
  have HR3 := Bx.mk hRR
  have HL2 := Bx.mk (HLo.out hvv N)
  clear hRR HR2 hcv hwr hvv HLo HVl HCov m0 m1 m2 m3
  go_wp2_with fail
  refine HL2.out _ ?_ _ y3 ?_ ?_
  · intro a' w' hfr h4 h5 hb hok
    have hRR := HR3.out
    rw [if_neg (by rw [hok]; decide)] at hRR
    subst hRR
    obtain ⟨g, rfl, hg⟩ := open115 hfr
    have e4 := (hg 4).symm.trans h4
    have e5 := (hg 5).symm.trans h5
    rw [e4, e5]
    go_ret2
    exact ⟨rfl, (HQw.out _ hb).2, HEb.out _ hb⟩
  · exact ⟨⟨⟨rfl, rfl⟩, rfl, rfl, rfl⟩, rfl, rfl, rfl, R0.out.sub (fun z hz => .tail _ hz), ⟨VV.nil, R0.out.rows _ (.head _), fun j hj => absurd hj (Nat.not_lt_zero _)⟩, HEN.out, fun j hj => absurd hj (Nat.not_lt_zero _)⟩
  intro a5 w5 h5
  have hok : okL l v m = true := (okL_iff l v m).2 h5.ok
  obtain ⟨z, hz, hzr⟩ := h5.nx
  have HZ : Bx (w5.heap[N]? = some (.cells #[z.a, z.b, z.c, z.d] 29 (0, 0)) ∧ Rows4 w5 z (newL l v m)) := ⟨hz, ⟨hzr 0 (by omega), hzr 1 (by omega), hzr 2 (by omega), hzr 3 (by omega)⟩⟩
  have HB5 := Bx.mk h5.k.below
  have hRR := HR3.out
  rw [if_pos hok] at hRR
  have hs7 := h5.s7
  have hs8 := h5.s8
  rw [nnK_four] at hs7
  obtain ⟨bd, hbd⟩ : ∃ b, badK l v m 4 = b := ⟨_, rfl⟩
  have hb4 := badK_four l v m
  rw [hbd] at hs8 hb4
  obtain ⟨g, rfl, hg⟩ := open115 h5.fr.fr
  have j0 := (hg 0).symm.trans h5.fr.s0
  have j3 := (hg 3).symm.trans h5.fr.s3
  have j6 := (hg 6).symm.trans h5.fr.s6
  have j7 := (hg 7).symm.trans hs7
  have j8 := (hg 8).symm.trans hs8
  clear h5 hg hs7 hs8 hbd HL2 R0 hok hz hzr HR3 HX
  rw [j0, j3, j6, j7, j8]
  clear j0 j3 j6 j7 j8
  cases hfu : covV full4 (newL l v m).ver with
  | false =>
    have h6 := hb4.2 hfu
    rw [if_neg (by rw [hfu]; decide)] at hRR
    subst hRR
    subst h6
    clear hb4
    go_wp2
    go_ret2
    exact ⟨rfl, (HQw.out _ HB5.out).2, HEb.out _ HB5.out⟩
  | true =>
    have h6 := hb4.1 hfu
    rw [if_pos hfu] at hRR
    subst hRR
    subst h6
    clear hb4 hfu
    obtain ⟨za, zb, zc', zd, ua, ub', uc, ud, hzf⟩ := HZ.out.2.forms
    have HZo : Bx ((#[z.a, z.b, z.c, z.d] : Array Value).all (·.oneCell') = true) := ⟨HZ.out.2.one⟩
    clear hzf
    have HQ5 := Bx.mk (HQw.out _ HB5.out).1
    go_wp2_with (first | (refine wpList_load_row rfl 29 _ rfl N (by rfl) _ #[z.a, z.b, z.c, z.d] (0, 0) _ HZ.out.1 Tryd.underlying29 rfl (by kernel_rfl) ?_) | (refine wpList_store_new rfl 29 _ _ rfl q #[z.a, z.b, z.c, z.d] _ _ (by rfl) (by rfl) HQ5.out rfl (by kernel_rfl) HZo.out ?_; intro w9 hw hr; have HG9 : Bx (w5.grownBy w9 (some q)) := ⟨by rw [hw]; exact kb_setCells _ _ _⟩; have HRw := Bx.mk hr; clear hw hr))
    go_ret2
    exact ⟨rfl, ⟨z, HRw.out, HZ.out.2.grown HG9.out HQ5.out rs_int⟩, kb_trans (HEb.out _ HB5.out) HG9.out⟩
end Go.Proofs.YtmfhdhggpepbbaaDoor
