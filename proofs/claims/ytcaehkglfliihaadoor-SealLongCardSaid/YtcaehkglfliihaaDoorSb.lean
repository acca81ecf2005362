/-
  The walks of a block of the stream, and of the tag that binds.
-/
import Derived.Test.YtcaehkglfliihaaDoorSa
namespace Go.Proofs.YtcaehkglfliihaaDoor
open Go Go.RowKit
theorem consM {P : Program} {ops : Array Oper} {Q : Exit → Act → World → Prop} {md : Region.Mode} {S : World → Prop} {fuel : Nat} {listed : Array Bool} {a : Act} {w : World} (i : Nat) {o : Oper} {rs : List Nat} (ho : ops.toList[i]? = some o)
    (h : ∀ K' : Act → World → Prop, Shut (∀ a w, S w → (S w → wpAnyH P md ops Q S fuel (listed.setIfInBounds i true) a w) → K' a w) → if Region.wanted o (yielded ops a.tmps) = true then Oper.wp P o a w K' Q else K' (a.put o.dst undef) w)
    (hs : AllReadyH P md ops Q S fuel listed a w rs) : AllReadyH P md ops Q S fuel listed a w (i :: rs) := AllReadyH.cons (by rw [← Array.getElem?_toList]; exact ho) h hs
theorem three_parts {W : World} {s1 s2 s3 : Value} {l1 l2 l3 : List UInt8} (h1 : Bytes W s1 l1) (h2 : Bytes W s2 l2) (h3 : Bytes W s3 l3) : Parts (W.alloc (.cells #[s1, s2, s3] 22)) (.slice (some ⟨W.heap.size, 0, none⟩) 3 3) [l1, l2, l3] := by
  refine ⟨_, 3, rfl, fun _ => ⟨W.heap.size, 0, rfl, fun j hj => ?_⟩⟩
  have hj3 : j = 0 ∨ j = 1 ∨ j = 2 := by simp at hj; omega
  rcases hj3 with rfl | rfl | rfl
  · exact ⟨s1, by rw [cell_of_row _ _ _ _ _ _ (hnew _ _ _ rfl)]; rfl, h1.later (below_a _)⟩
  · exact ⟨s2, by rw [cell_of_row _ _ _ _ _ _ (hnew _ _ _ rfl)]; rfl, h2.later (below_a _)⟩
  · exact ⟨s3, by rw [cell_of_row _ _ _ _ _ _ (hnew _ _ _ rfl)]; rfl, h3.later (below_a _)⟩
/-- What stays while a block is made. -/
structure BS (w : World) (p : Nat) (k1 vn : Value) (hk nonce : List UInt8) (W : World) : Prop where
  below : Below w.heap.size w W
  tab : Tab W
  key : IsKey W k1 hk
  nonce : Bytes W vn nonce
  res : W.heap[w.heap.size]? = some (.cells (u8s (List.replicate 32 0)) 34 (0, 0))
  lt : w.heap.size < W.heap.size
  cell : W.cell? ⟨p, 0, none⟩ = some k1
  plt : p < W.heap.size
theorem BS.later {w : World} {p : Nat} {k1 vn : Value} {hk nonce : List UInt8} {W W1 : World} (hg : 0 < w.heap.size) (h : BS w p k1 vn hk nonce W) (hb : Below W.heap.size W W1) : BS w p k1 vn hk nonce W1 :=
  ⟨h.below.trans (hb.mono h.below.size), h.tab.later hb (Nat.lt_of_lt_of_le hg h.below.size), h.key.later hb, h.nonce.later hb, by rw [hb.block _ h.lt]; exact h.res, Nat.lt_of_lt_of_le h.lt hb.size, by rw [hb.cell (p := ⟨p, 0, none⟩) h.plt]; exact h.cell, Nat.lt_of_lt_of_le h.plt hb.size⟩
set_option maxRecDepth 100000 in
set_option maxHeartbeats 2000000 in
theorem block_any (hk bk nonce : List UInt8) (i : Nat) (v vn : Value) (w : World) (hv : IsPair w v hk bk) (hn : Bytes w vn nonce) (hl : nonce.length ≤ 32) (hkl : hk.length ≤ 1000000) (hi : i ≤ 100000) (hTab : Tab w) (hg : 0 < w.heap.size) :
    Calls Tryd.prog 61 #[v, vn, .int .i64 (i : Int)] w fun e w' => e = .returned (.agg (u8s (blkOf hk nonce i))) ∧ Below w.heap.size w w' := by
  obtain ⟨p, k1, k2, rfl, hr, hk1, hk2⟩ := hv
  have hplt := (Array.getElem?_eq_some_iff.1 hr).1
  have hc : w.cell? ⟨p, 0, none⟩ = some k1 := by rw [cell_of_row _ _ _ _ _ _ hr]; rfl
  obtain ⟨q1, rfl⟩ := hk1.form
  obtain ⟨an, cn, rfl, -⟩ := id hn
  obtain ⟨nn, hnn⟩ : ∃ n, nonce.length = n := ⟨_, rfl⟩
  rw [hnn] at hn hl ⊢
  obtain ⟨z32, hz32⟩ : ∃ z, u8s (List.replicate 32 0) = z := ⟨_, rfl⟩
  have hz32v : ∀ W : World, (zeroValue 34).run Tryd.prog W = .ok (.agg z32) W := fun W => by rw [← hz32, zero32]; kernel_rfl
  have HS0 : Bx (BS w p (.pointer (some ⟨q1, 0, none⟩)) (.slice an nn cn) hk nonce (w.alloc (.cells z32 34))) := Bx.mk ⟨below_a _, hTab.later (below_a _) hg, hk1.later (below_a _), hn.later (below_a _), by rw [hnew _ _ _ rfl, hz32], by simp, by rw [(below_a (.cells z32 34)).cell (p := ⟨p, 0, none⟩) hplt]; exact hc, by simp; omega⟩
  have HPc := Bx.mk (And.intro hplt hc)
  clear hz32 hr hk1 hk2 hc hn hTab
  obtain ⟨ln, hln⟩ : ∃ l, UInt8.ofNat nn = l := ⟨_, rfl⟩
  have hlu : (nn : Int) % 256 = ub ln := by rw [← hln]; unfold ub; rw [UInt8.toNat_ofNat']; omega
  have hwr : IntKind.u8.wrap (nn : Int) = ub ln := by rw [IntWalk.u8_in _ (by omega), ← hlu]; omega
  clear hlu
  have HLn := Bx.mk (And.intro hnn hln)
  have HE : Bx (blkOf hk nonce i = hmac hk [[ln], nonce, lenB i].flatten) := Bx.mk (by unfold blkOf blkM; rw [hnn, hln]; simp)
  have HML : Bx ((blkOf hk nonce i).length = 32) := Bx.mk (blkOf_length _ _ _)
  have hnn1 : (nn : Int) ≤ 32 := by omega
  have hi1 : (i : Int) ≤ 100000 := by omega
  clear hnn hln
  have HTg : Bx (∀ W vp, BS w p (.pointer (some ⟨q1, 0, none⟩)) (.slice an nn cn) hk nonce W → Parts W vp [[ln], nonce, lenB i] → Calls Tryd.prog 14 #[.pointer (some ⟨q1, 0, none⟩), vp] W fun e W' => e = .returned (.agg (u8s (blkOf hk nonce i))) ∧ Below W.heap.size W W') := Bx.mk (fun W vp h hp => by
    rw [HE.out]
    have h4 : (lenB i).length = 4 := rfl
    exact ktag_any hk [[ln], nonce, lenB i] _ vp W h.key hp (by omega) (by simp) (by have := HLn.out.1; simp [h4]; omega) h.tab (Nat.lt_of_lt_of_le hg h.below.size))
  generalize hhm : blkOf hk nonce i = hm at *
  have HHM := Bx.mk hhm
  clear hhm
  have HI : Bx ((Tryd.prog.info? 34).map (·.size) = some (u8s hm).size) := Bx.mk (by rw [u8s_size, HML.out]; kernel_rfl)
  go_enter Tryd.func61, Tryd.ntmps61
  go_upto_region 1 with (fail)
  generalize w.alloc (.cells z32 34) = w0 at *
  have B := Bx.mk (HS0.out.later hg (Below.refl _ _).drew)
  clear hz32v HS0
  refine wp_region_noPanic ?_
  refine wp_region_held_drew (S := fun W => W.cell? ⟨p, 0, none⟩ = some (.pointer (some ⟨q1, 0, none⟩)) ∧ Bx (Below w.heap.size w W)) (by kernel_rfl) (⟨B.out.cell, ⟨B.out.below⟩⟩) (fun hHeld => ?_)
  generalize w0.drew = W0 at *
  refine takeL 0 (v := ?_) rfl (by kernel_rfl) (by kernel_rfl) (by kernel_rfl) (fun _ _ _ h => h) (Or.inl ⟨by rfl, ?_⟩) hHeld ?_
  rotate_left 1
  · (intro w hSw; go_simp; try with_reducible rfl)
  try simp only [Act.put, List.setIfInBounds_toArray, List.set_cons_zero, List.set_cons_succ]
  refine takeL 1 (v := ?_) rfl (by kernel_rfl) (by kernel_rfl) (by kernel_rfl) (fun _ _ _ h => h) (Or.inl ⟨by rfl, ?_⟩) hHeld ?_
  rotate_left 1
  · (intro w hSw; go_simp; try with_reducible rfl)
  try simp only [Act.put, List.setIfInBounds_toArray, List.set_cons_zero, List.set_cons_succ]
  refine takeL 2 (v := ?_) rfl (by kernel_rfl) (by kernel_rfl) (by kernel_rfl) (fun _ _ _ h => h) (Or.inl ⟨by rfl, ?_⟩) hHeld ?_
  rotate_left 1
  · (intro w hSw; go_simp; try with_reducible rfl)
  try simp only [Act.put, List.setIfInBounds_toArray, List.set_cons_zero, List.set_cons_succ]
  refine takeL 3 (v := ?_) rfl (by kernel_rfl) (by kernel_rfl) (by kernel_rfl) (fun _ _ _ h => h) (Or.inl ⟨by rfl, ?_⟩) hHeld ?_
  rotate_left 1
  · (intro w hSw; go_simp; try with_reducible rfl)
  try simp only [Act.put, List.setIfInBounds_toArray, List.set_cons_zero, List.set_cons_succ]
  refine takeL 4 (v := ?_) rfl (by kernel_rfl) (by kernel_rfl) (by kernel_rfl) (fun _ _ _ h => h) (Or.inl ⟨by rfl, ?_⟩) hHeld ?_
  rotate_left 1
  · (intro w hSw; go_simp; try with_reducible rfl)
  try simp only [Act.put, List.setIfInBounds_toArray, List.set_cons_zero, List.set_cons_succ]
  refine takeL 5 (v := ?_) rfl (by kernel_rfl) (by kernel_rfl) (by kernel_rfl) (fun _ _ _ h => h) (Or.inl ⟨by rfl, ?_⟩) hHeld ?_
  rotate_left 1
  · (intro w hSw; go_simp; try with_reducible rfl)
  try simp only [Act.put, List.setIfInBounds_toArray, List.set_cons_zero, List.set_cons_succ]
  refine takeL 6 (v := ?_) rfl (by kernel_rfl) (by kernel_rfl) (by kernel_rfl) (fun _ _ _ h => h) (Or.inl ⟨by rfl, ?_⟩) hHeld ?_
  rotate_left 1
  · (intro w hSw; go_simp; try with_reducible rfl)
  try simp only [Act.put, List.setIfInBounds_toArray, List.set_cons_zero, List.set_cons_succ]
  refine takeL 8 (v := ?_) rfl (by kernel_rfl) (by kernel_rfl) (by kernel_rfl) (fun _ _ _ h => h) (Or.inl ⟨by rfl, ?_⟩) hHeld ?_
  rotate_left 1
  · (intro w hSw; go_simp; try with_reducible rfl)
  try simp only [Act.put, List.setIfInBounds_toArray, List.set_cons_zero, List.set_cons_succ]
  refine takeL 9 (v := ?_) rfl (by kernel_rfl) (by kernel_rfl) (by kernel_rfl) (fun _ _ _ h => h) (Or.inl ⟨by rfl, ?_⟩) hHeld ?_
  rotate_left 1
  · (intro w hSw; go_simp; try with_reducible rfl)
  try simp only [Act.put, List.setIfInBounds_toArray, List.set_cons_zero, List.set_cons_succ]
  refine wpAnyH_ready (rs := [7, 10]) (by kernel_rfl) (by simp) ?_
  refine consM 7 rfl (fun K hK => ?_) (consM 10 rfl (fun K hK => ?_) AllReadyH.nil)
  · go_simp
    have b1 : Bx (Bytes (W0.alloc (.cells #[.int .u8 (ub ln)] 5)) (.slice (some ⟨W0.heap.size, 0, none⟩) 1 1) [ln]) := Bx.mk (built1 _ _)
    have B := Bx.mk (B.out.later hg (below_a (.cells #[.int .u8 (ub ln)] 5)))
    refine hK.out _ _ ⟨B.out.cell, ⟨B.out.below⟩⟩ (fun hHeld => ?_)
    clear hK K
    try simp only [Act.put, List.setIfInBounds_toArray, List.set_cons_zero, List.set_cons_succ]
    generalize W0.alloc (.cells #[.int .u8 (ub ln)] 5) = W1 at *
    generalize W0.heap.size = D1 at *
    refine stepL 10 (by kernel_rfl) rfl (fun K hK => ?_)
    go_simp
    refine (four_any i W1 (by omega)).mono ?_
    rintro e W2 ⟨rfl, hb, hy⟩
    show K _ _
    have b3 := Bx.mk hy
    have B := Bx.mk (B.out.later hg hb)
    have b1 := Bx.mk (b1.out.later hb)
    clear hb hy
    refine hK.out _ _ ⟨B.out.cell, ⟨B.out.below⟩⟩ (fun hHeld => ?_)
    clear hK K
    try simp only [Act.put, List.setIfInBounds_toArray, List.set_cons_zero, List.set_cons_succ]
    generalize W1.heap.size = D3 at *
    refine stepL 11 (by kernel_rfl) rfl (fun K hK => ?_)
    go_simp
    have pp : Bx (Parts (W2.alloc (.cells #[.slice (some ⟨D1, 0, none⟩) 1 1, .slice an nn cn, .slice (some ⟨D3, 0, none⟩) 4 4] 22)) (.slice (some ⟨W2.heap.size, 0, none⟩) 3 3) [[ln], nonce, lenB i]) := Bx.mk (three_parts b1.out B.out.nonce b3.out)
    have B := Bx.mk (B.out.later hg (below_a (.cells #[.slice (some ⟨D1, 0, none⟩) 1 1, .slice an nn cn, .slice (some ⟨D3, 0, none⟩) 4 4] 22)))
    clear b1 b3
    refine hK.out _ _ ⟨B.out.cell, ⟨B.out.below⟩⟩ (fun hHeld => ?_)
    clear hK K
    try simp only [Act.put, List.setIfInBounds_toArray, List.set_cons_zero, List.set_cons_succ]
    generalize W2.alloc (.cells #[.slice (some ⟨D1, 0, none⟩) 1 1, .slice an nn cn, .slice (some ⟨D3, 0, none⟩) 4 4] 22) = W3 at *
    generalize W2.heap.size = D4 at *
    refine stepL 12 (by kernel_rfl) rfl (fun K hK => ?_)
    go_simp
    refine (HTg.out _ _ B.out pp.out).mono ?_
    rintro e W4 ⟨rfl, hb⟩
    show K _ _
    have B := Bx.mk (B.out.later hg hb)
    clear hb pp
    refine hK.out _ _ ⟨B.out.cell, ⟨B.out.below⟩⟩ (fun hHeld => ?_)
    clear hK K
    try simp only [Act.put, List.setIfInBounds_toArray, List.set_cons_zero, List.set_cons_succ]
    refine stepL 13 (by kernel_rfl) rfl (fun K hK => ?_)
    refine step_st rfl 34 _ _ rfl w.heap.size (u8s hm) (by rfl) (by rfl) (there_row B.out.res 0 _ (by rw [u8s_size, u8s_size, HML.out]; simp)) HI.out (one_u8s _) ?_
    have HF : Bx (Below w.heap.size w (W4.setCells w.heap.size 0 (u8s hm).toList) ∧ (W4.setCells w.heap.size 0 (u8s hm).toList).heap[w.heap.size]? = some (.cells (u8s hm) 34 (0, 0))) := Bx.mk ⟨below_setCells (Nat.le_refl _) _ _ _ _ B.out.below, heap_setCells_all B.out.res (by rw [u8s_size, u8s_size, HML.out]; rfl)⟩
    generalize W4.setCells w.heap.size 0 (u8s hm).toList = WF at *
    refine hK.out _ _ ⟨by rw [HF.out.1.cell (p := ⟨p, 0, none⟩) HPc.out.1]; exact HPc.out.2, ⟨HF.out.1⟩⟩ (fun hHeld => ?_)
    clear hK K B
    try simp only [Act.put, List.setIfInBounds_toArray, List.set_cons_zero, List.set_cons_succ]
    refine wpAnyH_done (by kernel_rfl) ?_ _
    refine NoPanic.normal ?_
    clear hHeld
    go_wp2
    refine bodyPost_ret (results_cell_row rfl _ _ w.heap.size _ (u8s hm) _ _ rfl HF.out.2 Tryd.underlying34 rfl HI.out) rfl ?_
    exact ⟨by first | rfl | rw [HHM.out], HF.out.1⟩
  · go_simp
    refine (four_any i W0 (by omega)).mono ?_
    rintro e W1 ⟨rfl, hb, hy⟩
    show K _ _
    have b3 := Bx.mk hy
    have B := Bx.mk (B.out.later hg hb)
    clear hb hy
    refine hK.out _ _ ⟨B.out.cell, ⟨B.out.below⟩⟩ (fun hHeld => ?_)
    clear hK K
    try simp only [Act.put, List.setIfInBounds_toArray, List.set_cons_zero, List.set_cons_succ]
    generalize W0.heap.size = D3 at *
    refine stepL 7 (by kernel_rfl) rfl (fun K hK => ?_)
    go_simp
    have b1 : Bx (Bytes (W1.alloc (.cells #[.int .u8 (ub ln)] 5)) (.slice (some ⟨W1.heap.size, 0, none⟩) 1 1) [ln]) := Bx.mk (built1 _ _)
    have B := Bx.mk (B.out.later hg (below_a (.cells #[.int .u8 (ub ln)] 5)))
    have b3 := Bx.mk (b3.out.later (below_a (.cells #[.int .u8 (ub ln)] 5)))
    refine hK.out _ _ ⟨B.out.cell, ⟨B.out.below⟩⟩ (fun hHeld => ?_)
    clear hK K
    try simp only [Act.put, List.setIfInBounds_toArray, List.set_cons_zero, List.set_cons_succ]
    generalize W1.alloc (.cells #[.int .u8 (ub ln)] 5) = W2 at *
    generalize W1.heap.size = D1 at *
    refine stepL 11 (by kernel_rfl) rfl (fun K hK => ?_)
    go_simp
    have pp : Bx (Parts (W2.alloc (.cells #[.slice (some ⟨D1, 0, none⟩) 1 1, .slice an nn cn, .slice (some ⟨D3, 0, none⟩) 4 4] 22)) (.slice (some ⟨W2.heap.size, 0, none⟩) 3 3) [[ln], nonce, lenB i]) := Bx.mk (three_parts b1.out B.out.nonce b3.out)
    have B := Bx.mk (B.out.later hg (below_a (.cells #[.slice (some ⟨D1, 0, none⟩) 1 1, .slice an nn cn, .slice (some ⟨D3, 0, none⟩) 4 4] 22)))
    clear b1 b3
    refine hK.out _ _ ⟨B.out.cell, ⟨B.out.below⟩⟩ (fun hHeld => ?_)
    clear hK K
    try simp only [Act.put, List.setIfInBounds_toArray, List.set_cons_zero, List.set_cons_succ]
    generalize W2.alloc (.cells #[.slice (some ⟨D1, 0, none⟩) 1 1, .slice an nn cn, .slice (some ⟨D3, 0, none⟩) 4 4] 22) = W3 at *
    generalize W2.heap.size = D4 at *
    refine stepL 12 (by kernel_rfl) rfl (fun K hK => ?_)
    go_simp
    refine (HTg.out _ _ B.out pp.out).mono ?_
    rintro e W4 ⟨rfl, hb⟩
    show K _ _
    have B := Bx.mk (B.out.later hg hb)
    clear hb pp
    refine hK.out _ _ ⟨B.out.cell, ⟨B.out.below⟩⟩ (fun hHeld => ?_)
    clear hK K
    try simp only [Act.put, List.setIfInBounds_toArray, List.set_cons_zero, List.set_cons_succ]
    refine stepL 13 (by kernel_rfl) rfl (fun K hK => ?_)
    refine step_st rfl 34 _ _ rfl w.heap.size (u8s hm) (by rfl) (by rfl) (there_row B.out.res 0 _ (by rw [u8s_size, u8s_size, HML.out]; simp)) HI.out (one_u8s _) ?_
    have HF : Bx (Below w.heap.size w (W4.setCells w.heap.size 0 (u8s hm).toList) ∧ (W4.setCells w.heap.size 0 (u8s hm).toList).heap[w.heap.size]? = some (.cells (u8s hm) 34 (0, 0))) := Bx.mk ⟨below_setCells (Nat.le_refl _) _ _ _ _ B.out.below, heap_setCells_all B.out.res (by rw [u8s_size, u8s_size, HML.out]; rfl)⟩
    generalize W4.setCells w.heap.size 0 (u8s hm).toList = WF at *
    refine hK.out _ _ ⟨by rw [HF.out.1.cell (p := ⟨p, 0, none⟩) HPc.out.1]; exact HPc.out.2, ⟨HF.out.1⟩⟩ (fun hHeld => ?_)
    clear hK K B
    try simp only [Act.put, List.setIfInBounds_toArray, List.set_cons_zero, List.set_cons_succ]
    refine wpAnyH_done (by kernel_rfl) ?_ _
    refine NoPanic.normal ?_
    clear hHeld
    go_wp2
    refine bodyPost_ret (results_cell_row rfl _ _ w.heap.size _ (u8s hm) _ _ rfl HF.out.2 Tryd.underlying34 rfl HI.out) rfl ?_
    exact ⟨by first | rfl | rw [HHM.out], HF.out.1⟩
end Go.Proofs.YtcaehkglfliihaaDoor
