/-
  The walk of the statement's Token.
-/
import Derived.Test.YtnefpjdjnjcmbaaGreatDoorYc
namespace Go.Proofs.YtnefpjdjnjcmbaaGreatDoor
open Go Go.RowKit
/-- The claims of the token that stands in. -/
def c11 : Cl := ⟨1, 0, 0, 1⟩
/-- Claims, or those that stand in for them. -/
def cOr (c : Cl) : Cl := if okC c = true then c else c11
theorem c11_ok : okC c11 = true := by decide
theorem cOr_ok (c : Cl) : okC (cOr c) = true := by
  unfold cOr
  split
  · assumption
  · exact c11_ok
set_option maxRecDepth 100000 in
set_option maxHeartbeats 2000000 in
theorem tok7_ok (bs : List UInt8) (c : Cl) (v : Value) (w : World) (hv : Bytes w v bs) (hl : bs.length ≤ 1000000) (hc : okC c = true) (hTab : Tab w) (hg : 0 < w.heap.size) :
    Calls Tryz.prog 4 #[v, clV c] w fun e w' => e = .returned (tkV (c) (secK bs (c))) ∧ Below w.heap.size w w' := by
  have HT : Bx (∀ W, Below w.heap.size w W → Tab W ∧ 0 < W.heap.size) := Bx.mk fun W hb => ⟨hTab.later hb hg, Nat.lt_of_lt_of_le hg hb.size⟩
  clear hTab hg
  obtain ⟨zc, hzc⟩ : ∃ zc, tkC c0 z32 = zc := ⟨_, rfl⟩
  have hzv : ∀ W : World, (zeroValue 29).run Tryz.prog W = .ok (.agg zc) W := fun W => by rw [← hzc]; exact tk_zero W
  have HNw : Bx (∀ (W : World) v, Bytes W v bs → Calls Tryz.prog 11 #[v] W fun e w' => ∃ v', e = .returned v' ∧ KeyO w' W.heap.size v' bs ∧ Below W.heap.size W w') := Bx.mk fun W v hv => new_any bs v W hv (by omega)
  have HTo := Bx.mk fun (W : World) => cto_any c W
  have HMk : Bx (∀ W v, Below w.heap.size w W → IsKey W v bs → Calls Tryz.prog 29 #[v, clV (c)] W fun e w' => e = .returned (.tuple #[.agg (tkC (c) (secK bs (c))), .int .i64 0]) ∧ Below W.heap.size W w') := Bx.mk fun W v hb hv => mk_ok bs (c) v W hv hl hc (HT.out W hb).1 (HT.out W hb).2
  have HS := secK_length bs (c)
  generalize secK bs (c) = sk at *
  obtain ⟨kl, hkl⟩ : ∃ kl : List Value, tkC (c) sk = kl.toArray := ⟨_, rfl⟩
  have HI : Bx ((Tryz.prog.info? 29).map (·.size) = some kl.toArray.size ∧ kl.toArray.all (·.oneCell') = true ∧ kl.toArray.size = zc.size ∧ (Tryz.prog.info? 29).map (·.size) = some kl.length) := Bx.mk (by rw [show kl.length = kl.toArray.size from rfl, ← hkl, ← hzc]; exact ⟨tk_info _ _ HS, tkC_one _ _, by rw [tkC_size _ _ HS, tkC_size _ _ rfl], tk_info _ _ HS⟩)
  unfold tkV
  rw [hkl] at HMk ⊢
  have HV := Bx.mk hv
  obtain ⟨av, cv, rfl, -⟩ := hv
  generalize bs.length = nv at *
  clear hzc hkl HS hc hl
  obtain ⟨i, r, x, q⟩ := c
  unfold clV at *
  simp only at HTo HMk ⊢
  obtain ⟨B, hB⟩ : ∃ B, w.heap.size = B := ⟨_, rfl⟩
  have HB := Bx.mk hB
  have H0 := Bx.mk (((KS.start w B hB).new (.cells #[.int .i64 i, .int .i64 r, .int .i64 x, .int .i64 q] 24)).new (.cells zc 29))
  rw [alloc_size, hB] at H0
  rw [hB] at HMk HT ⊢
  go_enter Tryz.func4, Tryz.ntmps4
  go_upto_region 1 with fail
  generalize (w.alloc (.cells #[.int .i64 i, .int .i64 r, .int .i64 x, .int .i64 q] 24)).alloc (.cells zc 29) = w0 at *
  have R0 := Bx.mk (And.intro H0.out.drew (HV.out.later (by rw [HB.out]; exact H0.out.below.drew)))
  clear H0
  refine wp_region_noPanic ?_
  refine wp_region_held_drew (S := fun W => W.rangeAt B 0 [.int .i64 i, .int .i64 r, .int .i64 x, .int .i64 q]) (by kernel_rfl) ((row_rng (l := [.int .i64 i, .int .i64 r, .int .i64 x, .int .i64 q]) (R0.out.1.rows _ (.tail _ (.head _))))) (fun hHeld => ?_)
  generalize w0.drew = W0 at *
  refine takeL 0 (v := ?_) rfl (by kernel_rfl) (by kernel_rfl) (by kernel_rfl) (fun _ _ _ h => h) (Or.inl ⟨by rfl, ?_⟩) hHeld ?_
  rotate_left 1
  · (intro w hSw; go_simp; try with_reducible rfl)
  try simp only [Act.put, List.setIfInBounds_toArray, List.set_cons_zero, List.set_cons_succ]
  refine takeL 2 rfl (by kernel_rfl) (by kernel_rfl) (by kernel_rfl) (fun _ _ _ h => h) (yieldsIf_load_mid (by rfl) _ _ rfl _ _ rfl _ _ (fun w hSw => hSw) Tryz.underlying24 rfl (by kernel_rfl)) hHeld ?_
  try simp only [Act.put, List.setIfInBounds_toArray, List.set_cons_zero, List.set_cons_succ]
  refine wpAnyH_ready (rs := [1, 8]) (by kernel_rfl) (by simp) ?_
  refine consM 1 rfl (fun K hK => ?_) (consM 8 rfl (fun K hK => ?_) AllReadyH.nil)
  · go_simp
    refine (HNw.out W0 _ R0.out.2).mono ?_
    rintro e W1 ⟨vk, rfl, hk1, hb⟩
    show K _ _
    have R1 := Bx.mk (And.intro (R0.out.1.later hb) hk1.key)
    clear hb hk1 R0
    refine hK.out _ _ (row_rng (l := [.int .i64 i, .int .i64 r, .int .i64 x, .int .i64 q]) (R1.out.1.rows _ (.tail _ (.head _)))) (fun hHeld => ?_)
    clear hK K
    try simp only [Act.put, List.setIfInBounds_toArray, List.set_cons_zero, List.set_cons_succ]
    refine wpAnyH_ready (rs := [3, 8]) (by kernel_rfl) (by simp) ?_
    refine consM 3 rfl (fun K hK => ?_) (consM 8 rfl (fun K hK => ?_) AllReadyH.nil)
    · go_simp
      refine (HTo.out W1).mono ?_
      rintro e W2 ⟨rfl, hb⟩
      show K _ _
      have R2 := Bx.mk (And.intro (R1.out.1.later hb) (R1.out.2.later hb))
      clear hb R1
      refine hK.out _ _ (row_rng (l := [.int .i64 i, .int .i64 r, .int .i64 x, .int .i64 q]) (R2.out.1.rows _ (.tail _ (.head _)))) (fun hHeld => ?_)
      clear hK K
      try simp only [Act.put, List.setIfInBounds_toArray, List.set_cons_zero, List.set_cons_succ]
      refine wpAnyH_ready (rs := [4, 8]) (by kernel_rfl) (by simp) ?_
      refine consM 4 rfl (fun K hK => ?_) (consM 8 rfl (fun K hK => ?_) AllReadyH.nil)
      · go_simp
        refine (HMk.out W2 vk R2.out.1.below R2.out.2).mono ?_
        rintro e W3 ⟨rfl, hb⟩
        show K _ _
        have R3 := Bx.mk (And.intro (R2.out.1.later hb) True.intro)
        clear hb R2
        refine hK.out _ _ (row_rng (l := [.int .i64 i, .int .i64 r, .int .i64 x, .int .i64 q]) (R3.out.1.rows _ (.tail _ (.head _)))) (fun hHeld => ?_)
        clear hK K
        try simp only [Act.put, List.setIfInBounds_toArray, List.set_cons_zero, List.set_cons_succ]
        refine takeL 5 (v := ?_) rfl (by kernel_rfl) (by kernel_rfl) (by kernel_rfl) (fun _ _ _ h => h) (Or.inl ⟨by rfl, ?_⟩) hHeld ?_
        rotate_left 1
        · (intro w hSw; go_simp; try with_reducible rfl)
        try simp only [Act.put, List.setIfInBounds_toArray, List.set_cons_zero, List.set_cons_succ]
        refine takeL 6 (v := ?_) rfl (by kernel_rfl) (by kernel_rfl) (by kernel_rfl) (fun _ _ _ h => h) (Or.inl ⟨by rfl, ?_⟩) hHeld ?_
        rotate_left 1
        · (intro w hSw; go_simp; try with_reducible rfl)
        try simp only [Act.put, List.setIfInBounds_toArray, List.set_cons_zero, List.set_cons_succ]
        refine takeL 7 (v := ?_) rfl (by kernel_rfl) (by kernel_rfl) (by kernel_rfl) (fun _ _ _ h => h) (Or.inl ⟨by rfl, ?_⟩) hHeld ?_
        rotate_left 1
        · (intro w hSw; go_simp; try with_reducible rfl)
        try simp only [Act.put, List.setIfInBounds_toArray, List.set_cons_zero, List.set_cons_succ]
        refine stepL 8 (by kernel_rfl) rfl (fun K hK => ?_)
        go_simp
        show K _ _
        obtain ⟨D, hD⟩ : ∃ D, W3.heap.size = D := ⟨_, rfl⟩
        have HBD : Bx (B + 1 < D) := Bx.mk (by rw [← hD]; exact R3.out.1.lt (x := (B + 1, _)) (.head _))
        have R4 := Bx.mk (And.intro (R3.out.1.new (.cells zc 29)) True.intro)
        rw [hD] at R4 ⊢
        clear R3 hD
        generalize W3.alloc (.cells zc 29) = W4 at *
        refine hK.out _ _ (row_rng (l := [.int .i64 i, .int .i64 r, .int .i64 x, .int .i64 q]) (R4.out.1.rows _ (.tail _ (.tail _ (.head _))))) (fun hHeld => ?_)
        clear hK K
        try simp only [Act.put, List.setIfInBounds_toArray, List.set_cons_zero, List.set_cons_succ]
        refine stepL 9 (by kernel_rfl) rfl (fun K hK => ?_)
        refine step_st rfl 29 _ _ rfl D kl.toArray (by rfl) (by rfl) (there_row (R4.out.1.rows _ (.head _)) 0 _ (by rw [HI.out.2.2.1]; omega)) HI.out.1 HI.out.2.1 ?_
        have hr2 := heap_setCells_all (ds := kl.toArray) (R4.out.1.rows _ (.head _)) HI.out.2.2.1
        have R5 := Bx.mk (And.intro (R4.out.1.set (kb_setCells kl.toArray.toList 0 W4) hr2 (by have := HBD.out; omega) (by intro y hy; have := HBD.out; simp at hy; rcases hy with rfl | rfl <;> (simp only; omega))) True.intro)
        clear hr2 R4
        generalize W4.setCells D 0 kl.toArray.toList = W5 at *
        refine hK.out _ _ (row_rng (l := [.int .i64 i, .int .i64 r, .int .i64 x, .int .i64 q]) (R5.out.1.rows _ (.tail _ (.tail _ (.head _))))) (fun hHeld => ?_)
        clear hK K
        try simp only [Act.put]
        refine takeL 10 (v := ?_) rfl (by kernel_rfl) (by kernel_rfl) (by kernel_rfl) (fun _ _ _ h => h) (Or.inl ⟨by rfl, ?_⟩) hHeld ?_
        rotate_left 1
        · (intro w hSw; go_simp; try with_reducible rfl)
        try simp only [Act.put, List.setIfInBounds_toArray, List.set_cons_zero, List.set_cons_succ]
        refine wpAnyH_done (by kernel_rfl) ?_ _
        refine NoPanic.normal ?_
        clear hHeld
        go_wp2_with (first | (refine wpList_load_mid rfl 29 _ rfl D 0 (by rfl) kl _ (row_rng (R5.out.1.rows _ (.head _))) Tryz.underlying29 rfl HI.out.2.2.2 ?_) | (refine wpList_store_new rfl 29 _ _ rfl (B + 1) kl.toArray zc _ (by rfl) (by rfl) (R5.out.1.rows _ (.tail _ (.head _))) HI.out.2.2.1 HI.out.1 HI.out.2.1 ?_; intro w8 hw8 hr8; have hg8 := Bx.mk (kb_of hw8); have HR8 := Bx.mk hr8; clear hw8 hr8))
        refine bodyPost_ret (results_cell_row rfl _ _ (B + 1) _ kl.toArray _ _ rfl HR8.out Tryz.underlying29 rfl HI.out.1) rfl ?_
        exact ⟨rfl, R5.out.1.below.trans (grown_below hg8.out (by omega) R5.out.1.le)⟩
      · go_simp
        show K _ _
        obtain ⟨D, hD⟩ : ∃ D, W2.heap.size = D := ⟨_, rfl⟩
        have HBD : Bx (B + 1 < D) := Bx.mk (by rw [← hD]; exact R2.out.1.lt (x := (B + 1, _)) (.head _))
        have R3 := Bx.mk (And.intro (R2.out.1.new (.cells zc 29)) (R2.out.2.later (below_a (.cells zc 29))))
        rw [hD] at R3 ⊢
        clear R2 hD
        generalize W2.alloc (.cells zc 29) = W3 at *
        refine hK.out _ _ (row_rng (l := [.int .i64 i, .int .i64 r, .int .i64 x, .int .i64 q]) (R3.out.1.rows _ (.tail _ (.tail _ (.head _))))) (fun hHeld => ?_)
        clear hK K
        try simp only [Act.put, List.setIfInBounds_toArray, List.set_cons_zero, List.set_cons_succ]
        refine stepL 4 (by kernel_rfl) rfl (fun K hK => ?_)
        go_simp
        refine (HMk.out W3 vk R3.out.1.below R3.out.2).mono ?_
        rintro e W4 ⟨rfl, hb⟩
        show K _ _
        have R4 := Bx.mk (And.intro (R3.out.1.later hb) True.intro)
        clear hb R3
        refine hK.out _ _ (row_rng (l := [.int .i64 i, .int .i64 r, .int .i64 x, .int .i64 q]) (R4.out.1.rows _ (.tail _ (.tail _ (.head _))))) (fun hHeld => ?_)
        clear hK K
        try simp only [Act.put, List.setIfInBounds_toArray, List.set_cons_zero, List.set_cons_succ]
        refine takeL 5 (v := ?_) rfl (by kernel_rfl) (by kernel_rfl) (by kernel_rfl) (fun _ _ _ h => h) (Or.inl ⟨by rfl, ?_⟩) hHeld ?_
        rotate_left 1
        · (intro w hSw; go_simp; try with_reducible rfl)
        try simp only [Act.put, List.setIfInBounds_toArray, List.set_cons_zero, List.set_cons_succ]
        refine takeL 6 (v := ?_) rfl (by kernel_rfl) (by kernel_rfl) (by kernel_rfl) (fun _ _ _ h => h) (Or.inl ⟨by rfl, ?_⟩) hHeld ?_
        rotate_left 1
        · (intro w hSw; go_simp; try with_reducible rfl)
        try simp only [Act.put, List.setIfInBounds_toArray, List.set_cons_zero, List.set_cons_succ]
        refine takeL 7 (v := ?_) rfl (by kernel_rfl) (by kernel_rfl) (by kernel_rfl) (fun _ _ _ h => h) (Or.inl ⟨by rfl, ?_⟩) hHeld ?_
        rotate_left 1
        · (intro w hSw; go_simp; try with_reducible rfl)
        try simp only [Act.put, List.setIfInBounds_toArray, List.set_cons_zero, List.set_cons_succ]
        refine stepL 9 (by kernel_rfl) rfl (fun K hK => ?_)
        refine step_st rfl 29 _ _ rfl D kl.toArray (by rfl) (by rfl) (there_row (R4.out.1.rows _ (.head _)) 0 _ (by rw [HI.out.2.2.1]; omega)) HI.out.1 HI.out.2.1 ?_
        have hr2 := heap_setCells_all (ds := kl.toArray) (R4.out.1.rows _ (.head _)) HI.out.2.2.1
        have R5 := Bx.mk (And.intro (R4.out.1.set (kb_setCells kl.toArray.toList 0 W4) hr2 (by have := HBD.out; omega) (by intro y hy; have := HBD.out; simp at hy; rcases hy with rfl | rfl <;> (simp only; omega))) True.intro)
        clear hr2 R4
        generalize W4.setCells D 0 kl.toArray.toList = W5 at *
        refine hK.out _ _ (row_rng (l := [.int .i64 i, .int .i64 r, .int .i64 x, .int .i64 q]) (R5.out.1.rows _ (.tail _ (.tail _ (.head _))))) (fun hHeld => ?_)
        clear hK K
        try simp only [Act.put]
        refine takeL 10 (v := ?_) rfl (by kernel_rfl) (by kernel_rfl) (by kernel_rfl) (fun _ _ _ h => h) (Or.inl ⟨by rfl, ?_⟩) hHeld ?_
        rotate_left 1
        · (intro w hSw; go_simp; try with_reducible rfl)
        try simp only [Act.put, List.setIfInBounds_toArray, List.set_cons_zero, List.set_cons_succ]
        refine wpAnyH_done (by kernel_rfl) ?_ _
        refine NoPanic.normal ?_
        clear hHeld
        go_wp2_with (first | (refine wpList_load_mid rfl 29 _ rfl D 0 (by rfl) kl _ (row_rng (R5.out.1.rows _ (.head _))) Tryz.underlying29 rfl HI.out.2.2.2 ?_) | (refine wpList_store_new rfl 29 _ _ rfl (B + 1) kl.toArray zc _ (by rfl) (by rfl) (R5.out.1.rows _ (.tail _ (.head _))) HI.out.2.2.1 HI.out.1 HI.out.2.1 ?_; intro w8 hw8 hr8; have hg8 := Bx.mk (kb_of hw8); have HR8 := Bx.mk hr8; clear hw8 hr8))
        refine bodyPost_ret (results_cell_row rfl _ _ (B + 1) _ kl.toArray _ _ rfl HR8.out Tryz.underlying29 rfl HI.out.1) rfl ?_
        exact ⟨rfl, R5.out.1.below.trans (grown_below hg8.out (by omega) R5.out.1.le)⟩
    · go_simp
      show K _ _
      obtain ⟨D, hD⟩ : ∃ D, W1.heap.size = D := ⟨_, rfl⟩
      have HBD : Bx (B + 1 < D) := Bx.mk (by rw [← hD]; exact R1.out.1.lt (x := (B + 1, _)) (.head _))
      have R2 := Bx.mk (And.intro (R1.out.1.new (.cells zc 29)) (R1.out.2.later (below_a (.cells zc 29))))
      rw [hD] at R2 ⊢
      clear R1 hD
      generalize W1.alloc (.cells zc 29) = W2 at *
      refine hK.out _ _ (row_rng (l := [.int .i64 i, .int .i64 r, .int .i64 x, .int .i64 q]) (R2.out.1.rows _ (.tail _ (.tail _ (.head _))))) (fun hHeld => ?_)
      clear hK K
      try simp only [Act.put, List.setIfInBounds_toArray, List.set_cons_zero, List.set_cons_succ]
      refine stepL 3 (by kernel_rfl) rfl (fun K hK => ?_)
      go_simp
      refine (HTo.out W2).mono ?_
      rintro e W3 ⟨rfl, hb⟩
      show K _ _
      have R3 := Bx.mk (And.intro (R2.out.1.later hb) (R2.out.2.later hb))
      clear hb R2
      refine hK.out _ _ (row_rng (l := [.int .i64 i, .int .i64 r, .int .i64 x, .int .i64 q]) (R3.out.1.rows _ (.tail _ (.tail _ (.head _))))) (fun hHeld => ?_)
      clear hK K
      try simp only [Act.put, List.setIfInBounds_toArray, List.set_cons_zero, List.set_cons_succ]
      refine stepL 4 (by kernel_rfl) rfl (fun K hK => ?_)
      go_simp
      refine (HMk.out W3 vk R3.out.1.below R3.out.2).mono ?_
      rintro e W4 ⟨rfl, hb⟩
      show K _ _
      have R4 := Bx.mk (And.intro (R3.out.1.later hb) True.intro)
      clear hb R3
      refine hK.out _ _ (row_rng (l := [.int .i64 i, .int .i64 r, .int .i64 x, .int .i64 q]) (R4.out.1.rows _ (.tail _ (.tail _ (.head _))))) (fun hHeld => ?_)
      clear hK K
      try simp only [Act.put, List.setIfInBounds_toArray, List.set_cons_zero, List.set_cons_succ]
      refine takeL 5 (v := ?_) rfl (by kernel_rfl) (by kernel_rfl) (by kernel_rfl) (fun _ _ _ h => h) (Or.inl ⟨by rfl, ?_⟩) hHeld ?_
      rotate_left 1
      · (intro w hSw; go_simp; try with_reducible rfl)
      try simp only [Act.put, List.setIfInBounds_toArray, List.set_cons_zero, List.set_cons_succ]
      refine takeL 6 (v := ?_) rfl (by kernel_rfl) (by kernel_rfl) (by kernel_rfl) (fun _ _ _ h => h) (Or.inl ⟨by rfl, ?_⟩) hHeld ?_
      rotate_left 1
      · (intro w hSw; go_simp; try with_reducible rfl)
      try simp only [Act.put, List.setIfInBounds_toArray, List.set_cons_zero, List.set_cons_succ]
      refine takeL 7 (v := ?_) rfl (by kernel_rfl) (by kernel_rfl) (by kernel_rfl) (fun _ _ _ h => h) (Or.inl ⟨by rfl, ?_⟩) hHeld ?_
      rotate_left 1
      · (intro w hSw; go_simp; try with_reducible rfl)
      try simp only [Act.put, List.setIfInBounds_toArray, List.set_cons_zero, List.set_cons_succ]
      refine stepL 9 (by kernel_rfl) rfl (fun K hK => ?_)
      refine step_st rfl 29 _ _ rfl D kl.toArray (by rfl) (by rfl) (there_row (R4.out.1.rows _ (.head _)) 0 _ (by rw [HI.out.2.2.1]; omega)) HI.out.1 HI.out.2.1 ?_
      have hr2 := heap_setCells_all (ds := kl.toArray) (R4.out.1.rows _ (.head _)) HI.out.2.2.1
      have R5 := Bx.mk (And.intro (R4.out.1.set (kb_setCells kl.toArray.toList 0 W4) hr2 (by have := HBD.out; omega) (by intro y hy; have := HBD.out; simp at hy; rcases hy with rfl | rfl <;> (simp only; omega))) True.intro)
      clear hr2 R4
      generalize W4.setCells D 0 kl.toArray.toList = W5 at *
      refine hK.out _ _ (row_rng (l := [.int .i64 i, .int .i64 r, .int .i64 x, .int .i64 q]) (R5.out.1.rows _ (.tail _ (.tail _ (.head _))))) (fun hHeld => ?_)
      clear hK K
      try simp only [Act.put]
      refine takeL 10 (v := ?_) rfl (by kernel_rfl) (by kernel_rfl) (by kernel_rfl) (fun _ _ _ h => h) (Or.inl ⟨by rfl, ?_⟩) hHeld ?_
      rotate_left 1
      · (intro w hSw; go_simp; try with_reducible rfl)
      try simp only [Act.put, List.setIfInBounds_toArray, List.set_cons_zero, List.set_cons_succ]
      refine wpAnyH_done (by kernel_rfl) ?_ _
      refine NoPanic.normal ?_
      clear hHeld
      go_wp2_with (first | (refine wpList_load_mid rfl 29 _ rfl D 0 (by rfl) kl _ (row_rng (R5.out.1.rows _ (.head _))) Tryz.underlying29 rfl HI.out.2.2.2 ?_) | (refine wpList_store_new rfl 29 _ _ rfl (B + 1) kl.toArray zc _ (by rfl) (by rfl) (R5.out.1.rows _ (.tail _ (.head _))) HI.out.2.2.1 HI.out.1 HI.out.2.1 ?_; intro w8 hw8 hr8; have hg8 := Bx.mk (kb_of hw8); have HR8 := Bx.mk hr8; clear hw8 hr8))
      refine bodyPost_ret (results_cell_row rfl _ _ (B + 1) _ kl.toArray _ _ rfl HR8.out Tryz.underlying29 rfl HI.out.1) rfl ?_
      exact ⟨rfl, R5.out.1.below.trans (grown_below hg8.out (by omega) R5.out.1.le)⟩
  · go_simp
    show K _ _
    obtain ⟨D, hD⟩ : ∃ D, W0.heap.size = D := ⟨_, rfl⟩
    have HBD : Bx (B + 1 < D) := Bx.mk (by rw [← hD]; exact R0.out.1.lt (x := (B + 1, _)) (.head _))
    have R1 := Bx.mk (And.intro (R0.out.1.new (.cells zc 29)) (R0.out.2.later (below_a (.cells zc 29))))
    rw [hD] at R1 ⊢
    clear R0 hD
    generalize W0.alloc (.cells zc 29) = W1 at *
    refine hK.out _ _ (row_rng (l := [.int .i64 i, .int .i64 r, .int .i64 x, .int .i64 q]) (R1.out.1.rows _ (.tail _ (.tail _ (.head _))))) (fun hHeld => ?_)
    clear hK K
    try simp only [Act.put, List.setIfInBounds_toArray, List.set_cons_zero, List.set_cons_succ]
    refine stepL 1 (by kernel_rfl) rfl (fun K hK => ?_)
    go_simp
    refine (HNw.out W1 _ R1.out.2).mono ?_
    rintro e W2 ⟨vk, rfl, hk1, hb⟩
    show K _ _
    have R2 := Bx.mk (And.intro (R1.out.1.later hb) hk1.key)
    clear hb hk1 R1
    refine hK.out _ _ (row_rng (l := [.int .i64 i, .int .i64 r, .int .i64 x, .int .i64 q]) (R2.out.1.rows _ (.tail _ (.tail _ (.head _))))) (fun hHeld => ?_)
    clear hK K
    try simp only [Act.put, List.setIfInBounds_toArray, List.set_cons_zero, List.set_cons_succ]
    refine stepL 3 (by kernel_rfl) rfl (fun K hK => ?_)
    go_simp
    refine (HTo.out W2).mono ?_
    rintro e W3 ⟨rfl, hb⟩
    show K _ _
    have R3 := Bx.mk (And.intro (R2.out.1.later hb) (R2.out.2.later hb))
    clear hb R2
    refine hK.out _ _ (row_rng (l := [.int .i64 i, .int .i64 r, .int .i64 x, .int .i64 q]) (R3.out.1.rows _ (.tail _ (.tail _ (.head _))))) (fun hHeld => ?_)
    clear hK K
    try simp only [Act.put, List.setIfInBounds_toArray, List.set_cons_zero, List.set_cons_succ]
    refine stepL 4 (by kernel_rfl) rfl (fun K hK => ?_)
    go_simp
    refine (HMk.out W3 vk R3.out.1.below R3.out.2).mono ?_
    rintro e W4 ⟨rfl, hb⟩
    show K _ _
    have R4 := Bx.mk (And.intro (R3.out.1.later hb) True.intro)
    clear hb R3
    refine hK.out _ _ (row_rng (l := [.int .i64 i, .int .i64 r, .int .i64 x, .int .i64 q]) (R4.out.1.rows _ (.tail _ (.tail _ (.head _))))) (fun hHeld => ?_)
    clear hK K
    try simp only [Act.put, List.setIfInBounds_toArray, List.set_cons_zero, List.set_cons_succ]
    refine takeL 5 (v := ?_) rfl (by kernel_rfl) (by kernel_rfl) (by kernel_rfl) (fun _ _ _ h => h) (Or.inl ⟨by rfl, ?_⟩) hHeld ?_
    rotate_left 1
    · (intro w hSw; go_simp; try with_reducible rfl)
    try simp only [Act.put, List.setIfInBounds_toArray, List.set_cons_zero, List.set_cons_succ]
    refine takeL 6 (v := ?_) rfl (by kernel_rfl) (by kernel_rfl) (by kernel_rfl) (fun _ _ _ h => h) (Or.inl ⟨by rfl, ?_⟩) hHeld ?_
    rotate_left 1
    · (intro w hSw; go_simp; try with_reducible rfl)
    try simp only [Act.put, List.setIfInBounds_toArray, List.set_cons_zero, List.set_cons_succ]
    refine takeL 7 (v := ?_) rfl (by kernel_rfl) (by kernel_rfl) (by kernel_rfl) (fun _ _ _ h => h) (Or.inl ⟨by rfl, ?_⟩) hHeld ?_
    rotate_left 1
    · (intro w hSw; go_simp; try with_reducible rfl)
    try simp only [Act.put, List.setIfInBounds_toArray, List.set_cons_zero, List.set_cons_succ]
    refine stepL 9 (by kernel_rfl) rfl (fun K hK => ?_)
    refine step_st rfl 29 _ _ rfl D kl.toArray (by rfl) (by rfl) (there_row (R4.out.1.rows _ (.head _)) 0 _ (by rw [HI.out.2.2.1]; omega)) HI.out.1 HI.out.2.1 ?_
    have hr2 := heap_setCells_all (ds := kl.toArray) (R4.out.1.rows _ (.head _)) HI.out.2.2.1
    have R5 := Bx.mk (And.intro (R4.out.1.set (kb_setCells kl.toArray.toList 0 W4) hr2 (by have := HBD.out; omega) (by intro y hy; have := HBD.out; simp at hy; rcases hy with rfl | rfl <;> (simp only; omega))) True.intro)
    clear hr2 R4
    generalize W4.setCells D 0 kl.toArray.toList = W5 at *
    refine hK.out _ _ (row_rng (l := [.int .i64 i, .int .i64 r, .int .i64 x, .int .i64 q]) (R5.out.1.rows _ (.tail _ (.tail _ (.head _))))) (fun hHeld => ?_)
    clear hK K
    try simp only [Act.put]
    refine takeL 10 (v := ?_) rfl (by kernel_rfl) (by kernel_rfl) (by kernel_rfl) (fun _ _ _ h => h) (Or.inl ⟨by rfl, ?_⟩) hHeld ?_
    rotate_left 1
    · (intro w hSw; go_simp; try with_reducible rfl)
    try simp only [Act.put, List.setIfInBounds_toArray, List.set_cons_zero, List.set_cons_succ]
    refine wpAnyH_done (by kernel_rfl) ?_ _
    refine NoPanic.normal ?_
    clear hHeld
    go_wp2_with (first | (refine wpList_load_mid rfl 29 _ rfl D 0 (by rfl) kl _ (row_rng (R5.out.1.rows _ (.head _))) Tryz.underlying29 rfl HI.out.2.2.2 ?_) | (refine wpList_store_new rfl 29 _ _ rfl (B + 1) kl.toArray zc _ (by rfl) (by rfl) (R5.out.1.rows _ (.tail _ (.head _))) HI.out.2.2.1 HI.out.1 HI.out.2.1 ?_; intro w8 hw8 hr8; have hg8 := Bx.mk (kb_of hw8); have HR8 := Bx.mk hr8; clear hw8 hr8))
    refine bodyPost_ret (results_cell_row rfl _ _ (B + 1) _ kl.toArray _ _ rfl HR8.out Tryz.underlying29 rfl HI.out.1) rfl ?_
    exact ⟨rfl, R5.out.1.below.trans (grown_below hg8.out (by omega) R5.out.1.le)⟩
set_option maxRecDepth 100000 in
set_option maxHeartbeats 2000000 in
theorem tok7_bad (bs : List UInt8) (c : Cl) (v : Value) (w : World) (hv : Bytes w v bs) (hl : bs.length ≤ 1000000) (hc : okC c = false) (hTab : Tab w) (hg : 0 < w.heap.size) :
    Calls Tryz.prog 4 #[v, clV c] w fun e w' => e = .returned (tkV (c11) (secK bs (c11))) ∧ Below w.heap.size w w' := by
  have HT : Bx (∀ W, Below w.heap.size w W → Tab W ∧ 0 < W.heap.size) := Bx.mk fun W hb => ⟨hTab.later hb hg, Nat.lt_of_lt_of_le hg hb.size⟩
  clear hTab hg
  obtain ⟨zc, hzc⟩ : ∃ zc, tkC c0 z32 = zc := ⟨_, rfl⟩
  have hzv : ∀ W : World, (zeroValue 29).run Tryz.prog W = .ok (.agg zc) W := fun W => by rw [← hzc]; exact tk_zero W
  have HNw : Bx (∀ (W : World) v, Bytes W v bs → Calls Tryz.prog 11 #[v] W fun e w' => ∃ v', e = .returned v' ∧ KeyO w' W.heap.size v' bs ∧ Below W.heap.size W w') := Bx.mk fun W v hv => new_any bs v W hv (by omega)
  have HTo := Bx.mk fun (W : World) => cto_any c W
  have HMk : Bx (∀ W v, Below w.heap.size w W → IsKey W v bs → Calls Tryz.prog 29 #[v, clV (c11)] W fun e w' => e = .returned (.tuple #[.agg (tkC (c11) (secK bs (c11))), .int .i64 0]) ∧ Below W.heap.size W w') := Bx.mk fun W v hb hv => mk_ok bs (c11) v W hv hl c11_ok (HT.out W hb).1 (HT.out W hb).2
  have HS := secK_length bs (c11)
  have HMb : Bx (∀ W v, IsKey W v bs → Calls Tryz.prog 29 #[v, clV c] W fun e w' => e = .returned (.tuple #[.agg zc, .int .i64 10]) ∧ Below W.heap.size W w') := Bx.mk fun W v hv => by
    obtain ⟨p, s, rfl, -, -⟩ := hv
    rw [← hzc]
    exact mk_bad c p W hc
  have HZI : Bx ((Tryz.prog.info? 29).map (·.size) = some zc.size ∧ zc.all (·.oneCell') = true) := Bx.mk (by rw [← hzc]; exact ⟨tk_info _ _ rfl, tkC_one _ _⟩)
  generalize secK bs (c11) = sk at *
  obtain ⟨kl, hkl⟩ : ∃ kl : List Value, tkC (c11) sk = kl.toArray := ⟨_, rfl⟩
  have HI : Bx ((Tryz.prog.info? 29).map (·.size) = some kl.toArray.size ∧ kl.toArray.all (·.oneCell') = true ∧ kl.toArray.size = zc.size ∧ (Tryz.prog.info? 29).map (·.size) = some kl.length) := Bx.mk (by rw [show kl.length = kl.toArray.size from rfl, ← hkl, ← hzc]; exact ⟨tk_info _ _ HS, tkC_one _ _, by rw [tkC_size _ _ HS, tkC_size _ _ rfl], tk_info _ _ HS⟩)
  unfold tkV
  rw [hkl] at HMk ⊢
  have HV := Bx.mk hv
  obtain ⟨av, cv, rfl, -⟩ := hv
  generalize bs.length = nv at *
  clear hzc hkl HS hc hl
  obtain ⟨i, r, x, q⟩ := c
  unfold c11 at *
  unfold clV at *
  simp only at HTo HMk HMb ⊢
  obtain ⟨B, hB⟩ : ∃ B, w.heap.size = B := ⟨_, rfl⟩
  have HB := Bx.mk hB
  have H0 := Bx.mk (((KS.start w B hB).new (.cells #[.int .i64 i, .int .i64 r, .int .i64 x, .int .i64 q] 24)).new (.cells zc 29))
  rw [alloc_size, hB] at H0
  rw [hB] at HMk HT ⊢
  go_enter Tryz.func4, Tryz.ntmps4
  go_upto_region 1 with fail
  generalize (w.alloc (.cells #[.int .i64 i, .int .i64 r, .int .i64 x, .int .i64 q] 24)).alloc (.cells zc 29) = w0 at *
  have R0 := Bx.mk (And.intro H0.out.drew (HV.out.later (by rw [HB.out]; exact H0.out.below.drew)))
  clear H0
  refine wp_region_noPanic ?_
  refine wp_region_held_drew (S := fun W => W.rangeAt B 0 [.int .i64 i, .int .i64 r, .int .i64 x, .int .i64 q]) (by kernel_rfl) ((row_rng (l := [.int .i64 i, .int .i64 r, .int .i64 x, .int .i64 q]) (R0.out.1.rows _ (.tail _ (.head _))))) (fun hHeld => ?_)
  generalize w0.drew = W0 at *
  refine takeL 0 (v := ?_) rfl (by kernel_rfl) (by kernel_rfl) (by kernel_rfl) (fun _ _ _ h => h) (Or.inl ⟨by rfl, ?_⟩) hHeld ?_
  rotate_left 1
  · (intro w hSw; go_simp; try with_reducible rfl)
  try simp only [Act.put, List.setIfInBounds_toArray, List.set_cons_zero, List.set_cons_succ]
  refine takeL 2 rfl (by kernel_rfl) (by kernel_rfl) (by kernel_rfl) (fun _ _ _ h => h) (yieldsIf_load_mid (by rfl) _ _ rfl _ _ rfl _ _ (fun w hSw => hSw) Tryz.underlying24 rfl (by kernel_rfl)) hHeld ?_
  try simp only [Act.put, List.setIfInBounds_toArray, List.set_cons_zero, List.set_cons_succ]
  refine wpAnyH_ready (rs := [1, 8]) (by kernel_rfl) (by simp) ?_
  refine consM 1 rfl (fun K hK => ?_) (consM 8 rfl (fun K hK => ?_) AllReadyH.nil)
  · go_simp
    refine (HNw.out W0 _ R0.out.2).mono ?_
    rintro e W1 ⟨vk, rfl, hk1, hb⟩
    show K _ _
    have R1 := Bx.mk (And.intro (R0.out.1.later hb) hk1.key)
    clear hb hk1 R0
    refine hK.out _ _ (row_rng (l := [.int .i64 i, .int .i64 r, .int .i64 x, .int .i64 q]) (R1.out.1.rows _ (.tail _ (.head _)))) (fun hHeld => ?_)
    clear hK K
    try simp only [Act.put, List.setIfInBounds_toArray, List.set_cons_zero, List.set_cons_succ]
    refine wpAnyH_ready (rs := [3, 8]) (by kernel_rfl) (by simp) ?_
    refine consM 3 rfl (fun K hK => ?_) (consM 8 rfl (fun K hK => ?_) AllReadyH.nil)
    · go_simp
      refine (HTo.out W1).mono ?_
      rintro e W2 ⟨rfl, hb⟩
      show K _ _
      have R2 := Bx.mk (And.intro (R1.out.1.later hb) (R1.out.2.later hb))
      clear hb R1
      refine hK.out _ _ (row_rng (l := [.int .i64 i, .int .i64 r, .int .i64 x, .int .i64 q]) (R2.out.1.rows _ (.tail _ (.head _)))) (fun hHeld => ?_)
      clear hK K
      try simp only [Act.put, List.setIfInBounds_toArray, List.set_cons_zero, List.set_cons_succ]
      refine wpAnyH_ready (rs := [4, 8]) (by kernel_rfl) (by simp) ?_
      refine consM 4 rfl (fun K hK => ?_) (consM 8 rfl (fun K hK => ?_) AllReadyH.nil)
      · go_simp
        refine (HMb.out W2 vk R2.out.2).mono ?_
        rintro e W3 ⟨rfl, hb⟩
        show K _ _
        have R3 := Bx.mk (And.intro (R2.out.1.later hb) True.intro)
        clear hb R2
        refine hK.out _ _ (row_rng (l := [.int .i64 i, .int .i64 r, .int .i64 x, .int .i64 q]) (R3.out.1.rows _ (.tail _ (.head _)))) (fun hHeld => ?_)
        clear hK K
        try simp only [Act.put, List.setIfInBounds_toArray, List.set_cons_zero, List.set_cons_succ]
        refine takeL 5 (v := ?_) rfl (by kernel_rfl) (by kernel_rfl) (by kernel_rfl) (fun _ _ _ h => h) (Or.inl ⟨by rfl, ?_⟩) hHeld ?_
        rotate_left 1
        · (intro w hSw; go_simp; try with_reducible rfl)
        try simp only [Act.put, List.setIfInBounds_toArray, List.set_cons_zero, List.set_cons_succ]
        refine takeL 6 (v := ?_) rfl (by kernel_rfl) (by kernel_rfl) (by kernel_rfl) (fun _ _ _ h => h) (Or.inl ⟨by rfl, ?_⟩) hHeld ?_
        rotate_left 1
        · (intro w hSw; go_simp; try with_reducible rfl)
        try simp only [Act.put, List.setIfInBounds_toArray, List.set_cons_zero, List.set_cons_succ]
        refine takeL 7 (v := ?_) rfl (by kernel_rfl) (by kernel_rfl) (by kernel_rfl) (fun _ _ _ h => h) (Or.inl ⟨by rfl, ?_⟩) hHeld ?_
        rotate_left 1
        · (intro w hSw; go_simp; try with_reducible rfl)
        try simp only [Act.put, List.setIfInBounds_toArray, List.set_cons_zero, List.set_cons_succ]
        refine stepL 8 (by kernel_rfl) rfl (fun K hK => ?_)
        go_simp
        show K _ _
        obtain ⟨D, hD⟩ : ∃ D, W3.heap.size = D := ⟨_, rfl⟩
        have HBD : Bx (B + 1 < D) := Bx.mk (by rw [← hD]; exact R3.out.1.lt (x := (B + 1, _)) (.head _))
        have R4 := Bx.mk (And.intro (R3.out.1.new (.cells zc 29)) True.intro)
        rw [hD] at R4 ⊢
        clear R3 hD
        generalize W3.alloc (.cells zc 29) = W4 at *
        refine hK.out _ _ (row_rng (l := [.int .i64 i, .int .i64 r, .int .i64 x, .int .i64 q]) (R4.out.1.rows _ (.tail _ (.tail _ (.head _))))) (fun hHeld => ?_)
        clear hK K
        try simp only [Act.put, List.setIfInBounds_toArray, List.set_cons_zero, List.set_cons_succ]
        refine stepL 9 (by kernel_rfl) rfl (fun K hK => ?_)
        refine step_st rfl 29 _ _ rfl D zc (by rfl) (by rfl) (there_row (R4.out.1.rows _ (.head _)) 0 _ (by omega)) HZI.out.1 HZI.out.2 ?_
        have hr2 := heap_setCells_all (ds := zc) (R4.out.1.rows _ (.head _)) rfl
        have R5 := Bx.mk (And.intro (R4.out.1.set (kb_setCells zc.toList 0 W4) hr2 (by have := HBD.out; omega) (by intro y hy; have := HBD.out; simp at hy; rcases hy with rfl | rfl <;> (simp only; omega))) True.intro)
        clear hr2 R4
        generalize W4.setCells D 0 zc.toList = W5 at *
        refine hK.out _ _ (row_rng (l := [.int .i64 i, .int .i64 r, .int .i64 x, .int .i64 q]) (R5.out.1.rows _ (.tail _ (.tail _ (.head _))))) (fun hHeld => ?_)
        clear hK K
        try simp only [Act.put]
        refine takeL 10 (v := ?_) rfl (by kernel_rfl) (by kernel_rfl) (by kernel_rfl) (fun _ _ _ h => h) (Or.inl ⟨by rfl, ?_⟩) hHeld ?_
        rotate_left 1
        · (intro w hSw; go_simp; try with_reducible rfl)
        try simp only [Act.put, List.setIfInBounds_toArray, List.set_cons_zero, List.set_cons_succ]
        refine wpAnyH_done (by kernel_rfl) ?_ _
        refine NoPanic.normal ?_
        clear hHeld
        go_wp2_with fail
        refine (HNw.out W5 _ (HV.out.later (by rw [HB.out]; exact R5.out.1.below))).mono ?_
        rintro e X1 ⟨vk2, rfl, hk2, hb⟩
        have Z1 := Bx.mk (And.intro (R5.out.1.later hb) hk2.key)
        clear hb hk2 R5
        go_wp2_with fail
        refine (HMk.out X1 vk2 Z1.out.1.below Z1.out.2).mono ?_
        rintro e X2 ⟨rfl, hb⟩
        have Z2 := Bx.mk (Z1.out.1.later hb)
        clear hb Z1
        go_upto_region 4 with (refine wpList_store_new rfl 29 _ _ rfl D kl.toArray zc _ (by rfl) (by rfl) (Z2.out.rows _ (.head _)) HI.out.2.2.1 HI.out.1 HI.out.2.1 ?_; intro X3 hw8 hr8; have hg8 := Bx.mk (kb_of hw8); have HR8 := Bx.mk hr8; clear hw8 hr8)
        have Z3 := Bx.mk (Z2.out.set hg8.out HR8.out (by have := HBD.out; omega) (by intro y hy; have := HBD.out; simp at hy; rcases hy with rfl | rfl <;> (simp only; omega)))
        clear hg8 HR8 Z2
        go_wp2_with (first | (refine wpList_load_mid rfl 29 _ rfl D 0 (by rfl) kl _ (row_rng (Z3.out.rows _ (.head _))) Tryz.underlying29 rfl HI.out.2.2.2 ?_) | (refine wpList_store_new rfl 29 _ _ rfl (B + 1) kl.toArray zc _ (by rfl) (by rfl) (Z3.out.rows _ (.tail _ (.head _))) HI.out.2.2.1 HI.out.1 HI.out.2.1 ?_; intro w8 hw8 hr8; have hg8 := Bx.mk (kb_of hw8); have HR8 := Bx.mk hr8; clear hw8 hr8))
        refine bodyPost_ret (results_cell_row rfl _ _ (B + 1) _ kl.toArray _ _ rfl HR8.out Tryz.underlying29 rfl HI.out.1) rfl ?_
        exact ⟨rfl, Z3.out.below.trans (grown_below hg8.out (by omega) Z3.out.le)⟩
      · go_simp
        show K _ _
        obtain ⟨D, hD⟩ : ∃ D, W2.heap.size = D := ⟨_, rfl⟩
        have HBD : Bx (B + 1 < D) := Bx.mk (by rw [← hD]; exact R2.out.1.lt (x := (B + 1, _)) (.head _))
        have R3 := Bx.mk (And.intro (R2.out.1.new (.cells zc 29)) (R2.out.2.later (below_a (.cells zc 29))))
        rw [hD] at R3 ⊢
        clear R2 hD
        generalize W2.alloc (.cells zc 29) = W3 at *
        refine hK.out _ _ (row_rng (l := [.int .i64 i, .int .i64 r, .int .i64 x, .int .i64 q]) (R3.out.1.rows _ (.tail _ (.tail _ (.head _))))) (fun hHeld => ?_)
        clear hK K
        try simp only [Act.put, List.setIfInBounds_toArray, List.set_cons_zero, List.set_cons_succ]
        refine stepL 4 (by kernel_rfl) rfl (fun K hK => ?_)
        go_simp
        refine (HMb.out W3 vk R3.out.2).mono ?_
        rintro e W4 ⟨rfl, hb⟩
        show K _ _
        have R4 := Bx.mk (And.intro (R3.out.1.later hb) True.intro)
        clear hb R3
        refine hK.out _ _ (row_rng (l := [.int .i64 i, .int .i64 r, .int .i64 x, .int .i64 q]) (R4.out.1.rows _ (.tail _ (.tail _ (.head _))))) (fun hHeld => ?_)
        clear hK K
        try simp only [Act.put, List.setIfInBounds_toArray, List.set_cons_zero, List.set_cons_succ]
        refine takeL 5 (v := ?_) rfl (by kernel_rfl) (by kernel_rfl) (by kernel_rfl) (fun _ _ _ h => h) (Or.inl ⟨by rfl, ?_⟩) hHeld ?_
        rotate_left 1
        · (intro w hSw; go_simp; try with_reducible rfl)
        try simp only [Act.put, List.setIfInBounds_toArray, List.set_cons_zero, List.set_cons_succ]
        refine takeL 6 (v := ?_) rfl (by kernel_rfl) (by kernel_rfl) (by kernel_rfl) (fun _ _ _ h => h) (Or.inl ⟨by rfl, ?_⟩) hHeld ?_
        rotate_left 1
        · (intro w hSw; go_simp; try with_reducible rfl)
        try simp only [Act.put, List.setIfInBounds_toArray, List.set_cons_zero, List.set_cons_succ]
        refine takeL 7 (v := ?_) rfl (by kernel_rfl) (by kernel_rfl) (by kernel_rfl) (fun _ _ _ h => h) (Or.inl ⟨by rfl, ?_⟩) hHeld ?_
        rotate_left 1
        · (intro w hSw; go_simp; try with_reducible rfl)
        try simp only [Act.put, List.setIfInBounds_toArray, List.set_cons_zero, List.set_cons_succ]
        refine stepL 9 (by kernel_rfl) rfl (fun K hK => ?_)
        refine step_st rfl 29 _ _ rfl D zc (by rfl) (by rfl) (there_row (R4.out.1.rows _ (.head _)) 0 _ (by omega)) HZI.out.1 HZI.out.2 ?_
        have hr2 := heap_setCells_all (ds := zc) (R4.out.1.rows _ (.head _)) rfl
        have R5 := Bx.mk (And.intro (R4.out.1.set (kb_setCells zc.toList 0 W4) hr2 (by have := HBD.out; omega) (by intro y hy; have := HBD.out; simp at hy; rcases hy with rfl | rfl <;> (simp only; omega))) True.intro)
        clear hr2 R4
        generalize W4.setCells D 0 zc.toList = W5 at *
        refine hK.out _ _ (row_rng (l := [.int .i64 i, .int .i64 r, .int .i64 x, .int .i64 q]) (R5.out.1.rows _ (.tail _ (.tail _ (.head _))))) (fun hHeld => ?_)
        clear hK K
        try simp only [Act.put]
        refine takeL 10 (v := ?_) rfl (by kernel_rfl) (by kernel_rfl) (by kernel_rfl) (fun _ _ _ h => h) (Or.inl ⟨by rfl, ?_⟩) hHeld ?_
        rotate_left 1
        · (intro w hSw; go_simp; try with_reducible rfl)
        try simp only [Act.put, List.setIfInBounds_toArray, List.set_cons_zero, List.set_cons_succ]
        refine wpAnyH_done (by kernel_rfl) ?_ _
        refine NoPanic.normal ?_
        clear hHeld
        go_wp2_with fail
        refine (HNw.out W5 _ (HV.out.later (by rw [HB.out]; exact R5.out.1.below))).mono ?_
        rintro e X1 ⟨vk2, rfl, hk2, hb⟩
        have Z1 := Bx.mk (And.intro (R5.out.1.later hb) hk2.key)
        clear hb hk2 R5
        go_wp2_with fail
        refine (HMk.out X1 vk2 Z1.out.1.below Z1.out.2).mono ?_
        rintro e X2 ⟨rfl, hb⟩
        have Z2 := Bx.mk (Z1.out.1.later hb)
        clear hb Z1
        go_upto_region 4 with (refine wpList_store_new rfl 29 _ _ rfl D kl.toArray zc _ (by rfl) (by rfl) (Z2.out.rows _ (.head _)) HI.out.2.2.1 HI.out.1 HI.out.2.1 ?_; intro X3 hw8 hr8; have hg8 := Bx.mk (kb_of hw8); have HR8 := Bx.mk hr8; clear hw8 hr8)
        have Z3 := Bx.mk (Z2.out.set hg8.out HR8.out (by have := HBD.out; omega) (by intro y hy; have := HBD.out; simp at hy; rcases hy with rfl | rfl <;> (simp only; omega)))
        clear hg8 HR8 Z2
        go_wp2_with (first | (refine wpList_load_mid rfl 29 _ rfl D 0 (by rfl) kl _ (row_rng (Z3.out.rows _ (.head _))) Tryz.underlying29 rfl HI.out.2.2.2 ?_) | (refine wpList_store_new rfl 29 _ _ rfl (B + 1) kl.toArray zc _ (by rfl) (by rfl) (Z3.out.rows _ (.tail _ (.head _))) HI.out.2.2.1 HI.out.1 HI.out.2.1 ?_; intro w8 hw8 hr8; have hg8 := Bx.mk (kb_of hw8); have HR8 := Bx.mk hr8; clear hw8 hr8))
        refine bodyPost_ret (results_cell_row rfl _ _ (B + 1) _ kl.toArray _ _ rfl HR8.out Tryz.underlying29 rfl HI.out.1) rfl ?_
        exact ⟨rfl, Z3.out.below.trans (grown_below hg8.out (by omega) Z3.out.le)⟩
    · go_simp
      show K _ _
      obtain ⟨D, hD⟩ : ∃ D, W1.heap.size = D := ⟨_, rfl⟩
      have HBD : Bx (B + 1 < D) := Bx.mk (by rw [← hD]; exact R1.out.1.lt (x := (B + 1, _)) (.head _))
      have R2 := Bx.mk (And.intro (R1.out.1.new (.cells zc 29)) (R1.out.2.later (below_a (.cells zc 29))))
      rw [hD] at R2 ⊢
      clear R1 hD
      generalize W1.alloc (.cells zc 29) = W2 at *
      refine hK.out _ _ (row_rng (l := [.int .i64 i, .int .i64 r, .int .i64 x, .int .i64 q]) (R2.out.1.rows _ (.tail _ (.tail _ (.head _))))) (fun hHeld => ?_)
      clear hK K
      try simp only [Act.put, List.setIfInBounds_toArray, List.set_cons_zero, List.set_cons_succ]
      refine stepL 3 (by kernel_rfl) rfl (fun K hK => ?_)
      go_simp
      refine (HTo.out W2).mono ?_
      rintro e W3 ⟨rfl, hb⟩
      show K _ _
      have R3 := Bx.mk (And.intro (R2.out.1.later hb) (R2.out.2.later hb))
      clear hb R2
      refine hK.out _ _ (row_rng (l := [.int .i64 i, .int .i64 r, .int .i64 x, .int .i64 q]) (R3.out.1.rows _ (.tail _ (.tail _ (.head _))))) (fun hHeld => ?_)
      clear hK K
      try simp only [Act.put, List.setIfInBounds_toArray, List.set_cons_zero, List.set_cons_succ]
      refine stepL 4 (by kernel_rfl) rfl (fun K hK => ?_)
      go_simp
      refine (HMb.out W3 vk R3.out.2).mono ?_
      rintro e W4 ⟨rfl, hb⟩
      show K _ _
      have R4 := Bx.mk (And.intro (R3.out.1.later hb) True.intro)
      clear hb R3
      refine hK.out _ _ (row_rng (l := [.int .i64 i, .int .i64 r, .int .i64 x, .int .i64 q]) (R4.out.1.rows _ (.tail _ (.tail _ (.head _))))) (fun hHeld => ?_)
      clear hK K
      try simp only [Act.put, List.setIfInBounds_toArray, List.set_cons_zero, List.set_cons_succ]
      refine takeL 5 (v := ?_) rfl (by kernel_rfl) (by kernel_rfl) (by kernel_rfl) (fun _ _ _ h => h) (Or.inl ⟨by rfl, ?_⟩) hHeld ?_
      rotate_left 1
      · (intro w hSw; go_simp; try with_reducible rfl)
      try simp only [Act.put, List.setIfInBounds_toArray, List.set_cons_zero, List.set_cons_succ]
      refine takeL 6 (v := ?_) rfl (by kernel_rfl) (by kernel_rfl) (by kernel_rfl) (fun _ _ _ h => h) (Or.inl ⟨by rfl, ?_⟩) hHeld ?_
      rotate_left 1
      · (intro w hSw; go_simp; try with_reducible rfl)
      try simp only [Act.put, List.setIfInBounds_toArray, List.set_cons_zero, List.set_cons_succ]
      refine takeL 7 (v := ?_) rfl (by kernel_rfl) (by kernel_rfl) (by kernel_rfl) (fun _ _ _ h => h) (Or.inl ⟨by rfl, ?_⟩) hHeld ?_
      rotate_left 1
      · (intro w hSw; go_simp; try with_reducible rfl)
      try simp only [Act.put, List.setIfInBounds_toArray, List.set_cons_zero, List.set_cons_succ]
      refine stepL 9 (by kernel_rfl) rfl (fun K hK => ?_)
      refine step_st rfl 29 _ _ rfl D zc (by rfl) (by rfl) (there_row (R4.out.1.rows _ (.head _)) 0 _ (by omega)) HZI.out.1 HZI.out.2 ?_
      have hr2 := heap_setCells_all (ds := zc) (R4.out.1.rows _ (.head _)) rfl
      have R5 := Bx.mk (And.intro (R4.out.1.set (kb_setCells zc.toList 0 W4) hr2 (by have := HBD.out; omega) (by intro y hy; have := HBD.out; simp at hy; rcases hy with rfl | rfl <;> (simp only; omega))) True.intro)
      clear hr2 R4
      generalize W4.setCells D 0 zc.toList = W5 at *
      refine hK.out _ _ (row_rng (l := [.int .i64 i, .int .i64 r, .int .i64 x, .int .i64 q]) (R5.out.1.rows _ (.tail _ (.tail _ (.head _))))) (fun hHeld => ?_)
      clear hK K
      try simp only [Act.put]
      refine takeL 10 (v := ?_) rfl (by kernel_rfl) (by kernel_rfl) (by kernel_rfl) (fun _ _ _ h => h) (Or.inl ⟨by rfl, ?_⟩) hHeld ?_
      rotate_left 1
      · (intro w hSw; go_simp; try with_reducible rfl)
      try simp only [Act.put, List.setIfInBounds_toArray, List.set_cons_zero, List.set_cons_succ]
      refine wpAnyH_done (by kernel_rfl) ?_ _
      refine NoPanic.normal ?_
      clear hHeld
      go_wp2_with fail
      refine (HNw.out W5 _ (HV.out.later (by rw [HB.out]; exact R5.out.1.below))).mono ?_
      rintro e X1 ⟨vk2, rfl, hk2, hb⟩
      have Z1 := Bx.mk (And.intro (R5.out.1.later hb) hk2.key)
      clear hb hk2 R5
      go_wp2_with fail
      refine (HMk.out X1 vk2 Z1.out.1.below Z1.out.2).mono ?_
      rintro e X2 ⟨rfl, hb⟩
      have Z2 := Bx.mk (Z1.out.1.later hb)
      clear hb Z1
      go_upto_region 4 with (refine wpList_store_new rfl 29 _ _ rfl D kl.toArray zc _ (by rfl) (by rfl) (Z2.out.rows _ (.head _)) HI.out.2.2.1 HI.out.1 HI.out.2.1 ?_; intro X3 hw8 hr8; have hg8 := Bx.mk (kb_of hw8); have HR8 := Bx.mk hr8; clear hw8 hr8)
      have Z3 := Bx.mk (Z2.out.set hg8.out HR8.out (by have := HBD.out; omega) (by intro y hy; have := HBD.out; simp at hy; rcases hy with rfl | rfl <;> (simp only; omega)))
      clear hg8 HR8 Z2
      go_wp2_with (first | (refine wpList_load_mid rfl 29 _ rfl D 0 (by rfl) kl _ (row_rng (Z3.out.rows _ (.head _))) Tryz.underlying29 rfl HI.out.2.2.2 ?_) | (refine wpList_store_new rfl 29 _ _ rfl (B + 1) kl.toArray zc _ (by rfl) (by rfl) (Z3.out.rows _ (.tail _ (.head _))) HI.out.2.2.1 HI.out.1 HI.out.2.1 ?_; intro w8 hw8 hr8; have hg8 := Bx.mk (kb_of hw8); have HR8 := Bx.mk hr8; clear hw8 hr8))
      refine bodyPost_ret (results_cell_row rfl _ _ (B + 1) _ kl.toArray _ _ rfl HR8.out Tryz.underlying29 rfl HI.out.1) rfl ?_
      exact ⟨rfl, Z3.out.below.trans (grown_below hg8.out (by omega) Z3.out.le)⟩
  · go_simp
    show K _ _
    obtain ⟨D, hD⟩ : ∃ D, W0.heap.size = D := ⟨_, rfl⟩
    have HBD : Bx (B + 1 < D) := Bx.mk (by rw [← hD]; exact R0.out.1.lt (x := (B + 1, _)) (.head _))
    have R1 := Bx.mk (And.intro (R0.out.1.new (.cells zc 29)) (R0.out.2.later (below_a (.cells zc 29))))
    rw [hD] at R1 ⊢
    clear R0 hD
    generalize W0.alloc (.cells zc 29) = W1 at *
    refine hK.out _ _ (row_rng (l := [.int .i64 i, .int .i64 r, .int .i64 x, .int .i64 q]) (R1.out.1.rows _ (.tail _ (.tail _ (.head _))))) (fun hHeld => ?_)
    clear hK K
    try simp only [Act.put, List.setIfInBounds_toArray, List.set_cons_zero, List.set_cons_succ]
    refine stepL 1 (by kernel_rfl) rfl (fun K hK => ?_)
    go_simp
    refine (HNw.out W1 _ R1.out.2).mono ?_
    rintro e W2 ⟨vk, rfl, hk1, hb⟩
    show K _ _
    have R2 := Bx.mk (And.intro (R1.out.1.later hb) hk1.key)
    clear hb hk1 R1
    refine hK.out _ _ (row_rng (l := [.int .i64 i, .int .i64 r, .int .i64 x, .int .i64 q]) (R2.out.1.rows _ (.tail _ (.tail _ (.head _))))) (fun hHeld => ?_)
    clear hK K
    try simp only [Act.put, List.setIfInBounds_toArray, List.set_cons_zero, List.set_cons_succ]
    refine stepL 3 (by kernel_rfl) rfl (fun K hK => ?_)
    go_simp
    refine (HTo.out W2).mono ?_
    rintro e W3 ⟨rfl, hb⟩
    show K _ _
    have R3 := Bx.mk (And.intro (R2.out.1.later hb) (R2.out.2.later hb))
    clear hb R2
    refine hK.out _ _ (row_rng (l := [.int .i64 i, .int .i64 r, .int .i64 x, .int .i64 q]) (R3.out.1.rows _ (.tail _ (.tail _ (.head _))))) (fun hHeld => ?_)
    clear hK K
    try simp only [Act.put, List.setIfInBounds_toArray, List.set_cons_zero, List.set_cons_succ]
    refine stepL 4 (by kernel_rfl) rfl (fun K hK => ?_)
    go_simp
    refine (HMb.out W3 vk R3.out.2).mono ?_
    rintro e W4 ⟨rfl, hb⟩
    show K _ _
    have R4 := Bx.mk (And.intro (R3.out.1.later hb) True.intro)
    clear hb R3
    refine hK.out _ _ (row_rng (l := [.int .i64 i, .int .i64 r, .int .i64 x, .int .i64 q]) (R4.out.1.rows _ (.tail _ (.tail _ (.head _))))) (fun hHeld => ?_)
    clear hK K
    try simp only [Act.put, List.setIfInBounds_toArray, List.set_cons_zero, List.set_cons_succ]
    refine takeL 5 (v := ?_) rfl (by kernel_rfl) (by kernel_rfl) (by kernel_rfl) (fun _ _ _ h => h) (Or.inl ⟨by rfl, ?_⟩) hHeld ?_
    rotate_left 1
    · (intro w hSw; go_simp; try with_reducible rfl)
    try simp only [Act.put, List.setIfInBounds_toArray, List.set_cons_zero, List.set_cons_succ]
    refine takeL 6 (v := ?_) rfl (by kernel_rfl) (by kernel_rfl) (by kernel_rfl) (fun _ _ _ h => h) (Or.inl ⟨by rfl, ?_⟩) hHeld ?_
    rotate_left 1
    · (intro w hSw; go_simp; try with_reducible rfl)
    try simp only [Act.put, List.setIfInBounds_toArray, List.set_cons_zero, List.set_cons_succ]
    refine takeL 7 (v := ?_) rfl (by kernel_rfl) (by kernel_rfl) (by kernel_rfl) (fun _ _ _ h => h) (Or.inl ⟨by rfl, ?_⟩) hHeld ?_
    rotate_left 1
    · (intro w hSw; go_simp; try with_reducible rfl)
    try simp only [Act.put, List.setIfInBounds_toArray, List.set_cons_zero, List.set_cons_succ]
    refine stepL 9 (by kernel_rfl) rfl (fun K hK => ?_)
    refine step_st rfl 29 _ _ rfl D zc (by rfl) (by rfl) (there_row (R4.out.1.rows _ (.head _)) 0 _ (by omega)) HZI.out.1 HZI.out.2 ?_
    have hr2 := heap_setCells_all (ds := zc) (R4.out.1.rows _ (.head _)) rfl
    have R5 := Bx.mk (And.intro (R4.out.1.set (kb_setCells zc.toList 0 W4) hr2 (by have := HBD.out; omega) (by intro y hy; have := HBD.out; simp at hy; rcases hy with rfl | rfl <;> (simp only; omega))) True.intro)
    clear hr2 R4
    generalize W4.setCells D 0 zc.toList = W5 at *
    refine hK.out _ _ (row_rng (l := [.int .i64 i, .int .i64 r, .int .i64 x, .int .i64 q]) (R5.out.1.rows _ (.tail _ (.tail _ (.head _))))) (fun hHeld => ?_)
    clear hK K
    try simp only [Act.put]
    refine takeL 10 (v := ?_) rfl (by kernel_rfl) (by kernel_rfl) (by kernel_rfl) (fun _ _ _ h => h) (Or.inl ⟨by rfl, ?_⟩) hHeld ?_
    rotate_left 1
    · (intro w hSw; go_simp; try with_reducible rfl)
    try simp only [Act.put, List.setIfInBounds_toArray, List.set_cons_zero, List.set_cons_succ]
    refine wpAnyH_done (by kernel_rfl) ?_ _
    refine NoPanic.normal ?_
    clear hHeld
    go_wp2_with fail
    refine (HNw.out W5 _ (HV.out.later (by rw [HB.out]; exact R5.out.1.below))).mono ?_
    rintro e X1 ⟨vk2, rfl, hk2, hb⟩
    have Z1 := Bx.mk (And.intro (R5.out.1.later hb) hk2.key)
    clear hb hk2 R5
    go_wp2_with fail
    refine (HMk.out X1 vk2 Z1.out.1.below Z1.out.2).mono ?_
    rintro e X2 ⟨rfl, hb⟩
    have Z2 := Bx.mk (Z1.out.1.later hb)
    clear hb Z1
    go_upto_region 4 with (refine wpList_store_new rfl 29 _ _ rfl D kl.toArray zc _ (by rfl) (by rfl) (Z2.out.rows _ (.head _)) HI.out.2.2.1 HI.out.1 HI.out.2.1 ?_; intro X3 hw8 hr8; have hg8 := Bx.mk (kb_of hw8); have HR8 := Bx.mk hr8; clear hw8 hr8)
    have Z3 := Bx.mk (Z2.out.set hg8.out HR8.out (by have := HBD.out; omega) (by intro y hy; have := HBD.out; simp at hy; rcases hy with rfl | rfl <;> (simp only; omega)))
    clear hg8 HR8 Z2
    go_wp2_with (first | (refine wpList_load_mid rfl 29 _ rfl D 0 (by rfl) kl _ (row_rng (Z3.out.rows _ (.head _))) Tryz.underlying29 rfl HI.out.2.2.2 ?_) | (refine wpList_store_new rfl 29 _ _ rfl (B + 1) kl.toArray zc _ (by rfl) (by rfl) (Z3.out.rows _ (.tail _ (.head _))) HI.out.2.2.1 HI.out.1 HI.out.2.1 ?_; intro w8 hw8 hr8; have hg8 := Bx.mk (kb_of hw8); have HR8 := Bx.mk hr8; clear hw8 hr8))
    refine bodyPost_ret (results_cell_row rfl _ _ (B + 1) _ kl.toArray _ _ rfl HR8.out Tryz.underlying29 rfl HI.out.1) rfl ?_
    exact ⟨rfl, Z3.out.below.trans (grown_below hg8.out (by omega) Z3.out.le)⟩
theorem tok7_any (bs : List UInt8) (c : Cl) (v : Value) (w : World) (hv : Bytes w v bs) (hl : bs.length ≤ 1000000) (hTab : Tab w) (hg : 0 < w.heap.size) :
    Calls Tryz.prog 4 #[v, clV c] w fun e w' => e = .returned (tkV (cOr c) (secK bs (cOr c))) ∧ Below w.heap.size w w' := by
  unfold cOr
  cases hc : okC c
  · rw [if_neg (by decide)]
    exact tok7_bad bs c v w hv hl hc hTab hg
  · rw [if_pos rfl]
    exact tok7_ok bs c v w hv hl hc hTab hg
end Go.Proofs.YtnefpjdjnjcmbaaGreatDoor
