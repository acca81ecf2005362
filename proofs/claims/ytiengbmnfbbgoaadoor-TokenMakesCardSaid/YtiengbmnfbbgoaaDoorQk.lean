/-
  The walk of Issue.
-/
import Derived.Test.YtiengbmnfbbgoaaDoorQh
namespace Go.Proofs.YtiengbmnfbbgoaaDoor
open Go Go.RowKit
theorem Tab.grown {w w1 : World} {M : Nat} (h : Tab w) (hg : w.grownBy w1 (some M)) (hlt : 0 < w.heap.size) (hne : 0 ≠ M) : Tab w1 := fun i hi => by
  rw [World.cell?_of_block (hg.block 0 hlt (fun e => hne (by injection e)))]
  exact h i hi
/-- No token, for a reason. -/
def NoTok (r : Int) (w : World) (e : Ending) (w' : World) : Prop := e = .returned (.tuple #[tkV c0 z32, .int .i64 r]) ∧ Below w.heap.size w w'
set_option maxRecDepth 100000 in
theorem issue_nil (i x : Int) (vr : Value) (w : World) : Calls Tryd.prog 32 #[.pointer none, .int .i64 i, .int .i64 x, vr] w (NoTok 11 w) := by
  obtain ⟨zc, hzc⟩ : ∃ zc, tkC c0 z32 = zc := ⟨_, rfl⟩
  have hzv : ∀ W : World, (zeroValue 39).run Tryd.prog W = .ok (.agg zc) W := fun W => by rw [← hzc]; exact tk_zero W
  have hbz : Tryd.prog.built 39 [] = some zc := by rw [← hzc]; exact tk_none
  have HM1 : Bx ((Tryd.prog.info? 39).map (·.size) = some zc.size ∧ zc.all (·.oneCell') = true) := Bx.mk (by rw [← hzc]; exact ⟨tk_info _ _ rfl, tkC_one _ _⟩)
  unfold NoTok tkV
  rw [hzc]
  clear hzc
  obtain ⟨B, hB⟩ : ∃ B, w.heap.size = B := ⟨_, rfl⟩
  have H0 := Bx.mk ((KS.start w B hB).new (.cells zc 39))
  rw [hB] at H0 ⊢
  go_enter Tryd.func32, Tryd.ntmps32
  go_wp2_with (first | (refine wpList_buildTo rfl 39 _ rfl _ rfl zc hbz ?_) | (refine wpList_store_new rfl 39 _ _ rfl B zc zc _ (by rfl) (by rfl) (H0.out.rows _ (.head _)) rfl HM1.out.1 HM1.out.2 ?_; intro w8 hw8 hr8; have hg8 := Bx.mk (kb_of hw8); have HR8 := Bx.mk hr8; clear hw8 hr8))
  refine bodyPost_ret (results_pair rfl _ _ _ B _ rfl (run_loadVar_row _ B _ _ _ _ _ HR8.out Tryd.underlying39 rfl HM1.out.1)) rfl ?_
  exact ⟨rfl, H0.out.below.trans (grown_below hg8.out (by omega) H0.out.le)⟩
set_option maxRecDepth 100000 in
theorem issue_mask (M : Nat) (i x : Int) (ns : List Int) (vr : Value) (w : World) (hv : Ints w vr ns) (hl : ns.length ≤ 1000000) (ha : ns.all isR = false) : Calls Tryd.prog 32 #[.pointer (some ⟨M, 0, none⟩), .int .i64 i, .int .i64 x, vr] w (NoTok 10 w) := by
  obtain ⟨zc, hzc⟩ : ∃ zc, tkC c0 z32 = zc := ⟨_, rfl⟩
  have hzv : ∀ W : World, (zeroValue 39).run Tryd.prog W = .ok (.agg zc) W := fun W => by rw [← hzc]; exact tk_zero W
  have hbz : Tryd.prog.built 39 [] = some zc := by rw [← hzc]; exact tk_none
  have HM1 : Bx ((Tryd.prog.info? 39).map (·.size) = some zc.size ∧ zc.all (·.oneCell') = true) := Bx.mk (by rw [← hzc]; exact ⟨tk_info _ _ rfl, tkC_one _ _⟩)
  unfold NoTok tkV
  rw [hzc]
  clear hzc
  have HMask := Bx.mk fun (W : World) (hb : Below w.heap.size w W) => mask_bad ns vr W (hv.later hb) hl ha
  obtain ⟨a, cap, rfl, -⟩ := hv
  clear hl ha
  obtain ⟨B, hB⟩ : ∃ B, w.heap.size = B := ⟨_, rfl⟩
  have H0 := Bx.mk ((KS.start w B hB).new (.cells zc 39))
  rw [hB] at H0 HMask ⊢
  go_enter Tryd.func32, Tryd.ntmps32
  go_wp2_with fail
  generalize w.alloc (.cells zc 39) = w0 at *
  refine (HMask.out w0 H0.out.below).mono ?_
  rintro e w1 ⟨rfl, rfl⟩
  go_wp2_with (first | (refine wpList_buildTo rfl 39 _ rfl _ rfl zc hbz ?_) | (refine wpList_store_new rfl 39 _ _ rfl B zc zc _ (by rfl) (by rfl) (H0.out.rows _ (.head _)) rfl HM1.out.1 HM1.out.2 ?_; intro w8 hw8 hr8; have hg8 := Bx.mk (kb_of hw8); have HR8 := Bx.mk hr8; clear hw8 hr8))
  refine bodyPost_ret (results_pair rfl _ _ _ B _ rfl (run_loadVar_row _ B _ _ _ _ _ HR8.out Tryd.underlying39 rfl HM1.out.1)) rfl ?_
  exact ⟨rfl, H0.out.below.trans (grown_below hg8.out (by omega) H0.out.le)⟩
set_option maxRecDepth 100000 in
theorem issue_full (M : Nat) (l : List Cl) (bs : List UInt8) (i x : Int) (ns : List Int) (vr : Value) (w : World) (hm : MT w M l bs) (hf : l.length = 256) (hv : Ints w vr ns) (hl : ns.length ≤ 1000000) (ha : ns.all isR = true) : Calls Tryd.prog 32 #[.pointer (some ⟨M, 0, none⟩), .int .i64 i, .int .i64 x, vr] w (NoTok 6 w) := by
  obtain ⟨zc, hzc⟩ : ∃ zc, tkC c0 z32 = zc := ⟨_, rfl⟩
  have hzv : ∀ W : World, (zeroValue 39).run Tryd.prog W = .ok (.agg zc) W := fun W => by rw [← hzc]; exact tk_zero W
  have hbz : Tryd.prog.built 39 [] = some zc := by rw [← hzc]; exact tk_none
  have HM1 : Bx ((Tryd.prog.info? 39).map (·.size) = some zc.size ∧ zc.all (·.oneCell') = true) := Bx.mk (by rw [← hzc]; exact ⟨tk_info _ _ rfl, tkC_one _ _⟩)
  unfold NoTok tkV
  rw [hzc]
  clear hzc
  have HMask := Bx.mk fun (W : World) (hb : Below w.heap.size w W) => mask_ok ns vr W (hv.later hb) hl ha
  have HFull : Bx (∀ W, Below w.heap.size w W → Calls Tryd.prog 48 #[.pointer (some ⟨M, 0, none⟩)] W fun e w' => e = .returned (.bool true) ∧ W = w') := Bx.mk fun W hb => (full_any M l bs W (hm.later hb) (by omega)).mono fun _ _ ⟨h1, h2⟩ => ⟨by rw [h1, decide_eq_true hf], h2⟩
  obtain ⟨a, cap, rfl, -⟩ := hv
  clear hl ha hm hf
  obtain ⟨B, hB⟩ : ∃ B, w.heap.size = B := ⟨_, rfl⟩
  have H0 := Bx.mk ((KS.start w B hB).new (.cells zc 39))
  rw [hB] at H0 HMask HFull ⊢
  go_enter Tryd.func32, Tryd.ntmps32
  go_wp2_with fail
  generalize w.alloc (.cells zc 39) = w0 at *
  refine (HMask.out w0 H0.out.below).mono ?_
  rintro e w1 ⟨rfl, rfl⟩
  go_wp2_with fail
  refine (HFull.out w1 H0.out.below).mono ?_
  rintro e w2 ⟨rfl, rfl⟩
  go_wp2_with (first | (refine wpList_buildTo rfl 39 _ rfl _ rfl zc hbz ?_) | (refine wpList_store_new rfl 39 _ _ rfl B zc zc _ (by rfl) (by rfl) (H0.out.rows _ (.head _)) rfl HM1.out.1 HM1.out.2 ?_; intro w8 hw8 hr8; have hg8 := Bx.mk (kb_of hw8); have HR8 := Bx.mk hr8; clear hw8 hr8))
  refine bodyPost_ret (results_pair rfl _ _ _ B _ rfl (run_loadVar_row _ B _ _ _ _ _ HR8.out Tryd.underlying39 rfl HM1.out.1)) rfl ?_
  exact ⟨rfl, H0.out.below.trans (grown_below hg8.out (by omega) H0.out.le)⟩
theorem KM.cellK {w : World} {M : Nat} {rs : List (Nat × Obj)} {l : List Cl} {v : Value} {bs : List UInt8} {W : World} (h : KM w M rs l v bs W) : W.cell? ⟨M, 1025, none⟩ = some v := by
  obtain ⟨ms, hr, hc, -⟩ := h.row
  rw [cell_of_row _ _ _ _ _ _ hr]
  exact hc.2.2.1
set_option maxRecDepth 100000 in
set_option maxHeartbeats 2000000 in
theorem issue_bad (M : Nat) (l : List Cl) (bs : List UInt8) (i x : Int) (ns : List Int) (vr : Value) (w : World) (hm : MT w M l bs) (hf : l.length < 256) (hv : Ints w vr ns) (hl : ns.length ≤ 1000000) (ha : ns.all isR = true) (hc : okC ⟨i, (mkN ns : Int), x, (l.length : Int) + 1⟩ = false) :
    Calls Tryd.prog 32 #[.pointer (some ⟨M, 0, none⟩), .int .i64 i, .int .i64 x, vr] w (NoTok 10 w) := by
  obtain ⟨zc, hzc⟩ : ∃ zc, tkC c0 z32 = zc := ⟨_, rfl⟩
  have hzv : ∀ W : World, (zeroValue 39).run Tryd.prog W = .ok (.agg zc) W := fun W => by rw [← hzc]; exact tk_zero W
  have hbz : Tryd.prog.built 39 [] = some zc := by rw [← hzc]; exact tk_none
  have HM1 : Bx ((Tryd.prog.info? 39).map (·.size) = some zc.size ∧ zc.all (·.oneCell') = true) := Bx.mk (by rw [← hzc]; exact ⟨tk_info _ _ rfl, tkC_one _ _⟩)
  have HMask := Bx.mk fun (W : World) (hb : Below w.heap.size w W) => mask_ok ns vr W (hv.later hb) hl ha
  have HFull : Bx (∀ W, MT W M l bs → Calls Tryd.prog 48 #[.pointer (some ⟨M, 0, none⟩)] W fun e w' => e = .returned (.bool false) ∧ W = w') := Bx.mk fun W hb => (full_any M l bs W hb (by omega)).mono fun _ _ ⟨h1, h2⟩ => ⟨by rw [h1, decide_eq_false (by omega)], h2⟩
  have HNext : Bx (∀ W, MT W M l bs → Calls Tryd.prog 49 #[.pointer (some ⟨M, 0, none⟩)] W fun e w' => e = .returned (.int .i64 ((l.length : Int) + 1)) ∧ W = w') := Bx.mk fun W hb => next_any M l bs W hb (by omega)
  obtain ⟨v, hK⟩ := KM.start hm
  have HK0 := Bx.mk hK
  obtain ⟨-, -, p, hp1, -⟩ := hm.parts
  obtain ⟨p, rfl⟩ : ∃ p, v = .pointer (some ⟨p, 0, none⟩) := by
    obtain ⟨ms, hr, hcc, hk⟩ := hK.row
    obtain ⟨p, s, hv, -, -⟩ := hk w (kb_refl _ _)
    exact ⟨p, hv⟩
  obtain ⟨ai, capi, rfl, -⟩ := hv
  have HMk : Bx (∀ W, w.grownBy W (some M) → Calls Tryd.prog 12 #[.pointer (some ⟨p, 0, none⟩), clV ⟨i, (mkN ns : Int), x, (l.length : Int) + 1⟩] W fun e w' => e = .returned (.tuple #[tkV c0 z32, .int .i64 10]) ∧ Below W.heap.size W w') := Bx.mk fun W hb => mk_bad _ _ W hc
  clear hm hf hl ha hc hK hp1
  obtain ⟨m, hm⟩ : ∃ m, (mkN ns : Int) = m := ⟨_, rfl⟩
  obtain ⟨q, hq⟩ : ∃ q, (l.length : Int) + 1 = q := ⟨_, rfl⟩
  rw [hm, hq] at HMk
  rw [hm] at HMask
  rw [hq] at HNext
  clear hm hq
  unfold NoTok tkV
  unfold tkV at HMk
  rw [hzc] at HMk ⊢
  have HI2 : Bx ((Tryd.prog.info? 39).map (·.size) = some zc.size ∧ zc.all (·.oneCell') = true) := Bx.mk ⟨HM1.out.1, HM1.out.2⟩
  unfold clV at HMk
  clear hzc
  obtain ⟨B, hB⟩ : ∃ B, w.heap.size = B := ⟨_, rfl⟩
  have H0 := Bx.mk (And.intro (HK0.out.new (.cells zc 39)) (below_a (W := w) (.cells zc 39)))
  have HB := Bx.mk hB
  rw [hB] at H0 HMask
  rw [hB]
  go_enter Tryd.func32, Tryd.ntmps32
  go_wp2_with fail
  generalize w.alloc (.cells zc 39) = w0 at *
  refine (HMask.out w0 H0.out.2).mono ?_
  rintro e w1 ⟨rfl, rfl⟩
  go_wp2_with fail
  refine (HFull.out w1 H0.out.1.mt).mono ?_
  rintro e w2 ⟨rfl, rfl⟩
  go_upto_region 8 with fail
  have B0 := Bx.mk (And.intro H0.out.1.drew H0.out.2.drew)
  clear H0
  refine wp_region_noPanic ?_
  refine wp_region_held_drew (S := fun W => W.cell? ⟨M, 1025, none⟩ = some (.pointer (some ⟨p, 0, none⟩))) (by kernel_rfl) (B0.out.1.cellK) (fun hHeld => ?_)
  generalize w1.drew = W0 at *
  refine takeL 0 (v := ?_) rfl (by kernel_rfl) (by kernel_rfl) (by kernel_rfl) (fun _ _ _ h => h) (Or.inl ⟨by rfl, ?_⟩) hHeld ?_
  rotate_left 1
  · (intro w hSw; go_simp; try with_reducible rfl)
  try simp only [Act.put, List.setIfInBounds_toArray, List.set_cons_zero, List.set_cons_succ]
  refine takeL 1 (v := ?_) rfl (by kernel_rfl) (by kernel_rfl) (by kernel_rfl) (fun _ _ _ h => h) (Or.inl ⟨by rfl, ?_⟩) hHeld ?_
  rotate_left 1
  · (intro w hSw; go_simp; try with_reducible rfl)
  try simp only [Act.put, List.setIfInBounds_toArray, List.set_cons_zero, List.set_cons_succ]
  refine takeL 2 (v := ?_) rfl (by kernel_rfl) (by kernel_rfl) (by kernel_rfl) (fun _ _ _ h => h) (Or.inl ⟨by rfl, ?_⟩) hHeld ?_
  rotate_left 1
  · (intro w hSw; go_simp; try with_reducible rfl)
  try simp only [Act.put, List.setIfInBounds_toArray, List.set_cons_zero, List.set_cons_succ]
  refine takeL 3 (v := ?_) rfl (by kernel_rfl) (by kernel_rfl) (by kernel_rfl) (fun _ _ _ h => h) (Or.inl ⟨by rfl, ?_⟩) hHeld ?_
  rotate_left 1
  · (intro w hSw; have c0 : w.cell? ⟨M, 1025, none⟩ = some (.pointer (some ⟨p, 0, none⟩)) := hSw; go_simp; try with_reducible rfl)
  try simp only [Act.put, List.setIfInBounds_toArray, List.set_cons_zero, List.set_cons_succ]
  refine takeL 4 (v := ?_) rfl (by kernel_rfl) (by kernel_rfl) (by kernel_rfl) (fun _ _ _ h => h) (Or.inl ⟨by rfl, ?_⟩) hHeld ?_
  rotate_left 1
  · (intro w hSw; go_simp; try with_reducible rfl)
  try simp only [Act.put, List.setIfInBounds_toArray, List.set_cons_zero, List.set_cons_succ]
  refine takeL 5 (v := ?_) rfl (by kernel_rfl) (by kernel_rfl) (by kernel_rfl) (fun _ _ _ h => h) (Or.inl ⟨by rfl, ?_⟩) hHeld ?_
  rotate_left 1
  · (intro w hSw; go_simp; try with_reducible rfl)
  try simp only [Act.put, List.setIfInBounds_toArray, List.set_cons_zero, List.set_cons_succ]
  refine takeL 6 (v := ?_) rfl (by kernel_rfl) (by kernel_rfl) (by kernel_rfl) (fun _ _ _ h => h) (Or.inl ⟨by rfl, ?_⟩) hHeld ?_
  rotate_left 1
  · (intro w hSw; go_simp; try with_reducible rfl)
  try simp only [Act.put, List.setIfInBounds_toArray, List.set_cons_zero, List.set_cons_succ]
  refine takeL 7 (v := ?_) rfl (by kernel_rfl) (by kernel_rfl) (by kernel_rfl) (fun _ _ _ h => h) (Or.inl ⟨by rfl, ?_⟩) hHeld ?_
  rotate_left 1
  · (intro w hSw; go_simp; try with_reducible rfl)
  try simp only [Act.put, List.setIfInBounds_toArray, List.set_cons_zero, List.set_cons_succ]
  refine takeL 8 (v := ?_) rfl (by kernel_rfl) (by kernel_rfl) (by kernel_rfl) (fun _ _ _ h => h) (Or.inl ⟨by rfl, ?_⟩) hHeld ?_
  rotate_left 1
  · (intro w hSw; go_simp; try with_reducible rfl)
  try simp only [Act.put, List.setIfInBounds_toArray, List.set_cons_zero, List.set_cons_succ]
  refine takeL 9 (v := ?_) rfl (by kernel_rfl) (by kernel_rfl) (by kernel_rfl) (fun _ _ _ h => h) (Or.inl ⟨by rfl, ?_⟩) hHeld ?_
  rotate_left 1
  · (intro w hSw; go_simp; try with_reducible rfl)
  try simp only [Act.put, List.setIfInBounds_toArray, List.set_cons_zero, List.set_cons_succ]
  refine wpAnyH_ready (rs := [10, 16]) (by kernel_rfl) (by simp) ?_
  refine consM 10 rfl (fun K hK => ?_) (consM 16 rfl (fun K hK => ?_) AllReadyH.nil)
  · go_simp
    refine (HNext.out W0 B0.out.1.mt).mono ?_
    rintro e W' ⟨rfl, rfl⟩
    show K _ _
    refine hK.out _ _ B0.out.1.cellK (fun hHeld => ?_)
    clear hK K
    try simp only [Act.put, List.setIfInBounds_toArray, List.set_cons_zero, List.set_cons_succ]
    refine takeL 11 (v := ?_) rfl (by kernel_rfl) (by kernel_rfl) (by kernel_rfl) (fun _ _ _ h => h) (Or.inl ⟨by rfl, ?_⟩) hHeld ?_
    rotate_left 1
    · (intro w hSw; go_simp; try with_reducible rfl)
    try simp only [Act.put, List.setIfInBounds_toArray, List.set_cons_zero, List.set_cons_succ]
    refine wpAnyH_ready (rs := [12, 16]) (by kernel_rfl) (by simp) ?_
    refine consM 12 rfl (fun K hK => ?_) (consM 16 rfl (fun K hK => ?_) AllReadyH.nil)
    · go_simp
      refine (HMk.out W0 B0.out.1.grown).mono ?_
      rintro e W1 ⟨rfl, hb1⟩
      show K _ _
      have B1 := Bx.mk (And.intro (B0.out.1.later hb1) (B0.out.2.trans (hb1.mono (Nat.le_trans (Nat.le_of_eq HB.out.symm) B0.out.2.size))))
      clear hb1 B0
      refine hK.out _ _ B1.out.1.cellK (fun hHeld => ?_)
      clear hK K
      try simp only [Act.put, List.setIfInBounds_toArray, List.set_cons_zero, List.set_cons_succ]
      refine takeL 13 (v := ?_) rfl (by kernel_rfl) (by kernel_rfl) (by kernel_rfl) (fun _ _ _ h => h) (Or.inl ⟨by rfl, ?_⟩) hHeld ?_
      rotate_left 1
      · (intro w hSw; go_simp; try with_reducible rfl)
      try simp only [Act.put, List.setIfInBounds_toArray, List.set_cons_zero, List.set_cons_succ]
      refine takeL 14 (v := ?_) rfl (by kernel_rfl) (by kernel_rfl) (by kernel_rfl) (fun _ _ _ h => h) (Or.inl ⟨by rfl, ?_⟩) hHeld ?_
      rotate_left 1
      · (intro w hSw; go_simp; try with_reducible rfl)
      try simp only [Act.put, List.setIfInBounds_toArray, List.set_cons_zero, List.set_cons_succ]
      refine takeL 15 (v := ?_) rfl (by kernel_rfl) (by kernel_rfl) (by kernel_rfl) (fun _ _ _ h => h) (Or.inl ⟨by rfl, ?_⟩) hHeld ?_
      rotate_left 1
      · (intro w hSw; go_simp; try with_reducible rfl)
      try simp only [Act.put, List.setIfInBounds_toArray, List.set_cons_zero, List.set_cons_succ]
      refine stepL 16 (by kernel_rfl) rfl (fun K hK => ?_)
      go_simp
      show K _ _
      have HDB : Bx (B < W1.heap.size) := Bx.mk (B1.out.1.blt (.head _))
      have B2 := Bx.mk (And.intro (B1.out.1.new (.cells zc 39)) (B1.out.2.alloc (Nat.le_trans (Nat.le_of_eq HB.out.symm) B1.out.2.size) (.cells zc 39)))
      clear B1
      generalize W1.alloc (.cells zc 39) = W2 at *
      generalize W1.heap.size = D at *
      refine hK.out _ _ B2.out.1.cellK (fun hHeld => ?_)
      clear hK K
      try simp only [Act.put, List.setIfInBounds_toArray, List.set_cons_zero, List.set_cons_succ]
      refine stepL 17 (by kernel_rfl) rfl (fun K hK => ?_)
      refine step_st rfl 39 _ _ rfl D zc (by rfl) (by rfl) (there_row (B2.out.1.rows _ (.head _)).1 0 _ (by omega)) HI2.out.1 HI2.out.2 ?_
      have hr2 := heap_setCells_all (ds := zc) (B2.out.1.rows _ (.head _)).1 rfl
      have B3 : Bx ((KM w M [(D, .cells zc 39), (B, .cells zc 39)] l (.pointer (some ⟨p, 0, none⟩)) bs (W2.setCells D 0 zc.toList)) ∧ Below B w (W2.setCells D 0 zc.toList)) := Bx.mk (And.intro (B2.out.1.set (kb_setCells _ _ _) hr2 (by intro y hy; have h1 := HDB.out; simp at hy; rcases hy with rfl; simp only; omega)) (below_setCells (by have h1 := HDB.out; omega) _ _ _ _ B2.out.2))
      clear hr2 B2
      refine hK.out _ _ B3.out.1.cellK (fun hHeld => ?_)
      clear hK K
      try simp only [Act.put]
      generalize W2.setCells D 0 zc.toList = W3 at *
      refine takeL 18 (v := ?_) rfl (by kernel_rfl) (by kernel_rfl) (by kernel_rfl) (fun _ _ _ h => h) (Or.inl ⟨by rfl, ?_⟩) hHeld ?_
      rotate_left 1
      · (intro w hSw; go_simp; try with_reducible rfl)
      try simp only [Act.put, List.setIfInBounds_toArray, List.set_cons_zero, List.set_cons_succ]
      refine wpAnyH_done (by kernel_rfl) ?_ _
      refine NoPanic.normal ?_
      clear hHeld
      go_wp2_with (first | (refine wpList_buildTo rfl 39 _ rfl _ rfl zc hbz ?_) | (refine wpList_store_new rfl 39 _ _ rfl B zc zc _ (by rfl) (by rfl) (B3.out.1.rows _ (.tail _ (.head _))).1 rfl HM1.out.1 HM1.out.2 ?_; intro w8 hw8 hr8; have hg8 := Bx.mk (kb_of hw8); have HR8 := Bx.mk hr8; clear hw8 hr8))
      refine bodyPost_ret (results_pair rfl _ _ _ B _ rfl (run_loadVar_row _ B _ _ _ _ _ HR8.out Tryd.underlying39 rfl HM1.out.1)) rfl ?_
      exact ⟨rfl, B3.out.2.trans (grown_below hg8.out (by omega) (Nat.le_trans (Nat.le_of_eq HB.out.symm) B3.out.2.size))⟩
    · go_simp
      show K _ _
      have HDB : Bx (B < W0.heap.size) := Bx.mk (B0.out.1.blt (.head _))
      have B1 := Bx.mk (And.intro (B0.out.1.new (.cells zc 39)) (B0.out.2.alloc (Nat.le_trans (Nat.le_of_eq HB.out.symm) B0.out.2.size) (.cells zc 39)))
      clear B0
      generalize W0.alloc (.cells zc 39) = W1 at *
      generalize W0.heap.size = D at *
      refine hK.out _ _ B1.out.1.cellK (fun hHeld => ?_)
      clear hK K
      try simp only [Act.put, List.setIfInBounds_toArray, List.set_cons_zero, List.set_cons_succ]
      refine stepL 12 (by kernel_rfl) rfl (fun K hK => ?_)
      go_simp
      refine (HMk.out W1 B1.out.1.grown).mono ?_
      rintro e W2 ⟨rfl, hb1⟩
      show K _ _
      have B2 := Bx.mk (And.intro (B1.out.1.later hb1) (B1.out.2.trans (hb1.mono (Nat.le_trans (Nat.le_of_eq HB.out.symm) B1.out.2.size))))
      clear hb1 B1
      refine hK.out _ _ B2.out.1.cellK (fun hHeld => ?_)
      clear hK K
      try simp only [Act.put, List.setIfInBounds_toArray, List.set_cons_zero, List.set_cons_succ]
      refine takeL 13 (v := ?_) rfl (by kernel_rfl) (by kernel_rfl) (by kernel_rfl) (fun _ _ _ h => h) (Or.inl ⟨by rfl, ?_⟩) hHeld ?_
      rotate_left 1
      · (intro w hSw; go_simp; try with_reducible rfl)
      try simp only [Act.put, List.setIfInBounds_toArray, List.set_cons_zero, List.set_cons_succ]
      refine takeL 14 (v := ?_) rfl (by kernel_rfl) (by kernel_rfl) (by kernel_rfl) (fun _ _ _ h => h) (Or.inl ⟨by rfl, ?_⟩) hHeld ?_
      rotate_left 1
      · (intro w hSw; go_simp; try with_reducible rfl)
      try simp only [Act.put, List.setIfInBounds_toArray, List.set_cons_zero, List.set_cons_succ]
      refine takeL 15 (v := ?_) rfl (by kernel_rfl) (by kernel_rfl) (by kernel_rfl) (fun _ _ _ h => h) (Or.inl ⟨by rfl, ?_⟩) hHeld ?_
      rotate_left 1
      · (intro w hSw; go_simp; try with_reducible rfl)
      try simp only [Act.put, List.setIfInBounds_toArray, List.set_cons_zero, List.set_cons_succ]
      refine stepL 17 (by kernel_rfl) rfl (fun K hK => ?_)
      refine step_st rfl 39 _ _ rfl D zc (by rfl) (by rfl) (there_row (B2.out.1.rows _ (.head _)).1 0 _ (by omega)) HI2.out.1 HI2.out.2 ?_
      have hr2 := heap_setCells_all (ds := zc) (B2.out.1.rows _ (.head _)).1 rfl
      have B3 : Bx ((KM w M [(D, .cells zc 39), (B, .cells zc 39)] l (.pointer (some ⟨p, 0, none⟩)) bs (W2.setCells D 0 zc.toList)) ∧ Below B w (W2.setCells D 0 zc.toList)) := Bx.mk (And.intro (B2.out.1.set (kb_setCells _ _ _) hr2 (by intro y hy; have h1 := HDB.out; simp at hy; rcases hy with rfl; simp only; omega)) (below_setCells (by have h1 := HDB.out; omega) _ _ _ _ B2.out.2))
      clear hr2 B2
      refine hK.out _ _ B3.out.1.cellK (fun hHeld => ?_)
      clear hK K
      try simp only [Act.put]
      generalize W2.setCells D 0 zc.toList = W3 at *
      refine takeL 18 (v := ?_) rfl (by kernel_rfl) (by kernel_rfl) (by kernel_rfl) (fun _ _ _ h => h) (Or.inl ⟨by rfl, ?_⟩) hHeld ?_
      rotate_left 1
      · (intro w hSw; go_simp; try with_reducible rfl)
      try simp only [Act.put, List.setIfInBounds_toArray, List.set_cons_zero, List.set_cons_succ]
      refine wpAnyH_done (by kernel_rfl) ?_ _
      refine NoPanic.normal ?_
      clear hHeld
      go_wp2_with (first | (refine wpList_buildTo rfl 39 _ rfl _ rfl zc hbz ?_) | (refine wpList_store_new rfl 39 _ _ rfl B zc zc _ (by rfl) (by rfl) (B3.out.1.rows _ (.tail _ (.head _))).1 rfl HM1.out.1 HM1.out.2 ?_; intro w8 hw8 hr8; have hg8 := Bx.mk (kb_of hw8); have HR8 := Bx.mk hr8; clear hw8 hr8))
      refine bodyPost_ret (results_pair rfl _ _ _ B _ rfl (run_loadVar_row _ B _ _ _ _ _ HR8.out Tryd.underlying39 rfl HM1.out.1)) rfl ?_
      exact ⟨rfl, B3.out.2.trans (grown_below hg8.out (by omega) (Nat.le_trans (Nat.le_of_eq HB.out.symm) B3.out.2.size))⟩
  · go_simp
    show K _ _
    have HDB : Bx (B < W0.heap.size) := Bx.mk (B0.out.1.blt (.head _))
    have B1 := Bx.mk (And.intro (B0.out.1.new (.cells zc 39)) (B0.out.2.alloc (Nat.le_trans (Nat.le_of_eq HB.out.symm) B0.out.2.size) (.cells zc 39)))
    clear B0
    generalize W0.alloc (.cells zc 39) = W1 at *
    generalize W0.heap.size = D at *
    refine hK.out _ _ B1.out.1.cellK (fun hHeld => ?_)
    clear hK K
    try simp only [Act.put, List.setIfInBounds_toArray, List.set_cons_zero, List.set_cons_succ]
    refine stepL 10 (by kernel_rfl) rfl (fun K hK => ?_)
    go_simp
    refine (HNext.out W1 B1.out.1.mt).mono ?_
    rintro e W' ⟨rfl, rfl⟩
    show K _ _
    refine hK.out _ _ B1.out.1.cellK (fun hHeld => ?_)
    clear hK K
    try simp only [Act.put, List.setIfInBounds_toArray, List.set_cons_zero, List.set_cons_succ]
    refine takeL 11 (v := ?_) rfl (by kernel_rfl) (by kernel_rfl) (by kernel_rfl) (fun _ _ _ h => h) (Or.inl ⟨by rfl, ?_⟩) hHeld ?_
    rotate_left 1
    · (intro w hSw; go_simp; try with_reducible rfl)
    try simp only [Act.put, List.setIfInBounds_toArray, List.set_cons_zero, List.set_cons_succ]
    refine stepL 12 (by kernel_rfl) rfl (fun K hK => ?_)
    go_simp
    refine (HMk.out W1 B1.out.1.grown).mono ?_
    rintro e W2 ⟨rfl, hb1⟩
    show K _ _
    have B2 := Bx.mk (And.intro (B1.out.1.later hb1) (B1.out.2.trans (hb1.mono (Nat.le_trans (Nat.le_of_eq HB.out.symm) B1.out.2.size))))
    clear hb1 B1
    refine hK.out _ _ B2.out.1.cellK (fun hHeld => ?_)
    clear hK K
    try simp only [Act.put, List.setIfInBounds_toArray, List.set_cons_zero, List.set_cons_succ]
    refine takeL 13 (v := ?_) rfl (by kernel_rfl) (by kernel_rfl) (by kernel_rfl) (fun _ _ _ h => h) (Or.inl ⟨by rfl, ?_⟩) hHeld ?_
    rotate_left 1
    · (intro w hSw; go_simp; try with_reducible rfl)
    try simp only [Act.put, List.setIfInBounds_toArray, List.set_cons_zero, List.set_cons_succ]
    refine takeL 14 (v := ?_) rfl (by kernel_rfl) (by kernel_rfl) (by kernel_rfl) (fun _ _ _ h => h) (Or.inl ⟨by rfl, ?_⟩) hHeld ?_
    rotate_left 1
    · (intro w hSw; go_simp; try with_reducible rfl)
    try simp only [Act.put, List.setIfInBounds_toArray, List.set_cons_zero, List.set_cons_succ]
    refine takeL 15 (v := ?_) rfl (by kernel_rfl) (by kernel_rfl) (by kernel_rfl) (fun _ _ _ h => h) (Or.inl ⟨by rfl, ?_⟩) hHeld ?_
    rotate_left 1
    · (intro w hSw; go_simp; try with_reducible rfl)
    try simp only [Act.put, List.setIfInBounds_toArray, List.set_cons_zero, List.set_cons_succ]
    refine stepL 17 (by kernel_rfl) rfl (fun K hK => ?_)
    refine step_st rfl 39 _ _ rfl D zc (by rfl) (by rfl) (there_row (B2.out.1.rows _ (.head _)).1 0 _ (by omega)) HI2.out.1 HI2.out.2 ?_
    have hr2 := heap_setCells_all (ds := zc) (B2.out.1.rows _ (.head _)).1 rfl
    have B3 : Bx ((KM w M [(D, .cells zc 39), (B, .cells zc 39)] l (.pointer (some ⟨p, 0, none⟩)) bs (W2.setCells D 0 zc.toList)) ∧ Below B w (W2.setCells D 0 zc.toList)) := Bx.mk (And.intro (B2.out.1.set (kb_setCells _ _ _) hr2 (by intro y hy; have h1 := HDB.out; simp at hy; rcases hy with rfl; simp only; omega)) (below_setCells (by have h1 := HDB.out; omega) _ _ _ _ B2.out.2))
    clear hr2 B2
    refine hK.out _ _ B3.out.1.cellK (fun hHeld => ?_)
    clear hK K
    try simp only [Act.put]
    generalize W2.setCells D 0 zc.toList = W3 at *
    refine takeL 18 (v := ?_) rfl (by kernel_rfl) (by kernel_rfl) (by kernel_rfl) (fun _ _ _ h => h) (Or.inl ⟨by rfl, ?_⟩) hHeld ?_
    rotate_left 1
    · (intro w hSw; go_simp; try with_reducible rfl)
    try simp only [Act.put, List.setIfInBounds_toArray, List.set_cons_zero, List.set_cons_succ]
    refine wpAnyH_done (by kernel_rfl) ?_ _
    refine NoPanic.normal ?_
    clear hHeld
    go_wp2_with (first | (refine wpList_buildTo rfl 39 _ rfl _ rfl zc hbz ?_) | (refine wpList_store_new rfl 39 _ _ rfl B zc zc _ (by rfl) (by rfl) (B3.out.1.rows _ (.tail _ (.head _))).1 rfl HM1.out.1 HM1.out.2 ?_; intro w8 hw8 hr8; have hg8 := Bx.mk (kb_of hw8); have HR8 := Bx.mk hr8; clear hw8 hr8))
    refine bodyPost_ret (results_pair rfl _ _ _ B _ rfl (run_loadVar_row _ B _ _ _ _ _ HR8.out Tryd.underlying39 rfl HM1.out.1)) rfl ?_
    exact ⟨rfl, B3.out.2.trans (grown_below hg8.out (by omega) (Nat.le_trans (Nat.le_of_eq HB.out.symm) B3.out.2.size))⟩
end Go.Proofs.YtiengbmnfbbgoaaDoor
namespace Go.Proofs.YtiengbmnfbbgoaaDoor
open Go Go.RowKit
set_option maxRecDepth 100000 in
set_option maxHeartbeats 2000000 in
theorem issue_ok (M : Nat) (l : List Cl) (bs : List UInt8) (i x : Int) (ns : List Int) (vr : Value) (w : World) (hm : MT w M l bs) (hf : l.length < 256) (hv : Ints w vr ns) (hl : ns.length ≤ 1000000) (ha : ns.all isR = true) (hc : okC ⟨i, (mkN ns : Int), x, (l.length : Int) + 1⟩ = true) (hl2 : bs.length ≤ 1000000) (hTab : Tab w) (hg : 0 < w.heap.size) (hgM : 0 ≠ M) :
    Calls Tryd.prog 32 #[.pointer (some ⟨M, 0, none⟩), .int .i64 i, .int .i64 x, vr] w (fun e w' => e = .returned (.tuple #[tkV ⟨i, (mkN ns : Int), x, (l.length : Int) + 1⟩ (secK bs ⟨i, (mkN ns : Int), x, (l.length : Int) + 1⟩), .int .i64 0]) ∧ Issued M l (l ++ [⟨i, (mkN ns : Int), x, (l.length : Int) + 1⟩]) w w') := by
  obtain ⟨zc, hzc⟩ : ∃ zc, tkC c0 z32 = zc := ⟨_, rfl⟩
  have hzv : ∀ W : World, (zeroValue 39).run Tryd.prog W = .ok (.agg zc) W := fun W => by rw [← hzc]; exact tk_zero W
  have hbz : Tryd.prog.built 39 [] = some zc := by rw [← hzc]; exact tk_none
  have HM1 : Bx ((Tryd.prog.info? 39).map (·.size) = some zc.size ∧ zc.all (·.oneCell') = true) := Bx.mk (by rw [← hzc]; exact ⟨tk_info _ _ rfl, tkC_one _ _⟩)
  have HMask := Bx.mk fun (W : World) (hb : Below w.heap.size w W) => mask_ok ns vr W (hv.later hb) hl ha
  have HFull : Bx (∀ W, MT W M l bs → Calls Tryd.prog 48 #[.pointer (some ⟨M, 0, none⟩)] W fun e w' => e = .returned (.bool false) ∧ W = w') := Bx.mk fun W hb => (full_any M l bs W hb (by omega)).mono fun _ _ ⟨h1, h2⟩ => ⟨by rw [h1, decide_eq_false (by omega)], h2⟩
  have HNext : Bx (∀ W, MT W M l bs → Calls Tryd.prog 49 #[.pointer (some ⟨M, 0, none⟩)] W fun e w' => e = .returned (.int .i64 ((l.length : Int) + 1)) ∧ W = w') := Bx.mk fun W hb => next_any M l bs W hb (by omega)
  obtain ⟨v, hK⟩ := KM.start hm
  have HK0 := Bx.mk hK
  obtain ⟨-, -, p, hp1, -⟩ := hm.parts
  obtain ⟨p, rfl⟩ : ∃ p, v = .pointer (some ⟨p, 0, none⟩) := by
    obtain ⟨ms, hr, hcc, hk⟩ := hK.row
    obtain ⟨p, s, hv, -, -⟩ := hk w (kb_refl _ _)
    exact ⟨p, hv⟩
  obtain ⟨ai, capi, rfl, -⟩ := hv
  have HAdd : Bx (∀ W, MT W M l bs → Calls Tryd.prog 50 #[.pointer (some ⟨M, 0, none⟩), clV ⟨i, (mkN ns : Int), x, (l.length : Int) + 1⟩] W fun e w' => e = .returned (.tuple #[]) ∧ Issued M l (l ++ [⟨i, (mkN ns : Int), x, (l.length : Int) + 1⟩]) W w') := Bx.mk fun W hb => madd_any M l bs _ W hb hf
  have HMk : Bx (∀ W, w.grownBy W (some M) → Calls Tryd.prog 12 #[.pointer (some ⟨p, 0, none⟩), clV ⟨i, (mkN ns : Int), x, (l.length : Int) + 1⟩] W fun e w' => e = .returned (.tuple #[tkV ⟨i, (mkN ns : Int), x, (l.length : Int) + 1⟩ (secK bs ⟨i, (mkN ns : Int), x, (l.length : Int) + 1⟩), .int .i64 0]) ∧ Below W.heap.size W w') := Bx.mk fun W hb => by
    obtain ⟨ms, hr, hcc, hk⟩ := hK.row
    exact mk_ok bs _ _ W (hk W hb) hl2 hc (hTab.grown hb hg hgM) (Nat.lt_of_lt_of_le hg hb.size)
  clear hTab hg hgM hl2
  clear hm hf hl ha hc hK hp1
  obtain ⟨m, hm⟩ : ∃ m, (mkN ns : Int) = m := ⟨_, rfl⟩
  obtain ⟨q, hq⟩ : ∃ q, (l.length : Int) + 1 = q := ⟨_, rfl⟩
  rw [hm, hq] at HMk HAdd ⊢
  rw [hm] at HMask
  rw [hq] at HNext
  clear hm hq
  have HS1 : Bx ((secK bs ⟨i, m, x, q⟩).length = 32) := Bx.mk (secK_length _ _)
  generalize secK bs ⟨i, m, x, q⟩ = k1 at *
  have HC : Bx (∀ (W : World) (D : Nat) (t : TypeId), W.heap[D]? = some (.cells (tkC ⟨i, m, x, q⟩ k1) t (0, 0)) → W.rangeAt D 0 [.int .i64 i, .int .i64 m, .int .i64 x, .int .i64 q]) := Bx.mk fun W D t h => tk_cl h
  have HI2 : Bx ((Tryd.prog.info? 39).map (·.size) = some (tkC ⟨i, m, x, q⟩ k1).size ∧ (tkC ⟨i, m, x, q⟩ k1).all (·.oneCell') = true ∧ (tkC ⟨i, m, x, q⟩ k1).size = zc.size) := Bx.mk ⟨tk_info _ _ HS1.out, tkC_one _ _, by rw [← hzc, tkC_size _ _ HS1.out, tkC_size _ _ rfl]⟩
  unfold tkV at *
  obtain ⟨kk, hkk⟩ : ∃ kk, tkC ⟨i, m, x, q⟩ k1 = kk := ⟨_, rfl⟩
  rw [hkk] at HMk HI2 HC ⊢
  unfold clV at HMk HAdd
  clear hzc hkk
  obtain ⟨B, hB⟩ : ∃ B, w.heap.size = B := ⟨_, rfl⟩
  have H0 := Bx.mk (And.intro (HK0.out.new (.cells zc 39)) (below_a (W := w) (.cells zc 39)))
  have HB := Bx.mk hB
  rw [hB] at H0 HMask
  go_enter Tryd.func32, Tryd.ntmps32
  go_wp2_with fail
  generalize w.alloc (.cells zc 39) = w0 at *
  refine (HMask.out w0 H0.out.2).mono ?_
  rintro e w1 ⟨rfl, rfl⟩
  go_wp2_with fail
  refine (HFull.out w1 H0.out.1.mt).mono ?_
  rintro e w2 ⟨rfl, rfl⟩
  go_upto_region 8 with fail
  have B0 := Bx.mk H0.out.1.drew
  clear H0
  refine wp_region_noPanic ?_
  refine wp_region_held_drew (S := fun W => W.cell? ⟨M, 1025, none⟩ = some (.pointer (some ⟨p, 0, none⟩))) (by kernel_rfl) (B0.out.cellK) (fun hHeld => ?_)
  generalize w1.drew = W0 at *
  refine takeL 0 (v := ?_) rfl (by kernel_rfl) (by kernel_rfl) (by kernel_rfl) (fun _ _ _ h => h) (Or.inl ⟨by rfl, ?_⟩) hHeld ?_
  rotate_left 1
  · (intro w hSw; go_simp; try with_reducible rfl)
  try simp only [Act.put, List.setIfInBounds_toArray, List.set_cons_zero, List.set_cons_succ]
  refine takeL 1 (v := ?_) rfl (by kernel_rfl) (by kernel_rfl) (by kernel_rfl) (fun _ _ _ h => h) (Or.inl ⟨by rfl, ?_⟩) hHeld ?_
  rotate_left 1
  · (intro w hSw; go_simp; try with_reducible rfl)
  try simp only [Act.put, List.setIfInBounds_toArray, List.set_cons_zero, List.set_cons_succ]
  refine takeL 2 (v := ?_) rfl (by kernel_rfl) (by kernel_rfl) (by kernel_rfl) (fun _ _ _ h => h) (Or.inl ⟨by rfl, ?_⟩) hHeld ?_
  rotate_left 1
  · (intro w hSw; go_simp; try with_reducible rfl)
  try simp only [Act.put, List.setIfInBounds_toArray, List.set_cons_zero, List.set_cons_succ]
  refine takeL 3 (v := ?_) rfl (by kernel_rfl) (by kernel_rfl) (by kernel_rfl) (fun _ _ _ h => h) (Or.inl ⟨by rfl, ?_⟩) hHeld ?_
  rotate_left 1
  · (intro w hSw; have c0 : w.cell? ⟨M, 1025, none⟩ = some (.pointer (some ⟨p, 0, none⟩)) := hSw; go_simp; try with_reducible rfl)
  try simp only [Act.put, List.setIfInBounds_toArray, List.set_cons_zero, List.set_cons_succ]
  refine takeL 4 (v := ?_) rfl (by kernel_rfl) (by kernel_rfl) (by kernel_rfl) (fun _ _ _ h => h) (Or.inl ⟨by rfl, ?_⟩) hHeld ?_
  rotate_left 1
  · (intro w hSw; go_simp; try with_reducible rfl)
  try simp only [Act.put, List.setIfInBounds_toArray, List.set_cons_zero, List.set_cons_succ]
  refine takeL 5 (v := ?_) rfl (by kernel_rfl) (by kernel_rfl) (by kernel_rfl) (fun _ _ _ h => h) (Or.inl ⟨by rfl, ?_⟩) hHeld ?_
  rotate_left 1
  · (intro w hSw; go_simp; try with_reducible rfl)
  try simp only [Act.put, List.setIfInBounds_toArray, List.set_cons_zero, List.set_cons_succ]
  refine takeL 6 (v := ?_) rfl (by kernel_rfl) (by kernel_rfl) (by kernel_rfl) (fun _ _ _ h => h) (Or.inl ⟨by rfl, ?_⟩) hHeld ?_
  rotate_left 1
  · (intro w hSw; go_simp; try with_reducible rfl)
  try simp only [Act.put, List.setIfInBounds_toArray, List.set_cons_zero, List.set_cons_succ]
  refine takeL 7 (v := ?_) rfl (by kernel_rfl) (by kernel_rfl) (by kernel_rfl) (fun _ _ _ h => h) (Or.inl ⟨by rfl, ?_⟩) hHeld ?_
  rotate_left 1
  · (intro w hSw; go_simp; try with_reducible rfl)
  try simp only [Act.put, List.setIfInBounds_toArray, List.set_cons_zero, List.set_cons_succ]
  refine takeL 8 (v := ?_) rfl (by kernel_rfl) (by kernel_rfl) (by kernel_rfl) (fun _ _ _ h => h) (Or.inl ⟨by rfl, ?_⟩) hHeld ?_
  rotate_left 1
  · (intro w hSw; go_simp; try with_reducible rfl)
  try simp only [Act.put, List.setIfInBounds_toArray, List.set_cons_zero, List.set_cons_succ]
  refine takeL 9 (v := ?_) rfl (by kernel_rfl) (by kernel_rfl) (by kernel_rfl) (fun _ _ _ h => h) (Or.inl ⟨by rfl, ?_⟩) hHeld ?_
  rotate_left 1
  · (intro w hSw; go_simp; try with_reducible rfl)
  try simp only [Act.put, List.setIfInBounds_toArray, List.set_cons_zero, List.set_cons_succ]
  refine wpAnyH_ready (rs := [10, 16]) (by kernel_rfl) (by simp) ?_
  refine consM 10 rfl (fun K hK => ?_) (consM 16 rfl (fun K hK => ?_) AllReadyH.nil)
  · go_simp
    refine (HNext.out W0 B0.out.mt).mono ?_
    rintro e W' ⟨rfl, rfl⟩
    show K _ _
    refine hK.out _ _ B0.out.cellK (fun hHeld => ?_)
    clear hK K
    try simp only [Act.put, List.setIfInBounds_toArray, List.set_cons_zero, List.set_cons_succ]
    refine takeL 11 (v := ?_) rfl (by kernel_rfl) (by kernel_rfl) (by kernel_rfl) (fun _ _ _ h => h) (Or.inl ⟨by rfl, ?_⟩) hHeld ?_
    rotate_left 1
    · (intro w hSw; go_simp; try with_reducible rfl)
    try simp only [Act.put, List.setIfInBounds_toArray, List.set_cons_zero, List.set_cons_succ]
    refine wpAnyH_ready (rs := [12, 16]) (by kernel_rfl) (by simp) ?_
    refine consM 12 rfl (fun K hK => ?_) (consM 16 rfl (fun K hK => ?_) AllReadyH.nil)
    · go_simp
      refine (HMk.out W0 B0.out.grown).mono ?_
      rintro e W1 ⟨rfl, hb1⟩
      show K _ _
      have B1 := Bx.mk (B0.out.later hb1)
      clear hb1 B0
      refine hK.out _ _ B1.out.cellK (fun hHeld => ?_)
      clear hK K
      try simp only [Act.put, List.setIfInBounds_toArray, List.set_cons_zero, List.set_cons_succ]
      refine takeL 13 (v := ?_) rfl (by kernel_rfl) (by kernel_rfl) (by kernel_rfl) (fun _ _ _ h => h) (Or.inl ⟨by rfl, ?_⟩) hHeld ?_
      rotate_left 1
      · (intro w hSw; go_simp; try with_reducible rfl)
      try simp only [Act.put, List.setIfInBounds_toArray, List.set_cons_zero, List.set_cons_succ]
      refine takeL 14 (v := ?_) rfl (by kernel_rfl) (by kernel_rfl) (by kernel_rfl) (fun _ _ _ h => h) (Or.inl ⟨by rfl, ?_⟩) hHeld ?_
      rotate_left 1
      · (intro w hSw; go_simp; try with_reducible rfl)
      try simp only [Act.put, List.setIfInBounds_toArray, List.set_cons_zero, List.set_cons_succ]
      refine takeL 15 (v := ?_) rfl (by kernel_rfl) (by kernel_rfl) (by kernel_rfl) (fun _ _ _ h => h) (Or.inl ⟨by rfl, ?_⟩) hHeld ?_
      rotate_left 1
      · (intro w hSw; go_simp; try with_reducible rfl)
      try simp only [Act.put, List.setIfInBounds_toArray, List.set_cons_zero, List.set_cons_succ]
      refine stepL 16 (by kernel_rfl) rfl (fun K hK => ?_)
      go_simp
      show K _ _
      have HDB : Bx (B < W1.heap.size) := Bx.mk (B1.out.blt (.head _))
      have B2 := Bx.mk (B1.out.new (.cells zc 39))
      clear B1
      generalize W1.alloc (.cells zc 39) = W2 at *
      generalize W1.heap.size = D at *
      refine hK.out _ _ B2.out.cellK (fun hHeld => ?_)
      clear hK K
      try simp only [Act.put, List.setIfInBounds_toArray, List.set_cons_zero, List.set_cons_succ]
      refine stepL 17 (by kernel_rfl) rfl (fun K hK => ?_)
      refine step_st rfl 39 _ _ rfl D kk (by rfl) (by rfl) (there_row (B2.out.rows _ (.head _)).1 0 _ (by rw [HI2.out.2.2]; omega)) HI2.out.1 HI2.out.2.1 ?_
      have hr2 := heap_setCells_all (ds := kk) (B2.out.rows _ (.head _)).1 HI2.out.2.2
      have B3 : Bx (KM w M [(D, .cells kk 39), (B, .cells zc 39)] l (.pointer (some ⟨p, 0, none⟩)) bs (W2.setCells D 0 kk.toList)) := Bx.mk (B2.out.set (kb_setCells _ _ _) hr2 (by intro y hy; have h1 := HDB.out; simp at hy; rcases hy with rfl; simp only; omega))
      clear hr2 B2
      refine hK.out _ _ B3.out.cellK (fun hHeld => ?_)
      clear hK K
      try simp only [Act.put]
      generalize W2.setCells D 0 kk.toList = W3 at *
      refine takeL 18 (v := ?_) rfl (by kernel_rfl) (by kernel_rfl) (by kernel_rfl) (fun _ _ _ h => h) (Or.inl ⟨by rfl, ?_⟩) hHeld ?_
      rotate_left 1
      · (intro w hSw; go_simp; try with_reducible rfl)
      try simp only [Act.put, List.setIfInBounds_toArray, List.set_cons_zero, List.set_cons_succ]
      refine wpAnyH_done (by kernel_rfl) ?_ _
      refine NoPanic.normal ?_
      clear hHeld
      go_upto_region 11 with fail
      have R0 := Bx.mk B3.out.drew
      clear B3
      refine wp_region_noPanic ?_
      refine wp_region_held_drew (S := fun W => W.rangeAt D 0 [.int .i64 i, .int .i64 m, .int .i64 x, .int .i64 q]) (by kernel_rfl) (HC.out _ _ _ (R0.out.rows _ (.head _)).1) (fun hHeld => ?_)
      generalize W3.drew = V0 at *
      refine takeL 0 (v := ?_) rfl (by kernel_rfl) (by kernel_rfl) (by kernel_rfl) (fun _ _ _ h => h) (Or.inl ⟨by rfl, ?_⟩) hHeld ?_
      rotate_left 1
      · (intro w hSw; go_simp; try with_reducible rfl)
      try simp only [Act.put, List.setIfInBounds_toArray, List.set_cons_zero, List.set_cons_succ]
      refine takeL 1 (v := ?_) rfl (by kernel_rfl) (by kernel_rfl) (by kernel_rfl) (fun _ _ _ h => h) (Or.inl ⟨by rfl, ?_⟩) hHeld ?_
      rotate_left 1
      · (intro w hSw; go_simp; try with_reducible rfl)
      try simp only [Act.put, List.setIfInBounds_toArray, List.set_cons_zero, List.set_cons_succ]
      refine takeL 2 (v := ?_) rfl (by kernel_rfl) (by kernel_rfl) (by kernel_rfl) (fun _ _ _ h => h) (Or.inl ⟨by rfl, ?_⟩) hHeld ?_
      rotate_left 1
      · (intro w hSw; go_simp; try with_reducible rfl)
      try simp only [Act.put, List.setIfInBounds_toArray, List.set_cons_zero, List.set_cons_succ]
      refine takeL 3 (v := ?_) rfl (by kernel_rfl) (by kernel_rfl) (by kernel_rfl) (fun _ _ _ h => h) (Or.inl ⟨by rfl, ?_⟩) hHeld ?_
      rotate_left 1
      · (intro w hSw; go_simp; try with_reducible rfl)
      try simp only [Act.put, List.setIfInBounds_toArray, List.set_cons_zero, List.set_cons_succ]
      refine takeL 4 rfl (by kernel_rfl) (by kernel_rfl) (by kernel_rfl) (fun _ _ _ h => h) (yieldsIf_load_mid (by rfl) _ _ rfl _ _ rfl _ _ (fun w hSw => hSw) Tryd.underlying36 rfl (by kernel_rfl)) hHeld ?_
      try simp only [Act.put, List.setIfInBounds_toArray, List.set_cons_zero, List.set_cons_succ]
      refine stepL 5 (by kernel_rfl) rfl (fun K hK => ?_)
      go_simp
      refine (HAdd.out V0 R0.out.mt).mono ?_
      rintro e V1 ⟨rfl, hi1⟩
      show K _ _
      have R1 := Bx.mk (R0.out.minted hi1)
      clear hi1 R0
      refine hK.out _ _ (HC.out _ _ _ (R1.out.rows _ (.head _)).1) (fun hHeld => ?_)
      clear hK K
      try simp only [Act.put, List.setIfInBounds_toArray, List.set_cons_zero, List.set_cons_succ]
      refine wpAnyH_done (by kernel_rfl) ?_ _
      refine NoPanic.normal ?_
      clear hHeld
      go_wp2_with (first | (refine wpList_load_row rfl 39 _ rfl D (by rfl) _ _ _ _ (R1.out.rows _ (.head _)).1 Tryd.underlying39 rfl HI2.out.1 ?_) | (refine wpList_store_new rfl 39 _ _ rfl B kk zc _ (by rfl) (by rfl) (R1.out.rows _ (.tail _ (.head _))).1 HI2.out.2.2 HI2.out.1 HI2.out.2.1 ?_; intro w8 hw8 hr8; have hg8 := Bx.mk (kb_of hw8); have HR8 := Bx.mk hr8; clear hw8 hr8))
      have R2 := Bx.mk (R1.out.swap.set hg8.out HR8.out (by intro y hy; have h1 := HDB.out; simp at hy; rcases hy with rfl; simp only; omega))
      refine bodyPost_ret (results_pair rfl _ _ _ B _ rfl (run_loadVar_row _ B _ _ _ _ _ HR8.out Tryd.underlying39 rfl HI2.out.1)) rfl ?_
      exact ⟨rfl, HK0.out.issued R2.out⟩
    · go_simp
      show K _ _
      have HDB : Bx (B < W0.heap.size) := Bx.mk (B0.out.blt (.head _))
      have B1 := Bx.mk (B0.out.new (.cells zc 39))
      clear B0
      generalize W0.alloc (.cells zc 39) = W1 at *
      generalize W0.heap.size = D at *
      refine hK.out _ _ B1.out.cellK (fun hHeld => ?_)
      clear hK K
      try simp only [Act.put, List.setIfInBounds_toArray, List.set_cons_zero, List.set_cons_succ]
      refine stepL 12 (by kernel_rfl) rfl (fun K hK => ?_)
      go_simp
      refine (HMk.out W1 B1.out.grown).mono ?_
      rintro e W2 ⟨rfl, hb1⟩
      show K _ _
      have B2 := Bx.mk (B1.out.later hb1)
      clear hb1 B1
      refine hK.out _ _ B2.out.cellK (fun hHeld => ?_)
      clear hK K
      try simp only [Act.put, List.setIfInBounds_toArray, List.set_cons_zero, List.set_cons_succ]
      refine takeL 13 (v := ?_) rfl (by kernel_rfl) (by kernel_rfl) (by kernel_rfl) (fun _ _ _ h => h) (Or.inl ⟨by rfl, ?_⟩) hHeld ?_
      rotate_left 1
      · (intro w hSw; go_simp; try with_reducible rfl)
      try simp only [Act.put, List.setIfInBounds_toArray, List.set_cons_zero, List.set_cons_succ]
      refine takeL 14 (v := ?_) rfl (by kernel_rfl) (by kernel_rfl) (by kernel_rfl) (fun _ _ _ h => h) (Or.inl ⟨by rfl, ?_⟩) hHeld ?_
      rotate_left 1
      · (intro w hSw; go_simp; try with_reducible rfl)
      try simp only [Act.put, List.setIfInBounds_toArray, List.set_cons_zero, List.set_cons_succ]
      refine takeL 15 (v := ?_) rfl (by kernel_rfl) (by kernel_rfl) (by kernel_rfl) (fun _ _ _ h => h) (Or.inl ⟨by rfl, ?_⟩) hHeld ?_
      rotate_left 1
      · (intro w hSw; go_simp; try with_reducible rfl)
      try simp only [Act.put, List.setIfInBounds_toArray, List.set_cons_zero, List.set_cons_succ]
      refine stepL 17 (by kernel_rfl) rfl (fun K hK => ?_)
      refine step_st rfl 39 _ _ rfl D kk (by rfl) (by rfl) (there_row (B2.out.rows _ (.head _)).1 0 _ (by rw [HI2.out.2.2]; omega)) HI2.out.1 HI2.out.2.1 ?_
      have hr2 := heap_setCells_all (ds := kk) (B2.out.rows _ (.head _)).1 HI2.out.2.2
      have B3 : Bx (KM w M [(D, .cells kk 39), (B, .cells zc 39)] l (.pointer (some ⟨p, 0, none⟩)) bs (W2.setCells D 0 kk.toList)) := Bx.mk (B2.out.set (kb_setCells _ _ _) hr2 (by intro y hy; have h1 := HDB.out; simp at hy; rcases hy with rfl; simp only; omega))
      clear hr2 B2
      refine hK.out _ _ B3.out.cellK (fun hHeld => ?_)
      clear hK K
      try simp only [Act.put]
      generalize W2.setCells D 0 kk.toList = W3 at *
      refine takeL 18 (v := ?_) rfl (by kernel_rfl) (by kernel_rfl) (by kernel_rfl) (fun _ _ _ h => h) (Or.inl ⟨by rfl, ?_⟩) hHeld ?_
      rotate_left 1
      · (intro w hSw; go_simp; try with_reducible rfl)
      try simp only [Act.put, List.setIfInBounds_toArray, List.set_cons_zero, List.set_cons_succ]
      refine wpAnyH_done (by kernel_rfl) ?_ _
      refine NoPanic.normal ?_
      clear hHeld
      go_upto_region 11 with fail
      have R0 := Bx.mk B3.out.drew
      clear B3
      refine wp_region_noPanic ?_
      refine wp_region_held_drew (S := fun W => W.rangeAt D 0 [.int .i64 i, .int .i64 m, .int .i64 x, .int .i64 q]) (by kernel_rfl) (HC.out _ _ _ (R0.out.rows _ (.head _)).1) (fun hHeld => ?_)
      generalize W3.drew = V0 at *
      refine takeL 0 (v := ?_) rfl (by kernel_rfl) (by kernel_rfl) (by kernel_rfl) (fun _ _ _ h => h) (Or.inl ⟨by rfl, ?_⟩) hHeld ?_
      rotate_left 1
      · (intro w hSw; go_simp; try with_reducible rfl)
      try simp only [Act.put, List.setIfInBounds_toArray, List.set_cons_zero, List.set_cons_succ]
      refine takeL 1 (v := ?_) rfl (by kernel_rfl) (by kernel_rfl) (by kernel_rfl) (fun _ _ _ h => h) (Or.inl ⟨by rfl, ?_⟩) hHeld ?_
      rotate_left 1
      · (intro w hSw; go_simp; try with_reducible rfl)
      try simp only [Act.put, List.setIfInBounds_toArray, List.set_cons_zero, List.set_cons_succ]
      refine takeL 2 (v := ?_) rfl (by kernel_rfl) (by kernel_rfl) (by kernel_rfl) (fun _ _ _ h => h) (Or.inl ⟨by rfl, ?_⟩) hHeld ?_
      rotate_left 1
      · (intro w hSw; go_simp; try with_reducible rfl)
      try simp only [Act.put, List.setIfInBounds_toArray, List.set_cons_zero, List.set_cons_succ]
      refine takeL 3 (v := ?_) rfl (by kernel_rfl) (by kernel_rfl) (by kernel_rfl) (fun _ _ _ h => h) (Or.inl ⟨by rfl, ?_⟩) hHeld ?_
      rotate_left 1
      · (intro w hSw; go_simp; try with_reducible rfl)
      try simp only [Act.put, List.setIfInBounds_toArray, List.set_cons_zero, List.set_cons_succ]
      refine takeL 4 rfl (by kernel_rfl) (by kernel_rfl) (by kernel_rfl) (fun _ _ _ h => h) (yieldsIf_load_mid (by rfl) _ _ rfl _ _ rfl _ _ (fun w hSw => hSw) Tryd.underlying36 rfl (by kernel_rfl)) hHeld ?_
      try simp only [Act.put, List.setIfInBounds_toArray, List.set_cons_zero, List.set_cons_succ]
      refine stepL 5 (by kernel_rfl) rfl (fun K hK => ?_)
      go_simp
      refine (HAdd.out V0 R0.out.mt).mono ?_
      rintro e V1 ⟨rfl, hi1⟩
      show K _ _
      have R1 := Bx.mk (R0.out.minted hi1)
      clear hi1 R0
      refine hK.out _ _ (HC.out _ _ _ (R1.out.rows _ (.head _)).1) (fun hHeld => ?_)
      clear hK K
      try simp only [Act.put, List.setIfInBounds_toArray, List.set_cons_zero, List.set_cons_succ]
      refine wpAnyH_done (by kernel_rfl) ?_ _
      refine NoPanic.normal ?_
      clear hHeld
      go_wp2_with (first | (refine wpList_load_row rfl 39 _ rfl D (by rfl) _ _ _ _ (R1.out.rows _ (.head _)).1 Tryd.underlying39 rfl HI2.out.1 ?_) | (refine wpList_store_new rfl 39 _ _ rfl B kk zc _ (by rfl) (by rfl) (R1.out.rows _ (.tail _ (.head _))).1 HI2.out.2.2 HI2.out.1 HI2.out.2.1 ?_; intro w8 hw8 hr8; have hg8 := Bx.mk (kb_of hw8); have HR8 := Bx.mk hr8; clear hw8 hr8))
      have R2 := Bx.mk (R1.out.swap.set hg8.out HR8.out (by intro y hy; have h1 := HDB.out; simp at hy; rcases hy with rfl; simp only; omega))
      refine bodyPost_ret (results_pair rfl _ _ _ B _ rfl (run_loadVar_row _ B _ _ _ _ _ HR8.out Tryd.underlying39 rfl HI2.out.1)) rfl ?_
      exact ⟨rfl, HK0.out.issued R2.out⟩
  · go_simp
    show K _ _
    have HDB : Bx (B < W0.heap.size) := Bx.mk (B0.out.blt (.head _))
    have B1 := Bx.mk (B0.out.new (.cells zc 39))
    clear B0
    generalize W0.alloc (.cells zc 39) = W1 at *
    generalize W0.heap.size = D at *
    refine hK.out _ _ B1.out.cellK (fun hHeld => ?_)
    clear hK K
    try simp only [Act.put, List.setIfInBounds_toArray, List.set_cons_zero, List.set_cons_succ]
    refine stepL 10 (by kernel_rfl) rfl (fun K hK => ?_)
    go_simp
    refine (HNext.out W1 B1.out.mt).mono ?_
    rintro e W' ⟨rfl, rfl⟩
    show K _ _
    refine hK.out _ _ B1.out.cellK (fun hHeld => ?_)
    clear hK K
    try simp only [Act.put, List.setIfInBounds_toArray, List.set_cons_zero, List.set_cons_succ]
    refine takeL 11 (v := ?_) rfl (by kernel_rfl) (by kernel_rfl) (by kernel_rfl) (fun _ _ _ h => h) (Or.inl ⟨by rfl, ?_⟩) hHeld ?_
    rotate_left 1
    · (intro w hSw; go_simp; try with_reducible rfl)
    try simp only [Act.put, List.setIfInBounds_toArray, List.set_cons_zero, List.set_cons_succ]
    refine stepL 12 (by kernel_rfl) rfl (fun K hK => ?_)
    go_simp
    refine (HMk.out W1 B1.out.grown).mono ?_
    rintro e W2 ⟨rfl, hb1⟩
    show K _ _
    have B2 := Bx.mk (B1.out.later hb1)
    clear hb1 B1
    refine hK.out _ _ B2.out.cellK (fun hHeld => ?_)
    clear hK K
    try simp only [Act.put, List.setIfInBounds_toArray, List.set_cons_zero, List.set_cons_succ]
    refine takeL 13 (v := ?_) rfl (by kernel_rfl) (by kernel_rfl) (by kernel_rfl) (fun _ _ _ h => h) (Or.inl ⟨by rfl, ?_⟩) hHeld ?_
    rotate_left 1
    · (intro w hSw; go_simp; try with_reducible rfl)
    try simp only [Act.put, List.setIfInBounds_toArray, List.set_cons_zero, List.set_cons_succ]
    refine takeL 14 (v := ?_) rfl (by kernel_rfl) (by kernel_rfl) (by kernel_rfl) (fun _ _ _ h => h) (Or.inl ⟨by rfl, ?_⟩) hHeld ?_
    rotate_left 1
    · (intro w hSw; go_simp; try with_reducible rfl)
    try simp only [Act.put, List.setIfInBounds_toArray, List.set_cons_zero, List.set_cons_succ]
    refine takeL 15 (v := ?_) rfl (by kernel_rfl) (by kernel_rfl) (by kernel_rfl) (fun _ _ _ h => h) (Or.inl ⟨by rfl, ?_⟩) hHeld ?_
    rotate_left 1
    · (intro w hSw; go_simp; try with_reducible rfl)
    try simp only [Act.put, List.setIfInBounds_toArray, List.set_cons_zero, List.set_cons_succ]
    refine stepL 17 (by kernel_rfl) rfl (fun K hK => ?_)
    refine step_st rfl 39 _ _ rfl D kk (by rfl) (by rfl) (there_row (B2.out.rows _ (.head _)).1 0 _ (by rw [HI2.out.2.2]; omega)) HI2.out.1 HI2.out.2.1 ?_
    have hr2 := heap_setCells_all (ds := kk) (B2.out.rows _ (.head _)).1 HI2.out.2.2
    have B3 : Bx (KM w M [(D, .cells kk 39), (B, .cells zc 39)] l (.pointer (some ⟨p, 0, none⟩)) bs (W2.setCells D 0 kk.toList)) := Bx.mk (B2.out.set (kb_setCells _ _ _) hr2 (by intro y hy; have h1 := HDB.out; simp at hy; rcases hy with rfl; simp only; omega))
    clear hr2 B2
    refine hK.out _ _ B3.out.cellK (fun hHeld => ?_)
    clear hK K
    try simp only [Act.put]
    generalize W2.setCells D 0 kk.toList = W3 at *
    refine takeL 18 (v := ?_) rfl (by kernel_rfl) (by kernel_rfl) (by kernel_rfl) (fun _ _ _ h => h) (Or.inl ⟨by rfl, ?_⟩) hHeld ?_
    rotate_left 1
    · (intro w hSw; go_simp; try with_reducible rfl)
    try simp only [Act.put, List.setIfInBounds_toArray, List.set_cons_zero, List.set_cons_succ]
    refine wpAnyH_done (by kernel_rfl) ?_ _
    refine NoPanic.normal ?_
    clear hHeld
    go_upto_region 11 with fail
    have R0 := Bx.mk B3.out.drew
    clear B3
    refine wp_region_noPanic ?_
    refine wp_region_held_drew (S := fun W => W.rangeAt D 0 [.int .i64 i, .int .i64 m, .int .i64 x, .int .i64 q]) (by kernel_rfl) (HC.out _ _ _ (R0.out.rows _ (.head _)).1) (fun hHeld => ?_)
    generalize W3.drew = V0 at *
    refine takeL 0 (v := ?_) rfl (by kernel_rfl) (by kernel_rfl) (by kernel_rfl) (fun _ _ _ h => h) (Or.inl ⟨by rfl, ?_⟩) hHeld ?_
    rotate_left 1
    · (intro w hSw; go_simp; try with_reducible rfl)
    try simp only [Act.put, List.setIfInBounds_toArray, List.set_cons_zero, List.set_cons_succ]
    refine takeL 1 (v := ?_) rfl (by kernel_rfl) (by kernel_rfl) (by kernel_rfl) (fun _ _ _ h => h) (Or.inl ⟨by rfl, ?_⟩) hHeld ?_
    rotate_left 1
    · (intro w hSw; go_simp; try with_reducible rfl)
    try simp only [Act.put, List.setIfInBounds_toArray, List.set_cons_zero, List.set_cons_succ]
    refine takeL 2 (v := ?_) rfl (by kernel_rfl) (by kernel_rfl) (by kernel_rfl) (fun _ _ _ h => h) (Or.inl ⟨by rfl, ?_⟩) hHeld ?_
    rotate_left 1
    · (intro w hSw; go_simp; try with_reducible rfl)
    try simp only [Act.put, List.setIfInBounds_toArray, List.set_cons_zero, List.set_cons_succ]
    refine takeL 3 (v := ?_) rfl (by kernel_rfl) (by kernel_rfl) (by kernel_rfl) (fun _ _ _ h => h) (Or.inl ⟨by rfl, ?_⟩) hHeld ?_
    rotate_left 1
    · (intro w hSw; go_simp; try with_reducible rfl)
    try simp only [Act.put, List.setIfInBounds_toArray, List.set_cons_zero, List.set_cons_succ]
    refine takeL 4 rfl (by kernel_rfl) (by kernel_rfl) (by kernel_rfl) (fun _ _ _ h => h) (yieldsIf_load_mid (by rfl) _ _ rfl _ _ rfl _ _ (fun w hSw => hSw) Tryd.underlying36 rfl (by kernel_rfl)) hHeld ?_
    try simp only [Act.put, List.setIfInBounds_toArray, List.set_cons_zero, List.set_cons_succ]
    refine stepL 5 (by kernel_rfl) rfl (fun K hK => ?_)
    go_simp
    refine (HAdd.out V0 R0.out.mt).mono ?_
    rintro e V1 ⟨rfl, hi1⟩
    show K _ _
    have R1 := Bx.mk (R0.out.minted hi1)
    clear hi1 R0
    refine hK.out _ _ (HC.out _ _ _ (R1.out.rows _ (.head _)).1) (fun hHeld => ?_)
    clear hK K
    try simp only [Act.put, List.setIfInBounds_toArray, List.set_cons_zero, List.set_cons_succ]
    refine wpAnyH_done (by kernel_rfl) ?_ _
    refine NoPanic.normal ?_
    clear hHeld
    go_wp2_with (first | (refine wpList_load_row rfl 39 _ rfl D (by rfl) _ _ _ _ (R1.out.rows _ (.head _)).1 Tryd.underlying39 rfl HI2.out.1 ?_) | (refine wpList_store_new rfl 39 _ _ rfl B kk zc _ (by rfl) (by rfl) (R1.out.rows _ (.tail _ (.head _))).1 HI2.out.2.2 HI2.out.1 HI2.out.2.1 ?_; intro w8 hw8 hr8; have hg8 := Bx.mk (kb_of hw8); have HR8 := Bx.mk hr8; clear hw8 hr8))
    have R2 := Bx.mk (R1.out.swap.set hg8.out HR8.out (by intro y hy; have h1 := HDB.out; simp at hy; rcases hy with rfl; simp only; omega))
    refine bodyPost_ret (results_pair rfl _ _ _ B _ rfl (run_loadVar_row _ B _ _ _ _ _ HR8.out Tryd.underlying39 rfl HI2.out.1)) rfl ?_
    exact ⟨rfl, HK0.out.issued R2.out⟩
end Go.Proofs.YtiengbmnfbbgoaaDoor
