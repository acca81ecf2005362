/-
  The walk of a field's bytes.
-/
import Derived.Test.YtiengbmnfbbgoaaDoorIa
namespace Go.Proofs.YtiengbmnfbbgoaaDoor
open Go Go.RowKit
/-- A field, as a value. -/
def IsF (w : World) (v : Value) (f : Fd) : Prop := ∃ vb, v = .agg #[.int .i64 f.s, .int .i64 f.n, vb] ∧ Bytes w vb f.b
theorem IsF.later {w w1 : World} {v : Value} {f : Fd} (h : IsF w v f) (hb : Below w.heap.size w w1) : IsF w1 v f := by
  obtain ⟨vb, hv, h⟩ := h
  exact ⟨vb, hv, h.later hb⟩
theorem chk_ok {f : Fd} (h : chk f = 0) : (f.s = 4 ∧ f.n = 0 ∧ f.b.length ≤ 512) ∨ (0 ≤ f.s ∧ f.s ≤ 3 ∧ f.b = [] ∧ 0 ≤ f.n ∧ f.n ≤ most f.s) := by
  unfold chk at h
  split at h
  · omega
  · split at h
    · split at h
      · omega
      · split at h
        · omega
        · exact .inl ⟨by assumption, by omega, by omega⟩
    · split at h
      · omega
      · exact .inr ⟨by omega, by omega, List.eq_nil_of_length_eq_zero (by omega), by omega, by omega⟩
theorem most_le (s : Int) : most s ≤ 9223372036854775807 := by
  unfold most
  repeat' split
  all_goals omega
set_option maxRecDepth 100000 in
set_option maxHeartbeats 1000000 in
theorem encoded_any (f : Fd) (v : Value) (w : World) (hv : IsF w v f) (hc : chk f = 0) :
    Calls Tryd.prog 83 #[v] w fun e w' => ∃ v', e = .returned v' ∧ OwnB w' w.heap.size v' (enc f) ∧ Below w.heap.size w w' := by
  obtain ⟨vb, rfl, hb⟩ := hv
  obtain ⟨s, n, b⟩ := f
  simp only at hb ⊢
  rcases chk_ok hc with ⟨h4, hn, hl⟩ | ⟨h0, h3, hbn, hn0, hnm⟩
  · simp only at h4 hn hl
    subst h4
    subst hn
    have HE : Bx (enc ⟨4, 0, b⟩ = beN 2 b.length ++ b) := Bx.mk rfl
    have HB := Bx.mk hb
    obtain ⟨ab, cb, rfl, -⟩ := hb
    obtain ⟨L, hL⟩ : ∃ n, b.length = n := ⟨_, rfl⟩
    have HL2 := Bx.mk hL
    rw [hL] at HB HE hl ⊢
    have HL := Bx.mk hl
    have hl1 : (L : Int) ≤ 512 := by omega
    clear hL hc hl
    have H0 : Bx ((w.alloc (.cells #[.int .i64 4, .int .i64 0, .slice ab L cb] 141)).cell? ⟨w.heap.size, 2, none⟩ = some (.slice ab L cb) ∧ Below w.heap.size w (w.alloc (.cells #[.int .i64 4, .int .i64 0, .slice ab L cb] 141)) ∧ Bytes (w.alloc (.cells #[.int .i64 4, .int .i64 0, .slice ab L cb] 141)) (.slice ab L cb) b) :=
      Bx.mk ⟨by rw [cell_of_row _ _ _ _ _ _ (hnew _ _ _ rfl)]; rfl, below_a _, HB.out.later (below_a _)⟩
    go_enter Tryd.func83, Tryd.ntmps83
    go_upto_region 2 with fail
    obtain ⟨B, hw⟩ : ∃ B, w.heap.size = B := ⟨_, rfl⟩
    have Hw := Bx.mk hw
    generalize (w.alloc (.cells #[.int .i64 4, .int .i64 0, .slice ab L cb] 141)) = wA at *
    rw [hw] at H0 ⊢
    clear hw
    refine wp_region_noPanic ?_
    refine wp_region_held_drew (S := fun W => W.cell? ⟨B, 2, none⟩ = some (.slice ab L cb) ∧ Bx (Below B w W ∧ Bytes W (.slice ab L cb) b)) (by kernel_rfl) (⟨H0.out.1, ⟨H0.out.2.1.drew, H0.out.2.2⟩⟩) (fun hHeld => ?_)
    have H0 : Bx (wA.drew.cell? ⟨B, 2, none⟩ = some (.slice ab L cb) ∧ Below B w wA.drew ∧ Bytes wA.drew (.slice ab L cb) b) := Bx.mk ⟨H0.out.1, H0.out.2.1.drew, H0.out.2.2⟩
    generalize wA.drew = W0 at *
    refine takeL 0 (v := ?_) rfl (by kernel_rfl) (by kernel_rfl) (by kernel_rfl) (fun _ _ _ h => h) (Or.inl ⟨by rfl, ?_⟩) hHeld ?_
    rotate_left 1
    · (intro w hSw; go_simp; try with_reducible rfl)
    try simp only [Act.put, List.setIfInBounds_toArray, List.set_cons_zero, List.set_cons_succ]
    refine takeL 1 (v := ?_) rfl (by kernel_rfl) (by kernel_rfl) (by kernel_rfl) (fun _ _ _ h => h) (Or.inl ⟨by rfl, ?_⟩) hHeld ?_
    rotate_left 1
    · (intro w hSw; go_simp; try with_reducible rfl)
    try simp only [Act.put, List.setIfInBounds_toArray, List.set_cons_zero, List.set_cons_succ]
    refine takeL 2 (v := ?_) rfl (by kernel_rfl) (by kernel_rfl) (by kernel_rfl) (fun _ _ _ h => h) (Or.inl ⟨by rfl, ?_⟩) hHeld ?_
    rotate_left 1
    · (intro w hSw; go_simp; try with_reducible rfl)
    try simp only [Act.put, List.setIfInBounds_toArray, List.set_cons_zero, List.set_cons_succ]
    refine takeL 4 (v := ?_) rfl (by kernel_rfl) (by kernel_rfl) (by kernel_rfl) (fun _ _ _ h => h) (Or.inl ⟨by rfl, ?_⟩) hHeld ?_
    rotate_left 1
    · (intro w hSw; go_simp; try with_reducible rfl)
    try simp only [Act.put, List.setIfInBounds_toArray, List.set_cons_zero, List.set_cons_succ]
    refine takeL 5 (v := ?_) rfl (by kernel_rfl) (by kernel_rfl) (by kernel_rfl) (fun _ _ _ h => h) (Or.inl ⟨by rfl, ?_⟩) hHeld ?_
    rotate_left 1
    · (intro w hSw; go_simp; try with_reducible rfl)
    try simp only [Act.put, List.setIfInBounds_toArray, List.set_cons_zero, List.set_cons_succ]
    refine stepL 3 (by kernel_rfl) rfl (fun K hK => ?_)
    go_simp
    refine (number_any 1 L W0 (by omega) (by omega) (by have := HL.out; omega)).mono ?_
    rintro e W1 ⟨v1, rfl, ho1, hb1⟩
    show K _ _
    have H1 : Bx (OwnB W1 (B + 1) v1 (beN 2 L) ∧ Below B w W1 ∧ Bytes W1 (.slice ab L cb) b ∧ W1.cell? ⟨B, 2, none⟩ = some (.slice ab L cb)) := Bx.mk ⟨ho1.weak (World.block_lt_of_cell? _ _ H0.out.1), H0.out.2.1.trans (hb1.mono (Nat.le_of_lt (World.block_lt_of_cell? _ _ H0.out.1))), H0.out.2.2.later hb1, by rw [hb1.cell (p := ⟨B, 2, none⟩) (World.block_lt_of_cell? _ _ H0.out.1)]; exact H0.out.1⟩
    clear ho1 hb1 H0
    refine hK.out _ _ ⟨H1.out.2.2.2, ⟨H1.out.2.1, H1.out.2.2.1⟩⟩ (fun hHeld => ?_)
    clear hK K
    try simp only [Act.put, List.setIfInBounds_toArray, List.set_cons_zero, List.set_cons_succ]
    refine stepL 6 (by kernel_rfl) rfl (fun K hK => ?_)
    refine step_ap rfl _ _ rfl (B + 1) _ (beN 2 L) (by rfl) H1.out.1 _ b (by rfl) H1.out.2.2.1 (by have := HL.out; have := HL2.out; rw [beN_length]; omega) (World.block_lt_of_cell? _ _ H1.out.2.2.2) ?_
    intro v2 w2 ho2 hg2 _
    have hb2 := own_below H1.out.1 hg2 (World.block_lt_of_cell? _ _ H1.out.2.2.2)
    have H2 : Bx (OwnB w2 B v2 (beN 2 L ++ b) ∧ Below B w w2) := Bx.mk ⟨ho2.weak (by omega), H1.out.2.1.trans (hb2.mono (by omega))⟩
    have HS2 : Bx (w2.cell? ⟨B, 2, none⟩ = some (.slice ab L cb) ∧ Bytes w2 (.slice ab L cb) b) := Bx.mk ⟨by rw [hb2.cell (p := ⟨B, 2, none⟩) (Nat.lt_succ_self B)]; exact H1.out.2.2.2, HB.out.later (Hw.out ▸ H2.out.2)⟩
    clear ho2 hg2 hb2
    refine hK.out _ _ ⟨HS2.out.1, ⟨H2.out.2, HS2.out.2⟩⟩ (fun hHeld => ?_)
    clear hK K
    try simp only [Act.put, List.setIfInBounds_toArray, List.set_cons_zero, List.set_cons_succ]
    refine takeL 7 (v := ?_) rfl (by kernel_rfl) (by kernel_rfl) (by kernel_rfl) (fun _ _ _ h => h) (Or.inl ⟨by rfl, ?_⟩) hHeld ?_
    rotate_left 1
    · (intro w hSw; go_simp; try with_reducible rfl)
    try simp only [Act.put, List.setIfInBounds_toArray, List.set_cons_zero, List.set_cons_succ]
    refine wpAnyH_done (by kernel_rfl) ?_ _
    refine NoPanic.normal ?_
    clear hHeld
    go_wp2
    go_ret
    exact ⟨_, rfl, by rw [HE.out, Hw.out]; exact H2.out.1, by rw [Hw.out]; exact H2.out.2⟩
  · simp only at h0 h3 hbn hn0 hnm
    obtain ⟨m, rfl⟩ : ∃ m : Nat, n = (m : Int) := ⟨n.toNat, by omega⟩
    have HE : Bx (enc ⟨s, (m : Int), b⟩ = beN (wid s) m) := Bx.mk (by unfold enc; rw [if_neg (by simp only; omega)]; rfl)
    have hNm := number_any s m (w.alloc (.cells #[.int .i64 s, .int .i64 (m : Int), vb] 141)) h0 h3 (by have := most_le s; omega)
    have hB : Below w.heap.size w (w.alloc (.cells #[.int .i64 s, .int .i64 (m : Int), vb] 141)) := below_a _
    have hs4 : (s == 4) = false := by simp; omega
    obtain ⟨ab, cb, rfl, -⟩ := hb
    generalize b.length = L at *
    clear hc hbn hn0 hnm
    go_enter Tryd.func83, Tryd.ntmps83
    go_wp2_with fail
    refine hNm.mono ?_
    rintro e w1 ⟨v1, rfl, ho1, hb1⟩
    have H1 : Bx (OwnB w1 w.heap.size v1 (beN (wid s) m) ∧ Below w.heap.size w w1) := Bx.mk ⟨ho1.weak hB.size, hB.trans (hb1.mono hB.size)⟩
    clear ho1 hb1 hB hNm
    go_wp2
    go_ret
    exact ⟨_, rfl, by rw [HE.out]; exact H1.out.1, H1.out.2⟩
end Go.Proofs.YtiengbmnfbbgoaaDoor
