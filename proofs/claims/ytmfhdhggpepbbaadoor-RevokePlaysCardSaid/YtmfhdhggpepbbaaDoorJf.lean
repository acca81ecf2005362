/-
  Revocations: are a delta's numbers as they may be, as the document reckons.
-/
import Derived.Test.YtmfhdhggpepbbaaDoorJe
namespace Go.Proofs.YtmfhdhggpepbbaaDoor
open Go Go.RowKit
theorem within_iff (v : V4) (l : L4) : withinB v l = true ↔ ((0 ≤ v.a ∧ v.a ≤ 256) ∧ (0 ≤ v.b ∧ v.b ≤ 256) ∧ (0 ≤ v.c ∧ v.c ≤ 256) ∧ (0 ≤ v.d ∧ v.d ≤ 256)) ∧ allS l.a = true ∧ allS l.b = true ∧ allS l.c = true ∧ allS l.d = true := by
  unfold withinB covV V4.zero full4
  simp only [Bool.and_eq_true, decide_eq_true_iff]
  constructor
  · rintro ⟨h1, h2, h3, h4, h5, h6⟩
    exact ⟨⟨⟨h5.1, h6.1⟩, ⟨h5.2.1, h6.2.1⟩, ⟨h5.2.2.1, h6.2.2.1⟩, ⟨h5.2.2.2, h6.2.2.2⟩⟩, h1, h2, h3, h4⟩
  · rintro ⟨⟨h5, h6, h7, h8⟩, h1, h2, h3, h4⟩
    exact ⟨h1, h2, h3, h4, ⟨h5.1, h6.1, h7.1, h8.1⟩, ⟨h5.2, h6.2, h7.2, h8.2⟩⟩
set_option maxRecDepth 100000 in
set_option maxHeartbeats 4000000 in
theorem rcheck8 (v : V4) (x : VV) (l : L4) (w : World) (hx : Rows4 w x l) (hm : Most l 256) : Calls Tryd.prog 31 #[.agg (dC v x)] w fun e w' => e = .returned (.bool (withinB v l)) ∧ Below w.heap.size w w' := by
  obtain ⟨z, hz⟩ : ∃ z, withinB v l = z := ⟨_, rfl⟩
  rw [hz]
  have HZ : Bx (z = true ↔ ((0 ≤ v.a ∧ v.a ≤ 256) ∧ (0 ≤ v.b ∧ v.b ≤ 256) ∧ (0 ≤ v.c ∧ v.c ≤ 256) ∧ (0 ≤ v.d ∧ v.d ≤ 256)) ∧ allS l.a = true ∧ allS l.b = true ∧ allS l.c = true ∧ allS l.d = true) := ⟨by rw [← hz]; exact within_iff v l⟩
  obtain ⟨p1, q1, t1, s1, a1, b1, c1, d1, rfl⟩ := hx.forms
  obtain ⟨E, hE⟩ : ∃ E, w.heap.size = E := ⟨_, rfl⟩
  have K0 : Bx (KR w E [(E, .cells #[.int .i64 v.a, .int .i64 v.b, .int .i64 v.c, .int .i64 v.d, .slice p1 l.a.length a1, .slice q1 l.b.length b1, .slice t1 l.c.length c1, .slice s1 l.d.length d1] 33)] (w.alloc (.cells #[.int .i64 v.a, .int .i64 v.b, .int .i64 v.c, .int .i64 v.d, .slice p1 l.a.length a1, .slice q1 l.b.length b1, .slice t1 l.c.length c1, .slice s1 l.d.length d1] 33)) ∧ Rows4 (w.alloc (.cells #[.int .i64 v.a, .int .i64 v.b, .int .i64 v.c, .int .i64 v.d, .slice p1 l.a.length a1, .slice q1 l.b.length b1, .slice t1 l.c.length c1, .slice s1 l.d.length d1] 33)) (VV.mk (.slice p1 l.a.length a1) (.slice q1 l.b.length b1) (.slice t1 l.c.length c1) (.slice s1 l.d.length d1)) l) := Bx.mk (by
    subst hE
    exact ⟨(KR.start w).new _, hx.later (below_a _)⟩)
  have HRi := Bx.mk (fun (W : World) (r : List Int) (u : Value) (h : IsL W u r) (hr : r.length ≤ 256) => rright8 r u W h (by omega))
  have ma : (l.a.length : Int) ≤ 256 := by have := hm.a; omega
  have mb : (l.b.length : Int) ≤ 256 := by have := hm.b; omega
  have mc : (l.c.length : Int) ≤ 256 := by have := hm.c; omega
  have md : (l.d.length : Int) ≤ 256 := by have := hm.d; omega
  have HM := Bx.mk hm
  have na : ¬ (256 : Int) < (l.a.length : Int) := by omega
  have nb : ¬ (256 : Int) < (l.b.length : Int) := by omega
  have nc : ¬ (256 : Int) < (l.c.length : Int) := by omega
  have nd : ¬ (256 : Int) < (l.d.length : Int) := by omega
  unfold dC
  clear hx hm hz ma mb mc md
  rw [hE]
  go_enter Tryd.func31, Tryd.ntmps31
  go_wp2
  generalize w.alloc (.cells #[.int .i64 v.a, .int .i64 v.b, .int .i64 v.c, .int .i64 v.d, .slice p1 l.a.length a1, .slice q1 l.b.length b1, .slice t1 l.c.length c1, .slice s1 l.d.length d1] 33) = w0 at *
  have k0 : w0.cell? ⟨E, 0, none⟩ = some (.int .i64 v.a) := by rw [cell_of_row _ _ _ _ _ _ (K0.out.1.rows _ (.head _))]; rfl
  have k1 : w0.cell? ⟨E, 1, none⟩ = some (.int .i64 v.b) := by rw [cell_of_row _ _ _ _ _ _ (K0.out.1.rows _ (.head _))]; rfl
  have k2 : w0.cell? ⟨E, 2, none⟩ = some (.int .i64 v.c) := by rw [cell_of_row _ _ _ _ _ _ (K0.out.1.rows _ (.head _))]; rfl
  have k3 : w0.cell? ⟨E, 3, none⟩ = some (.int .i64 v.d) := by rw [cell_of_row _ _ _ _ _ _ (K0.out.1.rows _ (.head _))]; rfl
  have k4 : w0.cell? ⟨E, 4, none⟩ = some (.slice p1 l.a.length a1) := by rw [cell_of_row _ _ _ _ _ _ (K0.out.1.rows _ (.head _))]; rfl
  have k5 : w0.cell? ⟨E, 5, none⟩ = some (.slice q1 l.b.length b1) := by rw [cell_of_row _ _ _ _ _ _ (K0.out.1.rows _ (.head _))]; rfl
  have k6 : w0.cell? ⟨E, 6, none⟩ = some (.slice t1 l.c.length c1) := by rw [cell_of_row _ _ _ _ _ _ (K0.out.1.rows _ (.head _))]; rfl
  have k7 : w0.cell? ⟨E, 7, none⟩ = some (.slice s1 l.d.length d1) := by rw [cell_of_row _ _ _ _ _ _ (K0.out.1.rows _ (.head _))]; rfl
  refine wp_loop_rounds 5 ?_
  rw [rounds_succ]
  by_cases m0 : v.a < 0
  · have HF : Bx (z = false) := ⟨by cases hq : z; rfl; have := HZ.out.1 hq; omega⟩
    go_wp2
    go_ret
    exact ⟨by rw [HF.out]; rfl, K0.out.1.below⟩
  by_cases M0 : 256 < v.a
  · have HF : Bx (z = false) := ⟨by cases hq : z; rfl; have := HZ.out.1 hq; omega⟩
    go_wp2
    go_ret
    exact ⟨by rw [HF.out]; rfl, K0.out.1.below⟩
  have HC0 := Bx.mk (HRi.out w0 l.a _ K0.out.2.a HM.out.a)
  cases h0 : allS l.a with
  | false =>
    have HF : Bx (z = false) := ⟨by cases hq : z; rfl; have := HZ.out.1 hq; rw [h0] at this; simp at this⟩
    rw [h0] at HC0
    go_wp2_with fail
    refine HC0.out.mono ?_
    rintro e w1 ⟨rfl, rfl⟩
    go_wp2
    go_ret
    exact ⟨by rw [HF.out]; rfl, K0.out.1.below⟩
  | true =>
  rw [h0] at HC0
  go_wp2_with fail
  refine HC0.out.mono ?_
  rintro e w1 ⟨rfl, hw⟩
  have hw2 := hw.symm
  subst hw2
  clear HC0
  go_wp2
  rw [rounds_succ]
  by_cases m1 : v.b < 0
  · have HF : Bx (z = false) := ⟨by cases hq : z; rfl; have := HZ.out.1 hq; omega⟩
    go_wp2
    go_ret
    exact ⟨by rw [HF.out]; rfl, K0.out.1.below⟩
  by_cases M1 : 256 < v.b
  · have HF : Bx (z = false) := ⟨by cases hq : z; rfl; have := HZ.out.1 hq; omega⟩
    go_wp2
    go_ret
    exact ⟨by rw [HF.out]; rfl, K0.out.1.below⟩
  have HC1 := Bx.mk (HRi.out w0 l.b _ K0.out.2.b HM.out.b)
  cases h1 : allS l.b with
  | false =>
    have HF : Bx (z = false) := ⟨by cases hq : z; rfl; have := HZ.out.1 hq; rw [h1] at this; simp at this⟩
    rw [h1] at HC1
    go_wp2_with fail
    refine HC1.out.mono ?_
    rintro e w1 ⟨rfl, rfl⟩
    go_wp2
    go_ret
    exact ⟨by rw [HF.out]; rfl, K0.out.1.below⟩
  | true =>
  rw [h1] at HC1
  go_wp2_with fail
  refine HC1.out.mono ?_
  rintro e w1 ⟨rfl, hw⟩
  have hw2 := hw.symm
  subst hw2
  clear HC1
  go_wp2
  rw [rounds_succ]
  by_cases m2 : v.c < 0
  · have HF : Bx (z = false) := ⟨by cases hq : z; rfl; have := HZ.out.1 hq; omega⟩
    go_wp2
    go_ret
    exact ⟨by rw [HF.out]; rfl, K0.out.1.below⟩
  by_cases M2 : 256 < v.c
  · have HF : Bx (z = false) := ⟨by cases hq : z; rfl; have := HZ.out.1 hq; omega⟩
    go_wp2
    go_ret
    exact ⟨by rw [HF.out]; rfl, K0.out.1.below⟩
  have HC2 := Bx.mk (HRi.out w0 l.c _ K0.out.2.c HM.out.c)
  cases h2 : allS l.c with
  | false =>
    have HF : Bx (z = false) := ⟨by cases hq : z; rfl; have := HZ.out.1 hq; rw [h2] at this; simp at this⟩
    rw [h2] at HC2
    go_wp2_with fail
    refine HC2.out.mono ?_
    rintro e w1 ⟨rfl, rfl⟩
    go_wp2
    go_ret
    exact ⟨by rw [HF.out]; rfl, K0.out.1.below⟩
  | true =>
  rw [h2] at HC2
  go_wp2_with fail
  refine HC2.out.mono ?_
  rintro e w1 ⟨rfl, hw⟩
  have hw2 := hw.symm
  subst hw2
  clear HC2
  go_wp2
  rw [rounds_succ]
  by_cases m3 : v.d < 0
  · have HF : Bx (z = false) := ⟨by cases hq : z; rfl; have := HZ.out.1 hq; omega⟩
    go_wp2
    go_ret
    exact ⟨by rw [HF.out]; rfl, K0.out.1.below⟩
  by_cases M3 : 256 < v.d
  · have HF : Bx (z = false) := ⟨by cases hq : z; rfl; have := HZ.out.1 hq; omega⟩
    go_wp2
    go_ret
    exact ⟨by rw [HF.out]; rfl, K0.out.1.below⟩
  have HC3 := Bx.mk (HRi.out w0 l.d _ K0.out.2.d HM.out.d)
  cases h3 : allS l.d with
  | false =>
    have HF : Bx (z = false) := ⟨by cases hq : z; rfl; have := HZ.out.1 hq; rw [h3] at this; simp at this⟩
    rw [h3] at HC3
    go_wp2_with fail
    refine HC3.out.mono ?_
    rintro e w1 ⟨rfl, rfl⟩
    go_wp2
    go_ret
    exact ⟨by rw [HF.out]; rfl, K0.out.1.below⟩
  | true =>
  rw [h3] at HC3
  go_wp2_with fail
  refine HC3.out.mono ?_
  rintro e w1 ⟨rfl, hw⟩
  have hw2 := hw.symm
  subst hw2
  clear HC3
  go_wp2
  rw [rounds_succ]
  have HF : Bx (z = true) := ⟨HZ.out.2 ⟨⟨⟨by omega, by omega⟩, ⟨by omega, by omega⟩, ⟨by omega, by omega⟩, ⟨by omega, by omega⟩⟩, h0, h1, h2, h3⟩⟩
  go_wp2
  go_ret
  exact ⟨by rw [HF.out]; rfl, K0.out.1.below⟩
end Go.Proofs.YtmfhdhggpepbbaaDoor
