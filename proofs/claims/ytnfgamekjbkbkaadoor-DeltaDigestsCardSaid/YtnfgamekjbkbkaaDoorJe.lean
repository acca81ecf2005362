/-
  Revocations: are serials right, and does one stand twice, as the document reckons.
  Revocations: are a delta's numbers as they may be, as the document reckons.
-/
import Derived.Test.YtnfgamekjbkbkaaDoorEy
namespace Go.Proofs.YtnfgamekjbkbkaaDoor
open Go Go.RowKit
set_option maxRecDepth 100000 in
theorem rright8 (l : List Int) (v : Value) (w : World) (hv : IsL w v l) (hl : l.length ≤ 1000000) :
    Calls Tryd.prog 51 #[v] w fun e w' => e = .returned (.bool (allS l)) ∧ w' = w := by
  obtain ⟨z, hz⟩ : ∃ z, allS l = z := ⟨_, rfl⟩
  rw [hz]
  obtain ⟨a, cap, -, hform⟩ : ∃ a cap, True ∧ v = .slice a l.length cap := by
    obtain ⟨a, cap, h⟩ := hv.form
    exact ⟨a, cap, trivial, h⟩
  subst hform
  have H1 := Bx.mk hv.ints
  have HT : Bx ((∀ i, i < l.length → okS (l.getD i 0) = true) → z = true) := ⟨fun h => by
    rw [← hz]
    refine List.all_eq_true.2 fun x hx => ?_
    obtain ⟨k, hk, rfl⟩ := List.getElem_of_mem hx
    have := h k hk
    rwa [List.getD_eq_getElem?_getD, List.getElem?_eq_getElem hk] at this⟩
  have HF : Bx (∀ k, k < l.length → okS (l.getD k 0) = false → z = false) := ⟨fun k hk h => by
    rw [← hz]
    refine List.all_eq_false.2 ⟨l.getD k 0, ?_, by rw [h]; decide⟩
    rw [List.getD_eq_getElem?_getD, List.getElem?_eq_getElem hk]
    exact List.getElem_mem hk⟩
  obtain ⟨n, hn⟩ : ∃ n, l.length = n := ⟨_, rfl⟩
  have HN := Bx.mk hn
  rw [hn] at hl H1 HT HF ⊢
  clear hv hz hn
  have hn1 : (n : Int) ≤ 1000000 := by omega
  go_enter Tryd.func51, Tryd.ntmps51
  go_wp2
  go_loopw [3] (fun i wr => ∃ k : Nat, k ≤ n ∧ i = .int .i64 (k : Int) ∧ Bx (∀ j, j < k → okS (l.getD j 0) = true) ∧ Bx (wr = w)) (fun i _ => n - (intOf i).toNat)
  case atStart => exact ⟨0, Nat.zero_le _, rfl, ⟨fun j hj => absurd hj (Nat.not_lt_zero _)⟩, ⟨rfl⟩⟩
  case round =>
    obtain ⟨k, hk, rfl, HA, HB⟩ := hrel
    have hwr := HB.out
    subst hwr
    by_cases hlt : k < n
    · have hk1 : (k : Int) < (n : Int) := by omega
      have hk0 : (0 : Int) ≤ (k : Int) := by omega
      obtain ⟨_, _, hv, _, _, hr⟩ := H1.out
      injection hv with e1 e2 e3
      subst e1
      clear e2 e3
      obtain ⟨c, o, rfl, hf⟩ := hr (by rw [HN.out]; omega)
      have hc := hf k (by rw [HN.out]; exact hlt)
      have HFk := Bx.mk (HF.out k hlt)
      obtain ⟨x, hx⟩ : ∃ x, l.getD k 0 = x := ⟨_, rfl⟩
      have HX := Bx.mk hx
      rw [hx] at hc HFk
      clear hf hr hx HF
      by_cases h1 : x < 1
      · have HZ : Bx (z = false) := ⟨HFk.out (by unfold okS; simp; omega)⟩
        clear HFk HT
        go_wp2
        go_ret
        exact ⟨by rw [HZ.out]; rfl, rfl⟩
      by_cases h2 : 65535 < x
      · have HZ : Bx (z = false) := ⟨HFk.out (by unfold okS; simp; omega)⟩
        clear HFk HT
        go_wp2
        go_ret
        exact ⟨by rw [HZ.out]; rfl, rfl⟩
      have HO : Bx (okS (l.getD k 0) = true) := ⟨by rw [HX.out]; unfold okS; simp; omega⟩
      clear HFk
      go_wp2
      go_roundw
      case rel => exact ⟨k + 1, by omega, by go_num, ⟨fun j hj => by
        by_cases e : j = k
        · subst e; exact HO.out
        · exact HA.out j (by omega)⟩, ⟨by first | rfl | trivial⟩⟩
      case measure => simp [intOf]; omega
    · obtain rfl : k = n := by omega
      go_wp2
      go_ret
      exact ⟨by rw [HT.out HA.out]; rfl, rfl⟩
theorem mem_take8 {l : List Int} {k : Nat} {x : Int} (hk : k ≤ l.length) : x ∈ l.take k ↔ ∃ j, j < k ∧ l.getD j 0 = x := by
  constructor
  · intro h
    obtain ⟨j, hj, rfl⟩ := List.getElem_of_mem h
    rw [List.length_take] at hj
    refine ⟨j, by omega, ?_⟩
    rw [List.getElem_take, List.getD_eq_getElem?_getD, List.getElem?_eq_getElem (by omega)]
    rfl
  · rintro ⟨j, hj, rfl⟩
    rw [List.getD_eq_getElem?_getD, List.getElem?_eq_getElem (by omega)]
    refine List.mem_of_getElem? (i := j) ?_
    rw [List.getElem?_take, if_pos hj, List.getElem?_eq_getElem (by omega)]
    rfl
set_option maxRecDepth 100000 in
set_option maxHeartbeats 1000000 in
theorem rtwice8 (l : List Int) (v : Value) (w : World) (hv : IsL w v l) (hl : l.length ≤ 1000000) :
    Calls Tryd.prog 80 #[v] w fun e w' => e = .returned (.bool (dupB l)) ∧ Below w.heap.size w w' := by
  obtain ⟨z, hz⟩ : ∃ z, dupB l = z := ⟨_, rfl⟩
  rw [hz]
  obtain ⟨a, cap, -, hform⟩ : ∃ a cap, True ∧ v = .slice a l.length cap := by
    obtain ⟨a, cap, h⟩ := hv.form
    exact ⟨a, cap, trivial, h⟩
  subst hform
  have H1 : Bx (∀ W, Below w.heap.size w W → Ints W (.slice a l.length cap) l) := ⟨fun W h => (hv.later h).ints⟩
  have HT : Bx ((∀ k, k < l.length → ∀ j, j < k → l.getD k 0 ≠ l.getD j 0) → z = false) := ⟨fun h => by
    rw [← hz]
    cases hd : dupB l
    · rfl
    · obtain ⟨k, hk, hm⟩ := (dup_iff l).1 hd
      obtain ⟨j, hj, e⟩ := (mem_take8 (by omega)).1 hm
      exact absurd e.symm (h k hk j hj)⟩
  have HF : Bx (∀ k j, k < l.length → j < k → l.getD k 0 = l.getD j 0 → z = true) := ⟨fun k j hk hj e => by
    rw [← hz]
    exact (dup_iff l).2 ⟨k, hk, (mem_take8 (by omega)).2 ⟨j, hj, e.symm⟩⟩⟩
  obtain ⟨n, hn⟩ : ∃ n, l.length = n := ⟨_, rfl⟩
  have HN := Bx.mk hn
  rw [hn] at hl H1 HT HF ⊢
  clear hv hz hn
  have hn1 : (n : Int) ≤ 1000000 := by omega
  have B0 := Bx.mk (Below.refl w.heap.size w)
  go_enter Tryd.func80, Tryd.ntmps80
  go_wp2
  go_loopw [3] (fun i wr => ∃ k : Nat, k ≤ n ∧ i = .int .i64 (k : Int) ∧ Bx (∀ k', k' < k → ∀ j, j < k' → l.getD k' 0 ≠ l.getD j 0) ∧ Bx (Below w.heap.size w wr)) (fun i _ => n - (intOf i).toNat)
  case atStart => exact ⟨0, Nat.zero_le _, rfl, ⟨fun j hj => absurd hj (Nat.not_lt_zero _)⟩, B0⟩
  case round =>
    obtain ⟨k, hk, rfl, HA, HB⟩ := hrel
    clear B0
    by_cases hlt : k < n
    · have hk1 : (k : Int) < (n : Int) := by omega
      have hk0 : (0 : Int) ≤ (k : Int) := by omega
      go_wp2
      go_loopw [4] (fun i wr => ∃ m : Nat, m ≤ k ∧ i = .int .i64 (m : Int) ∧ Bx (∀ j, j < m → l.getD k 0 ≠ l.getD j 0) ∧ Bx (Below w.heap.size w wr)) (fun i _ => k - (intOf i).toNat)
      case atStart => exact ⟨0, Nat.zero_le _, rfl, ⟨fun j hj => absurd hj (Nat.not_lt_zero _)⟩, HB⟩
      case round =>
        obtain ⟨m, hm, rfl, HC, HD⟩ := hrel
        clear HB
        by_cases hmk : m < k
        · have hm1 : (m : Int) < (k : Int) := by omega
          have hm0 : (0 : Int) ≤ (m : Int) := by omega
          have hm2 : (m : Int) < (n : Int) := by omega
          obtain ⟨_, _, hv, _, _, hr⟩ := H1.out _ HD.out
          injection hv with e1 e2 e3
          subst e1
          clear e2 e3
          obtain ⟨c, o, rfl, hf⟩ := hr (by rw [HN.out]; omega)
          have hc := hf k (by rw [HN.out]; exact hlt)
          have hc2 := hf m (by rw [HN.out]; omega)
          have HFk := Bx.mk (HF.out k m hlt hmk)
          obtain ⟨x, hx⟩ : ∃ x, l.getD k 0 = x := ⟨_, rfl⟩
          obtain ⟨y, hy⟩ : ∃ y, l.getD m 0 = y := ⟨_, rfl⟩
          have HX := Bx.mk hx
          have HY := Bx.mk hy
          rw [hx] at hc HFk
          rw [hy] at hc2 HFk
          clear hf hr hx hy
          by_cases hxy : x = y
          · have HZ : Bx (z = true) := ⟨HFk.out hxy⟩
            subst hxy
            clear HFk HT HF HA HC
            go_wp2
            go_quiet (fail)
            go_wp2
            go_ret
            exact ⟨by rw [HZ.out]; rfl, drewN_below HD.out _⟩
          · clear HFk
            go_wp2
            go_quiet (fail)
            go_wp2
            go_roundw
            case rel => exact ⟨m + 1, by omega, by go_num, ⟨fun j hj => by
              by_cases e : j = m
              · subst e; rw [HX.out, HY.out]; exact hxy
              · exact HC.out j (by omega)⟩, ⟨drewN_below HD.out _⟩⟩
            case measure => simp [intOf]; omega
        · obtain rfl : m = k := by omega
          go_wp2
          go_roundw
          case rel => exact ⟨m + 1, by omega, by go_num, ⟨fun k' hk' => by
            by_cases e : k' = m
            · subst e; exact HC.out
            · exact HA.out k' (by omega)⟩, HD⟩
          case measure => simp [intOf]; omega
    · obtain rfl : k = n := by omega
      go_wp2
      go_ret
      exact ⟨by rw [HT.out HA.out]; rfl, HB.out⟩
end Go.Proofs.YtnfgamekjbkbkaaDoor
namespace Go.Proofs.YtnfgamekjbkbkaaDoor
open Go Go.RowKit
theorem within_iff (v : V4) (l : L4) : withinB v l = true ↔ ((0 ≤ v.a ∧ v.a ≤ 256) ∧ (0 ≤ v.b ∧ v.b ≤ 256) ∧ (0 ≤ v.c ∧ v.c ≤ 256) ∧ (0 ≤ v.d ∧ v.d ≤ 256)) ∧ allS l.a = true ∧ allS l.b = true ∧ allS l.c = true ∧ allS l.d = true := by
  unfold withinB covV V4.zero full4
  simp only [Bool.and_eq_true, decide_eq_true_iff]
  constructor
  · rintro ⟨h1, h2, h3, h4, h5, h6⟩
    exact ⟨⟨⟨h5.1, h6.1⟩, ⟨h5.2.1, h6.2.1⟩, ⟨h5.2.2.1, h6.2.2.1⟩, ⟨h5.2.2.2, h6.2.2.2⟩⟩, h1, h2, h3, h4⟩
  · rintro ⟨⟨h5, h6, h7, h8⟩, h1, h2, h3, h4⟩
    exact ⟨h1, h2, h3, h4, ⟨h5.1, h6.1, h7.1, h8.1⟩, ⟨h5.2, h6.2, h7.2, h8.2⟩⟩
set_option maxRecDepth 100000 in
set_option maxHeartbeats 4000000 in
theorem rcheck8 (v : V4) (x : VV) (l : L4) (w : World) (hx : Rows4 w x l) (hm : Most l 256) : Calls Tryd.prog 11 #[.agg (dC v x)] w fun e w' => e = .returned (.bool (withinB v l)) ∧ Below w.heap.size w w' := by
  obtain ⟨z, hz⟩ : ∃ z, withinB v l = z := ⟨_, rfl⟩
  rw [hz]
  have HZ : Bx (z = true ↔ ((0 ≤ v.a ∧ v.a ≤ 256) ∧ (0 ≤ v.b ∧ v.b ≤ 256) ∧ (0 ≤ v.c ∧ v.c ≤ 256) ∧ (0 ≤ v.d ∧ v.d ≤ 256)) ∧ allS l.a = true ∧ allS l.b = true ∧ allS l.c = true ∧ allS l.d = true) := ⟨by rw [← hz]; exact within_iff v l⟩
  obtain ⟨p1, q1, t1, s1, a1, b1, c1, d1, rfl⟩ := hx.forms
  obtain ⟨E, hE⟩ : ∃ E, w.heap.size = E := ⟨_, rfl⟩
  have K0 : Bx (KR w E [(E, .cells #[.int .i64 v.a, .int .i64 v.b, .int .i64 v.c, .int .i64 v.d, .slice p1 l.a.length a1, .slice q1 l.b.length b1, .slice t1 l.c.length c1, .slice s1 l.d.length d1] 26)] (w.alloc (.cells #[.int .i64 v.a, .int .i64 v.b, .int .i64 v.c, .int .i64 v.d, .slice p1 l.a.length a1, .slice q1 l.b.length b1, .slice t1 l.c.length c1, .slice s1 l.d.length d1] 26)) ∧ Rows4 (w.alloc (.cells #[.int .i64 v.a, .int .i64 v.b, .int .i64 v.c, .int .i64 v.d, .slice p1 l.a.length a1, .slice q1 l.b.length b1, .slice t1 l.c.length c1, .slice s1 l.d.length d1] 26)) (VV.mk (.slice p1 l.a.length a1) (.slice q1 l.b.length b1) (.slice t1 l.c.length c1) (.slice s1 l.d.length d1)) l) := Bx.mk (by
    subst hE
    exact ⟨(KR.start w).new _, hx.later (below_a _)⟩)
  have HRi := Bx.mk (fun (W : World) (r : List Int) (u : Value) (h : IsL W u r) (hr : r.length ≤ 256) => rright8 r u W h (by omega))
  have ma : (l.a.length : Int) ≤ 256 := by have := hm.a; omega
  have mb : (l.b.length : Int) ≤ 256 := by have := hm.b; omega
  have mc : (l.c.length : Int) ≤ 256 := by have := hm.c; omega
  have md : (l.d.length : Int) ≤ 256 := by have := hm.d; omega
  have HM := Bx.mk hm
  have na : ¬ (256 : Int) < (l.a.length : Int) := by omega
  have nb : ¬ (256 : Int) < (l.b.length : Int) := by omega
  have nc : ¬ (256 : Int) < (l.c.length : Int) := by omega
  have nd : ¬ (256 : Int) < (l.d.length : Int) := by omega
  unfold dC
  clear hx hm hz ma mb mc md
  rw [hE]
  go_enter Tryd.func11, Tryd.ntmps11
  go_wp2
  generalize w.alloc (.cells #[.int .i64 v.a, .int .i64 v.b, .int .i64 v.c, .int .i64 v.d, .slice p1 l.a.length a1, .slice q1 l.b.length b1, .slice t1 l.c.length c1, .slice s1 l.d.length d1] 26) = w0 at *
  have k0 : w0.cell? ⟨E, 0, none⟩ = some (.int .i64 v.a) := by rw [cell_of_row _ _ _ _ _ _ (K0.out.1.rows _ (.head _))]; rfl
  have k1 : w0.cell? ⟨E, 1, none⟩ = some (.int .i64 v.b) := by rw [cell_of_row _ _ _ _ _ _ (K0.out.1.rows _ (.head _))]; rfl
  have k2 : w0.cell? ⟨E, 2, none⟩ = some (.int .i64 v.c) := by rw [cell_of_row _ _ _ _ _ _ (K0.out.1.rows _ (.head _))]; rfl
  have k3 : w0.cell? ⟨E, 3, none⟩ = some (.int .i64 v.d) := by rw [cell_of_row _ _ _ _ _ _ (K0.out.1.rows _ (.head _))]; rfl
  have k4 : w0.cell? ⟨E, 4, none⟩ = some (.slice p1 l.a.length a1) := by rw [cell_of_row _ _ _ _ _ _ (K0.out.1.rows _ (.head _))]; rfl
  have k5 : w0.cell? ⟨E, 5, none⟩ = some (.slice q1 l.b.length b1) := by rw [cell_of_row _ _ _ _ _ _ (K0.out.1.rows _ (.head _))]; rfl
  have k6 : w0.cell? ⟨E, 6, none⟩ = some (.slice t1 l.c.length c1) := by rw [cell_of_row _ _ _ _ _ _ (K0.out.1.rows _ (.head _))]; rfl
  have k7 : w0.cell? ⟨E, 7, none⟩ = some (.slice s1 l.d.length d1) := by rw [cell_of_row _ _ _ _ _ _ (K0.out.1.rows _ (.head _))]; rfl
  refine wp_loop_rounds 5 ?_
  rw [rounds_succ]
  by_cases m0 : v.a < 0
  · have HF : Bx (z = false) := ⟨by cases hq : z; rfl; have := HZ.out.1 hq; omega⟩
    go_wp2
    go_ret
    exact ⟨by rw [HF.out]; rfl, K0.out.1.below⟩
  by_cases M0 : 256 < v.a
  · have HF : Bx (z = false) := ⟨by cases hq : z; rfl; have := HZ.out.1 hq; omega⟩
    go_wp2
    go_ret
    exact ⟨by rw [HF.out]; rfl, K0.out.1.below⟩
  have HC0 := Bx.mk (HRi.out w0 l.a _ K0.out.2.a HM.out.a)
  cases h0 : allS l.a with
  | false =>
    have HF : Bx (z = false) := ⟨by cases hq : z; rfl; have := HZ.out.1 hq; rw [h0] at this; simp at this⟩
    rw [h0] at HC0
    go_wp2_with fail
    refine HC0.out.mono ?_
    rintro e w1 ⟨rfl, rfl⟩
    go_wp2
    go_ret
    exact ⟨by rw [HF.out]; rfl, K0.out.1.below⟩
  | true =>
  rw [h0] at HC0
  go_wp2_with fail
  refine HC0.out.mono ?_
  rintro e w1 ⟨rfl, hw⟩
  have hw2 := hw.symm
  subst hw2
  clear HC0
  go_wp2
  rw [rounds_succ]
  by_cases m1 : v.b < 0
  · have HF : Bx (z = false) := ⟨by cases hq : z; rfl; have := HZ.out.1 hq; omega⟩
    go_wp2
    go_ret
    exact ⟨by rw [HF.out]; rfl, K0.out.1.below⟩
  by_cases M1 : 256 < v.b
  · have HF : Bx (z = false) := ⟨by cases hq : z; rfl; have := HZ.out.1 hq; omega⟩
    go_wp2
    go_ret
    exact ⟨by rw [HF.out]; rfl, K0.out.1.below⟩
  have HC1 := Bx.mk (HRi.out w0 l.b _ K0.out.2.b HM.out.b)
  cases h1 : allS l.b with
  | false =>
    have HF : Bx (z = false) := ⟨by cases hq : z; rfl; have := HZ.out.1 hq; rw [h1] at this; simp at this⟩
    rw [h1] at HC1
    go_wp2_with fail
    refine HC1.out.mono ?_
    rintro e w1 ⟨rfl, rfl⟩
    go_wp2
    go_ret
    exact ⟨by rw [HF.out]; rfl, K0.out.1.below⟩
  | true =>
  rw [h1] at HC1
  go_wp2_with fail
  refine HC1.out.mono ?_
  rintro e w1 ⟨rfl, hw⟩
  have hw2 := hw.symm
  subst hw2
  clear HC1
  go_wp2
  rw [rounds_succ]
  by_cases m2 : v.c < 0
  · have HF : Bx (z = false) := ⟨by cases hq : z; rfl; have := HZ.out.1 hq; omega⟩
    go_wp2
    go_ret
    exact ⟨by rw [HF.out]; rfl, K0.out.1.below⟩
  by_cases M2 : 256 < v.c
  · have HF : Bx (z = false) := ⟨by cases hq : z; rfl; have := HZ.out.1 hq; omega⟩
    go_wp2
    go_ret
    exact ⟨by rw [HF.out]; rfl, K0.out.1.below⟩
  have HC2 := Bx.mk (HRi.out w0 l.c _ K0.out.2.c HM.out.c)
  cases h2 : allS l.c with
  | false =>
    have HF : Bx (z = false) := ⟨by cases hq : z; rfl; have := HZ.out.1 hq; rw [h2] at this; simp at this⟩
    rw [h2] at HC2
    go_wp2_with fail
    refine HC2.out.mono ?_
    rintro e w1 ⟨rfl, rfl⟩
    go_wp2
    go_ret
    exact ⟨by rw [HF.out]; rfl, K0.out.1.below⟩
  | true =>
  rw [h2] at HC2
  go_wp2_with fail
  refine HC2.out.mono ?_
  rintro e w1 ⟨rfl, hw⟩
  have hw2 := hw.symm
  subst hw2
  clear HC2
  go_wp2
  rw [rounds_succ]
  by_cases m3 : v.d < 0
  · have HF : Bx (z = false) := ⟨by cases hq : z; rfl; have := HZ.out.1 hq; omega⟩
    go_wp2
    go_ret
    exact ⟨by rw [HF.out]; rfl, K0.out.1.below⟩
  by_cases M3 : 256 < v.d
  · have HF : Bx (z = false) := ⟨by cases hq : z; rfl; have := HZ.out.1 hq; omega⟩
    go_wp2
    go_ret
    exact ⟨by rw [HF.out]; rfl, K0.out.1.below⟩
  have HC3 := Bx.mk (HRi.out w0 l.d _ K0.out.2.d HM.out.d)
  cases h3 : allS l.d with
  | false =>
    have HF : Bx (z = false) := ⟨by cases hq : z; rfl; have := HZ.out.1 hq; rw [h3] at this; simp at this⟩
    rw [h3] at HC3
    go_wp2_with fail
    refine HC3.out.mono ?_
    rintro e w1 ⟨rfl, rfl⟩
    go_wp2
    go_ret
    exact ⟨by rw [HF.out]; rfl, K0.out.1.below⟩
  | true =>
  rw [h3] at HC3
  go_wp2_with fail
  refine HC3.out.mono ?_
  rintro e w1 ⟨rfl, hw⟩
  have hw2 := hw.symm
  subst hw2
  clear HC3
  go_wp2
  rw [rounds_succ]
  have HF : Bx (z = true) := ⟨HZ.out.2 ⟨⟨⟨by omega, by omega⟩, ⟨by omega, by omega⟩, ⟨by omega, by omega⟩, ⟨by omega, by omega⟩⟩, h0, h1, h2, h3⟩⟩
  go_wp2
  go_ret
  exact ⟨by rw [HF.out]; rfl, K0.out.1.below⟩
end Go.Proofs.YtnfgamekjbkbkaaDoor
