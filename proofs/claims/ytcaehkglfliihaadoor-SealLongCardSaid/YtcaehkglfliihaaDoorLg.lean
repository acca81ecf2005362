/-
  The walk of the statement on what is too long.
-/
import Derived.Test.YtcaehkglfliihaaDoorZb
import Derived.Test.YtcaehkglfliihaaDoorSj
namespace Go.Proofs.YtcaehkglfliihaaDoor
open Go Go.RowKit
theorem wrap64_nonneg (z : Int) : (0 : Int) ≤ IntKind.u64.wrap z := by
  have h : IntKind.u64.wrap z = z % 18446744073709551616 := rfl
  rw [h]
  omega
theorem made (W : World) (m : Nat) : Bytes (W.alloc (.cells (u8s (List.replicate m 0)) 5)) (.slice (some ⟨W.heap.size, 0, none⟩) m m) (List.replicate m 0) := by
  have h := built W (List.replicate m 0)
  rw [List.length_replicate] at h
  exact h
set_option maxRecDepth 100000 in
set_option maxHeartbeats 4000000 in
theorem long_any (z : Int) (w : World) (hz1 : -9223372036854775808 ≤ z) (hz2 : z ≤ 9223372036854775807) (hTab : Tab w) (hg : 0 < w.heap.size) :
    Calls Tryd.prog 8 #[.int .i64 z] w fun e w' => e = .returned (.bool true) ∧ Below w.heap.size w w' := by
  have HA := Bx.mk hTab
  clear hTab
  obtain ⟨r, hr, hr5⟩ : ∃ r : Nat, (IntKind.u64.wrap z).tmod 5 = (r : Int) ∧ r < 5 := by
    have h0 := wrap64_nonneg z
    rw [Int.tmod_eq_emod_of_nonneg h0]
    have h1 := Int.emod_nonneg (IntKind.u64.wrap z) (show (5 : Int) ≠ 0 by omega)
    have h2 := Int.emod_lt_of_pos (IntKind.u64.wrap z) (show (0 : Int) < 5 by omega)
    exact ⟨((IntKind.u64.wrap z) % 5).toNat, by omega, by omega⟩
  obtain ⟨sz, hsz⟩ : ∃ sz : Nat, sz = 65534 + r := ⟨_, rfl⟩
  obtain ⟨s32, hs32⟩ : ∃ n : Nat, n = sz + 32 := ⟨_, rfl⟩
  have hS : 65534 + (r : Int) = (sz : Int) := by omega
  have hS2 : (sz : Int) + 32 = (s32 : Int) := by omega
  have hr6 : (r : Int) < 5 := by omega
  have hsz1 : (sz : Int) ≤ 65538 := by omega
  have hsz0 : (65534 : Int) ≤ (sz : Int) := by omega
  have HSZ := Bx.mk (And.intro hsz (And.intro hs32 hr5))
  have hmk := fun W => mk_u8g sz sz .i64 .i64 (sz : Int) (sz : Int) rfl rfl (Nat.le_refl _) (by omega) W
  have hmk2 := fun W => mk_u8g s32 s32 .i64 .i64 (s32 : Int) (s32 : Int) rfl rfl (Nat.le_refl _) (by omega) W
  have hmk3 := fun W => mk_u8g 31 31 .i64 .i64 31 31 rfl rfl (Nat.le_refl _) (by omega) W
  have M1 : Bx (∀ W : World, Bytes (W.alloc (.cells (u8s (List.replicate sz 0)) 5)) (.slice (some ⟨W.heap.size, 0, none⟩) sz sz) (List.replicate sz 0)) := Bx.mk (fun W => made W sz)
  have M2 : Bx (∀ W : World, Bytes (W.alloc (.cells (u8s (List.replicate s32 0)) 5)) (.slice (some ⟨W.heap.size, 0, none⟩) s32 s32) (List.replicate s32 0)) := Bx.mk (fun W => made W s32)
  have M3 : Bx (∀ W : World, Bytes (W.alloc (.cells (u8s (List.replicate 31 0)) 5)) (.slice (some ⟨W.heap.size, 0, none⟩) 31 31) (List.replicate 31 0)) := Bx.mk (fun W => made W 31)
  generalize u8s (List.replicate sz 0) = z1 at *
  generalize u8s (List.replicate s32 0) = z2 at *
  generalize u8s (List.replicate 31 0) = z3 at *
  have HL1 : Bx ((List.replicate sz (0 : UInt8)).length = sz) := Bx.mk (List.length_replicate)
  have HL2 : Bx ((List.replicate s32 (0 : UInt8)).length = s32) := Bx.mk (List.length_replicate)
  have HL3 : Bx ((List.replicate 31 (0 : UInt8)).length = 31) := Bx.mk (List.length_replicate)
  have HNt : Bx (sz ≤ 65536 → tagB (bindK [107]) [] [] ((List.replicate s32 (0 : UInt8)).take (s32 - 32)) ≠ (List.replicate s32 (0 : UInt8)).drop (s32 - 32)) := Bx.mk (fun h => by
    rw [List.take_replicate, List.drop_replicate, Nat.min_eq_left (by omega), show s32 - 32 = sz by omega, show s32 - sz = 32 by omega]
    exact tag_ne sz (by omega) h)
  generalize List.replicate sz (0 : UInt8) = q1 at *
  generalize List.replicate s32 (0 : UInt8) = q2 at *
  generalize List.replicate 31 (0 : UInt8) = q3 at *
  clear hr5 hsz hs32
  have kc := fun (w : World) (C : Array Value) (n c : Nat) => Lib.run_convert_bytes_const (P := Tryd.prog) w 22 5 C n c Tryd.underlying22 Tryd.underlying5
  have B0 : Bx (∀ W : World, Bytes (W.alloc (.cells #[Value.int IntKind.u8 107] 5 (1, 2))) (.slice (some ⟨W.heap.size, 0, none⟩) 1 1) [107]) := Bx.mk (fun W => const_bytes (l := [107]) (fr := (1, 2)) (hnew _ _ _ rfl) rfl)
  go_enter Tryd.func8, Tryd.ntmps8
  go_wp2_with fail
  refine (new_any [107] _ _ (B0.out w) (by decide)).mono ?_
  rintro e w1 ⟨v1, rfl, hk1, hb1⟩
  have H1 : Bx (IsKey w1 v1 [107] ∧ Below w.heap.size w w1) := Bx.mk ⟨hk1.key, (below_a _).trans (hb1.mono (below_a _).size)⟩
  obtain ⟨pk, rfl⟩ := hk1.key.form
  clear hk1 hb1 kc
  have HG : Bx (∀ W, Below w.heap.size w W → Tab W ∧ 0 < W.heap.size) := Bx.mk (fun W h => ⟨HA.out.later h hg, Nat.lt_of_lt_of_le hg h.size⟩)
  by_cases hlg : 65536 < sz
  · have hlong : (65536 : Int) < (sz : Int) := by omega
    go_wp2_with fail
    refine (strm_bad [107] [] (sz : Int) _ _ w1 H1.out.1 (Bytes.nil _) (by decide) (by decide) (by omega) (by omega) (Or.inr (Or.inr hlong)) (HG.out _ H1.out.2).1 (HG.out _ H1.out.2).2).mono ?_
    rintro e w2 ⟨rfl, hb2⟩
    rw [if_neg (by first | (simp; done) | (simp; omega))]
    have H2 : Bx (IsKey w2 (.pointer (some ⟨pk, 0, none⟩)) [107] ∧ Below w.heap.size w w2) := Bx.mk ⟨H1.out.1.later hb2, H1.out.2.trans (hb2.mono H1.out.2.size)⟩
    clear hb2 H1
    go_wp2_with fail
    have H3 : Bx (IsKey (w2.alloc (.cells z1 5)) (.pointer (some ⟨pk, 0, none⟩)) [107] ∧ Below w.heap.size w (w2.alloc (.cells z1 5)) ∧ Bytes (w2.alloc (.cells z1 5)) (.slice (some ⟨w2.heap.size, 0, none⟩) sz sz) q1) := Bx.mk ⟨H2.out.1.later (below_a _), H2.out.2.alloc H2.out.2.size _, M1.out w2⟩
    generalize w2.alloc (.cells z1 5) = w3 at *
    generalize w2.heap.size = D2 at *
    clear H2
    refine (seal_long [107] [] q1 _ _ _ _ w3 H3.out.1 (Bytes.nil _) H3.out.2.2 (by decide) (by decide) (by rw [HL1.out]; omega) (by rw [HL1.out]; omega) (HG.out _ H3.out.2.1).1 (HG.out _ H3.out.2.1).2).mono ?_
    rintro e w4 ⟨rfl, hb4⟩
    have H4 : Bx (IsKey w4 (.pointer (some ⟨pk, 0, none⟩)) [107] ∧ Below w.heap.size w w4) := Bx.mk ⟨H3.out.1.later hb4, H3.out.2.1.trans (hb4.mono H3.out.2.1.size)⟩
    clear hb4 H3
    go_wp2_with fail
    have H5 : Bx (IsKey (w4.alloc (.cells z2 5)) (.pointer (some ⟨pk, 0, none⟩)) [107] ∧ Below w.heap.size w (w4.alloc (.cells z2 5)) ∧ Bytes (w4.alloc (.cells z2 5)) (.slice (some ⟨w4.heap.size, 0, none⟩) s32 s32) q2) := Bx.mk ⟨H4.out.1.later (below_a _), H4.out.2.alloc H4.out.2.size _, M2.out w4⟩
    generalize w4.alloc (.cells z2 5) = w5 at *
    generalize w4.heap.size = D4 at *
    clear H4
    have hcode : (if q2.length < 32 then (4 : Int) else 2) = 2 := by rw [if_neg (by rw [HL2.out]; omega)]
    refine (open_out [107] [] q2 _ _ _ _ w5 H5.out.1 (Bytes.nil _) H5.out.2.2 (by decide) (by decide) (Or.inr (by rw [HL2.out]; omega)) (by rw [HL2.out]; omega) (HG.out _ H5.out.2.1).1 (HG.out _ H5.out.2.1).2).mono ?_
    rintro e w5b ⟨rfl, hb5⟩
    rw [hcode]
    have H5b : Bx (IsKey w5b (.pointer (some ⟨pk, 0, none⟩)) [107] ∧ Below w.heap.size w w5b) := Bx.mk ⟨H5.out.1.later hb5, H5.out.2.1.trans (hb5.mono H5.out.2.1.size)⟩
    clear hb5 H5 hcode
    go_wp2_with fail
    refine (strm_bad [107] [] (-1) _ _ w5b H5b.out.1 (Bytes.nil _) (by decide) (by decide) (by omega) (by omega) (Or.inr (Or.inl (by omega))) (HG.out _ H5b.out.2).1 (HG.out _ H5b.out.2).2).mono ?_
    rintro e w6 ⟨rfl, hb6⟩
    rw [if_pos (Or.inr (by omega))]
    have H6 : Bx (Below w.heap.size w w6) := Bx.mk (H5b.out.2.trans (hb6.mono H5b.out.2.size))
    clear hb6 H5b
    by_cases hza : z < 0
    · have t1 : z < 0 := hza
      have t1b : ¬ (0 : Int) ≤ z := by omega
      go_wp2_with fail
      refine (known3_any w6 (HG.out _ H6.out).1 (HG.out _ H6.out).2).mono ?_
      rintro e w7 ⟨rfl, hb7⟩
      have H7 : Bx (Below w.heap.size w w7) := Bx.mk (H6.out.trans (hb7.mono H6.out.size))
      clear hb7 H6
      go_wp2_with fail
      refine (size_any z w7 hz1 hz2).mono ?_
      rintro e w8 ⟨rfl, rfl⟩
      rw [if_pos (Or.inl hza)]
      go_wp2_with fail
      have H9 : Bx (Bytes (w8.alloc (.cells z3 5)) (.slice (some ⟨w8.heap.size, 0, none⟩) 31 31) q3 ∧ Below w.heap.size w (w8.alloc (.cells z3 5))) := Bx.mk ⟨M3.out w8, H7.out.alloc H7.out.size _⟩
      generalize w8.alloc (.cells z3 5) = w9 at *
      generalize w8.heap.size = D8 at *
      refine (masked_any q3 _ w9 H9.out.1 (by rw [HL3.out]; omega)).mono ?_
      rintro e w10 ⟨rfl, rfl⟩
      rw [HL3.out]
      go_wp2
      go_ret
      exact ⟨rfl, H9.out.2⟩
    · by_cases hzb : z ≤ 65536
      · have t1 : ¬ z < 0 := by omega
        have t1b : (0 : Int) ≤ z := by omega
        have t2 : z ≤ 65536 := by omega
        go_wp2_with fail
        refine (known3_any w6 (HG.out _ H6.out).1 (HG.out _ H6.out).2).mono ?_
        rintro e w7 ⟨rfl, hb7⟩
        have H7 : Bx (Below w.heap.size w w7) := Bx.mk (H6.out.trans (hb7.mono H6.out.size))
        clear hb7 H6
        go_wp2_with fail
        refine (size_any z w7 hz1 hz2).mono ?_
        rintro e w8 ⟨rfl, rfl⟩
        rw [if_neg (by omega)]
        go_wp2_with fail
        have H9 : Bx (Bytes (w8.alloc (.cells z3 5)) (.slice (some ⟨w8.heap.size, 0, none⟩) 31 31) q3 ∧ Below w.heap.size w (w8.alloc (.cells z3 5))) := Bx.mk ⟨M3.out w8, H7.out.alloc H7.out.size _⟩
        generalize w8.alloc (.cells z3 5) = w9 at *
        generalize w8.heap.size = D8 at *
        refine (masked_any q3 _ w9 H9.out.1 (by rw [HL3.out]; omega)).mono ?_
        rintro e w10 ⟨rfl, rfl⟩
        rw [HL3.out]
        go_wp2
        go_ret
        exact ⟨rfl, H9.out.2⟩
      · have t1 : ¬ z < 0 := by omega
        have t1b : (0 : Int) ≤ z := by omega
        have t2 : ¬ z ≤ 65536 := by omega
        go_wp2_with fail
        refine (known3_any w6 (HG.out _ H6.out).1 (HG.out _ H6.out).2).mono ?_
        rintro e w7 ⟨rfl, hb7⟩
        have H7 : Bx (Below w.heap.size w w7) := Bx.mk (H6.out.trans (hb7.mono H6.out.size))
        clear hb7 H6
        go_wp2_with fail
        refine (size_any z w7 hz1 hz2).mono ?_
        rintro e w8 ⟨rfl, rfl⟩
        rw [if_pos (Or.inr (by omega))]
        go_wp2_with fail
        have H9 : Bx (Bytes (w8.alloc (.cells z3 5)) (.slice (some ⟨w8.heap.size, 0, none⟩) 31 31) q3 ∧ Below w.heap.size w (w8.alloc (.cells z3 5))) := Bx.mk ⟨M3.out w8, H7.out.alloc H7.out.size _⟩
        generalize w8.alloc (.cells z3 5) = w9 at *
        generalize w8.heap.size = D8 at *
        refine (masked_any q3 _ w9 H9.out.1 (by rw [HL3.out]; omega)).mono ?_
        rintro e w10 ⟨rfl, rfl⟩
        rw [HL3.out]
        go_wp2
        go_ret
        exact ⟨rfl, H9.out.2⟩
  · have hlong : ¬ (65536 : Int) < (sz : Int) := by omega
    go_wp2_with fail
    refine (strm_ok [107] [] sz _ _ w1 H1.out.1 (Bytes.nil _) (by decide) (by decide) (by omega) (HG.out _ H1.out.2).1 (HG.out _ H1.out.2).2).mono ?_
    rintro e w2 ⟨vx2, rfl, hx2, hb2⟩
    have H2 : Bx (IsKey w2 (.pointer (some ⟨pk, 0, none⟩)) [107] ∧ Below w.heap.size w w2) := Bx.mk ⟨H1.out.1.later hb2, H1.out.2.trans (hb2.mono H1.out.2.size)⟩
    clear hb2 H1 hx2
    go_wp2_with fail
    have H3 : Bx (IsKey (w2.alloc (.cells z1 5)) (.pointer (some ⟨pk, 0, none⟩)) [107] ∧ Below w.heap.size w (w2.alloc (.cells z1 5)) ∧ Bytes (w2.alloc (.cells z1 5)) (.slice (some ⟨w2.heap.size, 0, none⟩) sz sz) q1) := Bx.mk ⟨H2.out.1.later (below_a _), H2.out.2.alloc H2.out.2.size _, M1.out w2⟩
    generalize w2.alloc (.cells z1 5) = w3 at *
    generalize w2.heap.size = D2 at *
    clear H2
    refine (seal_ok [107] [] [] q1 _ _ _ _ w3 H3.out.1 (Bytes.nil _) (Bytes.nil _) H3.out.2.2 (by decide) (by decide) (by decide) (by rw [HL1.out]; omega) (HG.out _ H3.out.2.1).1 (HG.out _ H3.out.2.1).2).mono ?_
    rintro e w4 ⟨vs4, rfl, ho4, hb4⟩
    have H4 : Bx (IsKey w4 (.pointer (some ⟨pk, 0, none⟩)) [107] ∧ Below w.heap.size w w4) := Bx.mk ⟨H3.out.1.later hb4, H3.out.2.1.trans (hb4.mono H3.out.2.1.size)⟩
    clear hb4 H3 ho4
    go_wp2_with fail
    have H5 : Bx (IsKey (w4.alloc (.cells z2 5)) (.pointer (some ⟨pk, 0, none⟩)) [107] ∧ Below w.heap.size w (w4.alloc (.cells z2 5)) ∧ Bytes (w4.alloc (.cells z2 5)) (.slice (some ⟨w4.heap.size, 0, none⟩) s32 s32) q2) := Bx.mk ⟨H4.out.1.later (below_a _), H4.out.2.alloc H4.out.2.size _, M2.out w4⟩
    generalize w4.alloc (.cells z2 5) = w5 at *
    generalize w4.heap.size = D4 at *
    clear H4
    refine (open_in [107] [] [] q2 _ _ _ _ w5 H5.out.1 (Bytes.nil _) (Bytes.nil _) H5.out.2.2 (by decide) (by decide) (by decide) (by rw [HL2.out]; omega) (by rw [HL2.out]; omega) (HG.out _ H5.out.2.1).1 (HG.out _ H5.out.2.1).2).mono ?_
    rintro e w5b hO
    have hO2 : e = .returned (.tuple #[.slice none 0 0, .int .i64 5]) ∧ Below w5.heap.size w5 w5b := by
      rcases hO with ⟨ht, -⟩ | ⟨-, he, hb⟩
      · rw [HL2.out] at ht
        exact absurd ht (HNt.out (by omega))
      · exact ⟨he, hb⟩
    obtain ⟨rfl, hb5⟩ := hO2
    have H5b : Bx (IsKey w5b (.pointer (some ⟨pk, 0, none⟩)) [107] ∧ Below w.heap.size w w5b) := Bx.mk ⟨H5.out.1.later hb5, H5.out.2.1.trans (hb5.mono H5.out.2.1.size)⟩
    clear hb5 H5 hO
    go_wp2_with fail
    refine (strm_bad [107] [] (-1) _ _ w5b H5b.out.1 (Bytes.nil _) (by decide) (by decide) (by omega) (by omega) (Or.inr (Or.inl (by omega))) (HG.out _ H5b.out.2).1 (HG.out _ H5b.out.2).2).mono ?_
    rintro e w6 ⟨rfl, hb6⟩
    rw [if_pos (Or.inr (by omega))]
    have H6 : Bx (Below w.heap.size w w6) := Bx.mk (H5b.out.2.trans (hb6.mono H5b.out.2.size))
    clear hb6 H5b
    by_cases hza : z < 0
    · have t1 : z < 0 := hza
      have t1b : ¬ (0 : Int) ≤ z := by omega
      go_wp2_with fail
      refine (known3_any w6 (HG.out _ H6.out).1 (HG.out _ H6.out).2).mono ?_
      rintro e w7 ⟨rfl, hb7⟩
      have H7 : Bx (Below w.heap.size w w7) := Bx.mk (H6.out.trans (hb7.mono H6.out.size))
      clear hb7 H6
      go_wp2_with fail
      refine (size_any z w7 hz1 hz2).mono ?_
      rintro e w8 ⟨rfl, rfl⟩
      rw [if_pos (Or.inl hza)]
      go_wp2_with fail
      have H9 : Bx (Bytes (w8.alloc (.cells z3 5)) (.slice (some ⟨w8.heap.size, 0, none⟩) 31 31) q3 ∧ Below w.heap.size w (w8.alloc (.cells z3 5))) := Bx.mk ⟨M3.out w8, H7.out.alloc H7.out.size _⟩
      generalize w8.alloc (.cells z3 5) = w9 at *
      generalize w8.heap.size = D8 at *
      refine (masked_any q3 _ w9 H9.out.1 (by rw [HL3.out]; omega)).mono ?_
      rintro e w10 ⟨rfl, rfl⟩
      rw [HL3.out]
      go_wp2
      go_ret
      exact ⟨congrArg (fun b => Ending.returned (Value.bool b)) (show (!decide ((65536 : Int) < (sz : Int))) = true by rw [decide_eq_false (by omega)]; rfl), H9.out.2⟩
    · by_cases hzb : z ≤ 65536
      · have t1 : ¬ z < 0 := by omega
        have t1b : (0 : Int) ≤ z := by omega
        have t2 : z ≤ 65536 := by omega
        go_wp2_with fail
        refine (known3_any w6 (HG.out _ H6.out).1 (HG.out _ H6.out).2).mono ?_
        rintro e w7 ⟨rfl, hb7⟩
        have H7 : Bx (Below w.heap.size w w7) := Bx.mk (H6.out.trans (hb7.mono H6.out.size))
        clear hb7 H6
        go_wp2_with fail
        refine (size_any z w7 hz1 hz2).mono ?_
        rintro e w8 ⟨rfl, rfl⟩
        rw [if_neg (by omega)]
        go_wp2_with fail
        have H9 : Bx (Bytes (w8.alloc (.cells z3 5)) (.slice (some ⟨w8.heap.size, 0, none⟩) 31 31) q3 ∧ Below w.heap.size w (w8.alloc (.cells z3 5))) := Bx.mk ⟨M3.out w8, H7.out.alloc H7.out.size _⟩
        generalize w8.alloc (.cells z3 5) = w9 at *
        generalize w8.heap.size = D8 at *
        refine (masked_any q3 _ w9 H9.out.1 (by rw [HL3.out]; omega)).mono ?_
        rintro e w10 ⟨rfl, rfl⟩
        rw [HL3.out]
        go_wp2
        go_ret
        exact ⟨congrArg (fun b => Ending.returned (Value.bool b)) (show (!decide ((65536 : Int) < (sz : Int))) = true by rw [decide_eq_false (by omega)]; rfl), H9.out.2⟩
      · have t1 : ¬ z < 0 := by omega
        have t1b : (0 : Int) ≤ z := by omega
        have t2 : ¬ z ≤ 65536 := by omega
        go_wp2_with fail
        refine (known3_any w6 (HG.out _ H6.out).1 (HG.out _ H6.out).2).mono ?_
        rintro e w7 ⟨rfl, hb7⟩
        have H7 : Bx (Below w.heap.size w w7) := Bx.mk (H6.out.trans (hb7.mono H6.out.size))
        clear hb7 H6
        go_wp2_with fail
        refine (size_any z w7 hz1 hz2).mono ?_
        rintro e w8 ⟨rfl, rfl⟩
        rw [if_pos (Or.inr (by omega))]
        go_wp2_with fail
        have H9 : Bx (Bytes (w8.alloc (.cells z3 5)) (.slice (some ⟨w8.heap.size, 0, none⟩) 31 31) q3 ∧ Below w.heap.size w (w8.alloc (.cells z3 5))) := Bx.mk ⟨M3.out w8, H7.out.alloc H7.out.size _⟩
        generalize w8.alloc (.cells z3 5) = w9 at *
        generalize w8.heap.size = D8 at *
        refine (masked_any q3 _ w9 H9.out.1 (by rw [HL3.out]; omega)).mono ?_
        rintro e w10 ⟨rfl, rfl⟩
        rw [HL3.out]
        go_wp2
        go_ret
        exact ⟨congrArg (fun b => Ending.returned (Value.bool b)) (show (!decide ((65536 : Int) < (sz : Int))) = true by rw [decide_eq_false (by omega)]; rfl), H9.out.2⟩
end Go.Proofs.YtcaehkglfliihaaDoor
