/-
  CacheFull: its loops.
-/
import Derived.Test.YtdbdpehagkglfaaH24
import Derived.Test.YtdbdpehagkglfaaCb
namespace Go.Proofs.Ytdbdpehagkglfaa
open Go Go.RowKit
set_option maxRecDepth 100000 in
theorem open86 {a : Act} (h : Fr 86 a) : ∃ x : Nat → Value, a = ⟨List.toArray (x 0 :: x 1 :: x 2 :: x 3 :: x 4 :: x 5 :: x 6 :: x 7 :: x 8 :: x 9 :: x 10 :: x 11 :: x 12 :: x 13 :: x 14 :: x 15 :: x 16 :: x 17 :: x 18 :: x 19 :: x 20 :: x 21 :: x 22 :: x 23 :: x 24 :: x 25 :: x 26 :: x 27 :: x 28 :: x 29 :: x 30 :: x 31 :: x 32 :: x 33 :: x 34 :: x 35 :: x 36 :: x 37 :: x 38 :: x 39 :: x 40 :: x 41 :: x 42 :: x 43 :: x 44 :: x 45 :: x 46 :: x 47 :: x 48 :: x 49 :: x 50 :: x 51 :: x 52 :: x 53 :: x 54 :: x 55 :: x 56 :: x 57 :: x 58 :: x 59 :: x 60 :: x 61 :: x 62 :: x 63 :: x 64 :: x 65 :: x 66 :: x 67 :: x 68 :: x 69 :: x 70 :: x 71 :: x 72 :: x 73 :: x 74 :: x 75 :: x 76 :: x 77 :: x 78 :: x 79 :: x 80 :: x 81 :: x 82 :: x 83 :: x 84 :: x 85 :: []), []⟩ ∧ ∀ i, a.eval (.tmp i) = x i := ⟨fun i => a.tmps.getD i undef, h.form, fun _ => rfl⟩
/-- What stays in the frame. -/
structure FF (v0 : Value) (B : Nat) (a : Act) : Prop where
  fr : Fr 86 a
  s0 : a.eval (.tmp 0) = v0
  s5 : a.eval (.tmp 5) = .pointer (some ⟨B, 0, none⟩)
/-- Between two rounds of the first loop. -/
structure IF1 (w : World) (v0 : Value) (B : Nat) (k : Nat) (a : Act) (W : World) : Prop where
  ff : FF v0 B a
  s6 : a.eval (.tmp 6) = .int .i64 ((min k 16 : Nat) : Int)
  s7 : a.eval (.tmp 7) = .int .i64 ((k : Int) + 1)
  st : ∃ l, FullB B w (min k 16) l W
/-- Between two rounds of the second loop. -/
structure IF2 (w : World) (v0 : Value) (B : Nat) (l : List En) (S : List Cl) (v9 : Value) (k : Nat) (a : Act) (W : World) : Prop where
  ff : FF v0 B a
  s9 : a.eval (.tmp 9) = v9
  s10 : a.eval (.tmp 10) = .int .i64 (k : Int)
  st : FullB B w 16 l W ∧ RowC W v9 S
/-- Between two rounds of the third loop. -/
structure IF3 (w : World) (B : Nat) (S : List Cl) (v9 v11 : Value) (k : Nat) (a : Act) (W : World) : Prop where
  fr : Fr 86 a
  s9 : a.eval (.tmp 9) = v9
  s11 : a.eval (.tmp 11) = v11
  s12 : a.eval (.tmp 12) = .int .i64 (k : Int)
  st : RowC W v9 S ∧ RowC W v11 S ∧ KB B w W
set_option maxRecDepth 100000 in
set_option maxHeartbeats 4000000 in
theorem roundF1_yes (w : World) (v0 : Value) (B : Nat) (hB0 : B ≤ w.heap.size) (Q : Exit → Act → World → Prop) (k : Nat) (a : Act) (wr : World) (hk : k < 16) (hk2 : k < 19) (h : IF1 w v0 B k a wr) :
    Code.wp Try.prog (loopAt (Try.f4.body) 0) (Exit.then (fun a' w' => IF1 w v0 B (k + 1) a' w') Q) a wr := by
  obtain ⟨hf, s6, s7, l, hL⟩ := h
  rw [show min k 16 = k by omega] at s6 hL
  have HW := Bx.mk fun (W : World) (h : FullB B w k l W) => full_yes B w k l W h hk (Nat.le_trans hB0 h.keep.size)
  have R0 := Bx.mk hL
  have HM : Bx (min (k + 1) 16 = k + 1) := Bx.mk (by omega)
  have k0 : (0 : Int) ≤ (k : Int) := by omega
  have k1 : (k : Int) + 1 < 20 := by omega
  have k2 : (k : Int) < 16 := by omega
  have hwk : IntKind.i64.wrap ((k : Int) + 1) = (k : Int) + 1 := by simp [IntKind.wrap_i64]; omega
  have hwk2 : IntKind.i64.wrap ((k : Int) + 1 + 1) = (k : Int) + 1 + 1 := by simp [IntKind.wrap_i64]; omega
  obtain ⟨y, rfl, hy⟩ := open86 hf.fr
  have e0 := (hy 0).symm.trans hf.s0
  have e5 := (hy 5).symm.trans hf.s5
  have e6 := (hy 6).symm.trans s6
  have e7 := (hy 7).symm.trans s7
  clear hf hy s6 s7 hL hk hk2
  rw [e0, e5, e6, e7]
  clear e0 e5 e6 e7
  conv => arg 2; whnf
  unfold clV ptr at HW
  simp only at HW
  go_wp2_with fail
  refine (HW.out _ R0.out).mono ?_
  rintro e w1 ⟨rfl, l1, h1⟩
  have R1 := Bx.mk h1
  clear h1 R0 HW
  go_wp2
  exact ⟨⟨⟨rfl, rfl⟩, rfl, rfl⟩, by rw [HM.out]; first | rfl | exact congrArg (Value.int .i64) (by omega), by exact congrArg (Value.int .i64) (by omega), l1, by rw [HM.out]; exact R1.out⟩
set_option maxRecDepth 100000 in
set_option maxHeartbeats 4000000 in
theorem roundF1_no (w : World) (v0 : Value) (B : Nat) (hB0 : B ≤ w.heap.size) (Q : Exit → Act → World → Prop) (k : Nat) (a : Act) (wr : World) (hk : 16 ≤ k) (hk2 : k < 19) (h : IF1 w v0 B k a wr) :
    Code.wp Try.prog (loopAt (Try.f4.body) 0) (Exit.then (fun a' w' => IF1 w v0 B (k + 1) a' w') Q) a wr := by
  obtain ⟨hf, s6, s7, l, hL⟩ := h
  rw [show min k 16 = 16 by omega] at s6 hL
  have HW := Bx.mk fun (W : World) (h : FullB B w 16 l W) => full_no B w k l W h hk (by omega)
  have R0 := Bx.mk hL
  have HM : Bx (min (k + 1) 16 = 16) := Bx.mk (by omega)
  have k0 : (0 : Int) ≤ (k : Int) := by omega
  have k1 : (k : Int) + 1 < 20 := by omega
  skip
  have hwk : IntKind.i64.wrap ((k : Int) + 1) = (k : Int) + 1 := by simp [IntKind.wrap_i64]; omega
  have hwk2 : IntKind.i64.wrap ((k : Int) + 1 + 1) = (k : Int) + 1 + 1 := by simp [IntKind.wrap_i64]; omega
  obtain ⟨y, rfl, hy⟩ := open86 hf.fr
  have e0 := (hy 0).symm.trans hf.s0
  have e5 := (hy 5).symm.trans hf.s5
  have e6 := (hy 6).symm.trans s6
  have e7 := (hy 7).symm.trans s7
  clear hf hy s6 s7 hL hk hk2
  rw [e0, e5, e6, e7]
  clear e0 e5 e6 e7
  conv => arg 2; whnf
  unfold clV ptr at HW
  simp only at HW
  go_wp2_with fail
  refine (HW.out _ R0.out).mono ?_
  rintro e w1 ⟨rfl, h1⟩
  have R1 := Bx.mk h1
  clear h1 R0 HW
  go_wp2
  exact ⟨⟨⟨rfl, rfl⟩, rfl, rfl⟩, by rw [HM.out]; first | rfl | exact congrArg (Value.int .i64) (by omega), by exact congrArg (Value.int .i64) (by omega), l, by rw [HM.out]; exact R1.out⟩
set_option maxRecDepth 100000 in
set_option maxHeartbeats 4000000 in
theorem loopF1 (w : World) (v0 : Value) (B : Nat) (hB0 : B ≤ w.heap.size) (Q : Exit → Act → World → Prop) (a : Act) (wr : World) (h : IF1 w v0 B 0 a wr) (hq : ∀ a' w' l, FF v0 B a' → FullB B w 16 l w' → Q (.exit 0) a' w') :
    Code.wp Try.prog (.loop (loopAt (Try.f4.body) 0)) Q a wr := by
  refine wp_count 19 (fun k a w' => IF1 w v0 B k a w') 0 (Nat.zero_le _) h (fun k a w' hk hI => ?_) (fun a w' hI => ?_)
  · by_cases h1 : k < 16
    · exact roundF1_yes w v0 B hB0 Q k a w' h1 hk hI
    · exact roundF1_no w v0 B hB0 Q k a w' (by omega) hk hI
  · obtain ⟨hf, s6, s7, l, hL⟩ := hI
    have HL := Bx.mk hL
    have HQ := Bx.mk hq
    obtain ⟨y, rfl, hy⟩ := open86 hf.fr
    have e0 := (hy 0).symm.trans hf.s0
    have e5 := (hy 5).symm.trans hf.s5
    have e6 := (hy 6).symm.trans s6
    have e7 := (hy 7).symm.trans s7
    clear hf hy s6 s7 hL hq
    rw [e0, e5, e6, e7]
    clear e0 e5 e6 e7
    conv => arg 2; whnf
    go_wp2
    exact HQ.out _ _ l ⟨⟨rfl, rfl⟩, rfl, rfl⟩ HL.out
set_option maxRecDepth 100000 in
set_option maxHeartbeats 4000000 in
theorem roundF2 (w : World) (cs : List Cl) (v0 : Value) (B : Nat) (hB0 : B ≤ w.heap.size) (hv : ClsR w v0 cs) (hbw : ∀ W, KB B w W → Below w.heap.size w W) (hn : cs.length ≤ 9223372036854775807) (l : List En) (S : List Cl) (v9 : Value) (Q : Exit → Act → World → Prop) (k : Nat) (a : Act) (wr : World) (hk : k < cs.length) (hk2 : k < 20) (h : IF2 w v0 B l S v9 k a wr) :
    Code.wp Try.prog (loopAt (Try.f4.body) 1) (Exit.then (fun a' w' => IF2 w v0 B l S v9 (k + 1) a' w') Q) a wr := by
  obtain ⟨hf, s9, s10, hL, hR⟩ := h
  obtain ⟨b, o, cap, rfl⟩ := hv.start (by omega)
  have HV := Bx.mk (hv.at_ k hk)
  obtain ⟨na, hna⟩ : ∃ na, cs.length = na := ⟨_, rfl⟩
  rw [hna] at hk hn hf ⊢
  generalize cs.getD k c0 = c at *
  have HTo := Bx.mk fun (W : World) => cto_any c W
  have HW := Bx.mk fun (W : World) (h : FullB B w 16 l W) => want_not0 B B l 9 W h.book c HV.out.2 (by rw [h.len]; exact Nat.le_refl _)
  have R0 := Bx.mk (And.intro hL hR)
  have k1 : (k : Int) < 20 := by omega
  have k2 : (k : Int) < (na : Int) := by omega
  have k0 : (0 : Int) ≤ (k : Int) := by omega
  have m1 : (na : Int) ≤ 9223372036854775807 := by omega
  have hwk : IntKind.i64.wrap ((k : Int) + 1) = (k : Int) + 1 := by simp [IntKind.wrap_i64]; omega
  have hrg := rng_later HV.out.1 (hbw _ hL.keep)
  obtain ⟨g0, g1, g2, g3⟩ := rng4 hrg
  obtain ⟨a9, c9, rfl⟩ := hR.form
  obtain ⟨n9, hn9⟩ : ∃ n9, S.length = n9 := ⟨_, rfl⟩
  rw [hn9] at s9 R0 ⊢
  obtain ⟨y, rfl, hy⟩ := open86 hf.fr
  have e0 := (hy 0).symm.trans hf.s0
  have e5 := (hy 5).symm.trans hf.s5
  have e9 := (hy 9).symm.trans s9
  have e10 := (hy 10).symm.trans s10
  clear hf hy s9 s10 hL hR hk hk2 hn hna hv hrg hn9
  rw [e0, e5, e9, e10]
  clear e0 e5 e9 e10
  conv => arg 2; whnf
  obtain ⟨ci, cr, cx, cq⟩ := c
  unfold clV ptr at *
  simp only at HTo HW g0 g1 g2 g3
  go_wp2_with fail
  refine (HTo.out _).mono ?_
  rintro e w1 ⟨rfl, hb⟩
  have R1 := Bx.mk (And.intro (R0.out.1.later hb) (R0.out.2.later hb))
  clear hb R0 HTo g0 g1 g2 g3
  go_wp2_with fail
  refine (HW.out _ R1.out.1).mono ?_
  rintro e w2 ⟨⟨er, hne, rfl⟩, hb⟩
  have R2 := Bx.mk (And.intro (R1.out.1.later hb) (R1.out.2.later hb))
  have hne2 : (er == 0) = false := by simpa using hne
  clear hb R1 HW hne
  go_wp2
  exact ⟨⟨⟨rfl, rfl⟩, rfl, rfl⟩, rfl, by first | rfl | go_num, R2.out⟩
theorem lastF2 (w : World) (cs : List Cl) (v0 : Value) (B : Nat) (hv : ClsR w v0 cs) (hn : cs.length ≤ 9223372036854775807) (l : List En) (S : List Cl) (v9 : Value) (k : Nat) (hk : k ≤ cs.length) (hk6 : k ≤ 20) (hend : cs.length ≤ k ∨ k = 20)
    (Q : Exit → Act → World → Prop) (N : Act → World → Prop) (hq : ∀ a' w', FF v0 B a' → a'.eval (.tmp 9) = v9 → FullB B w 16 l w' ∧ RowC w' v9 S → Q (.exit 2) a' w') (a : Act) (wr : World) (h : IF2 w v0 B l S v9 k a wr) :
    Code.wp Try.prog (loopAt (Try.f4.body) 1) (Exit.then N Q) a wr := by
  obtain ⟨hf, s9, s10, hL⟩ := h
  have HL := Bx.mk hL
  have HQ := Bx.mk hq
  obtain ⟨a0, cap, rfl⟩ := hv.form
  obtain ⟨na, hna⟩ : ∃ m, cs.length = m := ⟨_, rfl⟩
  rw [hna] at hk hn hf hend HQ
  have k0 : (0 : Int) ≤ (k : Int) := by omega
  have m1 : (na : Int) ≤ 9223372036854775807 := by omega
  obtain ⟨a9, c9, rfl⟩ := hL.2.form
  obtain ⟨y, rfl, hy⟩ := open86 hf.fr
  have e0 := (hy 0).symm.trans hf.s0
  have e5 := (hy 5).symm.trans hf.s5
  have e9 := (hy 9).symm.trans s9
  have e10 := (hy 10).symm.trans s10
  clear hf hy s9 s10 hL hq hv hna
  rw [e0, e5, e9, e10]
  clear e0 e5 e9 e10
  conv => arg 2; whnf
  by_cases hlt : k < na
  · have h1 : (k : Int) < (na : Int) := by omega
    have h2 : ¬ (k : Int) < 20 := by omega
    clear hend hlt hk hk6 hn
    go_wp2
    exact HQ.out _ _ ⟨⟨rfl, rfl⟩, rfl, rfl⟩ rfl HL.out
  · have h1 : ¬ (k : Int) < (na : Int) := by omega
    clear hend hlt hk hk6 hn
    go_wp2
    exact HQ.out _ _ ⟨⟨rfl, rfl⟩, rfl, rfl⟩ rfl HL.out
theorem loopF2 (w : World) (cs : List Cl) (v0 : Value) (B : Nat) (hB0 : B ≤ w.heap.size) (hv : ClsR w v0 cs) (hbw : ∀ W, KB B w W → Below w.heap.size w W) (hn : cs.length ≤ 9223372036854775807) (l : List En) (S : List Cl) (v9 : Value) (Q : Exit → Act → World → Prop) (a : Act) (wr : World) (h : IF2 w v0 B l S v9 0 a wr) (hq : ∀ a' w', FF v0 B a' → a'.eval (.tmp 9) = v9 → FullB B w 16 l w' ∧ RowC w' v9 S → Q (.exit 2) a' w') :
    Code.wp Try.prog (.loop (loopAt (Try.f4.body) 1)) Q a wr :=
  wp_count (min cs.length 20) (fun k a w' => IF2 w v0 B l S v9 k a w') 0 (Nat.zero_le _) h (fun k a w' hk hI => roundF2 w cs v0 B hB0 hv hbw hn l S v9 Q k a w' (by omega) (by omega) hI) (fun a w' hI => lastF2 w cs v0 B hv hn l S v9 _ (by omega) (by omega) (by omega) Q _ hq a w' hI)
set_option maxRecDepth 100000 in
set_option maxHeartbeats 4000000 in
theorem roundF3 (w : World) (B : Nat) (S : List Cl) (hS : S.length = 16) (v9 v11 : Value) (Q : Exit → Act → World → Prop) (k : Nat) (a : Act) (wr : World) (hk : k < 16) (h : IF3 w B S v9 v11 k a wr) :
    Code.wp Try.prog (loopAt (Try.f4.body) 2) (Exit.then (fun a' w' => IF3 w B S v9 v11 (k + 1) a' w') Q) a wr := by
  obtain ⟨hf, s9, s11, s12, h1, h2, h3⟩ := h
  obtain ⟨a9, c9, rfl⟩ := h1.form
  obtain ⟨a11, c11, rfl⟩ := h2.form
  rw [hS] at s9 s11 h1 h2 ⊢
  obtain ⟨g, rfl, -, q1⟩ := h1.at_ k (by omega)
  obtain ⟨g', rfl, -, q2⟩ := h2.at_ k (by omega)
  have R0 := Bx.mk (And.intro h1 (And.intro h2 h3))
  have HR := Bx.mk (And.intro q1 q2)
  generalize S.getD k c0 = y at *
  obtain ⟨y0, y1, y2, y3⟩ := y
  simp only at HR
  have k0 : (0 : Int) ≤ (k : Int) := by omega
  have k1 : (k : Int) < 16 := by omega
  have hwk : IntKind.i64.wrap ((k : Int) + 1) = (k : Int) + 1 := by simp [IntKind.wrap_i64]; omega
  obtain ⟨y, rfl, hy⟩ := open86 hf
  have e9 := (hy 9).symm.trans s9
  have e11 := (hy 11).symm.trans s11
  have e12 := (hy 12).symm.trans s12
  clear hf hy s9 s11 s12 h1 h2 h3 q1 q2
  rw [e9, e11, e12]
  clear e9 e11 e12
  conv => arg 2; whnf
  go_upto_region 25 with fail
  have R1 : Bx (RowC wr.drew (.slice (some ⟨g, 0, none⟩) 16 c9) S ∧ RowC wr.drew (.slice (some ⟨g', 0, none⟩) 16 c11) S ∧ KB B w wr.drew) := Bx.mk ⟨R0.out.1.later (Below.refl _ wr).drew, R0.out.2.1.later (Below.refl _ wr).drew, R0.out.2.2.trans (KB.of (Below.refl _ wr).drew)⟩
  have HR1 : Bx (wr.drew.rangeAt g (k * 4) [.int .i64 y0, .int .i64 y1, .int .i64 y2, .int .i64 y3] ∧ wr.drew.rangeAt g' (k * 4) [.int .i64 y0, .int .i64 y1, .int .i64 y2, .int .i64 y3]) := Bx.mk ⟨HR.out.1, HR.out.2⟩
  clear R0 HR
  refine wp_region_noPanic ?_
  refine wp_region_held_drew (S := fun W => W.rangeAt g (k * 4) [.int .i64 y0, .int .i64 y1, .int .i64 y2, .int .i64 y3] ∧ W.rangeAt g' (k * 4) [.int .i64 y0, .int .i64 y1, .int .i64 y2, .int .i64 y3]) (by kernel_rfl) (HR1.out) (fun hHeld => ?_)
  generalize wr.drew = W0 at *
  refine takeL 0 (v := ?_) rfl (by kernel_rfl) (by kernel_rfl) (by kernel_rfl) (fun _ _ _ h => h) (Or.inl ⟨by rfl, ?_⟩) hHeld ?_
  rotate_left 1
  · (intro w hSw; go_simp; try with_reducible rfl)
  try simp only [Act.put, List.setIfInBounds_toArray, List.set_cons_zero, List.set_cons_succ]
  refine takeL 1 (v := ?_) rfl (by kernel_rfl) (by kernel_rfl) (by kernel_rfl) (fun _ _ _ h => h) (Or.inl ⟨by rfl, ?_⟩) hHeld ?_
  rotate_left 1
  · (intro w hSw; go_simp; try with_reducible rfl)
  try simp only [Act.put, List.setIfInBounds_toArray, List.set_cons_zero, List.set_cons_succ]
  refine takeL 2 (v := ?_) rfl (by kernel_rfl) (by kernel_rfl) (by kernel_rfl) (fun _ _ _ h => h) (Or.inl ⟨by rfl, ?_⟩) hHeld ?_
  rotate_left 1
  · (intro w hSw; go_simp; try with_reducible rfl)
  try simp only [Act.put, List.setIfInBounds_toArray, List.set_cons_zero, List.set_cons_succ]
  refine takeL 3 rfl (by kernel_rfl) (by kernel_rfl) (by kernel_rfl) (fun _ _ _ h => h) (yieldsIf_load_mid (by rfl) _ _ rfl _ _ rfl _ _ (fun w hSw => hSw.1) Try.underlying34 rfl (by kernel_rfl)) hHeld ?_
  try simp only [Act.put, List.setIfInBounds_toArray, List.set_cons_zero, List.set_cons_succ]
  refine takeL 4 (v := ?_) rfl (by kernel_rfl) (by kernel_rfl) (by kernel_rfl) (fun _ _ _ h => h) (Or.inl ⟨by rfl, ?_⟩) hHeld ?_
  rotate_left 1
  · (intro w hSw; go_simp; try with_reducible rfl)
  try simp only [Act.put, List.setIfInBounds_toArray, List.set_cons_zero, List.set_cons_succ]
  refine takeL 5 (v := ?_) rfl (by kernel_rfl) (by kernel_rfl) (by kernel_rfl) (fun _ _ _ h => h) (Or.inl ⟨by rfl, ?_⟩) hHeld ?_
  rotate_left 1
  · (intro w hSw; go_simp; try with_reducible rfl)
  try simp only [Act.put, List.setIfInBounds_toArray, List.set_cons_zero, List.set_cons_succ]
  refine takeL 6 (v := ?_) rfl (by kernel_rfl) (by kernel_rfl) (by kernel_rfl) (fun _ _ _ h => h) (Or.inl ⟨by rfl, ?_⟩) hHeld ?_
  rotate_left 1
  · (intro w hSw; go_simp; try with_reducible rfl)
  try simp only [Act.put, List.setIfInBounds_toArray, List.set_cons_zero, List.set_cons_succ]
  refine takeL 7 rfl (by kernel_rfl) (by kernel_rfl) (by kernel_rfl) (fun _ _ _ h => h) (yieldsIf_load_mid (by rfl) _ _ rfl _ _ rfl _ _ (fun w hSw => hSw.2) Try.underlying34 rfl (by kernel_rfl)) hHeld ?_
  try simp only [Act.put, List.setIfInBounds_toArray, List.set_cons_zero, List.set_cons_succ]
  refine takeL 8 (v := ?_) rfl (by kernel_rfl) (by kernel_rfl) (by kernel_rfl) (fun _ _ _ h => h) (Or.inl ⟨by rfl, ?_⟩) hHeld ?_
  rotate_left 1
  · (intro w hSw; go_simp; try with_reducible rfl)
  try simp only [Act.put, List.setIfInBounds_toArray, List.set_cons_zero, List.set_cons_succ]
  refine wpAnyH_done (by kernel_rfl) ?_ _
  refine NoPanic.normal ?_
  clear hHeld
  go_wp2
  exact ⟨⟨rfl, rfl⟩, rfl, rfl, by first | rfl | go_num, R1.out⟩
set_option maxRecDepth 100000 in
set_option maxHeartbeats 4000000 in
theorem loopF3 (w : World) (B : Nat) (S : List Cl) (hS : S.length = 16) (v9 v11 : Value) (Q : Exit → Act → World → Prop) (a : Act) (wr : World) (h : IF3 w B S v9 v11 0 a wr) (hq : ∀ a' w', Fr 86 a' → KB B w w' → Q (.exit 4) a' w') :
    Code.wp Try.prog (.loop (loopAt (Try.f4.body) 2)) Q a wr := by
  refine wp_count 16 (fun k a w' => IF3 w B S v9 v11 k a w') 0 (Nat.zero_le _) h (fun k a w' hk hI => roundF3 w B S hS v9 v11 Q k a w' hk hI) (fun a w' hI => ?_)
  obtain ⟨hf, s9, s11, s12, h1, h2, h3⟩ := hI
  have HB := Bx.mk h3
  have HQ := Bx.mk hq
  obtain ⟨a9, c9, rfl⟩ := h1.form
  obtain ⟨a11, c11, rfl⟩ := h2.form
  obtain ⟨y, rfl, hy⟩ := open86 hf
  have e9 := (hy 9).symm.trans s9
  have e11 := (hy 11).symm.trans s11
  have e12 := (hy 12).symm.trans s12
  clear hf hy s9 s11 s12 h1 h2 h3 hq
  rw [e9, e11, e12]
  clear e9 e11 e12
  conv => arg 2; whnf
  go_wp2
  exact HQ.out _ _ ⟨rfl, rfl⟩ HB.out
end Go.Proofs.Ytdbdpehagkglfaa
namespace Go.Proofs.Ytdbdpehagkglfaa
open Go Go.RowKit
set_option maxRecDepth 100000 in
set_option maxHeartbeats 4000000 in
theorem full_walk (cs : List Cl) (v0 : Value) (tk : Int) (w : World) (hv : ClsR w v0 cs) (hn : cs.length ≤ 9223372036854775807) :
    Calls Try.prog 4 #[v0, .int .i64 tk] w fun x w' => x = .returned (.bool true) ∧ Below w.heap.size w w' := by
  have HNw := Bx.mk (new15 w)
  obtain ⟨B, hB⟩ : ∃ B, w.heap.size = B := ⟨_, rfl⟩
  have H1 := Bx.mk fun (Q : Exit → Act → World → Prop) (a : Act) (wr : World) => loopF1 w v0 B (Nat.le_of_eq hB.symm) Q a wr
  have H2 := Bx.mk fun (l : List En) (S : List Cl) (v9 : Value) (Q : Exit → Act → World → Prop) (a : Act) (wr : World) => loopF2 w cs v0 B (Nat.le_of_eq hB.symm) hv (fun W h => by rw [hB]; exact h.below (Nat.le_of_eq hB.symm)) hn l S v9 Q a wr
  have H3 := Bx.mk fun (S : List Cl) (hS : S.length = 16) (v9 v11 : Value) (Q : Exit → Act → World → Prop) (a : Act) (wr : World) => loopF3 w B S hS v9 v11 Q a wr
  have HWn := Bx.mk fun (l : List En) (W : World) (h : FullB B w 16 l W) => wanted15_any B B l W h.book (by rw [h.len]; omega)
  have HKn := Bx.mk known15_ex
  have HF0 : Bx (∀ W, BookAt B B [] W → Below B w W → FullB B w 0 [] W) := Bx.mk fun W h1 h2 => ⟨h1, rfl, (fun e he => by cases he), KB.of (by rw [hB]; exact h2)⟩
  obtain ⟨va, vc, rfl⟩ := hv.form
  generalize cs.length = n at *
  clear hv hn
  rw [hB] at HNw ⊢
  unfold ptr at *
  go_enter Try.func4, Try.ntmps4
  go_wp2_with fail
  refine HNw.out.mono ?_
  rintro e w1 ⟨rfl, h1, h2⟩
  have R1 := Bx.mk (HF0.out w1 h1 h2)
  clear h1 h2 HNw HF0
  go_wp2
  refine H1.out _ _ _ ⟨⟨⟨rfl, rfl⟩, rfl, rfl⟩, rfl, rfl, _, R1.out⟩ ?_
  intro a6 w6 l hf hL
  have R6 := Bx.mk hL
  have HS : Bx (∀ S, S = whoE (fun e => e.k.isNone) l → S.length = 16) := Bx.mk fun S hS => by rw [hS]; exact hL.who
  obtain ⟨y, rfl, hy⟩ := open86 hf.fr
  have e0 := (hy 0).symm.trans hf.s0
  have e5 := (hy 5).symm.trans hf.s5
  clear hf hy hL R1 H1
  rw [e0, e5]
  clear e0 e5
  go_wp2_with fail
  refine (HWn.out l _ R6.out).mono ?_
  rintro e w7 ⟨v9, rfl, h1, h2⟩
  obtain ⟨S, hS⟩ : ∃ S, whoE (fun e => e.k.isNone) l = S := ⟨_, rfl⟩
  rw [hS] at h1
  have HSl := Bx.mk (HS.out S hS.symm)
  have R7 := Bx.mk (And.intro (R6.out.later h2) h1.1)
  clear h1 h2 R6 HS
  go_wp2
  refine H2.out l S v9 _ _ _ ⟨⟨⟨rfl, rfl⟩, rfl, rfl⟩, rfl, rfl, R7.out⟩ ?_
  intro a8 w8 hf s9 hL
  have R8 := Bx.mk hL
  obtain ⟨y, rfl, hy⟩ := open86 hf.fr
  have e0 := (hy 0).symm.trans hf.s0
  have e5 := (hy 5).symm.trans hf.s5
  have e9 := (hy 9).symm.trans s9
  clear hf hy s9 hL R7 H2
  rw [e0, e5, e9]
  clear e0 e5 e9
  go_wp2_with fail
  refine (HWn.out l _ R8.out.1).mono ?_
  rintro e w9 ⟨v11, rfl, h1, h2⟩
  rw [hS] at h1
  have R9 := Bx.mk (And.intro (R8.out.2.later h2) (And.intro h1.1 (R8.out.1.later h2).keep))
  obtain ⟨a9, c9, rfl⟩ := R9.out.1.form
  obtain ⟨a11, c11, rfl⟩ := R9.out.2.1.form
  rw [HSl.out] at R9 ⊢
  clear h1 h2 R8 HWn hS
  go_wp2
  refine H3.out S HSl.out _ _ _ _ _ ⟨⟨rfl, rfl⟩, rfl, rfl, rfl, R9.out⟩ ?_
  intro a10 w10 hf hL
  have R10 := Bx.mk hL
  obtain ⟨y, rfl, hy⟩ := open86 hf
  clear hf hy hL R9 H3
  go_wp2_with fail
  refine (HKn.out _).mono ?_
  rintro e w12 ⟨rfl, hb⟩
  have HB : Bx (Below B w w12) := Bx.mk ((R10.out.trans (KB.of hb)).below (Nat.le_of_eq hB.symm))
  clear hb R10 HKn
  go_wp2
  go_ret
  exact ⟨rfl, HB.out⟩
end Go.Proofs.Ytdbdpehagkglfaa
namespace Go.Proofs.Ytdbdpehagkglfaa
open Go
/-- A world to begin with. -/
noncomputable def laidWorld (os : Os) : World := World.holding Try.prog os ⟨#[], #[], []⟩
end Go.Proofs.Ytdbdpehagkglfaa
