/-
  The document's digest: the words of a block.
-/
import Derived.Test.YtkfgpnigeknhmaaDoorRf
namespace Go.Proofs.YtkfgpnigeknhmaaDoor
open Go Go.RowKit
/-- What holds at the head of each byte of a word. -/
structure I5 (v2 v4 v5 v8 v9 : Value) (Wb : Nat) (W0 : World) (m : List UInt8) (o : Nat) (sl : List (BitVec 32)) (j q : Nat) (a : Act) (wr : World) : Prop where
  lv : Lv v2 v4 v5 v8 v9 a
  s10 : a.eval (.tmp 10) = .pointer (some ⟨Wb, 0, none⟩)
  s11 : a.eval (.tmp 11) = .int .i64 (j : Int)
  s12 : a.eval (.tmp 12) = .int .i64 (q : Int)
  row : wr.heap[Wb]? = some (.cells (u32s (sl.set j (wk m (o + 4 * j) q))) 29 (0, 0))
  kept : W0.grownBy wr (some Wb)
set_option maxRecDepth 100000 in
set_option maxHeartbeats 1000000 in
theorem round5 (v2 v4 v8 : Value) (G L C Wb : Nat) (W0 : World) (m : List UInt8) (o : Nat) (sl : List (BitVec 32)) (j : Nat) (Q : Exit → Act → World → Prop)
    (hB : ∀ i, i < 64 → W0.cell? ⟨G, o + i, none⟩ = some (.int .u8 (ub (m.getD (o + i) 0)))) (hg : G ≠ Wb) (hL : o + 64 ≤ L) (hL1 : L ≤ 1099511628000) (hsl : sl.length = 64) (hj : j < 16)
    (q : Nat) (hq : q < 4) (a : Act) (wr : World) (h : I5 v2 v4 (.slice (some ⟨G, 0, none⟩) L C) v8 (.int .i64 (o : Int)) Wb W0 m o sl j q a wr) :
    Code.wp Tryd.prog (loopAt Tryd.f12.body 4) (Exit.then (fun a' w' => I5 v2 v4 (.slice (some ⟨G, 0, none⟩) L C) v8 (.int .i64 (o : Int)) Wb W0 m o sl j (q + 1) a' w') Q) a wr := by
  have c1 := cell_u32 h.row j (by rw [List.length_set]; omega)
  have f1 := frozen_of_row wr Wb j _ _ h.row
  have c2 := h.kept.cell (hB (4 * j + q) (by omega)) (by simpa using hg)
  rw [← Nat.add_assoc] at c2
  have HS : Bx (∀ n, ((wr.drewN n).setCell ⟨Wb, j, none⟩ (.int .u32 (uv (wk m (o + 4 * j) q <<< 8 + wide (m.getD (o + 4 * j + q) 0))))).heap[Wb]? = some (.cells (u32s (sl.set j (wk m (o + 4 * j) (q + 1)))) 29 (0, 0))) := Bx.mk (fun n => by
    rw [heap_setCell_same (wr.drewN n) _ _ _ _ _ h.row, u32s_set, List.set_set]; rfl)
  have ex : (sl.set j (wk m (o + 4 * j) q)).getD j 0 = wk m (o + 4 * j) q := by
    have h : j < sl.length := by omega
    simp [h]
  rw [ex] at c1
  have HK := Bx.mk h.kept
  obtain ⟨x, rfl, hx⟩ := open266 h.lv.fr
  have e2 := (hx 2).symm.trans h.lv.s2
  have e4 := (hx 4).symm.trans h.lv.s4
  have e5 := (hx 5).symm.trans h.lv.s5
  have e8 := (hx 8).symm.trans h.lv.s8
  have e9 := (hx 9).symm.trans h.lv.s9
  have e10 := (hx 10).symm.trans h.s10
  have e11 := (hx 11).symm.trans h.s11
  have e12 := (hx 12).symm.trans h.s12
  clear h hx hB hg hsl ex
  rw [e2, e4, e5, e8, e9, e10, e11, e12]
  clear e2 e4 e5 e8 e9 e10 e11 e12
  obtain ⟨x0, hx0⟩ : ∃ x, wk m (o + 4 * j) q = x := ⟨_, rfl⟩
  obtain ⟨y0, hy0⟩ : ∃ y, m.getD (o + 4 * j + q) 0 = y := ⟨_, rfl⟩
  rw [hx0] at c1 HS
  rw [hy0] at c2 HS
  clear hx0 hy0
  have hb1 : (o : Int) + 4 * (j : Int) + (q : Int) < (L : Int) := by omega
  have hj1 : (j : Int) < 64 := by omega
  have hq1 : (q : Int) < 4 := by omega
  have hL2 : (L : Int) ≤ 1099511628000 := by omega
  have HL := Bx.mk hL
  have w1' : IntKind.i64.wrap (4 * (j : Int)) = 4 * (j : Int) := IntWalk.i64_in _ (by omega)
  have w2' : IntKind.i64.wrap ((o : Int) + 4 * (j : Int)) = (o : Int) + 4 * (j : Int) := IntWalk.i64_in _ (by omega)
  have w3' : IntKind.i64.wrap ((o : Int) + 4 * (j : Int) + (q : Int)) = (o : Int) + 4 * (j : Int) + (q : Int) := IntWalk.i64_in _ (by omega)
  have hb0 : 0 ≤ (o : Int) + 4 * (j : Int) + (q : Int) := by omega
  have tn : ((o : Int) + 4 * (j : Int) + (q : Int)).toNat = o + 4 * j + q := by omega
  conv => arg 2; whnf
  go_wp2
  go_still_tail 17, (by kernel_rfl)
  change wpList _ _ _ _ _ (wr.drewN 1)
  clear w1' w2' w3' tn hb0
  have H1 := HS.out 1
  go_wp2
  exact ⟨⟨⟨rfl, rfl⟩, rfl, rfl, rfl, rfl, rfl⟩, rfl, rfl, by go_num, by rw [byte_more]; exact HS.out 1, kb_trans (kb_trans HK.out (kb_drewN _ _ 1)) (kb_setCell _ _ _)⟩
set_option maxRecDepth 100000 in
theorem last5 (v2 v4 v5 v8 v9 : Value) (Wb : Nat) (W0 : World) (m : List UInt8) (o : Nat) (sl : List (BitVec 32)) (j : Nat) (Q : Exit → Act → World → Prop) (N : Act → World → Prop)
    (hq : ∀ a' w', I5 v2 v4 v5 v8 v9 Wb W0 m o sl j 4 a' w' → Q (.exit 8) a' w') (a : Act) (wr : World) (h : I5 v2 v4 v5 v8 v9 Wb W0 m o sl j 4 a wr) :
    Code.wp Tryd.prog (loopAt Tryd.f12.body 4) (Exit.then N Q) a wr := by
  have HR := Bx.mk h.row
  have HK := Bx.mk h.kept
  have HQ := Bx.mk hq
  clear hq
  obtain ⟨x, rfl, hx⟩ := open266 h.lv.fr
  have e2 := (hx 2).symm.trans h.lv.s2
  have e4 := (hx 4).symm.trans h.lv.s4
  have e5 := (hx 5).symm.trans h.lv.s5
  have e8 := (hx 8).symm.trans h.lv.s8
  have e9 := (hx 9).symm.trans h.lv.s9
  have e10 := (hx 10).symm.trans h.s10
  have e11 := (hx 11).symm.trans h.s11
  have e12 : x 12 = .int .i64 4 := (hx 12).symm.trans h.s12
  clear h hx 
  rw [e2, e4, e5, e8, e9, e10, e11, e12]
  clear e2 e4 e5 e8 e9 e10 e11 e12
  conv => arg 2; whnf
  go_wp2
  exact HQ.out _ _ ⟨⟨⟨rfl, rfl⟩, rfl, rfl, rfl, rfl, rfl⟩, rfl, rfl, rfl, HR.out, HK.out⟩
/-- The four bytes of a word. -/
theorem loop5 (v2 v4 v8 : Value) (G L C Wb : Nat) (W0 : World) (m : List UInt8) (o : Nat) (sl : List (BitVec 32)) (j : Nat) (Q : Exit → Act → World → Prop)
    (hB : ∀ i, i < 64 → W0.cell? ⟨G, o + i, none⟩ = some (.int .u8 (ub (m.getD (o + i) 0)))) (hg : G ≠ Wb) (hL : o + 64 ≤ L) (hL1 : L ≤ 1099511628000) (hsl : sl.length = 64) (hj : j < 16)
    (a : Act) (wr : World) (h : I5 v2 v4 (.slice (some ⟨G, 0, none⟩) L C) v8 (.int .i64 (o : Int)) Wb W0 m o sl j 0 a wr) (hq : ∀ a' w', I5 v2 v4 (.slice (some ⟨G, 0, none⟩) L C) v8 (.int .i64 (o : Int)) Wb W0 m o sl j 4 a' w' → Q (.exit 8) a' w') :
    Code.wp Tryd.prog (.loop (loopAt Tryd.f12.body 4)) Q a wr :=
  wp_count 4 (fun q => I5 v2 v4 (.slice (some ⟨G, 0, none⟩) L C) v8 (.int .i64 (o : Int)) Wb W0 m o sl j q) 0 (by omega) h (fun q a w hlt hI => round5 v2 v4 v8 G L C Wb W0 m o sl j Q hB hg hL hL1 hsl hj q hlt a w hI) (fun a w hI => last5 v2 v4 (.slice (some ⟨G, 0, none⟩) L C) v8 (.int .i64 (o : Int)) Wb W0 m o sl j Q _ hq a w hI)
/-- What holds at the head of each word. -/
structure I4 (v2 v4 v5 v8 v9 : Value) (Wb : Nat) (W0 : World) (bl : List UInt8) (j : Nat) (a : Act) (wr : World) : Prop where
  lv : Lv v2 v4 v5 v8 v9 a
  s10 : a.eval (.tmp 10) = .pointer (some ⟨Wb, 0, none⟩)
  s11 : a.eval (.tmp 11) = .int .i64 (j : Int)
  row : wr.heap[Wb]? = some (.cells (u32s (stW bl j)) 29 (0, 0))
  kept : W0.grownBy wr (some Wb)
set_option maxRecDepth 100000 in
set_option maxHeartbeats 1000000 in
theorem round4a (v2 v4 v8 : Value) (G L C Wb : Nat) (W0 : World) (m bl : List UInt8) (o : Nat) (Q : Exit → Act → World → Prop)
    (hB : ∀ i, i < 64 → W0.cell? ⟨G, o + i, none⟩ = some (.int .u8 (ub (m.getD (o + i) 0)))) (hbl : ∀ j, j < 16 → blockWord bl j = wk m (o + 4 * j) 4) (hg : G ≠ Wb) (hL : o + 64 ≤ L) (hL1 : L ≤ 1099511628000)
    (j : Nat) (hj : j < 16) (a : Act) (wr : World) (h : I4 v2 v4 (.slice (some ⟨G, 0, none⟩) L C) v8 (.int .i64 (o : Int)) Wb W0 bl j a wr) :
    Code.wp Tryd.prog (loopAt Tryd.f12.body 3) (Exit.then (fun a' w' => I4 v2 v4 (.slice (some ⟨G, 0, none⟩) L C) v8 (.int .i64 (o : Int)) Wb W0 bl (j + 1) a' w') Q) a wr := by
  have H0 : Bx (wr.heap[Wb]? = some (.cells (u32s ((stW bl j).set j (wk m (o + 4 * j) 0))) 29 (0, 0))) := Bx.mk (by
    rw [show wk m (o + 4 * j) 0 = 0 from rfl, set_same _ _ (stW_zero bl j j (Nat.le_refl _))]; exact h.row)
  have HK := Bx.mk h.kept
  have HNx : Bx (stW bl (j + 1) = (stW bl j).set j (wk m (o + 4 * j) 4)) := Bx.mk (by rw [stW, if_pos hj, hbl j hj])
  have HLj : Bx ((stW bl j).length = 64) := Bx.mk (stW_length bl j)
  have HB := Bx.mk hB
  have HG := Bx.mk (And.intro hg (And.intro hL hL1))
  obtain ⟨x, rfl, hx⟩ := open266 h.lv.fr
  have e2 := (hx 2).symm.trans h.lv.s2
  have e4 := (hx 4).symm.trans h.lv.s4
  have e5 := (hx 5).symm.trans h.lv.s5
  have e8 := (hx 8).symm.trans h.lv.s8
  have e9 := (hx 9).symm.trans h.lv.s9
  have e10 := (hx 10).symm.trans h.s10
  have e11 := (hx 11).symm.trans h.s11
  clear h hx hB hbl hg hL hL1
  rw [e2, e4, e5, e8, e9, e10, e11]
  clear e2 e4 e5 e8 e9 e10 e11
  generalize stW bl j = sl at *
  have HJ := Bx.mk hj
  have hj1 : (j : Int) < 64 := by omega
  have hj2 : (j : Int) < 16 := by omega
  conv => arg 2; whnf
  go_wp2
  refine loop5 v2 v4 v8 G L C Wb W0 m o sl j _ HB.out HG.out.1 HG.out.2.1 HG.out.2.2 HLj.out HJ.out _ _ ⟨⟨⟨rfl, rfl⟩, rfl, rfl, rfl, rfl, rfl⟩, rfl, rfl, rfl, H0.out, HK.out⟩ ?_
  intro a' w' h
  clear H0 HK
  have HK := Bx.mk h.kept
  have HR := Bx.mk h.row
  obtain ⟨x, rfl, hx⟩ := open266 h.lv.fr
  have e2 := (hx 2).symm.trans h.lv.s2
  have e4 := (hx 4).symm.trans h.lv.s4
  have e5 := (hx 5).symm.trans h.lv.s5
  have e8 := (hx 8).symm.trans h.lv.s8
  have e9 := (hx 9).symm.trans h.lv.s9
  have e10 := (hx 10).symm.trans h.s10
  have e11 := (hx 11).symm.trans h.s11
  clear h hx 
  rw [e2, e4, e5, e8, e9, e10, e11]
  clear e2 e4 e5 e8 e9 e10 e11
  go_wp2
  exact ⟨⟨⟨rfl, rfl⟩, rfl, rfl, rfl, rfl, rfl⟩, rfl, by go_num, by rw [HNx.out]; exact HR.out, HK.out⟩
set_option maxRecDepth 100000 in
set_option maxHeartbeats 1000000 in
theorem round4b (v2 v4 v5 v8 v9 : Value) (Wb : Nat) (W0 : World) (bl : List UInt8) (Q : Exit → Act → World → Prop)
    (j : Nat) (hj : ¬ j < 16) (hj64 : j < 64) (a : Act) (wr : World) (h : I4 v2 v4 v5 v8 v9 Wb W0 bl j a wr) :
    Code.wp Tryd.prog (loopAt Tryd.f12.body 3) (Exit.then (fun a' w' => I4 v2 v4 v5 v8 v9 Wb W0 bl (j + 1) a' w') Q) a wr := by
  have HLj : Bx ((stW bl j).length = 64) := Bx.mk (stW_length bl j)
  have c0 := cell_u32 h.row (j - 16) (by rw [HLj.out]; omega)
  have c1 := cell_u32 h.row (j - 15) (by rw [HLj.out]; omega)
  have c2 := cell_u32 h.row (j - 7) (by rw [HLj.out]; omega)
  have c3 := cell_u32 h.row (j - 2) (by rw [HLj.out]; omega)
  have c4 := cell_u32 h.row j (by rw [HLj.out]; omega)
  have f4 := frozen_of_row wr Wb j _ _ h.row
  have HS : Bx (∀ n, ((wr.drewN n).setCell ⟨Wb, j, none⟩ (.int .u32 (uv ((stW bl j).getD (j - 16) 0 + sig ((stW bl j).getD (j - 15) 0) 7 18 3 + (stW bl j).getD (j - 7) 0 + sig ((stW bl j).getD (j - 2) 0) 17 19 10)))).heap[Wb]? = some (.cells (u32s (stW bl (j + 1))) 29 (0, 0))) := Bx.mk (fun n => by
    rw [heap_setCell_same (wr.drewN n) _ _ _ _ _ h.row, u32s_set, stW, if_neg hj]; rfl)
  have HK := Bx.mk h.kept
  obtain ⟨x, rfl, hx⟩ := open266 h.lv.fr
  have e2 := (hx 2).symm.trans h.lv.s2
  have e4 := (hx 4).symm.trans h.lv.s4
  have e5 := (hx 5).symm.trans h.lv.s5
  have e8 := (hx 8).symm.trans h.lv.s8
  have e9 := (hx 9).symm.trans h.lv.s9
  have e10 := (hx 10).symm.trans h.s10
  have e11 := (hx 11).symm.trans h.s11
  clear h hx 
  rw [e2, e4, e5, e8, e9, e10, e11]
  clear e2 e4 e5 e8 e9 e10 e11
  generalize stW bl j = sl at *
  generalize sl.getD (j - 16) 0 = x0 at *
  generalize sl.getD (j - 15) 0 = x1 at *
  generalize sl.getD (j - 7) 0 = x2 at *
  generalize sl.getD (j - 2) 0 = x3 at *
  generalize sl.getD j 0 = x4 at *
  clear HLj
  have hj1 : (j : Int) < 64 := by omega
  have hj2 : ¬ (j : Int) < 16 := by omega
  have b16 : ((j - 16 : Nat) : Int) < 64 := by omega
  have b15 : ((j - 15 : Nat) : Int) < 64 := by omega
  have b7 : ((j - 7 : Nat) : Int) < 64 := by omega
  have b2 : ((j - 2 : Nat) : Int) < 64 := by omega
  have e16 : IntKind.i64.wrap ((j : Int) - 16) = ((j - 16 : Nat) : Int) := by rw [IntKind.wrap_i64]; omega
  have e15 : IntKind.i64.wrap ((j : Int) - 15) = ((j - 15 : Nat) : Int) := by rw [IntKind.wrap_i64]; omega
  have e7 : IntKind.i64.wrap ((j : Int) - 7) = ((j - 7 : Nat) : Int) := by rw [IntKind.wrap_i64]; omega
  have e2 : IntKind.i64.wrap ((j : Int) - 2) = ((j - 2 : Nat) : Int) := by rw [IntKind.wrap_i64]; omega
  have HJ := Bx.mk hj
  clear hj
  conv => arg 2; whnf
  go_wp2
  go_big_quiet ((go_at_call 40; with_reducible exact Calls.quiet_of (right_int _ _ _ (by decide) (by decide))))
  go_upto_region 23 with (fail)
  rename Nat => n1
  go_big_quiet ((go_at_call 40; with_reducible exact qz (right_int _ _ _ (by decide) (by decide))))
  go_upto_region 24 with (fail)
  rw [sig_uv, sig_uw, World.drewN_drewN]
  obtain ⟨w2, hw2⟩ : ∃ w2, wr.drewN (n1 + nq) = w2 := ⟨_, rfl⟩
  rw [hw2]
  have HS2 : Bx (∀ v, (w2.drewN 1).setCell ⟨Wb, j, none⟩ v = (wr.drewN (n1 + nq + 1)).setCell ⟨Wb, j, none⟩ v) := Bx.mk (fun v => by rw [← hw2, World.drewN_drewN])
  have d0 : w2.cell? ⟨Wb, j - 16, none⟩ = some (.int .u32 (uv x0)) := by rw [← hw2]; exact c0
  have d2 : w2.cell? ⟨Wb, j - 7, none⟩ = some (.int .u32 (uv x2)) := by rw [← hw2]; exact c2
  have d4 : w2.cell? ⟨Wb, j, none⟩ = some (.int .u32 (uv x4)) := by rw [← hw2]; exact c4
  have g4 : w2.frozen? ⟨Wb, j, none⟩ = false := by rw [← hw2]; exact f4
  clear hw2 c0 c1 c2 c3 c4 f4 e15 e2
  go_still_tail 15, (by kernel_rfl)
  change wpList _ _ _ _ _ (w2.drewN 1)
  clear d0 d2 e16 e7
  go_wp2
  rw [HS2.out]
  exact ⟨⟨⟨rfl, rfl⟩, rfl, rfl, rfl, rfl, rfl⟩, rfl, by go_num, by rw [four_sum]; exact HS.out _, kb_trans (kb_trans HK.out (kb_drewN _ _ _)) (kb_setCell _ _ _)⟩
set_option maxRecDepth 100000 in
theorem last4 (v2 v4 v5 v8 v9 : Value) (Wb : Nat) (W0 : World) (bl : List UInt8) (Q : Exit → Act → World → Prop) (N : Act → World → Prop)
    (hq : ∀ a' w', I4 v2 v4 v5 v8 v9 Wb W0 bl 64 a' w' → Q (.exit 6) a' w') (a : Act) (wr : World) (h : I4 v2 v4 v5 v8 v9 Wb W0 bl 64 a wr) :
    Code.wp Tryd.prog (loopAt Tryd.f12.body 3) (Exit.then N Q) a wr := by
  have HR := Bx.mk h.row
  have HK := Bx.mk h.kept
  have HQ := Bx.mk hq
  clear hq
  obtain ⟨x, rfl, hx⟩ := open266 h.lv.fr
  have e2 := (hx 2).symm.trans h.lv.s2
  have e4 := (hx 4).symm.trans h.lv.s4
  have e5 := (hx 5).symm.trans h.lv.s5
  have e8 := (hx 8).symm.trans h.lv.s8
  have e9 := (hx 9).symm.trans h.lv.s9
  have e10 := (hx 10).symm.trans h.s10
  have e11 : x 11 = .int .i64 64 := (hx 11).symm.trans h.s11
  clear h hx 
  rw [e2, e4, e5, e8, e9, e10, e11]
  clear e2 e4 e5 e8 e9 e10 e11
  conv => arg 2; whnf
  go_wp2
  exact HQ.out _ _ ⟨⟨⟨rfl, rfl⟩, rfl, rfl, rfl, rfl, rfl⟩, rfl, rfl, HR.out, HK.out⟩
/-- The 64 words of a block. -/
theorem loop4 (v2 v4 v8 : Value) (G L C Wb : Nat) (W0 : World) (m bl : List UInt8) (o : Nat) (Q : Exit → Act → World → Prop)
    (hB : ∀ i, i < 64 → W0.cell? ⟨G, o + i, none⟩ = some (.int .u8 (ub (m.getD (o + i) 0)))) (hbl : ∀ j, j < 16 → blockWord bl j = wk m (o + 4 * j) 4) (hg : G ≠ Wb) (hL : o + 64 ≤ L) (hL1 : L ≤ 1099511628000)
    (a : Act) (wr : World) (h : I4 v2 v4 (.slice (some ⟨G, 0, none⟩) L C) v8 (.int .i64 (o : Int)) Wb W0 bl 0 a wr) (hq : ∀ a' w', I4 v2 v4 (.slice (some ⟨G, 0, none⟩) L C) v8 (.int .i64 (o : Int)) Wb W0 bl 64 a' w' → Q (.exit 6) a' w') :
    Code.wp Tryd.prog (.loop (loopAt Tryd.f12.body 3)) Q a wr :=
  wp_count 64 (fun q => I4 v2 v4 (.slice (some ⟨G, 0, none⟩) L C) v8 (.int .i64 (o : Int)) Wb W0 bl q) 0 (by omega) h (fun q a w hlt hI => by
    by_cases h16 : q < 16
    · exact round4a v2 v4 v8 G L C Wb W0 m bl o Q hB hbl hg hL hL1 q h16 a w hI
    · exact round4b v2 v4 (.slice (some ⟨G, 0, none⟩) L C) v8 (.int .i64 (o : Int)) Wb W0 bl Q q h16 hlt a w hI) (fun a w hI => last4 v2 v4 (.slice (some ⟨G, 0, none⟩) L C) v8 (.int .i64 (o : Int)) Wb W0 bl Q _ hq a w hI)
end Go.Proofs.YtkfgpnigeknhmaaDoor
