/-
  Equal packets, one and the other.
-/
import Derived.Test.YtaoekfomffebhaaDoorP6
namespace Go.Proofs.YtaoekfomffebhaaDoor
open Go Go.ChangeShapes Go.WideShapes Go.ChangeAt Go.RowKit
set_option maxRecDepth 100000 in
set_option maxHeartbeats 4000000 in
theorem rsame14_0 (xk : Int) (xc : Cl) (xto : Int) (xn : Nn) (xb : List UInt8) (xt : List UInt8) (yk : Int) (yc : Cl) (yto : Int) (yn : Nn) (yb : List UInt8) (yt : List UInt8) (a0 a1 : Option Addr) (c0 c1 : Nat) (w : World) (hx : xt.length = 32) (hy : yt.length = 32) (hb : Bytes w (.slice a0 xb.length c0) xb) (hc : Bytes w (.slice a1 yb.length c1) yb) (hlx : xb.length ≤ 1000000) (hly : yb.length ≤ 1000000) (hne : xk ≠ yk) :
    Calls Tryd.prog 15 #[pkV ⟨xk, xc, xto, xn, xb, xt⟩ (.slice a0 xb.length c0), pkV ⟨yk, yc, yto, yn, yb, yt⟩ (.slice a1 yb.length c1)] w fun e w' => e = .returned (.bool false) ∧ Below w.heap.size w w' := by
  obtain ⟨B, hB⟩ : ∃ B, w.heap.size = B := ⟨_, rfl⟩
  have H0 := Bx.mk (((KP.start w B hB).new (.cells (pkC ⟨xk, xc, xto, xn, xb, xt⟩ (.slice a0 xb.length c0)) 29)).new (.cells (pkC ⟨yk, yc, yto, yn, yb, yt⟩ (.slice a1 yb.length c1)) 29))
  rw [alloc_sizeP, hB] at H0
  have HBx := Bx.mk (hb.old hB H0.out.below)
  have HBy := Bx.mk (hc.old hB H0.out.below)
  obtain ⟨tk, htk⟩ : ∃ tk, pkC ⟨xk, xc, xto, xn, xb, xt⟩ (.slice a0 xb.length c0) = tk := ⟨_, rfl⟩
  obtain ⟨tl, htl⟩ : ∃ tl, pkC ⟨yk, yc, yto, yn, yb, yt⟩ (.slice a1 yb.length c1) = tl := ⟨_, rfl⟩
  have HX : Bx (PkAt ((w.alloc (.cells tk 29)).alloc (.cells tl 29)) B ⟨xk, xc, xto, xn, xb, xt⟩ (.slice a0 xb.length c0)) := Bx.mk (by rw [← htk, ← htl]; exact pk_at (H0.out.rows _ (.tail _ (.head _))))
  have HY : Bx (PkAt ((w.alloc (.cells tk 29)).alloc (.cells tl 29)) (B + 1) ⟨yk, yc, yto, yn, yb, yt⟩ (.slice a1 yb.length c1)) := Bx.mk (by rw [← htk, ← htl]; exact pk_at (H0.out.rows _ (.head _)))
  have HU := Bx.mk (And.intro (u8_info xt hx) (u8_info yt hy))
  have HL : Bx (Below B w ((w.alloc (.cells tk 29)).alloc (.cells tl 29)) ∧ Bytes ((w.alloc (.cells tk 29)).alloc (.cells tl 29)) (.slice a0 xb.length c0) xb ∧ Bytes ((w.alloc (.cells tk 29)).alloc (.cells tl 29)) (.slice a1 yb.length c1) yb ∧ xb.length ≤ 1000000 ∧ yb.length ≤ 1000000) := Bx.mk (by rw [← htk, ← htl]; exact ⟨H0.out.below, HBx.out, HBy.out, hlx, hly⟩)
  unfold pkV
  rw [htk, htl]
  rw [hB]
  clear hb hc htk htl H0 HBx HBy hx hy hlx hly
  obtain ⟨k0, -, k5, -, -, -, k8, -⟩ := HX.out
  obtain ⟨j0, -, j5, -, -, -, j8, -⟩ := HY.out
  simp only at k0 k5 k8 j0 j5 j8
  clear k5 j5
  clear k8 j8
  have hnd : decide (xk = yk) = false := decide_eq_false hne
  go_enter Tryd.func15, Tryd.ntmps15
  go_wp2_with fail
  go_ret
  exact ⟨rfl, HL.out.1⟩
set_option maxRecDepth 100000 in
set_option maxHeartbeats 4000000 in
theorem rsame14_1 (xk : Int) (xc : Cl) (xto : Int) (xn : Nn) (xb : List UInt8) (xt : List UInt8) (yc : Cl) (yto : Int) (yn : Nn) (yb : List UInt8) (yt : List UInt8) (a0 a1 : Option Addr) (c0 c1 : Nat) (w : World) (hx : xt.length = 32) (hy : yt.length = 32) (hb : Bytes w (.slice a0 xb.length c0) xb) (hc : Bytes w (.slice a1 yb.length c1) yb) (hlx : xb.length ≤ 1000000) (hly : yb.length ≤ 1000000) (hne : xc ≠ yc) :
    Calls Tryd.prog 15 #[pkV ⟨xk, xc, xto, xn, xb, xt⟩ (.slice a0 xb.length c0), pkV ⟨xk, yc, yto, yn, yb, yt⟩ (.slice a1 yb.length c1)] w fun e w' => e = .returned (.bool false) ∧ Below w.heap.size w w' := by
  obtain ⟨B, hB⟩ : ∃ B, w.heap.size = B := ⟨_, rfl⟩
  have H0 := Bx.mk (((KP.start w B hB).new (.cells (pkC ⟨xk, xc, xto, xn, xb, xt⟩ (.slice a0 xb.length c0)) 29)).new (.cells (pkC ⟨xk, yc, yto, yn, yb, yt⟩ (.slice a1 yb.length c1)) 29))
  rw [alloc_sizeP, hB] at H0
  have HBx := Bx.mk (hb.old hB H0.out.below)
  have HBy := Bx.mk (hc.old hB H0.out.below)
  obtain ⟨tk, htk⟩ : ∃ tk, pkC ⟨xk, xc, xto, xn, xb, xt⟩ (.slice a0 xb.length c0) = tk := ⟨_, rfl⟩
  obtain ⟨tl, htl⟩ : ∃ tl, pkC ⟨xk, yc, yto, yn, yb, yt⟩ (.slice a1 yb.length c1) = tl := ⟨_, rfl⟩
  have HX : Bx (PkAt ((w.alloc (.cells tk 29)).alloc (.cells tl 29)) B ⟨xk, xc, xto, xn, xb, xt⟩ (.slice a0 xb.length c0)) := Bx.mk (by rw [← htk, ← htl]; exact pk_at (H0.out.rows _ (.tail _ (.head _))))
  have HY : Bx (PkAt ((w.alloc (.cells tk 29)).alloc (.cells tl 29)) (B + 1) ⟨xk, yc, yto, yn, yb, yt⟩ (.slice a1 yb.length c1)) := Bx.mk (by rw [← htk, ← htl]; exact pk_at (H0.out.rows _ (.head _)))
  have HU := Bx.mk (And.intro (u8_info xt hx) (u8_info yt hy))
  have HL : Bx (Below B w ((w.alloc (.cells tk 29)).alloc (.cells tl 29)) ∧ Bytes ((w.alloc (.cells tk 29)).alloc (.cells tl 29)) (.slice a0 xb.length c0) xb ∧ Bytes ((w.alloc (.cells tk 29)).alloc (.cells tl 29)) (.slice a1 yb.length c1) yb ∧ xb.length ≤ 1000000 ∧ yb.length ≤ 1000000) := Bx.mk (by rw [← htk, ← htl]; exact ⟨H0.out.below, HBx.out, HBy.out, hlx, hly⟩)
  have hcl : ∀ W : World, (binOp .eql 23 (.agg #[.int .i64 xc.id, .int .i64 xc.ro, .int .i64 xc.ex, .int .i64 xc.se]) (.agg #[.int .i64 yc.id, .int .i64 yc.ro, .int .i64 yc.ex, .int .i64 yc.se])).run Tryd.prog W = .ok (.bool false) W := fun W => by have := clR_eql xc yc W; rw [show decide (xc = yc) = false by simp [hne]] at this; exact this
  unfold pkV
  rw [htk, htl]
  rw [hB]
  clear hb hc htk htl H0 HBx HBy hx hy hlx hly
  obtain ⟨k0, -, k5, -, -, -, k8, -⟩ := HX.out
  obtain ⟨j0, -, j5, -, -, -, j8, -⟩ := HY.out
  simp only at k0 k5 k8 j0 j5 j8
  clear k5 j5
  clear k8 j8
  have HNE := Bx.mk hne
  clear hne
  go_enter Tryd.func15, Tryd.ntmps15
  go_wp2_with (first | (refine wpList_load_midP (by rfl) 23 _ rfl B 1 (by rfl) _ _ HX.out.c Tryd.underlying23 rfl (by kernel_rfl) ?_) | (refine wpList_load_midP (by rfl) 23 _ rfl (B + 1) 1 (by rfl) _ _ HY.out.c Tryd.underlying23 rfl (by kernel_rfl) ?_))
  go_ret
  exact ⟨rfl, HL.out.1⟩
set_option maxRecDepth 100000 in
set_option maxHeartbeats 4000000 in
theorem rsame14_2 (xk : Int) (xc : Cl) (xto : Int) (xn : Nn) (xb : List UInt8) (xt : List UInt8) (yto : Int) (yn : Nn) (yb : List UInt8) (yt : List UInt8) (a0 a1 : Option Addr) (c0 c1 : Nat) (w : World) (hx : xt.length = 32) (hy : yt.length = 32) (hb : Bytes w (.slice a0 xb.length c0) xb) (hc : Bytes w (.slice a1 yb.length c1) yb) (hlx : xb.length ≤ 1000000) (hly : yb.length ≤ 1000000) (hne : xto ≠ yto) :
    Calls Tryd.prog 15 #[pkV ⟨xk, xc, xto, xn, xb, xt⟩ (.slice a0 xb.length c0), pkV ⟨xk, xc, yto, yn, yb, yt⟩ (.slice a1 yb.length c1)] w fun e w' => e = .returned (.bool false) ∧ Below w.heap.size w w' := by
  obtain ⟨B, hB⟩ : ∃ B, w.heap.size = B := ⟨_, rfl⟩
  have H0 := Bx.mk (((KP.start w B hB).new (.cells (pkC ⟨xk, xc, xto, xn, xb, xt⟩ (.slice a0 xb.length c0)) 29)).new (.cells (pkC ⟨xk, xc, yto, yn, yb, yt⟩ (.slice a1 yb.length c1)) 29))
  rw [alloc_sizeP, hB] at H0
  have HBx := Bx.mk (hb.old hB H0.out.below)
  have HBy := Bx.mk (hc.old hB H0.out.below)
  obtain ⟨tk, htk⟩ : ∃ tk, pkC ⟨xk, xc, xto, xn, xb, xt⟩ (.slice a0 xb.length c0) = tk := ⟨_, rfl⟩
  obtain ⟨tl, htl⟩ : ∃ tl, pkC ⟨xk, xc, yto, yn, yb, yt⟩ (.slice a1 yb.length c1) = tl := ⟨_, rfl⟩
  have HX : Bx (PkAt ((w.alloc (.cells tk 29)).alloc (.cells tl 29)) B ⟨xk, xc, xto, xn, xb, xt⟩ (.slice a0 xb.length c0)) := Bx.mk (by rw [← htk, ← htl]; exact pk_at (H0.out.rows _ (.tail _ (.head _))))
  have HY : Bx (PkAt ((w.alloc (.cells tk 29)).alloc (.cells tl 29)) (B + 1) ⟨xk, xc, yto, yn, yb, yt⟩ (.slice a1 yb.length c1)) := Bx.mk (by rw [← htk, ← htl]; exact pk_at (H0.out.rows _ (.head _)))
  have HU := Bx.mk (And.intro (u8_info xt hx) (u8_info yt hy))
  have HL : Bx (Below B w ((w.alloc (.cells tk 29)).alloc (.cells tl 29)) ∧ Bytes ((w.alloc (.cells tk 29)).alloc (.cells tl 29)) (.slice a0 xb.length c0) xb ∧ Bytes ((w.alloc (.cells tk 29)).alloc (.cells tl 29)) (.slice a1 yb.length c1) yb ∧ xb.length ≤ 1000000 ∧ yb.length ≤ 1000000) := Bx.mk (by rw [← htk, ← htl]; exact ⟨H0.out.below, HBx.out, HBy.out, hlx, hly⟩)
  have hcl : ∀ W : World, (binOp .eql 23 (.agg #[.int .i64 xc.id, .int .i64 xc.ro, .int .i64 xc.ex, .int .i64 xc.se]) (.agg #[.int .i64 xc.id, .int .i64 xc.ro, .int .i64 xc.ex, .int .i64 xc.se])).run Tryd.prog W = .ok (.bool true) W := fun W => by have := clR_eql xc xc W; rw [show decide (xc = xc) = true by simp] at this; exact this
  unfold pkV
  rw [htk, htl]
  rw [hB]
  clear hb hc htk htl H0 HBx HBy hx hy hlx hly
  obtain ⟨k0, -, k5, -, -, -, k8, -⟩ := HX.out
  obtain ⟨j0, -, j5, -, -, -, j8, -⟩ := HY.out
  simp only at k0 k5 k8 j0 j5 j8
  clear k8 j8
  have hnd : decide (xto = yto) = false := decide_eq_false hne
  go_enter Tryd.func15, Tryd.ntmps15
  go_wp2_with (first | (refine wpList_load_midP (by rfl) 23 _ rfl B 1 (by rfl) _ _ HX.out.c Tryd.underlying23 rfl (by kernel_rfl) ?_) | (refine wpList_load_midP (by rfl) 23 _ rfl (B + 1) 1 (by rfl) _ _ HY.out.c Tryd.underlying23 rfl (by kernel_rfl) ?_))
  go_ret
  exact ⟨rfl, HL.out.1⟩
set_option maxRecDepth 100000 in
set_option maxHeartbeats 4000000 in
theorem rsame14_3 (xk : Int) (xc : Cl) (xto : Int) (xn : Nn) (xb : List UInt8) (xt : List UInt8) (yn : Nn) (yb : List UInt8) (yt : List UInt8) (a0 a1 : Option Addr) (c0 c1 : Nat) (w : World) (hx : xt.length = 32) (hy : yt.length = 32) (hb : Bytes w (.slice a0 xb.length c0) xb) (hc : Bytes w (.slice a1 yb.length c1) yb) (hlx : xb.length ≤ 1000000) (hly : yb.length ≤ 1000000) (hne : xn ≠ yn) :
    Calls Tryd.prog 15 #[pkV ⟨xk, xc, xto, xn, xb, xt⟩ (.slice a0 xb.length c0), pkV ⟨xk, xc, xto, yn, yb, yt⟩ (.slice a1 yb.length c1)] w fun e w' => e = .returned (.bool false) ∧ Below w.heap.size w w' := by
  obtain ⟨B, hB⟩ : ∃ B, w.heap.size = B := ⟨_, rfl⟩
  have H0 := Bx.mk (((KP.start w B hB).new (.cells (pkC ⟨xk, xc, xto, xn, xb, xt⟩ (.slice a0 xb.length c0)) 29)).new (.cells (pkC ⟨xk, xc, xto, yn, yb, yt⟩ (.slice a1 yb.length c1)) 29))
  rw [alloc_sizeP, hB] at H0
  have HBx := Bx.mk (hb.old hB H0.out.below)
  have HBy := Bx.mk (hc.old hB H0.out.below)
  obtain ⟨tk, htk⟩ : ∃ tk, pkC ⟨xk, xc, xto, xn, xb, xt⟩ (.slice a0 xb.length c0) = tk := ⟨_, rfl⟩
  obtain ⟨tl, htl⟩ : ∃ tl, pkC ⟨xk, xc, xto, yn, yb, yt⟩ (.slice a1 yb.length c1) = tl := ⟨_, rfl⟩
  have HX : Bx (PkAt ((w.alloc (.cells tk 29)).alloc (.cells tl 29)) B ⟨xk, xc, xto, xn, xb, xt⟩ (.slice a0 xb.length c0)) := Bx.mk (by rw [← htk, ← htl]; exact pk_at (H0.out.rows _ (.tail _ (.head _))))
  have HY : Bx (PkAt ((w.alloc (.cells tk 29)).alloc (.cells tl 29)) (B + 1) ⟨xk, xc, xto, yn, yb, yt⟩ (.slice a1 yb.length c1)) := Bx.mk (by rw [← htk, ← htl]; exact pk_at (H0.out.rows _ (.head _)))
  have HU := Bx.mk (And.intro (u8_info xt hx) (u8_info yt hy))
  have HL : Bx (Below B w ((w.alloc (.cells tk 29)).alloc (.cells tl 29)) ∧ Bytes ((w.alloc (.cells tk 29)).alloc (.cells tl 29)) (.slice a0 xb.length c0) xb ∧ Bytes ((w.alloc (.cells tk 29)).alloc (.cells tl 29)) (.slice a1 yb.length c1) yb ∧ xb.length ≤ 1000000 ∧ yb.length ≤ 1000000) := Bx.mk (by rw [← htk, ← htl]; exact ⟨H0.out.below, HBx.out, HBy.out, hlx, hly⟩)
  have hcl : ∀ W : World, (binOp .eql 23 (.agg #[.int .i64 xc.id, .int .i64 xc.ro, .int .i64 xc.ex, .int .i64 xc.se]) (.agg #[.int .i64 xc.id, .int .i64 xc.ro, .int .i64 xc.ex, .int .i64 xc.se])).run Tryd.prog W = .ok (.bool true) W := fun W => by have := clR_eql xc xc W; rw [show decide (xc = xc) = true by simp] at this; exact this
  have hnn : ∀ W : World, (binOp .eql 25 (.agg #[.int .i64 xn.b, .int .i64 xn.c]) (.agg #[.int .i64 yn.b, .int .i64 yn.c])).run Tryd.prog W = .ok (.bool false) W := fun W => by have := nnR_eql xn yn W; rw [show decide (xn = yn) = false by simp [hne]] at this; exact this
  unfold pkV
  rw [htk, htl]
  rw [hB]
  clear hb hc htk htl H0 HBx HBy hx hy hlx hly
  obtain ⟨k0, -, k5, -, -, -, k8, -⟩ := HX.out
  obtain ⟨j0, -, j5, -, -, -, j8, -⟩ := HY.out
  simp only at k0 k5 k8 j0 j5 j8
  clear k8 j8
  have HNE := Bx.mk hne
  clear hne
  go_enter Tryd.func15, Tryd.ntmps15
  go_wp2_with (first | (refine wpList_load_midP (by rfl) 23 _ rfl B 1 (by rfl) _ _ HX.out.c Tryd.underlying23 rfl (by kernel_rfl) ?_) | (refine wpList_load_midP (by rfl) 23 _ rfl (B + 1) 1 (by rfl) _ _ HY.out.c Tryd.underlying23 rfl (by kernel_rfl) ?_) | (refine wpList_load_midP (by rfl) 25 _ rfl B 6 (by rfl) _ _ HX.out.n Tryd.underlying25 rfl (by kernel_rfl) ?_) | (refine wpList_load_midP (by rfl) 25 _ rfl (B + 1) 6 (by rfl) _ _ HY.out.n Tryd.underlying25 rfl (by kernel_rfl) ?_))
  go_ret
  exact ⟨rfl, HL.out.1⟩
set_option maxRecDepth 100000 in
set_option maxHeartbeats 4000000 in
theorem rsame14_4 (xk : Int) (xc : Cl) (xto : Int) (xn : Nn) (xb : List UInt8) (xt : List UInt8) (yb : List UInt8) (yt : List UInt8) (a0 a1 : Option Addr) (c0 c1 : Nat) (w : World) (hx : xt.length = 32) (hy : yt.length = 32) (hb : Bytes w (.slice a0 xb.length c0) xb) (hc : Bytes w (.slice a1 yb.length c1) yb) (hlx : xb.length ≤ 1000000) (hly : yb.length ≤ 1000000) (hne : xt ≠ yt) :
    Calls Tryd.prog 15 #[pkV ⟨xk, xc, xto, xn, xb, xt⟩ (.slice a0 xb.length c0), pkV ⟨xk, xc, xto, xn, yb, yt⟩ (.slice a1 yb.length c1)] w fun e w' => e = .returned (.bool false) ∧ Below w.heap.size w w' := by
  obtain ⟨B, hB⟩ : ∃ B, w.heap.size = B := ⟨_, rfl⟩
  have H0 := Bx.mk (((KP.start w B hB).new (.cells (pkC ⟨xk, xc, xto, xn, xb, xt⟩ (.slice a0 xb.length c0)) 29)).new (.cells (pkC ⟨xk, xc, xto, xn, yb, yt⟩ (.slice a1 yb.length c1)) 29))
  rw [alloc_sizeP, hB] at H0
  have HBx := Bx.mk (hb.old hB H0.out.below)
  have HBy := Bx.mk (hc.old hB H0.out.below)
  obtain ⟨tk, htk⟩ : ∃ tk, pkC ⟨xk, xc, xto, xn, xb, xt⟩ (.slice a0 xb.length c0) = tk := ⟨_, rfl⟩
  obtain ⟨tl, htl⟩ : ∃ tl, pkC ⟨xk, xc, xto, xn, yb, yt⟩ (.slice a1 yb.length c1) = tl := ⟨_, rfl⟩
  have HX : Bx (PkAt ((w.alloc (.cells tk 29)).alloc (.cells tl 29)) B ⟨xk, xc, xto, xn, xb, xt⟩ (.slice a0 xb.length c0)) := Bx.mk (by rw [← htk, ← htl]; exact pk_at (H0.out.rows _ (.tail _ (.head _))))
  have HY : Bx (PkAt ((w.alloc (.cells tk 29)).alloc (.cells tl 29)) (B + 1) ⟨xk, xc, xto, xn, yb, yt⟩ (.slice a1 yb.length c1)) := Bx.mk (by rw [← htk, ← htl]; exact pk_at (H0.out.rows _ (.head _)))
  have HU := Bx.mk (And.intro (u8_info xt hx) (u8_info yt hy))
  have HL : Bx (Below B w ((w.alloc (.cells tk 29)).alloc (.cells tl 29)) ∧ Bytes ((w.alloc (.cells tk 29)).alloc (.cells tl 29)) (.slice a0 xb.length c0) xb ∧ Bytes ((w.alloc (.cells tk 29)).alloc (.cells tl 29)) (.slice a1 yb.length c1) yb ∧ xb.length ≤ 1000000 ∧ yb.length ≤ 1000000) := Bx.mk (by rw [← htk, ← htl]; exact ⟨H0.out.below, HBx.out, HBy.out, hlx, hly⟩)
  have hcl : ∀ W : World, (binOp .eql 23 (.agg #[.int .i64 xc.id, .int .i64 xc.ro, .int .i64 xc.ex, .int .i64 xc.se]) (.agg #[.int .i64 xc.id, .int .i64 xc.ro, .int .i64 xc.ex, .int .i64 xc.se])).run Tryd.prog W = .ok (.bool true) W := fun W => by have := clR_eql xc xc W; rw [show decide (xc = xc) = true by simp] at this; exact this
  have hnn : ∀ W : World, (binOp .eql 25 (.agg #[.int .i64 xn.b, .int .i64 xn.c]) (.agg #[.int .i64 xn.b, .int .i64 xn.c])).run Tryd.prog W = .ok (.bool true) W := fun W => by have := nnR_eql xn xn W; rw [show decide (xn = xn) = true by simp] at this; exact this
  have htt : ∀ W : World, (binOp .eql 27 (.agg (u8s xt)) (.agg (u8s yt))).run Tryd.prog W = .ok (.bool false) W := fun W => eq_z32 _ _ hx hy _ (by simp [hne]) W
  have HTB := Bx.mk (And.intro HX.out.t HY.out.t)
  simp only at HTB
  obtain ⟨tt, ht1⟩ : ∃ tt, u8s xt = tt := ⟨_, rfl⟩
  rw [ht1] at HTB HU htt
  obtain ⟨tu, ht2⟩ : ∃ tu, u8s yt = tu := ⟨_, rfl⟩
  rw [ht2] at HTB HU htt
  clear ht2
  clear ht1
  unfold pkV
  rw [htk, htl]
  rw [hB]
  clear hb hc htk htl H0 HBx HBy hx hy hlx hly
  obtain ⟨k0, -, k5, -, -, -, k8, -⟩ := HX.out
  obtain ⟨j0, -, j5, -, -, -, j8, -⟩ := HY.out
  simp only at k0 k5 k8 j0 j5 j8
  clear k8 j8
  have HNE := Bx.mk hne
  clear hne
  go_enter Tryd.func15, Tryd.ntmps15
  go_wp2_with (first | (refine wpList_load_midP (by rfl) 23 _ rfl B 1 (by rfl) _ _ HX.out.c Tryd.underlying23 rfl (by kernel_rfl) ?_) | (refine wpList_load_midP (by rfl) 23 _ rfl (B + 1) 1 (by rfl) _ _ HY.out.c Tryd.underlying23 rfl (by kernel_rfl) ?_) | (refine wpList_load_midP (by rfl) 25 _ rfl B 6 (by rfl) _ _ HX.out.n Tryd.underlying25 rfl (by kernel_rfl) ?_) | (refine wpList_load_midP (by rfl) 25 _ rfl (B + 1) 6 (by rfl) _ _ HY.out.n Tryd.underlying25 rfl (by kernel_rfl) ?_) | (refine wpList_load_midP (by rfl) 27 _ rfl B 9 (by rfl) tt.toList _ HTB.out.1 Tryd.underlying27 rfl HU.out.1 ?_; rw [Array.toArray_toList]) | (refine wpList_load_midP (by rfl) 27 _ rfl (B + 1) 9 (by rfl) tu.toList _ HTB.out.2 Tryd.underlying27 rfl HU.out.2 ?_; rw [Array.toArray_toList]))
  go_ret
  exact ⟨rfl, HL.out.1⟩
set_option maxRecDepth 100000 in
set_option maxHeartbeats 4000000 in
theorem rsame14_5 (xk : Int) (xc : Cl) (xto : Int) (xn : Nn) (xb : List UInt8) (xt : List UInt8) (yb : List UInt8) (a0 a1 : Option Addr) (c0 c1 : Nat) (w : World) (hx : xt.length = 32) (hy : xt.length = 32) (hb : Bytes w (.slice a0 xb.length c0) xb) (hc : Bytes w (.slice a1 yb.length c1) yb) (hlx : xb.length ≤ 1000000) (hly : yb.length ≤ 1000000) (hne : xb ≠ yb) :
    Calls Tryd.prog 15 #[pkV ⟨xk, xc, xto, xn, xb, xt⟩ (.slice a0 xb.length c0), pkV ⟨xk, xc, xto, xn, yb, xt⟩ (.slice a1 yb.length c1)] w fun e w' => e = .returned (.bool false) ∧ Below w.heap.size w w' := by
  obtain ⟨B, hB⟩ : ∃ B, w.heap.size = B := ⟨_, rfl⟩
  have H0 := Bx.mk (((KP.start w B hB).new (.cells (pkC ⟨xk, xc, xto, xn, xb, xt⟩ (.slice a0 xb.length c0)) 29)).new (.cells (pkC ⟨xk, xc, xto, xn, yb, xt⟩ (.slice a1 yb.length c1)) 29))
  rw [alloc_sizeP, hB] at H0
  have HBx := Bx.mk (hb.old hB H0.out.below)
  have HBy := Bx.mk (hc.old hB H0.out.below)
  obtain ⟨tk, htk⟩ : ∃ tk, pkC ⟨xk, xc, xto, xn, xb, xt⟩ (.slice a0 xb.length c0) = tk := ⟨_, rfl⟩
  obtain ⟨tl, htl⟩ : ∃ tl, pkC ⟨xk, xc, xto, xn, yb, xt⟩ (.slice a1 yb.length c1) = tl := ⟨_, rfl⟩
  have HX : Bx (PkAt ((w.alloc (.cells tk 29)).alloc (.cells tl 29)) B ⟨xk, xc, xto, xn, xb, xt⟩ (.slice a0 xb.length c0)) := Bx.mk (by rw [← htk, ← htl]; exact pk_at (H0.out.rows _ (.tail _ (.head _))))
  have HY : Bx (PkAt ((w.alloc (.cells tk 29)).alloc (.cells tl 29)) (B + 1) ⟨xk, xc, xto, xn, yb, xt⟩ (.slice a1 yb.length c1)) := Bx.mk (by rw [← htk, ← htl]; exact pk_at (H0.out.rows _ (.head _)))
  have HU := Bx.mk (And.intro (u8_info xt hx) (u8_info xt hy))
  have HL : Bx (Below B w ((w.alloc (.cells tk 29)).alloc (.cells tl 29)) ∧ Bytes ((w.alloc (.cells tk 29)).alloc (.cells tl 29)) (.slice a0 xb.length c0) xb ∧ Bytes ((w.alloc (.cells tk 29)).alloc (.cells tl 29)) (.slice a1 yb.length c1) yb ∧ xb.length ≤ 1000000 ∧ yb.length ≤ 1000000) := Bx.mk (by rw [← htk, ← htl]; exact ⟨H0.out.below, HBx.out, HBy.out, hlx, hly⟩)
  have hcl : ∀ W : World, (binOp .eql 23 (.agg #[.int .i64 xc.id, .int .i64 xc.ro, .int .i64 xc.ex, .int .i64 xc.se]) (.agg #[.int .i64 xc.id, .int .i64 xc.ro, .int .i64 xc.ex, .int .i64 xc.se])).run Tryd.prog W = .ok (.bool true) W := fun W => by have := clR_eql xc xc W; rw [show decide (xc = xc) = true by simp] at this; exact this
  have hnn : ∀ W : World, (binOp .eql 25 (.agg #[.int .i64 xn.b, .int .i64 xn.c]) (.agg #[.int .i64 xn.b, .int .i64 xn.c])).run Tryd.prog W = .ok (.bool true) W := fun W => by have := nnR_eql xn xn W; rw [show decide (xn = xn) = true by simp] at this; exact this
  have htt : ∀ W : World, (binOp .eql 27 (.agg (u8s xt)) (.agg (u8s xt))).run Tryd.prog W = .ok (.bool true) W := fun W => eq_z32 _ _ hx hy _ (by simp) W
  have HTB := Bx.mk (And.intro HX.out.t HY.out.t)
  simp only at HTB
  obtain ⟨tt, ht1⟩ : ∃ tt, u8s xt = tt := ⟨_, rfl⟩
  rw [ht1] at HTB HU htt
  clear ht1
  unfold pkV
  rw [htk, htl]
  rw [hB]
  clear hb hc htk htl H0 HBx HBy hx hy hlx hly
  obtain ⟨k0, -, k5, -, -, -, k8, -⟩ := HX.out
  obtain ⟨j0, -, j5, -, -, -, j8, -⟩ := HY.out
  simp only at k0 k5 k8 j0 j5 j8
  have HNE := Bx.mk hne
  clear hne
  go_enter Tryd.func15, Tryd.ntmps15
  go_wp2_with (first | (refine wpList_load_midP (by rfl) 23 _ rfl B 1 (by rfl) _ _ HX.out.c Tryd.underlying23 rfl (by kernel_rfl) ?_) | (refine wpList_load_midP (by rfl) 23 _ rfl (B + 1) 1 (by rfl) _ _ HY.out.c Tryd.underlying23 rfl (by kernel_rfl) ?_) | (refine wpList_load_midP (by rfl) 25 _ rfl B 6 (by rfl) _ _ HX.out.n Tryd.underlying25 rfl (by kernel_rfl) ?_) | (refine wpList_load_midP (by rfl) 25 _ rfl (B + 1) 6 (by rfl) _ _ HY.out.n Tryd.underlying25 rfl (by kernel_rfl) ?_) | (refine wpList_load_midP (by rfl) 27 _ rfl B 9 (by rfl) tt.toList _ HTB.out.1 Tryd.underlying27 rfl HU.out.1 ?_; rw [Array.toArray_toList]) | (refine wpList_load_midP (by rfl) 27 _ rfl (B + 1) 9 (by rfl) tt.toList _ HTB.out.2 Tryd.underlying27 rfl HU.out.2 ?_; rw [Array.toArray_toList]))
  refine (same_any xb yb _ _ ((w.alloc (.cells tk 29)).alloc (.cells tl 29)) HL.out.2.1 HL.out.2.2.1 (by have := HL.out.2.2.2.1; omega) (by have := HL.out.2.2.2.2; omega)).mono ?_
  rintro e w2 ⟨rfl, nd, rfl⟩
  rw [show decide (xb = yb) = false by simp [HNE.out]]
  go_wp2_with (first | (refine wpList_load_midP (by rfl) 23 _ rfl B 1 (by rfl) _ _ HX.out.c Tryd.underlying23 rfl (by kernel_rfl) ?_) | (refine wpList_load_midP (by rfl) 23 _ rfl (B + 1) 1 (by rfl) _ _ HY.out.c Tryd.underlying23 rfl (by kernel_rfl) ?_) | (refine wpList_load_midP (by rfl) 25 _ rfl B 6 (by rfl) _ _ HX.out.n Tryd.underlying25 rfl (by kernel_rfl) ?_) | (refine wpList_load_midP (by rfl) 25 _ rfl (B + 1) 6 (by rfl) _ _ HY.out.n Tryd.underlying25 rfl (by kernel_rfl) ?_) | (refine wpList_load_midP (by rfl) 27 _ rfl B 9 (by rfl) tt.toList _ HTB.out.1 Tryd.underlying27 rfl HU.out.1 ?_; rw [Array.toArray_toList]) | (refine wpList_load_midP (by rfl) 27 _ rfl (B + 1) 9 (by rfl) tt.toList _ HTB.out.2 Tryd.underlying27 rfl HU.out.2 ?_; rw [Array.toArray_toList]))
  go_ret
  exact ⟨rfl, below_drewN HL.out.1 _⟩
set_option maxRecDepth 100000 in
set_option maxHeartbeats 4000000 in
theorem rsame14_6 (xk : Int) (xc : Cl) (xto : Int) (xn : Nn) (xb : List UInt8) (xt : List UInt8) (a0 a1 : Option Addr) (c0 c1 : Nat) (w : World) (hx : xt.length = 32) (hy : xt.length = 32) (hb : Bytes w (.slice a0 xb.length c0) xb) (hc : Bytes w (.slice a1 xb.length c1) xb) (hlx : xb.length ≤ 1000000) (hly : xb.length ≤ 1000000) :
    Calls Tryd.prog 15 #[pkV ⟨xk, xc, xto, xn, xb, xt⟩ (.slice a0 xb.length c0), pkV ⟨xk, xc, xto, xn, xb, xt⟩ (.slice a1 xb.length c1)] w fun e w' => e = .returned (.bool true) ∧ Below w.heap.size w w' := by
  obtain ⟨B, hB⟩ : ∃ B, w.heap.size = B := ⟨_, rfl⟩
  have H0 := Bx.mk (((KP.start w B hB).new (.cells (pkC ⟨xk, xc, xto, xn, xb, xt⟩ (.slice a0 xb.length c0)) 29)).new (.cells (pkC ⟨xk, xc, xto, xn, xb, xt⟩ (.slice a1 xb.length c1)) 29))
  rw [alloc_sizeP, hB] at H0
  have HBx := Bx.mk (hb.old hB H0.out.below)
  have HBy := Bx.mk (hc.old hB H0.out.below)
  obtain ⟨tk, htk⟩ : ∃ tk, pkC ⟨xk, xc, xto, xn, xb, xt⟩ (.slice a0 xb.length c0) = tk := ⟨_, rfl⟩
  obtain ⟨tl, htl⟩ : ∃ tl, pkC ⟨xk, xc, xto, xn, xb, xt⟩ (.slice a1 xb.length c1) = tl := ⟨_, rfl⟩
  have HX : Bx (PkAt ((w.alloc (.cells tk 29)).alloc (.cells tl 29)) B ⟨xk, xc, xto, xn, xb, xt⟩ (.slice a0 xb.length c0)) := Bx.mk (by rw [← htk, ← htl]; exact pk_at (H0.out.rows _ (.tail _ (.head _))))
  have HY : Bx (PkAt ((w.alloc (.cells tk 29)).alloc (.cells tl 29)) (B + 1) ⟨xk, xc, xto, xn, xb, xt⟩ (.slice a1 xb.length c1)) := Bx.mk (by rw [← htk, ← htl]; exact pk_at (H0.out.rows _ (.head _)))
  have HU := Bx.mk (And.intro (u8_info xt hx) (u8_info xt hy))
  have HL : Bx (Below B w ((w.alloc (.cells tk 29)).alloc (.cells tl 29)) ∧ Bytes ((w.alloc (.cells tk 29)).alloc (.cells tl 29)) (.slice a0 xb.length c0) xb ∧ Bytes ((w.alloc (.cells tk 29)).alloc (.cells tl 29)) (.slice a1 xb.length c1) xb ∧ xb.length ≤ 1000000 ∧ xb.length ≤ 1000000) := Bx.mk (by rw [← htk, ← htl]; exact ⟨H0.out.below, HBx.out, HBy.out, hlx, hly⟩)
  have hcl : ∀ W : World, (binOp .eql 23 (.agg #[.int .i64 xc.id, .int .i64 xc.ro, .int .i64 xc.ex, .int .i64 xc.se]) (.agg #[.int .i64 xc.id, .int .i64 xc.ro, .int .i64 xc.ex, .int .i64 xc.se])).run Tryd.prog W = .ok (.bool true) W := fun W => by have := clR_eql xc xc W; rw [show decide (xc = xc) = true by simp] at this; exact this
  have hnn : ∀ W : World, (binOp .eql 25 (.agg #[.int .i64 xn.b, .int .i64 xn.c]) (.agg #[.int .i64 xn.b, .int .i64 xn.c])).run Tryd.prog W = .ok (.bool true) W := fun W => by have := nnR_eql xn xn W; rw [show decide (xn = xn) = true by simp] at this; exact this
  have htt : ∀ W : World, (binOp .eql 27 (.agg (u8s xt)) (.agg (u8s xt))).run Tryd.prog W = .ok (.bool true) W := fun W => eq_z32 _ _ hx hy _ (by simp) W
  have HTB := Bx.mk (And.intro HX.out.t HY.out.t)
  simp only at HTB
  obtain ⟨tt, ht1⟩ : ∃ tt, u8s xt = tt := ⟨_, rfl⟩
  rw [ht1] at HTB HU htt
  clear ht1
  unfold pkV
  rw [htk, htl]
  rw [hB]
  clear hb hc htk htl H0 HBx HBy hx hy hlx hly
  obtain ⟨k0, -, k5, -, -, -, k8, -⟩ := HX.out
  obtain ⟨j0, -, j5, -, -, -, j8, -⟩ := HY.out
  simp only at k0 k5 k8 j0 j5 j8
  go_enter Tryd.func15, Tryd.ntmps15
  go_wp2_with (first | (refine wpList_load_midP (by rfl) 23 _ rfl B 1 (by rfl) _ _ HX.out.c Tryd.underlying23 rfl (by kernel_rfl) ?_) | (refine wpList_load_midP (by rfl) 23 _ rfl (B + 1) 1 (by rfl) _ _ HY.out.c Tryd.underlying23 rfl (by kernel_rfl) ?_) | (refine wpList_load_midP (by rfl) 25 _ rfl B 6 (by rfl) _ _ HX.out.n Tryd.underlying25 rfl (by kernel_rfl) ?_) | (refine wpList_load_midP (by rfl) 25 _ rfl (B + 1) 6 (by rfl) _ _ HY.out.n Tryd.underlying25 rfl (by kernel_rfl) ?_) | (refine wpList_load_midP (by rfl) 27 _ rfl B 9 (by rfl) tt.toList _ HTB.out.1 Tryd.underlying27 rfl HU.out.1 ?_; rw [Array.toArray_toList]) | (refine wpList_load_midP (by rfl) 27 _ rfl (B + 1) 9 (by rfl) tt.toList _ HTB.out.2 Tryd.underlying27 rfl HU.out.2 ?_; rw [Array.toArray_toList]))
  refine (same_any xb xb _ _ ((w.alloc (.cells tk 29)).alloc (.cells tl 29)) HL.out.2.1 HL.out.2.2.1 (by have := HL.out.2.2.2.1; omega) (by have := HL.out.2.2.2.2; omega)).mono ?_
  rintro e w2 ⟨rfl, nd, rfl⟩
  rw [show decide (xb = xb) = true by simp]
  go_wp2_with (first | (refine wpList_load_midP (by rfl) 23 _ rfl B 1 (by rfl) _ _ HX.out.c Tryd.underlying23 rfl (by kernel_rfl) ?_) | (refine wpList_load_midP (by rfl) 23 _ rfl (B + 1) 1 (by rfl) _ _ HY.out.c Tryd.underlying23 rfl (by kernel_rfl) ?_) | (refine wpList_load_midP (by rfl) 25 _ rfl B 6 (by rfl) _ _ HX.out.n Tryd.underlying25 rfl (by kernel_rfl) ?_) | (refine wpList_load_midP (by rfl) 25 _ rfl (B + 1) 6 (by rfl) _ _ HY.out.n Tryd.underlying25 rfl (by kernel_rfl) ?_) | (refine wpList_load_midP (by rfl) 27 _ rfl B 9 (by rfl) tt.toList _ HTB.out.1 Tryd.underlying27 rfl HU.out.1 ?_; rw [Array.toArray_toList]) | (refine wpList_load_midP (by rfl) 27 _ rfl (B + 1) 9 (by rfl) tt.toList _ HTB.out.2 Tryd.underlying27 rfl HU.out.2 ?_; rw [Array.toArray_toList]))
  go_ret
  exact ⟨rfl, below_drewN HL.out.1 _⟩
theorem rsame14 (x y : Pk) (v u : Value) (w : World) (hx : x.t.length = 32) (hy : y.t.length = 32) (hb : Bytes w v x.b) (hc : Bytes w u y.b) (hlx : x.b.length ≤ 1000000) (hly : y.b.length ≤ 1000000) (d : Bool) (hd : d = true ↔ x = y) : Calls Tryd.prog 15 #[pkV x v, pkV y u] w fun e w' => e = .returned (.bool d) ∧ Below w.heap.size w w' := by
  obtain ⟨a0, c0, rfl, -, -⟩ := bytes_form hb
  obtain ⟨a1, c1, rfl, -, -⟩ := bytes_form hc
  obtain ⟨xk, xc, xto, xn, xb, xt⟩ := x
  obtain ⟨yk, yc, yto, yn, yb, yt⟩ := y
  by_cases ek : xk = yk
  case neg =>
    obtain rfl : d = false := by cases d with | false => rfl | true => exact absurd (congrArg Pk.k (hd.1 rfl)) ek
    exact rsame14_0 _ _ _ _ _ _ _ _ _ _ _ _ _ _ _ _ w hx hy hb hc hlx hly ek
  subst ek
  by_cases ec : xc = yc
  case neg =>
    obtain rfl : d = false := by cases d with | false => rfl | true => exact absurd (congrArg Pk.c (hd.1 rfl)) ec
    exact rsame14_1 _ _ _ _ _ _ _ _ _ _ _ _ _ _ _ w hx hy hb hc hlx hly ec
  subst ec
  by_cases eto : xto = yto
  case neg =>
    obtain rfl : d = false := by cases d with | false => rfl | true => exact absurd (congrArg Pk.to (hd.1 rfl)) eto
    exact rsame14_2 _ _ _ _ _ _ _ _ _ _ _ _ _ _ w hx hy hb hc hlx hly eto
  subst eto
  by_cases en : xn = yn
  case neg =>
    obtain rfl : d = false := by cases d with | false => rfl | true => exact absurd (congrArg Pk.n (hd.1 rfl)) en
    exact rsame14_3 _ _ _ _ _ _ _ _ _ _ _ _ _ w hx hy hb hc hlx hly en
  subst en
  by_cases et : xt = yt
  case neg =>
    obtain rfl : d = false := by cases d with | false => rfl | true => exact absurd (congrArg Pk.t (hd.1 rfl)) et
    exact rsame14_4 _ _ _ _ _ _ _ _ _ _ _ _ w hx hy hb hc hlx hly et
  subst et
  by_cases eb : xb = yb
  case neg =>
    obtain rfl : d = false := by cases d with | false => rfl | true => exact absurd (congrArg Pk.b (hd.1 rfl)) eb
    exact rsame14_5 _ _ _ _ _ _ _ _ _ _ _ w hx hy hb hc hlx hly eb
  subst eb
  obtain rfl : d = true := hd.2 rfl
  exact rsame14_6 _ _ _ _ _ _ _ _ _ _ w hx hy hb hc hlx hly
end Go.Proofs.YtaoekfomffebhaaDoor
namespace Go.Proofs.YtaoekfomffebhaaDoor
open Go Go.ChangeShapes Go.WideShapes Go.ChangeAt Go.RowKit
theorem z32_get (k : Nat) : z32P.getD k 0 = 0 := by
  unfold z32P
  rw [List.getD_eq_getElem?_getD, List.getElem?_replicate]
  split <;> rfl
set_option maxRecDepth 100000 in
set_option maxHeartbeats 4000000 in
theorem rcheck14 (x : Pk) (v : Value) (w : World) (ht : x.t.length = 32) (hb : Bytes w v x.b) : Calls Tryd.prog 11 #[pkV x v] w fun e w' => e = .returned (.int .i64 (chkP x)) ∧ Below w.heap.size w w' := by
  obtain ⟨a0, c0, rfl, -, -⟩ := bytes_form hb
  have HC := Bx.mk fun (W : World) => cright_any x.c W
  have HN := Bx.mk fun (W : World) => rright12_any x.n W
  unfold clV at HC
  unfold nv at HN
  obtain ⟨B, hB⟩ : ∃ B, w.heap.size = B := ⟨_, rfl⟩
  have H0 := Bx.mk (PB.new hB 29 x (.slice a0 x.b.length c0))
  obtain ⟨tk, htk⟩ : ∃ tk, pkC x (.slice a0 x.b.length c0) = tk := ⟨_, rfl⟩
  have HT := Bx.mk ht
  unfold pkV
  rw [htk] at ⊢
  have H0 : Bx (PB w B 29 x (.slice a0 x.b.length c0) (w.alloc (.cells tk 29))) := by rw [← htk]; exact H0
  rw [hB]
  clear hb htk ht
  unfold chkP
  cases hk : kindB x.k with
  | false =>
    rw [if_pos rfl]
    by_cases h1 : x.k < 1
    · have hd : decide (x.k < 1) = true := decide_eq_true h1
      have k0 := H0.out.at.k
      go_enter Tryd.func11, Tryd.ntmps11
      go_wp2_with fail
      go_ret
      exact ⟨rfl, H0.out.below⟩
    · have h14 : 14 < x.k := by
        unfold kindB at hk
        simp at hk
        omega
      have hd : decide (14 < x.k) = true := decide_eq_true h14
      have k0 := H0.out.at.k
      go_enter Tryd.func11, Tryd.ntmps11
      go_wp2_with fail
      go_ret
      exact ⟨rfl, H0.out.below⟩
  | true =>
    have hkk := (kindB_iff _).1 hk
    have hd1 : ¬ x.k < 1 := by omega
    have hd2 : ¬ 14 < x.k := by omega
    clear hk
    rw [if_neg (by simp)]
    cases hc : okC x.c with
    | false =>
      rw [if_pos rfl]
      have k0 := H0.out.at.k
      go_enter Tryd.func11, Tryd.ntmps11
      go_wp2_with (refine wpList_load_midP (by rfl) 23 _ rfl B 1 (by rfl) _ _ H0.out.at.c Tryd.underlying23 rfl (by kernel_rfl) ?_)
      generalize w.alloc (.cells tk 29) = w0 at *
      refine (HC.out w0).mono ?_
      rintro e w2 ⟨rfl, hb2⟩
      rw [hc]
      have H2 := Bx.mk (H0.out.later hb2)
      clear hb2 H0 k0
      have k5 := H2.out.at.to
      go_wp2_with fail
      go_ret
      exact ⟨rfl, H2.out.below⟩
    | true =>
      rw [if_neg (by simp)]
      cases hp : placeB x.to with
      | false =>
        rw [if_pos rfl]
        by_cases h1 : x.to < 0
        · have hd : decide (x.to < 0) = true := decide_eq_true h1
          clear hp
          have k0 := H0.out.at.k
          go_enter Tryd.func11, Tryd.ntmps11
          go_wp2_with (refine wpList_load_midP (by rfl) 23 _ rfl B 1 (by rfl) _ _ H0.out.at.c Tryd.underlying23 rfl (by kernel_rfl) ?_)
          generalize w.alloc (.cells tk 29) = w0 at *
          refine (HC.out w0).mono ?_
          rintro e w2 ⟨rfl, hb2⟩
          rw [hc]
          have H2 := Bx.mk (H0.out.later hb2)
          clear hb2 H0 k0
          have k5 := H2.out.at.to
          go_wp2_with fail
          go_ret
          exact ⟨rfl, H2.out.below⟩
        · have h6 : 65535 < x.to := by
            unfold placeB at hp
            simp at hp
            omega
          have hd : decide (65535 < x.to) = true := decide_eq_true h6
          have hd0 : decide (x.to < 0) = false := decide_eq_false h1
          clear h1
          clear hp
          have k0 := H0.out.at.k
          go_enter Tryd.func11, Tryd.ntmps11
          go_wp2_with (refine wpList_load_midP (by rfl) 23 _ rfl B 1 (by rfl) _ _ H0.out.at.c Tryd.underlying23 rfl (by kernel_rfl) ?_)
          generalize w.alloc (.cells tk 29) = w0 at *
          refine (HC.out w0).mono ?_
          rintro e w2 ⟨rfl, hb2⟩
          rw [hc]
          have H2 := Bx.mk (H0.out.later hb2)
          clear hb2 H0 k0
          have k5 := H2.out.at.to
          go_wp2_with fail
          go_ret
          exact ⟨rfl, H2.out.below⟩
      | true =>
        have hpp := (placeB_iff _).1 hp
        have hd3 : decide (x.to < 0) = false := decide_eq_false (by omega)
        have hd4 : decide (65535 < x.to) = false := decide_eq_false (by omega)
        clear hp
        rw [if_neg (by simp)]
        cases hn : okN x.n with
        | false =>
          rw [if_pos rfl]
          have k0 := H0.out.at.k
          go_enter Tryd.func11, Tryd.ntmps11
          go_wp2_with (refine wpList_load_midP (by rfl) 23 _ rfl B 1 (by rfl) _ _ H0.out.at.c Tryd.underlying23 rfl (by kernel_rfl) ?_)
          generalize w.alloc (.cells tk 29) = w0 at *
          refine (HC.out w0).mono ?_
          rintro e w2 ⟨rfl, hb2⟩
          rw [hc]
          have H2 := Bx.mk (H0.out.later hb2)
          clear hb2 H0 k0
          have k5 := H2.out.at.to
          go_wp2_with (refine wpList_load_midP (by rfl) 25 _ rfl B 6 (by rfl) _ _ H2.out.at.n Tryd.underlying25 rfl (by kernel_rfl) ?_)
          refine (HN.out w2).mono ?_
          rintro e w4 ⟨rfl, hb4⟩
          rw [hn]
          have H4 := Bx.mk (H2.out.later hb4)
          clear hb4 H2 k5
          have k8 := H4.out.at.b
          go_wp2
          go_ret
          exact ⟨rfl, H4.out.below⟩
        | true =>
          rw [if_neg (by simp)]
          by_cases hl : 512 < x.b.length
          · rw [if_pos hl]
            have hd : decide ((512 : Int) < (x.b.length : Int)) = true := decide_eq_true (by omega)
            have k0 := H0.out.at.k
            go_enter Tryd.func11, Tryd.ntmps11
            go_wp2_with (refine wpList_load_midP (by rfl) 23 _ rfl B 1 (by rfl) _ _ H0.out.at.c Tryd.underlying23 rfl (by kernel_rfl) ?_)
            generalize w.alloc (.cells tk 29) = w0 at *
            refine (HC.out w0).mono ?_
            rintro e w2 ⟨rfl, hb2⟩
            rw [hc]
            have H2 := Bx.mk (H0.out.later hb2)
            clear hb2 H0 k0
            have k5 := H2.out.at.to
            go_wp2_with (refine wpList_load_midP (by rfl) 25 _ rfl B 6 (by rfl) _ _ H2.out.at.n Tryd.underlying25 rfl (by kernel_rfl) ?_)
            refine (HN.out w2).mono ?_
            rintro e w4 ⟨rfl, hb4⟩
            rw [hn]
            have H4 := Bx.mk (H2.out.later hb4)
            clear hb4 H2 k5
            have k8 := H4.out.at.b
            go_wp2
            go_ret
            exact ⟨rfl, H4.out.below⟩
          · rw [if_neg hl]
            have hd : decide ((512 : Int) < (x.b.length : Int)) = false := decide_eq_false (by omega)
            obtain ⟨fv, hfv⟩ : ∃ fv : Int, (if plainB x.k = true ∧ x.t ≠ z32P then 3 else 0) = fv := ⟨_, rfl⟩
            rw [hfv]
            have HFV := Bx.mk hfv
            clear hfv
            have k0 := H0.out.at.k
            go_enter Tryd.func11, Tryd.ntmps11
            go_wp2_with (refine wpList_load_midP (by rfl) 23 _ rfl B 1 (by rfl) _ _ H0.out.at.c Tryd.underlying23 rfl (by kernel_rfl) ?_)
            generalize w.alloc (.cells tk 29) = w0 at *
            refine (HC.out w0).mono ?_
            rintro e w2 ⟨rfl, hb2⟩
            rw [hc]
            have H2 := Bx.mk (H0.out.later hb2)
            clear hb2 H0 k0
            have k5 := H2.out.at.to
            go_wp2_with (refine wpList_load_midP (by rfl) 25 _ rfl B 6 (by rfl) _ _ H2.out.at.n Tryd.underlying25 rfl (by kernel_rfl) ?_)
            refine (HN.out w2).mono ?_
            rintro e w4 ⟨rfl, hb4⟩
            rw [hn]
            have H4 := Bx.mk (H2.out.later hb4)
            clear hb4 H2 k5
            have k8 := H4.out.at.b
            go_wp2
            clear k8
            go_loopw [3] (fun i wr => ∃ k : Nat, k ≤ 32 ∧ i = .int .i64 (k : Int) ∧ wr = w4 ∧ Bx (x.k < 3 → ∀ j, j < k → x.t.getD j 0 = 0)) (fun i _ => 32 - (intOf i).toNat)
            case atStart => exact ⟨0, Nat.zero_le _, rfl, rfl, ⟨fun _ j hj => absurd hj (Nat.not_lt_zero _)⟩⟩
            case round =>
              obtain ⟨k, hk, rfl, rfl, HI⟩ := hrel
              have k0 := H4.out.at.k
              by_cases hlt : k < 32
              · have hk1 : (k : Int) < 32 := by omega
                have hk2 : (0 : Int) ≤ (k : Int) := by omega
                by_cases h3 : x.k < 3
                · have hcell : wr.cell? ⟨B, 9 + k, none⟩ = some (.int .u8 (ub (x.t.getD k 0))) := H4.out.at.t k _ (by rw [Array.getElem?_toList]; exact u8s_get _ _ (by rw [HT.out]; exact hlt))
                  by_cases hz : x.t.getD k 0 = 0
                  · rw [hz] at hcell
                    change wr.cell? ⟨B, 9 + k, none⟩ = some (.int .u8 0) at hcell
                    go_wp2
                    go_roundw
                    case rel => exact ⟨k + 1, by omega, by go_num, by trivial, ⟨fun h j hj => by rcases Nat.lt_succ_iff_lt_or_eq.1 hj with h5 | h5; exact HI.out h j h5; rw [h5]; exact hz⟩⟩
                    case measure => simp [intOf]; omega
                  · have hu : ¬ ub (x.t.getD k 0) = 0 := fun e => hz (ub_inj e)
                    have HF : Bx (plainB x.k = true ∧ x.t ≠ z32P) := Bx.mk ⟨by unfold plainB; simp; omega, fun e => hz (by rw [e]; exact z32_get k)⟩
                    generalize ub (x.t.getD k 0) = tb at *
                    obtain rfl : fv = 3 := by rw [← HFV.out, if_pos HF.out]
                    clear hz HI
                    go_wp2
                    go_ret
                    exact ⟨rfl, H4.out.below⟩
                · go_wp2
                  go_roundw
                  case rel => exact ⟨k + 1, by omega, by go_num, by trivial, ⟨fun h => absurd h h3⟩⟩
                  case measure => simp [intOf]; omega
              · obtain rfl : k = 32 := by omega
                have HF : Bx (¬ (plainB x.k = true ∧ x.t ≠ z32P)) := Bx.mk fun h => h.2 (ext_getD (by rw [HT.out]; rfl) fun i hi => by
                  rw [HI.out (by have := h.1; unfold plainB at this; simp at this; omega) i (by rw [HT.out] at hi; exact hi)]
                  exact (z32_get i).symm)
                obtain rfl : fv = 0 := by rw [← HFV.out, if_neg HF.out]
                clear HI hlt
                go_wp2
                go_ret
                exact ⟨rfl, H4.out.below⟩
end Go.Proofs.YtaoekfomffebhaaDoor
