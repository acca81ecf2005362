/-
  Blocks that stay; equal packets.
-/
import Derived.Test.YtaoekfomffebhaaDoorP5
namespace Go.Proofs.YtaoekfomffebhaaDoor
open Go Go.ChangeShapes Go.WideShapes Go.ChangeAt Go.RowKit
/-- Blocks that stay, behind a world of B blocks. -/
structure KP (w : World) (B : Nat) (rs : List (Nat × Obj)) (W : World) : Prop where
  rows : ∀ x ∈ rs, W.heap[x.1]? = some x.2
  below : Below B w W
  le : B ≤ W.heap.size
theorem KP.start (w : World) (B : Nat) (h : w.heap.size = B) : KP w B [] w := ⟨fun _ h => (List.not_mem_nil h).elim, Below.refl _ _, by omega⟩
theorem KP.lt {w : World} {B : Nat} {rs : List (Nat × Obj)} {W : World} (h : KP w B rs W) {x : Nat × Obj} (hx : x ∈ rs) : x.1 < W.heap.size := (Array.getElem?_eq_some_iff.1 (h.rows x hx)).1
theorem KP.later {w : World} {B : Nat} {rs : List (Nat × Obj)} {W W1 : World} (h : KP w B rs W) (hb : Below W.heap.size W W1) : KP w B rs W1 :=
  ⟨fun x hx => by rw [hb.block _ (h.lt hx)]; exact h.rows x hx, h.below.trans (hb.mono h.le), Nat.le_trans h.le hb.size⟩
theorem KP.drew {w : World} {B : Nat} {rs : List (Nat × Obj)} {W : World} (h : KP w B rs W) : KP w B rs W.drew := h.later (Below.refl _ _).drew
theorem KP.new {w : World} {B : Nat} {rs : List (Nat × Obj)} {W : World} (h : KP w B rs W) (o : Obj) : KP w B ((W.heap.size, o) :: rs) (W.alloc o) := by
  have h1 := h.later (below_a o)
  refine ⟨fun x hx => ?_, h1.below, h1.le⟩
  rcases List.mem_cons.1 hx with rfl | hx
  · exact hnew _ _ _ rfl
  · exact h1.rows x hx
theorem KP.alloc {w : World} {B : Nat} {rs : List (Nat × Obj)} {W : World} (h : KP w B rs W) (o : Obj) : KP w B rs (W.alloc o) := h.later (below_a o)
theorem KP.set {w : World} {B Y : Nat} {o o1 : Obj} {rs : List (Nat × Obj)} {W W1 : World} (h : KP w B ((Y, o) :: rs) W) (hg : W.grownBy W1 (some Y)) (hY : W1.heap[Y]? = some o1) (hB : B ≤ Y) (hn : ∀ x ∈ rs, x.1 ≠ Y) : KP w B ((Y, o1) :: rs) W1 := by
  refine ⟨fun x hx => ?_, h.below.trans (grown_below hg hB h.le), Nat.le_trans h.le hg.size⟩
  rcases List.mem_cons.1 hx with rfl | hx
  · exact hY
  · rw [hg.block x.1 (h.lt (.tail _ hx)) (fun e => hn x hx (by injection e))]
    exact h.rows x (.tail _ hx)
theorem KP.swap {w : World} {B : Nat} {x y : Nat × Obj} {rs : List (Nat × Obj)} {W : World} (h : KP w B (x :: y :: rs) W) : KP w B (y :: x :: rs) W :=
  ⟨fun z hz => h.rows z (by rcases List.mem_cons.1 hz with rfl | hz; exact .tail _ (.head _); rcases List.mem_cons.1 hz with rfl | hz; exact .head _; exact .tail _ (.tail _ hz)), h.below, h.le⟩
theorem KP.tail {w : World} {B : Nat} {x : Nat × Obj} {rs : List (Nat × Obj)} {W : World} (h : KP w B (x :: rs) W) : KP w B rs W := ⟨fun z hz => h.rows z (.tail _ hz), h.below, h.le⟩
theorem kb_ofP {w w1 : World} {b o : Nat} {vs : List Value} (h : w1 = w.setCells b o vs) : w.grownBy w1 (some b) := by rw [h]; exact kb_setCells _ _ _
theorem alloc_sizeP (w : World) (o : Obj) : (w.alloc o).heap.size = w.heap.size + 1 := by simp
instance decCl14 : DecidableEq Cl := fun a b => decidable_of_iff (a.id = b.id ∧ a.ro = b.ro ∧ a.ex = b.ex ∧ a.se = b.se) (by cases a; cases b; simp)
def nnC (n : Nn) : Array Value := #[.int .i64 n.b, .int .i64 n.c]
set_option maxRecDepth 100000 in
theorem clW_in (d : Nat) (a b : Cl) (W : World) : (Op.equalIn (d + 2) 30 (.agg (clC a)) (.agg (clC b))).run Tryd.prog W = .ok (decide (a = b)) W := by
  obtain ⟨a1, a2, a3, a4⟩ := a
  obtain ⟨b1, b2, b3, b4⟩ := b
  have he : decide ((⟨a1, a2, a3, a4⟩ : Cl) = ⟨b1, b2, b3, b4⟩) = (decide (a1 = b1) && (decide (a2 = b2) && (decide (a3 = b3) && (decide (a4 = b4))))) := by simp
  rw [he]
  unfold clC
  simp only
  by_cases h1 : a1 = b1
  · by_cases h2 : a2 = b2
    · by_cases h3 : a3 = b3
      · by_cases h4 : a4 = b4
        · subst h1 h2 h3 h4
          go_simp
        · subst h1 h2 h3
          simp only [h4, decide_true, decide_false, Bool.and_false]
          go_simp
      · subst h1 h2
        simp only [h3, decide_true, decide_false, Bool.and_false, Bool.false_and]
        go_simp
    · subst h1
      simp only [h2, decide_true, decide_false, Bool.and_false, Bool.false_and]
      go_simp
  · simp only [h1, decide_false, Bool.false_and]
    go_simp
theorem clW_eql (a b : Cl) (W : World) : (binOp .eql 30 (.agg (clC a)) (.agg (clC b))).run Tryd.prog W = .ok (.bool (decide (a = b))) W := by
  rw [run_eql_struct, clW_in 9998 a b W]
  rfl
set_option maxRecDepth 100000 in
theorem nnW_in (d : Nat) (a b : Nn) (W : World) : (Op.equalIn (d + 2) 31 (.agg (nnC a)) (.agg (nnC b))).run Tryd.prog W = .ok (decide (a = b)) W := by
  obtain ⟨a1, a2⟩ := a
  obtain ⟨b1, b2⟩ := b
  have he : decide ((⟨a1, a2⟩ : Nn) = ⟨b1, b2⟩) = (decide (a1 = b1) && (decide (a2 = b2))) := by rw [Bool.eq_iff_iff]; simp [Nn.eq_iff]
  rw [he]
  unfold nnC
  simp only
  by_cases h1 : a1 = b1
  · by_cases h2 : a2 = b2
    · subst h1 h2
      go_simp
    · subst h1
      simp only [h2, decide_true, decide_false, Bool.and_false]
      go_simp
  · simp only [h1, decide_false, Bool.false_and]
    go_simp
theorem nnW_eql (a b : Nn) (W : World) : (binOp .eql 31 (.agg (nnC a)) (.agg (nnC b))).run Tryd.prog W = .ok (.bool (decide (a = b))) W := by
  rw [run_eql_struct, nnW_in 9998 a b W]
  rfl
set_option maxRecDepth 100000 in
set_option maxHeartbeats 4000000 in
theorem bequal14 (l m : List UInt8) (va vb : Value) (w : World) (ha : Bytes w va l) (hb : Bytes w vb m) : Calls Tryd.prog 44 #[va, vb] w fun e w' => e = .returned (.bool (decide (l = m))) ∧ w = w' := by
  have h1 := run_str w va l ha
  have h2 := run_str w vb m hb
  have hd : (l == m) = decide (l = m) := by
    rw [Bool.eq_iff_iff]
    simp
  obtain ⟨aa, ca, rfl, -⟩ := ha
  obtain ⟨ab, cb, rfl, -⟩ := hb
  generalize l.length = L at *
  generalize m.length = M at *
  go_enter Tryd.func44, Tryd.ntmps44
  go_wp2
  go_ret
  exact ⟨rfl, rfl⟩
set_option maxRecDepth 100000 in
set_option maxHeartbeats 4000000 in
theorem psame14_0 (xk : Int) (xc : Cl) (xto : Int) (xn : Nn) (xb : List UInt8) (xt : List UInt8) (yk : Int) (yc : Cl) (yto : Int) (yn : Nn) (yb : List UInt8) (yt : List UInt8) (a0 a1 : Option Addr) (c0 c1 : Nat) (w : World) (hx : xt.length = 32) (hy : yt.length = 32) (hb : Bytes w (.slice a0 xb.length c0) xb) (hc : Bytes w (.slice a1 yb.length c1) yb) (hlx : xb.length ≤ 1000000) (hly : yb.length ≤ 1000000) (hne : xk ≠ yk) :
    Calls Tryd.prog 18 #[pkV ⟨xk, xc, xto, xn, xb, xt⟩ (.slice a0 xb.length c0), pkV ⟨yk, yc, yto, yn, yb, yt⟩ (.slice a1 yb.length c1)] w fun e w' => e = .returned (.bool false) ∧ Below w.heap.size w w' := by
  obtain ⟨B, hB⟩ : ∃ B, w.heap.size = B := ⟨_, rfl⟩
  have H0 := Bx.mk (((KP.start w B hB).new (.cells (pkC ⟨xk, xc, xto, xn, xb, xt⟩ (.slice a0 xb.length c0)) 33)).new (.cells (pkC ⟨yk, yc, yto, yn, yb, yt⟩ (.slice a1 yb.length c1)) 33))
  rw [alloc_sizeP, hB] at H0
  have HBx := Bx.mk (hb.old hB H0.out.below)
  have HBy := Bx.mk (hc.old hB H0.out.below)
  obtain ⟨tk, htk⟩ : ∃ tk, pkC ⟨xk, xc, xto, xn, xb, xt⟩ (.slice a0 xb.length c0) = tk := ⟨_, rfl⟩
  obtain ⟨tl, htl⟩ : ∃ tl, pkC ⟨yk, yc, yto, yn, yb, yt⟩ (.slice a1 yb.length c1) = tl := ⟨_, rfl⟩
  have HX : Bx (PkAt ((w.alloc (.cells tk 33)).alloc (.cells tl 33)) B ⟨xk, xc, xto, xn, xb, xt⟩ (.slice a0 xb.length c0)) := Bx.mk (by rw [← htk, ← htl]; exact pk_at (H0.out.rows _ (.tail _ (.head _))))
  have HY : Bx (PkAt ((w.alloc (.cells tk 33)).alloc (.cells tl 33)) (B + 1) ⟨yk, yc, yto, yn, yb, yt⟩ (.slice a1 yb.length c1)) := Bx.mk (by rw [← htk, ← htl]; exact pk_at (H0.out.rows _ (.head _)))
  have HU := Bx.mk (And.intro (u8_info xt hx) (u8_info yt hy))
  have HL : Bx (Below B w ((w.alloc (.cells tk 33)).alloc (.cells tl 33)) ∧ Bytes ((w.alloc (.cells tk 33)).alloc (.cells tl 33)) (.slice a0 xb.length c0) xb ∧ Bytes ((w.alloc (.cells tk 33)).alloc (.cells tl 33)) (.slice a1 yb.length c1) yb ∧ xb.length ≤ 1000000 ∧ yb.length ≤ 1000000) := Bx.mk (by rw [← htk, ← htl]; exact ⟨H0.out.below, HBx.out, HBy.out, hlx, hly⟩)
  unfold pkV
  rw [htk, htl]
  rw [hB]
  clear hb hc htk htl H0 HBx HBy hx hy hlx hly
  obtain ⟨k0, -, k5, -, -, -, k8, -⟩ := HX.out
  obtain ⟨j0, -, j5, -, -, -, j8, -⟩ := HY.out
  simp only at k0 k5 k8 j0 j5 j8
  clear k5 j5
  clear k8 j8
  have hnd : decide (xk = yk) = false := decide_eq_false hne
  go_enter Tryd.func18, Tryd.ntmps18
  go_wp2_with fail
  go_ret
  exact ⟨rfl, HL.out.1⟩
set_option maxRecDepth 100000 in
set_option maxHeartbeats 4000000 in
theorem psame14_1 (xk : Int) (xc : Cl) (xto : Int) (xn : Nn) (xb : List UInt8) (xt : List UInt8) (yc : Cl) (yto : Int) (yn : Nn) (yb : List UInt8) (yt : List UInt8) (a0 a1 : Option Addr) (c0 c1 : Nat) (w : World) (hx : xt.length = 32) (hy : yt.length = 32) (hb : Bytes w (.slice a0 xb.length c0) xb) (hc : Bytes w (.slice a1 yb.length c1) yb) (hlx : xb.length ≤ 1000000) (hly : yb.length ≤ 1000000) (hne : xc ≠ yc) :
    Calls Tryd.prog 18 #[pkV ⟨xk, xc, xto, xn, xb, xt⟩ (.slice a0 xb.length c0), pkV ⟨xk, yc, yto, yn, yb, yt⟩ (.slice a1 yb.length c1)] w fun e w' => e = .returned (.bool false) ∧ Below w.heap.size w w' := by
  obtain ⟨B, hB⟩ : ∃ B, w.heap.size = B := ⟨_, rfl⟩
  have H0 := Bx.mk (((KP.start w B hB).new (.cells (pkC ⟨xk, xc, xto, xn, xb, xt⟩ (.slice a0 xb.length c0)) 33)).new (.cells (pkC ⟨xk, yc, yto, yn, yb, yt⟩ (.slice a1 yb.length c1)) 33))
  rw [alloc_sizeP, hB] at H0
  have HBx := Bx.mk (hb.old hB H0.out.below)
  have HBy := Bx.mk (hc.old hB H0.out.below)
  obtain ⟨tk, htk⟩ : ∃ tk, pkC ⟨xk, xc, xto, xn, xb, xt⟩ (.slice a0 xb.length c0) = tk := ⟨_, rfl⟩
  obtain ⟨tl, htl⟩ : ∃ tl, pkC ⟨xk, yc, yto, yn, yb, yt⟩ (.slice a1 yb.length c1) = tl := ⟨_, rfl⟩
  have HX : Bx (PkAt ((w.alloc (.cells tk 33)).alloc (.cells tl 33)) B ⟨xk, xc, xto, xn, xb, xt⟩ (.slice a0 xb.length c0)) := Bx.mk (by rw [← htk, ← htl]; exact pk_at (H0.out.rows _ (.tail _ (.head _))))
  have HY : Bx (PkAt ((w.alloc (.cells tk 33)).alloc (.cells tl 33)) (B + 1) ⟨xk, yc, yto, yn, yb, yt⟩ (.slice a1 yb.length c1)) := Bx.mk (by rw [← htk, ← htl]; exact pk_at (H0.out.rows _ (.head _)))
  have HU := Bx.mk (And.intro (u8_info xt hx) (u8_info yt hy))
  have HL : Bx (Below B w ((w.alloc (.cells tk 33)).alloc (.cells tl 33)) ∧ Bytes ((w.alloc (.cells tk 33)).alloc (.cells tl 33)) (.slice a0 xb.length c0) xb ∧ Bytes ((w.alloc (.cells tk 33)).alloc (.cells tl 33)) (.slice a1 yb.length c1) yb ∧ xb.length ≤ 1000000 ∧ yb.length ≤ 1000000) := Bx.mk (by rw [← htk, ← htl]; exact ⟨H0.out.below, HBx.out, HBy.out, hlx, hly⟩)
  have hcl : ∀ W : World, (binOp .eql 30 (.agg #[.int .i64 xc.id, .int .i64 xc.ro, .int .i64 xc.ex, .int .i64 xc.se]) (.agg #[.int .i64 yc.id, .int .i64 yc.ro, .int .i64 yc.ex, .int .i64 yc.se])).run Tryd.prog W = .ok (.bool false) W := fun W => by have := clW_eql xc yc W; rw [show decide (xc = yc) = false by simp [hne]] at this; exact this
  unfold pkV
  rw [htk, htl]
  rw [hB]
  clear hb hc htk htl H0 HBx HBy hx hy hlx hly
  obtain ⟨k0, -, k5, -, -, -, k8, -⟩ := HX.out
  obtain ⟨j0, -, j5, -, -, -, j8, -⟩ := HY.out
  simp only at k0 k5 k8 j0 j5 j8
  clear k5 j5
  clear k8 j8
  have HNE := Bx.mk hne
  clear hne
  go_enter Tryd.func18, Tryd.ntmps18
  go_wp2_with (first | (refine wpList_load_midP (by rfl) 30 _ rfl B 1 (by rfl) _ _ HX.out.c Tryd.underlying30 rfl (by kernel_rfl) ?_) | (refine wpList_load_midP (by rfl) 30 _ rfl (B + 1) 1 (by rfl) _ _ HY.out.c Tryd.underlying30 rfl (by kernel_rfl) ?_))
  go_ret
  exact ⟨rfl, HL.out.1⟩
set_option maxRecDepth 100000 in
set_option maxHeartbeats 4000000 in
theorem psame14_2 (xk : Int) (xc : Cl) (xto : Int) (xn : Nn) (xb : List UInt8) (xt : List UInt8) (yto : Int) (yn : Nn) (yb : List UInt8) (yt : List UInt8) (a0 a1 : Option Addr) (c0 c1 : Nat) (w : World) (hx : xt.length = 32) (hy : yt.length = 32) (hb : Bytes w (.slice a0 xb.length c0) xb) (hc : Bytes w (.slice a1 yb.length c1) yb) (hlx : xb.length ≤ 1000000) (hly : yb.length ≤ 1000000) (hne : xto ≠ yto) :
    Calls Tryd.prog 18 #[pkV ⟨xk, xc, xto, xn, xb, xt⟩ (.slice a0 xb.length c0), pkV ⟨xk, xc, yto, yn, yb, yt⟩ (.slice a1 yb.length c1)] w fun e w' => e = .returned (.bool false) ∧ Below w.heap.size w w' := by
  obtain ⟨B, hB⟩ : ∃ B, w.heap.size = B := ⟨_, rfl⟩
  have H0 := Bx.mk (((KP.start w B hB).new (.cells (pkC ⟨xk, xc, xto, xn, xb, xt⟩ (.slice a0 xb.length c0)) 33)).new (.cells (pkC ⟨xk, xc, yto, yn, yb, yt⟩ (.slice a1 yb.length c1)) 33))
  rw [alloc_sizeP, hB] at H0
  have HBx := Bx.mk (hb.old hB H0.out.below)
  have HBy := Bx.mk (hc.old hB H0.out.below)
  obtain ⟨tk, htk⟩ : ∃ tk, pkC ⟨xk, xc, xto, xn, xb, xt⟩ (.slice a0 xb.length c0) = tk := ⟨_, rfl⟩
  obtain ⟨tl, htl⟩ : ∃ tl, pkC ⟨xk, xc, yto, yn, yb, yt⟩ (.slice a1 yb.length c1) = tl := ⟨_, rfl⟩
  have HX : Bx (PkAt ((w.alloc (.cells tk 33)).alloc (.cells tl 33)) B ⟨xk, xc, xto, xn, xb, xt⟩ (.slice a0 xb.length c0)) := Bx.mk (by rw [← htk, ← htl]; exact pk_at (H0.out.rows _ (.tail _ (.head _))))
  have HY : Bx (PkAt ((w.alloc (.cells tk 33)).alloc (.cells tl 33)) (B + 1) ⟨xk, xc, yto, yn, yb, yt⟩ (.slice a1 yb.length c1)) := Bx.mk (by rw [← htk, ← htl]; exact pk_at (H0.out.rows _ (.head _)))
  have HU := Bx.mk (And.intro (u8_info xt hx) (u8_info yt hy))
  have HL : Bx (Below B w ((w.alloc (.cells tk 33)).alloc (.cells tl 33)) ∧ Bytes ((w.alloc (.cells tk 33)).alloc (.cells tl 33)) (.slice a0 xb.length c0) xb ∧ Bytes ((w.alloc (.cells tk 33)).alloc (.cells tl 33)) (.slice a1 yb.length c1) yb ∧ xb.length ≤ 1000000 ∧ yb.length ≤ 1000000) := Bx.mk (by rw [← htk, ← htl]; exact ⟨H0.out.below, HBx.out, HBy.out, hlx, hly⟩)
  have hcl : ∀ W : World, (binOp .eql 30 (.agg #[.int .i64 xc.id, .int .i64 xc.ro, .int .i64 xc.ex, .int .i64 xc.se]) (.agg #[.int .i64 xc.id, .int .i64 xc.ro, .int .i64 xc.ex, .int .i64 xc.se])).run Tryd.prog W = .ok (.bool true) W := fun W => by have := clW_eql xc xc W; rw [show decide (xc = xc) = true by simp] at this; exact this
  unfold pkV
  rw [htk, htl]
  rw [hB]
  clear hb hc htk htl H0 HBx HBy hx hy hlx hly
  obtain ⟨k0, -, k5, -, -, -, k8, -⟩ := HX.out
  obtain ⟨j0, -, j5, -, -, -, j8, -⟩ := HY.out
  simp only at k0 k5 k8 j0 j5 j8
  clear k8 j8
  have hnd : decide (xto = yto) = false := decide_eq_false hne
  go_enter Tryd.func18, Tryd.ntmps18
  go_wp2_with (first | (refine wpList_load_midP (by rfl) 30 _ rfl B 1 (by rfl) _ _ HX.out.c Tryd.underlying30 rfl (by kernel_rfl) ?_) | (refine wpList_load_midP (by rfl) 30 _ rfl (B + 1) 1 (by rfl) _ _ HY.out.c Tryd.underlying30 rfl (by kernel_rfl) ?_))
  go_ret
  exact ⟨rfl, HL.out.1⟩
set_option maxRecDepth 100000 in
set_option maxHeartbeats 4000000 in
theorem psame14_3 (xk : Int) (xc : Cl) (xto : Int) (xn : Nn) (xb : List UInt8) (xt : List UInt8) (yn : Nn) (yb : List UInt8) (yt : List UInt8) (a0 a1 : Option Addr) (c0 c1 : Nat) (w : World) (hx : xt.length = 32) (hy : yt.length = 32) (hb : Bytes w (.slice a0 xb.length c0) xb) (hc : Bytes w (.slice a1 yb.length c1) yb) (hlx : xb.length ≤ 1000000) (hly : yb.length ≤ 1000000) (hne : xn ≠ yn) :
    Calls Tryd.prog 18 #[pkV ⟨xk, xc, xto, xn, xb, xt⟩ (.slice a0 xb.length c0), pkV ⟨xk, xc, xto, yn, yb, yt⟩ (.slice a1 yb.length c1)] w fun e w' => e = .returned (.bool false) ∧ Below w.heap.size w w' := by
  obtain ⟨B, hB⟩ : ∃ B, w.heap.size = B := ⟨_, rfl⟩
  have H0 := Bx.mk (((KP.start w B hB).new (.cells (pkC ⟨xk, xc, xto, xn, xb, xt⟩ (.slice a0 xb.length c0)) 33)).new (.cells (pkC ⟨xk, xc, xto, yn, yb, yt⟩ (.slice a1 yb.length c1)) 33))
  rw [alloc_sizeP, hB] at H0
  have HBx := Bx.mk (hb.old hB H0.out.below)
  have HBy := Bx.mk (hc.old hB H0.out.below)
  obtain ⟨tk, htk⟩ : ∃ tk, pkC ⟨xk, xc, xto, xn, xb, xt⟩ (.slice a0 xb.length c0) = tk := ⟨_, rfl⟩
  obtain ⟨tl, htl⟩ : ∃ tl, pkC ⟨xk, xc, xto, yn, yb, yt⟩ (.slice a1 yb.length c1) = tl := ⟨_, rfl⟩
  have HX : Bx (PkAt ((w.alloc (.cells tk 33)).alloc (.cells tl 33)) B ⟨xk, xc, xto, xn, xb, xt⟩ (.slice a0 xb.length c0)) := Bx.mk (by rw [← htk, ← htl]; exact pk_at (H0.out.rows _ (.tail _ (.head _))))
  have HY : Bx (PkAt ((w.alloc (.cells tk 33)).alloc (.cells tl 33)) (B + 1) ⟨xk, xc, xto, yn, yb, yt⟩ (.slice a1 yb.length c1)) := Bx.mk (by rw [← htk, ← htl]; exact pk_at (H0.out.rows _ (.head _)))
  have HU := Bx.mk (And.intro (u8_info xt hx) (u8_info yt hy))
  have HL : Bx (Below B w ((w.alloc (.cells tk 33)).alloc (.cells tl 33)) ∧ Bytes ((w.alloc (.cells tk 33)).alloc (.cells tl 33)) (.slice a0 xb.length c0) xb ∧ Bytes ((w.alloc (.cells tk 33)).alloc (.cells tl 33)) (.slice a1 yb.length c1) yb ∧ xb.length ≤ 1000000 ∧ yb.length ≤ 1000000) := Bx.mk (by rw [← htk, ← htl]; exact ⟨H0.out.below, HBx.out, HBy.out, hlx, hly⟩)
  have hcl : ∀ W : World, (binOp .eql 30 (.agg #[.int .i64 xc.id, .int .i64 xc.ro, .int .i64 xc.ex, .int .i64 xc.se]) (.agg #[.int .i64 xc.id, .int .i64 xc.ro, .int .i64 xc.ex, .int .i64 xc.se])).run Tryd.prog W = .ok (.bool true) W := fun W => by have := clW_eql xc xc W; rw [show decide (xc = xc) = true by simp] at this; exact this
  have hnn : ∀ W : World, (binOp .eql 31 (.agg #[.int .i64 xn.b, .int .i64 xn.c]) (.agg #[.int .i64 yn.b, .int .i64 yn.c])).run Tryd.prog W = .ok (.bool false) W := fun W => by have := nnW_eql xn yn W; rw [show decide (xn = yn) = false by simp [hne]] at this; exact this
  unfold pkV
  rw [htk, htl]
  rw [hB]
  clear hb hc htk htl H0 HBx HBy hx hy hlx hly
  obtain ⟨k0, -, k5, -, -, -, k8, -⟩ := HX.out
  obtain ⟨j0, -, j5, -, -, -, j8, -⟩ := HY.out
  simp only at k0 k5 k8 j0 j5 j8
  clear k8 j8
  have HNE := Bx.mk hne
  clear hne
  go_enter Tryd.func18, Tryd.ntmps18
  go_wp2_with (first | (refine wpList_load_midP (by rfl) 30 _ rfl B 1 (by rfl) _ _ HX.out.c Tryd.underlying30 rfl (by kernel_rfl) ?_) | (refine wpList_load_midP (by rfl) 30 _ rfl (B + 1) 1 (by rfl) _ _ HY.out.c Tryd.underlying30 rfl (by kernel_rfl) ?_) | (refine wpList_load_midP (by rfl) 31 _ rfl B 6 (by rfl) _ _ HX.out.n Tryd.underlying31 rfl (by kernel_rfl) ?_) | (refine wpList_load_midP (by rfl) 31 _ rfl (B + 1) 6 (by rfl) _ _ HY.out.n Tryd.underlying31 rfl (by kernel_rfl) ?_))
  go_ret
  exact ⟨rfl, HL.out.1⟩
set_option maxRecDepth 100000 in
set_option maxHeartbeats 4000000 in
theorem psame14_4 (xk : Int) (xc : Cl) (xto : Int) (xn : Nn) (xb : List UInt8) (xt : List UInt8) (yb : List UInt8) (yt : List UInt8) (a0 a1 : Option Addr) (c0 c1 : Nat) (w : World) (hx : xt.length = 32) (hy : yt.length = 32) (hb : Bytes w (.slice a0 xb.length c0) xb) (hc : Bytes w (.slice a1 yb.length c1) yb) (hlx : xb.length ≤ 1000000) (hly : yb.length ≤ 1000000) (hne : xb ≠ yb) :
    Calls Tryd.prog 18 #[pkV ⟨xk, xc, xto, xn, xb, xt⟩ (.slice a0 xb.length c0), pkV ⟨xk, xc, xto, xn, yb, yt⟩ (.slice a1 yb.length c1)] w fun e w' => e = .returned (.bool false) ∧ Below w.heap.size w w' := by
  obtain ⟨B, hB⟩ : ∃ B, w.heap.size = B := ⟨_, rfl⟩
  have H0 := Bx.mk (((KP.start w B hB).new (.cells (pkC ⟨xk, xc, xto, xn, xb, xt⟩ (.slice a0 xb.length c0)) 33)).new (.cells (pkC ⟨xk, xc, xto, xn, yb, yt⟩ (.slice a1 yb.length c1)) 33))
  rw [alloc_sizeP, hB] at H0
  have HBx := Bx.mk (hb.old hB H0.out.below)
  have HBy := Bx.mk (hc.old hB H0.out.below)
  obtain ⟨tk, htk⟩ : ∃ tk, pkC ⟨xk, xc, xto, xn, xb, xt⟩ (.slice a0 xb.length c0) = tk := ⟨_, rfl⟩
  obtain ⟨tl, htl⟩ : ∃ tl, pkC ⟨xk, xc, xto, xn, yb, yt⟩ (.slice a1 yb.length c1) = tl := ⟨_, rfl⟩
  have HX : Bx (PkAt ((w.alloc (.cells tk 33)).alloc (.cells tl 33)) B ⟨xk, xc, xto, xn, xb, xt⟩ (.slice a0 xb.length c0)) := Bx.mk (by rw [← htk, ← htl]; exact pk_at (H0.out.rows _ (.tail _ (.head _))))
  have HY : Bx (PkAt ((w.alloc (.cells tk 33)).alloc (.cells tl 33)) (B + 1) ⟨xk, xc, xto, xn, yb, yt⟩ (.slice a1 yb.length c1)) := Bx.mk (by rw [← htk, ← htl]; exact pk_at (H0.out.rows _ (.head _)))
  have HU := Bx.mk (And.intro (u8_info xt hx) (u8_info yt hy))
  have HL : Bx (Below B w ((w.alloc (.cells tk 33)).alloc (.cells tl 33)) ∧ Bytes ((w.alloc (.cells tk 33)).alloc (.cells tl 33)) (.slice a0 xb.length c0) xb ∧ Bytes ((w.alloc (.cells tk 33)).alloc (.cells tl 33)) (.slice a1 yb.length c1) yb ∧ xb.length ≤ 1000000 ∧ yb.length ≤ 1000000) := Bx.mk (by rw [← htk, ← htl]; exact ⟨H0.out.below, HBx.out, HBy.out, hlx, hly⟩)
  have hcl : ∀ W : World, (binOp .eql 30 (.agg #[.int .i64 xc.id, .int .i64 xc.ro, .int .i64 xc.ex, .int .i64 xc.se]) (.agg #[.int .i64 xc.id, .int .i64 xc.ro, .int .i64 xc.ex, .int .i64 xc.se])).run Tryd.prog W = .ok (.bool true) W := fun W => by have := clW_eql xc xc W; rw [show decide (xc = xc) = true by simp] at this; exact this
  have hnn : ∀ W : World, (binOp .eql 31 (.agg #[.int .i64 xn.b, .int .i64 xn.c]) (.agg #[.int .i64 xn.b, .int .i64 xn.c])).run Tryd.prog W = .ok (.bool true) W := fun W => by have := nnW_eql xn xn W; rw [show decide (xn = xn) = true by simp] at this; exact this
  unfold pkV
  rw [htk, htl]
  rw [hB]
  clear hb hc htk htl H0 HBx HBy hx hy hlx hly
  obtain ⟨k0, -, k5, -, -, -, k8, -⟩ := HX.out
  obtain ⟨j0, -, j5, -, -, -, j8, -⟩ := HY.out
  simp only at k0 k5 k8 j0 j5 j8
  have HNE := Bx.mk hne
  clear hne
  go_enter Tryd.func18, Tryd.ntmps18
  go_wp2_with (first | (refine wpList_load_midP (by rfl) 30 _ rfl B 1 (by rfl) _ _ HX.out.c Tryd.underlying30 rfl (by kernel_rfl) ?_) | (refine wpList_load_midP (by rfl) 30 _ rfl (B + 1) 1 (by rfl) _ _ HY.out.c Tryd.underlying30 rfl (by kernel_rfl) ?_) | (refine wpList_load_midP (by rfl) 31 _ rfl B 6 (by rfl) _ _ HX.out.n Tryd.underlying31 rfl (by kernel_rfl) ?_) | (refine wpList_load_midP (by rfl) 31 _ rfl (B + 1) 6 (by rfl) _ _ HY.out.n Tryd.underlying31 rfl (by kernel_rfl) ?_))
  refine (bequal14 xb yb _ _ ((w.alloc (.cells tk 33)).alloc (.cells tl 33)) HL.out.2.1 HL.out.2.2.1).mono ?_
  rintro e w2 ⟨rfl, rfl⟩
  rw [show decide (xb = yb) = false by simp [HNE.out]]
  go_wp2_with (first | (refine wpList_load_midP (by rfl) 30 _ rfl B 1 (by rfl) _ _ HX.out.c Tryd.underlying30 rfl (by kernel_rfl) ?_) | (refine wpList_load_midP (by rfl) 30 _ rfl (B + 1) 1 (by rfl) _ _ HY.out.c Tryd.underlying30 rfl (by kernel_rfl) ?_) | (refine wpList_load_midP (by rfl) 31 _ rfl B 6 (by rfl) _ _ HX.out.n Tryd.underlying31 rfl (by kernel_rfl) ?_) | (refine wpList_load_midP (by rfl) 31 _ rfl (B + 1) 6 (by rfl) _ _ HY.out.n Tryd.underlying31 rfl (by kernel_rfl) ?_))
  go_ret
  exact ⟨rfl, HL.out.1⟩
set_option maxRecDepth 100000 in
set_option maxHeartbeats 4000000 in
theorem psame14_5 (xk : Int) (xc : Cl) (xto : Int) (xn : Nn) (xb : List UInt8) (xt : List UInt8) (yt : List UInt8) (a0 a1 : Option Addr) (c0 c1 : Nat) (w : World) (hx : xt.length = 32) (hy : yt.length = 32) (hb : Bytes w (.slice a0 xb.length c0) xb) (hc : Bytes w (.slice a1 xb.length c1) xb) (hlx : xb.length ≤ 1000000) (hly : xb.length ≤ 1000000) (hne : xt ≠ yt) :
    Calls Tryd.prog 18 #[pkV ⟨xk, xc, xto, xn, xb, xt⟩ (.slice a0 xb.length c0), pkV ⟨xk, xc, xto, xn, xb, yt⟩ (.slice a1 xb.length c1)] w fun e w' => e = .returned (.bool false) ∧ Below w.heap.size w w' := by
  obtain ⟨B, hB⟩ : ∃ B, w.heap.size = B := ⟨_, rfl⟩
  have H0 := Bx.mk (((KP.start w B hB).new (.cells (pkC ⟨xk, xc, xto, xn, xb, xt⟩ (.slice a0 xb.length c0)) 33)).new (.cells (pkC ⟨xk, xc, xto, xn, xb, yt⟩ (.slice a1 xb.length c1)) 33))
  rw [alloc_sizeP, hB] at H0
  have HBx := Bx.mk (hb.old hB H0.out.below)
  have HBy := Bx.mk (hc.old hB H0.out.below)
  obtain ⟨tk, htk⟩ : ∃ tk, pkC ⟨xk, xc, xto, xn, xb, xt⟩ (.slice a0 xb.length c0) = tk := ⟨_, rfl⟩
  obtain ⟨tl, htl⟩ : ∃ tl, pkC ⟨xk, xc, xto, xn, xb, yt⟩ (.slice a1 xb.length c1) = tl := ⟨_, rfl⟩
  have HX : Bx (PkAt ((w.alloc (.cells tk 33)).alloc (.cells tl 33)) B ⟨xk, xc, xto, xn, xb, xt⟩ (.slice a0 xb.length c0)) := Bx.mk (by rw [← htk, ← htl]; exact pk_at (H0.out.rows _ (.tail _ (.head _))))
  have HY : Bx (PkAt ((w.alloc (.cells tk 33)).alloc (.cells tl 33)) (B + 1) ⟨xk, xc, xto, xn, xb, yt⟩ (.slice a1 xb.length c1)) := Bx.mk (by rw [← htk, ← htl]; exact pk_at (H0.out.rows _ (.head _)))
  have HU := Bx.mk (And.intro (u8_info xt hx) (u8_info yt hy))
  have HL : Bx (Below B w ((w.alloc (.cells tk 33)).alloc (.cells tl 33)) ∧ Bytes ((w.alloc (.cells tk 33)).alloc (.cells tl 33)) (.slice a0 xb.length c0) xb ∧ Bytes ((w.alloc (.cells tk 33)).alloc (.cells tl 33)) (.slice a1 xb.length c1) xb ∧ xb.length ≤ 1000000 ∧ xb.length ≤ 1000000) := Bx.mk (by rw [← htk, ← htl]; exact ⟨H0.out.below, HBx.out, HBy.out, hlx, hly⟩)
  have hcl : ∀ W : World, (binOp .eql 30 (.agg #[.int .i64 xc.id, .int .i64 xc.ro, .int .i64 xc.ex, .int .i64 xc.se]) (.agg #[.int .i64 xc.id, .int .i64 xc.ro, .int .i64 xc.ex, .int .i64 xc.se])).run Tryd.prog W = .ok (.bool true) W := fun W => by have := clW_eql xc xc W; rw [show decide (xc = xc) = true by simp] at this; exact this
  have hnn : ∀ W : World, (binOp .eql 31 (.agg #[.int .i64 xn.b, .int .i64 xn.c]) (.agg #[.int .i64 xn.b, .int .i64 xn.c])).run Tryd.prog W = .ok (.bool true) W := fun W => by have := nnW_eql xn xn W; rw [show decide (xn = xn) = true by simp] at this; exact this
  have htt : ∀ W : World, (binOp .eql 27 (.agg (u8s xt)) (.agg (u8s yt))).run Tryd.prog W = .ok (.bool false) W := fun W => eq_z32 _ _ hx hy _ (by simp [hne]) W
  have HTB := Bx.mk (And.intro HX.out.t HY.out.t)
  simp only at HTB
  obtain ⟨tt, ht1⟩ : ∃ tt, u8s xt = tt := ⟨_, rfl⟩
  rw [ht1] at HTB HU htt
  obtain ⟨tu, ht2⟩ : ∃ tu, u8s yt = tu := ⟨_, rfl⟩
  rw [ht2] at HTB HU htt
  clear ht2
  clear ht1
  unfold pkV
  rw [htk, htl]
  rw [hB]
  clear hb hc htk htl H0 HBx HBy hx hy hlx hly
  obtain ⟨k0, -, k5, -, -, -, k8, -⟩ := HX.out
  obtain ⟨j0, -, j5, -, -, -, j8, -⟩ := HY.out
  simp only at k0 k5 k8 j0 j5 j8
  have HNE := Bx.mk hne
  clear hne
  go_enter Tryd.func18, Tryd.ntmps18
  go_wp2_with (first | (refine wpList_load_midP (by rfl) 30 _ rfl B 1 (by rfl) _ _ HX.out.c Tryd.underlying30 rfl (by kernel_rfl) ?_) | (refine wpList_load_midP (by rfl) 30 _ rfl (B + 1) 1 (by rfl) _ _ HY.out.c Tryd.underlying30 rfl (by kernel_rfl) ?_) | (refine wpList_load_midP (by rfl) 31 _ rfl B 6 (by rfl) _ _ HX.out.n Tryd.underlying31 rfl (by kernel_rfl) ?_) | (refine wpList_load_midP (by rfl) 31 _ rfl (B + 1) 6 (by rfl) _ _ HY.out.n Tryd.underlying31 rfl (by kernel_rfl) ?_) | (refine wpList_load_midP (by rfl) 27 _ rfl B 9 (by rfl) tt.toList _ HTB.out.1 Tryd.underlying27 rfl HU.out.1 ?_; rw [Array.toArray_toList]) | (refine wpList_load_midP (by rfl) 27 _ rfl (B + 1) 9 (by rfl) tu.toList _ HTB.out.2 Tryd.underlying27 rfl HU.out.2 ?_; rw [Array.toArray_toList]))
  refine (bequal14 xb xb _ _ ((w.alloc (.cells tk 33)).alloc (.cells tl 33)) HL.out.2.1 HL.out.2.2.1).mono ?_
  rintro e w2 ⟨rfl, rfl⟩
  rw [show decide (xb = xb) = true by simp]
  go_wp2_with (first | (refine wpList_load_midP (by rfl) 30 _ rfl B 1 (by rfl) _ _ HX.out.c Tryd.underlying30 rfl (by kernel_rfl) ?_) | (refine wpList_load_midP (by rfl) 30 _ rfl (B + 1) 1 (by rfl) _ _ HY.out.c Tryd.underlying30 rfl (by kernel_rfl) ?_) | (refine wpList_load_midP (by rfl) 31 _ rfl B 6 (by rfl) _ _ HX.out.n Tryd.underlying31 rfl (by kernel_rfl) ?_) | (refine wpList_load_midP (by rfl) 31 _ rfl (B + 1) 6 (by rfl) _ _ HY.out.n Tryd.underlying31 rfl (by kernel_rfl) ?_) | (refine wpList_load_midP (by rfl) 27 _ rfl B 9 (by rfl) tt.toList _ HTB.out.1 Tryd.underlying27 rfl HU.out.1 ?_; rw [Array.toArray_toList]) | (refine wpList_load_midP (by rfl) 27 _ rfl (B + 1) 9 (by rfl) tu.toList _ HTB.out.2 Tryd.underlying27 rfl HU.out.2 ?_; rw [Array.toArray_toList]))
  go_ret
  exact ⟨rfl, HL.out.1⟩
set_option maxRecDepth 100000 in
set_option maxHeartbeats 4000000 in
theorem psame14_6 (xk : Int) (xc : Cl) (xto : Int) (xn : Nn) (xb : List UInt8) (xt : List UInt8) (a0 a1 : Option Addr) (c0 c1 : Nat) (w : World) (hx : xt.length = 32) (hy : xt.length = 32) (hb : Bytes w (.slice a0 xb.length c0) xb) (hc : Bytes w (.slice a1 xb.length c1) xb) (hlx : xb.length ≤ 1000000) (hly : xb.length ≤ 1000000) :
    Calls Tryd.prog 18 #[pkV ⟨xk, xc, xto, xn, xb, xt⟩ (.slice a0 xb.length c0), pkV ⟨xk, xc, xto, xn, xb, xt⟩ (.slice a1 xb.length c1)] w fun e w' => e = .returned (.bool true) ∧ Below w.heap.size w w' := by
  obtain ⟨B, hB⟩ : ∃ B, w.heap.size = B := ⟨_, rfl⟩
  have H0 := Bx.mk (((KP.start w B hB).new (.cells (pkC ⟨xk, xc, xto, xn, xb, xt⟩ (.slice a0 xb.length c0)) 33)).new (.cells (pkC ⟨xk, xc, xto, xn, xb, xt⟩ (.slice a1 xb.length c1)) 33))
  rw [alloc_sizeP, hB] at H0
  have HBx := Bx.mk (hb.old hB H0.out.below)
  have HBy := Bx.mk (hc.old hB H0.out.below)
  obtain ⟨tk, htk⟩ : ∃ tk, pkC ⟨xk, xc, xto, xn, xb, xt⟩ (.slice a0 xb.length c0) = tk := ⟨_, rfl⟩
  obtain ⟨tl, htl⟩ : ∃ tl, pkC ⟨xk, xc, xto, xn, xb, xt⟩ (.slice a1 xb.length c1) = tl := ⟨_, rfl⟩
  have HX : Bx (PkAt ((w.alloc (.cells tk 33)).alloc (.cells tl 33)) B ⟨xk, xc, xto, xn, xb, xt⟩ (.slice a0 xb.length c0)) := Bx.mk (by rw [← htk, ← htl]; exact pk_at (H0.out.rows _ (.tail _ (.head _))))
  have HY : Bx (PkAt ((w.alloc (.cells tk 33)).alloc (.cells tl 33)) (B + 1) ⟨xk, xc, xto, xn, xb, xt⟩ (.slice a1 xb.length c1)) := Bx.mk (by rw [← htk, ← htl]; exact pk_at (H0.out.rows _ (.head _)))
  have HU := Bx.mk (And.intro (u8_info xt hx) (u8_info xt hy))
  have HL : Bx (Below B w ((w.alloc (.cells tk 33)).alloc (.cells tl 33)) ∧ Bytes ((w.alloc (.cells tk 33)).alloc (.cells tl 33)) (.slice a0 xb.length c0) xb ∧ Bytes ((w.alloc (.cells tk 33)).alloc (.cells tl 33)) (.slice a1 xb.length c1) xb ∧ xb.length ≤ 1000000 ∧ xb.length ≤ 1000000) := Bx.mk (by rw [← htk, ← htl]; exact ⟨H0.out.below, HBx.out, HBy.out, hlx, hly⟩)
  have hcl : ∀ W : World, (binOp .eql 30 (.agg #[.int .i64 xc.id, .int .i64 xc.ro, .int .i64 xc.ex, .int .i64 xc.se]) (.agg #[.int .i64 xc.id, .int .i64 xc.ro, .int .i64 xc.ex, .int .i64 xc.se])).run Tryd.prog W = .ok (.bool true) W := fun W => by have := clW_eql xc xc W; rw [show decide (xc = xc) = true by simp] at this; exact this
  have hnn : ∀ W : World, (binOp .eql 31 (.agg #[.int .i64 xn.b, .int .i64 xn.c]) (.agg #[.int .i64 xn.b, .int .i64 xn.c])).run Tryd.prog W = .ok (.bool true) W := fun W => by have := nnW_eql xn xn W; rw [show decide (xn = xn) = true by simp] at this; exact this
  have htt : ∀ W : World, (binOp .eql 27 (.agg (u8s xt)) (.agg (u8s xt))).run Tryd.prog W = .ok (.bool true) W := fun W => eq_z32 _ _ hx hy _ (by simp) W
  have HTB := Bx.mk (And.intro HX.out.t HY.out.t)
  simp only at HTB
  obtain ⟨tt, ht1⟩ : ∃ tt, u8s xt = tt := ⟨_, rfl⟩
  rw [ht1] at HTB HU htt
  clear ht1
  unfold pkV
  rw [htk, htl]
  rw [hB]
  clear hb hc htk htl H0 HBx HBy hx hy hlx hly
  obtain ⟨k0, -, k5, -, -, -, k8, -⟩ := HX.out
  obtain ⟨j0, -, j5, -, -, -, j8, -⟩ := HY.out
  simp only at k0 k5 k8 j0 j5 j8
  go_enter Tryd.func18, Tryd.ntmps18
  go_wp2_with (first | (refine wpList_load_midP (by rfl) 30 _ rfl B 1 (by rfl) _ _ HX.out.c Tryd.underlying30 rfl (by kernel_rfl) ?_) | (refine wpList_load_midP (by rfl) 30 _ rfl (B + 1) 1 (by rfl) _ _ HY.out.c Tryd.underlying30 rfl (by kernel_rfl) ?_) | (refine wpList_load_midP (by rfl) 31 _ rfl B 6 (by rfl) _ _ HX.out.n Tryd.underlying31 rfl (by kernel_rfl) ?_) | (refine wpList_load_midP (by rfl) 31 _ rfl (B + 1) 6 (by rfl) _ _ HY.out.n Tryd.underlying31 rfl (by kernel_rfl) ?_) | (refine wpList_load_midP (by rfl) 27 _ rfl B 9 (by rfl) tt.toList _ HTB.out.1 Tryd.underlying27 rfl HU.out.1 ?_; rw [Array.toArray_toList]) | (refine wpList_load_midP (by rfl) 27 _ rfl (B + 1) 9 (by rfl) tt.toList _ HTB.out.2 Tryd.underlying27 rfl HU.out.2 ?_; rw [Array.toArray_toList]))
  refine (bequal14 xb xb _ _ ((w.alloc (.cells tk 33)).alloc (.cells tl 33)) HL.out.2.1 HL.out.2.2.1).mono ?_
  rintro e w2 ⟨rfl, rfl⟩
  rw [show decide (xb = xb) = true by simp]
  go_wp2_with (first | (refine wpList_load_midP (by rfl) 30 _ rfl B 1 (by rfl) _ _ HX.out.c Tryd.underlying30 rfl (by kernel_rfl) ?_) | (refine wpList_load_midP (by rfl) 30 _ rfl (B + 1) 1 (by rfl) _ _ HY.out.c Tryd.underlying30 rfl (by kernel_rfl) ?_) | (refine wpList_load_midP (by rfl) 31 _ rfl B 6 (by rfl) _ _ HX.out.n Tryd.underlying31 rfl (by kernel_rfl) ?_) | (refine wpList_load_midP (by rfl) 31 _ rfl (B + 1) 6 (by rfl) _ _ HY.out.n Tryd.underlying31 rfl (by kernel_rfl) ?_) | (refine wpList_load_midP (by rfl) 27 _ rfl B 9 (by rfl) tt.toList _ HTB.out.1 Tryd.underlying27 rfl HU.out.1 ?_; rw [Array.toArray_toList]) | (refine wpList_load_midP (by rfl) 27 _ rfl (B + 1) 9 (by rfl) tt.toList _ HTB.out.2 Tryd.underlying27 rfl HU.out.2 ?_; rw [Array.toArray_toList]))
  go_ret
  exact ⟨rfl, HL.out.1⟩
theorem psame14 (x y : Pk) (v u : Value) (w : World) (hx : x.t.length = 32) (hy : y.t.length = 32) (hb : Bytes w v x.b) (hc : Bytes w u y.b) (hlx : x.b.length ≤ 1000000) (hly : y.b.length ≤ 1000000) (d : Bool) (hd : d = true ↔ x = y) : Calls Tryd.prog 18 #[pkV x v, pkV y u] w fun e w' => e = .returned (.bool d) ∧ Below w.heap.size w w' := by
  obtain ⟨a0, c0, rfl, -, -⟩ := bytes_form hb
  obtain ⟨a1, c1, rfl, -, -⟩ := bytes_form hc
  obtain ⟨xk, xc, xto, xn, xb, xt⟩ := x
  obtain ⟨yk, yc, yto, yn, yb, yt⟩ := y
  by_cases ek : xk = yk
  case neg =>
    obtain rfl : d = false := by cases d with | false => rfl | true => exact absurd (congrArg Pk.k (hd.1 rfl)) ek
    exact psame14_0 _ _ _ _ _ _ _ _ _ _ _ _ _ _ _ _ w hx hy hb hc hlx hly ek
  subst ek
  by_cases ec : xc = yc
  case neg =>
    obtain rfl : d = false := by cases d with | false => rfl | true => exact absurd (congrArg Pk.c (hd.1 rfl)) ec
    exact psame14_1 _ _ _ _ _ _ _ _ _ _ _ _ _ _ _ w hx hy hb hc hlx hly ec
  subst ec
  by_cases eto : xto = yto
  case neg =>
    obtain rfl : d = false := by cases d with | false => rfl | true => exact absurd (congrArg Pk.to (hd.1 rfl)) eto
    exact psame14_2 _ _ _ _ _ _ _ _ _ _ _ _ _ _ w hx hy hb hc hlx hly eto
  subst eto
  by_cases en : xn = yn
  case neg =>
    obtain rfl : d = false := by cases d with | false => rfl | true => exact absurd (congrArg Pk.n (hd.1 rfl)) en
    exact psame14_3 _ _ _ _ _ _ _ _ _ _ _ _ _ w hx hy hb hc hlx hly en
  subst en
  by_cases eb : xb = yb
  case neg =>
    obtain rfl : d = false := by cases d with | false => rfl | true => exact absurd (congrArg Pk.b (hd.1 rfl)) eb
    exact psame14_4 _ _ _ _ _ _ _ _ _ _ _ _ w hx hy hb hc hlx hly eb
  subst eb
  by_cases et : xt = yt
  case neg =>
    obtain rfl : d = false := by cases d with | false => rfl | true => exact absurd (congrArg Pk.t (hd.1 rfl)) et
    exact psame14_5 _ _ _ _ _ _ _ _ _ _ _ w hx hy hb hc hlx hly et
  subst et
  obtain rfl : d = true := hd.2 rfl
  exact psame14_6 _ _ _ _ _ _ _ _ _ _ w hx hy hb hc hlx hly
end Go.Proofs.YtaoekfomffebhaaDoor
