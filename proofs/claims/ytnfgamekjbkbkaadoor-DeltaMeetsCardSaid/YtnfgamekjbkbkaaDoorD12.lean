/-
  Delta: the lower of two versions; how many are too many; deltas that are the same.
-/
import Derived.Test.YtnfgamekjbkbkaaDoorD3
import Derived.Test.YtnfgamekjbkbkaaDoorJb
namespace Go.Proofs.YtnfgamekjbkbkaaDoor
open Go Go.RowKit
/-- Of each the smaller. -/
def lowV (v x : V4) : V4 := ⟨min v.a x.a, min v.b x.b, min v.c x.c, min v.d x.d⟩
set_option maxRecDepth 100000 in
set_option maxHeartbeats 4000000 in
theorem lower9 (v x : V4) (w : World) (_ : ∀ n ∈ [v.a, v.b, v.c, v.d, x.a, x.b, x.c, x.d], in64 n) : Calls Tryd.prog 66 #[.agg #[.int .i64 v.a, .int .i64 v.b, .int .i64 v.c, .int .i64 v.d], .agg #[.int .i64 x.a, .int .i64 x.b, .int .i64 x.c, .int .i64 x.d]] w fun e w' => e = .returned (.agg #[.int .i64 (lowV v x).a, .int .i64 (lowV v x).b, .int .i64 (lowV v x).c, .int .i64 (lowV v x).d]) ∧ Below w.heap.size w w' := by
  obtain ⟨E, hE⟩ : ∃ E, w.heap.size = E := ⟨_, rfl⟩
  have R0 : Bx (KR w E [(E, .cells #[.int .i64 v.a, .int .i64 v.b, .int .i64 v.c, .int .i64 v.d] 28), (E + 2, .cells #[.int .i64 0, .int .i64 0, .int .i64 0, .int .i64 0] 28), (E + 1, .cells #[.int .i64 x.a, .int .i64 x.b, .int .i64 x.c, .int .i64 x.d] 28)] (((w.alloc (.cells #[.int .i64 v.a, .int .i64 v.b, .int .i64 v.c, .int .i64 v.d] 28)).alloc (.cells #[.int .i64 x.a, .int .i64 x.b, .int .i64 x.c, .int .i64 x.d] 28)).alloc (.cells #[.int .i64 0, .int .i64 0, .int .i64 0, .int .i64 0] 28))) := Bx.mk (by
    subst hE
    have h := (((KR.start w).new (.cells #[.int .i64 v.a, .int .i64 v.b, .int .i64 v.c, .int .i64 v.d] 28)).new (.cells #[.int .i64 x.a, .int .i64 x.b, .int .i64 x.c, .int .i64 x.d] 28)).new (.cells #[.int .i64 0, .int .i64 0, .int .i64 0, .int .i64 0] 28)
    simp only [alloc_size8] at h
    exact h.sub (fun y hy => by simp at hy ⊢; rcases hy with rfl | rfl | rfl <;> simp))
  have i0 := idxV0 x.a x.b x.c x.d
  have i1 := idxV1 x.a x.b x.c x.d
  have i2 := idxV2 x.a x.b x.c x.d
  have i3 := idxV3 x.a x.b x.c x.d
  unfold lowV
  rw [hE]
  go_enter Tryd.func66, Tryd.ntmps66
  go_wp2_with (refine wpList_load_row rfl 28 _ rfl (E + 1) (by rfl) _ #[.int .i64 x.a, .int .i64 x.b, .int .i64 x.c, .int .i64 x.d] (0, 0) _ (R0.out.rows _ (.tail _ (.tail _ (.head _)))) Tryd.underlying28 rfl (by kernel_rfl) ?_)
  generalize ((w.alloc (.cells #[.int .i64 v.a, .int .i64 v.b, .int .i64 v.c, .int .i64 v.d] 28)).alloc (.cells #[.int .i64 x.a, .int .i64 x.b, .int .i64 x.c, .int .i64 x.d] 28)).alloc (.cells #[.int .i64 0, .int .i64 0, .int .i64 0, .int .i64 0] 28) = w0 at *
  refine wp_loop_rounds 5 ?_
  rw [rounds_succ]
  have m : w0.cell? ⟨E, 0, none⟩ = some (.int .i64 v.a) := by rw [cell_of_row _ _ _ _ _ _ (R0.out.rows _ (.head _))]; rfl
  go_wp2_with (refine wpList_cellI rfl _ _ rfl E 0 (min v.a x.a) #[.int .i64 v.a, .int .i64 v.b, .int .i64 v.c, .int .i64 v.d] #[.int .i64 (min v.a x.a), .int .i64 v.b, .int .i64 v.c, .int .i64 v.d] 28 (by rfl) (by rfl) (R0.out.rows _ (.head _)) (by simp) rfl ?_; intro w1 hg hr; have R1 := Bx.mk (R0.out.set hg hr (by omega) (by intro y hy; simp at hy; rcases hy with rfl | rfl <;> (simp only; omega))); clear hg hr R0 m)
  rw [rounds_succ]
  have m : w1.cell? ⟨E, 1, none⟩ = some (.int .i64 v.b) := by rw [cell_of_row _ _ _ _ _ _ (R1.out.rows _ (.head _))]; rfl
  go_wp2_with (refine wpList_cellI rfl _ _ rfl E 1 (min v.b x.b) #[.int .i64 (min v.a x.a), .int .i64 v.b, .int .i64 v.c, .int .i64 v.d] #[.int .i64 (min v.a x.a), .int .i64 (min v.b x.b), .int .i64 v.c, .int .i64 v.d] 28 (by rfl) (by rfl) (R1.out.rows _ (.head _)) (by simp) rfl ?_; intro w2 hg hr; have R2 := Bx.mk (R1.out.set hg hr (by omega) (by intro y hy; simp at hy; rcases hy with rfl | rfl <;> (simp only; omega))); clear hg hr R1 m)
  rw [rounds_succ]
  have m : w2.cell? ⟨E, 2, none⟩ = some (.int .i64 v.c) := by rw [cell_of_row _ _ _ _ _ _ (R2.out.rows _ (.head _))]; rfl
  go_wp2_with (refine wpList_cellI rfl _ _ rfl E 2 (min v.c x.c) #[.int .i64 (min v.a x.a), .int .i64 (min v.b x.b), .int .i64 v.c, .int .i64 v.d] #[.int .i64 (min v.a x.a), .int .i64 (min v.b x.b), .int .i64 (min v.c x.c), .int .i64 v.d] 28 (by rfl) (by rfl) (R2.out.rows _ (.head _)) (by simp) rfl ?_; intro w3 hg hr; have R3 := Bx.mk (R2.out.set hg hr (by omega) (by intro y hy; simp at hy; rcases hy with rfl | rfl <;> (simp only; omega))); clear hg hr R2 m)
  rw [rounds_succ]
  have m : w3.cell? ⟨E, 3, none⟩ = some (.int .i64 v.d) := by rw [cell_of_row _ _ _ _ _ _ (R3.out.rows _ (.head _))]; rfl
  go_wp2_with (refine wpList_cellI rfl _ _ rfl E 3 (min v.d x.d) #[.int .i64 (min v.a x.a), .int .i64 (min v.b x.b), .int .i64 (min v.c x.c), .int .i64 v.d] #[.int .i64 (min v.a x.a), .int .i64 (min v.b x.b), .int .i64 (min v.c x.c), .int .i64 (min v.d x.d)] 28 (by rfl) (by rfl) (R3.out.rows _ (.head _)) (by simp) rfl ?_; intro w4 hg hr; have R4 := Bx.mk (R3.out.set hg hr (by omega) (by intro y hy; simp at hy; rcases hy with rfl | rfl <;> (simp only; omega))); clear hg hr R3 m)
  rw [rounds_succ]
  go_wp2_with (first | (refine wpList_load_row rfl 28 _ rfl E (by rfl) _ #[.int .i64 (min v.a x.a), .int .i64 (min v.b x.b), .int .i64 (min v.c x.c), .int .i64 (min v.d x.d)] (0, 0) _ (R4.out.rows _ (.head _)) Tryd.underlying28 rfl (by kernel_rfl) ?_) | (refine wpList_store_new rfl 28 _ _ rfl (E + 2) #[.int .i64 (min v.a x.a), .int .i64 (min v.b x.b), .int .i64 (min v.c x.c), .int .i64 (min v.d x.d)] _ _ (by rfl) (by rfl) (R4.out.rows _ (.tail _ (.head _))) rfl (by kernel_rfl) (by simp [Value.oneCell']) ?_; intro w14 hw hr; have HR := Bx.mk hr; have HG := Bx.mk (kb_of9 hw); clear hw hr))
  refine bodyPost_ret (results_cell_row rfl _ _ (E + 2) _ _ _ _ rfl HR.out Tryd.underlying28 rfl (by kernel_rfl)) rfl ?_
  exact ⟨rfl, R4.out.below.trans (grown_below HG.out (by omega) R4.out.le)⟩
set_option maxRecDepth 100000 in
set_option maxHeartbeats 4000000 in
theorem toomany9 (s r : Nat) (w : World) (hs : s ≤ 1000000) (hr : 16 ≤ r) (hr2 : (r : Int) ≤ 9223372036854775807) : Calls Tryd.prog 88 #[.int .i64 (s : Int), .int .i64 (r : Int)] w fun e w' => e = .returned (.int .i64 (((max s r - r + 1) / 2 : Nat) : Int)) ∧ w' = w := by
  obtain ⟨d, hd⟩ : ∃ d, max s r - r = d := ⟨_, rfl⟩
  have hm : max (s : Int) (r : Int) = (r : Int) + (d : Int) := by omega
  have hd2 : (d : Int) ≤ 1000000 := by omega
  have hd0 : (0 : Int) ≤ (d : Int) := by omega
  have q1 : IntKind.i64.wrap ((r : Int) + (d : Int) - (r : Int)) = (d : Int) := by rw [show (r : Int) + (d : Int) - (r : Int) = (d : Int) by omega]; exact IntWalk.i64_in _ (by omega)
  have q2 : IntKind.i64.wrap ((d : Int) + 2) = (d : Int) + 2 := IntWalk.i64_in _ (by omega)
  have q3 : IntKind.i64.wrap ((d : Int) + 2 - 1) = (d : Int) + 1 := by rw [show (d : Int) + 2 - 1 = (d : Int) + 1 by omega]; exact IntWalk.i64_in _ (by omega)
  have q4 : IntKind.i64.wrap (((d : Int) + 1).tdiv 2) = (((d + 1) / 2 : Nat) : Int) := by rw [IntWalk.i64_quo _ _ (by omega)]; omega
  rw [hd]
  clear hd
  go_enter Tryd.func88, Tryd.ntmps88
  go_wp2
  go_ret
  exact ⟨rfl, rfl⟩
end Go.Proofs.YtnfgamekjbkbkaaDoor
