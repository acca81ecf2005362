/-
  Claims: the walks of Compare and of what it calls.
-/
import Derived.Test.YtdbdpehagkglfaaCb
import Derived.LoopN
import Derived.Test.YtdbdpehagkglfaaSrt
import Derived.Deep.QuietTactic
import Derived.BigQuiet
import Derived.Deep.RegionHeld3
import Derived.Laws.BitsAllLaws
import Derived.Maps.AppendAt
import Derived.Shelf.Abstract
namespace Go.Proofs.Ytdbdpehagkglfaa
open Go Go.RowKit
/-- Which of two numbers is the smaller. -/
def sg (x y : Int) : Int := if x < y then -1 else if y < x then 1 else 0
set_option maxRecDepth 100000 in
theorem cmp_any (x y : Int) (w : World) : Calls Try.prog 66 #[.int .i64 x, .int .i64 y] w fun e w' => e = .returned (.int .i64 (sg x y)) ∧ w' = w := by
  unfold sg
  by_cases h1 : x < y
  · rw [if_pos h1]
    go_enter Try.func66, Try.ntmps66
    go_wp2
    go_ret
    exact ⟨rfl, rfl⟩
  · rw [if_neg h1]
    by_cases h2 : y < x
    · rw [if_pos h2]
      go_enter Try.func66, Try.ntmps66
      go_wp2
      go_ret
      exact ⟨rfl, rfl⟩
    · rw [if_neg h2]
      go_enter Try.func66, Try.ntmps66
      go_wp2
      go_ret
      exact ⟨rfl, rfl⟩
/-- The first of four numbers that is not 0. -/
def or4 (a b c d : Int) : Int := if a ≠ 0 then a else if b ≠ 0 then b else if c ≠ 0 then c else d
set_option maxRecDepth 100000 in
set_option maxHeartbeats 1000000 in
theorem or_any (a b c d : Int) (g : Nat) (w : World) (h : w.heap[g]? = some (.cells #[.int .i64 a, .int .i64 b, .int .i64 c, .int .i64 d] 3 (0, 0))) :
    Calls Try.prog 65 #[.slice (some ⟨g, 0, none⟩) 4 4] w fun e w' => e = .returned (.int .i64 (or4 a b c d)) ∧ w' = w := by
  have k0 : w.cell? ⟨g, 0, none⟩ = some (.int .i64 a) := by rw [cell_of_row _ _ _ _ _ _ h]; rfl
  have k1 : w.cell? ⟨g, 1, none⟩ = some (.int .i64 b) := by rw [cell_of_row _ _ _ _ _ _ h]; rfl
  have k2 : w.cell? ⟨g, 2, none⟩ = some (.int .i64 c) := by rw [cell_of_row _ _ _ _ _ _ h]; rfl
  have k3 : w.cell? ⟨g, 3, none⟩ = some (.int .i64 d) := by rw [cell_of_row _ _ _ _ _ _ h]; rfl
  clear h
  obtain ⟨V, hV⟩ : ∃ V, or4 a b c d = V := ⟨_, rfl⟩
  rw [hV]
  have HV := Bx.mk hV
  clear hV
  go_enter Try.func65, Try.ntmps65
  go_wp2
  refine wp_loop_rounds 5 ?_
  rw [rounds_succ]
  by_cases h0 : ¬ a = 0
  · have hb0 : (a != 0) = true := by simp [h0]
    have HE : Bx (V = a) := Bx.mk (by rw [← HV.out]; unfold or4; simp [h0])
    clear HV
    go_wp2
    go_ret
    exact ⟨by rw [HE.out]; rfl, rfl⟩
  obtain rfl : a = 0 := Decidable.not_not.mp h0
  clear h0
  go_wp2
  rw [rounds_succ]
  by_cases h1 : ¬ b = 0
  · have hb1 : (b != 0) = true := by simp [h1]
    have HE : Bx (V = b) := Bx.mk (by rw [← HV.out]; unfold or4; simp [h1])
    clear HV
    go_wp2
    go_ret
    exact ⟨by rw [HE.out]; rfl, rfl⟩
  obtain rfl : b = 0 := Decidable.not_not.mp h1
  clear h1
  go_wp2
  rw [rounds_succ]
  by_cases h2 : ¬ c = 0
  · have hb2 : (c != 0) = true := by simp [h2]
    have HE : Bx (V = c) := Bx.mk (by rw [← HV.out]; unfold or4; simp [h2])
    clear HV
    go_wp2
    go_ret
    exact ⟨by rw [HE.out]; rfl, rfl⟩
  obtain rfl : c = 0 := Decidable.not_not.mp h2
  clear h2
  go_wp2
  rw [rounds_succ]
  by_cases h3 : ¬ d = 0
  · have hb3 : (d != 0) = true := by simp [h3]
    have HE : Bx (V = d) := Bx.mk (by rw [← HV.out]; unfold or4; simp [h3])
    clear HV
    go_wp2
    go_ret
    exact ⟨by rw [HE.out]; rfl, rfl⟩
  obtain rfl : d = 0 := Decidable.not_not.mp h3
  clear h3
  go_wp2
  rw [rounds_succ]
  go_wp2
  go_ret
  exact ⟨by rw [← HV.out]; rfl, rfl⟩
/-- The order of claims. -/
def cmpC (a b : Cl) : Int := or4 (sg a.se b.se) (sg a.id b.id) (sg a.ex b.ex) (sg a.ro b.ro)
/-- What stays while two claims are compared. -/
structure CS (w : World) (B : Nat) (a b : Cl) (W : World) : Prop where
  one : W.heap[B]? = some (.cells (clC a) 34 (0, 0))
  two : W.heap[B + 1]? = some (.cells (clC b) 34 (0, 0))
  below : Below B w W
  dr : w.drawn ≤ W.drawn
theorem CS.later {w : World} {B : Nat} {a b : Cl} {W W1 : World} (h : CS w B a b W) (hb : Below W.heap.size W W1) (hd : W.drawn ≤ W1.drawn) : CS w B a b W1 :=
  have h0 : B + 1 < W.heap.size := (Array.getElem?_eq_some_iff.1 h.two).1
  ⟨by rw [hb.block B (by omega)]; exact h.one, by rw [hb.block (B + 1) h0]; exact h.two, h.below.trans (hb.mono (by omega)), Nat.le_trans h.dr hd⟩
theorem CS.x0 {w : World} {B : Nat} {a0 a1 a2 a3 : Int} {b : Cl} {W : World} (h : CS w B ⟨a0, a1, a2, a3⟩ b W) : W.cell? ⟨B, 0, none⟩ = some (.int .i64 a0) := by rw [cell_of_row _ _ _ _ _ _ h.one]; rfl
theorem CS.y0 {w : World} {B : Nat} {b0 b1 b2 b3 : Int} {a : Cl} {W : World} (h : CS w B a ⟨b0, b1, b2, b3⟩ W) : W.cell? ⟨B + 1, 0, none⟩ = some (.int .i64 b0) := by rw [cell_of_row _ _ _ _ _ _ h.two]; rfl
theorem CS.x1 {w : World} {B : Nat} {a0 a1 a2 a3 : Int} {b : Cl} {W : World} (h : CS w B ⟨a0, a1, a2, a3⟩ b W) : W.cell? ⟨B, 1, none⟩ = some (.int .i64 a1) := by rw [cell_of_row _ _ _ _ _ _ h.one]; rfl
theorem CS.y1 {w : World} {B : Nat} {b0 b1 b2 b3 : Int} {a : Cl} {W : World} (h : CS w B a ⟨b0, b1, b2, b3⟩ W) : W.cell? ⟨B + 1, 1, none⟩ = some (.int .i64 b1) := by rw [cell_of_row _ _ _ _ _ _ h.two]; rfl
theorem CS.x2 {w : World} {B : Nat} {a0 a1 a2 a3 : Int} {b : Cl} {W : World} (h : CS w B ⟨a0, a1, a2, a3⟩ b W) : W.cell? ⟨B, 2, none⟩ = some (.int .i64 a2) := by rw [cell_of_row _ _ _ _ _ _ h.one]; rfl
theorem CS.y2 {w : World} {B : Nat} {b0 b1 b2 b3 : Int} {a : Cl} {W : World} (h : CS w B a ⟨b0, b1, b2, b3⟩ W) : W.cell? ⟨B + 1, 2, none⟩ = some (.int .i64 b2) := by rw [cell_of_row _ _ _ _ _ _ h.two]; rfl
theorem CS.x3 {w : World} {B : Nat} {a0 a1 a2 a3 : Int} {b : Cl} {W : World} (h : CS w B ⟨a0, a1, a2, a3⟩ b W) : W.cell? ⟨B, 3, none⟩ = some (.int .i64 a3) := by rw [cell_of_row _ _ _ _ _ _ h.one]; rfl
theorem CS.y3 {w : World} {B : Nat} {b0 b1 b2 b3 : Int} {a : Cl} {W : World} (h : CS w B a ⟨b0, b1, b2, b3⟩ W) : W.cell? ⟨B + 1, 3, none⟩ = some (.int .i64 b3) := by rw [cell_of_row _ _ _ _ _ _ h.two]; rfl
/-- Are claims the same? -/
def sameC (a b : Cl) : Bool := decide (a.id = b.id) && decide (a.ro = b.ro) && decide (a.ex = b.ex) && decide (a.se = b.se)
theorem sameC_iff (a b : Cl) : sameC a b = true ↔ a = b := by
  obtain ⟨a0, a1, a2, a3⟩ := a
  obtain ⟨b0, b1, b2, b3⟩ := b
  simp [sameC, and_assoc]
theorem eqC (a0 a1 a2 a3 b0 b1 b2 b3 : Int) (W : World) : (binOp BinOp.eql 34 (.agg #[.int .i64 a0, .int .i64 a1, .int .i64 a2, .int .i64 a3]) (.agg #[.int .i64 b0, .int .i64 b1, .int .i64 b2, .int .i64 b3])).run Try.prog W = .ok (.bool (sameC ⟨a0, a1, a2, a3⟩ ⟨b0, b1, b2, b3⟩)) W := by
  go_simp
  unfold sameC
  simp only
  by_cases h0 : a0 = b0 <;> by_cases h1 : a1 = b1 <;> by_cases h2 : a2 = b2 <;> by_cases h3 : a3 = b3 <;> simp [h0, h1, h2, h3]
theorem cmpC_self (a : Cl) : cmpC a a = 0 := by simp [cmpC, sg, or4]
set_option maxRecDepth 100000 in
set_option maxHeartbeats 2000000 in
theorem compare_anyD (a b : Cl) (w : World) : Calls Try.prog 54 #[clV a, clV b] w fun e w' => e = .returned (.int .i64 (cmpC a b)) ∧ Below w.heap.size w w' ∧ w.drawn ≤ w'.drawn := by
  obtain ⟨B, hB⟩ : ∃ B, w.heap.size = B := ⟨_, rfl⟩
  rw [hB]
  have H0 : Bx (CS w B a b ((w.alloc (.cells (clC a) 34)).alloc (.cells (clC b) 34))) := Bx.mk ⟨by rw [hold _ _ _ (by simp; omega)]; exact hnew _ _ _ hB.symm, hnew _ _ _ (by simp; omega), by rw [← hB]; exact (below_a _).alloc (by simp) _, Nat.le_refl _⟩
  by_cases hab : sameC a b = true
  · have hq := (sameC_iff a b).mp hab
    subst hq
    rw [cmpC_self]
    obtain ⟨a0, a1, a2, a3⟩ := a
    have heq := fun W => eqC a0 a1 a2 a3 a0 a1 a2 a3 W
    rw [hab] at heq
    unfold clC at H0
    unfold clV
    simp only at H0 ⊢
    go_enter Try.func54, Try.ntmps54
    go_wp2
    go_ret
    exact ⟨rfl, H0.out.below, H0.out.dr⟩
  · have hab2 : sameC a b = false := by simpa using hab
    obtain ⟨a0, a1, a2, a3⟩ := a
    obtain ⟨b0, b1, b2, b3⟩ := b
    have heq := fun W => eqC a0 a1 a2 a3 b0 b1 b2 b3 W
    rw [hab2] at heq
    unfold clV cmpC
    have HC : Bx (CS w B ⟨a0, a1, a2, a3⟩ ⟨b0, b1, b2, b3⟩ ((w.alloc (.cells #[.int .i64 a0, .int .i64 a1, .int .i64 a2, .int .i64 a3] 34)).alloc (.cells #[.int .i64 b0, .int .i64 b1, .int .i64 b2, .int .i64 b3] 34)).drew) := Bx.mk (H0.out.later (Below.refl _ _).drew (Nat.le_succ _))
    simp only
    clear hab hab2 H0
    go_enter Try.func54, Try.ntmps54
    go_upto_region 3 with (fail)
    generalize (w.alloc (.cells #[.int .i64 a0, .int .i64 a1, .int .i64 a2, .int .i64 a3] 34)).alloc (.cells #[.int .i64 b0, .int .i64 b1, .int .i64 b2, .int .i64 b3] 34) = w1 at *
    clear heq
    refine wp_region_noPanic ?_
    refine wp_region_held_drew (S := fun W => W.cell? ⟨B, 0, none⟩ = some (.int .i64 a0) ∧ W.cell? ⟨B, 1, none⟩ = some (.int .i64 a1) ∧ W.cell? ⟨B, 2, none⟩ = some (.int .i64 a2) ∧ W.cell? ⟨B, 3, none⟩ = some (.int .i64 a3) ∧ W.cell? ⟨B + 1, 0, none⟩ = some (.int .i64 b0) ∧ W.cell? ⟨B + 1, 1, none⟩ = some (.int .i64 b1) ∧ W.cell? ⟨B + 1, 2, none⟩ = some (.int .i64 b2) ∧ W.cell? ⟨B + 1, 3, none⟩ = some (.int .i64 b3)) (by kernel_rfl) (⟨HC.out.x0, HC.out.x1, HC.out.x2, HC.out.x3, HC.out.y0, HC.out.y1, HC.out.y2, HC.out.y3⟩) (fun hHeld => ?_)
    generalize w1.drew = W0 at *
    refine takeL 0 (v := ?_) rfl (by kernel_rfl) (by kernel_rfl) (by kernel_rfl) (fun _ _ _ h => h) (Or.inl ⟨by rfl, ?_⟩) hHeld ?_
    rotate_left 1
    · (intro w hSw; go_simp; try with_reducible rfl)
    try simp only [Act.put, List.setIfInBounds_toArray, List.set_cons_zero, List.set_cons_succ]
    refine takeL 1 (v := ?_) rfl (by kernel_rfl) (by kernel_rfl) (by kernel_rfl) (fun _ _ _ h => h) (Or.inl ⟨by rfl, ?_⟩) hHeld ?_
    rotate_left 1
    · (intro w hSw; go_simp; try with_reducible rfl)
    try simp only [Act.put, List.setIfInBounds_toArray, List.set_cons_zero, List.set_cons_succ]
    refine takeL 2 (v := ?_) rfl (by kernel_rfl) (by kernel_rfl) (by kernel_rfl) (fun _ _ _ h => h) (Or.inl ⟨by rfl, ?_⟩) hHeld ?_
    rotate_left 1
    · (intro w hSw; go_simp; try with_reducible rfl)
    try simp only [Act.put, List.setIfInBounds_toArray, List.set_cons_zero, List.set_cons_succ]
    refine takeL 3 (v := ?_) rfl (by kernel_rfl) (by kernel_rfl) (by kernel_rfl) (fun _ _ _ h => h) (Or.inl ⟨by rfl, ?_⟩) hHeld ?_
    rotate_left 1
    · (intro w hSw; go_simp; try with_reducible rfl)
    try simp only [Act.put, List.setIfInBounds_toArray, List.set_cons_zero, List.set_cons_succ]
    refine takeL 5 (v := ?_) rfl (by kernel_rfl) (by kernel_rfl) (by kernel_rfl) (fun _ _ _ h => h) (Or.inl ⟨by rfl, ?_⟩) hHeld ?_
    rotate_left 1
    · (intro w hSw; go_simp; try with_reducible rfl)
    try simp only [Act.put, List.setIfInBounds_toArray, List.set_cons_zero, List.set_cons_succ]
    refine takeL 6 (v := ?_) rfl (by kernel_rfl) (by kernel_rfl) (by kernel_rfl) (fun _ _ _ h => h) (Or.inl ⟨by rfl, ?_⟩) hHeld ?_
    rotate_left 1
    · (intro w hSw; go_simp; try with_reducible rfl)
    try simp only [Act.put, List.setIfInBounds_toArray, List.set_cons_zero, List.set_cons_succ]
    refine takeL 7 (v := ?_) rfl (by kernel_rfl) (by kernel_rfl) (by kernel_rfl) (fun _ _ _ h => h) (Or.inl ⟨by rfl, ?_⟩) hHeld ?_
    rotate_left 1
    · (intro w hSw; go_simp; try with_reducible rfl)
    try simp only [Act.put, List.setIfInBounds_toArray, List.set_cons_zero, List.set_cons_succ]
    refine takeL 8 (v := ?_) rfl (by kernel_rfl) (by kernel_rfl) (by kernel_rfl) (fun _ _ _ h => h) (Or.inl ⟨by rfl, ?_⟩) hHeld ?_
    rotate_left 1
    · (intro w hSw; go_simp; try with_reducible rfl)
    try simp only [Act.put, List.setIfInBounds_toArray, List.set_cons_zero, List.set_cons_succ]
    refine takeL 10 (v := ?_) rfl (by kernel_rfl) (by kernel_rfl) (by kernel_rfl) (fun _ _ _ h => h) (Or.inl ⟨by rfl, ?_⟩) hHeld ?_
    rotate_left 1
    · (intro w hSw; go_simp; try with_reducible rfl)
    try simp only [Act.put, List.setIfInBounds_toArray, List.set_cons_zero, List.set_cons_succ]
    refine takeL 11 (v := ?_) rfl (by kernel_rfl) (by kernel_rfl) (by kernel_rfl) (fun _ _ _ h => h) (Or.inl ⟨by rfl, ?_⟩) hHeld ?_
    rotate_left 1
    · (intro w hSw; go_simp; try with_reducible rfl)
    try simp only [Act.put, List.setIfInBounds_toArray, List.set_cons_zero, List.set_cons_succ]
    refine takeL 12 (v := ?_) rfl (by kernel_rfl) (by kernel_rfl) (by kernel_rfl) (fun _ _ _ h => h) (Or.inl ⟨by rfl, ?_⟩) hHeld ?_
    rotate_left 1
    · (intro w hSw; go_simp; try with_reducible rfl)
    try simp only [Act.put, List.setIfInBounds_toArray, List.set_cons_zero, List.set_cons_succ]
    refine takeL 13 (v := ?_) rfl (by kernel_rfl) (by kernel_rfl) (by kernel_rfl) (fun _ _ _ h => h) (Or.inl ⟨by rfl, ?_⟩) hHeld ?_
    rotate_left 1
    · (intro w hSw; go_simp; try with_reducible rfl)
    try simp only [Act.put, List.setIfInBounds_toArray, List.set_cons_zero, List.set_cons_succ]
    refine takeL 15 (v := ?_) rfl (by kernel_rfl) (by kernel_rfl) (by kernel_rfl) (fun _ _ _ h => h) (Or.inl ⟨by rfl, ?_⟩) hHeld ?_
    rotate_left 1
    · (intro w hSw; go_simp; try with_reducible rfl)
    try simp only [Act.put, List.setIfInBounds_toArray, List.set_cons_zero, List.set_cons_succ]
    refine takeL 16 (v := ?_) rfl (by kernel_rfl) (by kernel_rfl) (by kernel_rfl) (fun _ _ _ h => h) (Or.inl ⟨by rfl, ?_⟩) hHeld ?_
    rotate_left 1
    · (intro w hSw; go_simp; try with_reducible rfl)
    try simp only [Act.put, List.setIfInBounds_toArray, List.set_cons_zero, List.set_cons_succ]
    refine takeL 17 (v := ?_) rfl (by kernel_rfl) (by kernel_rfl) (by kernel_rfl) (fun _ _ _ h => h) (Or.inl ⟨by rfl, ?_⟩) hHeld ?_
    rotate_left 1
    · (intro w hSw; go_simp; try with_reducible rfl)
    try simp only [Act.put, List.setIfInBounds_toArray, List.set_cons_zero, List.set_cons_succ]
    refine takeL 18 (v := ?_) rfl (by kernel_rfl) (by kernel_rfl) (by kernel_rfl) (fun _ _ _ h => h) (Or.inl ⟨by rfl, ?_⟩) hHeld ?_
    rotate_left 1
    · (intro w hSw; go_simp; try with_reducible rfl)
    try simp only [Act.put, List.setIfInBounds_toArray, List.set_cons_zero, List.set_cons_succ]
    refine stepL 4 (by kernel_rfl) rfl (fun K hK => ?_)
    go_simp
    refine (cmp_any a3 b3 W0).mono ?_
    rintro e Wx ⟨rfl, hw⟩
    rw [hw]
    clear hw Wx
    show K _ _
    refine hK.out _ _ ⟨HC.out.x0, HC.out.x1, HC.out.x2, HC.out.x3, HC.out.y0, HC.out.y1, HC.out.y2, HC.out.y3⟩ (fun hHeld => ?_)
    clear hK K
    try simp only [Act.put, List.setIfInBounds_toArray, List.set_cons_zero, List.set_cons_succ]
    refine stepL 9 (by kernel_rfl) rfl (fun K hK => ?_)
    go_simp
    refine (cmp_any a0 b0 W0).mono ?_
    rintro e Wx ⟨rfl, hw⟩
    rw [hw]
    clear hw Wx
    show K _ _
    refine hK.out _ _ ⟨HC.out.x0, HC.out.x1, HC.out.x2, HC.out.x3, HC.out.y0, HC.out.y1, HC.out.y2, HC.out.y3⟩ (fun hHeld => ?_)
    clear hK K
    try simp only [Act.put, List.setIfInBounds_toArray, List.set_cons_zero, List.set_cons_succ]
    refine stepL 14 (by kernel_rfl) rfl (fun K hK => ?_)
    go_simp
    refine (cmp_any a2 b2 W0).mono ?_
    rintro e Wx ⟨rfl, hw⟩
    rw [hw]
    clear hw Wx
    show K _ _
    refine hK.out _ _ ⟨HC.out.x0, HC.out.x1, HC.out.x2, HC.out.x3, HC.out.y0, HC.out.y1, HC.out.y2, HC.out.y3⟩ (fun hHeld => ?_)
    clear hK K
    try simp only [Act.put, List.setIfInBounds_toArray, List.set_cons_zero, List.set_cons_succ]
    refine stepL 19 (by kernel_rfl) rfl (fun K hK => ?_)
    go_simp
    refine (cmp_any a1 b1 W0).mono ?_
    rintro e Wx ⟨rfl, hw⟩
    rw [hw]
    clear hw Wx
    show K _ _
    refine hK.out _ _ ⟨HC.out.x0, HC.out.x1, HC.out.x2, HC.out.x3, HC.out.y0, HC.out.y1, HC.out.y2, HC.out.y3⟩ (fun hHeld => ?_)
    clear hK K
    try simp only [Act.put, List.setIfInBounds_toArray, List.set_cons_zero, List.set_cons_succ]
    refine stepL 20 (by kernel_rfl) rfl (fun K hK => ?_)
    go_simp
    have HR : Bx ((W0.alloc (.cells #[.int .i64 (sg a3 b3), .int .i64 (sg a0 b0), .int .i64 (sg a2 b2), .int .i64 (sg a1 b1)] 3)).heap[W0.heap.size]? = some (.cells #[.int .i64 (sg a3 b3), .int .i64 (sg a0 b0), .int .i64 (sg a2 b2), .int .i64 (sg a1 b1)] 3 (0, 0))) := Bx.mk (hnew _ _ _ rfl)
    have HC := Bx.mk (HC.out.later (below_a (.cells #[.int .i64 (sg a3 b3), .int .i64 (sg a0 b0), .int .i64 (sg a2 b2), .int .i64 (sg a1 b1)] 3)) (Nat.le_refl _))
    refine hK.out _ _ ⟨HC.out.x0, HC.out.x1, HC.out.x2, HC.out.x3, HC.out.y0, HC.out.y1, HC.out.y2, HC.out.y3⟩ (fun hHeld => ?_)
    clear hK K
    try simp only [Act.put, List.setIfInBounds_toArray, List.set_cons_zero, List.set_cons_succ]
    generalize W0.alloc (.cells #[.int .i64 (sg a3 b3), .int .i64 (sg a0 b0), .int .i64 (sg a2 b2), .int .i64 (sg a1 b1)] 3) = W1 at *
    generalize W0.heap.size = G at *
    refine stepL 21 (by kernel_rfl) rfl (fun K hK => ?_)
    go_simp
    refine (or_any _ _ _ _ G W1 HR.out).mono ?_
    rintro e Wx ⟨rfl, hw⟩
    rw [hw]
    clear hw Wx
    show K _ _
    refine hK.out _ _ ⟨HC.out.x0, HC.out.x1, HC.out.x2, HC.out.x3, HC.out.y0, HC.out.y1, HC.out.y2, HC.out.y3⟩ (fun hHeld => ?_)
    clear hK K
    try simp only [Act.put, List.setIfInBounds_toArray, List.set_cons_zero, List.set_cons_succ]
    refine takeL 22 (v := ?_) rfl (by kernel_rfl) (by kernel_rfl) (by kernel_rfl) (fun _ _ _ h => h) (Or.inl ⟨by rfl, ?_⟩) hHeld ?_
    rotate_left 1
    · (intro w hSw; go_simp; try with_reducible rfl)
    try simp only [Act.put, List.setIfInBounds_toArray, List.set_cons_zero, List.set_cons_succ]
    refine wpAnyH_done (by kernel_rfl) ?_ _
    refine NoPanic.normal ?_
    clear hHeld
    go_wp2
    go_ret
    exact ⟨rfl, HC.out.below, HC.out.dr⟩
end Go.Proofs.Ytdbdpehagkglfaa
namespace Go.Proofs.Ytdbdpehagkglfaa
open Go Go.RowKit
/-- Is one of four pairs ahead? -/
def less4 (p0 q0 p1 q1 p2 q2 p3 q3 : Int) : Bool := if p0 ≠ q0 then decide (p0 < q0) else if p1 ≠ q1 then decide (p1 < q1) else if p2 ≠ q2 then decide (p2 < q2) else if p3 ≠ q3 then decide (p3 < q3) else false
/-- Are claims ahead of others? -/
def lessC (a b : Cl) : Bool := less4 a.se b.se a.id b.id a.ex b.ex a.ro b.ro
theorem cmpC_neg (a b : Cl) : decide (cmpC a b < 0) = lessC a b := by
  obtain ⟨p1, p3, p2, p0⟩ := a
  obtain ⟨q1, q3, q2, q0⟩ := b
  unfold cmpC lessC or4 less4 sg
  simp only
  rw [Bool.eq_iff_iff]
  rcases Int.lt_trichotomy p0 q0 with h0 | h0 | h0
  · simp [h0, Int.ne_of_lt h0]
  · subst h0
    rcases Int.lt_trichotomy p1 q1 with h1 | h1 | h1
    · simp [h1, Int.ne_of_lt h1]
    · subst h1
      rcases Int.lt_trichotomy p2 q2 with h2 | h2 | h2
      · simp [h2, Int.ne_of_lt h2]
      · subst h2
        rcases Int.lt_trichotomy p3 q3 with h3 | h3 | h3
        · simp [h3, Int.ne_of_lt h3]
        · subst h3
          simp
        · simp [h3, Int.ne_of_gt h3, Int.not_lt.mpr (Int.le_of_lt h3)]
      · simp [h2, Int.ne_of_gt h2, Int.not_lt.mpr (Int.le_of_lt h2)]
    · simp [h1, Int.ne_of_gt h1, Int.not_lt.mpr (Int.le_of_lt h1)]
  · simp [h0, Int.ne_of_gt h0, Int.not_lt.mpr (Int.le_of_lt h0)]
theorem lessC_iff (p0 p1 p2 p3 q0 q1 q2 q3 : Int) : lessC ⟨p1, p3, p2, p0⟩ ⟨q1, q3, q2, q0⟩ = true ↔ (p0 < q0 ∨ (p0 = q0 ∧ (p1 < q1 ∨ (p1 = q1 ∧ (p2 < q2 ∨ (p2 = q2 ∧ p3 < q3)))))) := by
  unfold lessC less4
  simp only
  by_cases a0 : p0 = q0
  · rw [if_neg (by simp [a0])]
    by_cases a1 : p1 = q1
    · rw [if_neg (by simp [a1])]
      by_cases a2 : p2 = q2
      · rw [if_neg (by simp [a2])]
        by_cases a3 : p3 = q3
        · rw [if_neg (by simp [a3])]
          simp only [Bool.false_eq_true, false_iff]
          omega
        · rw [if_pos a3, decide_eq_true_eq]
          omega
      · rw [if_pos a2, decide_eq_true_eq]
        omega
    · rw [if_pos a1, decide_eq_true_eq]
      omega
  · rw [if_pos a0, decide_eq_true_eq]
    omega
theorem less_trans (a b c : Cl) (h : lessC a b = true) (k : lessC b c = true) : lessC a c = true := by
  obtain ⟨p1, p3, p2, p0⟩ := a
  obtain ⟨q1, q3, q2, q0⟩ := b
  obtain ⟨r1, r3, r2, r0⟩ := c
  rw [lessC_iff] at *
  omega
end Go.Proofs.Ytdbdpehagkglfaa
namespace Go.Proofs.Ytdbdpehagkglfaa
open Go Go.RowKit Go.Maps Go.Sort Go.Shelf
/-- The cells of claims, one behind the other. -/
def flatC (ss : List Cl) : List Value := ss.flatMap fun c => (clC c).toList
/-- What is older stays, and the draws only grow: so new blocks and draws are all. -/
theorem grow_of {W W1 : World} (hb : Go.RowKit.Below W.heap.size W W1) (hd : W.drawn ≤ W1.drawn) : ∃ q os, W1 = grow (W.drewN q) os := by
  refine ⟨W1.drawn - W.drawn, W1.heap.extract W.heap.size W1.heap.size, ?_⟩
  obtain ⟨h, t, d, o, u⟩ := W
  obtain ⟨h1, t1, d1, o1, u1⟩ := W1
  obtain ⟨e1, e2, e3, e4, e5⟩ := hb
  simp only at e1 e2 e3 e4 e5 hd
  subst e1 e2 e3
  have eh : h1 = h ++ h1.extract h.size h1.size := by
    apply Array.ext_getElem?
    intro i
    by_cases hi : i < h.size
    · rw [Array.getElem?_append_left hi]; exact e5 i hi
    · rw [Array.getElem?_append_right (by omega), Array.getElem?_extract]
      by_cases hj : i < h1.size
      · rw [if_pos (by omega)]; congr 1; omega
      · rw [if_neg (by omega)]; exact Array.getElem?_eq_none (by omega)
  show (⟨h1, t1, d1, o1, u1⟩ : World) = ⟨h ++ h1.extract h.size h1.size, t1, d + (d1 - d), o1, u1⟩
  rw [← eh, show d + (d1 - d) = d1 by omega]
instance : Inhabited Cl := ⟨c0⟩
/-- The cells of claims. -/
def encC (c : Cl) : List Value := (clC c).toList
theorem cmp_lays (g off size : Nat) (w : World) : CmpLays Try.prog 54 #[] encC 4 cmpC g off size w := by
  intro m os dk _ x y
  refine (compare_anyD x y _).mono ?_
  rintro e w' ⟨rfl, hb, hd⟩
  exact ⟨rfl, grow_of hb hd⟩
theorem lt_less (a b : Cl) : ltOf cmpC a b = lessC a b := by unfold ltOf; exact cmpC_neg a b
theorem less_cases (a b : Cl) : lessC a b = true ∨ a = b ∨ lessC b a = true := by
  obtain ⟨a1, a3, a2, a0⟩ := a
  obtain ⟨b1, b3, b2, b0⟩ := b
  rw [lessC_iff, lessC_iff, Cl.mk.injEq]
  omega
theorem less_irr (a : Cl) : lessC a a = false := by
  cases h : lessC a a
  · rfl
  · obtain ⟨a1, a3, a2, a0⟩ := a
    rw [lessC_iff] at h
    omega
theorem less_asymm {a b : Cl} (h : lessC a b = true) : lessC b a = false := by
  cases k : lessC b a
  · rfl
  · have := less_trans a b a h k
    rw [less_irr] at this
    cases this
theorem cmp_swo : SWO (ltOf cmpC) where
  irrefl x := by rw [lt_less, less_irr]
  trans x y z h k := by rw [lt_less] at *; exact less_trans x y z h k
  ntrans x y z h k := by
    rw [lt_less] at *
    rcases less_cases x y with h1 | rfl | h1
    · rw [h1] at h; cases h
    · exact k
    · rcases less_cases y z with k1 | rfl | k1
      · rw [k1] at k; cases k
      · exact h
      · exact less_asymm (less_trans z y x k1 h1)
/-- Claims in order. -/
def sortC (ss : List Cl) : List Cl := ss.mergeSort fun x y => !(ltOf cmpC) y x
theorem sortC_perm (ss : List Cl) : (sortC ss).Perm ss := List.mergeSort_perm _ _
theorem sortC_length (ss : List Cl) : (sortC ss).length = ss.length := (sortC_perm ss).length_eq
theorem flatC_get (ss : List Cl) (j i : Nat) (hj : j < ss.length) (hi : i < 4) : (flatC ss)[j * 4 + i]? = (encC (ss.getD j c0))[i]? := by
  induction ss generalizing j with
  | nil => simp at hj
  | cons c ss ih =>
    have hl : (clC c).toList.length = 4 := by simp [clC]
    unfold flatC
    rw [List.flatMap_cons]
    cases j with
    | zero => rw [List.getElem?_append_left (by omega)]; simp [encC]
    | succ j =>
      rw [List.getElem?_append_right (by omega), hl, show (j + 1) * 4 + i - 4 = j * 4 + i by omega]
      have := ih j (by simpa using hj)
      simpa [flatC] using this
/-- A row of claims. -/
def RowC (W : World) (v : Value) (ss : List Cl) : Prop := (ss = [] ∧ v = .slice none 0 0) ∨ ∃ g cap, v = .slice (some ⟨g, 0, none⟩) ss.length cap ∧ ∀ j, j < ss.length → W.rangeAt g (j * 4) (encC (ss.getD j c0))
theorem RowC.later {W W1 : World} {v : Value} {ss : List Cl} (h : RowC W v ss) (hb : Go.RowKit.Below W.heap.size W W1) : RowC W1 v ss := by
  rcases h with h | ⟨g, cap, hv, hr⟩
  · exact .inl h
  · refine .inr ⟨g, cap, hv, fun j hj i u hu => ?_⟩
    have hc := hr j hj i u hu
    rw [show W1.cell? ⟨g, j * 4 + i, none⟩ = W.cell? ⟨g, j * 4 + i, none⟩ from hb.cell (p := ⟨g, j * 4 + i, none⟩) (World.block_lt_of_cell? _ _ hc)]
    exact hc
theorem holds_row {W : World} {base g cap : Nat} {ss : List Cl} (h : W.ownsRow base 34 4 (.slice (some ⟨g, 0, none⟩) ss.length cap) ss.length (flatC ss)) : HoldsK encC 4 W g 0 ss.toArray := by
  rcases h.2 with ⟨h1, -⟩ | ⟨g', cap', cur, hv, -, hg, hc1, hc2, hc3, hc4⟩
  · cases h1
  · injection hv with hv1 hv2 hv3
    injection hv1 with hv1
    injection hv1 with hv1
    subst hv1
    intro t ht
    rw [size_flatK] at ht
    have ht2 : t < ss.length * 4 := by simpa using ht
    have e1 : t = t / 4 * 4 + t % 4 := by omega
    have e2 := flatC_get ss (t / 4) (t % 4) (by omega) (by omega)
    rw [← e1, ← hc4, List.getElem?_take_of_lt ht2] at e2
    refine ⟨?_, frozen_of_row _ _ _ _ _ hg⟩
    rw [cell_of_row _ _ _ _ _ _ hg, Nat.zero_add, ← Array.getElem?_toList, e2, get_flatK _ _ _ _ ht]
    have e3 : ss.toArray[t / 4]! = ss.getD (t / 4) c0 := by
      have : t / 4 < ss.length := by omega
      simp [this]
    rw [e3]
    have e4 : t % 4 < (encC (ss.getD (t / 4) c0)).length := by simp [encC, clC]; omega
    rw [List.getElem?_eq_getElem e4, getElem!_pos (encC (ss.getD (t / 4) c0)) (t % 4) e4]
    rfl
theorem row_holds {W : World} {g cap n : Nat} {ss : List Cl} (h : HoldsK encC 4 W g 0 ss.toArray) (hn : n = ss.length) : RowC W (.slice (some ⟨g, 0, none⟩) n cap) ss := by
  subst hn
  refine .inr ⟨g, cap, rfl, fun j hj i u hu => ?_⟩
  have hi : i < 4 := by have := (List.getElem?_eq_some_iff.1 hu).1; simpa [encC, clC] using this
  have h1 := (h (j * 4 + i) (by rw [size_flatK]; simp; omega)).1
  rw [get_flatK _ _ _ _ (by simp; omega), show (j * 4 + i) / 4 = j by omega, show (j * 4 + i) % 4 = i by omega, Nat.zero_add] at h1
  show W.cell? ⟨g, j * 4 + i, none⟩ = some u
  rw [h1]
  have e3 : ss.toArray[j]! = ss.getD j c0 := by simp [hj]
  rw [e3]
  obtain ⟨h5, h6⟩ := List.getElem?_eq_some_iff.1 hu
  rw [getElem!_pos (encC (ss.getD j c0)) i h5, h6]
  rfl
theorem below_sortW {B : Nat} (w : World) (blk off m : Nat) (dk : Array Cl) (os : Array Obj) (h1 : B ≤ blk) (h2 : B ≤ w.heap.size) : Go.RowKit.Below B w (sortWorldK encC 4 w blk off m dk os) := by
  refine ⟨rfl, rfl, rfl, ?_, fun k hk => ?_⟩
  · exact size_sortWorldK_c encC 4 w blk off m dk os
  · show (_ ++ os)[k]? = _
    rw [Array.getElem?_append_left (by show k < (putRowK encC 4 _ blk off dk).heap.size; rw [size_putRowK]; show k < w.heap.size; omega)]
    show (w.heap.modify blk _)[k]? = _
    rw [Array.getElem?_modify, if_neg (by omega)]
theorem sortC_of_perm {a b : List Cl} (h : a.Perm b) : sortC a = sortC b := by
  have tr : ∀ x y z : Cl, (!(Go.Proofs.ltOf cmpC) y x) = true → (!(Go.Proofs.ltOf cmpC) z y) = true → (!(Go.Proofs.ltOf cmpC) z x) = true := fun x y z h1 h2 => by
    simp only [Bool.not_eq_true'] at *
    exact cmp_swo.ntrans z y x h2 h1
  have to : ∀ x y : Cl, ((!(Go.Proofs.ltOf cmpC) y x) || (!(Go.Proofs.ltOf cmpC) x y)) = true := fun x y => by
    rw [lt_less, lt_less]
    cases h : lessC y x
    · rfl
    · rw [less_asymm h]; rfl
  refine List.Perm.eq_of_pairwise (le := fun x y => (!(Go.Proofs.ltOf cmpC) y x) = true) (fun x y _ _ h1 h2 => ?_) (List.pairwise_mergeSort tr to a) (List.pairwise_mergeSort tr to b) (((sortC_perm a).trans h).trans (sortC_perm b).symm)
  rw [lt_less, Bool.not_eq_true'] at h1 h2
  rcases less_cases x y with k | k | k
  · rw [k] at h2; cases h2
  · exact k
  · rw [k] at h1; cases h1
end Go.Proofs.Ytdbdpehagkglfaa
namespace Go.Proofs.Ytdbdpehagkglfaa
open Go Go.RowKit
/-- A key that has its own bytes, none of it older than base. -/
def KeyO (w : World) (base : Nat) (v : Value) (bs : List UInt8) : Prop :=
  ∃ p s, v = .pointer (some ⟨p, 0, none⟩) ∧ base ≤ p ∧ w.heap[p]? = some (.cells #[s] 89 (0, 0)) ∧ OwnB w base s bs
/-- A key. -/
def IsKey (w : World) (v : Value) (bs : List UInt8) : Prop :=
  ∃ p s, v = .pointer (some ⟨p, 0, none⟩) ∧ w.heap[p]? = some (.cells #[s] 89 (0, 0)) ∧ Bytes w s bs
theorem KeyO.key {w : World} {base : Nat} {v : Value} {bs : List UInt8} (h : KeyO w base v bs) : IsKey w v bs := by
  obtain ⟨p, s, hv, _, hr, ho⟩ := h
  exact ⟨p, s, hv, hr, ho.bytes⟩
theorem IsKey.later {w w1 : World} {v : Value} {bs : List UInt8} (h : IsKey w v bs) (hb : Below w.heap.size w w1) : IsKey w1 v bs := by
  obtain ⟨p, s, hv, hr, ho⟩ := h
  exact ⟨p, s, hv, by rw [hb.block _ (Array.getElem?_eq_some_iff.1 hr).1]; exact hr, ho.later hb⟩
theorem KeyO.later {w w1 : World} {base : Nat} {v : Value} {bs : List UInt8} (h : KeyO w base v bs) (hb : Below w.heap.size w w1) : KeyO w1 base v bs := by
  obtain ⟨p, s, hv, hp, hr, ho⟩ := h
  exact ⟨p, s, hv, hp, by rw [hb.block _ (Array.getElem?_eq_some_iff.1 hr).1]; exact hr, ho.later hb (fun g hg => (ho.lt g hg).1)⟩
end Go.Proofs.Ytdbdpehagkglfaa
namespace Go.Proofs.Ytdbdpehagkglfaa
open Go Go.ChangeShapes Go.WideShapes Go.ChangeAt Go.RowKit
/-- A boot and a counter. -/
structure Nn where
  b : Int
  c : Int
def Nn.zero : Nn := ⟨0, 0⟩
def Nn.fit (n : Nn) : Prop := in64 n.b ∧ in64 n.c
def nnc (e : Nn) : List Value := [.int .i64 e.b, .int .i64 e.c]
/-- Nonces one behind the other, as cells. -/
def cellsN : List Nn → List Value
  | [] => []
  | e :: r => .int .i64 e.b :: .int .i64 e.c :: cellsN r
theorem cellsN_get (l : List Nn) : ∀ (k : Nat), k < l.length → ∀ j v, (nnc (l.getD k Nn.zero))[j]? = some v → (cellsN l)[k * 2 + j]? = some v := by
  induction l with
  | nil => intro k hk; exact absurd hk (Nat.not_lt_zero _)
  | cons c r ih =>
    intro k hk j v hj
    match k with
    | 0 =>
      have hj4 : j < 2 := (List.getElem?_eq_some_iff.1 hj).1
      match j, hj4 with
      | 0, _ => exact hj
      | 1, _ => exact hj
    | k + 1 =>
      have h := ih k (by simpa using hk) j v (by simpa using hj)
      rw [show (k + 1) * 2 + j = (k * 2 + j) + 2 by omega]
      exact h
/-- Nonces in a row that the call owns, of one type or the other. -/
def OwnN (T : TypeId) (w : World) (base : Nat) (v : Value) (l : List Nn) : Prop := w.ownsRow base T 2 v l.length (cellsN l)
theorem OwnN.nil (T : TypeId) (w : World) (base : Nat) : OwnN T w base (.slice none 0 0) [] := ⟨rfl, .inl ⟨rfl, rfl⟩⟩
theorem OwnN.lt {T : TypeId} {w : World} {base : Nat} {v : Value} {l : List Nn} (h : OwnN T w base v l) : ∀ g, v.ownBlock = some g → g < w.heap.size ∧ base ≤ g := fun g hg => by
  have := World.ownsRow.lt h g hg
  exact ⟨this.2, this.1⟩
theorem OwnN.kept {T : TypeId} {w w1 : World} {base : Nat} {v : Value} {l : List Nn} (h : OwnN T w base v l) (hb : ∀ g cs fr, base ≤ g → w.heap[g]? = some (.cells cs T fr) → w1.heap[g]? = some (.cells cs T fr)) : OwnN T w1 base v l := by
  refine ⟨h.1, ?_⟩
  rcases h.2 with h0 | ⟨g, cap, cur, hv, hb', hh, hr⟩
  · exact .inl h0
  · exact .inr ⟨g, cap, cur, hv, hb', hb g _ _ hb' hh, hr⟩
theorem OwnN.later {T : TypeId} {w w1 : World} {base : Nat} {v : Value} {l : List Nn} (h : OwnN T w base v l) (hb : Below w.heap.size w w1) : OwnN T w1 base v l := h.kept fun g cs fr _ h0 => by rw [hb.block g (Array.getElem?_eq_some_iff.1 h0).1]; exact h0
/-- A row stays where a block of another kind changes. -/
theorem OwnN.aside {T : TypeId} {w w1 : World} {base M : Nat} {v : Value} {l : List Nn} (h : OwnN T w base v l) (hm : ∀ cs fr, w.heap[M]? ≠ some (.cells cs T fr)) (hg : w.grownBy w1 (some M)) : OwnN T w1 base v l := h.kept fun g cs fr _ h0 => by
  rw [hg.block g (Array.getElem?_eq_some_iff.1 h0).1 (fun e => by
    injection e with e
    subst e
    exact hm _ _ h0)]
  exact h0
theorem OwnN.form {T : TypeId} {w : World} {base : Nat} {v : Value} {l : List Nn} (h : OwnN T w base v l) : ∃ a cap, v = .slice a l.length cap ∧ l.length ≤ cap ∧ (a = none → cap = 0) := by
  rcases h.2 with ⟨hv, h0⟩ | ⟨g, cap, cur, hv, _, hg, hc1, hc2, hc3, hc4⟩
  · exact ⟨none, 0, by rw [h0]; exact hv, by omega, fun _ => rfl⟩
  · exact ⟨_, cap, hv, hc1, fun h => by cases h⟩
/-- A block of such a row has its type. -/
theorem OwnN.kind {T : TypeId} {w : World} {base : Nat} {v : Value} {l : List Nn} (h : OwnN T w base v l) : ∀ g, v.ownBlock = some g → ∃ cs fr, w.heap[g]? = some (.cells cs T fr) := fun g hg => by
  rcases h.2 with ⟨hv, _⟩ | ⟨g', cap, cur, hv, _, hh, _⟩
  · rw [hv] at hg; cases hg
  · rw [hv] at hg
    injection hg with hg
    subst hg
    exact ⟨_, _, hh⟩
/-- Nonces that can be read. -/
def NnsR (w : World) (v : Value) (l : List Nn) : Prop :=
  ∃ a cap, v = .slice a l.length cap ∧ l.length ≤ cap ∧ (a = none → cap = 0) ∧ (0 < l.length → ∃ g o, a = some ⟨g, o, none⟩ ∧ ∀ k, k < l.length → w.cell? ⟨g, o + k * 2, none⟩ = some (.int .i64 (l.getD k Nn.zero).b) ∧ w.cell? ⟨g, o + k * 2 + 1, none⟩ = some (.int .i64 (l.getD k Nn.zero).c))
theorem NnsR.later {w w1 : World} {v : Value} {l : List Nn} (h : NnsR w v l) (hb : Below w.heap.size w w1) : NnsR w1 v l := by
  obtain ⟨a, cap, hv, h1, h2, hr⟩ := h
  refine ⟨a, cap, hv, h1, h2, fun hp => ?_⟩
  obtain ⟨g, o, ha, hc⟩ := hr hp
  refine ⟨g, o, ha, fun k hk => ?_⟩
  obtain ⟨h1, h2⟩ := hc k hk
  exact ⟨by rw [hb.cell (World.block_lt_of_cell? _ _ h1)]; exact h1, by rw [hb.cell (World.block_lt_of_cell? _ _ h2)]; exact h2⟩
theorem NnsR.form {w : World} {v : Value} {l : List Nn} (h : NnsR w v l) : ∃ a cap, v = .slice a l.length cap := by
  obtain ⟨a, cap, hv, _⟩ := h
  exact ⟨a, cap, hv⟩
theorem NnsR.start {w : World} {v : Value} {l : List Nn} (h : NnsR w v l) (hp : 0 < l.length) : ∃ g o cap, v = .slice (some ⟨g, o, none⟩) l.length cap := by
  obtain ⟨a, cap, hv, -, -, hr⟩ := h
  obtain ⟨g, o, ha, -⟩ := hr hp
  exact ⟨g, o, cap, by rw [hv, ha]⟩
theorem NnsR.cells {w : World} {g o n cap : Nat} {l : List Nn} (h : NnsR w (.slice (some ⟨g, o, none⟩) n cap) l) (k : Nat) (hk : k < l.length) :
    w.cell? ⟨g, o + k * 2, none⟩ = some (.int .i64 (l.getD k Nn.zero).b) ∧ w.cell? ⟨g, o + k * 2 + 1, none⟩ = some (.int .i64 (l.getD k Nn.zero).c) := by
  obtain ⟨a', cap', hv, -, -, hr⟩ := h
  obtain ⟨b', o', ha, hx⟩ := hr (by omega)
  injection hv with e1 e2 e3
  rw [ha] at e1
  injection e1 with e1
  injection e1 with e4 e5
  subst e4 e5
  exact hx k hk
/-- The first ones of a row. -/
theorem NnsR.take {w : World} {a : Option Addr} {n cap : Nat} {l : List Nn} (h : NnsR w (.slice a n cap) l) (m : Nat) (hm : m ≤ n) : NnsR w (.slice a m cap) (l.take m) := by
  obtain ⟨a', cap', hv, h1, h2, hr⟩ := h
  injection hv with e1 e2 e3
  subst e1 e2 e3
  have hl : (l.take m).length = m := by rw [List.length_take]; omega
  refine ⟨a, cap, by rw [hl], by omega, h2, fun hp => ?_⟩
  obtain ⟨g, o, ha, hc⟩ := hr (by omega)
  refine ⟨g, o, ha, fun k hk => ?_⟩
  rw [hl] at hk
  have e : (l.take m).getD k Nn.zero = l.getD k Nn.zero := by
    rw [List.getD_eq_getElem?_getD, List.getD_eq_getElem?_getD, List.getElem?_take_of_lt hk]
  rw [e]
  exact hc k (by omega)
theorem OwnN.reads {T : TypeId} {w : World} {base : Nat} {v : Value} {l : List Nn} (h : OwnN T w base v l) : NnsR w v l := by
  rcases h.2 with ⟨hv, h0⟩ | ⟨g, cap, cur, hv, _, hg, hc1, hc2, hc3, hc4⟩
  · exact ⟨none, 0, by rw [h0]; exact hv, by omega, fun _ => rfl, fun hp => by omega⟩
  · refine ⟨_, cap, hv, hc1, (fun h => by cases h), fun _ => ⟨g, 0, rfl, fun k hk => ?_⟩⟩
    have hat : ∀ j u, (nnc (l.getD k Nn.zero))[j]? = some u → w.cell? ⟨g, k * 2 + j, none⟩ = some u := fun j u hj => by
      have hj4 : j < 2 := (List.getElem?_eq_some_iff.1 hj).1
      rw [cell_of_row _ _ _ _ _ _ hg, ← Array.getElem?_toList]
      have h1 : (cur.toList.take (l.length * 2))[k * 2 + j]? = (cellsN l)[k * 2 + j]? := by rw [hc4]
      rw [List.getElem?_take_of_lt (by omega)] at h1
      rw [h1]
      exact cellsN_get l k hk j u hj
    rw [Nat.zero_add]
    exact ⟨hat 0 _ rfl, hat 1 _ rfl⟩
/-- Nonces that came in. -/
def NnsF (w : World) (v : Value) (l : List Nn) : Prop := NnsR w v l ∧ ∀ n ∈ l, n.fit
theorem NnsF.fit {w : World} {v : Value} {l : List Nn} (h : NnsF w v l) (k : Nat) (hk : k < l.length) : (l.getD k Nn.zero).fit := by
  refine h.2 _ ?_
  rw [List.getD_eq_getElem?_getD, List.getElem?_eq_getElem hk]
  exact List.getElem_mem hk
/-- A word of 64 bits as the model's integer. -/
def tv (x : BitVec 64) : Int := (x.toNat : Int)
/-- What a window knows: the latest, and a bit a counter. -/
structure Ws where
  n : Nn
  t : BitVec 64
def Ws.zero : Ws := ⟨Nn.zero, 0#64⟩
/-- A window in its block. -/
def WinB (W : World) (q : Nat) (s : Ws) : Prop := W.heap[q]? = some (.cells #[.int .i64 s.n.b, .int .i64 s.n.c, .int .u64 (tv s.t)] 78 (0, 0))
theorem WinB.lt {W : World} {q : Nat} {s : Ws} (h : WinB W q s) : q < W.heap.size := (Array.getElem?_eq_some_iff.1 h).1
theorem WinB.later {W W1 : World} {q : Nat} {s : Ws} (h : WinB W q s) (hb : Below W.heap.size W W1) : WinB W1 q s := (hb.block q h.lt).trans h
theorem WinB.aside {W W1 : World} {q p : Nat} {s : Ws} (h : WinB W q s) (hg : W.grownBy W1 (some p)) (hne : q ≠ p) : WinB W1 q s := (hg.block q h.lt (fun e => hne (by injection e))).trans h
theorem WinB.cells {W : World} {q : Nat} {s : Ws} (h : WinB W q s) : W.cell? ⟨q, 0, none⟩ = some (.int .i64 s.n.b) ∧ W.cell? ⟨q, 1, none⟩ = some (.int .i64 s.n.c) ∧ W.cell? ⟨q, 2, none⟩ = some (.int .u64 (tv s.t)) :=
  ⟨by rw [cell_of_row _ _ _ _ _ _ h]; rfl, by rw [cell_of_row _ _ _ _ _ _ h]; rfl, by rw [cell_of_row _ _ _ _ _ _ h]; rfl⟩
theorem WinB.kind {W : World} {q : Nat} {s : Ws} (h : WinB W q s) {T : TypeId} (hT : T ≠ 78) : ∀ cs fr, W.heap[q]? ≠ some (.cells cs T fr) := fun cs fr e => by
  rw [h] at e
  injection e with e
  injection e with _ e2
  exact hT e2.symm
/-- A window stays where a row grows. -/
theorem WinB.row {W W1 : World} {T : TypeId} {q base : Nat} {s : Ws} {v : Value} {l : List Nn} (h : WinB W q s) (hT : T ≠ 78) (ho : OwnN T W base v l) (hg : W.grownBy W1 v.ownBlock) : WinB W1 q s := (hg.block q h.lt (fun e => by
  obtain ⟨cs, fr, hk⟩ := ho.kind q e.symm
  exact h.kind hT cs fr hk)).trans h
end Go.Proofs.Ytdbdpehagkglfaa
namespace Go.Proofs.Ytdbdpehagkglfaa
open Go Go.RowKit
/-- The latest of a window is a nonce, or the zero one. -/
def Ws.ok (s : Ws) : Prop := 0 ≤ s.n.b ∧ s.n.b ≤ 65535 ∧ 0 ≤ s.n.c ∧ s.n.c ≤ 2147483647
/-- A nonce in its own block. -/
def BoxN (T : TypeId) (X : Nat) (n : Nn) (W : World) : Prop := W.heap[X]? = some (.cells #[.int .i64 n.b, .int .i64 n.c] T (0, 0))
theorem BoxN.lt {T : TypeId} {X : Nat} {n : Nn} {W : World} (h : BoxN T X n W) : X < W.heap.size := (Array.getElem?_eq_some_iff.1 h).1
theorem BoxN.later {T : TypeId} {X : Nat} {n : Nn} {W W1 : World} (h : BoxN T X n W) (hb : Below W.heap.size W W1) : BoxN T X n W1 := (hb.block X h.lt).trans h
theorem BoxN.aside {T : TypeId} {X p : Nat} {n : Nn} {W W1 : World} (h : BoxN T X n W) (hg : W.grownBy W1 (some p)) (hne : X ≠ p) : BoxN T X n W1 := (hg.block X h.lt (fun e => hne (by injection e))).trans h
theorem BoxN.cells {T : TypeId} {X : Nat} {n : Nn} {W : World} (h : BoxN T X n W) : W.cell? ⟨X, 0, none⟩ = some (.int .i64 n.b) ∧ W.cell? ⟨X, 1, none⟩ = some (.int .i64 n.c) :=
  ⟨by rw [cell_of_row _ _ _ _ _ _ h]; rfl, by rw [cell_of_row _ _ _ _ _ _ h]; rfl⟩
theorem BoxN.range {T : TypeId} {X : Nat} {n : Nn} {W : World} (h : BoxN T X n W) : W.rangeAt X 0 [.int .i64 n.b, .int .i64 n.c] := fun j u hj => by
  rw [cell_of_row _ _ _ _ _ _ h, Nat.zero_add, ← Array.getElem?_toList]
  exact hj
theorem WinB.range {W : World} {q : Nat} {s : Ws} (h : WinB W q s) : W.rangeAt q 0 [.int .i64 s.n.b, .int .i64 s.n.c] := fun j u hj => by
  have hj2 : j < 2 := (List.getElem?_eq_some_iff.1 hj).1
  rw [cell_of_row _ _ _ _ _ _ h, Nat.zero_add, ← Array.getElem?_toList]
  match j, hj2 with
  | 0, _ => exact hj
  | 1, _ => exact hj
theorem WinB.frozen {W : World} {q : Nat} {s : Ws} (h : WinB W q s) (i : Nat) : W.frozen? ⟨q, i, none⟩ = false := frozen_of_row _ _ _ _ _ h
end Go.Proofs.Ytdbdpehagkglfaa
namespace Go.Proofs.Ytdbdpehagkglfaa
open Go Go.RowKit
theorem zero_ok : Ws.zero.ok := by unfold Ws.zero Ws.ok Nn.zero; simp
end Go.Proofs.Ytdbdpehagkglfaa
namespace Go.Proofs.Ytdbdpehagkglfaa
open Go Go.RowKit
variable {xE : List Value} {KT : TypeId}
/-- A window at the head of its block. -/
def WinE (xE : List Value) (KT : TypeId) (W : World) (q : Nat) (s : Ws) : Prop := W.heap[q]? = some (.cells (.int .i64 s.n.b :: .int .i64 s.n.c :: .int .u64 (tv s.t) :: xE).toArray KT (0, 0))
theorem WinE.lt {W : World} {q : Nat} {s : Ws} (h : WinE xE KT W q s) : q < W.heap.size := (Array.getElem?_eq_some_iff.1 h).1
theorem WinE.later {W W1 : World} {q : Nat} {s : Ws} (h : WinE xE KT W q s) (hb : Below W.heap.size W W1) : WinE xE KT W1 q s := (hb.block q h.lt).trans h
theorem WinE.aside {W W1 : World} {q p : Nat} {s : Ws} (h : WinE xE KT W q s) (hg : W.grownBy W1 (some p)) (hne : q ≠ p) : WinE xE KT W1 q s := (hg.block q h.lt (fun e => hne (by injection e))).trans h
theorem WinE.cells {W : World} {q : Nat} {s : Ws} (h : WinE xE KT W q s) : W.cell? ⟨q, 0, none⟩ = some (.int .i64 s.n.b) ∧ W.cell? ⟨q, 1, none⟩ = some (.int .i64 s.n.c) ∧ W.cell? ⟨q, 2, none⟩ = some (.int .u64 (tv s.t)) :=
  ⟨by rw [cell_of_row _ _ _ _ _ _ h]; rfl, by rw [cell_of_row _ _ _ _ _ _ h]; rfl, by rw [cell_of_row _ _ _ _ _ _ h]; rfl⟩
theorem WinE.range {W : World} {q : Nat} {s : Ws} (h : WinE xE KT W q s) : W.rangeAt q 0 [.int .i64 s.n.b, .int .i64 s.n.c] := fun j u hj => by
  have hj2 : j < 2 := (List.getElem?_eq_some_iff.1 hj).1
  rw [cell_of_row _ _ _ _ _ _ h, Nat.zero_add, ← Array.getElem?_toList]
  match j, hj2 with
  | 0, _ => exact hj
  | 1, _ => exact hj
theorem WinE.frozen {W : World} {q : Nat} {s : Ws} (h : WinE xE KT W q s) (i : Nat) : W.frozen? ⟨q, i, none⟩ = false := frozen_of_row _ _ _ _ _ h
end Go.Proofs.Ytdbdpehagkglfaa
namespace Go.Proofs.Ytdbdpehagkglfaa
open Go Go.RowKit
/-- A type of elements of n cells, of nb bytes each. -/
structure ElT (ST T : TypeId) (n nb : Nat) : Prop where
  und : Try.prog.underlying ST = some (.slice T)
  inf : ∃ i z, Try.prog.info? T = some i ∧ i.zero = some z ∧ i.size = n ∧ i.bytes = nb ∧ z.cells.size = n
  pos : 0 < n
  few : nb ≤ 1000
theorem elT_of {ST T : TypeId} {n nb : Nat} (z : Value) (hu : Try.prog.underlying ST = some (.slice T)) (hi : (Try.prog.info? T).map (fun i => (i.zero, i.size, i.bytes)) = some (some z, n, nb)) (hz : z.cells.size = n) (hp : 0 < n) (hb : nb ≤ 1000) : ElT ST T n nb := by
  refine ⟨hu, ?_, hp, hb⟩
  cases h : Try.prog.info? T with
  | none => rw [h] at hi; cases hi
  | some i =>
    rw [h] at hi
    injection hi with hi
    injection hi with h1 hi
    injection hi with h2 h3
    exact ⟨i, z, rfl, h1, h2, h3, hz⟩
section
variable {α : Type}
/-- An own row of such elements. -/
def OwnG (T : TypeId) (n : Nat) (enc : α → List Value) (w : World) (base : Nat) (v : Value) (l : List α) : Prop := w.ownsRow base T n v l.length (l.flatMap enc)
variable {T : TypeId} {n : Nat} {enc : α → List Value} {w w1 : World} {base : Nat} {v : Value} {l : List α}
theorem OwnG.nil (T : TypeId) (n : Nat) (enc : α → List Value) (w : World) (base : Nat) : OwnG T n enc w base (.slice none 0 0) [] := ⟨by simp, .inl ⟨rfl, rfl⟩⟩
theorem OwnG.lt (h : OwnG T n enc w base v l) : ∀ g, v.ownBlock = some g → g < w.heap.size ∧ base ≤ g := fun g hg => by
  rcases h.2 with ⟨hv, _⟩ | ⟨g', cap, cur, hv, hb, hh, _⟩
  · rw [hv] at hg; cases hg
  · rw [hv] at hg
    injection hg with hg
    subst hg
    exact ⟨(Array.getElem?_eq_some_iff.1 hh).1, hb⟩
theorem OwnG.kept (h : OwnG T n enc w base v l) (hb : ∀ g cs fr, base ≤ g → w.heap[g]? = some (.cells cs T fr) → w1.heap[g]? = some (.cells cs T fr)) : OwnG T n enc w1 base v l := by
  refine ⟨h.1, ?_⟩
  rcases h.2 with h0 | ⟨g, cap, cur, hv, hb', hh, hr⟩
  · exact .inl h0
  · exact .inr ⟨g, cap, cur, hv, hb', hb g _ _ hb' hh, hr⟩
theorem OwnG.later (h : OwnG T n enc w base v l) (hb : Below w.heap.size w w1) : OwnG T n enc w1 base v l := h.kept fun g cs fr _ h0 => by rw [hb.block g (Array.getElem?_eq_some_iff.1 h0).1]; exact h0
theorem OwnG.form (h : OwnG T n enc w base v l) : ∃ a cap, v = .slice a l.length cap ∧ l.length ≤ cap ∧ (a = none → cap = 0) := by
  rcases h.2 with ⟨hv, h0⟩ | ⟨g, cap, cur, hv, _, _, h1, _⟩
  · exact ⟨none, 0, by rw [hv, h0], by omega, fun _ => rfl⟩
  · exact ⟨_, cap, hv, h1, fun h => by cases h⟩
theorem OwnG.kind (h : OwnG T n enc w base v l) : ∀ g, v.ownBlock = some g → ∃ cs fr, w.heap[g]? = some (.cells cs T fr) := fun g hg => by
  rcases h.2 with ⟨hv, _⟩ | ⟨g', cap, cur, hv, _, hh, _⟩
  · rw [hv] at hg; cases hg
  · rw [hv] at hg
    injection hg with hg
    subst hg
    exact ⟨_, _, hh⟩
theorem OwnG.below (h : OwnG T n enc w base v l) (hg : w.grownBy w1 v.ownBlock) (hb : base ≤ w.heap.size) : Below base w w1 :=
  ⟨hg.os, hg.tape, hg.output, hg.size, fun i hi => hg.block i (by omega) (fun e => by have := (h.lt i e.symm).2; omega)⟩
/-- It stays where a block changes that holds no such elements. -/
theorem OwnG.aside {o : Option Nat} (h : OwnG T n enc w base v l) (hm : ∀ M cs fr, o = some M → w.heap[M]? ≠ some (.cells cs T fr)) (hg : w.grownBy w1 o) : OwnG T n enc w1 base v l := h.kept fun g cs fr _ h0 => by
  rw [hg.block g (Array.getElem?_eq_some_iff.1 h0).1 (fun e => hm g cs fr e.symm h0)]
  exact h0
theorem flat_get (henc : ∀ x, (enc x).length = n) (l : List α) : ∀ (k : Nat) (hk : k < l.length) (j : Nat), j < n → (l.flatMap enc)[k * n + j]? = (enc l[k])[j]? := by
  induction l with
  | nil => intro k hk; simp at hk
  | cons x l ih =>
    intro k hk j hj
    rw [List.flatMap_cons]
    cases k with
    | zero => rw [Nat.zero_mul, Nat.zero_add, List.getElem?_append_left (by rw [henc]; exact hj)]; rfl
    | succ k =>
      have e1 : (k + 1) * n + j - n = k * n + j := by rw [Nat.succ_mul]; omega
      rw [List.getElem?_append_right (by rw [henc, Nat.succ_mul]; omega), henc, e1, ih k (by simpa using hk) j hj]
      rfl
theorem OwnG.start (h : OwnG T n enc w base v l) (hp : 0 < l.length) : ∃ g cap, v = .slice (some ⟨g, 0, none⟩) l.length cap := by
  rcases h.2 with ⟨_, h0⟩ | ⟨g, cap, cur, hv, _⟩
  · omega
  · exact ⟨g, cap, hv⟩
theorem OwnG.at_ {g len cap : Nat} (h : OwnG T n enc w base (.slice (some ⟨g, 0, none⟩) len cap) l) (henc : ∀ x, (enc x).length = n) (k : Nat) (hk : k < l.length) : w.rangeAt g (k * n) (enc l[k]) := fun j u hj => by
  rcases h.2 with ⟨h1, _⟩ | ⟨g', cap', cur, hv, _, hg, hc1, hc2, hc3, hc4⟩
  · cases h1
  · injection hv with hv1 hv2 hv3
    injection hv1 with hv1
    injection hv1 with hv1
    subst hv1
    have hjn : j < n := by have := (List.getElem?_eq_some_iff.1 hj).1; rwa [henc] at this
    have h1 := flat_get henc l k hk j hjn
    rw [hj, ← hc4] at h1
    rw [cell_of_row _ _ _ _ _ _ hg, ← Array.getElem?_toList]
    rw [List.getElem?_take] at h1
    split at h1
    · exact h1
    · cases h1
theorem OwnG.frozen {g len cap : Nat} (h : OwnG T n enc w base (.slice (some ⟨g, 0, none⟩) len cap) l) (i : Nat) : w.frozen? ⟨g, i, none⟩ = false := by
  rcases h.2 with ⟨h1, _⟩ | ⟨g', cap', cur, hv, _, hg, _⟩
  · cases h1
  · injection hv with hv1 hv2 hv3
    injection hv1 with hv1
    injection hv1 with hv1
    subst hv1
    exact frozen_of_row _ _ _ _ _ hg
theorem run_apG {ST : TypeId} {nb : Nat} (E : ElT ST T n nb) (hown : OwnG T n enc w base v l) (g o cp : Nat) (e : α) (henc : (enc e).length = n) (hone : ∀ u ∈ enc e, u.oneCell' = true) (hr : w.rangeAt g o (enc e)) (hn : l.length ≤ 1000) (hbase : base ≤ w.heap.size) (ty : TypeId) :
    ∃ v' w', (Builtin.append_ #[ST, ST] ty #[v, .slice (some ⟨g, o, none⟩) 1 cp]).run Try.prog w = .ok v' w' ∧ OwnG T n enc w' base v' (l ++ [e]) ∧ w.grownBy w' v.ownBlock := by
  obtain ⟨i, z, h1, h2, h3, h4, h5⟩ := E.inf
  have hbytes : (l.length + 1) * nb ≤ 140737488355328 := Nat.le_trans (Nat.mul_le_mul (show l.length + 1 ≤ 1001 by omega) E.few) (by decide)
  obtain ⟨v', w', hrun, h6, h7, _, _⟩ := run_append_own_at (P := Try.prog) w base ST ty T i z n nb E.und h1 h2 h3 h4 h5 E.pos v l.length (l.flatMap enc) hown ⟨g, o, none⟩ 1 cp (enc e) (by rw [henc]; omega)
    (fun j u hu => by rw [show (⟨g, o, none⟩ : Addr).add j = ⟨g, o + j, none⟩ by unfold Addr.add; split <;> simp_all]; exact hr j u hu) hone (by simp only [maxLen]; omega) hbytes hbase
  refine ⟨v', w', hrun, ?_, h7⟩
  unfold OwnG
  rw [List.length_append, List.flatMap_append]
  simpa using h6
theorem wpList_apG {ST : TypeId} {nb : Nat} (E : ElT ST T n nb) {ops : Array Oper} {rest : List Oper} {o : Oper} {a : Act} {Q : Exit → Act → World → Prop} (hgd : o.guard = none) (sl x : Operand)
    (ho : o.op = .call { callee := .builtin .append, args := #[sl, x], argTypes := #[ST, ST] }) (base : Nat) (v : Value) (l : List α) (hs : a.eval sl = v) (hown : OwnG T n enc w base v l) (g of : Nat) (e : α) (cp : Nat) (hx : a.eval x = .slice (some ⟨g, of, none⟩) 1 cp) (hr : w.rangeAt g of (enc e))
    (henc : (enc e).length = n) (hone : ∀ u ∈ enc e, u.oneCell' = true) (hn : l.length ≤ 1000) (hbase : base ≤ w.heap.size)
    (h : ∀ v' w', OwnG T n enc w' base v' (l ++ [e]) → w.grownBy w' v.ownBlock → wpList Try.prog ops Q rest (a.put o.dst v') w') : wpList Try.prog ops Q (o :: rest) a w := by
  refine wpList_plain hgd fun K hK => ?_
  obtain ⟨v', w', hrun, h1, h2⟩ := run_apG E hown g of cp e henc hone hr hn hbase o.type
  unfold Oper.wp
  simp [execOp, ho, resolve, invoke, builtin, hs, hx, hrun, Result.andThen]
  exact hK _ _ (h v' w' h1 h2)
end
end Go.Proofs.Ytdbdpehagkglfaa
namespace Go.Proofs.Ytdbdpehagkglfaa
open Go Go.RowKit Go.Maps
/-- How a pointer to a block reads. -/
def RPp : Value → Option (DataW Unit × List MemPlace)
  | .pointer (some ⟨p, 0, none⟩) => some (.lit (.int .i64 p), [])
  | _ => none
theorem RPp_ptr (p : Nat) : RPp (ptr p) = some (.lit (.int .i64 p), []) := rfl
theorem RPp_inv {v : Value} {y : DataW Unit × List MemPlace} (h : RPp v = some y) : ∃ p : Nat, v = ptr p ∧ y = (.lit (.int .i64 p), []) := by
  unfold RPp at h
  split at h
  · rename_i p
    exact ⟨p, rfl, (Option.some.inj h).symm⟩
  · cases h
/-- Which keys a map's datum has, and what stands there. -/
structure KeysP (D : DataW Unit) (l : List (Cl × Nat)) : Prop where
  has : ∀ x ∈ l, ∀ kl, keyOf Try.prog 34 (clV x.1) = some kl → Maps.has D kl = true
  key : ∀ kl, Maps.has D kl = true → ∃ x ∈ l, keyOf Try.prog 34 (clV x.1) = some kl
  at_ : ∀ x ∈ l, ∀ kl, keyOf Try.prog 34 (clV x.1) = some kl → ∀ zd, D.atKey kl zd = .lit (.int .i64 x.2)
set_option maxRecDepth 100000 in
theorem MapL.ownsP {W : World} {M : Nat} {l : List (Cl × Nat)} (m : MapL W M l) (hl : l.length ≤ 1000) : ∃ D : DataW Unit, W.ownsMap Try.prog 34 RPp M l.length D ∧ KeysP D l ∧ Maps.size D = l.length := by
  obtain ⟨es, clock, hb, hs, he⟩ := m.st
  have hsz : es.size = l.length := by have := congrArg List.length he; simpa using this
  have hvp : ∀ x ∈ es.toList, ∃ p, x.val = ptr p := fun x hx => by
    obtain ⟨j, hj⟩ := List.mem_iff_getElem?.1 hx
    obtain ⟨y, -, -, h3⟩ := map_at he hj
    exact ⟨_, h3⟩
  have hrd : ∀ x ∈ es.toList, ∃ y, Go.WideElems.rd Try.prog 34 RPp x = some y := fun x hx => by
    obtain ⟨kl, hk⟩ := map_keys he m.wf x hx
    obtain ⟨p, hp⟩ := hvp x hx
    exact ⟨_, Go.WideElems.rd_mk (key := x.key) (val := x.val) hk (by rw [hp]; exact RPp_ptr p)⟩
  have F : Go.WideElems.Fit Try.prog 34 RPp es clock := ⟨by rw [hsz]; unfold maxLen; omega, hs, hrd⟩
  refine ⟨_, ⟨es, clock, hb, F, by omega, rfl⟩, ⟨?_, ?_, ?_⟩, ?_⟩
  · intro x hx kl hk
    have h1 : (clV x.1, ptr x.2) ∈ es.toList.map fun e => (e.key, e.val) := by rw [he]; exact List.mem_map.2 ⟨x, hx, rfl⟩
    obtain ⟨e, hm, h2⟩ := List.mem_map.1 h1
    injection h2 with h3 h4
    obtain ⟨y, hy⟩ := hrd e hm
    have hk2 := Go.WideElems.rd_key hy
    rw [h3, hk] at hk2
    refine List.any_eq_true.2 ⟨Go.WideElems.rg Try.prog 34 RPp e, mem_sorted.2 (List.mem_map.2 ⟨e, hm, rfl⟩), ?_⟩
    rw [Go.WideElems.rg_of hy, ← Option.some.inj hk2]
    exact WideAt.sameKey_self (clKeyed.key hk)
  · intro kl hh
    obtain ⟨p, hp, hpk⟩ := List.any_eq_true.1 hh
    obtain ⟨e, hm, rfl⟩ := List.mem_map.1 (mem_sorted.1 hp)
    obtain ⟨y, hy⟩ := hrd e hm
    have hk2 := Go.WideElems.rd_key hy
    rw [Go.WideElems.rg_of hy] at hpk
    have h5 := WideAt.sameKey_eq hpk
    obtain ⟨j, hj⟩ := List.mem_iff_getElem?.1 hm
    obtain ⟨x, hx, h6, -⟩ := map_at he hj
    exact ⟨x, List.mem_of_getElem? hx, by rw [← h6, hk2, h5]⟩
  · intro x hx kl hk zd
    have h1 : (clV x.1, ptr x.2) ∈ es.toList.map fun e => (e.key, e.val) := by rw [he]; exact List.mem_map.2 ⟨x, hx, rfl⟩
    obtain ⟨e, hm, h2⟩ := List.mem_map.1 h1
    injection h2 with h3 h4
    exact Go.WideElems.atKey_some clLaw F hk hm h3 (z := (.lit (.int .i64 x.2), [])) (by rw [h4]; exact RPp_ptr x.2) zd
  · simp [Maps.size, length_sorted, hsz]
/-- What has come so far, and what is left. -/
structure CollP (l : List (Cl × Nat)) (left : Lit → Bool) (ss : List (Cl × Nat)) : Prop where
  nd : (ss.map (·.1)).Nodup
  sub : ∀ x ∈ ss, x ∈ l
  lft : ∀ x ∈ l, ∀ kl, keyOf Try.prog 34 (clV x.1) = some kl → x ∉ ss → left kl = true
  key : ∀ kl, left kl = true → ∃ x ∈ l, keyOf Try.prog 34 (clV x.1) = some kl ∧ x ∉ ss
theorem CollP.start {l : List (Cl × Nat)} {D : DataW Unit} (h : KeysP D l) : CollP l (Maps.has D) [] :=
  ⟨List.nodup_nil, (fun c hc => by cases hc), (fun x hx kl hk _ => h.has x hx kl hk), (fun kl hk => by
    obtain ⟨x, hx, h2⟩ := h.key kl hk
    exact ⟨x, hx, h2, List.not_mem_nil⟩)⟩
theorem pair_of_key {l : List (Cl × Nat)} (nd : l.Pairwise (fun x y => x.1 ≠ y.1)) {x y : Cl × Nat} (hx : x ∈ l) (hy : y ∈ l) (h : x.1 = y.1) : x = y := by
  have h1 := atC_some nd hx
  have h2 := atC_some nd hy
  rw [h, h2] at h1
  exact Prod.ext h (Option.some.inj h1).symm
theorem CollP.step {l : List (Cl × Nat)} (nd : l.Pairwise (fun x y => x.1 ≠ y.1)) {D : DataW Unit} (hD : KeysP D l) {left : Lit → Bool} {ss : List (Cl × Nat)} (h : CollP l left ss) {v u : Value} {kl : Lit} {y : DataW Unit × List MemPlace} (hk : keyOf Try.prog 34 v = some kl) (hl : left kl = true) (hv : RPp u = some y) (hat : ∀ zd, D.atKey kl zd = y.1) :
    ∃ x, x ∈ l ∧ v = clV x.1 ∧ u = ptr x.2 ∧ CollP l (fun z => left z && !z.sameKey kl) (ss ++ [x]) := by
  obtain ⟨x, hx, h2, h3⟩ := h.key kl hl
  obtain ⟨p, rfl, rfl⟩ := RPp_inv hv
  have hp : p = x.2 := by
    have h5 : (DataW.lit (.int .i64 (p : Int)) : DataW Unit) = .lit (.int .i64 (x.2 : Int)) := (hat .nil).symm.trans (hD.at_ x hx kl h2 .nil)
    have h6 : (p : Int) = (x.2 : Int) := by simpa using h5
    omega
  subst hp
  refine ⟨x, hx, clKeyed.inj hk h2, rfl, ⟨?_, ?_, ?_, ?_⟩⟩
  · rw [List.map_append, List.nodup_append]
    exact ⟨h.nd, by simp, fun a ha b hb e => by
      obtain rfl : b = x.1 := by simpa using hb
      subst e
      obtain ⟨z, hz, h6⟩ := List.mem_map.1 ha
      exact h3 (pair_of_key nd (h.sub z hz) hx h6 ▸ hz)⟩
  · intro c hc
    rcases List.mem_append.1 hc with hc | hc
    · exact h.sub c hc
    · obtain rfl : c = x := by simpa using hc
      exact hx
  · intro y hy ky hky hn
    have hn1 : y ∉ ss := fun e => hn (List.mem_append.2 (.inl e))
    have hn2 : y.1 ≠ x.1 := fun e => hn (List.mem_append.2 (.inr (by simp [pair_of_key nd hy hx e])))
    have hs : ky.sameKey kl = false := by
      cases hs : ky.sameKey kl
      · rfl
      · have e1 := WideAt.sameKey_eq hs
        exact absurd (clV_inj (clKeyed.inj hky (e1 ▸ h2))) hn2
    rw [h.lft y hy ky hky hn1, hs]
    rfl
  · intro z hz
    rw [Bool.and_eq_true] at hz
    obtain ⟨y, hy, hky, hn⟩ := h.key z hz.1
    refine ⟨y, hy, hky, fun hm => ?_⟩
    rcases List.mem_append.1 hm with hm | hm
    · exact hn hm
    · have e1 : y = x := by simpa using hm
      rw [e1, h2] at hky
      have e2 := Option.some.inj hky
      rw [← e2, WideAt.sameKey_self (clKeyed.key h2)] at hz
      simp at hz
theorem CollP.perm {l : List (Cl × Nat)} {left : Lit → Bool} {ss : List (Cl × Nat)} (h : CollP l left ss) (wf : ∀ x ∈ l, Cl64 x.1) (nd : l.Pairwise (fun x y => x.1 ≠ y.1)) (h0 : ∀ kl, left kl = false) : ss.Perm l := by
  refine (List.perm_ext_iff_of_nodup (List.Pairwise.of_map _ (fun a b hab e => hab (by rw [e])) h.nd) (nd.imp (fun {a b} hab e => hab (by rw [e])))).2 fun x => ⟨fun hc => h.sub x hc, fun hx => ?_⟩
  obtain ⟨kl, hk⟩ := key_cl x.1 (wf x hx)
  cases Classical.em (x ∈ ss) with
  | inl hm => exact hm
  | inr hm =>
    have := h.lft x hx kl hk hm
    rw [h0 kl] at this
    cases this
theorem elCl : ElT 41 34 4 32 := elT_of (.agg #[.int .i64 0, .int .i64 0, .int .i64 0, .int .i64 0]) Try.underlying41 (by kernel_rfl) rfl (by decide) (by decide)
end Go.Proofs.Ytdbdpehagkglfaa
