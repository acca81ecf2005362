/-
  Claims: the walks of Compare and of what it calls.
-/
import Derived.Test.YtiomjknhlfhlhaaDoorCb
import Derived.LoopN
namespace Go.Proofs.YtiomjknhlfhlhaaDoor
open Go Go.RowKit
/-- Which of two numbers is the smaller. -/
def sg (x y : Int) : Int := if x < y then -1 else if y < x then 1 else 0
set_option maxRecDepth 100000 in
theorem cmp_any (x y : Int) (w : World) : Calls Tryd.prog 11 #[.int .i64 x, .int .i64 y] w fun e w' => e = .returned (.int .i64 (sg x y)) ∧ w' = w := by
  unfold sg
  by_cases h1 : x < y
  · rw [if_pos h1]
    go_enter Tryd.func11, Tryd.ntmps11
    go_wp2
    go_ret
    exact ⟨rfl, rfl⟩
  · rw [if_neg h1]
    by_cases h2 : y < x
    · rw [if_pos h2]
      go_enter Tryd.func11, Tryd.ntmps11
      go_wp2
      go_ret
      exact ⟨rfl, rfl⟩
    · rw [if_neg h2]
      go_enter Tryd.func11, Tryd.ntmps11
      go_wp2
      go_ret
      exact ⟨rfl, rfl⟩
/-- The first of four numbers that is not 0. -/
def or4 (a b c d : Int) : Int := if a ≠ 0 then a else if b ≠ 0 then b else if c ≠ 0 then c else d
set_option maxRecDepth 100000 in
set_option maxHeartbeats 1000000 in
theorem or_any (a b c d : Int) (g : Nat) (w : World) (h : w.heap[g]? = some (.cells #[.int .i64 a, .int .i64 b, .int .i64 c, .int .i64 d] 3 (0, 0))) :
    Calls Tryd.prog 10 #[.slice (some ⟨g, 0, none⟩) 4 4] w fun e w' => e = .returned (.int .i64 (or4 a b c d)) ∧ w' = w := by
  have k0 : w.cell? ⟨g, 0, none⟩ = some (.int .i64 a) := by rw [cell_of_row _ _ _ _ _ _ h]; rfl
  have k1 : w.cell? ⟨g, 1, none⟩ = some (.int .i64 b) := by rw [cell_of_row _ _ _ _ _ _ h]; rfl
  have k2 : w.cell? ⟨g, 2, none⟩ = some (.int .i64 c) := by rw [cell_of_row _ _ _ _ _ _ h]; rfl
  have k3 : w.cell? ⟨g, 3, none⟩ = some (.int .i64 d) := by rw [cell_of_row _ _ _ _ _ _ h]; rfl
  clear h
  obtain ⟨V, hV⟩ : ∃ V, or4 a b c d = V := ⟨_, rfl⟩
  rw [hV]
  have HV := Bx.mk hV
  clear hV
  go_enter Tryd.func10, Tryd.ntmps10
  go_wp2
  refine wp_loop_rounds 5 ?_
  rw [rounds_succ]
  by_cases h0 : ¬ a = 0
  · have hb0 : (a != 0) = true := by simp [h0]
    have HE : Bx (V = a) := Bx.mk (by rw [← HV.out]; unfold or4; simp [h0])
    clear HV
    go_wp2
    go_ret
    exact ⟨by rw [HE.out]; rfl, rfl⟩
  obtain rfl : a = 0 := Decidable.not_not.mp h0
  clear h0
  go_wp2
  rw [rounds_succ]
  by_cases h1 : ¬ b = 0
  · have hb1 : (b != 0) = true := by simp [h1]
    have HE : Bx (V = b) := Bx.mk (by rw [← HV.out]; unfold or4; simp [h1])
    clear HV
    go_wp2
    go_ret
    exact ⟨by rw [HE.out]; rfl, rfl⟩
  obtain rfl : b = 0 := Decidable.not_not.mp h1
  clear h1
  go_wp2
  rw [rounds_succ]
  by_cases h2 : ¬ c = 0
  · have hb2 : (c != 0) = true := by simp [h2]
    have HE : Bx (V = c) := Bx.mk (by rw [← HV.out]; unfold or4; simp [h2])
    clear HV
    go_wp2
    go_ret
    exact ⟨by rw [HE.out]; rfl, rfl⟩
  obtain rfl : c = 0 := Decidable.not_not.mp h2
  clear h2
  go_wp2
  rw [rounds_succ]
  by_cases h3 : ¬ d = 0
  · have hb3 : (d != 0) = true := by simp [h3]
    have HE : Bx (V = d) := Bx.mk (by rw [← HV.out]; unfold or4; simp [h3])
    clear HV
    go_wp2
    go_ret
    exact ⟨by rw [HE.out]; rfl, rfl⟩
  obtain rfl : d = 0 := Decidable.not_not.mp h3
  clear h3
  go_wp2
  rw [rounds_succ]
  go_wp2
  go_ret
  exact ⟨by rw [← HV.out]; rfl, rfl⟩
/-- The order of claims. -/
def cmpC (a b : Cl) : Int := or4 (sg a.se b.se) (sg a.id b.id) (sg a.ex b.ex) (sg a.ro b.ro)
/-- What stays while two claims are compared. -/
structure CS (w : World) (B : Nat) (a b : Cl) (W : World) : Prop where
  one : W.heap[B]? = some (.cells (clC a) 24 (0, 0))
  two : W.heap[B + 1]? = some (.cells (clC b) 24 (0, 0))
  below : Below B w W
theorem CS.later {w : World} {B : Nat} {a b : Cl} {W W1 : World} (h : CS w B a b W) (hb : Below W.heap.size W W1) : CS w B a b W1 :=
  have h0 : B + 1 < W.heap.size := (Array.getElem?_eq_some_iff.1 h.two).1
  ⟨by rw [hb.block B (by omega)]; exact h.one, by rw [hb.block (B + 1) h0]; exact h.two, h.below.trans (hb.mono (by omega))⟩
theorem CS.x0 {w : World} {B : Nat} {a0 a1 a2 a3 : Int} {b : Cl} {W : World} (h : CS w B ⟨a0, a1, a2, a3⟩ b W) : W.cell? ⟨B, 0, none⟩ = some (.int .i64 a0) := by rw [cell_of_row _ _ _ _ _ _ h.one]; rfl
theorem CS.y0 {w : World} {B : Nat} {b0 b1 b2 b3 : Int} {a : Cl} {W : World} (h : CS w B a ⟨b0, b1, b2, b3⟩ W) : W.cell? ⟨B + 1, 0, none⟩ = some (.int .i64 b0) := by rw [cell_of_row _ _ _ _ _ _ h.two]; rfl
theorem CS.x1 {w : World} {B : Nat} {a0 a1 a2 a3 : Int} {b : Cl} {W : World} (h : CS w B ⟨a0, a1, a2, a3⟩ b W) : W.cell? ⟨B, 1, none⟩ = some (.int .i64 a1) := by rw [cell_of_row _ _ _ _ _ _ h.one]; rfl
theorem CS.y1 {w : World} {B : Nat} {b0 b1 b2 b3 : Int} {a : Cl} {W : World} (h : CS w B a ⟨b0, b1, b2, b3⟩ W) : W.cell? ⟨B + 1, 1, none⟩ = some (.int .i64 b1) := by rw [cell_of_row _ _ _ _ _ _ h.two]; rfl
theorem CS.x2 {w : World} {B : Nat} {a0 a1 a2 a3 : Int} {b : Cl} {W : World} (h : CS w B ⟨a0, a1, a2, a3⟩ b W) : W.cell? ⟨B, 2, none⟩ = some (.int .i64 a2) := by rw [cell_of_row _ _ _ _ _ _ h.one]; rfl
theorem CS.y2 {w : World} {B : Nat} {b0 b1 b2 b3 : Int} {a : Cl} {W : World} (h : CS w B a ⟨b0, b1, b2, b3⟩ W) : W.cell? ⟨B + 1, 2, none⟩ = some (.int .i64 b2) := by rw [cell_of_row _ _ _ _ _ _ h.two]; rfl
theorem CS.x3 {w : World} {B : Nat} {a0 a1 a2 a3 : Int} {b : Cl} {W : World} (h : CS w B ⟨a0, a1, a2, a3⟩ b W) : W.cell? ⟨B, 3, none⟩ = some (.int .i64 a3) := by rw [cell_of_row _ _ _ _ _ _ h.one]; rfl
theorem CS.y3 {w : World} {B : Nat} {b0 b1 b2 b3 : Int} {a : Cl} {W : World} (h : CS w B a ⟨b0, b1, b2, b3⟩ W) : W.cell? ⟨B + 1, 3, none⟩ = some (.int .i64 b3) := by rw [cell_of_row _ _ _ _ _ _ h.two]; rfl
/-- Are claims the same? -/
def sameC (a b : Cl) : Bool := decide (a.id = b.id) && decide (a.ro = b.ro) && decide (a.ex = b.ex) && decide (a.se = b.se)
theorem sameC_iff (a b : Cl) : sameC a b = true ↔ a = b := by
  obtain ⟨a0, a1, a2, a3⟩ := a
  obtain ⟨b0, b1, b2, b3⟩ := b
  simp [sameC, and_assoc]
theorem eqC (a0 a1 a2 a3 b0 b1 b2 b3 : Int) (W : World) : (binOp BinOp.eql 24 (.agg #[.int .i64 a0, .int .i64 a1, .int .i64 a2, .int .i64 a3]) (.agg #[.int .i64 b0, .int .i64 b1, .int .i64 b2, .int .i64 b3])).run Tryd.prog W = .ok (.bool (sameC ⟨a0, a1, a2, a3⟩ ⟨b0, b1, b2, b3⟩)) W := by
  go_simp
  unfold sameC
  simp only
  by_cases h0 : a0 = b0 <;> by_cases h1 : a1 = b1 <;> by_cases h2 : a2 = b2 <;> by_cases h3 : a3 = b3 <;> simp [h0, h1, h2, h3]
theorem cmpC_self (a : Cl) : cmpC a a = 0 := by simp [cmpC, sg, or4]
set_option maxRecDepth 100000 in
set_option maxHeartbeats 2000000 in
theorem compare_any (a b : Cl) (w : World) : Calls Tryd.prog 5 #[clV a, clV b] w fun e w' => e = .returned (.int .i64 (cmpC a b)) ∧ Below w.heap.size w w' := by
  obtain ⟨B, hB⟩ : ∃ B, w.heap.size = B := ⟨_, rfl⟩
  rw [hB]
  have H0 : Bx (CS w B a b ((w.alloc (.cells (clC a) 24)).alloc (.cells (clC b) 24))) := Bx.mk ⟨by rw [hold _ _ _ (by simp; omega)]; exact hnew _ _ _ hB.symm, hnew _ _ _ (by simp; omega), by rw [← hB]; exact (below_a _).alloc (by simp) _⟩
  by_cases hab : sameC a b = true
  · have hq := (sameC_iff a b).mp hab
    subst hq
    rw [cmpC_self]
    obtain ⟨a0, a1, a2, a3⟩ := a
    have heq := fun W => eqC a0 a1 a2 a3 a0 a1 a2 a3 W
    rw [hab] at heq
    unfold clC at H0
    unfold clV
    simp only at H0 ⊢
    go_enter Tryd.func5, Tryd.ntmps5
    go_wp2
    go_ret
    exact ⟨rfl, H0.out.below⟩
  · have hab2 : sameC a b = false := by simpa using hab
    obtain ⟨a0, a1, a2, a3⟩ := a
    obtain ⟨b0, b1, b2, b3⟩ := b
    have heq := fun W => eqC a0 a1 a2 a3 b0 b1 b2 b3 W
    rw [hab2] at heq
    unfold clV cmpC
    have HC : Bx (CS w B ⟨a0, a1, a2, a3⟩ ⟨b0, b1, b2, b3⟩ ((w.alloc (.cells #[.int .i64 a0, .int .i64 a1, .int .i64 a2, .int .i64 a3] 24)).alloc (.cells #[.int .i64 b0, .int .i64 b1, .int .i64 b2, .int .i64 b3] 24)).drew) := Bx.mk (H0.out.later (Below.refl _ _).drew)
    simp only
    clear hab hab2 H0
    go_enter Tryd.func5, Tryd.ntmps5
    go_upto_region 3 with (fail)
    generalize (w.alloc (.cells #[.int .i64 a0, .int .i64 a1, .int .i64 a2, .int .i64 a3] 24)).alloc (.cells #[.int .i64 b0, .int .i64 b1, .int .i64 b2, .int .i64 b3] 24) = w1 at *
    clear heq
    refine wp_region_noPanic ?_
    refine wp_region_held_drew (S := fun W => W.cell? ⟨B, 0, none⟩ = some (.int .i64 a0) ∧ W.cell? ⟨B, 1, none⟩ = some (.int .i64 a1) ∧ W.cell? ⟨B, 2, none⟩ = some (.int .i64 a2) ∧ W.cell? ⟨B, 3, none⟩ = some (.int .i64 a3) ∧ W.cell? ⟨B + 1, 0, none⟩ = some (.int .i64 b0) ∧ W.cell? ⟨B + 1, 1, none⟩ = some (.int .i64 b1) ∧ W.cell? ⟨B + 1, 2, none⟩ = some (.int .i64 b2) ∧ W.cell? ⟨B + 1, 3, none⟩ = some (.int .i64 b3)) (by kernel_rfl) (⟨HC.out.x0, HC.out.x1, HC.out.x2, HC.out.x3, HC.out.y0, HC.out.y1, HC.out.y2, HC.out.y3⟩) (fun hHeld => ?_)
    generalize w1.drew = W0 at *
    refine takeL 0 (v := ?_) rfl (by kernel_rfl) (by kernel_rfl) (by kernel_rfl) (fun _ _ _ h => h) (Or.inl ⟨by rfl, ?_⟩) hHeld ?_
    rotate_left 1
    · (intro w hSw; go_simp; try with_reducible rfl)
    try simp only [Act.put, List.setIfInBounds_toArray, List.set_cons_zero, List.set_cons_succ]
    refine takeL 1 (v := ?_) rfl (by kernel_rfl) (by kernel_rfl) (by kernel_rfl) (fun _ _ _ h => h) (Or.inl ⟨by rfl, ?_⟩) hHeld ?_
    rotate_left 1
    · (intro w hSw; go_simp; try with_reducible rfl)
    try simp only [Act.put, List.setIfInBounds_toArray, List.set_cons_zero, List.set_cons_succ]
    refine takeL 2 (v := ?_) rfl (by kernel_rfl) (by kernel_rfl) (by kernel_rfl) (fun _ _ _ h => h) (Or.inl ⟨by rfl, ?_⟩) hHeld ?_
    rotate_left 1
    · (intro w hSw; go_simp; try with_reducible rfl)
    try simp only [Act.put, List.setIfInBounds_toArray, List.set_cons_zero, List.set_cons_succ]
    refine takeL 3 (v := ?_) rfl (by kernel_rfl) (by kernel_rfl) (by kernel_rfl) (fun _ _ _ h => h) (Or.inl ⟨by rfl, ?_⟩) hHeld ?_
    rotate_left 1
    · (intro w hSw; go_simp; try with_reducible rfl)
    try simp only [Act.put, List.setIfInBounds_toArray, List.set_cons_zero, List.set_cons_succ]
    refine takeL 5 (v := ?_) rfl (by kernel_rfl) (by kernel_rfl) (by kernel_rfl) (fun _ _ _ h => h) (Or.inl ⟨by rfl, ?_⟩) hHeld ?_
    rotate_left 1
    · (intro w hSw; go_simp; try with_reducible rfl)
    try simp only [Act.put, List.setIfInBounds_toArray, List.set_cons_zero, List.set_cons_succ]
    refine takeL 6 (v := ?_) rfl (by kernel_rfl) (by kernel_rfl) (by kernel_rfl) (fun _ _ _ h => h) (Or.inl ⟨by rfl, ?_⟩) hHeld ?_
    rotate_left 1
    · (intro w hSw; go_simp; try with_reducible rfl)
    try simp only [Act.put, List.setIfInBounds_toArray, List.set_cons_zero, List.set_cons_succ]
    refine takeL 7 (v := ?_) rfl (by kernel_rfl) (by kernel_rfl) (by kernel_rfl) (fun _ _ _ h => h) (Or.inl ⟨by rfl, ?_⟩) hHeld ?_
    rotate_left 1
    · (intro w hSw; go_simp; try with_reducible rfl)
    try simp only [Act.put, List.setIfInBounds_toArray, List.set_cons_zero, List.set_cons_succ]
    refine takeL 8 (v := ?_) rfl (by kernel_rfl) (by kernel_rfl) (by kernel_rfl) (fun _ _ _ h => h) (Or.inl ⟨by rfl, ?_⟩) hHeld ?_
    rotate_left 1
    · (intro w hSw; go_simp; try with_reducible rfl)
    try simp only [Act.put, List.setIfInBounds_toArray, List.set_cons_zero, List.set_cons_succ]
    refine takeL 10 (v := ?_) rfl (by kernel_rfl) (by kernel_rfl) (by kernel_rfl) (fun _ _ _ h => h) (Or.inl ⟨by rfl, ?_⟩) hHeld ?_
    rotate_left 1
    · (intro w hSw; go_simp; try with_reducible rfl)
    try simp only [Act.put, List.setIfInBounds_toArray, List.set_cons_zero, List.set_cons_succ]
    refine takeL 11 (v := ?_) rfl (by kernel_rfl) (by kernel_rfl) (by kernel_rfl) (fun _ _ _ h => h) (Or.inl ⟨by rfl, ?_⟩) hHeld ?_
    rotate_left 1
    · (intro w hSw; go_simp; try with_reducible rfl)
    try simp only [Act.put, List.setIfInBounds_toArray, List.set_cons_zero, List.set_cons_succ]
    refine takeL 12 (v := ?_) rfl (by kernel_rfl) (by kernel_rfl) (by kernel_rfl) (fun _ _ _ h => h) (Or.inl ⟨by rfl, ?_⟩) hHeld ?_
    rotate_left 1
    · (intro w hSw; go_simp; try with_reducible rfl)
    try simp only [Act.put, List.setIfInBounds_toArray, List.set_cons_zero, List.set_cons_succ]
    refine takeL 13 (v := ?_) rfl (by kernel_rfl) (by kernel_rfl) (by kernel_rfl) (fun _ _ _ h => h) (Or.inl ⟨by rfl, ?_⟩) hHeld ?_
    rotate_left 1
    · (intro w hSw; go_simp; try with_reducible rfl)
    try simp only [Act.put, List.setIfInBounds_toArray, List.set_cons_zero, List.set_cons_succ]
    refine takeL 15 (v := ?_) rfl (by kernel_rfl) (by kernel_rfl) (by kernel_rfl) (fun _ _ _ h => h) (Or.inl ⟨by rfl, ?_⟩) hHeld ?_
    rotate_left 1
    · (intro w hSw; go_simp; try with_reducible rfl)
    try simp only [Act.put, List.setIfInBounds_toArray, List.set_cons_zero, List.set_cons_succ]
    refine takeL 16 (v := ?_) rfl (by kernel_rfl) (by kernel_rfl) (by kernel_rfl) (fun _ _ _ h => h) (Or.inl ⟨by rfl, ?_⟩) hHeld ?_
    rotate_left 1
    · (intro w hSw; go_simp; try with_reducible rfl)
    try simp only [Act.put, List.setIfInBounds_toArray, List.set_cons_zero, List.set_cons_succ]
    refine takeL 17 (v := ?_) rfl (by kernel_rfl) (by kernel_rfl) (by kernel_rfl) (fun _ _ _ h => h) (Or.inl ⟨by rfl, ?_⟩) hHeld ?_
    rotate_left 1
    · (intro w hSw; go_simp; try with_reducible rfl)
    try simp only [Act.put, List.setIfInBounds_toArray, List.set_cons_zero, List.set_cons_succ]
    refine takeL 18 (v := ?_) rfl (by kernel_rfl) (by kernel_rfl) (by kernel_rfl) (fun _ _ _ h => h) (Or.inl ⟨by rfl, ?_⟩) hHeld ?_
    rotate_left 1
    · (intro w hSw; go_simp; try with_reducible rfl)
    try simp only [Act.put, List.setIfInBounds_toArray, List.set_cons_zero, List.set_cons_succ]
    refine stepL 4 (by kernel_rfl) rfl (fun K hK => ?_)
    go_simp
    refine (cmp_any a3 b3 W0).mono ?_
    rintro e Wx ⟨rfl, hw⟩
    rw [hw]
    clear hw Wx
    show K _ _
    refine hK.out _ _ ⟨HC.out.x0, HC.out.x1, HC.out.x2, HC.out.x3, HC.out.y0, HC.out.y1, HC.out.y2, HC.out.y3⟩ (fun hHeld => ?_)
    clear hK K
    try simp only [Act.put, List.setIfInBounds_toArray, List.set_cons_zero, List.set_cons_succ]
    refine stepL 9 (by kernel_rfl) rfl (fun K hK => ?_)
    go_simp
    refine (cmp_any a0 b0 W0).mono ?_
    rintro e Wx ⟨rfl, hw⟩
    rw [hw]
    clear hw Wx
    show K _ _
    refine hK.out _ _ ⟨HC.out.x0, HC.out.x1, HC.out.x2, HC.out.x3, HC.out.y0, HC.out.y1, HC.out.y2, HC.out.y3⟩ (fun hHeld => ?_)
    clear hK K
    try simp only [Act.put, List.setIfInBounds_toArray, List.set_cons_zero, List.set_cons_succ]
    refine stepL 14 (by kernel_rfl) rfl (fun K hK => ?_)
    go_simp
    refine (cmp_any a2 b2 W0).mono ?_
    rintro e Wx ⟨rfl, hw⟩
    rw [hw]
    clear hw Wx
    show K _ _
    refine hK.out _ _ ⟨HC.out.x0, HC.out.x1, HC.out.x2, HC.out.x3, HC.out.y0, HC.out.y1, HC.out.y2, HC.out.y3⟩ (fun hHeld => ?_)
    clear hK K
    try simp only [Act.put, List.setIfInBounds_toArray, List.set_cons_zero, List.set_cons_succ]
    refine stepL 19 (by kernel_rfl) rfl (fun K hK => ?_)
    go_simp
    refine (cmp_any a1 b1 W0).mono ?_
    rintro e Wx ⟨rfl, hw⟩
    rw [hw]
    clear hw Wx
    show K _ _
    refine hK.out _ _ ⟨HC.out.x0, HC.out.x1, HC.out.x2, HC.out.x3, HC.out.y0, HC.out.y1, HC.out.y2, HC.out.y3⟩ (fun hHeld => ?_)
    clear hK K
    try simp only [Act.put, List.setIfInBounds_toArray, List.set_cons_zero, List.set_cons_succ]
    refine stepL 20 (by kernel_rfl) rfl (fun K hK => ?_)
    go_simp
    have HR : Bx ((W0.alloc (.cells #[.int .i64 (sg a3 b3), .int .i64 (sg a0 b0), .int .i64 (sg a2 b2), .int .i64 (sg a1 b1)] 3)).heap[W0.heap.size]? = some (.cells #[.int .i64 (sg a3 b3), .int .i64 (sg a0 b0), .int .i64 (sg a2 b2), .int .i64 (sg a1 b1)] 3 (0, 0))) := Bx.mk (hnew _ _ _ rfl)
    have HC := Bx.mk (HC.out.later (below_a (.cells #[.int .i64 (sg a3 b3), .int .i64 (sg a0 b0), .int .i64 (sg a2 b2), .int .i64 (sg a1 b1)] 3)))
    refine hK.out _ _ ⟨HC.out.x0, HC.out.x1, HC.out.x2, HC.out.x3, HC.out.y0, HC.out.y1, HC.out.y2, HC.out.y3⟩ (fun hHeld => ?_)
    clear hK K
    try simp only [Act.put, List.setIfInBounds_toArray, List.set_cons_zero, List.set_cons_succ]
    generalize W0.alloc (.cells #[.int .i64 (sg a3 b3), .int .i64 (sg a0 b0), .int .i64 (sg a2 b2), .int .i64 (sg a1 b1)] 3) = W1 at *
    generalize W0.heap.size = G at *
    refine stepL 21 (by kernel_rfl) rfl (fun K hK => ?_)
    go_simp
    refine (or_any _ _ _ _ G W1 HR.out).mono ?_
    rintro e Wx ⟨rfl, hw⟩
    rw [hw]
    clear hw Wx
    show K _ _
    refine hK.out _ _ ⟨HC.out.x0, HC.out.x1, HC.out.x2, HC.out.x3, HC.out.y0, HC.out.y1, HC.out.y2, HC.out.y3⟩ (fun hHeld => ?_)
    clear hK K
    try simp only [Act.put, List.setIfInBounds_toArray, List.set_cons_zero, List.set_cons_succ]
    refine takeL 22 (v := ?_) rfl (by kernel_rfl) (by kernel_rfl) (by kernel_rfl) (fun _ _ _ h => h) (Or.inl ⟨by rfl, ?_⟩) hHeld ?_
    rotate_left 1
    · (intro w hSw; go_simp; try with_reducible rfl)
    try simp only [Act.put, List.setIfInBounds_toArray, List.set_cons_zero, List.set_cons_succ]
    refine wpAnyH_done (by kernel_rfl) ?_ _
    refine NoPanic.normal ?_
    clear hHeld
    go_wp2
    go_ret
    exact ⟨rfl, HC.out.below⟩
end Go.Proofs.YtiomjknhlfhlhaaDoor
