/-
  Claims: the walks of the document's Less, and of Text.
-/
import Derived.Test.YtiomjknhlfhlhaaDoorDa
import Derived.Test.YtiomjknhlfhlhaaDoorShl
import Derived.Lib.AppendIntMem
import Derived.Lib.ItoaLen
import Derived.Lib.Join
namespace Go.Proofs.YtiomjknhlfhlhaaDoor
open Go Go.RowKit
/-- Is one of four pairs ahead? -/
def less4 (p0 q0 p1 q1 p2 q2 p3 q3 : Int) : Bool := if p0 ≠ q0 then decide (p0 < q0) else if p1 ≠ q1 then decide (p1 < q1) else if p2 ≠ q2 then decide (p2 < q2) else if p3 ≠ q3 then decide (p3 < q3) else false
/-- Are claims ahead of others? -/
def lessC (a b : Cl) : Bool := less4 a.se b.se a.id b.id a.ex b.ex a.ro b.ro
set_option maxRecDepth 100000 in
set_option maxHeartbeats 4000000 in
theorem less_any (a b : Cl) (w : World) : Calls Tryd.prog 7 #[clV a, clV b] w fun e w' => e = .returned (.bool (lessC a b)) ∧ Below w.heap.size w w' := by
  obtain ⟨p1, p3, p2, p0⟩ := a
  obtain ⟨q1, q3, q2, q0⟩ := b
  unfold clV lessC
  simp only
  obtain ⟨V, hV⟩ : ∃ V, less4 p0 q0 p1 q1 p2 q2 p3 q3 = V := ⟨_, rfl⟩
  rw [hV]
  have HV := Bx.mk hV
  clear hV
  obtain ⟨B, hB⟩ : ∃ B, w.heap.size = B := ⟨_, rfl⟩
  rw [hB]
  have H0 : Bx (Below B w ((((w.alloc (.cells #[.int .i64 p1, .int .i64 p3, .int .i64 p2, .int .i64 p0] 23)).alloc (.cells #[.int .i64 q1, .int .i64 q3, .int .i64 q2, .int .i64 q0] 23)).alloc (.cells #[.int .i64 p0, .int .i64 p1, .int .i64 p2, .int .i64 p3] 39)).alloc (.cells #[.int .i64 q0, .int .i64 q1, .int .i64 q2, .int .i64 q3] 39))) := Bx.mk (by rw [← hB]; exact (((below_a _).alloc (by simp) _).alloc (by simp; omega) _).alloc (by simp; omega) _)
  have HX : Bx (((((w.alloc (.cells #[.int .i64 p1, .int .i64 p3, .int .i64 p2, .int .i64 p0] 23)).alloc (.cells #[.int .i64 q1, .int .i64 q3, .int .i64 q2, .int .i64 q0] 23)).alloc (.cells #[.int .i64 p0, .int .i64 p1, .int .i64 p2, .int .i64 p3] 39)).alloc (.cells #[.int .i64 q0, .int .i64 q1, .int .i64 q2, .int .i64 q3] 39)).heap[B + 1 + 1]? = some (.cells #[.int .i64 p0, .int .i64 p1, .int .i64 p2, .int .i64 p3] 39 (0, 0)) ∧ ((((w.alloc (.cells #[.int .i64 p1, .int .i64 p3, .int .i64 p2, .int .i64 p0] 23)).alloc (.cells #[.int .i64 q1, .int .i64 q3, .int .i64 q2, .int .i64 q0] 23)).alloc (.cells #[.int .i64 p0, .int .i64 p1, .int .i64 p2, .int .i64 p3] 39)).alloc (.cells #[.int .i64 q0, .int .i64 q1, .int .i64 q2, .int .i64 q3] 39)).heap[B + 1 + 1 + 1]? = some (.cells #[.int .i64 q0, .int .i64 q1, .int .i64 q2, .int .i64 q3] 39 (0, 0))) := Bx.mk ⟨by rw [hold _ _ _ (by simp; omega)]; exact hnew _ _ _ (by simp; omega), hnew _ _ _ (by simp; omega)⟩
  go_enter Tryd.func7, Tryd.ntmps7
  go_wp2
  generalize (((w.alloc (.cells #[.int .i64 p1, .int .i64 p3, .int .i64 p2, .int .i64 p0] 23)).alloc (.cells #[.int .i64 q1, .int .i64 q3, .int .i64 q2, .int .i64 q0] 23)).alloc (.cells #[.int .i64 p0, .int .i64 p1, .int .i64 p2, .int .i64 p3] 39)).alloc (.cells #[.int .i64 q0, .int .i64 q1, .int .i64 q2, .int .i64 q3] 39) = w0 at *
  obtain ⟨X, hX⟩ : ∃ X, B + 1 + 1 = X := ⟨_, rfl⟩
  obtain ⟨Y, hY⟩ : ∃ Y, B + 1 + 1 + 1 = Y := ⟨_, rfl⟩
  rw [hY, hX] at HX
  rw [hY, hX]
  clear hX hY
  have kx : ∀ n, (w0.drewN n).heap[X]? = some (.cells #[.int .i64 p0, .int .i64 p1, .int .i64 p2, .int .i64 p3] 39 (0, 0)) := fun n => HX.out.1
  have ky : ∀ n, (w0.drewN n).heap[Y]? = some (.cells #[.int .i64 q0, .int .i64 q1, .int .i64 q2, .int .i64 q3] 39 (0, 0)) := fun n => HX.out.2
  have x0 : w0.cell? ⟨X, 0, none⟩ = some (.int .i64 p0) := by rw [cell_of_row _ _ _ _ _ _ HX.out.1]; rfl
  have y0 : w0.cell? ⟨Y, 0, none⟩ = some (.int .i64 q0) := by rw [cell_of_row _ _ _ _ _ _ HX.out.2]; rfl
  have x1 : w0.cell? ⟨X, 1, none⟩ = some (.int .i64 p1) := by rw [cell_of_row _ _ _ _ _ _ HX.out.1]; rfl
  have y1 : w0.cell? ⟨Y, 1, none⟩ = some (.int .i64 q1) := by rw [cell_of_row _ _ _ _ _ _ HX.out.2]; rfl
  have x2 : w0.cell? ⟨X, 2, none⟩ = some (.int .i64 p2) := by rw [cell_of_row _ _ _ _ _ _ HX.out.1]; rfl
  have y2 : w0.cell? ⟨Y, 2, none⟩ = some (.int .i64 q2) := by rw [cell_of_row _ _ _ _ _ _ HX.out.2]; rfl
  have x3 : w0.cell? ⟨X, 3, none⟩ = some (.int .i64 p3) := by rw [cell_of_row _ _ _ _ _ _ HX.out.1]; rfl
  have y3 : w0.cell? ⟨Y, 3, none⟩ = some (.int .i64 q3) := by rw [cell_of_row _ _ _ _ _ _ HX.out.2]; rfl
  clear kx ky HX
  refine wp_loop_rounds 5 ?_
  rw [rounds_succ]
  by_cases h0 : ¬ p0 = q0
  · have hb0 : (p0 != q0) = true := by simp [h0]
    have HE : Bx (V = decide (p0 < q0)) := Bx.mk (by rw [← HV.out]; unfold less4; simp [h0])
    clear HV
    go_wp2
    go_region
    go_wp2
    go_region
    go_wp2
    go_ret
    exact ⟨by rw [HE.out]; rfl, H0.out.drew.drew⟩
  obtain rfl : p0 = q0 := Decidable.not_not.mp h0
  have hb0 : (p0 != p0) = false := by simp
  clear h0
  go_wp2
  go_region
  go_wp2
  rw [rounds_succ]
  by_cases h1 : ¬ p1 = q1
  · have hb1 : (p1 != q1) = true := by simp [h1]
    have HE : Bx (V = decide (p1 < q1)) := Bx.mk (by rw [← HV.out]; unfold less4; simp [h1])
    clear HV
    go_wp2
    go_region
    go_wp2
    go_region
    go_wp2
    go_ret
    exact ⟨by rw [HE.out]; rfl, H0.out.drew.drew.drew⟩
  obtain rfl : p1 = q1 := Decidable.not_not.mp h1
  have hb1 : (p1 != p1) = false := by simp
  clear h1
  go_wp2
  go_region
  go_wp2
  rw [rounds_succ]
  by_cases h2 : ¬ p2 = q2
  · have hb2 : (p2 != q2) = true := by simp [h2]
    have HE : Bx (V = decide (p2 < q2)) := Bx.mk (by rw [← HV.out]; unfold less4; simp [h2])
    clear HV
    go_wp2
    go_region
    go_wp2
    go_region
    go_wp2
    go_ret
    exact ⟨by rw [HE.out]; rfl, H0.out.drew.drew.drew.drew⟩
  obtain rfl : p2 = q2 := Decidable.not_not.mp h2
  have hb2 : (p2 != p2) = false := by simp
  clear h2
  go_wp2
  go_region
  go_wp2
  rw [rounds_succ]
  by_cases h3 : ¬ p3 = q3
  · have hb3 : (p3 != q3) = true := by simp [h3]
    have HE : Bx (V = decide (p3 < q3)) := Bx.mk (by rw [← HV.out]; unfold less4; simp [h3])
    clear HV
    go_wp2
    go_region
    go_wp2
    go_region
    go_wp2
    go_ret
    exact ⟨by rw [HE.out]; rfl, H0.out.drew.drew.drew.drew.drew⟩
  obtain rfl : p3 = q3 := Decidable.not_not.mp h3
  have hb3 : (p3 != p3) = false := by simp
  clear h3
  go_wp2
  go_region
  go_wp2
  rw [rounds_succ]
  go_wp2
  go_ret
  exact ⟨by rw [← HV.out]; unfold less4; simp, H0.out.drew.drew.drew.drew⟩
theorem below_grow (w : World) (k : Nat) (os : Array Obj) : Below w.heap.size w (Sort.grow (w.drewN k) os) := ⟨rfl, rfl, rfl, by rw [Sort.size_grow]; show w.heap.size ≤ w.heap.size + _; omega, fun i hi => by rw [Sort.heap_grow_old (w.drewN k) os hi]; rfl⟩
/-- The library's table of powers. -/
def TabP (W : World) : Prop := Lib.TabIs Tryd.prog W "internal/strconv.uint64pow10" .u64 Lib.pow10Tab
theorem TabP.later {W W1 : World} (h : TabP W) (hb : Below W.heap.size W W1) : TabP W1 := Lib.tabBelow_of_tabIs h W1 hb
theorem itoa_any (n : Int) (h0 : -9223372036854775808 ≤ n) (h1 : n ≤ 9223372036854775807) (w : World) (ht : TabP w) : Calls Tryd.prog 15 #[.int .i64 n] w fun e w' => e = .returned (.string ⟨(Lib.itoa n).toArray⟩) ∧ Below w.heap.size w w' := by
  have h : Calls Tryd.prog 15 #[.int .i64 n] w fun e w' => e = .returned (.string ⟨(Lib.itoa n).toArray⟩) ∧ ∃ k os, w' = Sort.grow (w.drewN k) os := Any.strconv_Itoa Tryd.laysM171 n h0 h1 w ht
  refine h.mono ?_
  rintro e w' ⟨he, k, os, rfl⟩
  exact ⟨he, below_grow w k os⟩
/-- Claims, told. -/
def textL (i r x s : Int) : List UInt8 := Lib.join [Lib.itoa i, Lib.itoa r, Lib.itoa x, Lib.itoa s] [32]
theorem join_any (s0 s1 s2 s3 : ByteArray) (g : Nat) (w : World) (h : w.heap[g]? = some (.cells #[.string s0, .string s1, .string s2, .string s3] 9 (0, 0))) (h0 : s0.data.toList.length ≤ 100) (h1 : s1.data.toList.length ≤ 100) (h2 : s2.data.toList.length ≤ 100) (h3 : s3.data.toList.length ≤ 100) :
    Calls Tryd.prog 14 #[.slice (some ⟨g, 0, none⟩) 4 4, .string ⟨#[32]⟩] w fun e w' => e = .returned (.string ⟨(Lib.join [s0.data.toList, s1.data.toList, s2.data.toList, s3.data.toList] [32]).toArray⟩) ∧ Below w.heap.size w w' := by
  have hc : ∀ (j : Nat) x, [s0, s1, s2, s3][j]? = some x → w.cell? ⟨g, 0 + j, none⟩ = some (.string x) := fun j x hj => by
    rw [cell_of_row _ _ _ _ _ _ h]
    match j, hj with
    | 0, hj => simp at hj; subst hj; rfl
    | 1, hj => simp at hj; subst hj; rfl
    | 2, hj => simp at hj; subst hj; rfl
    | 3, hj => simp at hj; subst hj; rfl
    | j + 4, hj => simp at hj
  exact Any.strings_Join Tryd.lays156 Tryd.Builder_Extra_156 g 0 4 [s0, s1, s2, s3] ⟨#[32]⟩ w hc (Array.getElem?_eq_some_iff.1 h).1 (by simp) (by simp) (by
    show (Lib.join [s0.data.toList, s1.data.toList, s2.data.toList, s3.data.toList] [32]).length ≤ _
    rw [Lib.join_length]
    simp [Lib.lens]
    simp at h0 h1 h2 h3
    omega)
/-- What stays while claims are told. -/
structure TS (w : World) (B : Nat) (c : Cl) (W : World) : Prop where
  box : W.heap[B]? = some (.cells (clC c) 24 (0, 0))
  tab : TabP W
  below : Below B w W
theorem TS.later {w : World} {B : Nat} {c : Cl} {W W1 : World} (h : TS w B c W) (hb : Below W.heap.size W W1) : TS w B c W1 :=
  have h0 : B < W.heap.size := (Array.getElem?_eq_some_iff.1 h.box).1
  ⟨by rw [hb.block B h0]; exact h.box, h.tab.later hb, h.below.trans (hb.mono (Nat.le_of_lt h0))⟩
theorem TS.cell {w : World} {B : Nat} {c : Cl} {W : World} (h : TS w B c W) (k : Nat) (v : Value) (hv : (clC c)[k]? = some v) : W.cell? ⟨B, k, none⟩ = some v := by rw [cell_of_row _ _ _ _ _ _ h.box]; exact hv
set_option maxRecDepth 100000 in
set_option maxHeartbeats 2000000 in
theorem text_any (i r x s : Int) (w : World) (hr : (-9223372036854775808 ≤ i ∧ i ≤ 9223372036854775807) ∧ (-9223372036854775808 ≤ r ∧ r ≤ 9223372036854775807) ∧ (-9223372036854775808 ≤ x ∧ x ≤ 9223372036854775807) ∧ (-9223372036854775808 ≤ s ∧ s ≤ 9223372036854775807)) (ht : TabP w) :
    Calls Tryd.prog 8 #[clV ⟨i, r, x, s⟩] w fun e w' => e = .returned (.string ⟨(textL i r x s).toArray⟩) ∧ Below w.heap.size w w' := by
  obtain ⟨B, hB⟩ : ∃ B, w.heap.size = B := ⟨_, rfl⟩
  rw [hB]
  have HR := Bx.mk hr
  have HI : Bx ((⟨(Lib.itoa i).toArray⟩ : ByteArray).data.toList.length ≤ 100 ∧ (⟨(Lib.itoa r).toArray⟩ : ByteArray).data.toList.length ≤ 100 ∧ (⟨(Lib.itoa x).toArray⟩ : ByteArray).data.toList.length ≤ 100 ∧ (⟨(Lib.itoa s).toArray⟩ : ByteArray).data.toList.length ≤ 100) := Bx.mk (by
    have l0 := Lib.itoa_length_le i hr.1.1 hr.1.2
    have l1 := Lib.itoa_length_le r hr.2.1.1 hr.2.1.2
    have l2 := Lib.itoa_length_le x hr.2.2.1.1 hr.2.2.1.2
    have l3 := Lib.itoa_length_le s hr.2.2.2.1 hr.2.2.2.2
    refine ⟨?_, ?_, ?_, ?_⟩ <;> simp only [List.toList_toArray] <;> omega)
  have HC : Bx (TS w B ⟨i, r, x, s⟩ (w.alloc (.cells #[.int .i64 i, .int .i64 r, .int .i64 x, .int .i64 s] 24)).drew) := Bx.mk ⟨hnew _ _ _ hB.symm, (ht.later (below_a _)).later (Below.refl _ _).drew, by rw [← hB]; exact (below_a _).drew⟩
  unfold clV
  simp only
  clear hr ht
  go_enter Tryd.func8, Tryd.ntmps8
  go_upto_region 1 with (fail)
  generalize w.alloc (.cells #[.int .i64 i, .int .i64 r, .int .i64 x, .int .i64 s] 24) = w1 at *
  refine wp_region_noPanic ?_
  refine wp_region_held_drew (S := fun W => W.cell? ⟨B, 0, none⟩ = some (.int .i64 i) ∧ W.cell? ⟨B, 1, none⟩ = some (.int .i64 r) ∧ W.cell? ⟨B, 2, none⟩ = some (.int .i64 x) ∧ W.cell? ⟨B, 3, none⟩ = some (.int .i64 s)) (by kernel_rfl) (⟨HC.out.cell 0 _ rfl, HC.out.cell 1 _ rfl, HC.out.cell 2 _ rfl, HC.out.cell 3 _ rfl⟩) (fun hHeld => ?_)
  generalize w1.drew = W0 at *
  refine takeL 0 (v := ?_) rfl (by kernel_rfl) (by kernel_rfl) (by kernel_rfl) (fun _ _ _ h => h) (Or.inl ⟨by rfl, ?_⟩) hHeld ?_
  rotate_left 1
  · (intro w hSw; go_simp; try with_reducible rfl)
  try simp only [Act.put, List.setIfInBounds_toArray, List.set_cons_zero, List.set_cons_succ]
  refine takeL 1 (v := ?_) rfl (by kernel_rfl) (by kernel_rfl) (by kernel_rfl) (fun _ _ _ h => h) (Or.inl ⟨by rfl, ?_⟩) hHeld ?_
  rotate_left 1
  · (intro w hSw; go_simp; try with_reducible rfl)
  try simp only [Act.put, List.setIfInBounds_toArray, List.set_cons_zero, List.set_cons_succ]
  refine takeL 3 (v := ?_) rfl (by kernel_rfl) (by kernel_rfl) (by kernel_rfl) (fun _ _ _ h => h) (Or.inl ⟨by rfl, ?_⟩) hHeld ?_
  rotate_left 1
  · (intro w hSw; go_simp; try with_reducible rfl)
  try simp only [Act.put, List.setIfInBounds_toArray, List.set_cons_zero, List.set_cons_succ]
  refine takeL 4 (v := ?_) rfl (by kernel_rfl) (by kernel_rfl) (by kernel_rfl) (fun _ _ _ h => h) (Or.inl ⟨by rfl, ?_⟩) hHeld ?_
  rotate_left 1
  · (intro w hSw; go_simp; try with_reducible rfl)
  try simp only [Act.put, List.setIfInBounds_toArray, List.set_cons_zero, List.set_cons_succ]
  refine takeL 6 (v := ?_) rfl (by kernel_rfl) (by kernel_rfl) (by kernel_rfl) (fun _ _ _ h => h) (Or.inl ⟨by rfl, ?_⟩) hHeld ?_
  rotate_left 1
  · (intro w hSw; go_simp; try with_reducible rfl)
  try simp only [Act.put, List.setIfInBounds_toArray, List.set_cons_zero, List.set_cons_succ]
  refine takeL 7 (v := ?_) rfl (by kernel_rfl) (by kernel_rfl) (by kernel_rfl) (fun _ _ _ h => h) (Or.inl ⟨by rfl, ?_⟩) hHeld ?_
  rotate_left 1
  · (intro w hSw; go_simp; try with_reducible rfl)
  try simp only [Act.put, List.setIfInBounds_toArray, List.set_cons_zero, List.set_cons_succ]
  refine takeL 9 (v := ?_) rfl (by kernel_rfl) (by kernel_rfl) (by kernel_rfl) (fun _ _ _ h => h) (Or.inl ⟨by rfl, ?_⟩) hHeld ?_
  rotate_left 1
  · (intro w hSw; go_simp; try with_reducible rfl)
  try simp only [Act.put, List.setIfInBounds_toArray, List.set_cons_zero, List.set_cons_succ]
  refine takeL 10 (v := ?_) rfl (by kernel_rfl) (by kernel_rfl) (by kernel_rfl) (fun _ _ _ h => h) (Or.inl ⟨by rfl, ?_⟩) hHeld ?_
  rotate_left 1
  · (intro w hSw; go_simp; try with_reducible rfl)
  try simp only [Act.put, List.setIfInBounds_toArray, List.set_cons_zero, List.set_cons_succ]
  refine stepL 2 (by kernel_rfl) rfl (fun K hK => ?_)
  go_simp
  refine (itoa_any i (by have := HR.out; omega) (by have := HR.out; omega) W0 HC.out.tab).mono ?_
  rintro e W1 ⟨rfl, hb⟩
  show K _ _
  have HC := Bx.mk (HC.out.later hb)
  clear hb
  refine hK.out _ _ ⟨HC.out.cell 0 _ rfl, HC.out.cell 1 _ rfl, HC.out.cell 2 _ rfl, HC.out.cell 3 _ rfl⟩ (fun hHeld => ?_)
  clear hK K
  try simp only [Act.put, List.setIfInBounds_toArray, List.set_cons_zero, List.set_cons_succ]
  refine stepL 5 (by kernel_rfl) rfl (fun K hK => ?_)
  go_simp
  refine (itoa_any r (by have := HR.out; omega) (by have := HR.out; omega) W1 HC.out.tab).mono ?_
  rintro e W2 ⟨rfl, hb⟩
  show K _ _
  have HC := Bx.mk (HC.out.later hb)
  clear hb
  refine hK.out _ _ ⟨HC.out.cell 0 _ rfl, HC.out.cell 1 _ rfl, HC.out.cell 2 _ rfl, HC.out.cell 3 _ rfl⟩ (fun hHeld => ?_)
  clear hK K
  try simp only [Act.put, List.setIfInBounds_toArray, List.set_cons_zero, List.set_cons_succ]
  refine stepL 8 (by kernel_rfl) rfl (fun K hK => ?_)
  go_simp
  refine (itoa_any x (by have := HR.out; omega) (by have := HR.out; omega) W2 HC.out.tab).mono ?_
  rintro e W3 ⟨rfl, hb⟩
  show K _ _
  have HC := Bx.mk (HC.out.later hb)
  clear hb
  refine hK.out _ _ ⟨HC.out.cell 0 _ rfl, HC.out.cell 1 _ rfl, HC.out.cell 2 _ rfl, HC.out.cell 3 _ rfl⟩ (fun hHeld => ?_)
  clear hK K
  try simp only [Act.put, List.setIfInBounds_toArray, List.set_cons_zero, List.set_cons_succ]
  refine stepL 11 (by kernel_rfl) rfl (fun K hK => ?_)
  go_simp
  refine (itoa_any s (by have := HR.out; omega) (by have := HR.out; omega) W3 HC.out.tab).mono ?_
  rintro e W4 ⟨rfl, hb⟩
  show K _ _
  have HC := Bx.mk (HC.out.later hb)
  clear hb
  refine hK.out _ _ ⟨HC.out.cell 0 _ rfl, HC.out.cell 1 _ rfl, HC.out.cell 2 _ rfl, HC.out.cell 3 _ rfl⟩ (fun hHeld => ?_)
  clear hK K
  try simp only [Act.put, List.setIfInBounds_toArray, List.set_cons_zero, List.set_cons_succ]
  refine stepL 12 (by kernel_rfl) rfl (fun K hK => ?_)
  go_simp
  have HG : Bx ((W4.alloc (.cells #[.string ⟨(Lib.itoa i).toArray⟩, .string ⟨(Lib.itoa r).toArray⟩, .string ⟨(Lib.itoa x).toArray⟩, .string ⟨(Lib.itoa s).toArray⟩] 9)).heap[W4.heap.size]? = some (.cells #[.string ⟨(Lib.itoa i).toArray⟩, .string ⟨(Lib.itoa r).toArray⟩, .string ⟨(Lib.itoa x).toArray⟩, .string ⟨(Lib.itoa s).toArray⟩] 9 (0, 0))) := Bx.mk (hnew _ _ _ rfl)
  have HC := Bx.mk (HC.out.later (below_a (.cells #[.string ⟨(Lib.itoa i).toArray⟩, .string ⟨(Lib.itoa r).toArray⟩, .string ⟨(Lib.itoa x).toArray⟩, .string ⟨(Lib.itoa s).toArray⟩] 9)))
  refine hK.out _ _ ⟨HC.out.cell 0 _ rfl, HC.out.cell 1 _ rfl, HC.out.cell 2 _ rfl, HC.out.cell 3 _ rfl⟩ (fun hHeld => ?_)
  clear hK K
  try simp only [Act.put, List.setIfInBounds_toArray, List.set_cons_zero, List.set_cons_succ]
  generalize W4.alloc (.cells #[.string ⟨(Lib.itoa i).toArray⟩, .string ⟨(Lib.itoa r).toArray⟩, .string ⟨(Lib.itoa x).toArray⟩, .string ⟨(Lib.itoa s).toArray⟩] 9) = W5 at *
  generalize W4.heap.size = G at *
  refine stepL 13 (by kernel_rfl) rfl (fun K hK => ?_)
  go_simp
  refine (join_any _ _ _ _ G W5 HG.out HI.out.1 HI.out.2.1 HI.out.2.2.1 HI.out.2.2.2).mono ?_
  rintro e W6 ⟨rfl, hb⟩
  show K _ _
  have HC := Bx.mk (HC.out.later hb)
  clear hb
  refine hK.out _ _ ⟨HC.out.cell 0 _ rfl, HC.out.cell 1 _ rfl, HC.out.cell 2 _ rfl, HC.out.cell 3 _ rfl⟩ (fun hHeld => ?_)
  clear hK K
  try simp only [Act.put, List.setIfInBounds_toArray, List.set_cons_zero, List.set_cons_succ]
  refine takeL 14 (v := ?_) rfl (by kernel_rfl) (by kernel_rfl) (by kernel_rfl) (fun _ _ _ h => h) (Or.inl ⟨by rfl, ?_⟩) hHeld ?_
  rotate_left 1
  · (intro w hSw; go_simp; try with_reducible rfl)
  try simp only [Act.put, List.setIfInBounds_toArray, List.set_cons_zero, List.set_cons_succ]
  refine wpAnyH_done (by kernel_rfl) ?_ _
  refine NoPanic.normal ?_
  clear hHeld
  go_wp2
  go_ret
  exact ⟨rfl, HC.out.below⟩
end Go.Proofs.YtiomjknhlfhlhaaDoor
