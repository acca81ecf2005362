/-
  Total, Worst, Join.
-/
import Derived.Test.YtfommmkkdgdmfaaT5
import Derived.Test.YtfommmkkdgdmfaaRows
import Derived.ProofKit
import Derived.OpenShut
import Derived.ShutString
import Derived.ChangeOld
import Derived.Below
import Derived.Deep.DeepHandedRow
import Derived.Lib.LaidTab
import Derived.Deep.Matrix
import Derived.Deep.Slices
namespace Go.Proofs.Ytfommmkkdgdmfaa
open Go Go.RowKit
/-- A number in its own block. -/
def BoxI (T : TypeId) (W : World) (X : Nat) (s : Int) : Prop := W.heap[X]? = some (.cells #[.int .i64 s] T (0, 0))
theorem BoxI.lt {T : TypeId} {W : World} {X : Nat} {s : Int} (h : BoxI T W X s) : X < W.heap.size := (Array.getElem?_eq_some_iff.1 h).1
theorem BoxI.later {T : TypeId} {W W1 : World} {X : Nat} {s : Int} (h : BoxI T W X s) (hb : Below W.heap.size W W1) : BoxI T W1 X s := (hb.block X h.lt).trans h
theorem BoxI.aside {T : TypeId} {W W1 : World} {X p : Nat} {s : Int} (h : BoxI T W X s) (hg : W.grownBy W1 (some p)) (hne : X ≠ p) : BoxI T W1 X s := (hg.block X h.lt (fun e => hne (by injection e))).trans h
theorem BoxI.cell {T : TypeId} {W : World} {X : Nat} {s : Int} (h : BoxI T W X s) : W.cell? ⟨X, 0, none⟩ = some (.int .i64 s) := by rw [cell_of_row _ _ _ _ _ _ h]; rfl
theorem BoxI.frozen {T : TypeId} {W : World} {X : Nat} {s : Int} (h : BoxI T W X s) : W.frozen? ⟨X, 0, none⟩ = false := frozen_of_row _ _ _ _ _ h
theorem BoxI.set {T : TypeId} {W : World} {X : Nat} {s : Int} (h : BoxI T W X s) (x : Int) : BoxI T (W.setCell ⟨X, 0, none⟩ (.int .i64 x)) X x := by
  have := heap_setCell_same W X 0 _ T (.int .i64 x) h
  exact this
theorem boxI_new (T : TypeId) (W : World) (s : Int) : BoxI T (W.alloc (.cells #[.int .i64 s] T)) W.heap.size s := hnew _ _ _ rfl
theorem grown_belowD {w w1 : World} {p : Nat} (h : w.grownBy w1 (some p)) {B : Nat} (hB : B ≤ p) (hs : B ≤ w.heap.size) : Below B w w1 := ⟨h.os, h.tape, h.output, h.size, fun i hi => h.block i (by omega) (fun e => by injection e with e; omega)⟩
/-- All counts below a number, together. -/
def totC (cs : List Int) : Nat → Int
  | 0 => 0
  | k + 1 => totC cs k + cs.getD k 0
theorem totC_bound {top : Int} {cs : List Int} (h : Cts top cs) (k : Nat) : 0 ≤ totC cs k ∧ totC cs k ≤ (k : Int) * 2147483647 := by
  induction k with
  | zero => exact ⟨Int.le_refl 0, by simp [totC]⟩
  | succ k ih =>
    have h1 := h.low k
    have h2 := h.high k
    have h3 := h.top2
    unfold totC
    omega
set_option maxRecDepth 100000 in
set_option maxHeartbeats 4000000 in
theorem total1_any (X : Nat) (s e n : Int) (w : World) (h : BoxI 3 w X s) (hs : 0 ≤ s) (hs2 : s ≤ 100000000000) (hn : 0 ≤ n) (hn2 : n ≤ 2147483647) : Calls Try.prog 22 #[.int .i64 e, .int .i64 n, .pointer (some ⟨X, 0, none⟩)] w fun x w' => x = .returned (.tuple #[]) ∧ BoxI 3 w' X (s + n) ∧ w.grownBy w' (some X) := by
  have c0 := h.cell
  have f0 := h.frozen
  have HB := Bx.mk h
  have e1 : IntKind.i64.wrap (s + n) = s + n := by simp [IntKind.wrap_i64]; omega
  clear h hs hs2 hn hn2
  go_enter Try.func22, Try.ntmps22
  go_wp2
  go_end0
  exact ⟨rfl, HB.out.set _, kb_setCell _ _ _⟩
set_option maxRecDepth 100000 in
set_option maxHeartbeats 4000000 in
theorem total_any13 (q : Nat) (top : Int) (cs : List Int) (w : World) (h : DB w q top cs) (hc : Cts top cs) : Calls Try.prog 15 #[.pointer (some ⟨q, 0, none⟩)] w fun x w' => x = .returned (.int .i64 (totC cs 16)) ∧ Below w.heap.size w w' := by
  have hmf : ∀ (fn : Fn) (first cap : Array Value) (w : World), (Instr.makeFunc fn first cap).run Try.prog w = .ok (.func fn first cap) w := fun _ _ _ _ => rfl
  have HX : Bx (BoxI 3 (w.alloc (.cells #[.int .i64 0] 3)) w.heap.size 0 ∧ Below w.heap.size w (w.alloc (.cells #[.int .i64 0] 3))) := Bx.mk ⟨boxI_new 3 w 0, below_a _⟩
  have HW := Bx.mk h
  have HC := Bx.mk hc
  have hq := h.lt
  clear h hc
  go_enter Try.func15, Try.ntmps15
  go_upto_region 2 with fail
  generalize w.alloc (.cells #[.int .i64 0] 3) = w1 at *
  go_wp2_with fail
  refine (each_cap q 22 #[.pointer (some ⟨w.heap.size, 0, none⟩)] (fun k W => BoxI 3 W w.heap.size (totC cs k) ∧ Below w.heap.size w W) w1 (fun args w => by kernel_rfl) ?_ ?_).mono ?_
  · exact ⟨by rw [show totC cs 1 = 0 by unfold totC totC; have := HC.out.zero; omega]; exact HX.out.1, HX.out.2⟩
  · intro k W hk1 hk2 hI
    have hb := totC_bound HC.out k
    refine ⟨cs.getD k 0, ((HW.out.later hI.2).cell k (by rw [HC.out.len]; omega)), ?_⟩
    refine (total1_any w.heap.size (totC cs k) (k : Int) (cs.getD k 0) W hI.1 hb.1 (by omega) (HC.out.low k) (by have := HC.out.high k; have := HC.out.top2; omega)).mono ?_
    rintro e W2 ⟨rfl, h1, h2⟩
    exact ⟨rfl, h1, hI.2.trans (grown_belowD h2 (Nat.le_refl _) hI.2.size)⟩
  · rintro e w2 ⟨rfl, h1, h2⟩
    have c0 := h1.cell
    have HB := Bx.mk h2
    clear h1 h2 HX
    go_wp2
    go_ret
    exact ⟨rfl, HB.out⟩
/-- The reason that was most often, of those below a number. -/
def worC (cs : List Int) : Nat → Int × Int
  | 0 => (0, 0)
  | k + 1 => if (worC cs k).2 < cs.getD k 0 then ((k : Int), cs.getD k 0) else worC cs k
set_option maxRecDepth 100000 in
set_option maxHeartbeats 4000000 in
theorem worst1_any (X Y : Nat) (p : Int × Int) (e n : Int) (w : World) (h : BoxI 3 w X p.2) (hy : BoxI 24 w Y p.1) (hne : X ≠ Y) : Calls Try.prog 23 #[.int .i64 e, .int .i64 n, .pointer (some ⟨X, 0, none⟩), .pointer (some ⟨Y, 0, none⟩)] w fun x w' => x = .returned (.tuple #[]) ∧ BoxI 3 w' X (if p.2 < n then (e, n) else p).2 ∧ BoxI 24 w' Y (if p.2 < n then (e, n) else p).1 ∧ ∀ B, B ≤ X → B ≤ Y → B ≤ w.heap.size → Below B w w' := by
  have c0 := h.cell
  have f0 := h.frozen
  have f1 := hy.frozen
  have HB := Bx.mk h
  have HY := Bx.mk hy
  have hne' : Y ≠ X := fun e => hne e.symm
  obtain ⟨a, m⟩ := p
  simp only at c0 HB HY ⊢
  clear h hy
  by_cases h1 : m < n
  · rw [if_pos h1]
    have c2 := (HB.out.aside (kb_setCell (b := Y) w 0 (.int .i64 e)) hne).cell
    have f2 := (HB.out.aside (kb_setCell (b := Y) w 0 (.int .i64 e)) hne).frozen
    have c1 := HY.out.cell
    go_enter Try.func23, Try.ntmps23
    go_wp2
    go_end0
    have g1 := kb_setCell (b := Y) w 0 (.int .i64 e)
    have g2 := kb_setCell (b := X) (w.setCell ⟨Y, 0, none⟩ (.int .i64 e)) 0 (.int .i64 n)
    exact ⟨rfl, (HB.out.aside g1 hne).set n, (HY.out.set e).aside g2 hne', fun B hX hY hs => (grown_belowD g1 hY hs).trans (grown_belowD g2 hX (by simpa using hs))⟩
  · rw [if_neg h1]
    go_enter Try.func23, Try.ntmps23
    go_wp2
    go_end0
    exact ⟨rfl, HB.out, HY.out, fun B _ _ _ => Below.refl _ _⟩
set_option maxRecDepth 100000 in
set_option maxHeartbeats 4000000 in
theorem worst_any13 (q : Nat) (top : Int) (cs : List Int) (w : World) (h : DB w q top cs) (hc : Cts top cs) : Calls Try.prog 20 #[.pointer (some ⟨q, 0, none⟩)] w fun x w' => x = .returned (.tuple #[.int .i64 (worC cs 16).1, .int .i64 (worC cs 16).2]) ∧ Below w.heap.size w w' := by
  have hmf : ∀ (fn : Fn) (first cap : Array Value) (w : World), (Instr.makeFunc fn first cap).run Try.prog w = .ok (.func fn first cap) w := fun _ _ _ _ => rfl
  have HX : Bx (BoxI 3 ((w.alloc (.cells #[.int .i64 0] 24)).alloc (.cells #[.int .i64 0] 3)) (w.heap.size + 1) 0 ∧ BoxI 24 ((w.alloc (.cells #[.int .i64 0] 24)).alloc (.cells #[.int .i64 0] 3)) w.heap.size 0 ∧ Below w.heap.size w ((w.alloc (.cells #[.int .i64 0] 24)).alloc (.cells #[.int .i64 0] 3))) := Bx.mk (by
    have a1 := boxI_new 24 w 0
    have a2 := a1.later (below_a (.cells #[.int .i64 0] 3))
    have a3 := boxI_new 3 (w.alloc (.cells #[.int .i64 0] 24)) 0
    rw [show (w.alloc (.cells #[.int .i64 0] 24)).heap.size = w.heap.size + 1 by simp] at a3
    exact ⟨a3, a2, (below_a _).trans ((below_a _).mono (by simp))⟩)
  have HW := Bx.mk h
  have HC := Bx.mk hc
  have hq := h.lt
  clear h hc
  go_enter Try.func20, Try.ntmps20
  go_upto_region 2 with fail
  generalize ((w.alloc (.cells #[.int .i64 0] 24)).alloc (.cells #[.int .i64 0] 3)) = w1 at *
  go_wp2_with fail
  refine (each_cap q 23 #[.pointer (some ⟨w.heap.size + 1, 0, none⟩), .pointer (some ⟨w.heap.size, 0, none⟩)] (fun k W => BoxI 3 W (w.heap.size + 1) (worC cs k).2 ∧ BoxI 24 W w.heap.size (worC cs k).1 ∧ Below w.heap.size w W) w1 (fun args w => by kernel_rfl) ?_ ?_).mono ?_
  · have h0 : worC cs 1 = (0, 0) := by
      unfold worC worC
      rw [HC.out.zero]
      rfl
    exact ⟨by rw [h0]; exact HX.out.1, by rw [h0]; exact HX.out.2.1, HX.out.2.2⟩
  · intro k W hk1 hk2 hI
    refine ⟨cs.getD k 0, ((HW.out.later hI.2.2).cell k (by rw [HC.out.len]; omega)), ?_⟩
    refine (worst1_any (w.heap.size + 1) w.heap.size (worC cs k) (k : Int) (cs.getD k 0) W hI.1 hI.2.1 (by omega)).mono ?_
    rintro e W2 ⟨rfl, h1, h2, h3⟩
    exact ⟨rfl, h1, h2, hI.2.2.trans (h3 _ (by omega) (Nat.le_refl _) hI.2.2.size)⟩
  · rintro e w2 ⟨rfl, h1, h2, h3⟩
    have c0 := h1.cell
    have c1 := h2.cell
    have HB := Bx.mk h3
    clear h1 h2 h3 HX
    obtain ⟨a, ha⟩ : ∃ a, (worC cs 16).1 = a := ⟨_, rfl⟩
    obtain ⟨m, hm⟩ : ∃ m, (worC cs 16).2 = m := ⟨_, rfl⟩
    rw [ha] at c1
    rw [hm] at c0
    have HA := Bx.mk (And.intro ha hm)
    clear ha hm
    go_wp2
    go_quiet (fail)
    go_wp2
    go_ret2
    exact ⟨by rw [HA.out.1, HA.out.2]; rfl, below_drewN HB.out _⟩
end Go.Proofs.Ytfommmkkdgdmfaa
namespace Go.Proofs.Ytfommmkkdgdmfaa
open Go Go.RowKit
/-- The counts of two, together, up to a number. -/
def jnC (top : Int) (os cs : List Int) : Nat → List Int
  | 0 => cs
  | k + 1 => addC top (jnC top os cs k) (k + 1) (os.getD (k + 1) 0)
theorem jnC_cts {top : Int} {os cs : List Int} (h : Cts top cs) (ho : Cts top os) (k : Nat) : Cts top (jnC top os cs k) := by
  induction k with
  | zero => exact h
  | succ k ih => exact ih.add (k + 1) (by omega) _ (ho.low _)
theorem jnC_get {top : Int} {os cs : List Int} (h : Cts top cs) (ho : Cts top os) : ∀ (k j : Nat), k ≤ 15 → (jnC top os cs k).getD j 0 = if 1 ≤ j ∧ j ≤ k then min top (cs.getD j 0 + os.getD j 0) else cs.getD j 0
  | 0, j, _ => by rw [if_neg (by omega)]; rfl
  | k + 1, j, hk => by
    unfold jnC addC
    rw [getD_set, (jnC_cts h ho k).len]
    by_cases e : k + 1 = j
    · rw [if_pos ⟨e, by omega⟩, jnC_get h ho k (k + 1) (by omega), if_neg (by omega), if_pos (by omega)]
      subst e
      rfl
    · rw [if_neg (fun h => e h.1), jnC_get h ho k j (by omega)]
      by_cases h2 : 1 ≤ j ∧ j ≤ k
      · rw [if_pos h2, if_pos (by omega)]
      · rw [if_neg h2, if_neg (by omega)]
set_option maxRecDepth 100000 in
set_option maxHeartbeats 4000000 in
theorem join_arg13 (q : Nat) (top : Int) (cs : List Int) (w : World) (h : DB w q top cs) (ht : 1 ≤ top) : Calls Try.prog 12 #[.pointer (some ⟨q, 0, none⟩), .pointer none] w fun x w' => x = .returned (.int .i64 1) ∧ w' = w := by
  have HM := Bx.mk (made_any q top cs w h ht)
  clear h ht
  go_enter Try.func12, Try.ntmps12
  go_wp2_with (refine HM.out.mono ?_; rintro x w2 ⟨rfl, rfl⟩)
  go_ret
  exact ⟨rfl, rfl⟩
set_option maxRecDepth 100000 in
set_option maxHeartbeats 4000000 in
theorem join_top13 (q r : Nat) (top tr : Int) (cs os : List Int) (w : World) (h : DB w q top cs) (ho : DB w r tr os) (ht : 1 ≤ top) (hne : top ≠ tr) : Calls Try.prog 12 #[.pointer (some ⟨q, 0, none⟩), .pointer (some ⟨r, 0, none⟩)] w fun x w' => x = .returned (.int .i64 11) ∧ Below w.heap.size w w' := by
  have HM := Bx.mk (made_any q top cs w h ht)
  have c0 := h.top
  have c1 := ho.top
  have d1 : (tr != top) = true := by simp only [bne_iff_ne, ne_eq]; exact fun e => hne e.symm
  clear h ho ht hne
  go_enter Try.func12, Try.ntmps12
  go_wp2_with (refine HM.out.mono ?_; rintro x w2 ⟨rfl, rfl⟩)
  go_quiet (fail)
  go_wp2
  go_ret
  exact ⟨rfl, below_drewN (Below.refl _ _) _⟩
set_option maxRecDepth 100000 in
set_option maxHeartbeats 4000000 in
theorem join_any13 (q r : Nat) (top : Int) (cs os : List Int) (w : World) (h : DB w q top cs) (ho : DB w r top os) (hne : q ≠ r) (hc : Cts top cs) (hco : Cts top os) : Calls Try.prog 12 #[.pointer (some ⟨q, 0, none⟩), .pointer (some ⟨r, 0, none⟩)] w fun x w' => x = .returned (.int .i64 0) ∧ DB w' q top (jnC top os cs 15) ∧ w.grownBy w' (some q) := by
  have hmf : ∀ (fn : Fn) (first cap : Array Value) (w : World), (Instr.makeFunc fn first cap).run Try.prog w = .ok (.func fn first cap) w := fun _ _ _ _ => rfl
  have HM := Bx.mk (made_any q top cs w h hc.top1)
  have c0 := h.top
  have c1 := ho.top
  have d1 : (top != top) = false := by simp
  have HW := Bx.mk h
  have HO := Bx.mk ho
  have HC := Bx.mk (And.intro hc hco)
  have hne' : r ≠ q := fun e => hne e.symm
  clear h ho hc hco
  go_enter Try.func12, Try.ntmps12
  go_wp2_with (refine HM.out.mono ?_; rintro x w2 ⟨rfl, hw⟩; obtain rfl : w = w2 := hw.symm; clear hw)
  go_quiet (fail)
  have HW1 := Bx.mk (HW.out.later (below_drewN (Below.refl _ _) nq))
  have HO1 := Bx.mk (HO.out.later (below_drewN (Below.refl _ _) nq))
  have HG1 := Bx.mk (kb_drewN (some q) w nq)
  generalize w.drewN nq = w1 at *
  clear c0 c1
  go_wp2_with fail
  refine (each_bound r 18 (.pointer (some ⟨q, 0, none⟩)) (fun k W => DB W q top (jnC top os cs (k - 1)) ∧ w1.grownBy W (some q)) w1 (fun args w => by kernel_rfl) ?_ ?_).mono ?_
  · exact ⟨HW1.out, kb_refl _ _⟩
  · intro k W hk1 hk2 hI
    have hr := HO1.out.aside hI.2 hne'
    refine ⟨os.getD k 0, hr.cell k (by rw [HC.out.2.len]; omega), ?_⟩
    refine (add_any q top (jnC top os cs (k - 1)) k (os.getD k 0) W hI.1 (jnC_cts HC.out.1 HC.out.2 _) hk1 hk2 (HC.out.2.low k) (by have := HC.out.2.high k; have := HC.out.1.top2; omega)).mono ?_
    rintro e W2 ⟨rfl, h1, h2⟩
    refine ⟨rfl, ?_, kb_trans hI.2 h2⟩
    obtain ⟨k, rfl⟩ : ∃ j, k = j + 1 := ⟨k - 1, by omega⟩
    exact h1
  · rintro e w2 ⟨rfl, h1, h2⟩
    have HF := Bx.mk (And.intro h1 (kb_trans HG1.out h2))
    clear h1 h2
    go_wp2
    go_ret
    exact ⟨rfl, HF.out.1, HF.out.2⟩
/-- One number is counted, if it is a reason. -/
def stepC (top : Int) (cs : List Int) (e : Int) : List Int := if isRe e = true then addC top cs e.toNat 1 else cs
/-- All of a list. -/
def cntC (top : Int) (cs : List Int) (l : List Int) : List Int := l.foldl (stepC top) cs
theorem cntC_take (top : Int) (cs l : List Int) (k : Nat) (hk : k < l.length) : cntC top cs (l.take (k + 1)) = stepC top (cntC top cs (l.take k)) (l.getD k 0) := by
  unfold cntC
  rw [List.take_add_one, List.foldl_append, List.getElem?_eq_getElem hk, List.getD_eq_getElem?_getD, List.getElem?_eq_getElem hk]
  rfl
theorem stepC_cts {top : Int} {cs : List Int} (h : Cts top cs) (e : Int) : Cts top (stepC top cs e) := by
  unfold stepC
  split
  · rename_i he
    have := (isRe_iff e).1 he
    exact h.add _ (by omega) 1 (by omega)
  · exact h
theorem cntC_cts {top : Int} {cs : List Int} (h : Cts top cs) (l : List Int) : Cts top (cntC top cs l) := by
  unfold cntC
  induction l generalizing cs with
  | nil => exact h
  | cons e l ih => exact ih (stepC_cts h e)
/-- How many of a list are reasons. -/
def reaN (l : List Int) : Nat := (l.filter isRe).length
theorem reaN_take (l : List Int) (k : Nat) (hk : k < l.length) : reaN (l.take (k + 1)) = reaN (l.take k) + if isRe (l.getD k 0) = true then 1 else 0 := by
  unfold reaN
  rw [List.take_add_one, List.filter_append, List.getElem?_eq_getElem hk, List.getD_eq_getElem?_getD, List.getElem?_eq_getElem hk, List.length_append]
  congr 1
  show (List.filter isRe [l[k]]).length = if isRe l[k] = true then 1 else 0
  by_cases h : isRe l[k] = true
  · rw [if_pos h]; simp [h]
  · rw [if_neg h]; simp [h]
theorem reaN_le (l : List Int) : reaN l ≤ l.length := List.length_filter_le _ _
set_option maxRecDepth 100000 in
set_option maxHeartbeats 4000000 in
theorem count_any13 (q : Nat) (top : Int) (cs l : List Int) (v : Value) (w : World) (h : DB w q top cs) (hc : Cts top cs) (hv : Ints w v l) (hl : l.length ≤ 100000) (hap : ∀ W, w.grownBy W (some q) → Ints W v l) : Calls Try.prog 9 #[.pointer (some ⟨q, 0, none⟩), v] w fun x w' => x = .returned (.int .i64 (reaN l : Int)) ∧ DB w' q top (cntC top cs l) ∧ w.grownBy w' (some q) := by
  have HM := Bx.mk (made_any q top cs w h hc.top1)
  have HA : Bx (∀ W, w.grownBy W (some q) → Ints W v l) := Bx.mk hap
  have H0 : Bx (DB w q top (cntC top cs (l.take 0)) ∧ w.grownBy w (some q)) := Bx.mk ⟨h, kb_refl _ _⟩
  have HC := Bx.mk hc
  obtain ⟨a, cap, rfl, -⟩ := hv
  obtain ⟨n, hn⟩ : ∃ n, l.length = n := ⟨_, rfl⟩
  have HN := Bx.mk hn
  rw [hn] at hl HA ⊢
  have hl1 : (n : Int) ≤ 100000 := by omega
  clear h hc hap hn
  go_enter Try.func9, Try.ntmps9
  go_wp2_with (refine HM.out.mono ?_; rintro x w2 ⟨rfl, hw⟩; obtain rfl : w = w2 := hw.symm; clear hw)
  clear HM
  go_loopw [5, 13] (fun c i wr => ∃ k : Nat, k ≤ n ∧ i = .int .i64 (k : Int) ∧ c = .int .i64 (reaN (l.take k) : Int) ∧ Bx (DB wr q top (cntC top cs (l.take k)) ∧ w.grownBy wr (some q))) (fun _ i _ => n - (intOf i).toNat)
  case atStart => exact ⟨0, by omega, rfl, rfl, H0⟩
  case round =>
    clear H0
    obtain ⟨k, hk, rfl, rfl, HB⟩ := hrel
    by_cases hlt : k < n
    · have t1 : (k : Int) < (n : Int) := by omega
      have t3 : (0 : Int) ≤ (k : Int) := by omega
      obtain ⟨a', cap', hv', -, -, hr⟩ := HA.out wr HB.out.2
      injection hv' with e1 e2 e3
      subst e1
      clear e2 e3
      obtain ⟨g, o, rfl, hf⟩ := hr (by rw [HN.out]; omega)
      have ck := hf k (by rw [HN.out]; exact hlt)
      have HS := Bx.mk (cntC_take top cs l k (by rw [HN.out]; exact hlt))
      have HR := Bx.mk (reaN_take l k (by rw [HN.out]; exact hlt))
      have HL : Bx (reaN (l.take k) ≤ k) := Bx.mk (Nat.le_trans (reaN_le _) (by rw [List.length_take]; omega))
      generalize l.getD k 0 = e at *
      clear hr hf
      have HRe := Bx.mk (reason_any e)
      by_cases he : isRe e = true
      · obtain ⟨h1, h2⟩ := (isRe_iff e).1 he
        obtain ⟨j, rfl⟩ : ∃ j : Nat, e = (j : Int) := ⟨e.toNat, by omega⟩
        unfold stepC at HS
        rw [if_pos he, Int.toNat_natCast] at HS
        rw [if_pos he] at HR
        rw [he] at HRe
        have HAd := Bx.mk (add_any q top _ j 1 wr HB.out.1 (cntC_cts HC.out _) (by omega) (by omega) (by omega) (by omega))
        rw [← HS.out] at HAd
        have HG := Bx.mk HB.out.2
        clear he h1 h2 HB HS
        go_wp2_with (first | (refine (HRe.out _).mono ?_; rintro x w2 ⟨rfl, rfl⟩) | (refine HAd.out.mono ?_; rintro x w3 ⟨rfl, h1, h2⟩; have HB := Bx.mk (And.intro h1 (kb_trans HG.out h2)); clear h1 h2))
        go_roundw
        case rel => exact ⟨k + 1, by omega, by go_num, by have h := HL.out; rw [HR.out]; generalize reaN (l.take k) = m at *; have h2 : (m : Int) ≤ 100000 := (by omega); congr 1; unfold wrap64; omega, HB⟩
        case measure => simp [intOf]; omega
      · unfold stepC at HS
        rw [if_neg he] at HS HR
        rw [Bool.not_eq_true] at he
        rw [he] at HRe
        rw [← HS.out] at HB
        clear he HS
        go_wp2_with (refine (HRe.out _).mono ?_; rintro x w2 ⟨rfl, rfl⟩)
        go_roundw
        case rel => exact ⟨k + 1, by omega, by go_num, by rw [HR.out, Nat.add_zero], HB⟩
        case measure => simp [intOf]; omega
    · obtain rfl : k = n := by omega
      have HB2 := HB.out
      rw [List.take_of_length_le (by rw [HN.out]; exact Nat.le_refl _)] at HB2
      have HB3 := Bx.mk HB2
      have HE : Bx (reaN (l.take k) = reaN l) := Bx.mk (by rw [List.take_of_length_le (by rw [HN.out]; exact Nat.le_refl _)])
      clear HB HB2
      go_wp2
      go_ret
      exact ⟨by rw [HE.out]; rfl, HB3.out.1, HB3.out.2⟩
end Go.Proofs.Ytfommmkkdgdmfaa
namespace Go.Proofs.Ytfommmkkdgdmfaa
open Go Go.RowKit
theorem Ints.aside13 {w W : World} {q : Nat} {v : Value} {ns : List Int} (h : Ints w v ns) (hne : ∀ c o n cap, v = .slice (some ⟨c, o, none⟩) n cap → c ≠ q) (hg : w.grownBy W (some q)) : Ints W v ns := by
  obtain ⟨a, cap, hv, hc, hn, hr⟩ := h
  refine ⟨a, cap, hv, hc, hn, fun hp => ?_⟩
  obtain ⟨c, o, ha, hf⟩ := hr hp
  have hcq : c ≠ q := hne c o _ cap (by rw [hv, ha])
  exact ⟨c, o, ha, fun i hi => hg.cell (hf i hi) (by simpa using hcq)⟩
theorem ints_row13 {W : World} {g : Nat} {ns : List Int} {T : TypeId} (h : W.heap[g]? = some (.cells (i64s ns).toArray T (0, 0))) (n : Nat) (hn : ns.length = n) : Ints W (.slice (some ⟨g, 0, none⟩) n n) ns := by
  subst hn
  refine ⟨_, ns.length, rfl, Nat.le_refl _, (fun h => by cases h), fun _ => ⟨g, 0, rfl, fun i hi => ?_⟩⟩
  rw [cell_of_row _ _ _ _ _ _ h, Nat.zero_add, List.getElem?_toArray]
  exact i64s_get ns i hi
set_option maxRecDepth 100000 in
set_option maxHeartbeats 4000000 in
theorem known13_any (w : World) : Calls Try.prog 6 #[] w fun e w' => e = .returned (.bool true) ∧ Below w.heap.size w w' := by
  have C0 : Bx (Cts 2 z16) := Bx.mk (Cts.start (by omega) (by omega))
  have C1 : Bx (Cts 2 (cntC 2 z16 [3, 3, 3, 5])) := Bx.mk (cntC_cts C0.out _)
  have g3 : (if isRe 3 = true then (cntC 2 z16 [3, 3, 3, 5]).getD (3 : Int).toNat 0 else 0) = 2 := by decide
  have g5 : (if isRe 5 = true then (cntC 2 z16 [3, 3, 3, 5]).getD (5 : Int).toNat 0 else 0) = 1 := by decide
  have gt : totC (cntC 2 z16 [3, 3, 3, 5]) 16 = 3 := by decide
  have G3 := Bx.mk g3
  have G5 := Bx.mk g5
  have GT := Bx.mk gt
  clear g3 g5 gt
  go_enter Try.func6, Try.ntmps6
  go_wp2_with fail
  refine (dnew_ok 2 w (by omega) (by omega)).mono ?_
  rintro e w1 ⟨rfl, hd, hb⟩
  have H1 : Bx (DB (w1.alloc (.cells (i64s [3, 3, 3, 5]).toArray 24)) w.heap.size 2 z16 ∧ Ints (w1.alloc (.cells (i64s [3, 3, 3, 5]).toArray 24)) (.slice (some ⟨w1.heap.size, 0, none⟩) 4 4) [3, 3, 3, 5] ∧ Below w.heap.size w (w1.alloc (.cells (i64s [3, 3, 3, 5]).toArray 24)) ∧ w.heap.size < w1.heap.size) := Bx.mk ⟨hd.later (below_a _), ints_row13 (hnew _ _ _ rfl) 4 rfl, hb.trans ((below_a _).mono hb.size), hd.lt⟩
  clear hd hb
  generalize hw : w1.alloc (.cells (i64s [3, 3, 3, 5]).toArray 24) = w2 at H1
  have hw' : w1.alloc (.cells #[.int .i64 3, .int .i64 3, .int .i64 3, .int .i64 5] 24) = w2 := hw
  have HW := Bx.mk hw'
  clear hw hw'
  skip -- M1
  go_wp2_with fail
  skip -- M2
  rw [HW.out]
  refine (count_any13 w.heap.size 2 z16 [3, 3, 3, 5] _ w2 H1.out.1 C0.out H1.out.2.1 (by decide) (fun W hg => H1.out.2.1.aside13 (fun c o n cap h => by injection h with h; injection h with h; injection h with h; have := H1.out.2.2.2; omega) hg)).mono ?_
  rintro e w3 ⟨rfl, h1, h2⟩
  have H3 := Bx.mk (And.intro h1 (H1.out.2.2.1.trans (grown_belowD h2 (Nat.le_refl _) H1.out.2.2.1.size)))
  clear h1 h2
  skip -- M3
  go_wp2_with fail
  skip -- M4
  refine (of_any13 w.heap.size 2 _ 3 _ H3.out.1 C1.out.len).mono ?_
  rw [G3.out]
  rintro e w4 ⟨rfl, hw⟩
  obtain rfl : w3 = w4 := hw.symm
  clear hw
  go_wp2_with fail
  skip -- M5
  refine (of_any13 w.heap.size 2 _ 5 _ H3.out.1 C1.out.len).mono ?_
  rw [G5.out]
  rintro e w4 ⟨rfl, hw⟩
  obtain rfl : w3 = w4 := hw.symm
  clear hw
  go_wp2_with fail
  refine (total_any13 w.heap.size 2 _ _ H3.out.1 C1.out).mono ?_
  rw [GT.out]
  rintro e w4 ⟨rfl, hb⟩
  have H4 := Bx.mk (H3.out.2.trans (hb.mono H3.out.2.size))
  clear hb
  go_wp2
  go_ret
  exact ⟨rfl, H4.out⟩
end Go.Proofs.Ytfommmkkdgdmfaa
namespace Go.Proofs.Ytfommmkkdgdmfaa
open Go Go.RowKit
def OwnE (w : World) (base : Nat) (v : Value) (ns : List Int) : Prop := w.ownsRow base 24 1 v ns.length (i64s ns)
theorem OwnE.nil (w : World) (base : Nat) : OwnE w base (.slice none 0 0) [] := ⟨rfl, .inl ⟨rfl, rfl⟩⟩
theorem OwnE.later {w w1 : World} {base B : Nat} {v : Value} {ns : List Int} (h : OwnE w base v ns) (hb : Below B w w1) (hB : ∀ g, v.ownBlock = some g → g < B) : OwnE w1 base v ns := by
  obtain ⟨hl, hr⟩ := h
  refine ⟨hl, ?_⟩
  rcases hr with h | ⟨g, cap, cur, hv, hc, h1, h2, h3, h4⟩
  · exact .inl h
  · refine .inr ⟨g, cap, cur, hv, hc, ?_, h2, h3, h4⟩
    rw [hb.block g (hB g (by rw [hv]; rfl))]
    exact h1
theorem OwnE.lt {w : World} {base : Nat} {v : Value} {ns : List Int} (h : OwnE w base v ns) : ∀ g, v.ownBlock = some g → g < w.heap.size ∧ base ≤ g := by
  intro g hg
  rcases h.2 with ⟨rfl, _⟩ | ⟨g', cap, cur, rfl, hb, hh, _⟩
  · cases hg
  · injection hg with hg
    subst hg
    exact ⟨(Array.getElem?_eq_some_iff.1 hh).1, hb⟩
theorem OwnE.ints {w : World} {base : Nat} {v : Value} {ns : List Int} (h : OwnE w base v ns) : Ints w v ns := by
  rcases h.2 with ⟨rfl, h0⟩ | ⟨g, cap, cur, rfl, hb, hg, hn, hm, hs, hc⟩
  · refine ⟨none, 0, by rw [h0], by omega, fun _ => rfl, fun hp => by omega⟩
  · refine ⟨_, cap, rfl, hn, (fun hx => by cases hx), fun _ => ⟨g, 0, rfl, fun j hj => ?_⟩⟩
    rw [cell_of_row _ _ _ _ _ _ hg, Nat.zero_add, ← Array.getElem?_toList]
    have h1 : (cur.toList.take (ns.length * 1))[j]? = (i64s ns)[j]? := by rw [hc]
    rw [List.getElem?_take, if_pos (by omega), i64s_get ns j hj] at h1
    exact h1
theorem OwnE.form {w : World} {base : Nat} {v : Value} {ns : List Int} (h : OwnE w base v ns) : ∃ a cap, v = .slice a ns.length cap := by
  obtain ⟨a, cap, hv, -⟩ := h.ints
  exact ⟨a, cap, hv⟩
theorem ownE_below {w w1 : World} {base : Nat} {v : Value} {ns : List Int} (h : OwnE w base v ns) (hg : w.grownBy w1 v.ownBlock) (hb : base ≤ w.heap.size) : Below base w w1 :=
  ⟨hg.os, hg.tape, hg.output, hg.size, fun i hi => hg.block i (by omega) (fun e => by have := (h.lt i e.symm).2; omega)⟩
theorem ownE_a {W : World} {base : Nat} {v : Value} {ns : List Int} (h : OwnE W base v ns) (o : Obj) : OwnE (W.alloc o) base v ns := h.later (below_a _) (fun g hg => (h.lt g hg).1)
theorem OwnE.weak {w : World} {base base' : Nat} {v : Value} {l : List Int} (h : OwnE w base v l) (hb : base' ≤ base) : OwnE w base' v l := by
  refine ⟨h.1, ?_⟩
  rcases h.2 with h0 | ⟨g, cap, cur, hv, hb', hr⟩
  · exact .inl h0
  · exact .inr ⟨g, cap, cur, hv, by omega, hr⟩
set_option maxRecDepth 100000 in
theorem run_apE (w : World) (base : Nat) (v : Value) (l : List Int) (hown : OwnE w base v l) (x : Value) (ps : List Int) (hx : Ints w x ps) (hn : l.length + ps.length ≤ 10000) (hbase : base ≤ w.heap.size) (ty : TypeId) :
    ∃ v' w', (Builtin.append_ #[32, 32] ty #[v, x]).run Try.prog w = .ok v' w' ∧ OwnE w' base v' (l ++ ps) ∧ w.grownBy w' v.ownBlock := by
  have hi : Try.prog.info? 24 = some ((Try.prog.info? 24).getD default) := by kernel_rfl
  obtain ⟨a, cap, rfl, hc, hnone, hr⟩ := hx
  rcases a with _ | ad
  · have h0 : ps = [] := by have := hnone rfl; exact List.eq_nil_of_length_eq_zero (by omega)
    have hz := hnone rfl
    subst h0
    subst hz
    refine ⟨v, w, ?_, by rw [List.append_nil]; exact hown, World.grownBy.refl w _⟩
    exact run_append_owned_none (P := Try.prog) (w := w) base 32 ty 24 _ 1 Try.underlying32 hi v l.length _ hown
  · have hnews : ∀ j u, (i64s ps)[j]? = some u → w.cell? (ad.add j) = some u := by
      intro j u hu
      have hj : j < ps.length := by have := (List.getElem?_eq_some_iff.1 hu).1; simpa [i64s] using this
      obtain ⟨c, o, ha, hcell⟩ := hr (by omega)
      injection ha with ha
      subst ha
      rw [i64s_get ps j hj] at hu
      rw [show (⟨c, o, none⟩ : Addr).add j = ⟨c, o + j, none⟩ by unfold Addr.add; split <;> simp_all, hcell j hj]
      exact hu
    obtain ⟨v', w', hrun, h2, h3, _, h5⟩ := run_append_own_at (P := Try.prog) w base 32 ty 24 _ (.int .i64 0) 1 8 Try.underlying32 hi (by kernel_rfl) (by kernel_rfl) (by kernel_rfl) rfl (by omega) v l.length _ hown ad ps.length cap (i64s ps) (by simp [i64s]) hnews
      (fun u hu => by unfold i64s at hu; simp at hu; obtain ⟨n, -, rfl⟩ := hu; rfl) (by simp only [maxLen]; omega) (by omega) hbase
    refine ⟨v', w', hrun, ?_, h3⟩
    unfold OwnE
    rw [List.length_append]
    have e : i64s (l ++ ps) = i64s l ++ i64s ps := by simp [i64s]
    rw [e]
    exact h2
/-- At the list of a plain region's operations. -/
theorem wpList_apE {w : World} {ops : Array Oper} {rest : List Oper} {o : Oper} {a : Act} {Q : Exit → Act → World → Prop} (hgd : o.guard = none) (s x : Operand)
    (ho : o.op = .call { callee := .builtin .append, args := #[s, x], argTypes := #[32, 32] }) (base : Nat) (v : Value) (l : List Int) (hs : a.eval s = v) (hown : OwnE w base v l) (xv : Value) (ps : List Int) (hx : a.eval x = xv) (hb : Ints w xv ps)
    (hn : l.length + ps.length ≤ 10000) (hbase : base ≤ w.heap.size)
    (h : ∀ v' w', OwnE w' base v' (l ++ ps) → w.grownBy w' v.ownBlock → wpList Try.prog ops Q rest (a.put o.dst v') w') : wpList Try.prog ops Q (o :: rest) a w := by
  refine wpList_plain hgd fun K hK => ?_
  obtain ⟨v', w', hrun, h1, h2⟩ := run_apE w base v l hown xv ps hb hn hbase o.type
  unfold Oper.wp
  simp [execOp, ho, resolve, invoke, builtin, hs, hx, hrun, Result.andThen]
  exact hK _ _ (h v' w' h1 h2)
theorem own_kind13 {T : TypeId} {w : World} {base n : Nat} {v : Value} {cs : List Value} (h : w.ownsRow base T 1 v n cs) : ∀ g, v.ownBlock = some g → ∃ ds fr, w.heap[g]? = some (.cells ds T fr) := fun g hg => by
  rcases h.2 with ⟨hv, _⟩ | ⟨g', cap, cur, hv, _, hh, _⟩
  · rw [hv] at hg; cases hg
  · rw [hv] at hg
    injection hg with hg
    subst hg
    exact ⟨_, _, hh⟩
theorem own_kept13 {T : TypeId} {w w1 : World} {base n : Nat} {v : Value} {cs : List Value} (h : w.ownsRow base T 1 v n cs) (hb : ∀ g ds fr, base ≤ g → w.heap[g]? = some (.cells ds T fr) → w1.heap[g]? = some (.cells ds T fr)) : w1.ownsRow base T 1 v n cs := by
  refine ⟨h.1, ?_⟩
  rcases h.2 with h0 | ⟨g, cap, cur, hv, hb', hh, hr⟩
  · exact .inl h0
  · exact .inr ⟨g, cap, cur, hv, hb', hb g _ _ hb' hh, hr⟩
/-- A row stays where a row of another type grows. -/
theorem own_other13 {T T' : TypeId} (hT : T ≠ T') {w w1 : World} {base base' n n' : Nat} {v v' : Value} {cs cs' : List Value} (h : w.ownsRow base T 1 v n cs) (h' : w.ownsRow base' T' 1 v' n' cs') (hg : w.grownBy w1 v'.ownBlock) : w1.ownsRow base T 1 v n cs := own_kept13 h fun g ds fr _ h0 => by
  rw [hg.block g (Array.getElem?_eq_some_iff.1 h0).1 (fun e => by
    obtain ⟨ds', fr', hk⟩ := own_kind13 h' g e.symm
    rw [h0] at hk
    injection hk with hk
    injection hk with _ hk
    exact hT hk)]
  exact h0
/-- A row stays where a block of another type changes. -/
theorem own_aside13 {T : TypeId} {w w1 : World} {base n q : Nat} {v : Value} {cs : List Value} (h : w.ownsRow base T 1 v n cs) (hq : ∀ ds fr, w.heap[q]? ≠ some (.cells ds T fr)) (hg : w.grownBy w1 (some q)) : w1.ownsRow base T 1 v n cs := own_kept13 h fun g ds fr _ h0 => by
  rw [hg.block g (Array.getElem?_eq_some_iff.1 h0).1 (fun e => by
    injection e with e
    subst e
    exact hq _ _ h0)]
  exact h0
theorem DB.kind {W : World} {q : Nat} {top : Int} {cs : List Int} (h : DB W q top cs) {T : TypeId} (hT : T ≠ 46) : ∀ ds fr, W.heap[q]? ≠ some (.cells ds T fr) := fun ds fr e => by
  rw [h] at e
  injection e with e
  injection e with _ e2
  exact hT e2.symm
set_option maxRecDepth 100000 in
set_option maxHeartbeats 4000000 in
theorem to13_any (l : List Int) (v : Value) (w : World) (hv : Ints w v l) (hl : l.length ≤ 9223372036854775807) : Calls Try.prog 7 #[v] w fun e w' => ∃ x y, e = .returned (.tuple #[x, y]) ∧ OwnE w' w.heap.size x (l.take 20) ∧ OwnI w' w.heap.size y (l.take 20) ∧ Below w.heap.size w w' := by
  have HV := Bx.mk hv
  obtain ⟨a, cap, rfl, -⟩ := hv
  obtain ⟨n, hn⟩ : ∃ n, l.length = n := ⟨_, rfl⟩
  have HN := Bx.mk hn
  rw [hn] at hl HV ⊢
  have hl1 : (n : Int) ≤ 9223372036854775807 := by omega
  clear hn
  have H0 : Bx (OwnE w w.heap.size (.slice none 0 0) (l.take 0) ∧ OwnI w w.heap.size (.slice none 0 0) (l.take 0) ∧ Below w.heap.size w w) := Bx.mk ⟨OwnE.nil _ _, OwnI.nil _ _, Below.refl _ _⟩
  go_enter Try.func7, Try.ntmps7
  go_wp2
  go_loopw [4, 5, 6] (fun x y i wr => ∃ k : Nat, k ≤ n ∧ k ≤ 20 ∧ i = .int .i64 (k : Int) ∧ Bx (OwnE wr w.heap.size x (l.take k) ∧ OwnI wr w.heap.size y (l.take k) ∧ Below w.heap.size w wr)) (fun _ _ i _ => n - (intOf i).toNat)
  case atStart => exact ⟨0, by omega, by omega, rfl, H0⟩
  case round =>
    clear H0
    skip -- M1
    obtain ⟨k, hk, hk20, rfl, HB⟩ := hrel
    by_cases hlt : k < n
    · by_cases hlt2 : k < 20
      · have t1 : (k : Int) < (n : Int) := by omega
        have t2 : (k : Int) < 20 := by omega
        have t3 : (0 : Int) ≤ (k : Int) := by omega
        obtain ⟨a', cap', hv', -, -, hr⟩ := HV.out
        injection hv' with e1 e2 e3
        subst e1
        clear e2 e3
        obtain ⟨g, o, rfl, hf⟩ := hr (by rw [HN.out]; omega)
        have hw0 := hf k (by rw [HN.out]; exact hlt)
        have ck := (HB.out.2.2.cell (p := ⟨g, o + k, none⟩) (World.block_lt_of_cell? _ _ hw0)).trans hw0
        have HS : Bx (l.take (k + 1) = l.take k ++ [l.getD k 0]) := Bx.mk (by rw [List.take_add_one, List.getElem?_eq_getElem (by rw [HN.out]; exact hlt), List.getD_eq_getElem?_getD, List.getElem?_eq_getElem (by rw [HN.out]; exact hlt)]; rfl)
        have HLn : Bx ((l.take k).length = k) := Bx.mk (by rw [List.length_take, HN.out]; omega)
        generalize l.getD k 0 = e at *
        have HW0 := Bx.mk hw0
        clear hw0 hr hf
        obtain ⟨ax, cx, hxf⟩ := HB.out.1.form
        obtain ⟨ay, cy, hyf⟩ := HB.out.2.1.form
        rw [HLn.out] at hxf hyf
        subst hxf hyf
        have c1 := ((below_a (W := wr) (.cells #[.int .i64 e] 24)).cell (p := ⟨g, o + k, none⟩) (World.block_lt_of_cell? _ _ ck)).trans ck
        have H1 : Bx (OwnE (wr.alloc (.cells #[.int .i64 e] 24)) w.heap.size (.slice ax k cx) (l.take k) ∧ Ints (wr.alloc (.cells #[.int .i64 e] 24)) (.slice (some ⟨wr.heap.size, 0, none⟩) 1 1) [e] ∧ w.heap.size ≤ (wr.alloc (.cells #[.int .i64 e] 24)).heap.size) := Bx.mk ⟨ownE_a HB.out.1 _, ints1 _ _ _, by have := HB.out.2.2.size; simp; omega⟩
        go_upto_region 7 with (refine wpList_apE rfl _ _ rfl w.heap.size _ _ rfl H1.out.1 _ _ rfl H1.out.2.1 (by rw [HLn.out]; simp; omega) H1.out.2.2 ?_; intro x1 w1 ho1 hg1)
        have H2 : Bx (OwnE w1 w.heap.size x1 (l.take k ++ [e]) ∧ OwnI w1 w.heap.size (.slice ay k cy) (l.take k) ∧ Below w.heap.size w w1) := Bx.mk (by
          have hb1 := ownE_below (ownE_a HB.out.1 (.cells #[.int .i64 e] 24)) hg1 (by have := HB.out.2.2.size; simp; omega)
          exact ⟨ho1, own_other13 (by decide) (ownI_a HB.out.2.1 (.cells #[.int .i64 e] 24)) H1.out.1 hg1, (HB.out.2.2.trans ((below_a _).mono HB.out.2.2.size)).trans hb1⟩)
        clear ck c1 H1 HB ho1 hg1
        have hw0 := HW0.out
        have ck := (H2.out.2.2.cell (p := ⟨g, o + k, none⟩) (World.block_lt_of_cell? _ _ hw0)).trans hw0
        have c1 := ((below_a (W := w1) (.cells #[.int .i64 e] 3)).cell (p := ⟨g, o + k, none⟩) (World.block_lt_of_cell? _ _ ck)).trans ck
        have H3 : Bx (OwnI (w1.alloc (.cells #[.int .i64 e] 3)) w.heap.size (.slice ay k cy) (l.take k) ∧ Ints (w1.alloc (.cells #[.int .i64 e] 3)) (.slice (some ⟨w1.heap.size, 0, none⟩) 1 1) [e] ∧ w.heap.size ≤ (w1.alloc (.cells #[.int .i64 e] 3)).heap.size) := Bx.mk ⟨ownI_a H2.out.2.1 _, ints1 _ _ _, by have := H2.out.2.2.size; simp; omega⟩
        clear hw0
        go_wp2_with (refine wpList_apI rfl _ _ rfl w.heap.size _ _ rfl H3.out.1 _ _ rfl H3.out.2.1 (by rw [HLn.out]; simp; omega) H3.out.2.2 ?_; intro y1 w2 ho2 hg2)
        have H4 : Bx (OwnE w2 w.heap.size x1 (l.take (k + 1)) ∧ OwnI w2 w.heap.size y1 (l.take (k + 1)) ∧ Below w.heap.size w w2) := Bx.mk (by
          have hb1 := ownI_below (ownI_a H2.out.2.1 (.cells #[.int .i64 e] 3)) hg2 (by have := H2.out.2.2.size; simp; omega)
          rw [HS.out]
          exact ⟨own_other13 (by decide) (ownE_a H2.out.1 (.cells #[.int .i64 e] 3)) H3.out.1 hg2, ho2, (H2.out.2.2.trans ((below_a _).mono H2.out.2.2.size)).trans hb1⟩)
        clear H3 H2 ho2 hg2 c1 ck
        go_roundw
        case rel => exact ⟨k + 1, by omega, by omega, by go_num, H4⟩
        case measure => simp [intOf]; omega
      · obtain rfl : k = 20 := by omega
        have t1 : ((20 : Nat) : Int) < (n : Int) := by omega
        go_wp2
        go_ret2
        exact ⟨_, _, rfl, HB.out⟩
    · obtain rfl : k = n := by omega
      have HE : Bx (l.take k = l.take 20) := Bx.mk (by rw [List.take_of_length_le (by rw [HN.out]; exact Nat.le_refl _), List.take_of_length_le (by rw [HN.out]; exact hk20)])
      rw [HE.out] at HB
      go_wp2
      go_ret2
      exact ⟨_, _, rfl, HB.out⟩
end Go.Proofs.Ytfommmkkdgdmfaa
namespace Go.Proofs.Ytfommmkkdgdmfaa
open Go Go.RowKit
/-- How often, one number more. -/
def stepD (top e n x : Int) : Int := if x = e ∧ 1 ≤ e ∧ e ≤ 15 ∧ n < top then n + 1 else n
/-- How often a reason is in a list, up to a number. -/
def cntD (top : Int) (l : List Int) (e : Int) : Int := l.foldl (stepD top e) 0
theorem cntD_take (top : Int) (l : List Int) (e : Int) (k : Nat) (hk : k < l.length) : cntD top (l.take (k + 1)) e = stepD top e (cntD top (l.take k) e) (l.getD k 0) := by
  unfold cntD
  rw [List.take_add_one, List.foldl_append, List.getElem?_eq_getElem hk, List.getD_eq_getElem?_getD, List.getElem?_eq_getElem hk]
  rfl
theorem foldD_bound (top e : Int) (l : List Int) : ∀ c : Int, 0 ≤ c → 0 ≤ l.foldl (stepD top e) c ∧ l.foldl (stepD top e) c ≤ c + l.length := by
  induction l with
  | nil => intro c hc; exact ⟨hc, by simp⟩
  | cons x l ih =>
    intro c hc
    have hs : c ≤ stepD top e c x ∧ stepD top e c x ≤ c + 1 := by unfold stepD; split <;> omega
    obtain ⟨h1, h2⟩ := ih (stepD top e c x) (by omega)
    simp only [List.foldl_cons, List.length_cons]
    omega
theorem cntD_bound (top e : Int) (l : List Int) : 0 ≤ cntD top l e ∧ cntD top l e ≤ l.length := by
  have := foldD_bound top e l 0 (Int.le_refl 0)
  unfold cntD
  omega
theorem stepC_get {top : Int} {cs : List Int} (h : Cts top cs) (e : Int) (k : Nat) (hk : k < 16) : (stepC top cs e).getD k 0 = stepD top (k : Int) (cs.getD k 0) e := by
  unfold stepC stepD
  have hh := h.high k
  by_cases he : isRe e = true
  · rw [if_pos he]
    have h2 := (isRe_iff e).1 he
    unfold addC
    rw [getD_set]
    by_cases hj : e.toNat = k
    · rw [if_pos ⟨hj, by rw [h.len]; exact hk⟩, hj]
      split <;> omega
    · rw [if_neg (fun h => hj h.1), if_neg (fun h => hj (by omega))]
  · rw [if_neg he, if_neg (fun h => he ((isRe_iff e).2 (by omega)))]
theorem cntC_get {top : Int} (l : List Int) : ∀ {cs : List Int}, Cts top cs → ∀ k : Nat, k < 16 → (cntC top cs l).getD k 0 = l.foldl (stepD top (k : Int)) (cs.getD k 0) := by
  induction l with
  | nil => intro cs _ k _; rfl
  | cons e l ih =>
    intro cs h k hk
    have := ih (stepC_cts h e) k hk
    rw [stepC_get h e k hk] at this
    exact this
theorem z16_get (k : Nat) : z16.getD k 0 = 0 := by
  rw [List.getD_eq_getElem?_getD, z16, List.getElem?_replicate]
  split <;> rfl
theorem cntC_z16 {top : Int} (h1 : 1 ≤ top) (h2 : top ≤ 2147483647) (l : List Int) (k : Nat) (hk : k < 16) : (cntC top z16 l).getD k 0 = cntD top l (k : Int) := by
  rw [cntC_get l (Cts.start h1 h2) k hk, z16_get]
  rfl
/-- The document's drops in their block. -/
def RefB (W : World) (p : Nat) (top : Int) (v : Value) : Prop := W.heap[p]? = some (.cells #[.int .i64 top, v] 31 (0, 0))
theorem RefB.lt {W : World} {p : Nat} {top : Int} {v : Value} (h : RefB W p top v) : p < W.heap.size := (Array.getElem?_eq_some_iff.1 h).1
theorem RefB.later {W W1 : World} {p : Nat} {top : Int} {v : Value} (h : RefB W p top v) (hb : Below W.heap.size W W1) : RefB W1 p top v := (hb.block p h.lt).trans h
theorem RefB.aside {W W1 : World} {p q : Nat} {top : Int} {v : Value} (h : RefB W p top v) (hg : W.grownBy W1 (some q)) (hne : p ≠ q) : RefB W1 p top v := (hg.block p h.lt (fun e => hne (by injection e))).trans h
theorem RefB.cells {W : World} {p : Nat} {top : Int} {v : Value} (h : RefB W p top v) : W.cell? ⟨p, 0, none⟩ = some (.int .i64 top) ∧ W.cell? ⟨p, 1, none⟩ = some v := ⟨by rw [cell_of_row _ _ _ _ _ _ h]; rfl, by rw [cell_of_row _ _ _ _ _ _ h]; rfl⟩
theorem RefB.frozen {W : World} {p : Nat} {top : Int} {v : Value} (h : RefB W p top v) (i : Nat) : W.frozen? ⟨p, i, none⟩ = false := frozen_of_row _ _ _ _ _ h
theorem RefB.kind {W : World} {p : Nat} {top : Int} {v : Value} (h : RefB W p top v) {T : TypeId} (hT : T ≠ 31) : ∀ ds fr, W.heap[p]? ≠ some (.cells ds T fr) := fun ds fr e => by
  rw [h] at e
  injection e with e
  injection e with _ e2
  exact hT e2.symm
set_option maxRecDepth 100000 in
set_option maxHeartbeats 4000000 in
theorem rof_any13 (p : Nat) (top : Int) (l : List Int) (v : Value) (e : Int) (w : World) (h : RefB w p top v) (hv : Ints w v l) (hl : l.length ≤ 100000) : Calls Try.prog 19 #[.pointer (some ⟨p, 0, none⟩), .int .i64 e] w fun x w' => x = .returned (.int .i64 (cntD top l e)) ∧ w' = w := by
  obtain ⟨c0, c1⟩ := h.cells
  have HV := Bx.mk hv
  obtain ⟨a, cap, rfl, -⟩ := hv
  obtain ⟨n, hn⟩ : ∃ n, l.length = n := ⟨_, rfl⟩
  have HN := Bx.mk hn
  rw [hn] at hl HV c1
  have hl1 : (n : Int) ≤ 100000 := by omega
  clear h hn
  go_enter Try.func19, Try.ntmps19
  go_wp2
  go_loopw [5, 6] (fun c i wr => ∃ k : Nat, k ≤ n ∧ i = .int .i64 (k : Int) ∧ c = .int .i64 (cntD top (l.take k) e) ∧ wr = w) (fun _ i _ => n - (intOf i).toNat)
  case atStart => exact ⟨0, by omega, rfl, rfl, rfl⟩
  case round =>
    obtain ⟨k, hk, rfl, rfl, rfl⟩ := hrel
    by_cases hlt : k < n
    · have t1 : (k : Int) < (n : Int) := by omega
      have t3 : (0 : Int) ≤ (k : Int) := by omega
      obtain ⟨a', cap', hv', -, -, hr⟩ := HV.out
      injection hv' with e1 e2 e3
      subst e1
      clear e2 e3
      obtain ⟨g, o, rfl, hf⟩ := hr (by rw [HN.out]; omega)
      have ck := hf k (by rw [HN.out]; exact hlt)
      have HS := Bx.mk (cntD_take top l e k (by rw [HN.out]; exact hlt))
      have HL : Bx (0 ≤ cntD top (l.take k) e ∧ cntD top (l.take k) e ≤ 100000) := Bx.mk (by
        have h1 := cntD_bound top e (l.take k)
        rw [List.length_take, HN.out] at h1
        omega)
      generalize l.getD k 0 = x at *
      clear hr hf
      by_cases g1 : x = e
      · subst g1
        have d1 : decide (x = x) = true := decide_eq_true rfl
        by_cases g2 : 1 ≤ x
        · have d2 : decide (1 ≤ x) = true := decide_eq_true g2
          by_cases g3 : x ≤ 15
          · have d3 : decide (x ≤ 15) = true := decide_eq_true g3
            by_cases g4 : cntD top (l.take k) x < top
            · have d4 : decide (cntD top (l.take k) x < top) = true := decide_eq_true g4
              have HS2 : Bx (cntD top (l.take (k + 1)) x = cntD top (l.take k) x + 1) := Bx.mk (by rw [HS.out]; unfold stepD; rw [if_pos ⟨rfl, g2, g3, g4⟩])
              clear HS
              go_wp2
              go_roundw
              case rel => exact ⟨k + 1, by omega, by go_num, by rw [HS2.out]; have h := HL.out; generalize cntD top (l.take k) x = m at *; congr 1; unfold wrap64; omega, by first | rfl | trivial⟩
              case measure => simp [intOf]; omega
            · have d4 : decide (cntD top (l.take k) x < top) = false := decide_eq_false g4
              have HS2 : Bx (cntD top (l.take (k + 1)) x = cntD top (l.take k) x) := Bx.mk (by rw [HS.out]; unfold stepD; rw [if_neg (fun h => g4 h.2.2.2)])
              clear HS
              go_wp2
              go_roundw
              case rel => exact ⟨k + 1, by omega, by go_num, by rw [HS2.out], by first | rfl | trivial⟩
              case measure => simp [intOf]; omega
          · have d3 : decide (x ≤ 15) = false := decide_eq_false g3
            have HS2 : Bx (cntD top (l.take (k + 1)) x = cntD top (l.take k) x) := Bx.mk (by rw [HS.out]; unfold stepD; rw [if_neg (fun h => g3 h.2.2.1)])
            clear HS
            go_wp2
            go_roundw
            case rel => exact ⟨k + 1, by omega, by go_num, by rw [HS2.out], by first | rfl | trivial⟩
            case measure => simp [intOf]; omega
        · have d2 : decide (1 ≤ x) = false := decide_eq_false g2
          have HS2 : Bx (cntD top (l.take (k + 1)) x = cntD top (l.take k) x) := Bx.mk (by rw [HS.out]; unfold stepD; rw [if_neg (fun h => g2 h.2.1)])
          clear HS
          go_wp2
          go_roundw
          case rel => exact ⟨k + 1, by omega, by go_num, by rw [HS2.out], by first | rfl | trivial⟩
          case measure => simp [intOf]; omega
      · have d1 : decide (x = e) = false := decide_eq_false g1
        have HS2 : Bx (cntD top (l.take (k + 1)) e = cntD top (l.take k) e) := Bx.mk (by rw [HS.out]; unfold stepD; rw [if_neg (fun h => g1 h.1)])
        clear HS
        go_wp2
        go_roundw
        case rel => exact ⟨k + 1, by omega, by go_num, by rw [HS2.out], by first | rfl | trivial⟩
        case measure => simp [intOf]; omega
    · obtain rfl : k = n := by omega
      have HE : Bx (cntD top (l.take k) e = cntD top l e) := Bx.mk (by rw [List.take_of_length_le (by rw [HN.out]; exact Nat.le_refl _)])
      go_wp2
      go_ret
      exact ⟨by rw [← HE.out]; rfl, rfl⟩
end Go.Proofs.Ytfommmkkdgdmfaa
namespace Go.Proofs.Ytfommmkkdgdmfaa
open Go Go.RowKit
set_option maxRecDepth 100000 in
theorem open71 {a : Act} (h : Fr 71 a) : ∃ x : Nat → Value, a = ⟨List.toArray (x 0 :: x 1 :: x 2 :: x 3 :: x 4 :: x 5 :: x 6 :: x 7 :: x 8 :: x 9 :: x 10 :: x 11 :: x 12 :: x 13 :: x 14 :: x 15 :: x 16 :: x 17 :: x 18 :: x 19 :: x 20 :: x 21 :: x 22 :: x 23 :: x 24 :: x 25 :: x 26 :: x 27 :: x 28 :: x 29 :: x 30 :: x 31 :: x 32 :: x 33 :: x 34 :: x 35 :: x 36 :: x 37 :: x 38 :: x 39 :: x 40 :: x 41 :: x 42 :: x 43 :: x 44 :: x 45 :: x 46 :: x 47 :: x 48 :: x 49 :: x 50 :: x 51 :: x 52 :: x 53 :: x 54 :: x 55 :: x 56 :: x 57 :: x 58 :: x 59 :: x 60 :: x 61 :: x 62 :: x 63 :: x 64 :: x 65 :: x 66 :: x 67 :: x 68 :: x 69 :: x 70 :: []), []⟩ ∧ ∀ i, a.eval (.tmp i) = x i := ⟨fun i => a.tmps.getD i undef, h.form, fun _ => rfl⟩
/-- What lies in memory while drops and the document's are held against each other. -/
structure TB (w : World) (q p X : Nat) (top : Int) (cs : List Int) (v : Value) (l : List Int) (W : World) : Prop where
  db : DB W q top cs
  rb : RefB W p top v
  iv : Ints W v l
  box : W.heap[X]? = some (.cells (i64s cs).toArray 35 (0, 0))
  below : Below w.heap.size w W
theorem TB.later {w : World} {q p X : Nat} {top : Int} {cs : List Int} {v : Value} {l : List Int} {W W1 : World} (h : TB w q p X top cs v l W) (hb : Below W.heap.size W W1) : TB w q p X top cs v l W1 :=
  ⟨h.db.later hb, h.rb.later hb, h.iv.later hb, (hb.block X (Array.getElem?_eq_some_iff.1 h.box).1).trans h.box, h.below.trans (hb.mono h.below.size)⟩
theorem TB.cell {w : World} {q p X : Nat} {top : Int} {cs : List Int} {v : Value} {l : List Int} {W : World} (h : TB w q p X top cs v l W) (k : Nat) (hk : k < cs.length) : W.cell? ⟨X, k, none⟩ = some (.int .i64 (cs.getD k 0)) := by
  rw [cell_of_row _ _ _ _ _ _ h.box, List.getElem?_toArray]
  exact i64s_get cs k hk
/-- What stays in the frame. -/
structure FTl (q p X : Nat) (a : Act) : Prop where
  fr : Fr 71 a
  s0 : a.eval (.tmp 0) = .pointer (some ⟨q, 0, none⟩)
  s1 : a.eval (.tmp 1) = .pointer (some ⟨p, 0, none⟩)
  s8 : a.eval (.tmp 8) = .pointer (some ⟨X, 0, none⟩)
/-- Between two rounds. -/
structure ITl (w : World) (q p X : Nat) (top : Int) (cs : List Int) (v : Value) (l : List Int) (k : Nat) (a : Act) (W : World) : Prop where
  fp : FTl q p X a
  s5 : a.eval (.tmp 5) = .int .i64 (totC cs k)
  s6 : a.eval (.tmp 6) = .int .i64 (worC cs k).1
  s7 : a.eval (.tmp 7) = .int .i64 (worC cs k).2
  s9 : a.eval (.tmp 9) = .int .i64 (k : Int)
  st : TB w q p X top cs v l W
set_option maxRecDepth 100000 in
set_option maxHeartbeats 4000000 in
theorem roundTl (w : World) (q p X : Nat) (top : Int) (cs : List Int) (v : Value) (l : List Int) (hc : Cts top cs) (hl : l.length ≤ 100000) (hcs : ∀ k : Nat, k < 16 → cntD top l (k : Int) = cs.getD k 0)
    (Q : Exit → Act → World → Prop) (k : Nat) (a : Act) (wr : World) (hk : k < 16) (h : ITl w q p X top cs v l k a wr) :
    Code.wp Try.prog (loopAt (Try.f10.body) 0) (Exit.then (fun a' w' => ITl w q p X top cs v l (k + 1) a' w') Q) a wr := by
  obtain ⟨hf, s5, s6, s7, s9, hB⟩ := h
  have HR := Bx.mk (rof_any13 p top l v (k : Int) wr hB.rb hB.iv hl)
  have HO := Bx.mk (of_any13 q top cs (k : Int) wr hB.db hc.len)
  rw [hcs k hk] at HR
  rw [show (if isRe (k : Int) = true then cs.getD (k : Int).toNat 0 else 0) = cs.getD k 0 by
    by_cases hr : isRe (k : Int) = true
    · rw [if_pos hr, Int.toNat_natCast]
    · rw [if_neg hr]
      have : k = 0 := by
        by_cases h0 : k = 0
        · exact h0
        · exact absurd ((isRe_iff _).2 (by omega)) hr
      subst this
      exact hc.zero.symm] at HO
  have ck := hB.cell k (by rw [hc.len]; exact hk)
  have HB := Bx.mk hB
  have hlo := hc.low k
  have hhi := hc.high k
  have ht2 := hc.top2
  have htot := totC_bound hc k
  obtain ⟨tn, htn⟩ : ∃ tn, totC cs (k + 1) = tn := ⟨_, rfl⟩
  obtain ⟨wn, hwn⟩ : ∃ wn, worC cs (k + 1) = wn := ⟨_, rfl⟩
  have HT := Bx.mk htn
  have HW := Bx.mk hwn
  unfold totC at htn
  unfold worC at hwn
  generalize totC cs k = ct at *
  generalize worC cs k = cw at *
  generalize cs.getD k 0 = c at *
  obtain ⟨wa, wb⟩ := cw
  simp only at s6 s7 hwn
  have k1 : (k : Int) < 16 := by omega
  have k0 : (0 : Int) ≤ (k : Int) := by omega
  have e1 : IntKind.i64.wrap (ct + c) = tn := by rw [IntKind.wrap_i64]; omega
  have hwk : IntKind.i64.wrap ((k : Int) + 1) = (k : Int) + 1 := by simp [IntKind.wrap_i64]; omega
  have e2 : (c != c) = false := by simp
  obtain ⟨y, rfl, hy⟩ := open71 hf.fr
  have e0 := (hy 0).symm.trans hf.s0
  have e1 := (hy 1).symm.trans hf.s1
  have e5 := (hy 5).symm.trans s5
  have e6 := (hy 6).symm.trans s6
  have e7 := (hy 7).symm.trans s7
  have e8 := (hy 8).symm.trans hf.s8
  have e9 := (hy 9).symm.trans s9
  clear hf hy s5 s6 s7 s9 hB hcs hc hl hlo hhi ht2 htot htn
  rw [e0, e1, e5, e6, e7, e8, e9]
  clear e0 e1 e5 e6 e7 e8 e9
  conv => arg 2; whnf
  by_cases h1 : wb < c
  · rw [if_pos h1] at hwn
    subst hwn
    go_wp2_with (first | (refine HR.out.mono ?_; rintro e w1 ⟨rfl, hw⟩; obtain rfl : wr = w1 := hw.symm; clear hw) | (refine HO.out.mono ?_; rintro e w1 ⟨rfl, hw⟩; obtain rfl : wr = w1 := hw.symm; clear hw))
    skip -- M1
    exact ⟨⟨⟨rfl, rfl⟩, rfl, rfl, rfl⟩, by rw [HT.out]; rfl, by rw [HW.out]; rfl, by rw [HW.out]; rfl, by first | rfl | go_num, HB.out⟩
  · rw [if_neg h1] at hwn
    subst hwn
    go_wp2_with (first | (refine HR.out.mono ?_; rintro e w1 ⟨rfl, hw⟩; obtain rfl : wr = w1 := hw.symm; clear hw) | (refine HO.out.mono ?_; rintro e w1 ⟨rfl, hw⟩; obtain rfl : wr = w1 := hw.symm; clear hw))
    exact ⟨⟨⟨rfl, rfl⟩, rfl, rfl, rfl⟩, by rw [HT.out]; rfl, by rw [HW.out]; rfl, by rw [HW.out]; rfl, by first | rfl | go_num, HB.out⟩
set_option maxRecDepth 100000 in
set_option maxHeartbeats 4000000 in
theorem lastTl (w : World) (q p X : Nat) (top : Int) (cs : List Int) (v : Value) (l : List Int)
    (Q : Exit → Act → World → Prop) (N : Act → World → Prop) (hq : ∀ a' w', FTl q p X a' → a'.eval (.tmp 5) = .int .i64 (totC cs 16) → a'.eval (.tmp 6) = .int .i64 (worC cs 16).1 → a'.eval (.tmp 7) = .int .i64 (worC cs 16).2 → TB w q p X top cs v l w' → Q (.exit 0) a' w') (a : Act) (wr : World) (h : ITl w q p X top cs v l 16 a wr) :
    Code.wp Try.prog (loopAt (Try.f10.body) 0) (Exit.then N Q) a wr := by
  obtain ⟨hf, s5, s6, s7, s9, hB⟩ := h
  have HB := Bx.mk hB
  have HQ := Bx.mk hq
  obtain ⟨x5, h5⟩ : ∃ x, totC cs 16 = x := ⟨_, rfl⟩
  obtain ⟨x6, h6⟩ : ∃ x, (worC cs 16).1 = x := ⟨_, rfl⟩
  obtain ⟨x7, h7⟩ : ∃ x, (worC cs 16).2 = x := ⟨_, rfl⟩
  rw [h5] at s5 HQ
  rw [h6] at s6 HQ
  rw [h7] at s7 HQ
  obtain ⟨y, rfl, hy⟩ := open71 hf.fr
  have e0 := (hy 0).symm.trans hf.s0
  have e1 := (hy 1).symm.trans hf.s1
  have e5 := (hy 5).symm.trans s5
  have e6 := (hy 6).symm.trans s6
  have e7 := (hy 7).symm.trans s7
  have e8 := (hy 8).symm.trans hf.s8
  have e9 := (hy 9).symm.trans s9
  clear hf hy s5 s6 s7 s9 hB hq h5 h6 h7
  rw [e0, e1, e5, e6, e7, e8, e9]
  clear e0 e1 e5 e6 e7 e8 e9
  conv => arg 2; whnf
  go_wp2
  exact HQ.out _ _ ⟨⟨rfl, rfl⟩, rfl, rfl, rfl⟩ rfl rfl rfl HB.out
theorem loopTl (w : World) (q p X : Nat) (top : Int) (cs : List Int) (v : Value) (l : List Int) (hc : Cts top cs) (hl : l.length ≤ 100000) (hcs : ∀ k : Nat, k < 16 → cntD top l (k : Int) = cs.getD k 0)
    (Q : Exit → Act → World → Prop) (a : Act) (wr : World) (h : ITl w q p X top cs v l 0 a wr) (hq : ∀ a' w', FTl q p X a' → a'.eval (.tmp 5) = .int .i64 (totC cs 16) → a'.eval (.tmp 6) = .int .i64 (worC cs 16).1 → a'.eval (.tmp 7) = .int .i64 (worC cs 16).2 → TB w q p X top cs v l w' → Q (.exit 0) a' w') :
    Code.wp Try.prog (.loop (loopAt (Try.f10.body) 0)) Q a wr :=
  wp_count 16 (fun k a w' => ITl w q p X top cs v l k a w') 0 (Nat.zero_le _) h (fun k a w' hk hI => roundTl w q p X top cs v l hc hl hcs Q k a w' hk hI) (fun a w' hI => lastTl w q p X top cs v l Q _ hq a w' hI)
set_option maxRecDepth 100000 in
set_option maxHeartbeats 4000000 in
theorem tells_any (q p : Nat) (top : Int) (cs : List Int) (v : Value) (l : List Int) (w : World) (hd : DB w q top cs) (hc : Cts top cs) (hr : RefB w p top v) (hv : Ints w v l) (hl : l.length ≤ 100000) (hcs : ∀ k : Nat, k < 16 → cntD top l (k : Int) = cs.getD k 0) :
    Calls Try.prog 10 #[.pointer (some ⟨q, 0, none⟩), .pointer (some ⟨p, 0, none⟩)] w fun e w' => e = .returned (.bool true) ∧ Below w.heap.size w w' := by
  have HA := Bx.mk (all_any13 q top cs w hd hc.len)
  have HP := Bx.mk fun (X : Nat) (Q : Exit → Act → World → Prop) (a : Act) (wr : World) => loopTl w q p X top cs v l hc hl hcs Q a wr
  have HWo := Bx.mk fun (W : World) (h : DB W q top cs) => worst_any13 q top cs W h hc
  have HTo := Bx.mk fun (W : World) (h : DB W q top cs) => total_any13 q top cs W h hc
  have HO1 := Bx.mk fun (W : World) (h : DB W q top cs) => of_any13 q top cs (-1) W h hc.len
  have HO2 := Bx.mk fun (W : World) (h : DB W q top cs) => of_any13 q top cs 16 W h hc.len
  rw [if_neg (by decide)] at HO1 HO2
  have H0 : Bx (∀ (w1 w2 : World), Below w.heap.size w w1 → Below w1.heap.size w1 w2 → w2.heap[w1.heap.size]? = some (.cells (i64s cs).toArray 35 (0, 0)) → TB w q p w1.heap.size top cs v l w2) := Bx.mk (fun w1 w2 h1 h2 h3 => by
    have hb := h1.trans (h2.mono h1.size)
    exact ⟨hd.later hb, hr.later hb, hv.later hb, h3, hb⟩)
  have HI := Bx.mk (info16 (i64s cs).toArray.size (by simp [i64s, hc.len]))
  have HSz : Bx ((i64s cs).toArray.size = (i64s z16).toArray.size) := Bx.mk (by simp [i64s, hc.len, z16])
  have HO := Bx.mk (i64s_one cs)
  obtain ⟨ar, har⟩ : ∃ ar, (i64s cs).toArray = ar := ⟨_, rfl⟩
  rw [har] at HA H0 HI HSz HO
  clear hd hc hr hv hl hcs har
  go_enter Try.func10, Try.ntmps10
  go_wp2_with (first | (refine HA.out.mono ?_; rintro e w1 ⟨rfl, hb⟩; have HB1 := Bx.mk hb; clear hb) | (refine wpList_store_var rfl 35 _ _ rfl w1 (i64s z16).toArray 35 (by rfl) (by rfl) ar (by rfl) HSz.out HI.out HO.out ?_; intro w2 hb hr _; have R2 := Bx.mk (H0.out w1 w2 HB1.out hb hr); clear hb hr HB1 HA))
  skip -- M2
  refine HP.out w1.heap.size _ _ _ ⟨⟨⟨rfl, rfl⟩, rfl, rfl, rfl⟩, rfl, rfl, rfl, rfl, R2.out⟩ ?_
  intro a6 w6 hf h5 h6 h7 hB
  have R6 := Bx.mk hB
  obtain ⟨y, rfl, hy⟩ := open71 hf.fr
  have e0 := (hy 0).symm.trans hf.s0
  have e5 := (hy 5).symm.trans h5
  have e6 := (hy 6).symm.trans h6
  have e7 := (hy 7).symm.trans h7
  clear hf hy h5 h6 h7 hB HP R2 H0
  rw [e0, e5, e6, e7]
  clear e0 e5 e6 e7
  generalize totC cs 16 = ct at *
  generalize hwo : worC cs 16 = cw at *
  clear hwo
  obtain ⟨wa, wb⟩ := cw
  simp only at HWo ⊢
  skip -- M3
  go_wp2_with fail
  refine (HWo.out _ R6.out.db).mono ?_
  rintro e w7 ⟨rfl, hb⟩
  have R7 := Bx.mk (R6.out.later hb)
  clear hb R6 HWo
  skip -- M4
  go_wp2_with fail
  refine (HTo.out _ R7.out.db).mono ?_
  rintro e w8 ⟨rfl, hb⟩
  have R8 := Bx.mk (R7.out.later hb)
  clear hb R7 HTo
  go_wp2_with fail
  refine (HO1.out _ R8.out.db).mono ?_
  rintro e w9 ⟨rfl, hw⟩
  obtain rfl : w8 = w9 := hw.symm
  clear hw
  go_wp2_with fail
  refine (HO2.out _ R8.out.db).mono ?_
  rintro e w9 ⟨rfl, hw⟩
  obtain rfl : w8 = w9 := hw.symm
  clear hw
  go_wp2
  go_ret
  exact ⟨rfl, R8.out.below⟩
end Go.Proofs.Ytfommmkkdgdmfaa
namespace Go.Proofs.Ytfommmkkdgdmfaa
open Go Go.ChangeShapes Go.WideShapes Go.ChangeAt Go.RowKit
theorem own : ownKnob Try.prog.godebug = none := by kernel_rfl
theorem laidOut : laidOutB Try.prog = true := by kernel_rfl
end Go.Proofs.Ytfommmkkdgdmfaa
namespace Go.Proofs.Ytfommmkkdgdmfaa
open Go Go.ChangeShapes Go.WideShapes Go.ChangeAt Go.RowKit
/-- A number that an int holds. -/
def in64 (n : Int) : Prop := -9223372036854775808 ≤ n ∧ n ≤ 9223372036854775807
/-- A slice of numbers. -/
theorem open_ns {H : Type} {enc : TypeId × Value → H} {W : World} {a : Option Addr} {len cap : Nat} {d : DataW H} {p : List MemPlace} (h : DataW.Trod enc Try.prog W 0 (fun _ => true) true 29 (.slice a len cap) d p) :
    ∃ ns, Ints W (.slice a len cap) ns ∧ ns.length ≤ 9223372036854775807 ∧ ∀ n ∈ ns, in64 n := by
  obtain ⟨fuel, hf⟩ := h
  rcases open_ints Try.underlying29 Try.underlying3 (by kernel_rfl) hf with ⟨hcs, _⟩ | ⟨x, l, c, zs, hcs, _, hl, hm, hz, _, hcell, hwz⟩
  · simp [Value.cells] at hcs
    obtain ⟨rfl, rfl, rfl⟩ := hcs
    exact ⟨[], ⟨none, 0, rfl, Nat.le_refl _, fun _ => rfl, fun h => by simp at h⟩, by simp, fun n hn => by simp at hn⟩
  · simp [Value.cells] at hcs
    obtain ⟨rfl, rfl, rfl⟩ := hcs
    have hz' : zs.length = cap := by simpa using hz
    have hm' : cap ≤ 9223372036854775807 := hm
    refine ⟨zs.take len, ⟨some x, cap, ?_, ?_, (fun h => by cases h), fun hp => ?_⟩, by rw [List.length_take]; omega, fun n hn => lit_i64 n (hwz n (List.mem_of_mem_take hn))⟩
    · rw [List.length_take, Nat.min_eq_left (by omega)]
    · rw [List.length_take]; omega
    · rw [List.length_take] at hp
      obtain ⟨b, off, rfl, hc'⟩ := ints_at hcell (by omega)
      refine ⟨b, off, rfl, fun j hj => ?_⟩
      rw [List.length_take] at hj
      rw [hc' j (by omega)]
      have hjz : j < zs.length := by omega
      simp [hjz, show j < len by omega]
end Go.Proofs.Ytfommmkkdgdmfaa
