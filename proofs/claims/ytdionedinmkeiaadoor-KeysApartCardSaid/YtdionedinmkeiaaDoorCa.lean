/-
  Claims: the walks of their limits and of Check.
-/
import Derived.Test.YtdionedinmkeiaaDoorGa
namespace Go.Proofs.YtdionedinmkeiaaDoor
open Go Go.RowKit
/-- Claims, as numbers. -/
structure Cl where
  id : Int
  ro : Int
  ex : Int
  se : Int
/-- Claims, as a value. -/
def clV (c : Cl) : Value := .agg #[.int .i64 c.id, .int .i64 c.ro, .int .i64 c.ex, .int .i64 c.se]
/-- Are the four within their limits? -/
def okC (c : Cl) : Bool := decide (1 ≤ c.id) && decide (c.id ≤ 65535) && decide (0 ≤ c.ro) && decide (c.ro ≤ 255) && decide (0 ≤ c.ex) && decide (c.ex ≤ 1073741824) && decide (1 ≤ c.se) && decide (c.se ≤ 65535)
/-- The limits, as cells. -/
def limC (c : Cl) : Array Value := #[.int .i64 c.id, .int .i64 1, .int .i64 65535, .int .i64 c.ro, .int .i64 0, .int .i64 255, .int .i64 c.ex, .int .i64 0, .int .i64 1073741824, .int .i64 c.se, .int .i64 1, .int .i64 65535]
set_option maxRecDepth 100000 in
theorem limits_any (c : Cl) (w : World) : Calls Tryd.prog 58 #[clV c] w fun e w' => ∃ g, e = .returned (.slice (some ⟨g, 0, none⟩) 4 4) ∧ w'.heap[g]? = some (.cells (limC c) 108 (0, 0)) ∧ Below w.heap.size w w' := by
  obtain ⟨i, r, x, s⟩ := c
  unfold clV
  simp only
  go_enter Tryd.func58, Tryd.ntmps58
  go_wp2
  go_ret
  refine ⟨w.heap.size + 1, rfl, ?_, (below_a _).trans ((below_a _).mono (by simp))⟩
  rw [hnew _ _ _ (by simp)]
  rfl
theorem cells_of {w : World} {g o : Nat} {a b c : Value} (h : w.rangeAt g o [a, b, c]) : w.cell? ⟨g, o, none⟩ = some a ∧ w.cell? ⟨g, o + 1, none⟩ = some b ∧ w.cell? ⟨g, o + 2, none⟩ = some c :=
  ⟨h 0 _ rfl, h 1 _ rfl, h 2 _ rfl⟩
/-- The limits, one by one. -/
def lims (c : Cl) : List (Int × Int × Int) := [(c.id, 1, 65535), (c.ro, 0, 255), (c.ex, 0, 1073741824), (c.se, 1, 65535)]
/-- Is a number within its limits? -/
def inL (l : Int × Int × Int) : Bool := decide (l.2.1 ≤ l.1) && decide (l.1 ≤ l.2.2)
theorem okC_all (c : Cl) : okC c = (lims c).all inL := by
  simp [okC, lims, inL, Bool.and_assoc]
theorem all_take_succ (l : List (Int × Int × Int)) (k : Nat) (hk : k < l.length) : (l.take (k + 1)).all inL = ((l.take k).all inL && inL (l.getD k (0, 0, 0))) := by
  rw [List.take_add_one, List.all_append, List.getElem?_eq_getElem hk, List.getD_eq_getElem?_getD, List.getElem?_eq_getElem hk]
  simp
theorem all_false (l : List (Int × Int × Int)) (k : Nat) (hk : k < l.length) (h : inL (l.getD k (0, 0, 0)) = false) : l.all inL = false := by
  rw [List.getD_eq_getElem?_getD, List.getElem?_eq_getElem hk] at h
  exact List.all_eq_false.mpr ⟨l[k], List.getElem_mem _, by simp at h; simp [h]⟩
theorem lim_cells (c : Cl) (W : World) (g : Nat) (h : W.heap[g]? = some (.cells (limC c) 108 (0, 0))) (k : Nat) (hk : k < 4) :
    W.cell? ⟨g, k * 3, none⟩ = some (.int .i64 ((lims c).getD k (0, 0, 0)).1) ∧ W.cell? ⟨g, k * 3 + 1, none⟩ = some (.int .i64 ((lims c).getD k (0, 0, 0)).2.1) ∧ W.cell? ⟨g, k * 3 + 2, none⟩ = some (.int .i64 ((lims c).getD k (0, 0, 0)).2.2) := by
  have hc : k = 0 ∨ k = 1 ∨ k = 2 ∨ k = 3 := by omega
  rcases hc with rfl | rfl | rfl | rfl <;> refine ⟨?_, ?_, ?_⟩ <;> rw [cell_of_row _ _ _ _ _ _ h] <;> rfl
set_option maxRecDepth 100000 in
set_option maxHeartbeats 1000000 in
theorem ccheck_any (c : Cl) (w : World) : Calls Tryd.prog 44 #[clV c] w fun e w' => e = .returned (.int .i64 (if okC c = true then 0 else 10)) ∧ Below w.heap.size w w' := by
  obtain ⟨V, hV⟩ : ∃ V, (if okC c = true then (0 : Int) else 10) = V := ⟨_, rfl⟩
  rw [hV]
  have HV := Bx.mk hV
  clear hV
  obtain ⟨B, hB⟩ : ∃ B, w.heap.size = B := ⟨_, rfl⟩
  rw [hB]
  have HB := Bx.mk hB
  have HL := fun (W : World) => limits_any c W
  unfold clV at HL ⊢
  go_enter Tryd.func44, Tryd.ntmps44
  go_wp2_with fail
  go_step3
  go_wp2_with fail
  go_step3
  go_wp2_with fail
  refine (HL _).mono ?_
  rintro e w2 ⟨g, rfl, hg, hb⟩
  have H2 : Bx (w2.heap[g]? = some (.cells (limC c) 108 (0, 0)) ∧ Below B w w2 ∧ (((lims c).take 0).all inL = true)) := Bx.mk ⟨hg, by rw [← hB]; exact (below_a _).trans (hb.mono (by simp)), rfl⟩
  clear hg hb HL
  go_wp2
  go_loopw [9, 3] (fun i z wr => ∃ k : Nat, k ≤ 4 ∧ i = .int .i64 (k : Int) ∧ z = .int .i64 0 ∧ Bx (wr.heap[g]? = some (.cells (limC c) 108 (0, 0)) ∧ Below B w wr ∧ (((lims c).take k).all inL = true))) (fun i _ _ => 4 - (intOf i).toNat)
  case atStart => exact ⟨0, Nat.zero_le _, rfl, rfl, H2⟩
  case round =>
    clear H2
    obtain ⟨k, hk, rfl, rfl, HI⟩ := hrel
    by_cases hlt : k < 4
    · have hk1 : (k : Int) < 4 := by omega
      obtain ⟨hc0, hc1, hc2⟩ := lim_cells c wr g HI.out.1 k hlt
      obtain ⟨⟨n, lo, hi⟩, hx⟩ : ∃ x, (lims c).getD k (0, 0, 0) = x := ⟨_, rfl⟩
      rw [hx] at hc0 hc1 hc2
      have HX := Bx.mk hx
      clear hx
      simp only at hc0 hc1 hc2
      have HA : Bx ((wr.alloc (.cells #[.int .i64 n, .int .i64 lo, .int .i64 hi] 108)).heap[g]? = some (.cells (limC c) 108 (0, 0)) ∧ Below B w (wr.alloc (.cells #[.int .i64 n, .int .i64 lo, .int .i64 hi] 108))) := Bx.mk ⟨by
        rw [hold _ _ _ (by have := (Array.getElem?_eq_some_iff.mp HI.out.1).1; exact this)]
        exact HI.out.1, HI.out.2.1.alloc (by have := HI.out.2.1.size; omega) _⟩
      have HT := Bx.mk HI.out.2.2
      by_cases hin : inL (n, lo, hi) = true
      · have hh : lo ≤ n ∧ n ≤ hi := by simpa [inL] using hin
        have h1 : ¬ n < lo := by omega
        have h2 : ¬ hi < n := by omega
        have HT2 : Bx (((lims c).take (k + 1)).all inL = true) := Bx.mk (by rw [all_take_succ _ _ (by exact hlt), HX.out, HT.out, hin]; rfl)
        clear HI hh hin
        go_wp2
        go_roundw
        case rel => exact ⟨k + 1, by omega, by go_num, rfl, ⟨HA.out.1, HA.out.2, HT2.out⟩⟩
        case measure => simp [intOf]; omega
      · have HV2 : Bx (V = 10) := Bx.mk (by
          rw [← HV.out, okC_all, all_false (lims c) k hlt (by rw [HX.out]; simpa using hin)]
          rfl)
        have hh : n < lo ∨ hi < n := by simp [inL] at hin; omega
        clear HI hin HT HV
        by_cases h1 : n < lo
        · go_wp2
          try rw [Exit.noGoto_ret]
          go_ret
          exact ⟨by rw [HV2.out]; rfl, HA.out.2⟩
        · have h2 : hi < n := by omega
          clear hh
          go_wp2
          try rw [Exit.noGoto_ret]
          go_ret
          exact ⟨by rw [HV2.out]; rfl, HA.out.2⟩
    · obtain rfl : k = 4 := by omega
      go_wp2
      rw [Exit.noGoto_ret]
      go_ret
      have HO : okC c = true := by rw [okC_all]; exact HI.out.2.2
      rw [if_pos HO] at HV
      exact ⟨by rw [← HV.out]; rfl, HI.out.2.1⟩
end Go.Proofs.YtdionedinmkeiaaDoor
