/-
  Claims: the walk of the document's Get at numbers.
-/
import Derived.Test.YtiengbmnfbbgoaaDoorCg
import Derived.Test.YtiengbmnfbbgoaaDoorId
import Derived.LoopN
namespace Go.Proofs.YtiengbmnfbbgoaaDoor
open Go Go.RowKit
theorem results_three {fn : Func} {p u u2 : Tmp} {ty : TypeId} (h : fn.results = #[.cell p ty, .tmp u, .tmp u2]) (tmps : Array Value) (P : Program) (w : World) (g : Nat) (cs : Array Value)
    (hp : tmps.getD p undef = .pointer (some ⟨g, 0, none⟩)) (hl : (loadVar ty ⟨g, 0, none⟩).run P w = .ok (.agg cs) w) : (results fn tmps).run P w = .ok (.tuple #[.agg cs, tmps.getD u undef, tmps.getD u2 undef]) w := by
  have hp' : tmps[p]?.getD undef = .pointer (some ⟨g, 0, none⟩) := by simpa using hp
  simp [results, h, hp', asAddr, hl]
set_option maxRecDepth 100000 in
set_option maxHeartbeats 2000000 in
theorem rget_one_end (l : List UInt8) (v : Value) (w : World) (hv : Bytes w v l) (hL : l.length ≤ 100000) (hl : l.length < 1) :
    Calls Tryd.prog 46 #[v, .int .i64 0] w fun e w' => e = .returned (.tuple #[.agg #[.int .i64 0, .int .i64 0, .slice none 0 0], .int .i64 0, .int .i64 4]) ∧ Below w.heap.size w w' := by
  have HV := Bx.mk hv
  obtain ⟨a, cap, rfl, hc, -, -⟩ := hv
  obtain ⟨n, hnn⟩ : ∃ n, l.length = n := ⟨_, rfl⟩
  rw [hnn] at hl hc HV hL ⊢
  obtain ⟨D, hD⟩ : ∃ D, w.heap.size = D := ⟨_, rfl⟩
  have H0 : Bx ((w.alloc (.cells #[.int .i64 0, .int .i64 0, .slice none 0 0] 90)).heap[D]? = some (.cells #[.int .i64 0, .int .i64 0, .slice none 0 0] 90 (0, 0)) ∧ Below D w (w.alloc (.cells #[.int .i64 0, .int .i64 0, .slice none 0 0] 90)) ∧ D < (w.alloc (.cells #[.int .i64 0, .int .i64 0, .slice none 0 0] 90)).heap.size ∧ Bytes (w.alloc (.cells #[.int .i64 0, .int .i64 0, .slice none 0 0] 90)) (.slice a n cap) l) := Bx.mk ⟨hnew _ _ _ hD.symm, by rw [← hD]; exact below_a _, by simp; omega, HV.out.later (below_a _)⟩
  rw [hD]
  have hn1 : (n : Int) ≤ 100000 := by omega
  have hlt : (n : Int) < 1 := by omega
  clear hnn hL hl hc HV
  go_enter Tryd.func46, Tryd.ntmps46
  go_wp2_with fail
  generalize w.alloc (.cells #[.int .i64 0, .int .i64 0, .slice none 0 0] 90) = w0 at *
  refine (rwidth_any 0 w0 (by omega) (by omega)).mono ?_
  rintro e w1 ⟨rfl, hw1⟩
  rw [hw1, show ((wid 0 : Nat) : Int) = 1 from rfl]
  clear hw1 w1
  go_wp2_with (refine wpList_store_new rfl 90 _ _ rfl D #[.int .i64 0, .int .i64 0, .slice none 0 0] _ _ (by rfl) (by rfl) H0.out.1 rfl (by kernel_rfl) (by simp [Value.oneCell']) ?_; intro w8 hw8 hr8; have hg8 : Bx (w0.grownBy w8 (some D)) := Bx.mk (by rw [hw8]; exact kb_setCells _ _ _); have HR8 := Bx.mk hr8; clear hw8 hr8)
  refine bodyPost_ret (results_three rfl _ _ _ D _ rfl (run_loadVar_row _ D _ _ _ _ _ HR8.out Tryd.underlying90 rfl (by kernel_rfl))) rfl ?_
  exact ⟨rfl, H0.out.2.1.trans (grown_below hg8.out (Nat.le_refl _) (Nat.le_of_lt H0.out.2.2.1))⟩
set_option maxRecDepth 100000 in
set_option maxHeartbeats 2000000 in
theorem rget_one (l : List UInt8) (v : Value) (w : World) (hv : Bytes w v l) (hL : l.length ≤ 100000) (hl : 1 ≤ l.length) :
    Calls Tryd.prog 46 #[v, .int .i64 0] w fun e w' => e = .returned (.tuple #[.agg #[.int .i64 0, .int .i64 (valN (l.take 1) : Int), .slice none 0 0], .int .i64 1, .int .i64 0]) ∧ Below w.heap.size w w' := by
  have HVL : Bx ((valN (l.take 1) : Int) = (256 * 0 + ub (l.getD 0 0))) := Bx.mk (by
    rw [valN_take l 0 (by omega)]
    simp [valN, ub])
  obtain ⟨z, hz⟩ : ∃ z : Int, (valN (l.take 1) : Int) = z := ⟨_, rfl⟩
  rw [hz] at HVL ⊢
  clear hz
  have HV := Bx.mk hv
  obtain ⟨a, cap, rfl, hc, -, -⟩ := hv
  obtain ⟨n, hnn⟩ : ∃ n, l.length = n := ⟨_, rfl⟩
  rw [hnn] at hl hc HV hL ⊢
  obtain ⟨D, hD⟩ : ∃ D, w.heap.size = D := ⟨_, rfl⟩
  have H0 : Bx ((w.alloc (.cells #[.int .i64 0, .int .i64 0, .slice none 0 0] 90)).heap[D]? = some (.cells #[.int .i64 0, .int .i64 0, .slice none 0 0] 90 (0, 0)) ∧ Below D w (w.alloc (.cells #[.int .i64 0, .int .i64 0, .slice none 0 0] 90)) ∧ D < (w.alloc (.cells #[.int .i64 0, .int .i64 0, .slice none 0 0] 90)).heap.size ∧ Bytes (w.alloc (.cells #[.int .i64 0, .int .i64 0, .slice none 0 0] 90)) (.slice a n cap) l) := Bx.mk ⟨hnew _ _ _ hD.symm, by rw [← hD]; exact below_a _, by simp; omega, HV.out.later (below_a _)⟩
  rw [hD]
  have hn1 : (n : Int) ≤ 100000 := by omega
  have hlt : ¬ (n : Int) < 1 := by omega
  obtain ⟨c0, o0, ha0, hc0⟩ := H0.out.2.2.2.cell 0 (by omega)
  subst ha0
  rw [Nat.add_zero] at hc0
  have b0 := ub_nonneg (l.getD 0 0)
  have d0 := ub_le (l.getD 0 0)
  generalize ub (l.getD 0 0) = y0 at *
  clear hnn hL hl hc HV
  go_enter Tryd.func46, Tryd.ntmps46
  go_wp2_with fail
  generalize w.alloc (.cells #[.int .i64 0, .int .i64 0, .slice none 0 0] 90) = w0 at *
  refine (rwidth_any 0 w0 (by omega) (by omega)).mono ?_
  rintro e w1 ⟨rfl, hw1⟩
  rw [hw1, show ((wid 0 : Nat) : Int) = 1 from rfl]
  clear hw1 w1
  have hw : ∀ k : Int, k < n → k < (n : Int) := fun _ h => h
  go_wp2
  refine wp_loop_rounds 2 ?_
  rw [rounds_succ]
  go_wp2
  rw [rounds_succ]
  go_wp2_with (refine wpList_store_new rfl 90 _ _ rfl D #[.int .i64 0, .int .i64 (y0), .slice none 0 0] _ _ (by rfl) (by rfl) H0.out.1 rfl (by kernel_rfl) (by simp [Value.oneCell']) ?_; intro w8 hw8 hr8; have hg8 : Bx (w0.grownBy w8 (some D)) := Bx.mk (by rw [hw8]; exact kb_setCells _ _ _); have HR8 := Bx.mk hr8; clear hw8 hr8)
  refine bodyPost_ret (results_three rfl _ _ _ D _ rfl (run_loadVar_row _ D _ _ _ _ _ HR8.out Tryd.underlying90 rfl (by kernel_rfl))) rfl ?_
  refine ⟨?_, H0.out.2.1.trans (grown_below hg8.out (Nat.le_refl _) (Nat.le_of_lt H0.out.2.2.1))⟩
  rw [show z = y0 by have := HVL.out; omega]
  rfl
set_option maxRecDepth 100000 in
set_option maxHeartbeats 2000000 in
theorem rget_two_end (l : List UInt8) (v : Value) (w : World) (hv : Bytes w v l) (hL : l.length ≤ 100000) (hl : l.length < 2) :
    Calls Tryd.prog 46 #[v, .int .i64 1] w fun e w' => e = .returned (.tuple #[.agg #[.int .i64 0, .int .i64 0, .slice none 0 0], .int .i64 0, .int .i64 4]) ∧ Below w.heap.size w w' := by
  have HV := Bx.mk hv
  obtain ⟨a, cap, rfl, hc, -, -⟩ := hv
  obtain ⟨n, hnn⟩ : ∃ n, l.length = n := ⟨_, rfl⟩
  rw [hnn] at hl hc HV hL ⊢
  obtain ⟨D, hD⟩ : ∃ D, w.heap.size = D := ⟨_, rfl⟩
  have H0 : Bx ((w.alloc (.cells #[.int .i64 0, .int .i64 0, .slice none 0 0] 90)).heap[D]? = some (.cells #[.int .i64 0, .int .i64 0, .slice none 0 0] 90 (0, 0)) ∧ Below D w (w.alloc (.cells #[.int .i64 0, .int .i64 0, .slice none 0 0] 90)) ∧ D < (w.alloc (.cells #[.int .i64 0, .int .i64 0, .slice none 0 0] 90)).heap.size ∧ Bytes (w.alloc (.cells #[.int .i64 0, .int .i64 0, .slice none 0 0] 90)) (.slice a n cap) l) := Bx.mk ⟨hnew _ _ _ hD.symm, by rw [← hD]; exact below_a _, by simp; omega, HV.out.later (below_a _)⟩
  rw [hD]
  have hn1 : (n : Int) ≤ 100000 := by omega
  have hlt : (n : Int) < 2 := by omega
  clear hnn hL hl hc HV
  go_enter Tryd.func46, Tryd.ntmps46
  go_wp2_with fail
  generalize w.alloc (.cells #[.int .i64 0, .int .i64 0, .slice none 0 0] 90) = w0 at *
  refine (rwidth_any 1 w0 (by omega) (by omega)).mono ?_
  rintro e w1 ⟨rfl, hw1⟩
  rw [hw1, show ((wid 1 : Nat) : Int) = 2 from rfl]
  clear hw1 w1
  go_wp2_with (refine wpList_store_new rfl 90 _ _ rfl D #[.int .i64 0, .int .i64 0, .slice none 0 0] _ _ (by rfl) (by rfl) H0.out.1 rfl (by kernel_rfl) (by simp [Value.oneCell']) ?_; intro w8 hw8 hr8; have hg8 : Bx (w0.grownBy w8 (some D)) := Bx.mk (by rw [hw8]; exact kb_setCells _ _ _); have HR8 := Bx.mk hr8; clear hw8 hr8)
  refine bodyPost_ret (results_three rfl _ _ _ D _ rfl (run_loadVar_row _ D _ _ _ _ _ HR8.out Tryd.underlying90 rfl (by kernel_rfl))) rfl ?_
  exact ⟨rfl, H0.out.2.1.trans (grown_below hg8.out (Nat.le_refl _) (Nat.le_of_lt H0.out.2.2.1))⟩
set_option maxRecDepth 100000 in
set_option maxHeartbeats 2000000 in
theorem rget_two (l : List UInt8) (v : Value) (w : World) (hv : Bytes w v l) (hL : l.length ≤ 100000) (hl : 2 ≤ l.length) :
    Calls Tryd.prog 46 #[v, .int .i64 1] w fun e w' => e = .returned (.tuple #[.agg #[.int .i64 1, .int .i64 (valN (l.take 2) : Int), .slice none 0 0], .int .i64 2, .int .i64 0]) ∧ Below w.heap.size w w' := by
  have HVL : Bx ((valN (l.take 2) : Int) = (256 * (256 * 0 + ub (l.getD 0 0)) + ub (l.getD 1 0))) := Bx.mk (by
    rw [valN_take l 1 (by omega)]
    rw [valN_take l 0 (by omega)]
    simp [valN, ub]
    omega)
  obtain ⟨z, hz⟩ : ∃ z : Int, (valN (l.take 2) : Int) = z := ⟨_, rfl⟩
  rw [hz] at HVL ⊢
  clear hz
  have HV := Bx.mk hv
  obtain ⟨a, cap, rfl, hc, -, -⟩ := hv
  obtain ⟨n, hnn⟩ : ∃ n, l.length = n := ⟨_, rfl⟩
  rw [hnn] at hl hc HV hL ⊢
  obtain ⟨D, hD⟩ : ∃ D, w.heap.size = D := ⟨_, rfl⟩
  have H0 : Bx ((w.alloc (.cells #[.int .i64 0, .int .i64 0, .slice none 0 0] 90)).heap[D]? = some (.cells #[.int .i64 0, .int .i64 0, .slice none 0 0] 90 (0, 0)) ∧ Below D w (w.alloc (.cells #[.int .i64 0, .int .i64 0, .slice none 0 0] 90)) ∧ D < (w.alloc (.cells #[.int .i64 0, .int .i64 0, .slice none 0 0] 90)).heap.size ∧ Bytes (w.alloc (.cells #[.int .i64 0, .int .i64 0, .slice none 0 0] 90)) (.slice a n cap) l) := Bx.mk ⟨hnew _ _ _ hD.symm, by rw [← hD]; exact below_a _, by simp; omega, HV.out.later (below_a _)⟩
  rw [hD]
  have hn1 : (n : Int) ≤ 100000 := by omega
  have hlt : ¬ (n : Int) < 2 := by omega
  obtain ⟨c0, o0, ha0, hc0⟩ := H0.out.2.2.2.cell 0 (by omega)
  subst ha0
  rw [Nat.add_zero] at hc0
  obtain ⟨c1, o1, ha1, hc1⟩ := H0.out.2.2.2.cell 1 (by omega)
  injection ha1 with ha1
  injection ha1 with hx1 hy1
  subst hx1
  subst hy1
  have b0 := ub_nonneg (l.getD 0 0)
  have d0 := ub_le (l.getD 0 0)
  generalize ub (l.getD 0 0) = y0 at *
  have b1 := ub_nonneg (l.getD 1 0)
  have d1 := ub_le (l.getD 1 0)
  generalize ub (l.getD 1 0) = y1 at *
  clear hnn hL hl hc HV
  go_enter Tryd.func46, Tryd.ntmps46
  go_wp2_with fail
  generalize w.alloc (.cells #[.int .i64 0, .int .i64 0, .slice none 0 0] 90) = w0 at *
  refine (rwidth_any 1 w0 (by omega) (by omega)).mono ?_
  rintro e w1 ⟨rfl, hw1⟩
  rw [hw1, show ((wid 1 : Nat) : Int) = 2 from rfl]
  clear hw1 w1
  have hw : ∀ k : Int, k < n → k < (n : Int) := fun _ h => h
  go_wp2
  refine wp_loop_rounds 3 ?_
  rw [rounds_succ]
  go_wp2
  rw [rounds_succ]
  go_wp2
  rw [rounds_succ]
  go_wp2_with (refine wpList_store_new rfl 90 _ _ rfl D #[.int .i64 1, .int .i64 (256 * y0 + y1), .slice none 0 0] _ _ (by rfl) (by rfl) H0.out.1 rfl (by kernel_rfl) (by simp [Value.oneCell']) ?_; intro w8 hw8 hr8; have hg8 : Bx (w0.grownBy w8 (some D)) := Bx.mk (by rw [hw8]; exact kb_setCells _ _ _); have HR8 := Bx.mk hr8; clear hw8 hr8)
  refine bodyPost_ret (results_three rfl _ _ _ D _ rfl (run_loadVar_row _ D _ _ _ _ _ HR8.out Tryd.underlying90 rfl (by kernel_rfl))) rfl ?_
  refine ⟨?_, H0.out.2.1.trans (grown_below hg8.out (Nat.le_refl _) (Nat.le_of_lt H0.out.2.2.1))⟩
  rw [show z = 256 * y0 + y1 by have := HVL.out; omega]
  rfl
set_option maxRecDepth 100000 in
set_option maxHeartbeats 2000000 in
theorem rget_four_end (l : List UInt8) (v : Value) (w : World) (hv : Bytes w v l) (hL : l.length ≤ 100000) (hl : l.length < 4) :
    Calls Tryd.prog 46 #[v, .int .i64 2] w fun e w' => e = .returned (.tuple #[.agg #[.int .i64 0, .int .i64 0, .slice none 0 0], .int .i64 0, .int .i64 4]) ∧ Below w.heap.size w w' := by
  have HV := Bx.mk hv
  obtain ⟨a, cap, rfl, hc, -, -⟩ := hv
  obtain ⟨n, hnn⟩ : ∃ n, l.length = n := ⟨_, rfl⟩
  rw [hnn] at hl hc HV hL ⊢
  obtain ⟨D, hD⟩ : ∃ D, w.heap.size = D := ⟨_, rfl⟩
  have H0 : Bx ((w.alloc (.cells #[.int .i64 0, .int .i64 0, .slice none 0 0] 90)).heap[D]? = some (.cells #[.int .i64 0, .int .i64 0, .slice none 0 0] 90 (0, 0)) ∧ Below D w (w.alloc (.cells #[.int .i64 0, .int .i64 0, .slice none 0 0] 90)) ∧ D < (w.alloc (.cells #[.int .i64 0, .int .i64 0, .slice none 0 0] 90)).heap.size ∧ Bytes (w.alloc (.cells #[.int .i64 0, .int .i64 0, .slice none 0 0] 90)) (.slice a n cap) l) := Bx.mk ⟨hnew _ _ _ hD.symm, by rw [← hD]; exact below_a _, by simp; omega, HV.out.later (below_a _)⟩
  rw [hD]
  have hn1 : (n : Int) ≤ 100000 := by omega
  have hlt : (n : Int) < 4 := by omega
  clear hnn hL hl hc HV
  go_enter Tryd.func46, Tryd.ntmps46
  go_wp2_with fail
  generalize w.alloc (.cells #[.int .i64 0, .int .i64 0, .slice none 0 0] 90) = w0 at *
  refine (rwidth_any 2 w0 (by omega) (by omega)).mono ?_
  rintro e w1 ⟨rfl, hw1⟩
  rw [hw1, show ((wid 2 : Nat) : Int) = 4 from rfl]
  clear hw1 w1
  go_wp2_with (refine wpList_store_new rfl 90 _ _ rfl D #[.int .i64 0, .int .i64 0, .slice none 0 0] _ _ (by rfl) (by rfl) H0.out.1 rfl (by kernel_rfl) (by simp [Value.oneCell']) ?_; intro w8 hw8 hr8; have hg8 : Bx (w0.grownBy w8 (some D)) := Bx.mk (by rw [hw8]; exact kb_setCells _ _ _); have HR8 := Bx.mk hr8; clear hw8 hr8)
  refine bodyPost_ret (results_three rfl _ _ _ D _ rfl (run_loadVar_row _ D _ _ _ _ _ HR8.out Tryd.underlying90 rfl (by kernel_rfl))) rfl ?_
  exact ⟨rfl, H0.out.2.1.trans (grown_below hg8.out (Nat.le_refl _) (Nat.le_of_lt H0.out.2.2.1))⟩
set_option maxRecDepth 100000 in
set_option maxHeartbeats 2000000 in
theorem rget_four (l : List UInt8) (v : Value) (w : World) (hv : Bytes w v l) (hL : l.length ≤ 100000) (hl : 4 ≤ l.length) :
    Calls Tryd.prog 46 #[v, .int .i64 2] w fun e w' => e = .returned (.tuple #[.agg #[.int .i64 2, .int .i64 (valN (l.take 4) : Int), .slice none 0 0], .int .i64 4, .int .i64 0]) ∧ Below w.heap.size w w' := by
  have HVL : Bx ((valN (l.take 4) : Int) = (256 * (256 * (256 * (256 * 0 + ub (l.getD 0 0)) + ub (l.getD 1 0)) + ub (l.getD 2 0)) + ub (l.getD 3 0))) := Bx.mk (by
    rw [valN_take l 3 (by omega)]
    rw [valN_take l 2 (by omega)]
    rw [valN_take l 1 (by omega)]
    rw [valN_take l 0 (by omega)]
    simp [valN, ub]
    omega)
  obtain ⟨z, hz⟩ : ∃ z : Int, (valN (l.take 4) : Int) = z := ⟨_, rfl⟩
  rw [hz] at HVL ⊢
  clear hz
  have HV := Bx.mk hv
  obtain ⟨a, cap, rfl, hc, -, -⟩ := hv
  obtain ⟨n, hnn⟩ : ∃ n, l.length = n := ⟨_, rfl⟩
  rw [hnn] at hl hc HV hL ⊢
  obtain ⟨D, hD⟩ : ∃ D, w.heap.size = D := ⟨_, rfl⟩
  have H0 : Bx ((w.alloc (.cells #[.int .i64 0, .int .i64 0, .slice none 0 0] 90)).heap[D]? = some (.cells #[.int .i64 0, .int .i64 0, .slice none 0 0] 90 (0, 0)) ∧ Below D w (w.alloc (.cells #[.int .i64 0, .int .i64 0, .slice none 0 0] 90)) ∧ D < (w.alloc (.cells #[.int .i64 0, .int .i64 0, .slice none 0 0] 90)).heap.size ∧ Bytes (w.alloc (.cells #[.int .i64 0, .int .i64 0, .slice none 0 0] 90)) (.slice a n cap) l) := Bx.mk ⟨hnew _ _ _ hD.symm, by rw [← hD]; exact below_a _, by simp; omega, HV.out.later (below_a _)⟩
  rw [hD]
  have hn1 : (n : Int) ≤ 100000 := by omega
  have hlt : ¬ (n : Int) < 4 := by omega
  obtain ⟨c0, o0, ha0, hc0⟩ := H0.out.2.2.2.cell 0 (by omega)
  subst ha0
  rw [Nat.add_zero] at hc0
  obtain ⟨c1, o1, ha1, hc1⟩ := H0.out.2.2.2.cell 1 (by omega)
  injection ha1 with ha1
  injection ha1 with hx1 hy1
  subst hx1
  subst hy1
  obtain ⟨c2, o2, ha2, hc2⟩ := H0.out.2.2.2.cell 2 (by omega)
  injection ha2 with ha2
  injection ha2 with hx2 hy2
  subst hx2
  subst hy2
  obtain ⟨c3, o3, ha3, hc3⟩ := H0.out.2.2.2.cell 3 (by omega)
  injection ha3 with ha3
  injection ha3 with hx3 hy3
  subst hx3
  subst hy3
  have b0 := ub_nonneg (l.getD 0 0)
  have d0 := ub_le (l.getD 0 0)
  generalize ub (l.getD 0 0) = y0 at *
  have b1 := ub_nonneg (l.getD 1 0)
  have d1 := ub_le (l.getD 1 0)
  generalize ub (l.getD 1 0) = y1 at *
  have b2 := ub_nonneg (l.getD 2 0)
  have d2 := ub_le (l.getD 2 0)
  generalize ub (l.getD 2 0) = y2 at *
  have b3 := ub_nonneg (l.getD 3 0)
  have d3 := ub_le (l.getD 3 0)
  generalize ub (l.getD 3 0) = y3 at *
  clear hnn hL hl hc HV
  go_enter Tryd.func46, Tryd.ntmps46
  go_wp2_with fail
  generalize w.alloc (.cells #[.int .i64 0, .int .i64 0, .slice none 0 0] 90) = w0 at *
  refine (rwidth_any 2 w0 (by omega) (by omega)).mono ?_
  rintro e w1 ⟨rfl, hw1⟩
  rw [hw1, show ((wid 2 : Nat) : Int) = 4 from rfl]
  clear hw1 w1
  have hw : ∀ k : Int, k < n → k < (n : Int) := fun _ h => h
  go_wp2
  refine wp_loop_rounds 5 ?_
  rw [rounds_succ]
  go_wp2
  rw [rounds_succ]
  go_wp2
  rw [rounds_succ]
  go_wp2
  rw [rounds_succ]
  go_wp2
  rw [rounds_succ]
  go_wp2_with (refine wpList_store_new rfl 90 _ _ rfl D #[.int .i64 2, .int .i64 (256 * (256 * (256 * y0 + y1) + y2) + y3), .slice none 0 0] _ _ (by rfl) (by rfl) H0.out.1 rfl (by kernel_rfl) (by simp [Value.oneCell']) ?_; intro w8 hw8 hr8; have hg8 : Bx (w0.grownBy w8 (some D)) := Bx.mk (by rw [hw8]; exact kb_setCells _ _ _); have HR8 := Bx.mk hr8; clear hw8 hr8)
  refine bodyPost_ret (results_three rfl _ _ _ D _ rfl (run_loadVar_row _ D _ _ _ _ _ HR8.out Tryd.underlying90 rfl (by kernel_rfl))) rfl ?_
  refine ⟨?_, H0.out.2.1.trans (grown_below hg8.out (Nat.le_refl _) (Nat.le_of_lt H0.out.2.2.1))⟩
  rw [show z = 256 * (256 * (256 * y0 + y1) + y2) + y3 by have := HVL.out; omega]
  rfl
end Go.Proofs.YtiengbmnfbbgoaaDoor
