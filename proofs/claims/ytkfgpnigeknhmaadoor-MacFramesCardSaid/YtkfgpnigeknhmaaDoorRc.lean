/-
  The walks of the document's tables: whether a power is small.
-/
import Derived.Test.YtkfgpnigeknhmaaDoorRb
namespace Go.Proofs.YtkfgpnigeknhmaaDoor
open Go Go.RowKit
theorem wor_drop (l : List Nat) (k : Nat) : wor l = wor (l.take k) + wor (l.drop k) * 65536 ^ k := by
  induction l generalizing k with
  | nil => simp [wor]
  | cons y l ih =>
    match k with
    | 0 => simp [wor]
    | k + 1 =>
      simp only [List.take_succ_cons, List.drop_succ_cons, wor, Nat.pow_succ]
      have := ih k
      rw [← Nat.mul_assoc, Nat.mul_comm (wor (l.drop k) * 65536 ^ k) 65536]
      omega
theorem wor_take_lt (l : List Nat) (k : Nat) (h : ∀ i, l.getD i 0 < 65536) (hk : k ≤ l.length) : wor (l.take k) < 65536 ^ k := by
  have := wor_lt (l.take k) (fun i => by
    by_cases hi : i < k
    · have e : (l.take k).getD i 0 = l.getD i 0 := by simp [hi]
      rw [e]; exact h i
    · have e : (l.take k).getD i 0 = 0 := by rw [List.getD_eq_getElem?_getD, List.getElem?_eq_none (by rw [List.length_take]; omega)]; rfl
      rw [e]; omega)
  rwa [List.length_take, Nat.min_eq_left hk] at this
theorem drop_eq (z t : List Nat) (k : Nat) (hz : z.length = 12) (ht : t.length = 12) (h : ∀ j, k ≤ j → z.getD j 0 = t.getD j 0) : z.drop k = t.drop k := by
  apply List.ext_getElem (by simp [hz, ht])
  intro i h1 h2
  have hh := h (k + i) (by omega)
  simp only [List.length_drop] at h1 h2
  simp only [List.getElem_drop]
  have h3 : k + i < z.length := by omega
  have h4 : k + i < t.length := by omega
  simpa [h3, h4] using hh
theorem wor_less (z t : List Nat) (k : Nat) (hz : Dig z) (ht : Dig t) (hk : k < 12) (h : ∀ j, k + 1 ≤ j → z.getD j 0 = t.getD j 0) (hl : z.getD k 0 < t.getD k 0) : wor z < wor t := by
  have e := drop_eq z t (k + 1) hz.1 ht.1 h
  rw [wor_drop z (k + 1), wor_drop t (k + 1), e]
  have a := wor_take_succ z k (by rw [hz.1]; exact hk)
  have b := wor_take_succ t k (by rw [ht.1]; exact hk)
  have c := wor_take_lt z k hz.2 (by rw [hz.1]; omega)
  have d : (z.getD k 0 + 1) * 65536 ^ k ≤ t.getD k 0 * 65536 ^ k := Nat.mul_le_mul_right _ hl
  rw [Nat.add_mul] at d
  omega
theorem wor_same (z t : List Nat) (hz : Dig z) (ht : Dig t) (h : ∀ j, 0 ≤ j → z.getD j 0 = t.getD j 0) : wor z = wor t := by
  have := drop_eq z t 0 hz.1 ht.1 h
  simp only [List.drop_zero] at this
  rw [this]
/-- The number with which a power is compared. -/
def topOf (n p : Nat) : List Nat := (List.replicate 12 0).set (2 * n) p
theorem dig_top (n p : Nat) (hp : p < 65536) : Dig (topOf n p) := by
  refine ⟨by simp [topOf], fun i => ?_⟩
  unfold topOf
  rw [List.getD_eq_getElem?_getD, List.getElem?_set]
  split
  · split <;> simp <;> omega
  · rw [List.getElem?_replicate]; split <;> simp
theorem wor_top2 (p : Nat) : wor (topOf 2 p) = p * 2 ^ 64 := by
  simp [topOf, wor, List.replicate]; omega
theorem wor_top3 (p : Nat) : wor (topOf 3 p) = p * 2 ^ 96 := by
  simp [topOf, wor, List.replicate]; omega
/-- The memory while a power is made: block B holds it. -/
def Pow (w : World) (B : Nat) (y j : Nat) (z : List Nat) (wr : World) : Prop :=
  Below w.heap.size w wr ∧ w.heap.size ≤ B ∧ B < wr.heap.size ∧ wr.heap[B]? = some (.cells (u64s z) 94 (0, 0)) ∧ Dig z ∧ wor z = y ^ j
theorem pow_fits (y j : Nat) (hy : y ≤ 137438953472) (hj : j ≤ 3) : y ^ j < 65536 ^ 12 :=
  Nat.lt_of_le_of_lt (Nat.le_trans (Nat.pow_le_pow_left hy j) (Nat.pow_le_pow_right (by omega) hj)) (by decide)
theorem range64 {w : World} {b : Nat} {t : TypeId} {z : List Nat} (h : w.heap[b]? = some (.cells (u64s z) t (0, 0))) : w.rangeAt b 0 (u64s z).toList := fun j v hv => by
  rw [cell_of_row _ _ _ _ _ _ h, Nat.zero_add]
  rwa [Array.getElem?_toList] at hv
theorem st64 {P : Program} (W : World) (b : Nat) (m : List Nat) (hm : m.length = 12) (h : W.there b 0 12) : (storeCells ⟨b, 0, none⟩ (u64s m).toList).run P W = .ok () (W.setCells b 0 (u64s m).toList) := by
  have l8 : (u64s m).toList.length = 12 := by rw [Array.length_toList, u64s_size, hm]
  have := run_storeCells_cells (P := P) b 0 (u64s m).toList 0 W (fun j hj => by have := (h j (by omega)).1; simpa using this) (fun j hj => by have := (h j (by omega)).2; simpa using this) (fun v hv => by
    have h1 := one_u64s m
    rw [Array.all_eq_true'] at h1
    exact h1 v (by simpa using hv))
  simpa using this
theorem one_list (z : List Nat) : ∀ v ∈ List.map (fun (x : Nat) => Value.int .u64 (x : Int)) z, v.oneCell' = true := by
  intro v hv
  obtain ⟨x, _, rfl⟩ := List.mem_map.1 hv
  rfl
theorem sk64_set {W : World} {b : Nat} {z : List Nat} {vs : List Value} (h : W.there b 0 12) (e : (W.setCells b 0 vs).rangeAt b 0 (u64s z).toList) : (W.setCells b 0 vs).rangeAt b 0 (u64s z).toList ∧ (W.setCells b 0 vs).there b 0 12 := ⟨e, World.there_setCells h _ _ _⟩
theorem sk64 {w2 W : World} {b : Nat} {T : TypeId} {z : List Nat} (H2 : w2.heap[b]? = some (.cells (u64s z) T (0, 0))) (hz : z.length = 12) (e : W.heap[b]? = w2.heap[b]?) :
    W.rangeAt b 0 (u64s z).toList ∧ W.there b 0 12 :=
  ⟨range64 (by rw [e]; exact H2), there_row (by rw [e]; exact H2) 0 12 (by rw [u64s_size, hz]; omega)⟩
theorem step_ld {P : Program} {ops : Array Oper} {o : Oper} {a : Act} {w : World} {K : Act → World → Prop} {Q : Exit → Act → World → Prop} {E : Prop} (hgd : o.guard = none) (ty : TypeId) (x : Operand) (ho : o.op = .load ty x)
    (g : Nat) (hx : a.eval x = .pointer (some ⟨g, 0, none⟩)) (t : TypeId) (cs : Array Value) (d : TypeDesc) (hg : w.heap[g]? = some (.cells cs t (0, 0)))
    (hu : P.underlying ty = some d) (hd : (match d with | .struct _ | .array _ _ => true | _ => false) = true) (hi : (P.info? ty).map (·.size) = some cs.size)
    (h : K (a.put o.dst (.agg cs)) w) : if Region.wanted o (yielded ops a.tmps) = true then Oper.wp P o a w K Q else E := by
  have hw : Region.wanted o (yielded ops a.tmps) = true := by simp [Region.wanted, hgd]
  rw [if_pos hw]
  exact wp_load_row ty x ho g hx t cs (0, 0) d hg hu hd hi h
theorem step_st {P : Program} {ops : Array Oper} {o : Oper} {a : Act} {w : World} {K : Act → World → Prop} {Q : Exit → Act → World → Prop} {E : Prop} (hgd : o.guard = none) (ty : TypeId) (x y : Operand) (ho : o.op = .store ty x y)
    (b : Nat) (cs : Array Value) (hx : a.eval x = .pointer (some ⟨b, 0, none⟩)) (hy : a.eval y = .agg cs) (ht : w.there b 0 cs.size) (hi : (P.info? ty).map (·.size) = some cs.size) (h1 : cs.all (·.oneCell') = true)
    (h : K (a.put o.dst undef) (w.setCells b 0 cs.toList)) : if Region.wanted o (yielded ops a.tmps) = true then Oper.wp P o a w K Q else E := by
  have hw : Region.wanted o (yielded ops a.tmps) = true := by simp [Region.wanted, hgd]
  rw [if_pos hw]
  exact wp_store_mid ty x y ho b 0 cs hx hy ht hi h1 h
theorem twelve (z : List Nat) (h : z.length = 12) : ∃ z0 z1 z2 z3 z4 z5 z6 z7 z8 z9 z10 z11, z = [z0, z1, z2, z3, z4, z5, z6, z7, z8, z9, z10, z11] := by
  match z, h with
  | [z0, z1, z2, z3, z4, z5, z6, z7, z8, z9, z10, z11], _ => exact ⟨z0, z1, z2, z3, z4, z5, z6, z7, z8, z9, z10, z11, rfl⟩
attribute [local go_sem ↓] Go.wp_at_zero Go.wp_at_succ
set_option maxRecDepth 100000 in
set_option maxHeartbeats 1000000 in
theorem small_any (y n p : Nat) (w : World) (hn : n = 2 ∨ n = 3) (hy : y ≤ 137438953472) (hp : p < 65536) : Calls Tryd.prog 51 #[.int .u64 (y : Int), .int .u64 (n : Int), .int .u64 (p : Int)] w fun e w' => e = .returned (.bool (decide (y ^ n ≤ wor (topOf n p)))) ∧ Below w.heap.size w w' := by
  have hn1 : n ≤ 3 := by omega
  have hn2 : 2 ≤ n := by omega
  have hn3 : (n : Int) ≤ 3 := by omega
  obtain ⟨r, hr⟩ : ∃ r, decide (y ^ n ≤ wor (topOf n p)) = r := ⟨_, rfl⟩
  have HR := Bx.mk hr
  rw [hr]
  clear hr
  go_enter Tryd.func51, Tryd.ntmps51
  go_wp2_with fail
  refine (parts_any y w (by omega)).mono ?_
  rintro e w1 ⟨rfl, hb1⟩
  obtain ⟨ps, hps⟩ : ∃ ps, partsOf y = ps := ⟨_, rfl⟩
  have HP : Bx (Dig ps ∧ wor ps = y) := Bx.mk (by rw [← hps]; exact ⟨dig_parts y, wor_parts y (by omega)⟩)
  have HPC : Bx (∀ W : World, Calls Tryd.prog 57 #[.int .u64 (y : Int)] W fun e w' => e = .returned (.agg (u64s ps)) ∧ Below W.heap.size W w') := Bx.mk (fun W => by rw [← hps]; exact parts_any y W (by omega))
  rw [hps]
  clear hps
  have HN : Bx ((w1.alloc (.cells #[.int .u64 0, .int .u64 0, .int .u64 0, .int .u64 0, .int .u64 0, .int .u64 0, .int .u64 0, .int .u64 0, .int .u64 0, .int .u64 0, .int .u64 0, .int .u64 0] 94)).heap[w1.heap.size]? = some (.cells (u64s (List.replicate 12 0)) 94 (0, 0))) := Bx.mk (by rw [hnew _ _ _ rfl, ← zero12])
  have HI : Bx ((Tryd.prog.info? 94).map (·.size) = some (u64s ps).size) := Bx.mk (by rw [u64s_size, HP.out.1.1]; kernel_rfl)
  have HT : Bx ((w1.alloc (.cells #[.int .u64 0, .int .u64 0, .int .u64 0, .int .u64 0, .int .u64 0, .int .u64 0, .int .u64 0, .int .u64 0, .int .u64 0, .int .u64 0, .int .u64 0, .int .u64 0] 94)).there w1.heap.size 0 (u64s ps).size) := Bx.mk (there_row HN.out 0 _ (by rw [u64s_size, u64s_size, HP.out.1.1]; simp))
  have H1 : Bx (Pow w w1.heap.size y 1 ps ((w1.alloc (.cells #[.int .u64 0, .int .u64 0, .int .u64 0, .int .u64 0, .int .u64 0, .int .u64 0, .int .u64 0, .int .u64 0, .int .u64 0, .int .u64 0, .int .u64 0, .int .u64 0] 94)).setCells w1.heap.size 0 (u64s ps).toList)) := Bx.mk ⟨below_setCells hb1.size _ _ _ _ (hb1.alloc hb1.size _), hb1.size, by rw [size_setCells]; simp, heap_setCells_all HN.out (by rw [u64s_size, u64s_size, HP.out.1.1]; simp), HP.out.1, by rw [HP.out.2, Nat.pow_one]⟩
  have HB1 := Bx.mk hb1.size
  clear hb1
  go_wp2_with (refine wpList_store_mid rfl 94 _ _ rfl w1.heap.size 0 _ (by rfl) (by rfl) HT.out HI.out (one_u64s _) ?_)
  clear HT HN
  generalize (w1.alloc (.cells #[.int .u64 0, .int .u64 0, .int .u64 0, .int .u64 0, .int .u64 0, .int .u64 0, .int .u64 0, .int .u64 0, .int .u64 0, .int .u64 0, .int .u64 0, .int .u64 0] 94)).setCells w1.heap.size 0 (u64s ps).toList = w2 at *
  obtain ⟨B, hB⟩ : ∃ B, w1.heap.size = B := ⟨_, rfl⟩
  rw [hB] at H1 HB1 ⊢
  clear hB
  go_loopw [8] (fun i wr => ∃ j : Nat, 1 ≤ j ∧ j ≤ n ∧ i = .int .u64 j ∧ Bx (∃ z, Pow w B y j z wr)) (fun i _ => 3 - (intOf i).toNat)
  case atStart => exact ⟨1, by omega, by omega, rfl, Bx.mk ⟨ps, H1.out⟩⟩
  case round =>
    clear H1
    obtain ⟨j, hj1, hj2, rfl, HZ⟩ := hrel
    by_cases hlt : j < n
    · obtain ⟨z, hz⟩ := HZ.out
      have HPw := Bx.mk hz
      have hzl := hz.2.2.2.2.1.1
      have hrow := Bx.mk hz.2.2.2.1
      clear HZ
      have hBl : B < wr.heap.size := hz.2.2.1
      have hji : (j : Int) < (n : Int) := by omega
      have HIz : Bx ((Tryd.prog.info? 94).map (·.size) = some (u64s z).size) := Bx.mk (by rw [u64s_size, hzl]; kernel_rfl)
      have HZL := Bx.mk hzl
      have HDig := Bx.mk hz.2.2.2.2.1
      clear hz hzl
      go_wp2
      obtain ⟨z0, z1, z2, z3, z4, z5, z6, z7, z8, z9, z10, z11, rfl⟩ := twelve z HZL.out
      have c0 : wr.cell? ⟨B, 0, none⟩ = some (.int .u64 (z0 : Int)) := by rw [cell_of_row _ _ _ _ _ _ hrow.out]; rfl
      have c1 : wr.cell? ⟨B, 1, none⟩ = some (.int .u64 (z1 : Int)) := by rw [cell_of_row _ _ _ _ _ _ hrow.out]; rfl
      have c2 : wr.cell? ⟨B, 2, none⟩ = some (.int .u64 (z2 : Int)) := by rw [cell_of_row _ _ _ _ _ _ hrow.out]; rfl
      have c3 : wr.cell? ⟨B, 3, none⟩ = some (.int .u64 (z3 : Int)) := by rw [cell_of_row _ _ _ _ _ _ hrow.out]; rfl
      have c4 : wr.cell? ⟨B, 4, none⟩ = some (.int .u64 (z4 : Int)) := by rw [cell_of_row _ _ _ _ _ _ hrow.out]; rfl
      have c5 : wr.cell? ⟨B, 5, none⟩ = some (.int .u64 (z5 : Int)) := by rw [cell_of_row _ _ _ _ _ _ hrow.out]; rfl
      have c6 : wr.cell? ⟨B, 6, none⟩ = some (.int .u64 (z6 : Int)) := by rw [cell_of_row _ _ _ _ _ _ hrow.out]; rfl
      have c7 : wr.cell? ⟨B, 7, none⟩ = some (.int .u64 (z7 : Int)) := by rw [cell_of_row _ _ _ _ _ _ hrow.out]; rfl
      have c8 : wr.cell? ⟨B, 8, none⟩ = some (.int .u64 (z8 : Int)) := by rw [cell_of_row _ _ _ _ _ _ hrow.out]; rfl
      have c9 : wr.cell? ⟨B, 9, none⟩ = some (.int .u64 (z9 : Int)) := by rw [cell_of_row _ _ _ _ _ _ hrow.out]; rfl
      have c10 : wr.cell? ⟨B, 10, none⟩ = some (.int .u64 (z10 : Int)) := by rw [cell_of_row _ _ _ _ _ _ hrow.out]; rfl
      have c11 : wr.cell? ⟨B, 11, none⟩ = some (.int .u64 (z11 : Int)) := by rw [cell_of_row _ _ _ _ _ _ hrow.out]; rfl
      go_region_with (first | (go_at_call 57; refine (HPC.out _).mono ?_; rintro e w3 ⟨rfl, hb3⟩; have hc3 : ∀ o, w3.cell? ⟨B, o, none⟩ = wr.cell? ⟨B, o, none⟩ := fun o => hb3.cell (p := ⟨B, o, none⟩) hBl) | (go_at_call 58; refine (times_any [z0, z1, z2, z3, z4, z5, z6, z7, z8, z9, z10, z11] ps _ HDig.out HP.out.1).mono ?_; rintro e w4 ⟨zz, rfl, hz2, hb4⟩; have hsz : (u64s zz).size = 12 := (by rw [u64s_size]; exact hz2.1.1); have hst := st64 (P := Tryd.prog) w4 B zz hz2.1.1 (sk64 hrow.out HZL.out ((hb4.block _ (Nat.lt_of_lt_of_le hBl hb3.size)).trans (below_heap hb3 rfl _ hBl))).2))
      all_goals
        have H5 : Bx (∃ z, Pow w B y (j + 1) z (w4.setCells B 0 (u64s zz).toList)) := Bx.mk (by
          obtain ⟨q1, q2, q3, q4, q5, q6⟩ := HPw.out
          have hb34 : Below w.heap.size w w4 := (((below_drewN q1 1).trans (hb3.mono q1.size))).trans (hb4.mono (Nat.le_trans q1.size hb3.size))
          refine ⟨zz, below_setCells q2 _ _ _ _ hb34, q2, by rw [size_setCells]; exact Nat.lt_of_lt_of_le hBl (Nat.le_trans hb3.size hb4.size), heap_setCells_all ((hb4.block _ (Nat.lt_of_lt_of_le hBl hb3.size)).trans ((below_heap hb3 rfl _ hBl).trans hrow.out)) (by rw [u64s_size, u64s_size, hz2.1.1, HZL.out]), hz2.1, ?_⟩
          rw [hz2.2, q6, HP.out.2, ← Nat.pow_succ, Nat.mod_eq_of_lt (pow_fits y (j + 1) hy (by omega))])
        clear hst hsz hz2 hb4 hb3
        generalize w4.setCells B 0 (u64s zz).toList = w5 at *
        clear c0 c1 c2 c3 c4 c5 c6 c7 c8 c9 c10 c11
        go_wp2
        go_roundw
        case rel => exact ⟨j + 1, by omega, by omega, by go_num, H5⟩
        case measure => simp [intOf]; omega
    · have ej : j = n := by omega
      obtain ⟨z, hz⟩ := HZ.out
      rw [ej] at hz
      have HPw := Bx.mk hz
      clear HZ hz ej
      have HTP : Bx (Dig (topOf n p)) := Bx.mk (dig_top n p hp)
      have n1 : 2 * (n : Int) < 12 := by omega
      have n2 : (2 * (n : Int)).toNat = 2 * n := by omega
      have hcz : ([.int .u64 0, .int .u64 0, .int .u64 0, .int .u64 0, .int .u64 0, .int .u64 0, .int .u64 0, .int .u64 0, .int .u64 0, .int .u64 0, .int .u64 0, .int .u64 0] : List Value)[2 * n]? = some (.int .u64 0) := by rcases hn with rfl | rfl <;> rfl
      go_wp2
      clear hcz n1 n2
      have H6 : Bx (Below w.heap.size w (wr.alloc (.cells ((([.int .u64 0, .int .u64 0, .int .u64 0, .int .u64 0, .int .u64 0, .int .u64 0, .int .u64 0, .int .u64 0, .int .u64 0, .int .u64 0, .int .u64 0, .int .u64 0] : List Value).set (2 * n) (.int .u64 (p : Int))).toArray) 94)) ∧ (wr.alloc (.cells ((([.int .u64 0, .int .u64 0, .int .u64 0, .int .u64 0, .int .u64 0, .int .u64 0, .int .u64 0, .int .u64 0, .int .u64 0, .int .u64 0, .int .u64 0, .int .u64 0] : List Value).set (2 * n) (.int .u64 (p : Int))).toArray) 94)).heap[B]? = some (.cells (u64s z) 94 (0, 0)) ∧ (wr.alloc (.cells ((([.int .u64 0, .int .u64 0, .int .u64 0, .int .u64 0, .int .u64 0, .int .u64 0, .int .u64 0, .int .u64 0, .int .u64 0, .int .u64 0, .int .u64 0, .int .u64 0] : List Value).set (2 * n) (.int .u64 (p : Int))).toArray) 94)).heap[wr.heap.size]? = some (.cells (u64s (topOf n p)) 94 (0, 0))) := Bx.mk (by
        obtain ⟨q1, q2, q3, q4, q5, q6⟩ := HPw.out
        refine ⟨q1.alloc q1.size _, by rw [hold _ _ _ q3]; exact q4, ?_⟩
        rw [hnew _ _ _ rfl]
        congr 2
        unfold topOf
        rw [← u64s_set, zero12, List.setIfInBounds_toArray])
      have HZ : Bx (Dig z ∧ wor z = y ^ n) := Bx.mk HPw.out.2.2.2.2
      clear HPw
      generalize wr.alloc (.cells ((([.int .u64 0, .int .u64 0, .int .u64 0, .int .u64 0, .int .u64 0, .int .u64 0, .int .u64 0, .int .u64 0, .int .u64 0, .int .u64 0, .int .u64 0, .int .u64 0] : List Value).set (2 * n) (.int .u64 (p : Int))).toArray) 94) = w6 at *
      generalize wr.heap.size = T at *
      generalize topOf n p = t at *
      go_loopw [10] (fun i wr => ∃ k q : Nat, k ≤ 12 ∧ i = .int .i64 ((k : Int) - 1) ∧ Bx (∀ j, k ≤ j → z.getD j 0 = t.getD j 0) ∧ wr = w6.drewN q) (fun i _ => ((intOf i) + 1).toNat)
      case atStart => exact ⟨12, 0, by omega, rfl, Bx.mk (fun j hj => by
        rw [List.getD_eq_getElem?_getD, List.getD_eq_getElem?_getD, List.getElem?_eq_none (by rw [HZ.out.1.1]; omega), List.getElem?_eq_none (by rw [HTP.out.1]; omega)]), rfl⟩
      case round =>
        obtain ⟨k, nd, hk, rfl, HE, rfl⟩ := hrel
        by_cases hlt : 1 ≤ k
        · obtain ⟨i, rfl⟩ : ∃ i, k = i + 1 := ⟨k - 1, by omega⟩
          have ei : ((i + 1 : Nat) : Int) - 1 = (i : Int) := by omega
          rw [ei]
          clear ei
          have c1 : w6.cell? ⟨B, i, none⟩ = some (.int .u64 ((z.getD i 0 : Nat) : Int)) := by rw [cell_of_row _ _ _ _ _ _ H6.out.2.1]; exact u64s_get _ _ (by rw [HZ.out.1.1]; omega)
          have c2 : w6.cell? ⟨T, i, none⟩ = some (.int .u64 ((t.getD i 0 : Nat) : Int)) := by rw [cell_of_row _ _ _ _ _ _ H6.out.2.2]; exact u64s_get _ _ (by rw [HTP.out.1]; omega)
          have hi1 : (i : Int) < 12 := by omega
          by_cases he : z.getD i 0 = t.getD i 0
          · have HE2 : Bx (∀ j, i ≤ j → z.getD j 0 = t.getD j 0) := Bx.mk (fun j hj => by
              by_cases h : j = i
              · rw [h]; exact he
              · exact HE.out j (by omega))
            rw [he] at c1
            clear he HE
            generalize t.getD i 0 = x at *
            have e1 : ((x : Int) != (x : Int)) = false := by simp
            go_wp2
            go_quiet (fail)
            go_wp2
            go_roundw
            case rel => exact ⟨i, _, by omega, rfl, HE2, rfl⟩
            case measure => simp [intOf]
          · have HL : Bx (r = decide (z.getD i 0 < t.getD i 0)) := Bx.mk (by
              rw [← HR.out, ← HZ.out.2]
              by_cases hl : z.getD i 0 < t.getD i 0
              · have := wor_less z t i HZ.out.1 HTP.out (by omega) HE.out hl
                rw [decide_eq_true (by omega), decide_eq_true (by omega)]
              · have := wor_less t z i HTP.out HZ.out.1 (by omega) (fun j hj => (HE.out j hj).symm) (by omega)
                rw [decide_eq_false (by omega), decide_eq_false (by omega)])
            have e1 : ((z.getD i 0 : Int) != (t.getD i 0 : Int)) = true := by simp only [bne_iff_ne, ne_eq]; omega
            clear he HE
            generalize z.getD i 0 = x at *
            generalize t.getD i 0 = u at *
            go_wp2
            go_quiet (fail)
            go_wp2
            go_quiet (fail)
            go_wp2
            go_ret
            exact ⟨by rw [HL.out]; rfl, below_drewN (below_drewN (below_drewN H6.out.1 _) _) _⟩
        · have HT : Bx (r = true) := Bx.mk (by
            rw [← HR.out, ← HZ.out.2, wor_same z t HZ.out.1 HTP.out (fun j hj => HE.out j (by omega))]
            exact decide_eq_true (Nat.le_refl _))
          have ek : k = 0 := by omega
          subst ek
          go_wp2
          go_ret
          exact ⟨by rw [HT.out]; rfl, below_drewN H6.out.1 _⟩
/-- A root's bits, found from above. -/
def rootN (p n : Nat) : Nat → Nat → Nat
  | 0, x => x
  | b + 1, x => if (x + 2 ^ b) ^ n ≤ wor (topOf n p) then rootN p n b (x + 2 ^ b) else rootN p n b x
theorem rootN_step (p n b x : Nat) : rootN p n (b + 1) x = rootN p n b (if decide ((x + 2 ^ b) ^ n ≤ wor (topOf n p)) = true then x + 2 ^ b else x) := by
  show (if (x + 2 ^ b) ^ n ≤ wor (topOf n p) then rootN p n b (x + 2 ^ b) else rootN p n b x) = _
  by_cases h : (x + 2 ^ b) ^ n ≤ wor (topOf n p)
  · rw [if_pos h, if_pos (by simpa using h)]
  · rw [if_neg h, if_neg (by simpa using h)]
set_option maxRecDepth 100000 in
set_option maxHeartbeats 400000 in
theorem root_any (n p : Nat) (w : World) (hn : n = 2 ∨ n = 3) (hp : p < 65536) : Calls Tryd.prog 41 #[.int .u64 (p : Int), .int .u64 (n : Int)] w fun e w' => e = .returned (.int .u32 (uv (BitVec.ofNat 32 (rootN p n 36 0)))) ∧ Below w.heap.size w w' := by
  obtain ⟨res, hres⟩ : ∃ res, rootN p n 36 0 = res := ⟨_, rfl⟩
  have HR := Bx.mk hres
  rw [hres]
  clear hres
  go_enter Tryd.func41, Tryd.ntmps41
  go_wp2
  go_loopw [5, 6] (fun xx bb wr => ∃ b x : Nat, b ≤ 36 ∧ bb = .int .i64 ((b : Int) - 1) ∧ xx = .int .u64 (x : Int) ∧ Bx (rootN p n b x = res ∧ x + 2 ^ b ≤ 2 ^ 36 ∧ Below w.heap.size w wr)) (fun _ bb _ => ((intOf bb) + 1).toNat)
  case atStart => exact ⟨36, 0, by omega, rfl, rfl, Bx.mk ⟨HR.out, by omega, Below.refl _ _⟩⟩
  case round =>
    clear HR
    obtain ⟨k, x, hk, rfl, rfl, HE⟩ := hrel
    by_cases hlt : 1 ≤ k
    · obtain ⟨b, rfl⟩ : ∃ b, k = b + 1 := ⟨k - 1, by omega⟩
      have ei : ((b + 1 : Nat) : Int) - 1 = (b : Int) := by omega
      rw [ei]
      clear ei
      have hb36 : b < 36 := by omega
      have hpow : (2 : Nat) ^ b ≤ 2 ^ 35 := Nat.pow_le_pow_right (by omega) (by omega)
      obtain ⟨P, hP⟩ : ∃ P, (2 : Nat) ^ b = P := ⟨_, rfl⟩
      have HPe := Bx.mk hP
      have hx36 : x + 2 * P ≤ 68719476736 := by have h := HE.out.2.1; rw [Nat.pow_succ, hP] at h; omega
      rw [hP] at hpow
      have eP : (2 : Int) ^ b = (P : Int) := by rw [← hP]; simp
      clear hP
      have hb1 : (b : Int) < 36 := by omega
      have HC : Bx (Calls Tryd.prog 51 #[.int .u64 ((x : Int) + (P : Int)), .int .u64 (n : Int), .int .u64 (p : Int)] wr fun e w' => e = .returned (.bool (decide ((x + P) ^ n ≤ wor (topOf n p)))) ∧ Below wr.heap.size wr w') := Bx.mk (by
        have h := small_any (x + P) n p wr hn (by omega) hp
        rw [Int.natCast_add] at h
        exact h)
      have HS : Bx (rootN p n (b + 1) x = rootN p n b (if decide ((x + P) ^ n ≤ wor (topOf n p)) = true then x + P else x)) := Bx.mk (by rw [rootN_step, HPe.out])
      obtain ⟨d, hd⟩ : ∃ d, decide ((x + P) ^ n ≤ wor (topOf n p)) = d := ⟨_, rfl⟩
      rw [hd] at HC HS
      clear hd
      go_wp2_with fail
      refine HC.out.mono ?_
      rintro e w2 ⟨rfl, hb2⟩
      have HB : Bx (Below w.heap.size w w2) := Bx.mk (HE.out.2.2.trans (hb2.mono HE.out.2.2.size))
      clear hb2 HC
      cases d with
      | true =>
        have HN : Bx (rootN p n b (x + P) = res ∧ x + P + 2 ^ b ≤ 2 ^ 36 ∧ Below w.heap.size w w2) := Bx.mk ⟨by rw [← HE.out.1, HS.out, if_pos rfl], by rw [HPe.out]; omega, HB.out⟩
        clear HE HS HB eP
        go_wp2
        go_roundw
        case rel => exact ⟨b, x + P, by omega, rfl, by rw [Int.natCast_add], HN⟩
        case measure => simp [intOf]
      | false =>
        have HN : Bx (rootN p n b x = res ∧ x + 2 ^ b ≤ 2 ^ 36 ∧ Below w.heap.size w w2) := Bx.mk ⟨by rw [← HE.out.1, HS.out, if_neg (by simp)], by rw [HPe.out]; omega, HB.out⟩
        clear HE HS HB eP
        go_wp2
        go_roundw
        case rel => exact ⟨b, x, by omega, rfl, rfl, HN⟩
        case measure => simp [intOf]
    · have ek : k = 0 := by omega
      subst ek
      have hx : x ≤ 68719476736 := by have := HE.out.2.1; omega
      have HX : Bx (x = res) := Bx.mk HE.out.1
      have HB : Bx (Below w.heap.size w wr) := Bx.mk HE.out.2.2
      have ev : (x : Int) % 4294967296 = uv (BitVec.ofNat 32 x) := by unfold uv; rw [BitVec.toNat_ofNat]; omega
      clear HE
      go_wp2
      go_ret
      exact ⟨by rw [← HX.out, ← ev]; rfl, HB.out⟩
end Go.Proofs.YtkfgpnigeknhmaaDoor
