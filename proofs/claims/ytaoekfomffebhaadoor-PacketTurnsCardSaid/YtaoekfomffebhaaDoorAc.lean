/-
  The walk of the table of the document.
-/
import Derived.Test.YtaoekfomffebhaaDoorAb
namespace Go.Proofs.YtaoekfomffebhaaDoor
open Go Go.RowKit
/-- Numbers of 64 bits as cells. -/
def u64s (l : List Nat) : Array Value := (l.map fun (x : Nat) => Value.int .u64 (x : Int)).toArray
theorem u64s_get (l : List Nat) (i : Nat) (h : i < l.length) : (u64s l)[i]? = some (.int .u64 ((l.getD i 0 : Nat) : Int)) := by
  simp [u64s, h]
theorem u64s_set (l : List Nat) (i : Nat) (x : Nat) : (u64s l).setIfInBounds i (.int .u64 (x : Int)) = u64s (l.set i x) := by
  simp [u64s, List.map_set]
theorem u64s_size (l : List Nat) : (u64s l).size = l.length := by simp [u64s]
theorem one_u64s (l : List Nat) : (u64s l).all (·.oneCell') = true := by simp [u64s, Value.oneCell']
/-- What the parts are worth, the lowest first. -/
def wor : List Nat → Nat
  | [] => 0
  | x :: l => x + 65536 * wor l
/-- Twelve parts, each below 65536. -/
def Dig (l : List Nat) : Prop := l.length = 12 ∧ ∀ i, l.getD i 0 < 65536
def partsOf (y : Nat) : List Nat := [y % 65536, y / 65536 % 65536, y / 65536 / 65536 % 65536, y / 65536 / 65536 / 65536 % 65536, 0, 0, 0, 0, 0, 0, 0, 0]
theorem wor_parts (y : Nat) (h : y < 18446744073709551616) : wor (partsOf y) = y := by
  simp only [partsOf, wor]; omega
theorem dig_parts (y : Nat) : Dig (partsOf y) := by
  refine ⟨rfl, fun i => ?_⟩
  match i with
  | 0 => exact Nat.mod_lt _ (by omega)
  | 1 => exact Nat.mod_lt _ (by omega)
  | 2 => exact Nat.mod_lt _ (by omega)
  | 3 => exact Nat.mod_lt _ (by omega)
  | 4 | 5 | 6 | 7 | 8 | 9 | 10 | 11 => show (0 : Nat) < 65536; omega
  | i + 12 => show (0 : Nat) < 65536; omega
theorem parts_cells (y : Nat) : u64s (partsOf y) = #[.int .u64 ((y : Int) % 65536), .int .u64 ((y : Int) / 65536 % 65536), .int .u64 ((y : Int) / 65536 / 65536 % 65536), .int .u64 ((y : Int) / 65536 / 65536 / 65536 % 65536), .int .u64 0, .int .u64 0, .int .u64 0, .int .u64 0, .int .u64 0, .int .u64 0, .int .u64 0, .int .u64 0] := by
  simp [u64s, partsOf]
set_option maxRecDepth 100000 in
theorem parts_any (y : Nat) (w : World) (hy : y < 18446744073709551616) : Calls Tryd.prog 74 #[.int .u64 (y : Int)] w fun e w' => e = .returned (.agg (u64s (partsOf y))) ∧ Below w.heap.size w w' := by
  have hy1 : (y : Int) ≤ 18446744073709551615 := by omega
  clear hy
  go_enter Tryd.func74, Tryd.ntmps74
  go_wp2
  go_rounds 5
  refine bodyPost_ret (results_cell_row rfl _ _ w.heap.size _ (u64s (partsOf y)) _ _ rfl (by rw [hold _ _ _ (by simp), hnew _ _ _ rfl, parts_cells]) Tryd.underlying133 rfl (by rw [u64s_size]; kernel_rfl)) rfl ?_
  exact ⟨rfl, ((Below.refl _ _).alloc (Nat.le_refl _) _).alloc (by simp) _⟩
theorem wor_set : ∀ (l : List Nat) (i x : Nat), i < l.length → wor (l.set i x) + l.getD i 0 * 65536 ^ i = wor l + x * 65536 ^ i
  | [], i, x, h => by simp at h
  | y :: l, 0, x, _ => by simp [wor]; omega
  | y :: l, i + 1, x, h => by
    have ih := wor_set l i x (by simpa using h)
    simp only [List.set_cons_succ, wor, List.getD_cons_succ, Nat.pow_succ]
    have e1 : l.getD i 0 * (65536 ^ i * 65536) = 65536 * (l.getD i 0 * 65536 ^ i) := by rw [← Nat.mul_assoc, Nat.mul_comm]
    have e2 : x * (65536 ^ i * 65536) = 65536 * (x * 65536 ^ i) := by rw [← Nat.mul_assoc, Nat.mul_comm]
    rw [e1, e2]
    omega
theorem wor_take_succ : ∀ (l : List Nat) (k : Nat), k < l.length → wor (l.take (k + 1)) = wor (l.take k) + l.getD k 0 * 65536 ^ k
  | [], k, h => by simp at h
  | y :: l, 0, _ => by simp [wor]
  | y :: l, k + 1, h => by
    have ih := wor_take_succ l k (by simpa using h)
    simp only [List.take_succ_cons, wor, List.getD_cons_succ, Nat.pow_succ] at ih ⊢
    rw [ih, ← Nat.mul_assoc, Nat.mul_comm (l.getD k 0 * 65536 ^ k) 65536]
    omega
theorem wor_split (l : List Nat) (k : Nat) : ∃ r, wor l = wor (l.take k) + r * 65536 ^ k := by
  induction l generalizing k with
  | nil => exact ⟨0, by simp [wor]⟩
  | cons y l ih =>
    match k with
    | 0 => exact ⟨wor (y :: l), by simp [wor]⟩
    | k + 1 =>
      obtain ⟨r, hr⟩ := ih k
      refine ⟨r, ?_⟩
      simp only [List.take_succ_cons, wor, Nat.pow_succ]
      rw [hr, ← Nat.mul_assoc, Nat.mul_comm (r * 65536 ^ k) 65536]
      omega
theorem wor_lt (l : List Nat) (h : ∀ i, l.getD i 0 < 65536) : wor l < 65536 ^ l.length := by
  induction l with
  | nil => simp [wor]
  | cons y l ih =>
    have h0 := h 0
    have ih' := ih (fun i => h (i + 1))
    simp only [wor, List.length_cons, Nat.pow_succ, List.getD_cons_zero] at h0 ⊢
    omega
/-- The row of a product: while the parts of b are multiplied by one part of a. -/
structure RowAt (z0 b : List Nat) (x i k over : Nat) (z : List Nat) : Prop where
  dig : Dig z
  small : over < 65536
  eq : wor z + over * 65536 ^ (i + k) = wor z0 + x * wor (b.take k) * 65536 ^ i
theorem RowAt.step {z0 b : List Nat} {x i k over : Nat} {z : List Nat} (h : RowAt z0 b x i k over z) (hb : b.length = 12) (hk : i + k < 12) (hx : x < 65536) (hbk : b.getD k 0 < 65536) :
    RowAt z0 b x i (k + 1) ((over + z.getD (i + k) 0 + x * b.getD k 0) / 65536) (z.set (i + k) ((over + z.getD (i + k) 0 + x * b.getD k 0) % 65536)) := by
  have hm : x * b.getD k 0 ≤ 65535 * 65535 := Nat.mul_le_mul (by omega) (by omega)
  have hz := h.dig.2 (i + k)
  have hs := h.small
  refine ⟨⟨by rw [List.length_set]; exact h.dig.1, fun j => ?_⟩, by omega, ?_⟩
  · by_cases hj : i + k = j
    · subst hj
      have : i + k < z.length := by rw [h.dig.1]; exact hk
      simp [this]
      omega
    · have e : (z.set (i + k) ((over + z.getD (i + k) 0 + x * b.getD k 0) % 65536)).getD j 0 = z.getD j 0 := by simp [hj]
      rw [e]
      exact h.dig.2 j
  · have e1 := wor_set z (i + k) ((over + z.getD (i + k) 0 + x * b.getD k 0) % 65536) (by rw [h.dig.1]; exact hk)
    have e2 := wor_take_succ b k (by omega)
    have e3 := h.eq
    have e4 : (over + z.getD (i + k) 0 + x * b.getD k 0) % 65536 + 65536 * ((over + z.getD (i + k) 0 + x * b.getD k 0) / 65536) = over + z.getD (i + k) 0 + x * b.getD k 0 := Nat.mod_add_div _ _
    rw [e2, Nat.mul_add, Nat.add_mul, ← Nat.add_assoc i k 1, Nat.pow_succ]
    have e5 : x * (b.getD k 0 * 65536 ^ k) * 65536 ^ i = x * b.getD k 0 * 65536 ^ (i + k) := by
      rw [Nat.pow_add]; simp only [Nat.mul_assoc]; rw [Nat.mul_comm (65536 ^ k)]
    rw [e5]
    generalize 65536 ^ (i + k) = P at *
    generalize (over + z.getD (i + k) 0 + x * b.getD k 0) % 65536 = u at *
    generalize (over + z.getD (i + k) 0 + x * b.getD k 0) / 65536 = v at *
    generalize z.getD (i + k) 0 = c at *
    generalize x * b.getD k 0 = d at *
    have e6 : u * P + v * (P * 65536) = over * P + c * P + d * P := by
      rw [← Nat.add_mul, ← Nat.add_mul, ← e4, Nat.add_mul, Nat.mul_comm P 65536, ← Nat.mul_assoc, Nat.mul_comm v 65536]
    omega
theorem RowAt.start (z0 b : List Nat) (x i : Nat) (h : Dig z0) : RowAt z0 b x i 0 0 z0 := ⟨h, by omega, by simp [wor]⟩
/-- The product's parts behind i rows. -/
def TimAt (a b : List Nat) (i : Nat) (z : List Nat) : Prop := Dig z ∧ wor z % 65536 ^ 12 = wor (a.take i) * wor b % 65536 ^ 12
theorem TimAt.step {a b z0 z : List Nat} {i over : Nat} (h : TimAt a b i z0) (ha : a.length = 12) (hi : i < 12) (r : RowAt z0 b (a.getD i 0) i (12 - i) over z) : TimAt a b (i + 1) z := by
  refine ⟨r.dig, ?_⟩
  have e1 := r.eq
  rw [show i + (12 - i) = 12 by omega] at e1
  obtain ⟨q, hq⟩ := wor_split b (12 - i)
  have e2 := wor_take_succ a i (by omega)
  have e3 : wor z % 65536 ^ 12 = (wor z0 + a.getD i 0 * wor (b.take (12 - i)) * 65536 ^ i) % 65536 ^ 12 := by
    rw [← e1, Nat.add_mul_mod_self_right]
  have e4 : a.getD i 0 * 65536 ^ i * wor b = a.getD i 0 * wor (b.take (12 - i)) * 65536 ^ i + (a.getD i 0 * q) * 65536 ^ 12 := by
    rw [hq, Nat.mul_add]
    have p : (65536 : Nat) ^ 12 = 65536 ^ i * 65536 ^ (12 - i) := by rw [← Nat.pow_add, show i + (12 - i) = 12 by omega]
    rw [p]
    congr 1
    · rw [Nat.mul_assoc, Nat.mul_comm (65536 ^ i), ← Nat.mul_assoc]
    · rw [Nat.mul_assoc, Nat.mul_assoc, ← Nat.mul_assoc (65536 ^ i) q, Nat.mul_comm (65536 ^ i) q, Nat.mul_assoc]
  rw [e3, e2, Nat.add_mul, e4, ← Nat.add_assoc, Nat.add_mul_mod_self_right, Nat.add_mod, h.2, ← Nat.add_mod]
theorem TimAt.start (a b : List Nat) : TimAt a b 0 (List.replicate 12 0) := ⟨⟨rfl, fun i => by
  have e : (List.replicate 12 0).getD i 0 = 0 := by rw [List.getD_eq_getElem?_getD, List.getElem?_replicate]; split <;> rfl
  rw [e]; omega⟩, by simp [wor, List.replicate]⟩
theorem TimAt.done {a b z : List Nat} (h : TimAt a b 12 z) (ha : a.length = 12) : wor z = wor a * wor b % 65536 ^ 12 := by
  have e := h.2
  rw [List.take_of_length_le (by omega), Nat.mod_eq_of_lt (by have := wor_lt z h.1.2; rw [h.1.1] at this; exact this)] at e
  exact e
end Go.Proofs.YtaoekfomffebhaaDoor
namespace Go.Proofs.YtaoekfomffebhaaDoor
open Go Go.RowKit
/-- The memory while a product is made. -/
def Tms (w : World) (a b z : List Nat) (wr : World) : Prop :=
  Below w.heap.size w wr ∧ w.heap.size + 4 ≤ wr.heap.size ∧ wr.heap[w.heap.size]? = some (.cells (u64s a) 133 (0, 0)) ∧ wr.heap[w.heap.size + 1]? = some (.cells (u64s b) 133 (0, 0)) ∧
  wr.heap[w.heap.size + 1 + 1]? = some (.cells (u64s (List.replicate 12 0)) 133 (0, 0)) ∧ wr.heap[w.heap.size + 1 + 1 + 1]? = some (.cells (u64s z) 133 (0, 0))
theorem Tms.drewN {w wr : World} {a b z : List Nat} (h : Tms w a b z wr) (n : Nat) : Tms w a b z (wr.drewN n) := ⟨below_drewN h.1 n, h.2⟩
theorem Tms.step {w wr : World} {a b z : List Nat} (h : Tms w a b z wr) (i x : Nat) : Tms w a b (z.set i x) (wr.setCell ⟨w.heap.size + 1 + 1 + 1, i, none⟩ (.int .u64 (x : Int))) := by
  obtain ⟨h1, h2, h3, h4, h5, h6⟩ := h
  refine ⟨h1.setCell (by simp only []; omega) _, by simpa using h2, ?_, ?_, ?_, ?_⟩
  · rw [heap_setCell_other _ _ _ _ (by simp only []; omega)]; exact h3
  · rw [heap_setCell_other _ _ _ _ (by simp only []; omega)]; exact h4
  · rw [heap_setCell_other _ _ _ _ (by simp only []; omega)]; exact h5
  · rw [heap_setCell_same wr _ _ _ _ _ h6, u64s_set]
theorem zero12 : u64s (List.replicate 12 0) = #[.int .u64 0, .int .u64 0, .int .u64 0, .int .u64 0, .int .u64 0, .int .u64 0, .int .u64 0, .int .u64 0, .int .u64 0, .int .u64 0, .int .u64 0, .int .u64 0] := by kernel_rfl
theorem Tms.start (w : World) (a b : List Nat) : Tms w a b (List.replicate 12 0) ((((w.alloc (.cells (u64s a) 133)).alloc (.cells (u64s b) 133)).alloc (.cells #[.int .u64 0, .int .u64 0, .int .u64 0, .int .u64 0, .int .u64 0, .int .u64 0, .int .u64 0, .int .u64 0, .int .u64 0, .int .u64 0, .int .u64 0, .int .u64 0] 133)).alloc (.cells #[.int .u64 0, .int .u64 0, .int .u64 0, .int .u64 0, .int .u64 0, .int .u64 0, .int .u64 0, .int .u64 0, .int .u64 0, .int .u64 0, .int .u64 0, .int .u64 0] 133)) := by
  refine ⟨((((Below.refl _ _).alloc (Nat.le_refl _) _).alloc (by simp) _).alloc (by simp; omega) _).alloc (by simp; omega) _, by simp, ?_, ?_, ?_, ?_⟩
  · rw [hold _ _ _ (by simp; omega), hold _ _ _ (by simp; omega), hold _ _ _ (by simp), hnew _ _ _ rfl]
  · rw [hold _ _ _ (by simp), hold _ _ _ (by simp), hnew _ _ _ (by simp)]
  · rw [hold _ _ _ (by simp), hnew _ _ _ (by simp), zero12]
  · rw [hnew _ _ _ (by simp), zero12]
/-- At the heads of the inner loop. -/
def InRel (w : World) (a b z0 : List Nat) (i : Nat) (o kk : Value) (wr : World) : Prop :=
  ∃ k over z, i + k ≤ 12 ∧ o = .int .u64 ((over : Nat) : Int) ∧ kk = .int .i64 ((k : Nat) : Int) ∧ RowAt z0 b (a.getD i 0) i k over z ∧ Tms w a b z wr
set_option maxRecDepth 100000 in
set_option maxHeartbeats 1000000 in
theorem times_any (a b : List Nat) (w : World) (ha : Dig a) (hb : Dig b) : Calls Tryd.prog 75 #[.agg (u64s a), .agg (u64s b)] w fun e w' => ∃ z, e = .returned (.agg (u64s z)) ∧ (Dig z ∧ wor z = wor a * wor b % 65536 ^ 12) ∧ Below w.heap.size w w' := by
  have HA := Bx.mk ha
  have HB := Bx.mk hb
  have H0 : Bx (Tms w a b (List.replicate 12 0) ((((w.alloc (.cells (u64s a) 133)).alloc (.cells (u64s b) 133)).alloc (.cells #[.int .u64 0, .int .u64 0, .int .u64 0, .int .u64 0, .int .u64 0, .int .u64 0, .int .u64 0, .int .u64 0, .int .u64 0, .int .u64 0, .int .u64 0, .int .u64 0] 133)).alloc (.cells #[.int .u64 0, .int .u64 0, .int .u64 0, .int .u64 0, .int .u64 0, .int .u64 0, .int .u64 0, .int .u64 0, .int .u64 0, .int .u64 0, .int .u64 0, .int .u64 0] 133))) := Bx.mk (Tms.start w a b)
  clear ha hb
  go_enter Tryd.func75, Tryd.ntmps75
  go_wp2
  go_loopw [6] (fun ii wr => ∃ i : Nat, i ≤ 12 ∧ ii = .int .i64 i ∧ Bx (∃ z, TimAt a b i z ∧ Tms w a b z wr)) (fun ii _ => 12 - (intOf ii).toNat)
  case atStart => exact ⟨0, Nat.zero_le _, rfl, Bx.mk ⟨_, TimAt.start a b, H0.out⟩⟩
  case round =>
    clear H0
    obtain ⟨i, hi, rfl, HZ⟩ := hrel
    by_cases hlt : i < 12
    · obtain ⟨z0, ht, hm⟩ := HZ.out
      have HT := Bx.mk ht
      have HM : Bx (InRel w a b z0 i (.int .u64 0) (.int .i64 0) wr) := Bx.mk ⟨0, 0, z0, by omega, rfl, rfl, RowAt.start _ _ _ _ ht.1, hm⟩
      clear ht hm HZ
      have hi1 : (i : Int) < 12 := by omega
      obtain ⟨wo, rfl⟩ : ∃ wo : World, wo = wr := ⟨_, rfl⟩
      go_wp2
      go_loopw [7, 8] (fun o kk wr => InRel w a b z0 i o kk wr) (fun _ kk _ => 12 - (intOf kk).toNat)
      case atStart => exact HM.out
      case round =>
        clear HM
        obtain ⟨k, over, z, hk, rfl, rfl, hr, hm⟩ := hrel
        have HR := Bx.mk hr
        have HM := Bx.mk hm
        by_cases hkt : i + k < 12
        · have c1 : wr.cell? ⟨w.heap.size + 1 + 1 + 1, i + k, none⟩ = some (.int .u64 ((z.getD (i + k) 0 : Nat) : Int)) := by rw [cell_of_row _ _ _ _ _ _ hm.2.2.2.2.2]; exact u64s_get _ _ (by rw [hr.dig.1]; exact hkt)
          have c2 : wr.cell? ⟨w.heap.size, i, none⟩ = some (.int .u64 ((a.getD i 0 : Nat) : Int)) := by rw [cell_of_row _ _ _ _ _ _ hm.2.2.1]; exact u64s_get _ _ (by rw [HA.out.1]; omega)
          have c3 : wr.cell? ⟨w.heap.size + 1, k, none⟩ = some (.int .u64 ((b.getD k 0 : Nat) : Int)) := by rw [cell_of_row _ _ _ _ _ _ hm.2.2.2.1]; exact u64s_get _ _ (by rw [HB.out.1]; omega)
          have f1 : wr.frozen? ⟨w.heap.size + 1 + 1 + 1, i + k, none⟩ = false := frozen_of_row _ _ _ _ _ hm.2.2.2.2.2
          have HN := Bx.mk (HR.out.step HB.out.1 hkt (HA.out.2 i) (HB.out.2 k))
          have b1 := hr.dig.2 (i + k)
          have b2 := HA.out.2 i
          have b3 := HB.out.2 k
          have b4 := hr.small
          clear hr hm
          obtain ⟨x, hx⟩ : ∃ x, z.getD (i + k) 0 = x := ⟨_, rfl⟩
          obtain ⟨y, hy⟩ : ∃ y, a.getD i 0 = y := ⟨_, rfl⟩
          obtain ⟨u, hu⟩ : ∃ u, b.getD k 0 = u := ⟨_, rfl⟩
          rw [hx] at c1 HN b1
          rw [hy] at c2 HN b2
          rw [hu] at c3 HN b3
          have HY := Bx.mk hy
          clear hx hy hu
          have hmul : y * u ≤ 65535 * 65535 := Nat.mul_le_mul (by omega) (by omega)
          have hmi : (y : Int) * (u : Int) ≤ 4294836225 := by rw [← Int.natCast_mul]; omega
          have hmp : 0 ≤ (y : Int) * (u : Int) := by rw [← Int.natCast_mul]; omega
          have b1' : (x : Int) ≤ 65535 := by omega
          have b4' : (over : Int) ≤ 65535 := by omega
          have k1 : (i : Int) + (k : Int) < 12 := by omega
          have k2 : (k : Int) < 12 := by omega
          have wik : IntKind.i64.wrap ((i : Int) + (k : Int)) = (i : Int) + (k : Int) := IntWalk.i64_in _ (by omega)
          have tik : ((i : Int) + (k : Int)).toNat = i + k := by omega
          have wmu : IntKind.u64.wrap ((y : Int) * (u : Int)) = (y : Int) * (u : Int) := IntWalk.u64_in _ (by omega)
          have wov : IntKind.u64.wrap ((over : Int) + (x : Int)) = (over : Int) + (x : Int) := IntWalk.u64_in _ (by omega)
          have wsu : IntKind.u64.wrap ((over : Int) + (x : Int) + (y : Int) * (u : Int)) = (over : Int) + (x : Int) + (y : Int) * (u : Int) := IntWalk.u64_in _ (by omega)
          go_wp2
          go_quiet (fail)
          clear wik tik wmu wov wsu
          go_wp2
          go_roundw
          case rel =>
            have e : (over : Int) + (x : Int) + (y : Int) * (u : Int) = ((over + x + y * u : Nat) : Int) := by rw [Int.natCast_add, Int.natCast_add, Int.natCast_mul]
            rw [e]
            refine ⟨k + 1, _, _, by omega, ?_, by go_num, by rw [HY.out]; exact HN.out, ?_⟩
            · congr 1
            · have := (HM.out.drewN nq).step (i + k) ((over + x + y * u) % 65536)
              exact this
          case measure => simp [intOf]; omega
        · have HF : Bx (∃ z, TimAt a b (i + 1) z ∧ Tms w a b z wr) := Bx.mk ⟨z, HT.out.step HA.out.1 hlt (by have h := HR.out; rw [show k = 12 - i by omega] at h; exact h), HM.out⟩
          clear HM HR hr hm
          go_wp2
          go_roundw
          case rel => exact ⟨i + 1, by omega, by go_num, HF⟩
          case measure => simp [intOf]; omega
    · obtain ⟨z, ht, hm⟩ := HZ.out
      have HD : Bx (Dig z ∧ wor z = wor a * wor b % 65536 ^ 12) := Bx.mk ⟨ht.1, by rw [show i = 12 by omega] at ht; exact ht.done HA.out.1⟩
      have HM := Bx.mk hm
      clear ht hm HZ
      have HI : Bx ((Tryd.prog.info? 133).map (·.size) = some (u64s z).size) := Bx.mk (by rw [u64s_size, HD.out.1.1]; kernel_rfl)
      have HT : Bx (wr.there (w.heap.size + 1 + 1) 0 (u64s z).size) := Bx.mk (there_row HM.out.2.2.2.2.1 0 _ (by rw [u64s_size, u64s_size, HD.out.1.1]; simp))
      have HY : Bx ((wr.setCells (w.heap.size + 1 + 1) 0 (u64s z).toList).heap[w.heap.size + 1 + 1]? = some (.cells (u64s z) 133 (0, 0))) := Bx.mk (heap_setCells_all HM.out.2.2.2.2.1 (by rw [u64s_size, u64s_size, HD.out.1.1]; simp))
      go_wp2_with (first | (refine wpList_load_row rfl 133 _ rfl (w.heap.size + 1 + 1 + 1) (by rfl) _ _ _ _ HM.out.2.2.2.2.2 Tryd.underlying133 rfl HI.out ?_) | (refine wpList_store_mid rfl 133 _ _ rfl (w.heap.size + 1 + 1) 0 _ (by rfl) (by rfl) HT.out HI.out (one_u64s _) ?_))
      refine bodyPost_ret (results_cell_row rfl _ _ (w.heap.size + 1 + 1) _ (u64s z) _ _ rfl HY.out Tryd.underlying133 rfl HI.out) rfl ?_
      exact ⟨z, rfl, HD.out, below_setCells (by omega) _ _ _ _ HM.out.1⟩
end Go.Proofs.YtaoekfomffebhaaDoor
namespace Go.Proofs.YtaoekfomffebhaaDoor
open Go Go.RowKit
theorem wor_drop (l : List Nat) (k : Nat) : wor l = wor (l.take k) + wor (l.drop k) * 65536 ^ k := by
  induction l generalizing k with
  | nil => simp [wor]
  | cons y l ih =>
    match k with
    | 0 => simp [wor]
    | k + 1 =>
      simp only [List.take_succ_cons, List.drop_succ_cons, wor, Nat.pow_succ]
      have := ih k
      rw [← Nat.mul_assoc, Nat.mul_comm (wor (l.drop k) * 65536 ^ k) 65536]
      omega
theorem wor_take_lt (l : List Nat) (k : Nat) (h : ∀ i, l.getD i 0 < 65536) (hk : k ≤ l.length) : wor (l.take k) < 65536 ^ k := by
  have := wor_lt (l.take k) (fun i => by
    by_cases hi : i < k
    · have e : (l.take k).getD i 0 = l.getD i 0 := by simp [hi]
      rw [e]; exact h i
    · have e : (l.take k).getD i 0 = 0 := by rw [List.getD_eq_getElem?_getD, List.getElem?_eq_none (by rw [List.length_take]; omega)]; rfl
      rw [e]; omega)
  rwa [List.length_take, Nat.min_eq_left hk] at this
theorem drop_eq (z t : List Nat) (k : Nat) (hz : z.length = 12) (ht : t.length = 12) (h : ∀ j, k ≤ j → z.getD j 0 = t.getD j 0) : z.drop k = t.drop k := by
  apply List.ext_getElem (by simp [hz, ht])
  intro i h1 h2
  have hh := h (k + i) (by omega)
  simp only [List.length_drop] at h1 h2
  simp only [List.getElem_drop]
  have h3 : k + i < z.length := by omega
  have h4 : k + i < t.length := by omega
  simpa [h3, h4] using hh
theorem wor_less (z t : List Nat) (k : Nat) (hz : Dig z) (ht : Dig t) (hk : k < 12) (h : ∀ j, k + 1 ≤ j → z.getD j 0 = t.getD j 0) (hl : z.getD k 0 < t.getD k 0) : wor z < wor t := by
  have e := drop_eq z t (k + 1) hz.1 ht.1 h
  rw [wor_drop z (k + 1), wor_drop t (k + 1), e]
  have a := wor_take_succ z k (by rw [hz.1]; exact hk)
  have b := wor_take_succ t k (by rw [ht.1]; exact hk)
  have c := wor_take_lt z k hz.2 (by rw [hz.1]; omega)
  have d : (z.getD k 0 + 1) * 65536 ^ k ≤ t.getD k 0 * 65536 ^ k := Nat.mul_le_mul_right _ hl
  rw [Nat.add_mul] at d
  omega
theorem wor_same (z t : List Nat) (hz : Dig z) (ht : Dig t) (h : ∀ j, 0 ≤ j → z.getD j 0 = t.getD j 0) : wor z = wor t := by
  have := drop_eq z t 0 hz.1 ht.1 h
  simp only [List.drop_zero] at this
  rw [this]
/-- The number with which a power is compared. -/
def topOf (n p : Nat) : List Nat := (List.replicate 12 0).set (2 * n) p
theorem dig_top (n p : Nat) (hp : p < 65536) : Dig (topOf n p) := by
  refine ⟨by simp [topOf], fun i => ?_⟩
  unfold topOf
  rw [List.getD_eq_getElem?_getD, List.getElem?_set]
  split
  · split <;> simp <;> omega
  · rw [List.getElem?_replicate]; split <;> simp
/-- The memory while a power is made: block B holds it. -/
def Pow (w : World) (B : Nat) (y j : Nat) (z : List Nat) (wr : World) : Prop :=
  Below w.heap.size w wr ∧ w.heap.size ≤ B ∧ B < wr.heap.size ∧ wr.heap[B]? = some (.cells (u64s z) 133 (0, 0)) ∧ Dig z ∧ wor z = y ^ j
theorem pow_fits (y j : Nat) (hy : y ≤ 137438953472) (hj : j ≤ 3) : y ^ j < 65536 ^ 12 :=
  Nat.lt_of_le_of_lt (Nat.le_trans (Nat.pow_le_pow_left hy j) (Nat.pow_le_pow_right (by omega) hj)) (by decide)
theorem range64 {w : World} {b : Nat} {t : TypeId} {z : List Nat} (h : w.heap[b]? = some (.cells (u64s z) t (0, 0))) : w.rangeAt b 0 (u64s z).toList := fun j v hv => by
  rw [cell_of_row _ _ _ _ _ _ h, Nat.zero_add]
  rwa [Array.getElem?_toList] at hv
theorem st64 {P : Program} (W : World) (b : Nat) (m : List Nat) (hm : m.length = 12) (h : W.there b 0 12) : (storeCells ⟨b, 0, none⟩ (u64s m).toList).run P W = .ok () (W.setCells b 0 (u64s m).toList) := by
  have l8 : (u64s m).toList.length = 12 := by rw [Array.length_toList, u64s_size, hm]
  have := run_storeCells_cells (P := P) b 0 (u64s m).toList 0 W (fun j hj => by have := (h j (by omega)).1; simpa using this) (fun j hj => by have := (h j (by omega)).2; simpa using this) (fun v hv => by
    have h1 := one_u64s m
    rw [Array.all_eq_true'] at h1
    exact h1 v (by simpa using hv))
  simpa using this
theorem sk64 {w2 W : World} {b : Nat} {T : TypeId} {z : List Nat} (H2 : w2.heap[b]? = some (.cells (u64s z) T (0, 0))) (hz : z.length = 12) (e : W.heap[b]? = w2.heap[b]?) :
    W.rangeAt b 0 (u64s z).toList ∧ W.there b 0 12 :=
  ⟨range64 (by rw [e]; exact H2), there_row (by rw [e]; exact H2) 0 12 (by rw [u64s_size, hz]; omega)⟩
theorem twelve (z : List Nat) (h : z.length = 12) : ∃ z0 z1 z2 z3 z4 z5 z6 z7 z8 z9 z10 z11, z = [z0, z1, z2, z3, z4, z5, z6, z7, z8, z9, z10, z11] := by
  match z, h with
  | [z0, z1, z2, z3, z4, z5, z6, z7, z8, z9, z10, z11], _ => exact ⟨z0, z1, z2, z3, z4, z5, z6, z7, z8, z9, z10, z11, rfl⟩
attribute [local go_sem ↓] Go.wp_at_zero Go.wp_at_succ
set_option maxRecDepth 100000 in
set_option maxHeartbeats 1000000 in
theorem small_any (y n p : Nat) (w : World) (hn : n = 2 ∨ n = 3) (hy : y ≤ 137438953472) (hp : p < 65536) : Calls Tryd.prog 50 #[.int .u64 (y : Int), .int .u64 (n : Int), .int .u64 (p : Int)] w fun e w' => e = .returned (.bool (decide (y ^ n ≤ wor (topOf n p)))) ∧ Below w.heap.size w w' := by
  have hn1 : n ≤ 3 := by omega
  have hn2 : 2 ≤ n := by omega
  have hn3 : (n : Int) ≤ 3 := by omega
  obtain ⟨r, hr⟩ : ∃ r, decide (y ^ n ≤ wor (topOf n p)) = r := ⟨_, rfl⟩
  have HR := Bx.mk hr
  rw [hr]
  clear hr
  go_enter Tryd.func50, Tryd.ntmps50
  go_wp2_with fail
  refine (parts_any y w (by omega)).mono ?_
  rintro e w1 ⟨rfl, hb1⟩
  obtain ⟨ps, hps⟩ : ∃ ps, partsOf y = ps := ⟨_, rfl⟩
  have HP : Bx (Dig ps ∧ wor ps = y) := Bx.mk (by rw [← hps]; exact ⟨dig_parts y, wor_parts y (by omega)⟩)
  have HPC : Bx (∀ W : World, Calls Tryd.prog 74 #[.int .u64 (y : Int)] W fun e w' => e = .returned (.agg (u64s ps)) ∧ Below W.heap.size W w') := Bx.mk (fun W => by rw [← hps]; exact parts_any y W (by omega))
  rw [hps]
  clear hps
  have HN : Bx ((w1.alloc (.cells #[.int .u64 0, .int .u64 0, .int .u64 0, .int .u64 0, .int .u64 0, .int .u64 0, .int .u64 0, .int .u64 0, .int .u64 0, .int .u64 0, .int .u64 0, .int .u64 0] 133)).heap[w1.heap.size]? = some (.cells (u64s (List.replicate 12 0)) 133 (0, 0))) := Bx.mk (by rw [hnew _ _ _ rfl, ← zero12])
  have HI : Bx ((Tryd.prog.info? 133).map (·.size) = some (u64s ps).size) := Bx.mk (by rw [u64s_size, HP.out.1.1]; kernel_rfl)
  have HT : Bx ((w1.alloc (.cells #[.int .u64 0, .int .u64 0, .int .u64 0, .int .u64 0, .int .u64 0, .int .u64 0, .int .u64 0, .int .u64 0, .int .u64 0, .int .u64 0, .int .u64 0, .int .u64 0] 133)).there w1.heap.size 0 (u64s ps).size) := Bx.mk (there_row HN.out 0 _ (by rw [u64s_size, u64s_size, HP.out.1.1]; simp))
  have H1 : Bx (Pow w w1.heap.size y 1 ps ((w1.alloc (.cells #[.int .u64 0, .int .u64 0, .int .u64 0, .int .u64 0, .int .u64 0, .int .u64 0, .int .u64 0, .int .u64 0, .int .u64 0, .int .u64 0, .int .u64 0, .int .u64 0] 133)).setCells w1.heap.size 0 (u64s ps).toList)) := Bx.mk ⟨below_setCells hb1.size _ _ _ _ (hb1.alloc hb1.size _), hb1.size, by rw [size_setCells]; simp, heap_setCells_all HN.out (by rw [u64s_size, u64s_size, HP.out.1.1]; simp), HP.out.1, by rw [HP.out.2, Nat.pow_one]⟩
  have HB1 := Bx.mk hb1.size
  clear hb1
  go_wp2_with (refine wpList_store_mid rfl 133 _ _ rfl w1.heap.size 0 _ (by rfl) (by rfl) HT.out HI.out (one_u64s _) ?_)
  clear HT HN
  generalize (w1.alloc (.cells #[.int .u64 0, .int .u64 0, .int .u64 0, .int .u64 0, .int .u64 0, .int .u64 0, .int .u64 0, .int .u64 0, .int .u64 0, .int .u64 0, .int .u64 0, .int .u64 0] 133)).setCells w1.heap.size 0 (u64s ps).toList = w2 at *
  obtain ⟨B, hB⟩ : ∃ B, w1.heap.size = B := ⟨_, rfl⟩
  rw [hB] at H1 HB1 ⊢
  clear hB
  go_loopw [8] (fun i wr => ∃ j : Nat, 1 ≤ j ∧ j ≤ n ∧ i = .int .u64 j ∧ Bx (∃ z, Pow w B y j z wr)) (fun i _ => 3 - (intOf i).toNat)
  case atStart => exact ⟨1, by omega, by omega, rfl, Bx.mk ⟨ps, H1.out⟩⟩
  case round =>
    clear H1
    obtain ⟨j, hj1, hj2, rfl, HZ⟩ := hrel
    by_cases hlt : j < n
    · obtain ⟨z, hz⟩ := HZ.out
      have HPw := Bx.mk hz
      have hzl := hz.2.2.2.2.1.1
      have hrow := Bx.mk hz.2.2.2.1
      clear HZ
      have hBl : B < wr.heap.size := hz.2.2.1
      have hji : (j : Int) < (n : Int) := by omega
      have HIz : Bx ((Tryd.prog.info? 133).map (·.size) = some (u64s z).size) := Bx.mk (by rw [u64s_size, hzl]; kernel_rfl)
      have HZL := Bx.mk hzl
      have HDig := Bx.mk hz.2.2.2.2.1
      clear hz hzl
      go_wp2
      obtain ⟨z0, z1, z2, z3, z4, z5, z6, z7, z8, z9, z10, z11, rfl⟩ := twelve z HZL.out
      have c0 : wr.cell? ⟨B, 0, none⟩ = some (.int .u64 (z0 : Int)) := by rw [cell_of_row _ _ _ _ _ _ hrow.out]; rfl
      have c1 : wr.cell? ⟨B, 1, none⟩ = some (.int .u64 (z1 : Int)) := by rw [cell_of_row _ _ _ _ _ _ hrow.out]; rfl
      have c2 : wr.cell? ⟨B, 2, none⟩ = some (.int .u64 (z2 : Int)) := by rw [cell_of_row _ _ _ _ _ _ hrow.out]; rfl
      have c3 : wr.cell? ⟨B, 3, none⟩ = some (.int .u64 (z3 : Int)) := by rw [cell_of_row _ _ _ _ _ _ hrow.out]; rfl
      have c4 : wr.cell? ⟨B, 4, none⟩ = some (.int .u64 (z4 : Int)) := by rw [cell_of_row _ _ _ _ _ _ hrow.out]; rfl
      have c5 : wr.cell? ⟨B, 5, none⟩ = some (.int .u64 (z5 : Int)) := by rw [cell_of_row _ _ _ _ _ _ hrow.out]; rfl
      have c6 : wr.cell? ⟨B, 6, none⟩ = some (.int .u64 (z6 : Int)) := by rw [cell_of_row _ _ _ _ _ _ hrow.out]; rfl
      have c7 : wr.cell? ⟨B, 7, none⟩ = some (.int .u64 (z7 : Int)) := by rw [cell_of_row _ _ _ _ _ _ hrow.out]; rfl
      have c8 : wr.cell? ⟨B, 8, none⟩ = some (.int .u64 (z8 : Int)) := by rw [cell_of_row _ _ _ _ _ _ hrow.out]; rfl
      have c9 : wr.cell? ⟨B, 9, none⟩ = some (.int .u64 (z9 : Int)) := by rw [cell_of_row _ _ _ _ _ _ hrow.out]; rfl
      have c10 : wr.cell? ⟨B, 10, none⟩ = some (.int .u64 (z10 : Int)) := by rw [cell_of_row _ _ _ _ _ _ hrow.out]; rfl
      have c11 : wr.cell? ⟨B, 11, none⟩ = some (.int .u64 (z11 : Int)) := by rw [cell_of_row _ _ _ _ _ _ hrow.out]; rfl
      go_region_with (first | (go_at_call 74; refine (HPC.out _).mono ?_; rintro e w3 ⟨rfl, hb3⟩; have hc3 : ∀ o, w3.cell? ⟨B, o, none⟩ = wr.cell? ⟨B, o, none⟩ := fun o => hb3.cell (p := ⟨B, o, none⟩) hBl) | (go_at_call 75; refine (times_any [z0, z1, z2, z3, z4, z5, z6, z7, z8, z9, z10, z11] ps _ HDig.out HP.out.1).mono ?_; rintro e w4 ⟨zz, rfl, hz2, hb4⟩; have hsz : (u64s zz).size = 12 := (by rw [u64s_size]; exact hz2.1.1); have hst := st64 (P := Tryd.prog) w4 B zz hz2.1.1 (sk64 hrow.out HZL.out ((hb4.block _ (Nat.lt_of_lt_of_le hBl hb3.size)).trans (below_heap hb3 rfl _ hBl))).2))
      all_goals
        have H5 : Bx (∃ z, Pow w B y (j + 1) z (w4.setCells B 0 (u64s zz).toList)) := Bx.mk (by
          obtain ⟨q1, q2, q3, q4, q5, q6⟩ := HPw.out
          have hb34 : Below w.heap.size w w4 := (((below_drewN q1 1).trans (hb3.mono q1.size))).trans (hb4.mono (Nat.le_trans q1.size hb3.size))
          refine ⟨zz, below_setCells q2 _ _ _ _ hb34, q2, by rw [size_setCells]; exact Nat.lt_of_lt_of_le hBl (Nat.le_trans hb3.size hb4.size), heap_setCells_all ((hb4.block _ (Nat.lt_of_lt_of_le hBl hb3.size)).trans ((below_heap hb3 rfl _ hBl).trans hrow.out)) (by rw [u64s_size, u64s_size, hz2.1.1, HZL.out]), hz2.1, ?_⟩
          rw [hz2.2, q6, HP.out.2, ← Nat.pow_succ, Nat.mod_eq_of_lt (pow_fits y (j + 1) hy (by omega))])
        clear hst hsz hz2 hb4 hb3
        generalize w4.setCells B 0 (u64s zz).toList = w5 at *
        clear c0 c1 c2 c3 c4 c5 c6 c7 c8 c9 c10 c11
        go_wp2
        go_roundw
        case rel => exact ⟨j + 1, by omega, by omega, by go_num, H5⟩
        case measure => simp [intOf]; omega
    · have ej : j = n := by omega
      obtain ⟨z, hz⟩ := HZ.out
      rw [ej] at hz
      have HPw := Bx.mk hz
      clear HZ hz ej
      have HTP : Bx (Dig (topOf n p)) := Bx.mk (dig_top n p hp)
      have n1 : 2 * (n : Int) < 12 := by omega
      have n2 : (2 * (n : Int)).toNat = 2 * n := by omega
      have hcz : ([.int .u64 0, .int .u64 0, .int .u64 0, .int .u64 0, .int .u64 0, .int .u64 0, .int .u64 0, .int .u64 0, .int .u64 0, .int .u64 0, .int .u64 0, .int .u64 0] : List Value)[2 * n]? = some (.int .u64 0) := by rcases hn with rfl | rfl <;> rfl
      go_wp2
      clear hcz n1 n2
      have H6 : Bx (Below w.heap.size w (wr.alloc (.cells ((([.int .u64 0, .int .u64 0, .int .u64 0, .int .u64 0, .int .u64 0, .int .u64 0, .int .u64 0, .int .u64 0, .int .u64 0, .int .u64 0, .int .u64 0, .int .u64 0] : List Value).set (2 * n) (.int .u64 (p : Int))).toArray) 133)) ∧ (wr.alloc (.cells ((([.int .u64 0, .int .u64 0, .int .u64 0, .int .u64 0, .int .u64 0, .int .u64 0, .int .u64 0, .int .u64 0, .int .u64 0, .int .u64 0, .int .u64 0, .int .u64 0] : List Value).set (2 * n) (.int .u64 (p : Int))).toArray) 133)).heap[B]? = some (.cells (u64s z) 133 (0, 0)) ∧ (wr.alloc (.cells ((([.int .u64 0, .int .u64 0, .int .u64 0, .int .u64 0, .int .u64 0, .int .u64 0, .int .u64 0, .int .u64 0, .int .u64 0, .int .u64 0, .int .u64 0, .int .u64 0] : List Value).set (2 * n) (.int .u64 (p : Int))).toArray) 133)).heap[wr.heap.size]? = some (.cells (u64s (topOf n p)) 133 (0, 0))) := Bx.mk (by
        obtain ⟨q1, q2, q3, q4, q5, q6⟩ := HPw.out
        refine ⟨q1.alloc q1.size _, by rw [hold _ _ _ q3]; exact q4, ?_⟩
        rw [hnew _ _ _ rfl]
        congr 2
        unfold topOf
        rw [← u64s_set, zero12, List.setIfInBounds_toArray])
      have HZ : Bx (Dig z ∧ wor z = y ^ n) := Bx.mk HPw.out.2.2.2.2
      clear HPw
      generalize wr.alloc (.cells ((([.int .u64 0, .int .u64 0, .int .u64 0, .int .u64 0, .int .u64 0, .int .u64 0, .int .u64 0, .int .u64 0, .int .u64 0, .int .u64 0, .int .u64 0, .int .u64 0] : List Value).set (2 * n) (.int .u64 (p : Int))).toArray) 133) = w6 at *
      generalize wr.heap.size = T at *
      generalize topOf n p = t at *
      go_loopw [10] (fun i wr => ∃ k q : Nat, k ≤ 12 ∧ i = .int .i64 ((k : Int) - 1) ∧ Bx (∀ j, k ≤ j → z.getD j 0 = t.getD j 0) ∧ wr = w6.drewN q) (fun i _ => ((intOf i) + 1).toNat)
      case atStart => exact ⟨12, 0, by omega, rfl, Bx.mk (fun j hj => by
        rw [List.getD_eq_getElem?_getD, List.getD_eq_getElem?_getD, List.getElem?_eq_none (by rw [HZ.out.1.1]; omega), List.getElem?_eq_none (by rw [HTP.out.1]; omega)]), rfl⟩
      case round =>
        obtain ⟨k, nd, hk, rfl, HE, rfl⟩ := hrel
        by_cases hlt : 1 ≤ k
        · obtain ⟨i, rfl⟩ : ∃ i, k = i + 1 := ⟨k - 1, by omega⟩
          have ei : ((i + 1 : Nat) : Int) - 1 = (i : Int) := by omega
          rw [ei]
          clear ei
          have c1 : w6.cell? ⟨B, i, none⟩ = some (.int .u64 ((z.getD i 0 : Nat) : Int)) := by rw [cell_of_row _ _ _ _ _ _ H6.out.2.1]; exact u64s_get _ _ (by rw [HZ.out.1.1]; omega)
          have c2 : w6.cell? ⟨T, i, none⟩ = some (.int .u64 ((t.getD i 0 : Nat) : Int)) := by rw [cell_of_row _ _ _ _ _ _ H6.out.2.2]; exact u64s_get _ _ (by rw [HTP.out.1]; omega)
          have hi1 : (i : Int) < 12 := by omega
          by_cases he : z.getD i 0 = t.getD i 0
          · have HE2 : Bx (∀ j, i ≤ j → z.getD j 0 = t.getD j 0) := Bx.mk (fun j hj => by
              by_cases h : j = i
              · rw [h]; exact he
              · exact HE.out j (by omega))
            rw [he] at c1
            clear he HE
            generalize t.getD i 0 = x at *
            have e1 : ((x : Int) != (x : Int)) = false := by simp
            go_wp2
            go_quiet (fail)
            go_wp2
            go_roundw
            case rel => exact ⟨i, _, by omega, rfl, HE2, rfl⟩
            case measure => simp [intOf]
          · have HL : Bx (r = decide (z.getD i 0 < t.getD i 0)) := Bx.mk (by
              rw [← HR.out, ← HZ.out.2]
              by_cases hl : z.getD i 0 < t.getD i 0
              · have := wor_less z t i HZ.out.1 HTP.out (by omega) HE.out hl
                rw [decide_eq_true (by omega), decide_eq_true (by omega)]
              · have := wor_less t z i HTP.out HZ.out.1 (by omega) (fun j hj => (HE.out j hj).symm) (by omega)
                rw [decide_eq_false (by omega), decide_eq_false (by omega)])
            have e1 : ((z.getD i 0 : Int) != (t.getD i 0 : Int)) = true := by simp only [bne_iff_ne, ne_eq]; omega
            clear he HE
            generalize z.getD i 0 = x at *
            generalize t.getD i 0 = u at *
            go_wp2
            go_quiet (fail)
            go_wp2
            go_quiet (fail)
            go_wp2
            go_ret
            exact ⟨by rw [HL.out]; rfl, below_drewN (below_drewN (below_drewN H6.out.1 _) _) _⟩
        · have HT : Bx (r = true) := Bx.mk (by
            rw [← HR.out, ← HZ.out.2, wor_same z t HZ.out.1 HTP.out (fun j hj => HE.out j (by omega))]
            exact decide_eq_true (Nat.le_refl _))
          have ek : k = 0 := by omega
          subst ek
          go_wp2
          go_ret
          exact ⟨by rw [HT.out]; rfl, below_drewN H6.out.1 _⟩
/-- A root's bits, found from above. -/
def rootN (p n : Nat) : Nat → Nat → Nat
  | 0, x => x
  | b + 1, x => if (x + 2 ^ b) ^ n ≤ wor (topOf n p) then rootN p n b (x + 2 ^ b) else rootN p n b x
theorem rootN_step (p n b x : Nat) : rootN p n (b + 1) x = rootN p n b (if decide ((x + 2 ^ b) ^ n ≤ wor (topOf n p)) = true then x + 2 ^ b else x) := by
  show (if (x + 2 ^ b) ^ n ≤ wor (topOf n p) then rootN p n b (x + 2 ^ b) else rootN p n b x) = _
  by_cases h : (x + 2 ^ b) ^ n ≤ wor (topOf n p)
  · rw [if_pos h, if_pos (by simpa using h)]
  · rw [if_neg h, if_neg (by simpa using h)]
set_option maxRecDepth 100000 in
set_option maxHeartbeats 400000 in
theorem root_any (n p : Nat) (w : World) (hn : n = 2 ∨ n = 3) (hp : p < 65536) : Calls Tryd.prog 31 #[.int .u64 (p : Int), .int .u64 (n : Int)] w fun e w' => e = .returned (.int .u32 (uv (BitVec.ofNat 32 (rootN p n 36 0)))) ∧ Below w.heap.size w w' := by
  obtain ⟨res, hres⟩ : ∃ res, rootN p n 36 0 = res := ⟨_, rfl⟩
  have HR := Bx.mk hres
  rw [hres]
  clear hres
  go_enter Tryd.func31, Tryd.ntmps31
  go_wp2
  go_loopw [5, 6] (fun xx bb wr => ∃ b x : Nat, b ≤ 36 ∧ bb = .int .i64 ((b : Int) - 1) ∧ xx = .int .u64 (x : Int) ∧ Bx (rootN p n b x = res ∧ x + 2 ^ b ≤ 2 ^ 36 ∧ Below w.heap.size w wr)) (fun _ bb _ => ((intOf bb) + 1).toNat)
  case atStart => exact ⟨36, 0, by omega, rfl, rfl, Bx.mk ⟨HR.out, by omega, Below.refl _ _⟩⟩
  case round =>
    clear HR
    obtain ⟨k, x, hk, rfl, rfl, HE⟩ := hrel
    by_cases hlt : 1 ≤ k
    · obtain ⟨b, rfl⟩ : ∃ b, k = b + 1 := ⟨k - 1, by omega⟩
      have ei : ((b + 1 : Nat) : Int) - 1 = (b : Int) := by omega
      rw [ei]
      clear ei
      have hb36 : b < 36 := by omega
      have hpow : (2 : Nat) ^ b ≤ 2 ^ 35 := Nat.pow_le_pow_right (by omega) (by omega)
      obtain ⟨P, hP⟩ : ∃ P, (2 : Nat) ^ b = P := ⟨_, rfl⟩
      have HPe := Bx.mk hP
      have hx36 : x + 2 * P ≤ 68719476736 := by have h := HE.out.2.1; rw [Nat.pow_succ, hP] at h; omega
      rw [hP] at hpow
      have eP : (2 : Int) ^ b = (P : Int) := by rw [← hP]; simp
      clear hP
      have hb1 : (b : Int) < 36 := by omega
      have HC : Bx (Calls Tryd.prog 50 #[.int .u64 ((x : Int) + (P : Int)), .int .u64 (n : Int), .int .u64 (p : Int)] wr fun e w' => e = .returned (.bool (decide ((x + P) ^ n ≤ wor (topOf n p)))) ∧ Below wr.heap.size wr w') := Bx.mk (by
        have h := small_any (x + P) n p wr hn (by omega) hp
        rw [Int.natCast_add] at h
        exact h)
      have HS : Bx (rootN p n (b + 1) x = rootN p n b (if decide ((x + P) ^ n ≤ wor (topOf n p)) = true then x + P else x)) := Bx.mk (by rw [rootN_step, HPe.out])
      obtain ⟨d, hd⟩ : ∃ d, decide ((x + P) ^ n ≤ wor (topOf n p)) = d := ⟨_, rfl⟩
      rw [hd] at HC HS
      clear hd
      go_wp2_with fail
      refine HC.out.mono ?_
      rintro e w2 ⟨rfl, hb2⟩
      have HB : Bx (Below w.heap.size w w2) := Bx.mk (HE.out.2.2.trans (hb2.mono HE.out.2.2.size))
      clear hb2 HC
      cases d with
      | true =>
        have HN : Bx (rootN p n b (x + P) = res ∧ x + P + 2 ^ b ≤ 2 ^ 36 ∧ Below w.heap.size w w2) := Bx.mk ⟨by rw [← HE.out.1, HS.out, if_pos rfl], by rw [HPe.out]; omega, HB.out⟩
        clear HE HS HB eP
        go_wp2
        go_roundw
        case rel => exact ⟨b, x + P, by omega, rfl, by rw [Int.natCast_add], HN⟩
        case measure => simp [intOf]
      | false =>
        have HN : Bx (rootN p n b x = res ∧ x + 2 ^ b ≤ 2 ^ 36 ∧ Below w.heap.size w w2) := Bx.mk ⟨by rw [← HE.out.1, HS.out, if_neg (by simp)], by rw [HPe.out]; omega, HB.out⟩
        clear HE HS HB eP
        go_wp2
        go_roundw
        case rel => exact ⟨b, x, by omega, rfl, rfl, HN⟩
        case measure => simp [intOf]
    · have ek : k = 0 := by omega
      subst ek
      have hx : x ≤ 68719476736 := by have := HE.out.2.1; omega
      have HX : Bx (x = res) := Bx.mk HE.out.1
      have HB : Bx (Below w.heap.size w wr) := Bx.mk HE.out.2.2
      have ev : (x : Int) % 4294967296 = uv (BitVec.ofNat 32 x) := by unfold uv; rw [BitVec.toNat_ofNat]; omega
      clear HE
      go_wp2
      go_ret
      exact ⟨by rw [← HX.out, ← ev]; rfl, HB.out⟩
end Go.Proofs.YtaoekfomffebhaaDoor
namespace Go.Proofs.YtaoekfomffebhaaDoor
open Go Go.RowKit
/-- No number from 2 below q, whose square is at most p, divides p. -/
def prU (p q : Nat) : Bool := (List.range q).all fun r => decide (r < 2) || decide (p < r * r) || decide (p % r ≠ 0)
theorem prU_two (p : Nat) : prU p 2 = true := by
  unfold prU
  simp [List.range_succ]
theorem prU_succ (p q : Nat) (h2 : 2 ≤ q) (hq : q * q ≤ p) : prU p (q + 1) = (prU p q && decide (p % q ≠ 0)) := by
  unfold prU
  rw [List.range_succ, List.all_append]
  congr 1
  simp only [List.all_cons, List.all_nil, Bool.and_true]
  rw [decide_eq_false (by omega), decide_eq_false (by omega)]
  rfl
theorem prU_more (p q r : Nat) (hq : p < q * q) (h : q ≤ r) : prU p r = prU p q := by
  induction r with
  | zero => rw [show q = 0 by omega]
  | succ r ih =>
    by_cases e : q = r + 1
    · rw [e]
    · rw [← ih (by omega)]
      unfold prU
      rw [List.range_succ, List.all_append]
      have h1 : q * q ≤ r * r := Nat.mul_le_mul (by omega) (by omega)
      simp only [List.all_cons, List.all_nil, Bool.and_true]
      rw [decide_eq_true (show p < r * r by omega)]
      simp
/-- The table's cells when the numbers below d + 2 have been looked at, and how many of them are primes. -/
def mkS : Nat → Nat × List (BitVec 32)
  | 0 => (0, List.replicate 72 0)
  | d + 1 => if prU (d + 2) 18 = true then ((mkS d).1 + 1, if (mkS d).1 < 8 then ((mkS d).2.set (mkS d).1 (BitVec.ofNat 32 (rootN (d + 2) 3 36 0))).set (64 + (mkS d).1) (BitVec.ofNat 32 (rootN (d + 2) 2 36 0)) else (mkS d).2.set (mkS d).1 (BitVec.ofNat 32 (rootN (d + 2) 3 36 0))) else mkS d
/-- The same, reckoned on. -/
def mkR : Nat → Nat → Nat × List (BitVec 32) → Nat × List (BitVec 32)
  | 0, _, s => s
  | k + 1, d, s => mkR k (d + 1) (if prU (d + 2) 18 = true then (s.1 + 1, if s.1 < 8 then (s.2.set s.1 (BitVec.ofNat 32 (rootN (d + 2) 3 36 0))).set (64 + s.1) (BitVec.ofNat 32 (rootN (d + 2) 2 36 0)) else s.2.set s.1 (BitVec.ofNat 32 (rootN (d + 2) 3 36 0))) else s)
theorem mkR_eq (k d : Nat) : mkR k d (mkS d) = mkS (d + k) := by
  induction k generalizing d with
  | zero => rfl
  | succ k ih => rw [mkR]; rw [show d + (k + 1) = (d + 1) + k by omega, ← ih (d + 1)]; rfl
theorem mkR_all : mkR 310 0 (0, List.replicate 72 0) = (64, kTab ++ hTab) := by decide +kernel
theorem mkS_all : mkS 310 = (64, kTab ++ hTab) := by
  rw [← mkR_all]
  exact (mkR_eq 310 0).symm
theorem mkR_last : (mkR 309 0 (0, List.replicate 72 0)).1 = 63 := by decide +kernel
theorem mkS_last : (mkS 309).1 = 63 := by
  rw [← mkR_last]
  exact congrArg Prod.fst (mkR_eq 309 0).symm
theorem mkS_up (d : Nat) : (mkS d).1 ≤ (mkS (d + 1)).1 := by
  show (mkS d).1 ≤ (if prU (d + 2) 18 = true then _ else mkS d).1
  split
  · exact Nat.le_succ _
  · exact Nat.le_refl _
theorem mkS_mono (d k : Nat) : (mkS d).1 ≤ (mkS (d + k)).1 := by
  induction k with
  | zero => exact Nat.le_refl _
  | succ k ih => exact Nat.le_trans ih (mkS_up (d + k))
theorem mkS_end (d : Nat) (hd : d ≤ 310) (h : 64 ≤ (mkS d).1) : d = 310 := by
  by_cases e : d = 310
  · exact e
  · have := mkS_mono d (309 - d)
    rw [show d + (309 - d) = 309 by omega, mkS_last] at this
    omega
theorem mkS_length (d : Nat) : (mkS d).2.length = 72 := by
  induction d with
  | zero => rfl
  | succ d ih =>
    rw [mkS]
    split
    · simp only []
      split <;> simp [ih]
    · exact ih
/-- The memory while the table is made. -/
def Tbl (w : World) (l : List (BitVec 32)) (wr : World) : Prop :=
  Below w.heap.size w wr ∧ w.heap.size + 2 ≤ wr.heap.size ∧ wr.heap[w.heap.size]? = some (.cells (u32s (List.replicate 72 0)) 45 (0, 0)) ∧ wr.heap[w.heap.size + 1]? = some (.cells (u32s l) 45 (0, 0))
theorem Tbl.step {w wr : World} {l : List (BitVec 32)} (h : Tbl w l wr) (i : Nat) (x : BitVec 32) : Tbl w (l.set i x) (wr.setCell ⟨w.heap.size + 1, i, none⟩ (.int .u32 (uv x))) := by
  obtain ⟨h1, h2, h3, h4⟩ := h
  refine ⟨h1.setCell (by simp only []; omega) _, by simpa using h2, ?_, ?_⟩
  · rw [heap_setCell_other _ _ _ _ (by simp only []; omega)]; exact h3
  · rw [heap_setCell_same wr _ _ _ _ _ h4, u32s_set]
theorem Tbl.later {w wr w2 : World} {l : List (BitVec 32)} (h : Tbl w l wr) (hb : Below wr.heap.size wr w2) : Tbl w l w2 :=
  ⟨h.1.trans (hb.mono h.1.size), Nat.le_trans h.2.1 hb.size, by rw [hb.block _ (by have := h.2.1; omega)]; exact h.2.2.1, by rw [hb.block _ (by have := h.2.1; omega)]; exact h.2.2.2⟩
theorem Tbl.cell {w wr : World} {l : List (BitVec 32)} (h : Tbl w l wr) (i : Nat) (hi : i < l.length) : wr.cell? ⟨w.heap.size + 1, i, none⟩ = some (.int .u32 (uv (l.getD i 0))) := by
  rw [cell_of_row _ _ _ _ _ _ h.2.2.2]; exact u32s_get _ _ hi
theorem Tbl.frozen {w wr : World} {l : List (BitVec 32)} (h : Tbl w l wr) (i : Nat) : wr.frozen? ⟨w.heap.size + 1, i, none⟩ = false := frozen_of_row _ _ _ _ _ h.2.2.2
theorem root3 (p : Nat) (w : World) (hp : p < 65536) : Calls Tryd.prog 31 #[.int .u64 (p : Int), .int .u64 3] w fun e w' => e = .returned (.int .u32 (uv (BitVec.ofNat 32 (rootN p 3 36 0)))) ∧ Below w.heap.size w w' := root_any 3 p w (.inr rfl) hp
theorem root2 (p : Nat) (w : World) (hp : p < 65536) : Calls Tryd.prog 31 #[.int .u64 (p : Int), .int .u64 2] w fun e w' => e = .returned (.int .u32 (uv (BitVec.ofNat 32 (rootN p 2 36 0)))) ∧ Below w.heap.size w w' := root_any 2 p w (.inl rfl) hp
set_option maxRecDepth 100000 in
set_option maxHeartbeats 1000000 in
theorem make_any (w : World) : Calls Tryd.prog 10 #[] w fun e w' => e = .returned (.agg (u32s (kTab ++ hTab))) ∧ Below w.heap.size w w' := by
  obtain ⟨zc, hzc⟩ : ∃ zc, u32s (List.replicate 72 0) = zc := ⟨_, rfl⟩
  have hzv : ∀ W : World, (zeroValue 45).run Tryd.prog W = .ok (.agg zc) W := fun W => by rw [← hzc]; kernel_rfl
  have HZ := Bx.mk hzc
  have hzs : zc.size = 72 := by rw [← hzc, u32s_size]; rfl
  have HI : Bx ((Tryd.prog.info? 45).map (·.size) = some zc.size) := Bx.mk (by rw [hzs]; kernel_rfl)
  have HO : Bx (zc.all (·.oneCell') = true) := Bx.mk (by rw [← hzc]; exact one_u32s _)
  have HN : Bx (((w.alloc (.cells zc 45)).alloc (.cells zc 45)).heap[w.heap.size + 1]? = some (.cells zc 45 (0, 0))) := Bx.mk (hnew _ _ _ (by simp))
  have HT : Bx (((w.alloc (.cells zc 45)).alloc (.cells zc 45)).there (w.heap.size + 1) 0 zc.size) := Bx.mk (there_row HN.out 0 _ (by omega))
  have H0 : Bx (Tbl w (mkS 0).2 (((w.alloc (.cells zc 45)).alloc (.cells zc 45)).setCells (w.heap.size + 1) 0 zc.toList)) := Bx.mk (by
    refine ⟨below_setCells (by omega) _ _ _ _ (((Below.refl _ _).alloc (Nat.le_refl _) _).alloc (by simp) _), by rw [size_setCells]; simp, ?_, ?_⟩
    · rw [heap_setCells_other _ _ (by omega), hold _ _ _ (by simp), hnew _ _ _ rfl, HZ.out]
    · rw [heap_setCells_all HN.out rfl, ← HZ.out]; rfl)
  clear hzc hzs
  go_enter Tryd.func10, Tryd.ntmps10
  go_wp2_with (refine wpList_store_mid rfl 45 _ _ rfl (w.heap.size + 1) 0 _ (by rfl) (by rfl) HT.out HI.out HO.out ?_)
  clear HT HN HO hzv
  generalize ((w.alloc (.cells zc 45)).alloc (.cells zc 45)).setCells (w.heap.size + 1) 0 zc.toList = w1 at *
  go_loopw [2, 3] (fun nn pp wr => ∃ d n : Nat, d ≤ 310 ∧ pp = .int .u64 ((d + 2 : Nat) : Int) ∧ nn = .int .i64 (n : Int) ∧ Bx ((mkS d).1 = n ∧ Tbl w (mkS d).2 wr)) (fun _ pp _ => 312 - (intOf pp).toNat)
  case atStart => exact ⟨0, 0, by omega, rfl, rfl, Bx.mk ⟨rfl, H0.out⟩⟩
  case round =>
    clear H0
    obtain ⟨d, n, hd, rfl, rfl, HE⟩ := hrel
    by_cases hlt : n < 64
    · have hd2 : d < 310 := by
        by_cases h : d = 310
        · have := HE.out.1; rw [h, mkS_all] at this; simp only [] at this; omega
        · omega
      have hn1 : (n : Int) < 64 := by omega
      obtain ⟨p, hp⟩ : ∃ p, d + 2 = p := ⟨_, rfl⟩
      have HP := Bx.mk hp
      have hp1 : p ≤ 311 := by omega
      have hp2 : 2 ≤ p := by omega
      rw [hp]
      clear hp
      obtain ⟨wo, rfl⟩ : ∃ wo : World, wo = wr := ⟨_, rfl⟩
      go_wp2
      go_loop [4, 5] (fun pr qq => ∃ q : Nat, ∃ r : Bool, 2 ≤ q ∧ q ≤ 18 ∧ qq = .int .u64 (q : Int) ∧ pr = .bool r ∧ Bx (prU p q = r)) (fun _ qq => 18 - (intOf qq).toNat)
      case atStart => exact ⟨2, true, by omega, by omega, rfl, rfl, Bx.mk (prU_two p)⟩
      case round =>
        obtain ⟨q, r, hq2, hq18, rfl, rfl, HR⟩ := hrel
        by_cases hqp : q * q ≤ p
        · have hq17 : q ≤ 17 := by
            by_cases h : q = 18
            · subst h; omega
            · omega
          have t1 : (q : Int) * (q : Int) ≤ (p : Int) := by rw [← Int.natCast_mul]; omega
          have t0 : 0 ≤ (q : Int) * (q : Int) := by rw [← Int.natCast_mul]; omega
          have HS : Bx (prU p (q + 1) = (r && decide (p % q ≠ 0))) := Bx.mk (by rw [prU_succ p q hq2 hqp, HR.out])
          have tq : (q : Int) ≠ 0 := by omega
          cases r with
          | true =>
            by_cases hz : p % q = 0
            · have t2 : (((p : Int) % (q : Int)) != 0) = false := by rw [← Int.natCast_emod, hz]; rfl
              have HN : Bx (prU p (q + 1) = false) := Bx.mk (by rw [HS.out, decide_eq_false (by simpa using hz)]; rfl)
              clear HR HS hz
              go_wp2
              go_round
              case rel => exact ⟨q + 1, false, by omega, by omega, by go_num, rfl, HN⟩
              case measure => simp [intOf]; omega
            · have t2 : (((p : Int) % (q : Int)) != 0) = true := by
                rw [← Int.natCast_emod]
                simp only [bne_iff_ne, ne_eq]
                omega
              have HN : Bx (prU p (q + 1) = true) := Bx.mk (by rw [HS.out, decide_eq_true (by simpa using hz)]; rfl)
              clear HR HS hz
              go_wp2
              go_round
              case rel => exact ⟨q + 1, true, by omega, by omega, by go_num, rfl, HN⟩
              case measure => simp [intOf]; omega
          | false =>
            have HN : Bx (prU p (q + 1) = false) := Bx.mk (by rw [HS.out]; rfl)
            clear HR HS
            go_wp2
            go_round
            case rel => exact ⟨q + 1, false, by omega, by omega, by go_num, rfl, HN⟩
            case measure => simp [intOf]; omega
        · have t1 : ¬ (q : Int) * (q : Int) ≤ (p : Int) := by rw [← Int.natCast_mul]; omega
          have t0 : 0 ≤ (q : Int) * (q : Int) := by rw [← Int.natCast_mul]; omega
          have t3 : (q : Int) * (q : Int) ≤ 324 := by rw [← Int.natCast_mul]; have := Nat.mul_le_mul hq18 hq18; omega
          have HF : Bx (prU p 18 = r) := Bx.mk (by rw [prU_more p q 18 (by omega) hq18, HR.out])
          clear HR
          cases r with
          | false =>
            have HN : Bx ((mkS (d + 1)).1 = n ∧ Tbl w (mkS (d + 1)).2 wo) := Bx.mk (by
              have e : mkS (d + 1) = mkS d := by
                show (if prU (d + 2) 18 = true then _ else mkS d) = mkS d
                rw [HP.out, HF.out, if_neg (by simp)]
              rw [e]; exact HE.out)
            clear HF HE
            go_wp2
            go_roundw
            case rel => exact ⟨d + 1, n, by omega, by rw [← HP.out]; go_num, rfl, HN⟩
            case measure => simp [intOf]; omega
          | true =>
            have HL : Bx ((mkS d).2.length = 72) := Bx.mk (mkS_length d)
            have HTb : Bx (Tbl w (mkS d).2 wo) := Bx.mk HE.out.2
            have HS : Bx (mkS (d + 1) = (n + 1, if n < 8 then ((mkS d).2.set n (BitVec.ofNat 32 (rootN p 3 36 0))).set (64 + n) (BitVec.ofNat 32 (rootN p 2 36 0)) else (mkS d).2.set n (BitVec.ofNat 32 (rootN p 3 36 0)))) := Bx.mk (by
              show (if prU (d + 2) 18 = true then _ else mkS d) = _
              rw [HP.out, HF.out, if_pos rfl, HE.out.1])
            have HC3 := Bx.mk (fun W => root3 p W (by omega))
            have HC2 := Bx.mk (fun W => root2 p W (by omega))
            clear HF HE
            generalize BitVec.ofNat 32 (rootN p 3 36 0) = r3 at *
            generalize BitVec.ofNat 32 (rootN p 2 36 0) = r2 at *
            generalize (mkS d).2 = l at *
            go_wp2_with fail
            refine (HC3.out _).mono ?_
            rintro e w2 ⟨rfl, hb2⟩
            have H2 : Bx (Tbl w l w2) := Bx.mk (HTb.out.later hb2)
            clear hb2 HTb HC3
            have c1 := H2.out.cell n (by rw [HL.out]; omega)
            have f1 := H2.out.frozen n
            have H3 : Bx (Tbl w (l.set n r3) (w2.setCell ⟨w.heap.size + 1, n, none⟩ (.int .u32 (uv r3)))) := Bx.mk (H2.out.step n r3)
            clear H2
            by_cases h8 : n < 8
            · have h81 : (n : Int) < 8 := by omega
              go_wp2_with fail
              generalize w2.setCell ⟨w.heap.size + 1, n, none⟩ (.int .u32 (uv r3)) = w3 at *
              refine (HC2.out _).mono ?_
              rintro e w4 ⟨rfl, hb4⟩
              have H4 : Bx (Tbl w (l.set n r3) w4) := Bx.mk (H3.out.later hb4)
              clear hb4 H3 HC2 c1 f1
              have c2 := H4.out.cell (64 + n) (by rw [List.length_set, HL.out]; omega)
              have f2 := H4.out.frozen (64 + n)
              have H5 : Bx ((mkS (d + 1)).1 = n + 1 ∧ Tbl w (mkS (d + 1)).2 (w4.setCell ⟨w.heap.size + 1, 64 + n, none⟩ (.int .u32 (uv r2)))) := Bx.mk (by
                rw [HS.out]; exact ⟨rfl, by rw [if_pos h8]; exact H4.out.step (64 + n) r2⟩)
              clear H4 HS
              go_wp2
              go_roundw
              case rel => exact ⟨d + 1, n + 1, by omega, by rw [← HP.out]; go_num, by go_num, H5⟩
              case measure => simp [intOf]; omega
            · have h81 : ¬ (n : Int) < 8 := by omega
              have H5 : Bx ((mkS (d + 1)).1 = n + 1 ∧ Tbl w (mkS (d + 1)).2 (w2.setCell ⟨w.heap.size + 1, n, none⟩ (.int .u32 (uv r3)))) := Bx.mk (by
                rw [HS.out]; exact ⟨rfl, by rw [if_neg h8]; exact H3.out⟩)
              clear H3 HS HC2
              go_wp2
              go_roundw
              case rel => exact ⟨d + 1, n + 1, by omega, by rw [← HP.out]; go_num, by go_num, H5⟩
              case measure => simp [intOf]; omega
    · have HF : Bx (Tbl w (kTab ++ hTab) wr) := Bx.mk (by
        have e := mkS_end d hd (by rw [HE.out.1]; omega)
        have h := HE.out.2
        rw [e, mkS_all] at h
        exact h)
      have HLn : Bx ((kTab ++ hTab).length = 72) := Bx.mk rfl
      clear HE
      obtain ⟨l, hl⟩ : ∃ l, kTab ++ hTab = l := ⟨_, rfl⟩
      rw [hl] at HF HLn
      have HX := Bx.mk hl
      clear hl
      have HIl : Bx ((Tryd.prog.info? 45).map (·.size) = some (u32s l).size) := Bx.mk (by rw [u32s_size, HLn.out]; kernel_rfl)
      have HT : Bx (wr.there w.heap.size 0 (u32s l).size) := Bx.mk (there_row HF.out.2.2.1 0 _ (by rw [u32s_size, u32s_size, HLn.out]; simp))
      have HY : Bx ((wr.setCells w.heap.size 0 (u32s l).toList).heap[w.heap.size]? = some (.cells (u32s l) 45 (0, 0))) := Bx.mk (heap_setCells_all HF.out.2.2.1 (by rw [u32s_size, u32s_size, HLn.out]; simp))
      have hn1 : ¬ (n : Int) < 64 := by omega
      go_wp2_with (first | (refine wpList_load_row rfl 45 _ rfl (w.heap.size + 1) (by rfl) _ _ _ _ HF.out.2.2.2 Tryd.underlying45 rfl HIl.out ?_) | (refine wpList_store_mid rfl 45 _ _ rfl w.heap.size 0 _ (by rfl) (by rfl) HT.out HIl.out (one_u32s _) ?_))
      refine bodyPost_ret (results_cell_row rfl _ _ w.heap.size _ (u32s l) _ _ rfl HY.out Tryd.underlying45 rfl HIl.out) rfl ?_
      exact ⟨by rw [HX.out], below_setCells (Nat.le_refl _) _ _ _ _ HF.out.1⟩
end Go.Proofs.YtaoekfomffebhaaDoor
