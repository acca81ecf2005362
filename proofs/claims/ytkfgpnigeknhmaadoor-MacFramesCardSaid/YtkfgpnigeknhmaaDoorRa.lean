/-
  The document's tables: numbers in parts of 16 bits.
-/
import Derived.Test.YtkfgpnigeknhmaaDoorWi
namespace Go.Proofs.YtkfgpnigeknhmaaDoor
open Go Go.RowKit
/-- Numbers of 64 bits as cells. -/
def u64s (l : List Nat) : Array Value := (l.map fun (x : Nat) => Value.int .u64 (x : Int)).toArray
theorem u64s_get (l : List Nat) (i : Nat) (h : i < l.length) : (u64s l)[i]? = some (.int .u64 ((l.getD i 0 : Nat) : Int)) := by
  simp [u64s, h]
theorem u64s_set (l : List Nat) (i : Nat) (x : Nat) : (u64s l).setIfInBounds i (.int .u64 (x : Int)) = u64s (l.set i x) := by
  simp [u64s, List.map_set]
theorem u64s_size (l : List Nat) : (u64s l).size = l.length := by simp [u64s]
theorem one_u64s (l : List Nat) : (u64s l).all (·.oneCell') = true := by simp [u64s, Value.oneCell']
/-- What the parts are worth, the lowest first. -/
def wor : List Nat → Nat
  | [] => 0
  | x :: l => x + 65536 * wor l
/-- Twelve parts, each below 65536. -/
def Dig (l : List Nat) : Prop := l.length = 12 ∧ ∀ i, l.getD i 0 < 65536
def partsOf (y : Nat) : List Nat := [y % 65536, y / 65536 % 65536, y / 65536 / 65536 % 65536, y / 65536 / 65536 / 65536 % 65536, 0, 0, 0, 0, 0, 0, 0, 0]
theorem wor_parts (y : Nat) (h : y < 18446744073709551616) : wor (partsOf y) = y := by
  simp only [partsOf, wor]; omega
theorem dig_parts (y : Nat) : Dig (partsOf y) := by
  refine ⟨rfl, fun i => ?_⟩
  match i with
  | 0 => exact Nat.mod_lt _ (by omega)
  | 1 => exact Nat.mod_lt _ (by omega)
  | 2 => exact Nat.mod_lt _ (by omega)
  | 3 => exact Nat.mod_lt _ (by omega)
  | 4 | 5 | 6 | 7 | 8 | 9 | 10 | 11 => show (0 : Nat) < 65536; omega
  | i + 12 => show (0 : Nat) < 65536; omega
theorem parts_cells (y : Nat) : u64s (partsOf y) = #[.int .u64 ((y : Int) % 65536), .int .u64 ((y : Int) / 65536 % 65536), .int .u64 ((y : Int) / 65536 / 65536 % 65536), .int .u64 ((y : Int) / 65536 / 65536 / 65536 % 65536), .int .u64 0, .int .u64 0, .int .u64 0, .int .u64 0, .int .u64 0, .int .u64 0, .int .u64 0, .int .u64 0] := by
  simp [u64s, partsOf]
set_option maxRecDepth 100000 in
theorem parts_any (y : Nat) (w : World) (hy : y < 18446744073709551616) : Calls Tryd.prog 57 #[.int .u64 (y : Int)] w fun e w' => e = .returned (.agg (u64s (partsOf y))) ∧ Below w.heap.size w w' := by
  have hy1 : (y : Int) ≤ 18446744073709551615 := by omega
  clear hy
  go_enter Tryd.func57, Tryd.ntmps57
  go_wp2
  go_rounds 5
  refine bodyPost_ret (results_cell_row rfl _ _ w.heap.size _ (u64s (partsOf y)) _ _ rfl (by rw [hold _ _ _ (by simp), hnew _ _ _ rfl, parts_cells]) Tryd.underlying94 rfl (by rw [u64s_size]; kernel_rfl)) rfl ?_
  exact ⟨rfl, ((Below.refl _ _).alloc (Nat.le_refl _) _).alloc (by simp) _⟩
theorem wor_set : ∀ (l : List Nat) (i x : Nat), i < l.length → wor (l.set i x) + l.getD i 0 * 65536 ^ i = wor l + x * 65536 ^ i
  | [], i, x, h => by simp at h
  | y :: l, 0, x, _ => by simp [wor]; omega
  | y :: l, i + 1, x, h => by
    have ih := wor_set l i x (by simpa using h)
    simp only [List.set_cons_succ, wor, List.getD_cons_succ, Nat.pow_succ]
    have e1 : l.getD i 0 * (65536 ^ i * 65536) = 65536 * (l.getD i 0 * 65536 ^ i) := by rw [← Nat.mul_assoc, Nat.mul_comm]
    have e2 : x * (65536 ^ i * 65536) = 65536 * (x * 65536 ^ i) := by rw [← Nat.mul_assoc, Nat.mul_comm]
    rw [e1, e2]
    omega
theorem wor_take_succ : ∀ (l : List Nat) (k : Nat), k < l.length → wor (l.take (k + 1)) = wor (l.take k) + l.getD k 0 * 65536 ^ k
  | [], k, h => by simp at h
  | y :: l, 0, _ => by simp [wor]
  | y :: l, k + 1, h => by
    have ih := wor_take_succ l k (by simpa using h)
    simp only [List.take_succ_cons, wor, List.getD_cons_succ, Nat.pow_succ] at ih ⊢
    rw [ih, ← Nat.mul_assoc, Nat.mul_comm (l.getD k 0 * 65536 ^ k) 65536]
    omega
theorem wor_split (l : List Nat) (k : Nat) : ∃ r, wor l = wor (l.take k) + r * 65536 ^ k := by
  induction l generalizing k with
  | nil => exact ⟨0, by simp [wor]⟩
  | cons y l ih =>
    match k with
    | 0 => exact ⟨wor (y :: l), by simp [wor]⟩
    | k + 1 =>
      obtain ⟨r, hr⟩ := ih k
      refine ⟨r, ?_⟩
      simp only [List.take_succ_cons, wor, Nat.pow_succ]
      rw [hr, ← Nat.mul_assoc, Nat.mul_comm (r * 65536 ^ k) 65536]
      omega
theorem wor_lt (l : List Nat) (h : ∀ i, l.getD i 0 < 65536) : wor l < 65536 ^ l.length := by
  induction l with
  | nil => simp [wor]
  | cons y l ih =>
    have h0 := h 0
    have ih' := ih (fun i => h (i + 1))
    simp only [wor, List.length_cons, Nat.pow_succ, List.getD_cons_zero] at h0 ⊢
    omega
/-- The row of a product: while the parts of b are multiplied by one part of a. -/
structure RowAt (z0 b : List Nat) (x i k over : Nat) (z : List Nat) : Prop where
  dig : Dig z
  small : over < 65536
  eq : wor z + over * 65536 ^ (i + k) = wor z0 + x * wor (b.take k) * 65536 ^ i
theorem RowAt.step {z0 b : List Nat} {x i k over : Nat} {z : List Nat} (h : RowAt z0 b x i k over z) (hb : b.length = 12) (hk : i + k < 12) (hx : x < 65536) (hbk : b.getD k 0 < 65536) :
    RowAt z0 b x i (k + 1) ((over + z.getD (i + k) 0 + x * b.getD k 0) / 65536) (z.set (i + k) ((over + z.getD (i + k) 0 + x * b.getD k 0) % 65536)) := by
  have hm : x * b.getD k 0 ≤ 65535 * 65535 := Nat.mul_le_mul (by omega) (by omega)
  have hz := h.dig.2 (i + k)
  have hs := h.small
  refine ⟨⟨by rw [List.length_set]; exact h.dig.1, fun j => ?_⟩, by omega, ?_⟩
  · by_cases hj : i + k = j
    · subst hj
      have : i + k < z.length := by rw [h.dig.1]; exact hk
      simp [this]
      omega
    · have e : (z.set (i + k) ((over + z.getD (i + k) 0 + x * b.getD k 0) % 65536)).getD j 0 = z.getD j 0 := by simp [hj]
      rw [e]
      exact h.dig.2 j
  · have e1 := wor_set z (i + k) ((over + z.getD (i + k) 0 + x * b.getD k 0) % 65536) (by rw [h.dig.1]; exact hk)
    have e2 := wor_take_succ b k (by omega)
    have e3 := h.eq
    have e4 : (over + z.getD (i + k) 0 + x * b.getD k 0) % 65536 + 65536 * ((over + z.getD (i + k) 0 + x * b.getD k 0) / 65536) = over + z.getD (i + k) 0 + x * b.getD k 0 := Nat.mod_add_div _ _
    rw [e2, Nat.mul_add, Nat.add_mul, ← Nat.add_assoc i k 1, Nat.pow_succ]
    have e5 : x * (b.getD k 0 * 65536 ^ k) * 65536 ^ i = x * b.getD k 0 * 65536 ^ (i + k) := by
      rw [Nat.pow_add]; simp only [Nat.mul_assoc]; rw [Nat.mul_comm (65536 ^ k)]
    rw [e5]
    generalize 65536 ^ (i + k) = P at *
    generalize (over + z.getD (i + k) 0 + x * b.getD k 0) % 65536 = u at *
    generalize (over + z.getD (i + k) 0 + x * b.getD k 0) / 65536 = v at *
    generalize z.getD (i + k) 0 = c at *
    generalize x * b.getD k 0 = d at *
    have e6 : u * P + v * (P * 65536) = over * P + c * P + d * P := by
      rw [← Nat.add_mul, ← Nat.add_mul, ← e4, Nat.add_mul, Nat.mul_comm P 65536, ← Nat.mul_assoc, Nat.mul_comm v 65536]
    omega
theorem RowAt.start (z0 b : List Nat) (x i : Nat) (h : Dig z0) : RowAt z0 b x i 0 0 z0 := ⟨h, by omega, by simp [wor]⟩
/-- The product's parts behind i rows. -/
def TimAt (a b : List Nat) (i : Nat) (z : List Nat) : Prop := Dig z ∧ wor z % 65536 ^ 12 = wor (a.take i) * wor b % 65536 ^ 12
theorem TimAt.step {a b z0 z : List Nat} {i over : Nat} (h : TimAt a b i z0) (ha : a.length = 12) (hi : i < 12) (r : RowAt z0 b (a.getD i 0) i (12 - i) over z) : TimAt a b (i + 1) z := by
  refine ⟨r.dig, ?_⟩
  have e1 := r.eq
  rw [show i + (12 - i) = 12 by omega] at e1
  obtain ⟨q, hq⟩ := wor_split b (12 - i)
  have e2 := wor_take_succ a i (by omega)
  have e3 : wor z % 65536 ^ 12 = (wor z0 + a.getD i 0 * wor (b.take (12 - i)) * 65536 ^ i) % 65536 ^ 12 := by
    rw [← e1, Nat.add_mul_mod_self_right]
  have e4 : a.getD i 0 * 65536 ^ i * wor b = a.getD i 0 * wor (b.take (12 - i)) * 65536 ^ i + (a.getD i 0 * q) * 65536 ^ 12 := by
    rw [hq, Nat.mul_add]
    have p : (65536 : Nat) ^ 12 = 65536 ^ i * 65536 ^ (12 - i) := by rw [← Nat.pow_add, show i + (12 - i) = 12 by omega]
    rw [p]
    congr 1
    · rw [Nat.mul_assoc, Nat.mul_comm (65536 ^ i), ← Nat.mul_assoc]
    · rw [Nat.mul_assoc, Nat.mul_assoc, ← Nat.mul_assoc (65536 ^ i) q, Nat.mul_comm (65536 ^ i) q, Nat.mul_assoc]
  rw [e3, e2, Nat.add_mul, e4, ← Nat.add_assoc, Nat.add_mul_mod_self_right, Nat.add_mod, h.2, ← Nat.add_mod]
theorem TimAt.start (a b : List Nat) : TimAt a b 0 (List.replicate 12 0) := ⟨⟨rfl, fun i => by
  have e : (List.replicate 12 0).getD i 0 = 0 := by rw [List.getD_eq_getElem?_getD, List.getElem?_replicate]; split <;> rfl
  rw [e]; omega⟩, by simp [wor, List.replicate]⟩
theorem TimAt.done {a b z : List Nat} (h : TimAt a b 12 z) (ha : a.length = 12) : wor z = wor a * wor b % 65536 ^ 12 := by
  have e := h.2
  rw [List.take_of_length_le (by omega), Nat.mod_eq_of_lt (by have := wor_lt z h.1.2; rw [h.1.1] at this; exact this)] at e
  exact e
end Go.Proofs.YtkfgpnigeknhmaaDoor
