/-
  The walk of the table of the document.
-/
import Derived.Test.YtnfgamekjbkbkaaDoorAb
namespace Go.Proofs.YtnfgamekjbkbkaaDoor
open Go Go.RowKit
/-- Numbers of 64 bits as cells. -/
def u64s (l : List Nat) : Array Value := (l.map fun (x : Nat) => Value.int .u64 (x : Int)).toArray
theorem u64s_set (l : List Nat) (i : Nat) (x : Nat) : (u64s l).setIfInBounds i (.int .u64 (x : Int)) = u64s (l.set i x) := by
  simp [u64s, List.map_set]
/-- What the parts are worth, the lowest first. -/
def wor : List Nat → Nat
  | [] => 0
  | x :: l => x + 65536 * wor l
/-- Twelve parts, each below 65536. -/
def Dig (l : List Nat) : Prop := l.length = 12 ∧ ∀ i, l.getD i 0 < 65536
theorem wor_set : ∀ (l : List Nat) (i x : Nat), i < l.length → wor (l.set i x) + l.getD i 0 * 65536 ^ i = wor l + x * 65536 ^ i
  | [], i, x, h => by simp at h
  | y :: l, 0, x, _ => by simp [wor]; omega
  | y :: l, i + 1, x, h => by
    have ih := wor_set l i x (by simpa using h)
    simp only [List.set_cons_succ, wor, List.getD_cons_succ, Nat.pow_succ]
    have e1 : l.getD i 0 * (65536 ^ i * 65536) = 65536 * (l.getD i 0 * 65536 ^ i) := by rw [← Nat.mul_assoc, Nat.mul_comm]
    have e2 : x * (65536 ^ i * 65536) = 65536 * (x * 65536 ^ i) := by rw [← Nat.mul_assoc, Nat.mul_comm]
    rw [e1, e2]
    omega
theorem wor_take_succ : ∀ (l : List Nat) (k : Nat), k < l.length → wor (l.take (k + 1)) = wor (l.take k) + l.getD k 0 * 65536 ^ k
  | [], k, h => by simp at h
  | y :: l, 0, _ => by simp [wor]
  | y :: l, k + 1, h => by
    have ih := wor_take_succ l k (by simpa using h)
    simp only [List.take_succ_cons, wor, List.getD_cons_succ, Nat.pow_succ] at ih ⊢
    rw [ih, ← Nat.mul_assoc, Nat.mul_comm (l.getD k 0 * 65536 ^ k) 65536]
    omega
theorem wor_split (l : List Nat) (k : Nat) : ∃ r, wor l = wor (l.take k) + r * 65536 ^ k := by
  induction l generalizing k with
  | nil => exact ⟨0, by simp [wor]⟩
  | cons y l ih =>
    match k with
    | 0 => exact ⟨wor (y :: l), by simp [wor]⟩
    | k + 1 =>
      obtain ⟨r, hr⟩ := ih k
      refine ⟨r, ?_⟩
      simp only [List.take_succ_cons, wor, Nat.pow_succ]
      rw [hr, ← Nat.mul_assoc, Nat.mul_comm (r * 65536 ^ k) 65536]
      omega
/-- The row of a product: while the parts of b are multiplied by one part of a. -/
structure RowAt (z0 b : List Nat) (x i k over : Nat) (z : List Nat) : Prop where
  dig : Dig z
  small : over < 65536
  eq : wor z + over * 65536 ^ (i + k) = wor z0 + x * wor (b.take k) * 65536 ^ i
theorem RowAt.step {z0 b : List Nat} {x i k over : Nat} {z : List Nat} (h : RowAt z0 b x i k over z) (hb : b.length = 12) (hk : i + k < 12) (hx : x < 65536) (hbk : b.getD k 0 < 65536) :
    RowAt z0 b x i (k + 1) ((over + z.getD (i + k) 0 + x * b.getD k 0) / 65536) (z.set (i + k) ((over + z.getD (i + k) 0 + x * b.getD k 0) % 65536)) := by
  have hm : x * b.getD k 0 ≤ 65535 * 65535 := Nat.mul_le_mul (by omega) (by omega)
  have hz := h.dig.2 (i + k)
  have hs := h.small
  refine ⟨⟨by rw [List.length_set]; exact h.dig.1, fun j => ?_⟩, by omega, ?_⟩
  · by_cases hj : i + k = j
    · subst hj
      have : i + k < z.length := by rw [h.dig.1]; exact hk
      simp [this]
      omega
    · have e : (z.set (i + k) ((over + z.getD (i + k) 0 + x * b.getD k 0) % 65536)).getD j 0 = z.getD j 0 := by simp [hj]
      rw [e]
      exact h.dig.2 j
  · have e1 := wor_set z (i + k) ((over + z.getD (i + k) 0 + x * b.getD k 0) % 65536) (by rw [h.dig.1]; exact hk)
    have e2 := wor_take_succ b k (by omega)
    have e3 := h.eq
    have e4 : (over + z.getD (i + k) 0 + x * b.getD k 0) % 65536 + 65536 * ((over + z.getD (i + k) 0 + x * b.getD k 0) / 65536) = over + z.getD (i + k) 0 + x * b.getD k 0 := Nat.mod_add_div _ _
    rw [e2, Nat.mul_add, Nat.add_mul, ← Nat.add_assoc i k 1, Nat.pow_succ]
    have e5 : x * (b.getD k 0 * 65536 ^ k) * 65536 ^ i = x * b.getD k 0 * 65536 ^ (i + k) := by
      rw [Nat.pow_add]; simp only [Nat.mul_assoc]; rw [Nat.mul_comm (65536 ^ k)]
    rw [e5]
    generalize 65536 ^ (i + k) = P at *
    generalize (over + z.getD (i + k) 0 + x * b.getD k 0) % 65536 = u at *
    generalize (over + z.getD (i + k) 0 + x * b.getD k 0) / 65536 = v at *
    generalize z.getD (i + k) 0 = c at *
    generalize x * b.getD k 0 = d at *
    have e6 : u * P + v * (P * 65536) = over * P + c * P + d * P := by
      rw [← Nat.add_mul, ← Nat.add_mul, ← e4, Nat.add_mul, Nat.mul_comm P 65536, ← Nat.mul_assoc, Nat.mul_comm v 65536]
    omega
theorem RowAt.start (z0 b : List Nat) (x i : Nat) (h : Dig z0) : RowAt z0 b x i 0 0 z0 := ⟨h, by omega, by simp [wor]⟩
/-- The product's parts behind i rows. -/
def TimAt (a b : List Nat) (i : Nat) (z : List Nat) : Prop := Dig z ∧ wor z % 65536 ^ 12 = wor (a.take i) * wor b % 65536 ^ 12
theorem TimAt.step {a b z0 z : List Nat} {i over : Nat} (h : TimAt a b i z0) (ha : a.length = 12) (hi : i < 12) (r : RowAt z0 b (a.getD i 0) i (12 - i) over z) : TimAt a b (i + 1) z := by
  refine ⟨r.dig, ?_⟩
  have e1 := r.eq
  rw [show i + (12 - i) = 12 by omega] at e1
  obtain ⟨q, hq⟩ := wor_split b (12 - i)
  have e2 := wor_take_succ a i (by omega)
  have e3 : wor z % 65536 ^ 12 = (wor z0 + a.getD i 0 * wor (b.take (12 - i)) * 65536 ^ i) % 65536 ^ 12 := by
    rw [← e1, Nat.add_mul_mod_self_right]
  have e4 : a.getD i 0 * 65536 ^ i * wor b = a.getD i 0 * wor (b.take (12 - i)) * 65536 ^ i + (a.getD i 0 * q) * 65536 ^ 12 := by
    rw [hq, Nat.mul_add]
    have p : (65536 : Nat) ^ 12 = 65536 ^ i * 65536 ^ (12 - i) := by rw [← Nat.pow_add, show i + (12 - i) = 12 by omega]
    rw [p]
    congr 1
    · rw [Nat.mul_assoc, Nat.mul_comm (65536 ^ i), ← Nat.mul_assoc]
    · rw [Nat.mul_assoc, Nat.mul_assoc, ← Nat.mul_assoc (65536 ^ i) q, Nat.mul_comm (65536 ^ i) q, Nat.mul_assoc]
  rw [e3, e2, Nat.add_mul, e4, ← Nat.add_assoc, Nat.add_mul_mod_self_right, Nat.add_mod, h.2, ← Nat.add_mod]
theorem TimAt.start (a b : List Nat) : TimAt a b 0 (List.replicate 12 0) := ⟨⟨rfl, fun i => by
  have e : (List.replicate 12 0).getD i 0 = 0 := by rw [List.getD_eq_getElem?_getD, List.getElem?_replicate]; split <;> rfl
  rw [e]; omega⟩, by simp [wor, List.replicate]⟩
end Go.Proofs.YtnfgamekjbkbkaaDoor
namespace Go.Proofs.YtnfgamekjbkbkaaDoor
open Go Go.RowKit
/-- The memory while a product is made. -/
def Tms (w : World) (a b z : List Nat) (wr : World) : Prop :=
  Below w.heap.size w wr ∧ w.heap.size + 4 ≤ wr.heap.size ∧ wr.heap[w.heap.size]? = some (.cells (u64s a) 165 (0, 0)) ∧ wr.heap[w.heap.size + 1]? = some (.cells (u64s b) 165 (0, 0)) ∧
  wr.heap[w.heap.size + 1 + 1]? = some (.cells (u64s (List.replicate 12 0)) 165 (0, 0)) ∧ wr.heap[w.heap.size + 1 + 1 + 1]? = some (.cells (u64s z) 165 (0, 0))
theorem Tms.drewN {w wr : World} {a b z : List Nat} (h : Tms w a b z wr) (n : Nat) : Tms w a b z (wr.drewN n) := ⟨below_drewN h.1 n, h.2⟩
theorem Tms.step {w wr : World} {a b z : List Nat} (h : Tms w a b z wr) (i x : Nat) : Tms w a b (z.set i x) (wr.setCell ⟨w.heap.size + 1 + 1 + 1, i, none⟩ (.int .u64 (x : Int))) := by
  obtain ⟨h1, h2, h3, h4, h5, h6⟩ := h
  refine ⟨h1.setCell (by simp only []; omega) _, by simpa using h2, ?_, ?_, ?_, ?_⟩
  · rw [heap_setCell_other _ _ _ _ (by simp only []; omega)]; exact h3
  · rw [heap_setCell_other _ _ _ _ (by simp only []; omega)]; exact h4
  · rw [heap_setCell_other _ _ _ _ (by simp only []; omega)]; exact h5
  · rw [heap_setCell_same wr _ _ _ _ _ h6, u64s_set]
theorem zero12 : u64s (List.replicate 12 0) = #[.int .u64 0, .int .u64 0, .int .u64 0, .int .u64 0, .int .u64 0, .int .u64 0, .int .u64 0, .int .u64 0, .int .u64 0, .int .u64 0, .int .u64 0, .int .u64 0] := by kernel_rfl
theorem Tms.start (w : World) (a b : List Nat) : Tms w a b (List.replicate 12 0) ((((w.alloc (.cells (u64s a) 165)).alloc (.cells (u64s b) 165)).alloc (.cells #[.int .u64 0, .int .u64 0, .int .u64 0, .int .u64 0, .int .u64 0, .int .u64 0, .int .u64 0, .int .u64 0, .int .u64 0, .int .u64 0, .int .u64 0, .int .u64 0] 165)).alloc (.cells #[.int .u64 0, .int .u64 0, .int .u64 0, .int .u64 0, .int .u64 0, .int .u64 0, .int .u64 0, .int .u64 0, .int .u64 0, .int .u64 0, .int .u64 0, .int .u64 0] 165)) := by
  refine ⟨((((Below.refl _ _).alloc (Nat.le_refl _) _).alloc (by simp) _).alloc (by simp; omega) _).alloc (by simp; omega) _, by simp, ?_, ?_, ?_, ?_⟩
  · rw [hold _ _ _ (by simp; omega), hold _ _ _ (by simp; omega), hold _ _ _ (by simp), hnew _ _ _ rfl]
  · rw [hold _ _ _ (by simp), hold _ _ _ (by simp), hnew _ _ _ (by simp)]
  · rw [hold _ _ _ (by simp), hnew _ _ _ (by simp), zero12]
  · rw [hnew _ _ _ (by simp), zero12]
end Go.Proofs.YtnfgamekjbkbkaaDoor
namespace Go.Proofs.YtnfgamekjbkbkaaDoor
open Go Go.RowKit
attribute [local go_sem ↓] Go.wp_at_zero Go.wp_at_succ
end Go.Proofs.YtnfgamekjbkbkaaDoor
namespace Go.Proofs.YtnfgamekjbkbkaaDoor
open Go Go.RowKit
/-- The memory while the table is made. -/
def Tbl (w : World) (l : List (BitVec 32)) (wr : World) : Prop :=
  Below w.heap.size w wr ∧ w.heap.size + 2 ≤ wr.heap.size ∧ wr.heap[w.heap.size]? = some (.cells (u32s (List.replicate 72 0)) 59 (0, 0)) ∧ wr.heap[w.heap.size + 1]? = some (.cells (u32s l) 59 (0, 0))
theorem Tbl.step {w wr : World} {l : List (BitVec 32)} (h : Tbl w l wr) (i : Nat) (x : BitVec 32) : Tbl w (l.set i x) (wr.setCell ⟨w.heap.size + 1, i, none⟩ (.int .u32 (uv x))) := by
  obtain ⟨h1, h2, h3, h4⟩ := h
  refine ⟨h1.setCell (by simp only []; omega) _, by simpa using h2, ?_, ?_⟩
  · rw [heap_setCell_other _ _ _ _ (by simp only []; omega)]; exact h3
  · rw [heap_setCell_same wr _ _ _ _ _ h4, u32s_set]
theorem Tbl.later {w wr w2 : World} {l : List (BitVec 32)} (h : Tbl w l wr) (hb : Below wr.heap.size wr w2) : Tbl w l w2 :=
  ⟨h.1.trans (hb.mono h.1.size), Nat.le_trans h.2.1 hb.size, by rw [hb.block _ (by have := h.2.1; omega)]; exact h.2.2.1, by rw [hb.block _ (by have := h.2.1; omega)]; exact h.2.2.2⟩
theorem Tbl.cell {w wr : World} {l : List (BitVec 32)} (h : Tbl w l wr) (i : Nat) (hi : i < l.length) : wr.cell? ⟨w.heap.size + 1, i, none⟩ = some (.int .u32 (uv (l.getD i 0))) := by
  rw [cell_of_row _ _ _ _ _ _ h.2.2.2]; exact u32s_get _ _ hi
theorem Tbl.frozen {w wr : World} {l : List (BitVec 32)} (h : Tbl w l wr) (i : Nat) : wr.frozen? ⟨w.heap.size + 1, i, none⟩ = false := frozen_of_row _ _ _ _ _ h.2.2.2
end Go.Proofs.YtnfgamekjbkbkaaDoor
