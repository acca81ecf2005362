/-
  Fields as plain functions, and the walks of numbers as bytes.
-/
import Derived.Test.YtiengbmnfbbgoaaDoorGa
namespace Go.Proofs.YtiengbmnfbbgoaaDoor
open Go Go.RowKit
theorem Bytes.old {w w1 : World} {v : Value} {l : List UInt8} (h : Bytes w v l) {B : Nat} (hB : w.heap.size = B) (hb : Below B w w1) : Bytes w1 v l := h.later (by rw [hB]; exact hb)
/-- A field. -/
structure Fd where
  s : Int
  n : Int
  b : List UInt8
/-- The lowest k bytes of a number, the highest first. -/
def beN : Nat → Nat → List UInt8
  | 0, _ => []
  | k + 1, n => UInt8.ofNat (n / 256 ^ k % 256) :: beN k n
theorem beN_length (k n : Nat) : (beN k n).length = k := by
  induction k with
  | zero => rfl
  | succ k ih => simp [beN, ih]
theorem ub_nat (m : Nat) : ub (UInt8.ofNat (m % 256)) = ((m % 256 : Nat) : Int) := by
  unfold ub
  rw [UInt8.toNat_ofNat']
  omega
/-- How many bytes a number of a size has. -/
def wid (s : Int) : Nat := if s = 0 then 1 else if s = 1 then 2 else if s = 2 then 4 else 8
/-- The greatest number of a size. -/
def most (s : Int) : Int := if s = 0 then 255 else if s = 1 then 65535 else if s = 2 then 4294967295 else 9223372036854775807
/-- What is wrong with a field. -/
def chk (f : Fd) : Int := if f.s < 0 ∨ 4 < f.s then 13 else if f.s = 4 then (if f.n ≠ 0 then 10 else if 512 < f.b.length then 2 else 0) else if f.b.length > 0 ∨ f.n < 0 ∨ most f.s < f.n then 10 else 0
/-- A field's bytes. -/
def enc (f : Fd) : List UInt8 := if f.s = 4 then beN 2 f.b.length ++ f.b else beN (wid f.s) f.n.toNat
/-- One field more: the bytes, and the error. -/
def putS (st : List UInt8 × Int) (f : Fd) : List UInt8 × Int :=
  if st.2 ≠ 0 then st else if chk f ≠ 0 then (st.1, chk f) else if 1024 < st.1.length + (enc f).length then (st.1, 2) else (st.1 ++ enc f, 0)
theorem ret_bool {a b : Bool} (h : a = b) : Ending.returned (.bool a) = .returned (.bool b) := by rw [h]
theorem known_any (z : Int) (w : World) : Calls Tryd.prog 98 #[.int .i64 z] w fun e w' => e = .returned (.bool (decide (0 ≤ z) && decide (z ≤ 4))) ∧ w' = w := by
  go_enter Tryd.func98, Tryd.ntmps98
  by_cases h : 0 ≤ z
  · by_cases h2 : z ≤ 4
    · go_wp2
      go_ret
      exact ⟨ret_bool (by simp; omega), rfl⟩
    · go_wp2
      go_ret
      exact ⟨ret_bool (by simp; omega), rfl⟩
  · go_wp2
    go_ret
    exact ⟨ret_bool (by simp; omega), rfl⟩
theorem size_cases {s : Int} (h0 : 0 ≤ s) (h3 : s ≤ 3) : s = 0 ∨ s = 1 ∨ s = 2 ∨ s = 3 := by omega
theorem width_any (s : Int) (w : World) (h0 : 0 ≤ s) (h3 : s ≤ 3) : Calls Tryd.prog 100 #[.int .i64 s] w fun e w' => e = .returned (.int .i64 (wid s : Int)) ∧ w' = w := by
  rcases size_cases h0 h3 with rfl | rfl | rfl | rfl
  all_goals
    go_enter Tryd.func100, Tryd.ntmps100
    go_wp2
    go_ret
    exact ⟨rfl, rfl⟩
/-- Whether a number fits its size. -/
def fitB (s n : Int) : Bool := decide (0 ≤ n) && decide (n ≤ most s)
theorem fits_any (s n : Int) (w : World) (h0 : 0 ≤ s) (h3 : s ≤ 3) (hn1 : -9223372036854775808 ≤ n) (hn2 : n ≤ 9223372036854775807) :
    Calls Tryd.prog 99 #[.int .i64 s, .int .i64 n] w fun e w' => e = .returned (.bool (fitB s n)) ∧ w' = w := by
  have H := Bx.mk (And.intro h0 h3)
  rcases size_cases h0 h3 with rfl | rfl | rfl | rfl
  all_goals
    go_enter Tryd.func99, Tryd.ntmps99
    go_wp2_with fail
    refine (width_any _ w H.out.1 H.out.2).mono ?_
    rintro e w1 ⟨rfl, rfl⟩
    simp only [wid]
    go_wp2
    go_ret
    refine ⟨ret_bool ?_, rfl⟩
    simp only [fitB, most]
    rw [Bool.eq_iff_iff]
    simp
    omega
theorem beN_succ (k n : Nat) : beN (k + 1) n = UInt8.ofNat (n / 256 ^ k % 256) :: beN k n := rfl
/-- The bytes that number has made behind k rounds. -/
def nbr (W n k : Nat) : List UInt8 := List.replicate (W - k) 0 ++ beN k n
theorem nbr_length (W n k : Nat) (h : k ≤ W) : (nbr W n k).length = W := by
  simp [nbr, beN_length]
  omega
theorem nbr_succ (W n k : Nat) (h : k < W) : (nbr W n k).set (W - 1 - k) (UInt8.ofNat (n / 256 ^ k % 256)) = nbr W n (k + 1) := by
  unfold nbr
  obtain ⟨m, rfl⟩ : ∃ m, W = m + 1 + k := ⟨W - 1 - k, by omega⟩
  rw [show m + 1 + k - 1 - k = m by omega, show m + 1 + k - k = m + 1 by omega, show m + 1 + k - (k + 1) = m by omega, List.replicate_succ', List.append_assoc, List.set_append_right _ _ (by simp), beN_succ]
  simp
theorem pow_nat (k : Nat) : (2 : Int) ^ (8 * k) = ((256 ^ k : Nat) : Int) := by
  rw [Int.pow_mul, Int.natCast_pow]
  rfl
theorem wid_le (s : Int) : 1 ≤ wid s ∧ wid s ≤ 8 := by
  unfold wid
  repeat' split
  all_goals omega
set_option maxRecDepth 100000 in
set_option maxHeartbeats 1000000 in
theorem number_any (s : Int) (n : Nat) (w : World) (h0 : 0 ≤ s) (h3 : s ≤ 3) (hn : n ≤ 9223372036854775807) :
    Calls Tryd.prog 92 #[.int .i64 s, .int .i64 (n : Int)] w fun e w' => ∃ v', e = .returned v' ∧ OwnB w' w.heap.size v' (beN (wid s) n) ∧ Below w.heap.size w w' := by
  have hW := wid_le s
  have hWd := fun w => width_any s w h0 h3
  have HN := Bx.mk (And.intro hW hn)
  have hn1 : (n : Int) ≤ 9223372036854775807 := by omega
  clear h0 h3
  generalize wid s = W at *
  have hw1 : (1 : Int) ≤ (W : Int) := by omega
  have hw8 : (W : Int) ≤ 8 := by omega
  clear hW hn
  have hmk := fun w => mk_u8g W W .i64 .i64 (W : Int) (W : Int) rfl rfl (Nat.le_refl _) (by omega) w
  have H0 : Bx (OwnB (w.alloc (.cells (u8s (List.replicate W 0)) 5)) w.heap.size (.slice (some ⟨w.heap.size, 0, none⟩) W W) (nbr W n 0) ∧ Below w.heap.size w (w.alloc (.cells (u8s (List.replicate W 0)) 5))) := Bx.mk ⟨by
    have e : nbr W n 0 = List.replicate W 0 := by simp [nbr, beN]
    rw [e]
    exact row_own (l := List.replicate W 0) (by rw [hnew _ _ _ rfl]) (by simp) (Nat.le_refl _) (by omega), below_a _⟩
  go_enter Tryd.func92, Tryd.ntmps92
  go_wp2_with fail
  refine (hWd w).mono ?_
  rintro e w1 ⟨rfl, rfl⟩
  go_wp2
  generalize w1.alloc (.cells (u8s (List.replicate W 0)) 5) = w2 at *
  generalize hD : w1.heap.size = D at *
  go_loopw [6, 12] (fun u i wr => ∃ k : Nat, k ≤ W ∧ i = .int .i64 (k : Int) ∧ Bx (OwnB wr D (.slice (some ⟨D, 0, none⟩) W W) (nbr W n k) ∧ Below D w1 wr)) (fun _ i _ => W - (intOf i).toNat)
  case atStart => exact ⟨0, Nat.zero_le _, rfl, H0⟩
  case round =>
    clear H0
    obtain ⟨k, hk, rfl, HR⟩ := hrel
    by_cases hlt : k < W
    · have hk1 : (k : Int) < (W : Int) := by omega
      have hk0 : (0 : Int) ≤ (k : Int) := by omega
      obtain ⟨c, o, he1, hcell⟩ := HR.out.1.bytes.cell (W - 1 - k) (by omega)
      injection he1 with he1
      injection he1 with h1 h2
      subst h1
      subst h2
      rw [Nat.zero_add] at hcell
      obtain ⟨cur, hrow, hgb⟩ := HR.out.1.row
      have fz : wr.frozen? ⟨D, W - 1 - k, none⟩ = false := frozen_of_row _ _ _ _ _ hrow
      have hv : (n : Int) / 2 ^ (8 * k) % 256 = ub (UInt8.ofNat (n / 256 ^ k % 256)) := by rw [pow_nat, ub_nat, ← Int.natCast_ediv]; rfl
      have HNx : Bx (OwnB (wr.setCell ⟨D, W - 1 - k, none⟩ (.int .u8 ((n : Int) / 2 ^ (8 * k) % 256))) D (.slice (some ⟨D, 0, none⟩) W W) (nbr W n (k + 1)) ∧ Below D w1 (wr.setCell ⟨D, W - 1 - k, none⟩ (.int .u8 ((n : Int) / 2 ^ (8 * k) % 256)))) := Bx.mk ⟨by
        rw [hv, ← nbr_succ W n k hlt]
        exact HR.out.1.set _ _, HR.out.2.setCell hgb _⟩
      clear HR hrow hgb hv
      go_wp2
      go_roundw
      case rel => exact ⟨k + 1, by omega, by go_num, HNx⟩
      case measure => simp [intOf]; omega
    · have ek : k = W := by omega
      have HE : Bx (OwnB wr D (.slice (some ⟨D, 0, none⟩) W W) (beN W n) ∧ Below D w1 wr) := Bx.mk ⟨by
        have e : beN W n = nbr W n k := by rw [ek]; simp [nbr]
        rw [e]
        exact HR.out.1, HR.out.2⟩
      clear HR
      go_wp2
      go_ret
      exact ⟨_, rfl, by rw [hD]; exact HE.out⟩
end Go.Proofs.YtiengbmnfbbgoaaDoor
