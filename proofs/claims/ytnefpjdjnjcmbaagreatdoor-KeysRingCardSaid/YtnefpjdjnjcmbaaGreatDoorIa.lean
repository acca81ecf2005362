/-
  Fields as plain functions, and the walks of numbers as bytes.
  The walk of a field's bytes.
  The walks of what is wrong with a field, the program's and the document's.
  The walks of the document's own fields.
  The walk of a field's bytes, the document's.
  The walks of fields that are the same.
-/
import Derived.Test.YtnefpjdjnjcmbaaGreatDoorGa
namespace Go.Proofs.YtnefpjdjnjcmbaaGreatDoor
open Go Go.RowKit
theorem Bytes.old {w w1 : World} {v : Value} {l : List UInt8} (h : Bytes w v l) {B : Nat} (hB : w.heap.size = B) (hb : Below B w w1) : Bytes w1 v l := h.later (by rw [hB]; exact hb)
/-- A field. -/
structure Fd where
  s : Int
  n : Int
  b : List UInt8
/-- The lowest k bytes of a number, the highest first. -/
def beN : Nat → Nat → List UInt8
  | 0, _ => []
  | k + 1, n => UInt8.ofNat (n / 256 ^ k % 256) :: beN k n
theorem beN_length (k n : Nat) : (beN k n).length = k := by
  induction k with
  | zero => rfl
  | succ k ih => simp [beN, ih]
theorem ub_nat (m : Nat) : ub (UInt8.ofNat (m % 256)) = ((m % 256 : Nat) : Int) := by
  unfold ub
  rw [UInt8.toNat_ofNat']
  omega
/-- How many bytes a number of a size has. -/
def wid (s : Int) : Nat := if s = 0 then 1 else if s = 1 then 2 else if s = 2 then 4 else 8
/-- The greatest number of a size. -/
def most (s : Int) : Int := if s = 0 then 255 else if s = 1 then 65535 else if s = 2 then 4294967295 else 9223372036854775807
/-- What is wrong with a field. -/
def chk (f : Fd) : Int := if f.s < 0 ∨ 4 < f.s then 13 else if f.s = 4 then (if f.n ≠ 0 then 10 else if 512 < f.b.length then 2 else 0) else if f.b.length > 0 ∨ f.n < 0 ∨ most f.s < f.n then 10 else 0
/-- A field's bytes. -/
def enc (f : Fd) : List UInt8 := if f.s = 4 then beN 2 f.b.length ++ f.b else beN (wid f.s) f.n.toNat
/-- One field more: the bytes, and the error. -/
def putS (st : List UInt8 × Int) (f : Fd) : List UInt8 × Int :=
  if st.2 ≠ 0 then st else if chk f ≠ 0 then (st.1, chk f) else if 1024 < st.1.length + (enc f).length then (st.1, 2) else (st.1 ++ enc f, 0)
theorem ret_bool {a b : Bool} (h : a = b) : Ending.returned (.bool a) = .returned (.bool b) := by rw [h]
theorem known_any (z : Int) (w : World) : Calls Tryz.prog 96 #[.int .i64 z] w fun e w' => e = .returned (.bool (decide (0 ≤ z) && decide (z ≤ 4))) ∧ w' = w := by
  go_enter Tryz.func96, Tryz.ntmps96
  by_cases h : 0 ≤ z
  · by_cases h2 : z ≤ 4
    · go_wp2
      go_ret
      exact ⟨ret_bool (by simp; omega), rfl⟩
    · go_wp2
      go_ret
      exact ⟨ret_bool (by simp; omega), rfl⟩
  · go_wp2
    go_ret
    exact ⟨ret_bool (by simp; omega), rfl⟩
theorem size_cases {s : Int} (h0 : 0 ≤ s) (h3 : s ≤ 3) : s = 0 ∨ s = 1 ∨ s = 2 ∨ s = 3 := by omega
theorem width_any (s : Int) (w : World) (h0 : 0 ≤ s) (h3 : s ≤ 3) : Calls Tryz.prog 98 #[.int .i64 s] w fun e w' => e = .returned (.int .i64 (wid s : Int)) ∧ w' = w := by
  rcases size_cases h0 h3 with rfl | rfl | rfl | rfl
  all_goals
    go_enter Tryz.func98, Tryz.ntmps98
    go_wp2
    go_ret
    exact ⟨rfl, rfl⟩
/-- Whether a number fits its size. -/
def fitB (s n : Int) : Bool := decide (0 ≤ n) && decide (n ≤ most s)
theorem fits_any (s n : Int) (w : World) (h0 : 0 ≤ s) (h3 : s ≤ 3) (hn1 : -9223372036854775808 ≤ n) (hn2 : n ≤ 9223372036854775807) :
    Calls Tryz.prog 97 #[.int .i64 s, .int .i64 n] w fun e w' => e = .returned (.bool (fitB s n)) ∧ w' = w := by
  have H := Bx.mk (And.intro h0 h3)
  rcases size_cases h0 h3 with rfl | rfl | rfl | rfl
  all_goals
    go_enter Tryz.func97, Tryz.ntmps97
    go_wp2_with fail
    refine (width_any _ w H.out.1 H.out.2).mono ?_
    rintro e w1 ⟨rfl, rfl⟩
    simp only [wid]
    go_wp2
    go_ret
    refine ⟨ret_bool ?_, rfl⟩
    simp only [fitB, most]
    rw [Bool.eq_iff_iff]
    simp
    omega
theorem beN_succ (k n : Nat) : beN (k + 1) n = UInt8.ofNat (n / 256 ^ k % 256) :: beN k n := rfl
/-- The bytes that number has made behind k rounds. -/
def nbr (W n k : Nat) : List UInt8 := List.replicate (W - k) 0 ++ beN k n
theorem nbr_succ (W n k : Nat) (h : k < W) : (nbr W n k).set (W - 1 - k) (UInt8.ofNat (n / 256 ^ k % 256)) = nbr W n (k + 1) := by
  unfold nbr
  obtain ⟨m, rfl⟩ : ∃ m, W = m + 1 + k := ⟨W - 1 - k, by omega⟩
  rw [show m + 1 + k - 1 - k = m by omega, show m + 1 + k - k = m + 1 by omega, show m + 1 + k - (k + 1) = m by omega, List.replicate_succ', List.append_assoc, List.set_append_right _ _ (by simp), beN_succ]
  simp
theorem pow_nat (k : Nat) : (2 : Int) ^ (8 * k) = ((256 ^ k : Nat) : Int) := by
  rw [Int.pow_mul, Int.natCast_pow]
  rfl
theorem wid_le (s : Int) : 1 ≤ wid s ∧ wid s ≤ 8 := by
  unfold wid
  repeat' split
  all_goals omega
set_option maxRecDepth 100000 in
set_option maxHeartbeats 1000000 in
theorem number_any (s : Int) (n : Nat) (w : World) (h0 : 0 ≤ s) (h3 : s ≤ 3) (hn : n ≤ 9223372036854775807) :
    Calls Tryz.prog 90 #[.int .i64 s, .int .i64 (n : Int)] w fun e w' => ∃ v', e = .returned v' ∧ OwnB w' w.heap.size v' (beN (wid s) n) ∧ Below w.heap.size w w' := by
  have hW := wid_le s
  have hWd := fun w => width_any s w h0 h3
  have HN := Bx.mk (And.intro hW hn)
  have hn1 : (n : Int) ≤ 9223372036854775807 := by omega
  clear h0 h3
  generalize wid s = W at *
  have hw1 : (1 : Int) ≤ (W : Int) := by omega
  have hw8 : (W : Int) ≤ 8 := by omega
  clear hW hn
  have hmk := fun w => mk_u8g W W .i64 .i64 (W : Int) (W : Int) rfl rfl (Nat.le_refl _) (by omega) w
  have H0 : Bx (OwnB (w.alloc (.cells (u8s (List.replicate W 0)) 5)) w.heap.size (.slice (some ⟨w.heap.size, 0, none⟩) W W) (nbr W n 0) ∧ Below w.heap.size w (w.alloc (.cells (u8s (List.replicate W 0)) 5))) := Bx.mk ⟨by
    have e : nbr W n 0 = List.replicate W 0 := by simp [nbr, beN]
    rw [e]
    exact row_own (l := List.replicate W 0) (by rw [hnew _ _ _ rfl]) (by simp) (Nat.le_refl _) (by omega), below_a _⟩
  go_enter Tryz.func90, Tryz.ntmps90
  go_wp2_with fail
  refine (hWd w).mono ?_
  rintro e w1 ⟨rfl, rfl⟩
  go_wp2
  generalize w1.alloc (.cells (u8s (List.replicate W 0)) 5) = w2 at *
  generalize hD : w1.heap.size = D at *
  go_loopw [6, 12] (fun u i wr => ∃ k : Nat, k ≤ W ∧ i = .int .i64 (k : Int) ∧ Bx (OwnB wr D (.slice (some ⟨D, 0, none⟩) W W) (nbr W n k) ∧ Below D w1 wr)) (fun _ i _ => W - (intOf i).toNat)
  case atStart => exact ⟨0, Nat.zero_le _, rfl, H0⟩
  case round =>
    clear H0
    obtain ⟨k, hk, rfl, HR⟩ := hrel
    by_cases hlt : k < W
    · have hk1 : (k : Int) < (W : Int) := by omega
      have hk0 : (0 : Int) ≤ (k : Int) := by omega
      obtain ⟨c, o, he1, hcell⟩ := HR.out.1.bytes.cell (W - 1 - k) (by omega)
      injection he1 with he1
      injection he1 with h1 h2
      subst h1
      subst h2
      rw [Nat.zero_add] at hcell
      obtain ⟨cur, hrow, hgb⟩ := HR.out.1.row
      have fz : wr.frozen? ⟨D, W - 1 - k, none⟩ = false := frozen_of_row _ _ _ _ _ hrow
      have hv : (n : Int) / 2 ^ (8 * k) % 256 = ub (UInt8.ofNat (n / 256 ^ k % 256)) := by rw [pow_nat, ub_nat, ← Int.natCast_ediv]; rfl
      have HNx : Bx (OwnB (wr.setCell ⟨D, W - 1 - k, none⟩ (.int .u8 ((n : Int) / 2 ^ (8 * k) % 256))) D (.slice (some ⟨D, 0, none⟩) W W) (nbr W n (k + 1)) ∧ Below D w1 (wr.setCell ⟨D, W - 1 - k, none⟩ (.int .u8 ((n : Int) / 2 ^ (8 * k) % 256)))) := Bx.mk ⟨by
        rw [hv, ← nbr_succ W n k hlt]
        exact HR.out.1.set _ _, HR.out.2.setCell hgb _⟩
      clear HR hrow hgb hv
      go_wp2
      go_roundw
      case rel => exact ⟨k + 1, by omega, by go_num, HNx⟩
      case measure => simp [intOf]; omega
    · have ek : k = W := by omega
      have HE : Bx (OwnB wr D (.slice (some ⟨D, 0, none⟩) W W) (beN W n) ∧ Below D w1 wr) := Bx.mk ⟨by
        have e : beN W n = nbr W n k := by rw [ek]; simp [nbr]
        rw [e]
        exact HR.out.1, HR.out.2⟩
      clear HR
      go_wp2
      go_ret
      exact ⟨_, rfl, by rw [hD]; exact HE.out⟩
end Go.Proofs.YtnefpjdjnjcmbaaGreatDoor
namespace Go.Proofs.YtnefpjdjnjcmbaaGreatDoor
open Go Go.RowKit
/-- A field, as a value. -/
def IsF (w : World) (v : Value) (f : Fd) : Prop := ∃ vb, v = .agg #[.int .i64 f.s, .int .i64 f.n, vb] ∧ Bytes w vb f.b
theorem IsF.later {w w1 : World} {v : Value} {f : Fd} (h : IsF w v f) (hb : Below w.heap.size w w1) : IsF w1 v f := by
  obtain ⟨vb, hv, h⟩ := h
  exact ⟨vb, hv, h.later hb⟩
theorem chk_ok {f : Fd} (h : chk f = 0) : (f.s = 4 ∧ f.n = 0 ∧ f.b.length ≤ 512) ∨ (0 ≤ f.s ∧ f.s ≤ 3 ∧ f.b = [] ∧ 0 ≤ f.n ∧ f.n ≤ most f.s) := by
  unfold chk at h
  split at h
  · omega
  · split at h
    · split at h
      · omega
      · split at h
        · omega
        · exact .inl ⟨by assumption, by omega, by omega⟩
    · split at h
      · omega
      · exact .inr ⟨by omega, by omega, List.eq_nil_of_length_eq_zero (by omega), by omega, by omega⟩
theorem most_le (s : Int) : most s ≤ 9223372036854775807 := by
  unfold most
  repeat' split
  all_goals omega
set_option maxRecDepth 100000 in
set_option maxHeartbeats 1000000 in
theorem encoded_any (f : Fd) (v : Value) (w : World) (hv : IsF w v f) (hc : chk f = 0) :
    Calls Tryz.prog 81 #[v] w fun e w' => ∃ v', e = .returned v' ∧ OwnB w' w.heap.size v' (enc f) ∧ Below w.heap.size w w' := by
  obtain ⟨vb, rfl, hb⟩ := hv
  obtain ⟨s, n, b⟩ := f
  simp only at hb ⊢
  rcases chk_ok hc with ⟨h4, hn, hl⟩ | ⟨h0, h3, hbn, hn0, hnm⟩
  · simp only at h4 hn hl
    subst h4
    subst hn
    have HE : Bx (enc ⟨4, 0, b⟩ = beN 2 b.length ++ b) := Bx.mk rfl
    have HB := Bx.mk hb
    obtain ⟨ab, cb, rfl, -⟩ := hb
    obtain ⟨L, hL⟩ : ∃ n, b.length = n := ⟨_, rfl⟩
    have HL2 := Bx.mk hL
    rw [hL] at HB HE hl ⊢
    have HL := Bx.mk hl
    have hl1 : (L : Int) ≤ 512 := by omega
    clear hL hc hl
    have H0 : Bx ((w.alloc (.cells #[.int .i64 4, .int .i64 0, .slice ab L cb] 123)).cell? ⟨w.heap.size, 2, none⟩ = some (.slice ab L cb) ∧ Below w.heap.size w (w.alloc (.cells #[.int .i64 4, .int .i64 0, .slice ab L cb] 123)) ∧ Bytes (w.alloc (.cells #[.int .i64 4, .int .i64 0, .slice ab L cb] 123)) (.slice ab L cb) b) :=
      Bx.mk ⟨by rw [cell_of_row _ _ _ _ _ _ (hnew _ _ _ rfl)]; rfl, below_a _, HB.out.later (below_a _)⟩
    go_enter Tryz.func81, Tryz.ntmps81
    go_upto_region 2 with fail
    obtain ⟨B, hw⟩ : ∃ B, w.heap.size = B := ⟨_, rfl⟩
    have Hw := Bx.mk hw
    generalize (w.alloc (.cells #[.int .i64 4, .int .i64 0, .slice ab L cb] 123)) = wA at *
    rw [hw] at H0 ⊢
    clear hw
    refine wp_region_noPanic ?_
    refine wp_region_held_drew (S := fun W => W.cell? ⟨B, 2, none⟩ = some (.slice ab L cb) ∧ Bx (Below B w W ∧ Bytes W (.slice ab L cb) b)) (by kernel_rfl) (⟨H0.out.1, ⟨H0.out.2.1.drew, H0.out.2.2⟩⟩) (fun hHeld => ?_)
    have H0 : Bx (wA.drew.cell? ⟨B, 2, none⟩ = some (.slice ab L cb) ∧ Below B w wA.drew ∧ Bytes wA.drew (.slice ab L cb) b) := Bx.mk ⟨H0.out.1, H0.out.2.1.drew, H0.out.2.2⟩
    generalize wA.drew = W0 at *
    refine takeL 0 (v := ?_) rfl (by kernel_rfl) (by kernel_rfl) (by kernel_rfl) (fun _ _ _ h => h) (Or.inl ⟨by rfl, ?_⟩) hHeld ?_
    rotate_left 1
    · (intro w hSw; go_simp; try with_reducible rfl)
    try simp only [Act.put, List.setIfInBounds_toArray, List.set_cons_zero, List.set_cons_succ]
    refine takeL 1 (v := ?_) rfl (by kernel_rfl) (by kernel_rfl) (by kernel_rfl) (fun _ _ _ h => h) (Or.inl ⟨by rfl, ?_⟩) hHeld ?_
    rotate_left 1
    · (intro w hSw; go_simp; try with_reducible rfl)
    try simp only [Act.put, List.setIfInBounds_toArray, List.set_cons_zero, List.set_cons_succ]
    refine takeL 2 (v := ?_) rfl (by kernel_rfl) (by kernel_rfl) (by kernel_rfl) (fun _ _ _ h => h) (Or.inl ⟨by rfl, ?_⟩) hHeld ?_
    rotate_left 1
    · (intro w hSw; go_simp; try with_reducible rfl)
    try simp only [Act.put, List.setIfInBounds_toArray, List.set_cons_zero, List.set_cons_succ]
    refine takeL 4 (v := ?_) rfl (by kernel_rfl) (by kernel_rfl) (by kernel_rfl) (fun _ _ _ h => h) (Or.inl ⟨by rfl, ?_⟩) hHeld ?_
    rotate_left 1
    · (intro w hSw; go_simp; try with_reducible rfl)
    try simp only [Act.put, List.setIfInBounds_toArray, List.set_cons_zero, List.set_cons_succ]
    refine takeL 5 (v := ?_) rfl (by kernel_rfl) (by kernel_rfl) (by kernel_rfl) (fun _ _ _ h => h) (Or.inl ⟨by rfl, ?_⟩) hHeld ?_
    rotate_left 1
    · (intro w hSw; go_simp; try with_reducible rfl)
    try simp only [Act.put, List.setIfInBounds_toArray, List.set_cons_zero, List.set_cons_succ]
    refine stepL 3 (by kernel_rfl) rfl (fun K hK => ?_)
    go_simp
    refine (number_any 1 L W0 (by omega) (by omega) (by have := HL.out; omega)).mono ?_
    rintro e W1 ⟨v1, rfl, ho1, hb1⟩
    show K _ _
    have H1 : Bx (OwnB W1 (B + 1) v1 (beN 2 L) ∧ Below B w W1 ∧ Bytes W1 (.slice ab L cb) b ∧ W1.cell? ⟨B, 2, none⟩ = some (.slice ab L cb)) := Bx.mk ⟨ho1.weak (World.block_lt_of_cell? _ _ H0.out.1), H0.out.2.1.trans (hb1.mono (Nat.le_of_lt (World.block_lt_of_cell? _ _ H0.out.1))), H0.out.2.2.later hb1, by rw [hb1.cell (p := ⟨B, 2, none⟩) (World.block_lt_of_cell? _ _ H0.out.1)]; exact H0.out.1⟩
    clear ho1 hb1 H0
    refine hK.out _ _ ⟨H1.out.2.2.2, ⟨H1.out.2.1, H1.out.2.2.1⟩⟩ (fun hHeld => ?_)
    clear hK K
    try simp only [Act.put, List.setIfInBounds_toArray, List.set_cons_zero, List.set_cons_succ]
    refine stepL 6 (by kernel_rfl) rfl (fun K hK => ?_)
    refine step_ap rfl _ _ rfl (B + 1) _ (beN 2 L) (by rfl) H1.out.1 _ b (by rfl) H1.out.2.2.1 (by have := HL.out; have := HL2.out; rw [beN_length]; omega) (World.block_lt_of_cell? _ _ H1.out.2.2.2) ?_
    intro v2 w2 ho2 hg2 _
    have hb2 := own_below H1.out.1 hg2 (World.block_lt_of_cell? _ _ H1.out.2.2.2)
    have H2 : Bx (OwnB w2 B v2 (beN 2 L ++ b) ∧ Below B w w2) := Bx.mk ⟨ho2.weak (by omega), H1.out.2.1.trans (hb2.mono (by omega))⟩
    have HS2 : Bx (w2.cell? ⟨B, 2, none⟩ = some (.slice ab L cb) ∧ Bytes w2 (.slice ab L cb) b) := Bx.mk ⟨by rw [hb2.cell (p := ⟨B, 2, none⟩) (Nat.lt_succ_self B)]; exact H1.out.2.2.2, HB.out.later (Hw.out ▸ H2.out.2)⟩
    clear ho2 hg2 hb2
    refine hK.out _ _ ⟨HS2.out.1, ⟨H2.out.2, HS2.out.2⟩⟩ (fun hHeld => ?_)
    clear hK K
    try simp only [Act.put, List.setIfInBounds_toArray, List.set_cons_zero, List.set_cons_succ]
    refine takeL 7 (v := ?_) rfl (by kernel_rfl) (by kernel_rfl) (by kernel_rfl) (fun _ _ _ h => h) (Or.inl ⟨by rfl, ?_⟩) hHeld ?_
    rotate_left 1
    · (intro w hSw; go_simp; try with_reducible rfl)
    try simp only [Act.put, List.setIfInBounds_toArray, List.set_cons_zero, List.set_cons_succ]
    refine wpAnyH_done (by kernel_rfl) ?_ _
    refine NoPanic.normal ?_
    clear hHeld
    go_wp2
    go_ret
    exact ⟨_, rfl, by rw [HE.out, Hw.out]; exact H2.out.1, by rw [Hw.out]; exact H2.out.2⟩
  · simp only at h0 h3 hbn hn0 hnm
    obtain ⟨m, rfl⟩ : ∃ m : Nat, n = (m : Int) := ⟨n.toNat, by omega⟩
    have HE : Bx (enc ⟨s, (m : Int), b⟩ = beN (wid s) m) := Bx.mk (by unfold enc; rw [if_neg (by simp only; omega)]; rfl)
    have hNm := number_any s m (w.alloc (.cells #[.int .i64 s, .int .i64 (m : Int), vb] 123)) h0 h3 (by have := most_le s; omega)
    have hB : Below w.heap.size w (w.alloc (.cells #[.int .i64 s, .int .i64 (m : Int), vb] 123)) := below_a _
    have hs4 : (s == 4) = false := by simp; omega
    obtain ⟨ab, cb, rfl, -⟩ := hb
    generalize b.length = L at *
    clear hc hbn hn0 hnm
    go_enter Tryz.func81, Tryz.ntmps81
    go_wp2_with fail
    refine hNm.mono ?_
    rintro e w1 ⟨v1, rfl, ho1, hb1⟩
    have H1 : Bx (OwnB w1 w.heap.size v1 (beN (wid s) m) ∧ Below w.heap.size w w1) := Bx.mk ⟨ho1.weak hB.size, hB.trans (hb1.mono hB.size)⟩
    clear ho1 hb1 hB hNm
    go_wp2
    go_ret
    exact ⟨_, rfl, by rw [HE.out]; exact H1.out.1, H1.out.2⟩
end Go.Proofs.YtnefpjdjnjcmbaaGreatDoor
namespace Go.Proofs.YtnefpjdjnjcmbaaGreatDoor
open Go Go.RowKit
theorem chk_kind {f : Fd} (h : f.s < 0 ∨ 4 < f.s) : chk f = 13 := by unfold chk; rw [if_pos h]
theorem chk_four {f : Fd} (h : f.s = 4) : chk f = if f.n ≠ 0 then 10 else if 512 < f.b.length then 2 else 0 := by unfold chk; rw [if_neg (by omega), if_pos h]
theorem chk_num {f : Fd} (h0 : 0 ≤ f.s) (h3 : f.s ≤ 3) : chk f = if f.b.length > 0 ∨ f.n < 0 ∨ most f.s < f.n then 10 else 0 := by unfold chk; rw [if_neg (by omega), if_neg (by omega)]
set_option maxRecDepth 100000 in
set_option maxHeartbeats 1000000 in
theorem wcheck_any (f : Fd) (v : Value) (w : World) (hv : IsF w v f) (hn1 : -9223372036854775808 ≤ f.n) (hn2 : f.n ≤ 9223372036854775807) :
    Calls Tryz.prog 89 #[v] w fun e w' => e = .returned (.int .i64 (chk f)) ∧ Below w.heap.size w w' := by
  obtain ⟨vb, rfl, hb⟩ := hv
  obtain ⟨s, n, b⟩ := f
  simp only at hb hn1 hn2 ⊢
  obtain ⟨ab, cb, rfl, -⟩ := hb
  by_cases hk : s < 0 ∨ 4 < s
  · have HC : Bx (chk ⟨s, n, b⟩ = 13) := Bx.mk (chk_kind hk)
    have hkk : (decide (0 ≤ s) && decide (s ≤ 4)) = false := by rw [Bool.eq_false_iff]; intro h; simp at h; omega
    clear hk
    generalize b.length = L at *
    go_enter Tryz.func89, Tryz.ntmps89
    go_wp2_with fail
    refine (known_any s _).mono ?_
    rintro e w1 ⟨rfl, rfl⟩
    rw [hkk]
    go_wp2
    go_ret
    exact ⟨by rw [HC.out]; rfl, below_a _⟩
  · have hkk : (decide (0 ≤ s) && decide (s ≤ 4)) = true := by simp; omega
    by_cases h4 : s = 4
    · subst h4
      have HC := Bx.mk (chk_four (f := ⟨4, n, b⟩) rfl)
      simp only at HC
      generalize b.length = L at *
      clear hk
      by_cases hn : n = 0
      · subst hn
        by_cases hl : 512 < L
        · have hl1 : (512 : Int) < (L : Int) := by omega
          go_enter Tryz.func89, Tryz.ntmps89
          go_wp2_with fail
          refine (known_any 4 _).mono ?_
          rintro e w1 ⟨rfl, rfl⟩
          rw [hkk]
          go_wp2
          go_ret
          exact ⟨by rw [HC.out, if_neg (by simp), if_pos hl]; rfl, below_a _⟩
        · have hl1 : ¬ (512 : Int) < (L : Int) := by omega
          go_enter Tryz.func89, Tryz.ntmps89
          go_wp2_with fail
          refine (known_any 4 _).mono ?_
          rintro e w1 ⟨rfl, rfl⟩
          rw [hkk]
          go_wp2
          go_ret
          exact ⟨by rw [HC.out, if_neg (by simp), if_neg hl]; rfl, below_a _⟩
      · go_enter Tryz.func89, Tryz.ntmps89
        go_wp2_with fail
        refine (known_any 4 _).mono ?_
        rintro e w1 ⟨rfl, rfl⟩
        rw [hkk]
        go_wp2
        go_ret
        exact ⟨by rw [HC.out, if_pos hn]; rfl, below_a _⟩
    · have h0 : 0 ≤ s := by omega
      have h3 : s ≤ 3 := by omega
      have HC := Bx.mk (chk_num (f := ⟨s, n, b⟩) h0 h3)
      simp only at HC
      generalize b.length = L at *
      clear hk
      cases hf : fitB s n
      · have HF : Bx (n < 0 ∨ most s < n) := Bx.mk (by unfold fitB at hf; rw [Bool.eq_false_iff] at hf; simp at hf; omega)
        go_enter Tryz.func89, Tryz.ntmps89
        go_wp2_with fail
        refine (known_any s _).mono ?_
        rintro e w1 ⟨rfl, rfl⟩
        rw [hkk]
        go_wp2_with fail
        refine (fits_any s n _ h0 h3 hn1 hn2).mono ?_
        rintro e w1 ⟨rfl, rfl⟩
        rw [hf]
        go_wp2
        go_ret
        exact ⟨by rw [HC.out, if_pos (.inr HF.out)]; rfl, below_a _⟩
      · have HF : Bx (¬ (n < 0 ∨ most s < n)) := Bx.mk (by unfold fitB at hf; simp at hf; omega)
        by_cases hl : 0 < L
        · have hl1 : (0 : Int) < (L : Int) := by omega
          go_enter Tryz.func89, Tryz.ntmps89
          go_wp2_with fail
          refine (known_any s _).mono ?_
          rintro e w1 ⟨rfl, rfl⟩
          rw [hkk]
          go_wp2_with fail
          refine (fits_any s n _ h0 h3 hn1 hn2).mono ?_
          rintro e w1 ⟨rfl, rfl⟩
          rw [hf]
          go_wp2
          go_ret
          exact ⟨by rw [HC.out, if_pos (.inl hl)]; rfl, below_a _⟩
        · obtain rfl : L = 0 := by omega
          go_enter Tryz.func89, Tryz.ntmps89
          go_wp2_with fail
          refine (known_any s _).mono ?_
          rintro e w1 ⟨rfl, rfl⟩
          rw [hkk]
          go_wp2_with fail
          refine (fits_any s n _ h0 h3 hn1 hn2).mono ?_
          rintro e w1 ⟨rfl, rfl⟩
          rw [hf]
          go_wp2
          go_ret
          exact ⟨by rw [HC.out, if_neg (by have := HF.out; omega)]; rfl, below_a _⟩
end Go.Proofs.YtnefpjdjnjcmbaaGreatDoor
namespace Go.Proofs.YtnefpjdjnjcmbaaGreatDoor
open Go Go.RowKit
end Go.Proofs.YtnefpjdjnjcmbaaGreatDoor
namespace Go.Proofs.YtnefpjdjnjcmbaaGreatDoor
open Go Go.RowKit
end Go.Proofs.YtnefpjdjnjcmbaaGreatDoor
namespace Go.Proofs.YtnefpjdjnjcmbaaGreatDoor
open Go Go.RowKit
end Go.Proofs.YtnefpjdjnjcmbaaGreatDoor
