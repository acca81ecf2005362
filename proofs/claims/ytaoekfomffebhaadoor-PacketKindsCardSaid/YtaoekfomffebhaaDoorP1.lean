/-
  Fields as plain functions, and the walks of numbers as bytes.
  The walk of a field's bytes.
  The walks of what is wrong with a field, the program's and the document's.
  The walks of the document's own fields.
  The walk of a field's bytes, the document's.
  The walks of fields that are the same.
-/
import Derived.Test.YtaoekfomffebhaaDoorCa
import Derived.Test.YtaoekfomffebhaaDoorRows
import Derived.ProofKit
import Derived.OpenShut
import Derived.ShutString
import Derived.ChangeOld
import Derived.Below
import Derived.Deep.DeepHandedRow
import Derived.Lib.LaidTab
import Derived.Deep.Matrix
import Derived.Deep.Slices
import Derived.Deep.QuietTactic
import Derived.BigQuiet
import Derived.Deep.RegionHeld3
import Derived.Laws.BitsAllLaws
import Derived.Deep.MidRow
import Derived.Stop.BytesEq
namespace Go.Proofs.YtaoekfomffebhaaDoor
open Go Go.RowKit
theorem Bytes.old {w w1 : World} {v : Value} {l : List UInt8} (h : Bytes w v l) {B : Nat} (hB : w.heap.size = B) (hb : Below B w w1) : Bytes w1 v l := h.later (by rw [hB]; exact hb)
/-- A field. -/
structure Fd where
  s : Int
  n : Int
  b : List UInt8
/-- The lowest k bytes of a number, the highest first. -/
def beN : Nat → Nat → List UInt8
  | 0, _ => []
  | k + 1, n => UInt8.ofNat (n / 256 ^ k % 256) :: beN k n
theorem beN_length (k n : Nat) : (beN k n).length = k := by
  induction k with
  | zero => rfl
  | succ k ih => simp [beN, ih]
theorem ub_nat (m : Nat) : ub (UInt8.ofNat (m % 256)) = ((m % 256 : Nat) : Int) := by
  unfold ub
  rw [UInt8.toNat_ofNat']
  omega
/-- How many bytes a number of a size has. -/
def wid (s : Int) : Nat := if s = 0 then 1 else if s = 1 then 2 else if s = 2 then 4 else 8
/-- The greatest number of a size. -/
def most (s : Int) : Int := if s = 0 then 255 else if s = 1 then 65535 else if s = 2 then 4294967295 else 9223372036854775807
/-- What is wrong with a field. -/
def chk (f : Fd) : Int := if f.s < 0 ∨ 4 < f.s then 13 else if f.s = 4 then (if f.n ≠ 0 then 10 else if 512 < f.b.length then 2 else 0) else if f.b.length > 0 ∨ f.n < 0 ∨ most f.s < f.n then 10 else 0
/-- A field's bytes. -/
def enc (f : Fd) : List UInt8 := if f.s = 4 then beN 2 f.b.length ++ f.b else beN (wid f.s) f.n.toNat
/-- One field more: the bytes, and the error. -/
def putS (st : List UInt8 × Int) (f : Fd) : List UInt8 × Int :=
  if st.2 ≠ 0 then st else if chk f ≠ 0 then (st.1, chk f) else if 1024 < st.1.length + (enc f).length then (st.1, 2) else (st.1 ++ enc f, 0)
theorem ret_bool {a b : Bool} (h : a = b) : Ending.returned (.bool a) = .returned (.bool b) := by rw [h]
theorem known_any (z : Int) (w : World) : Calls Tryd.prog 93 #[.int .i64 z] w fun e w' => e = .returned (.bool (decide (0 ≤ z) && decide (z ≤ 4))) ∧ w' = w := by
  go_enter Tryd.func93, Tryd.ntmps93
  by_cases h : 0 ≤ z
  · by_cases h2 : z ≤ 4
    · go_wp2
      go_ret
      exact ⟨ret_bool (by simp; omega), rfl⟩
    · go_wp2
      go_ret
      exact ⟨ret_bool (by simp; omega), rfl⟩
  · go_wp2
    go_ret
    exact ⟨ret_bool (by simp; omega), rfl⟩
theorem size_cases {s : Int} (h0 : 0 ≤ s) (h3 : s ≤ 3) : s = 0 ∨ s = 1 ∨ s = 2 ∨ s = 3 := by omega
theorem width_any (s : Int) (w : World) (h0 : 0 ≤ s) (h3 : s ≤ 3) : Calls Tryd.prog 97 #[.int .i64 s] w fun e w' => e = .returned (.int .i64 (wid s : Int)) ∧ w' = w := by
  rcases size_cases h0 h3 with rfl | rfl | rfl | rfl
  all_goals
    go_enter Tryd.func97, Tryd.ntmps97
    go_wp2
    go_ret
    exact ⟨rfl, rfl⟩
/-- Whether a number fits its size. -/
def fitB (s n : Int) : Bool := decide (0 ≤ n) && decide (n ≤ most s)
theorem fits_any (s n : Int) (w : World) (h0 : 0 ≤ s) (h3 : s ≤ 3) (hn1 : -9223372036854775808 ≤ n) (hn2 : n ≤ 9223372036854775807) :
    Calls Tryd.prog 96 #[.int .i64 s, .int .i64 n] w fun e w' => e = .returned (.bool (fitB s n)) ∧ w' = w := by
  have H := Bx.mk (And.intro h0 h3)
  rcases size_cases h0 h3 with rfl | rfl | rfl | rfl
  all_goals
    go_enter Tryd.func96, Tryd.ntmps96
    go_wp2_with fail
    refine (width_any _ w H.out.1 H.out.2).mono ?_
    rintro e w1 ⟨rfl, rfl⟩
    simp only [wid]
    go_wp2
    go_ret
    refine ⟨ret_bool ?_, rfl⟩
    simp only [fitB, most]
    rw [Bool.eq_iff_iff]
    simp
    omega
theorem beN_succ (k n : Nat) : beN (k + 1) n = UInt8.ofNat (n / 256 ^ k % 256) :: beN k n := rfl
/-- The bytes that number has made behind k rounds. -/
def nbr (W n k : Nat) : List UInt8 := List.replicate (W - k) 0 ++ beN k n
theorem nbr_succ (W n k : Nat) (h : k < W) : (nbr W n k).set (W - 1 - k) (UInt8.ofNat (n / 256 ^ k % 256)) = nbr W n (k + 1) := by
  unfold nbr
  obtain ⟨m, rfl⟩ : ∃ m, W = m + 1 + k := ⟨W - 1 - k, by omega⟩
  rw [show m + 1 + k - 1 - k = m by omega, show m + 1 + k - k = m + 1 by omega, show m + 1 + k - (k + 1) = m by omega, List.replicate_succ', List.append_assoc, List.set_append_right _ _ (by simp), beN_succ]
  simp
theorem pow_nat (k : Nat) : (2 : Int) ^ (8 * k) = ((256 ^ k : Nat) : Int) := by
  rw [Int.pow_mul, Int.natCast_pow]
  rfl
theorem wid_le (s : Int) : 1 ≤ wid s ∧ wid s ≤ 8 := by
  unfold wid
  repeat' split
  all_goals omega
set_option maxRecDepth 100000 in
set_option maxHeartbeats 1000000 in
theorem number_any (s : Int) (n : Nat) (w : World) (h0 : 0 ≤ s) (h3 : s ≤ 3) (hn : n ≤ 9223372036854775807) :
    Calls Tryd.prog 88 #[.int .i64 s, .int .i64 (n : Int)] w fun e w' => ∃ v', e = .returned v' ∧ OwnB w' w.heap.size v' (beN (wid s) n) ∧ Below w.heap.size w w' := by
  have hW := wid_le s
  have hWd := fun w => width_any s w h0 h3
  have HN := Bx.mk (And.intro hW hn)
  have hn1 : (n : Int) ≤ 9223372036854775807 := by omega
  clear h0 h3
  generalize wid s = W at *
  have hw1 : (1 : Int) ≤ (W : Int) := by omega
  have hw8 : (W : Int) ≤ 8 := by omega
  clear hW hn
  have hmk := fun w => mk_u8g W W .i64 .i64 (W : Int) (W : Int) rfl rfl (Nat.le_refl _) (by omega) w
  have H0 : Bx (OwnB (w.alloc (.cells (u8s (List.replicate W 0)) 5)) w.heap.size (.slice (some ⟨w.heap.size, 0, none⟩) W W) (nbr W n 0) ∧ Below w.heap.size w (w.alloc (.cells (u8s (List.replicate W 0)) 5))) := Bx.mk ⟨by
    have e : nbr W n 0 = List.replicate W 0 := by simp [nbr, beN]
    rw [e]
    exact row_own (l := List.replicate W 0) (by rw [hnew _ _ _ rfl]) (by simp) (Nat.le_refl _) (by omega), below_a _⟩
  go_enter Tryd.func88, Tryd.ntmps88
  go_wp2_with fail
  refine (hWd w).mono ?_
  rintro e w1 ⟨rfl, rfl⟩
  go_wp2
  generalize w1.alloc (.cells (u8s (List.replicate W 0)) 5) = w2 at *
  generalize hD : w1.heap.size = D at *
  go_loopw [6, 12] (fun u i wr => ∃ k : Nat, k ≤ W ∧ i = .int .i64 (k : Int) ∧ Bx (OwnB wr D (.slice (some ⟨D, 0, none⟩) W W) (nbr W n k) ∧ Below D w1 wr)) (fun _ i _ => W - (intOf i).toNat)
  case atStart => exact ⟨0, Nat.zero_le _, rfl, H0⟩
  case round =>
    clear H0
    obtain ⟨k, hk, rfl, HR⟩ := hrel
    by_cases hlt : k < W
    · have hk1 : (k : Int) < (W : Int) := by omega
      have hk0 : (0 : Int) ≤ (k : Int) := by omega
      obtain ⟨c, o, he1, hcell⟩ := HR.out.1.bytes.cell (W - 1 - k) (by omega)
      injection he1 with he1
      injection he1 with h1 h2
      subst h1
      subst h2
      rw [Nat.zero_add] at hcell
      obtain ⟨cur, hrow, hgb⟩ := HR.out.1.row
      have fz : wr.frozen? ⟨D, W - 1 - k, none⟩ = false := frozen_of_row _ _ _ _ _ hrow
      have hv : (n : Int) / 2 ^ (8 * k) % 256 = ub (UInt8.ofNat (n / 256 ^ k % 256)) := by rw [pow_nat, ub_nat, ← Int.natCast_ediv]; rfl
      have HNx : Bx (OwnB (wr.setCell ⟨D, W - 1 - k, none⟩ (.int .u8 ((n : Int) / 2 ^ (8 * k) % 256))) D (.slice (some ⟨D, 0, none⟩) W W) (nbr W n (k + 1)) ∧ Below D w1 (wr.setCell ⟨D, W - 1 - k, none⟩ (.int .u8 ((n : Int) / 2 ^ (8 * k) % 256)))) := Bx.mk ⟨by
        rw [hv, ← nbr_succ W n k hlt]
        exact HR.out.1.set _ _, HR.out.2.setCell hgb _⟩
      clear HR hrow hgb hv
      go_wp2
      go_roundw
      case rel => exact ⟨k + 1, by omega, by go_num, HNx⟩
      case measure => simp [intOf]; omega
    · have ek : k = W := by omega
      have HE : Bx (OwnB wr D (.slice (some ⟨D, 0, none⟩) W W) (beN W n) ∧ Below D w1 wr) := Bx.mk ⟨by
        have e : beN W n = nbr W n k := by rw [ek]; simp [nbr]
        rw [e]
        exact HR.out.1, HR.out.2⟩
      clear HR
      go_wp2
      go_ret
      exact ⟨_, rfl, by rw [hD]; exact HE.out⟩
end Go.Proofs.YtaoekfomffebhaaDoor
namespace Go.Proofs.YtaoekfomffebhaaDoor
open Go Go.RowKit
/-- A field, as a value. -/
def IsF (w : World) (v : Value) (f : Fd) : Prop := ∃ vb, v = .agg #[.int .i64 f.s, .int .i64 f.n, vb] ∧ Bytes w vb f.b
theorem IsF.later {w w1 : World} {v : Value} {f : Fd} (h : IsF w v f) (hb : Below w.heap.size w w1) : IsF w1 v f := by
  obtain ⟨vb, hv, h⟩ := h
  exact ⟨vb, hv, h.later hb⟩
theorem chk_ok {f : Fd} (h : chk f = 0) : (f.s = 4 ∧ f.n = 0 ∧ f.b.length ≤ 512) ∨ (0 ≤ f.s ∧ f.s ≤ 3 ∧ f.b = [] ∧ 0 ≤ f.n ∧ f.n ≤ most f.s) := by
  unfold chk at h
  split at h
  · omega
  · split at h
    · split at h
      · omega
      · split at h
        · omega
        · exact .inl ⟨by assumption, by omega, by omega⟩
    · split at h
      · omega
      · exact .inr ⟨by omega, by omega, List.eq_nil_of_length_eq_zero (by omega), by omega, by omega⟩
theorem most_le (s : Int) : most s ≤ 9223372036854775807 := by
  unfold most
  repeat' split
  all_goals omega
set_option maxRecDepth 100000 in
set_option maxHeartbeats 1000000 in
theorem encoded_any (f : Fd) (v : Value) (w : World) (hv : IsF w v f) (hc : chk f = 0) :
    Calls Tryd.prog 82 #[v] w fun e w' => ∃ v', e = .returned v' ∧ OwnB w' w.heap.size v' (enc f) ∧ Below w.heap.size w w' := by
  obtain ⟨vb, rfl, hb⟩ := hv
  obtain ⟨s, n, b⟩ := f
  simp only at hb ⊢
  rcases chk_ok hc with ⟨h4, hn, hl⟩ | ⟨h0, h3, hbn, hn0, hnm⟩
  · simp only at h4 hn hl
    subst h4
    subst hn
    have HE : Bx (enc ⟨4, 0, b⟩ = beN 2 b.length ++ b) := Bx.mk rfl
    have HB := Bx.mk hb
    obtain ⟨ab, cb, rfl, -⟩ := hb
    obtain ⟨L, hL⟩ : ∃ n, b.length = n := ⟨_, rfl⟩
    have HL2 := Bx.mk hL
    rw [hL] at HB HE hl ⊢
    have HL := Bx.mk hl
    have hl1 : (L : Int) ≤ 512 := by omega
    clear hL hc hl
    have H0 : Bx ((w.alloc (.cells #[.int .i64 4, .int .i64 0, .slice ab L cb] 96)).cell? ⟨w.heap.size, 2, none⟩ = some (.slice ab L cb) ∧ Below w.heap.size w (w.alloc (.cells #[.int .i64 4, .int .i64 0, .slice ab L cb] 96)) ∧ Bytes (w.alloc (.cells #[.int .i64 4, .int .i64 0, .slice ab L cb] 96)) (.slice ab L cb) b) :=
      Bx.mk ⟨by rw [cell_of_row _ _ _ _ _ _ (hnew _ _ _ rfl)]; rfl, below_a _, HB.out.later (below_a _)⟩
    go_enter Tryd.func82, Tryd.ntmps82
    go_upto_region 2 with fail
    obtain ⟨B, hw⟩ : ∃ B, w.heap.size = B := ⟨_, rfl⟩
    have Hw := Bx.mk hw
    generalize (w.alloc (.cells #[.int .i64 4, .int .i64 0, .slice ab L cb] 96)) = wA at *
    rw [hw] at H0 ⊢
    clear hw
    refine wp_region_noPanic ?_
    refine wp_region_held_drew (S := fun W => W.cell? ⟨B, 2, none⟩ = some (.slice ab L cb) ∧ Bx (Below B w W ∧ Bytes W (.slice ab L cb) b)) (by kernel_rfl) (⟨H0.out.1, ⟨H0.out.2.1.drew, H0.out.2.2⟩⟩) (fun hHeld => ?_)
    have H0 : Bx (wA.drew.cell? ⟨B, 2, none⟩ = some (.slice ab L cb) ∧ Below B w wA.drew ∧ Bytes wA.drew (.slice ab L cb) b) := Bx.mk ⟨H0.out.1, H0.out.2.1.drew, H0.out.2.2⟩
    generalize wA.drew = W0 at *
    refine takeL 0 (v := ?_) rfl (by kernel_rfl) (by kernel_rfl) (by kernel_rfl) (fun _ _ _ h => h) (Or.inl ⟨by rfl, ?_⟩) hHeld ?_
    rotate_left 1
    · (intro w hSw; go_simp; try with_reducible rfl)
    try simp only [Act.put, List.setIfInBounds_toArray, List.set_cons_zero, List.set_cons_succ]
    refine takeL 1 (v := ?_) rfl (by kernel_rfl) (by kernel_rfl) (by kernel_rfl) (fun _ _ _ h => h) (Or.inl ⟨by rfl, ?_⟩) hHeld ?_
    rotate_left 1
    · (intro w hSw; go_simp; try with_reducible rfl)
    try simp only [Act.put, List.setIfInBounds_toArray, List.set_cons_zero, List.set_cons_succ]
    refine takeL 2 (v := ?_) rfl (by kernel_rfl) (by kernel_rfl) (by kernel_rfl) (fun _ _ _ h => h) (Or.inl ⟨by rfl, ?_⟩) hHeld ?_
    rotate_left 1
    · (intro w hSw; go_simp; try with_reducible rfl)
    try simp only [Act.put, List.setIfInBounds_toArray, List.set_cons_zero, List.set_cons_succ]
    refine takeL 4 (v := ?_) rfl (by kernel_rfl) (by kernel_rfl) (by kernel_rfl) (fun _ _ _ h => h) (Or.inl ⟨by rfl, ?_⟩) hHeld ?_
    rotate_left 1
    · (intro w hSw; go_simp; try with_reducible rfl)
    try simp only [Act.put, List.setIfInBounds_toArray, List.set_cons_zero, List.set_cons_succ]
    refine takeL 5 (v := ?_) rfl (by kernel_rfl) (by kernel_rfl) (by kernel_rfl) (fun _ _ _ h => h) (Or.inl ⟨by rfl, ?_⟩) hHeld ?_
    rotate_left 1
    · (intro w hSw; go_simp; try with_reducible rfl)
    try simp only [Act.put, List.setIfInBounds_toArray, List.set_cons_zero, List.set_cons_succ]
    refine stepL 3 (by kernel_rfl) rfl (fun K hK => ?_)
    go_simp
    refine (number_any 1 L W0 (by omega) (by omega) (by have := HL.out; omega)).mono ?_
    rintro e W1 ⟨v1, rfl, ho1, hb1⟩
    show K _ _
    have H1 : Bx (OwnB W1 (B + 1) v1 (beN 2 L) ∧ Below B w W1 ∧ Bytes W1 (.slice ab L cb) b ∧ W1.cell? ⟨B, 2, none⟩ = some (.slice ab L cb)) := Bx.mk ⟨ho1.weak (World.block_lt_of_cell? _ _ H0.out.1), H0.out.2.1.trans (hb1.mono (Nat.le_of_lt (World.block_lt_of_cell? _ _ H0.out.1))), H0.out.2.2.later hb1, by rw [hb1.cell (p := ⟨B, 2, none⟩) (World.block_lt_of_cell? _ _ H0.out.1)]; exact H0.out.1⟩
    clear ho1 hb1 H0
    refine hK.out _ _ ⟨H1.out.2.2.2, ⟨H1.out.2.1, H1.out.2.2.1⟩⟩ (fun hHeld => ?_)
    clear hK K
    try simp only [Act.put, List.setIfInBounds_toArray, List.set_cons_zero, List.set_cons_succ]
    refine stepL 6 (by kernel_rfl) rfl (fun K hK => ?_)
    refine step_ap rfl _ _ rfl (B + 1) _ (beN 2 L) (by rfl) H1.out.1 _ b (by rfl) H1.out.2.2.1 (by have := HL.out; have := HL2.out; rw [beN_length]; omega) (World.block_lt_of_cell? _ _ H1.out.2.2.2) ?_
    intro v2 w2 ho2 hg2 _
    have hb2 := own_below H1.out.1 hg2 (World.block_lt_of_cell? _ _ H1.out.2.2.2)
    have H2 : Bx (OwnB w2 B v2 (beN 2 L ++ b) ∧ Below B w w2) := Bx.mk ⟨ho2.weak (by omega), H1.out.2.1.trans (hb2.mono (by omega))⟩
    have HS2 : Bx (w2.cell? ⟨B, 2, none⟩ = some (.slice ab L cb) ∧ Bytes w2 (.slice ab L cb) b) := Bx.mk ⟨by rw [hb2.cell (p := ⟨B, 2, none⟩) (Nat.lt_succ_self B)]; exact H1.out.2.2.2, HB.out.later (Hw.out ▸ H2.out.2)⟩
    clear ho2 hg2 hb2
    refine hK.out _ _ ⟨HS2.out.1, ⟨H2.out.2, HS2.out.2⟩⟩ (fun hHeld => ?_)
    clear hK K
    try simp only [Act.put, List.setIfInBounds_toArray, List.set_cons_zero, List.set_cons_succ]
    refine takeL 7 (v := ?_) rfl (by kernel_rfl) (by kernel_rfl) (by kernel_rfl) (fun _ _ _ h => h) (Or.inl ⟨by rfl, ?_⟩) hHeld ?_
    rotate_left 1
    · (intro w hSw; go_simp; try with_reducible rfl)
    try simp only [Act.put, List.setIfInBounds_toArray, List.set_cons_zero, List.set_cons_succ]
    refine wpAnyH_done (by kernel_rfl) ?_ _
    refine NoPanic.normal ?_
    clear hHeld
    go_wp2
    go_ret
    exact ⟨_, rfl, by rw [HE.out, Hw.out]; exact H2.out.1, by rw [Hw.out]; exact H2.out.2⟩
  · simp only at h0 h3 hbn hn0 hnm
    obtain ⟨m, rfl⟩ : ∃ m : Nat, n = (m : Int) := ⟨n.toNat, by omega⟩
    have HE : Bx (enc ⟨s, (m : Int), b⟩ = beN (wid s) m) := Bx.mk (by unfold enc; rw [if_neg (by simp only; omega)]; rfl)
    have hNm := number_any s m (w.alloc (.cells #[.int .i64 s, .int .i64 (m : Int), vb] 96)) h0 h3 (by have := most_le s; omega)
    have hB : Below w.heap.size w (w.alloc (.cells #[.int .i64 s, .int .i64 (m : Int), vb] 96)) := below_a _
    have hs4 : (s == 4) = false := by simp; omega
    obtain ⟨ab, cb, rfl, -⟩ := hb
    generalize b.length = L at *
    clear hc hbn hn0 hnm
    go_enter Tryd.func82, Tryd.ntmps82
    go_wp2_with fail
    refine hNm.mono ?_
    rintro e w1 ⟨v1, rfl, ho1, hb1⟩
    have H1 : Bx (OwnB w1 w.heap.size v1 (beN (wid s) m) ∧ Below w.heap.size w w1) := Bx.mk ⟨ho1.weak hB.size, hB.trans (hb1.mono hB.size)⟩
    clear ho1 hb1 hB hNm
    go_wp2
    go_ret
    exact ⟨_, rfl, by rw [HE.out]; exact H1.out.1, H1.out.2⟩
end Go.Proofs.YtaoekfomffebhaaDoor
namespace Go.Proofs.YtaoekfomffebhaaDoor
open Go Go.RowKit
theorem chk_kind {f : Fd} (h : f.s < 0 ∨ 4 < f.s) : chk f = 13 := by unfold chk; rw [if_pos h]
theorem chk_four {f : Fd} (h : f.s = 4) : chk f = if f.n ≠ 0 then 10 else if 512 < f.b.length then 2 else 0 := by unfold chk; rw [if_neg (by omega), if_pos h]
theorem chk_num {f : Fd} (h0 : 0 ≤ f.s) (h3 : f.s ≤ 3) : chk f = if f.b.length > 0 ∨ f.n < 0 ∨ most f.s < f.n then 10 else 0 := by unfold chk; rw [if_neg (by omega), if_neg (by omega)]
set_option maxRecDepth 100000 in
set_option maxHeartbeats 1000000 in
theorem wcheck_any (f : Fd) (v : Value) (w : World) (hv : IsF w v f) (hn1 : -9223372036854775808 ≤ f.n) (hn2 : f.n ≤ 9223372036854775807) :
    Calls Tryd.prog 87 #[v] w fun e w' => e = .returned (.int .i64 (chk f)) ∧ Below w.heap.size w w' := by
  obtain ⟨vb, rfl, hb⟩ := hv
  obtain ⟨s, n, b⟩ := f
  simp only at hb hn1 hn2 ⊢
  obtain ⟨ab, cb, rfl, -⟩ := hb
  by_cases hk : s < 0 ∨ 4 < s
  · have HC : Bx (chk ⟨s, n, b⟩ = 13) := Bx.mk (chk_kind hk)
    have hkk : (decide (0 ≤ s) && decide (s ≤ 4)) = false := by rw [Bool.eq_false_iff]; intro h; simp at h; omega
    clear hk
    generalize b.length = L at *
    go_enter Tryd.func87, Tryd.ntmps87
    go_wp2_with fail
    refine (known_any s _).mono ?_
    rintro e w1 ⟨rfl, rfl⟩
    rw [hkk]
    go_wp2
    go_ret
    exact ⟨by rw [HC.out]; rfl, below_a _⟩
  · have hkk : (decide (0 ≤ s) && decide (s ≤ 4)) = true := by simp; omega
    by_cases h4 : s = 4
    · subst h4
      have HC := Bx.mk (chk_four (f := ⟨4, n, b⟩) rfl)
      simp only at HC
      generalize b.length = L at *
      clear hk
      by_cases hn : n = 0
      · subst hn
        by_cases hl : 512 < L
        · have hl1 : (512 : Int) < (L : Int) := by omega
          go_enter Tryd.func87, Tryd.ntmps87
          go_wp2_with fail
          refine (known_any 4 _).mono ?_
          rintro e w1 ⟨rfl, rfl⟩
          rw [hkk]
          go_wp2
          go_ret
          exact ⟨by rw [HC.out, if_neg (by simp), if_pos hl]; rfl, below_a _⟩
        · have hl1 : ¬ (512 : Int) < (L : Int) := by omega
          go_enter Tryd.func87, Tryd.ntmps87
          go_wp2_with fail
          refine (known_any 4 _).mono ?_
          rintro e w1 ⟨rfl, rfl⟩
          rw [hkk]
          go_wp2
          go_ret
          exact ⟨by rw [HC.out, if_neg (by simp), if_neg hl]; rfl, below_a _⟩
      · go_enter Tryd.func87, Tryd.ntmps87
        go_wp2_with fail
        refine (known_any 4 _).mono ?_
        rintro e w1 ⟨rfl, rfl⟩
        rw [hkk]
        go_wp2
        go_ret
        exact ⟨by rw [HC.out, if_pos hn]; rfl, below_a _⟩
    · have h0 : 0 ≤ s := by omega
      have h3 : s ≤ 3 := by omega
      have HC := Bx.mk (chk_num (f := ⟨s, n, b⟩) h0 h3)
      simp only at HC
      generalize b.length = L at *
      clear hk
      cases hf : fitB s n
      · have HF : Bx (n < 0 ∨ most s < n) := Bx.mk (by unfold fitB at hf; rw [Bool.eq_false_iff] at hf; simp at hf; omega)
        go_enter Tryd.func87, Tryd.ntmps87
        go_wp2_with fail
        refine (known_any s _).mono ?_
        rintro e w1 ⟨rfl, rfl⟩
        rw [hkk]
        go_wp2_with fail
        refine (fits_any s n _ h0 h3 hn1 hn2).mono ?_
        rintro e w1 ⟨rfl, rfl⟩
        rw [hf]
        go_wp2
        go_ret
        exact ⟨by rw [HC.out, if_pos (.inr HF.out)]; rfl, below_a _⟩
      · have HF : Bx (¬ (n < 0 ∨ most s < n)) := Bx.mk (by unfold fitB at hf; simp at hf; omega)
        by_cases hl : 0 < L
        · have hl1 : (0 : Int) < (L : Int) := by omega
          go_enter Tryd.func87, Tryd.ntmps87
          go_wp2_with fail
          refine (known_any s _).mono ?_
          rintro e w1 ⟨rfl, rfl⟩
          rw [hkk]
          go_wp2_with fail
          refine (fits_any s n _ h0 h3 hn1 hn2).mono ?_
          rintro e w1 ⟨rfl, rfl⟩
          rw [hf]
          go_wp2
          go_ret
          exact ⟨by rw [HC.out, if_pos (.inl hl)]; rfl, below_a _⟩
        · obtain rfl : L = 0 := by omega
          go_enter Tryd.func87, Tryd.ntmps87
          go_wp2_with fail
          refine (known_any s _).mono ?_
          rintro e w1 ⟨rfl, rfl⟩
          rw [hkk]
          go_wp2_with fail
          refine (fits_any s n _ h0 h3 hn1 hn2).mono ?_
          rintro e w1 ⟨rfl, rfl⟩
          rw [hf]
          go_wp2
          go_ret
          exact ⟨by rw [HC.out, if_neg (by have := HF.out; omega)]; rfl, below_a _⟩
end Go.Proofs.YtaoekfomffebhaaDoor
namespace Go.Proofs.YtaoekfomffebhaaDoor
open Go Go.RowKit
end Go.Proofs.YtaoekfomffebhaaDoor
namespace Go.Proofs.YtaoekfomffebhaaDoor
open Go Go.RowKit
end Go.Proofs.YtaoekfomffebhaaDoor
namespace Go.Proofs.YtaoekfomffebhaaDoor
open Go Go.RowKit
end Go.Proofs.YtaoekfomffebhaaDoor
namespace Go.Proofs.YtaoekfomffebhaaDoor
open Go Go.RowKit
/-- A row of numbers. -/
def Ints (w : World) (v : Value) (ns : List Int) : Prop :=
  ∃ a cap, v = .slice a ns.length cap ∧ ns.length ≤ cap ∧ (a = none → cap = 0) ∧ (0 < ns.length → ∃ c o, a = some ⟨c, o, none⟩ ∧ ∀ i, i < ns.length → w.cell? ⟨c, o + i, none⟩ = some (.int .i64 (ns.getD i 0)))
theorem Ints.later {w w1 : World} {v : Value} {ns : List Int} (h : Ints w v ns) (hb : Below w.heap.size w w1) : Ints w1 v ns := by
  obtain ⟨a, cap, hv, hc, hn, hr⟩ := h
  refine ⟨a, cap, hv, hc, hn, fun hp => ?_⟩
  obtain ⟨c, o, ha, hf⟩ := hr hp
  refine ⟨c, o, ha, fun i hi => ?_⟩
  rw [hb.cell (p := ⟨c, o + i, none⟩) (World.block_lt_of_cell? _ _ (hf i hi))]
  exact hf i hi
/-- The cells of numbers. -/
def i64s (ns : List Int) : List Value := ns.map fun n => Value.int .i64 n
theorem i64s_get (ns : List Int) (i : Nat) (h : i < ns.length) : (i64s ns)[i]? = some (.int .i64 (ns.getD i 0)) := by
  unfold i64s
  rw [List.getElem?_map, List.getElem?_eq_getElem h, List.getD_eq_getElem?_getD, List.getElem?_eq_getElem h]
  rfl
/-- A row of numbers that the call has made. -/
def OwnI (w : World) (base : Nat) (v : Value) (ns : List Int) : Prop := w.ownsRow base 3 1 v ns.length (i64s ns)
theorem OwnI.nil (w : World) (base : Nat) : OwnI w base (.slice none 0 0) [] := ⟨rfl, .inl ⟨rfl, rfl⟩⟩
theorem OwnI.later {w w1 : World} {base B : Nat} {v : Value} {ns : List Int} (h : OwnI w base v ns) (hb : Below B w w1) (hB : ∀ g, v.ownBlock = some g → g < B) : OwnI w1 base v ns := by
  obtain ⟨hl, hr⟩ := h
  refine ⟨hl, ?_⟩
  rcases hr with h | ⟨g, cap, cur, hv, hc, h1, h2, h3, h4⟩
  · exact .inl h
  · refine .inr ⟨g, cap, cur, hv, hc, ?_, h2, h3, h4⟩
    rw [hb.block g (hB g (by rw [hv]; rfl))]
    exact h1
theorem OwnI.lt {w : World} {base : Nat} {v : Value} {ns : List Int} (h : OwnI w base v ns) : ∀ g, v.ownBlock = some g → g < w.heap.size ∧ base ≤ g := by
  intro g hg
  rcases h.2 with ⟨rfl, _⟩ | ⟨g', cap, cur, rfl, hb, hh, _⟩
  · cases hg
  · injection hg with hg
    subst hg
    exact ⟨(Array.getElem?_eq_some_iff.1 hh).1, hb⟩
theorem OwnI.ints {w : World} {base : Nat} {v : Value} {ns : List Int} (h : OwnI w base v ns) : Ints w v ns := by
  rcases h.2 with ⟨rfl, h0⟩ | ⟨g, cap, cur, rfl, hb, hg, hn, hm, hs, hc⟩
  · refine ⟨none, 0, by rw [h0], by omega, fun _ => rfl, fun hp => by omega⟩
  · refine ⟨_, cap, rfl, hn, (fun hx => by cases hx), fun _ => ⟨g, 0, rfl, fun j hj => ?_⟩⟩
    rw [cell_of_row _ _ _ _ _ _ hg, Nat.zero_add, ← Array.getElem?_toList]
    have h1 : (cur.toList.take (ns.length * 1))[j]? = (i64s ns)[j]? := by rw [hc]
    rw [List.getElem?_take, if_pos (by omega), i64s_get ns j hj] at h1
    exact h1
theorem OwnI.form {w : World} {base : Nat} {v : Value} {ns : List Int} (h : OwnI w base v ns) : ∃ a cap, v = .slice a ns.length cap := by
  obtain ⟨a, cap, hv, -⟩ := h.ints
  exact ⟨a, cap, hv⟩
theorem OwnI.weak {w : World} {base base' : Nat} {v : Value} {l : List Int} (h : OwnI w base v l) (hb : base' ≤ base) : OwnI w base' v l := by
  refine ⟨h.1, ?_⟩
  rcases h.2 with h0 | ⟨g, cap, cur, hv, hb', hr⟩
  · exact .inl h0
  · exact .inr ⟨g, cap, cur, hv, by omega, hr⟩
end Go.Proofs.YtaoekfomffebhaaDoor
namespace Go.Proofs.YtaoekfomffebhaaDoor
open Go Go.RowKit
end Go.Proofs.YtaoekfomffebhaaDoor
namespace Go.Proofs.YtaoekfomffebhaaDoor
open Go Go.ChangeShapes Go.WideShapes Go.ChangeAt Go.RowKit
theorem own : ownKnob Tryd.prog.godebug = none := by kernel_rfl
theorem laidOut : laidOutB Tryd.prog = true := by kernel_rfl
/-- A slice of bytes that came in. -/
def IsRow (w : World) (a : Option Addr) (len cap : Nat) (zs : List Int) : Prop :=
  (a = none ∧ len = 0 ∧ cap = 0 ∧ zs = []) ∨
  ∃ x, a = some x ∧ len ≤ cap ∧ cap ≤ maxLen ∧ zs.length = cap ∧ (∀ i, i < zs.length → w.cell? (x.add i) = some (.int .u8 (zs.getD i 0))) ∧ ∀ n ∈ zs, (Lit.int .u8 n).wf = true
theorem IsRow.bytes {w : World} {a : Option Addr} {len cap : Nat} {zs : List Int} (h : IsRow w a len cap zs) : ∃ bs, Bytes w (.slice a len cap) bs ∧ bs.length = len ∧ len ≤ 9223372036854775807 := by
  rcases h with ⟨rfl, rfl, rfl, rfl⟩ | ⟨x, rfl, hl, hm, hz, hc, hw⟩
  · exact ⟨[], ⟨none, 0, rfl, Nat.le_refl _, fun _ => rfl, fun h => by simp at h⟩, rfl, by omega⟩
  · have hm' : cap ≤ 9223372036854775807 := hm
    refine ⟨(zs.take len).map (fun z => UInt8.ofNat z.toNat), ⟨some x, cap, ?_, ?_, (fun h => by cases h), fun hp => ?_⟩, ?_, by omega⟩
    · rw [List.length_map, List.length_take, Nat.min_eq_left (by omega)]
    · rw [List.length_map, List.length_take]; omega
    · rw [List.length_map, List.length_take] at hp
      obtain ⟨b, off, rfl, hc'⟩ := ints_at hc (by omega)
      refine ⟨b, off, rfl, fun j hj => ?_⟩
      rw [List.length_map, List.length_take] at hj
      rw [hc' j (by omega)]
      congr 2
      have hjz : j < zs.length := by omega
      have hr : 0 ≤ zs[j] ∧ zs[j] ≤ 255 := bounds_u8 (hw _ (List.getElem_mem hjz))
      have e1 : zs.getD j 0 = zs[j] := by simp [hjz]
      have e2 : ((zs.take len).map (fun z => UInt8.ofNat z.toNat)).getD j 0 = UInt8.ofNat (zs[j]).toNat := by
        simp [hjz, show j < len by omega]
      rw [e1, e2]
      unfold ub
      rw [UInt8.toNat_ofNat']
      omega
    · rw [List.length_map, List.length_take]; omega
/-- The bytes of a slice that came in. -/
theorem raw_bytes {H : Type} {enc : TypeId × Value → H} {W : World} {fuel : Nat} {c : Value} {x : DataW H × List MemPlace} (hf : DataW.trod enc Tryd.prog W 0 (fun _ => true) true fuel 26 [c] = some x) :
    ∃ bs, Bytes W c bs ∧ bs.length ≤ 9223372036854775807 := by
  rcases open_ints Tryd.underlying26 Tryd.underlying5 (by kernel_rfl) hf with ⟨hcs, _⟩ | ⟨y, l, k, zs, hcs, _, hl, hm, hz, _, hcell, hwz⟩
  · simp at hcs
    subst hcs
    exact ⟨[], Bytes.nil _, by simp⟩
  · simp at hcs
    subst hcs
    obtain ⟨bs, hb, hbl, hbm⟩ := IsRow.bytes (w := W) (a := some y) (len := l) (cap := k) (zs := zs) (.inr ⟨_, rfl, hl, hm, by simpa using hz, hcell, hwz⟩)
    exact ⟨bs, hb, by omega⟩
end Go.Proofs.YtaoekfomffebhaaDoor
namespace Go.Proofs.YtaoekfomffebhaaDoor
open Go Go.ChangeShapes Go.WideShapes Go.ChangeAt Go.RowKit
/-- A number that an int holds. -/
def in64 (n : Int) : Prop := -9223372036854775808 ≤ n ∧ n ≤ 9223372036854775807
end Go.Proofs.YtaoekfomffebhaaDoor
namespace Go.Proofs.YtaoekfomffebhaaDoor
open Go Go.ChangeShapes Go.WideShapes Go.ChangeAt Go.RowKit
/-- A boot and a counter. -/
structure Nn where
  b : Int
  c : Int
def Nn.zero : Nn := ⟨0, 0⟩
def Nn.fit (n : Nn) : Prop := in64 n.b ∧ in64 n.c
def nv (n : Nn) : Value := .agg #[.int .i64 n.b, .int .i64 n.c]
def nnc (e : Nn) : List Value := [.int .i64 e.b, .int .i64 e.c]
/-- Nonces one behind the other, as cells. -/
def cellsN : List Nn → List Value
  | [] => []
  | e :: r => .int .i64 e.b :: .int .i64 e.c :: cellsN r
theorem cellsN_get (l : List Nn) : ∀ (k : Nat), k < l.length → ∀ j v, (nnc (l.getD k Nn.zero))[j]? = some v → (cellsN l)[k * 2 + j]? = some v := by
  induction l with
  | nil => intro k hk; exact absurd hk (Nat.not_lt_zero _)
  | cons c r ih =>
    intro k hk j v hj
    match k with
    | 0 =>
      have hj4 : j < 2 := (List.getElem?_eq_some_iff.1 hj).1
      match j, hj4 with
      | 0, _ => exact hj
      | 1, _ => exact hj
    | k + 1 =>
      have h := ih k (by simpa using hk) j v (by simpa using hj)
      rw [show (k + 1) * 2 + j = (k * 2 + j) + 2 by omega]
      exact h
/-- Nonces in a row that the call owns, of one type or the other. -/
def OwnN (T : TypeId) (w : World) (base : Nat) (v : Value) (l : List Nn) : Prop := w.ownsRow base T 2 v l.length (cellsN l)
theorem OwnN.nil (T : TypeId) (w : World) (base : Nat) : OwnN T w base (.slice none 0 0) [] := ⟨rfl, .inl ⟨rfl, rfl⟩⟩
theorem OwnN.lt {T : TypeId} {w : World} {base : Nat} {v : Value} {l : List Nn} (h : OwnN T w base v l) : ∀ g, v.ownBlock = some g → g < w.heap.size ∧ base ≤ g := fun g hg => by
  have := World.ownsRow.lt h g hg
  exact ⟨this.2, this.1⟩
theorem OwnN.kept {T : TypeId} {w w1 : World} {base : Nat} {v : Value} {l : List Nn} (h : OwnN T w base v l) (hb : ∀ g cs fr, base ≤ g → w.heap[g]? = some (.cells cs T fr) → w1.heap[g]? = some (.cells cs T fr)) : OwnN T w1 base v l := by
  refine ⟨h.1, ?_⟩
  rcases h.2 with h0 | ⟨g, cap, cur, hv, hb', hh, hr⟩
  · exact .inl h0
  · exact .inr ⟨g, cap, cur, hv, hb', hb g _ _ hb' hh, hr⟩
theorem OwnN.later {T : TypeId} {w w1 : World} {base : Nat} {v : Value} {l : List Nn} (h : OwnN T w base v l) (hb : Below w.heap.size w w1) : OwnN T w1 base v l := h.kept fun g cs fr _ h0 => by rw [hb.block g (Array.getElem?_eq_some_iff.1 h0).1]; exact h0
theorem OwnN.weak {T : TypeId} {w : World} {base base' : Nat} {v : Value} {l : List Nn} (h : OwnN T w base v l) (hb : base' ≤ base) : OwnN T w base' v l := by
  refine ⟨h.1, ?_⟩
  rcases h.2 with h0 | ⟨g, cap, cur, hv, hb', hh, hr⟩
  · exact .inl h0
  · exact .inr ⟨g, cap, cur, hv, Nat.le_trans hb hb', hh, hr⟩
/-- A row stays where a block of another kind changes. -/
theorem OwnN.aside {T : TypeId} {w w1 : World} {base M : Nat} {v : Value} {l : List Nn} (h : OwnN T w base v l) (hm : ∀ cs fr, w.heap[M]? ≠ some (.cells cs T fr)) (hg : w.grownBy w1 (some M)) : OwnN T w1 base v l := h.kept fun g cs fr _ h0 => by
  rw [hg.block g (Array.getElem?_eq_some_iff.1 h0).1 (fun e => by
    injection e with e
    subst e
    exact hm _ _ h0)]
  exact h0
theorem OwnN.form {T : TypeId} {w : World} {base : Nat} {v : Value} {l : List Nn} (h : OwnN T w base v l) : ∃ a cap, v = .slice a l.length cap ∧ l.length ≤ cap ∧ (a = none → cap = 0) := by
  rcases h.2 with ⟨hv, h0⟩ | ⟨g, cap, cur, hv, _, hg, hc1, hc2, hc3, hc4⟩
  · exact ⟨none, 0, by rw [h0]; exact hv, by omega, fun _ => rfl⟩
  · exact ⟨_, cap, hv, hc1, fun h => by cases h⟩
/-- Nonces that can be read. -/
def NnsR (w : World) (v : Value) (l : List Nn) : Prop :=
  ∃ a cap, v = .slice a l.length cap ∧ l.length ≤ cap ∧ (a = none → cap = 0) ∧ (0 < l.length → ∃ g o, a = some ⟨g, o, none⟩ ∧ ∀ k, k < l.length → w.cell? ⟨g, o + k * 2, none⟩ = some (.int .i64 (l.getD k Nn.zero).b) ∧ w.cell? ⟨g, o + k * 2 + 1, none⟩ = some (.int .i64 (l.getD k Nn.zero).c))
theorem NnsR.later {w w1 : World} {v : Value} {l : List Nn} (h : NnsR w v l) (hb : Below w.heap.size w w1) : NnsR w1 v l := by
  obtain ⟨a, cap, hv, h1, h2, hr⟩ := h
  refine ⟨a, cap, hv, h1, h2, fun hp => ?_⟩
  obtain ⟨g, o, ha, hc⟩ := hr hp
  refine ⟨g, o, ha, fun k hk => ?_⟩
  obtain ⟨h1, h2⟩ := hc k hk
  exact ⟨by rw [hb.cell (World.block_lt_of_cell? _ _ h1)]; exact h1, by rw [hb.cell (World.block_lt_of_cell? _ _ h2)]; exact h2⟩
theorem NnsR.form {w : World} {v : Value} {l : List Nn} (h : NnsR w v l) : ∃ a cap, v = .slice a l.length cap := by
  obtain ⟨a, cap, hv, _⟩ := h
  exact ⟨a, cap, hv⟩
theorem NnsR.start {w : World} {v : Value} {l : List Nn} (h : NnsR w v l) (hp : 0 < l.length) : ∃ g o cap, v = .slice (some ⟨g, o, none⟩) l.length cap := by
  obtain ⟨a, cap, hv, -, -, hr⟩ := h
  obtain ⟨g, o, ha, -⟩ := hr hp
  exact ⟨g, o, cap, by rw [hv, ha]⟩
theorem NnsR.cells {w : World} {g o n cap : Nat} {l : List Nn} (h : NnsR w (.slice (some ⟨g, o, none⟩) n cap) l) (k : Nat) (hk : k < l.length) :
    w.cell? ⟨g, o + k * 2, none⟩ = some (.int .i64 (l.getD k Nn.zero).b) ∧ w.cell? ⟨g, o + k * 2 + 1, none⟩ = some (.int .i64 (l.getD k Nn.zero).c) := by
  obtain ⟨a', cap', hv, -, -, hr⟩ := h
  obtain ⟨b', o', ha, hx⟩ := hr (by omega)
  injection hv with e1 e2 e3
  rw [ha] at e1
  injection e1 with e1
  injection e1 with e4 e5
  subst e4 e5
  exact hx k hk
/-- The first ones of a row. -/
theorem NnsR.take {w : World} {a : Option Addr} {n cap : Nat} {l : List Nn} (h : NnsR w (.slice a n cap) l) (m : Nat) (hm : m ≤ n) : NnsR w (.slice a m cap) (l.take m) := by
  obtain ⟨a', cap', hv, h1, h2, hr⟩ := h
  injection hv with e1 e2 e3
  subst e1 e2 e3
  have hl : (l.take m).length = m := by rw [List.length_take]; omega
  refine ⟨a, cap, by rw [hl], by omega, h2, fun hp => ?_⟩
  obtain ⟨g, o, ha, hc⟩ := hr (by omega)
  refine ⟨g, o, ha, fun k hk => ?_⟩
  rw [hl] at hk
  have e : (l.take m).getD k Nn.zero = l.getD k Nn.zero := by
    rw [List.getD_eq_getElem?_getD, List.getD_eq_getElem?_getD, List.getElem?_take_of_lt hk]
  rw [e]
  exact hc k (by omega)
theorem OwnN.reads {T : TypeId} {w : World} {base : Nat} {v : Value} {l : List Nn} (h : OwnN T w base v l) : NnsR w v l := by
  rcases h.2 with ⟨hv, h0⟩ | ⟨g, cap, cur, hv, _, hg, hc1, hc2, hc3, hc4⟩
  · exact ⟨none, 0, by rw [h0]; exact hv, by omega, fun _ => rfl, fun hp => by omega⟩
  · refine ⟨_, cap, hv, hc1, (fun h => by cases h), fun _ => ⟨g, 0, rfl, fun k hk => ?_⟩⟩
    have hat : ∀ j u, (nnc (l.getD k Nn.zero))[j]? = some u → w.cell? ⟨g, k * 2 + j, none⟩ = some u := fun j u hj => by
      have hj4 : j < 2 := (List.getElem?_eq_some_iff.1 hj).1
      rw [cell_of_row _ _ _ _ _ _ hg, ← Array.getElem?_toList]
      have h1 : (cur.toList.take (l.length * 2))[k * 2 + j]? = (cellsN l)[k * 2 + j]? := by rw [hc4]
      rw [List.getElem?_take_of_lt (by omega)] at h1
      rw [h1]
      exact cellsN_get l k hk j u hj
    rw [Nat.zero_add]
    exact ⟨hat 0 _ rfl, hat 1 _ rfl⟩
/-- Nonces that came in. -/
def NnsF (w : World) (v : Value) (l : List Nn) : Prop := NnsR w v l ∧ ∀ n ∈ l, n.fit
theorem NnsF.fit {w : World} {v : Value} {l : List Nn} (h : NnsF w v l) (k : Nat) (hk : k < l.length) : (l.getD k Nn.zero).fit := by
  refine h.2 _ ?_
  rw [List.getD_eq_getElem?_getD, List.getElem?_eq_getElem hk]
  exact List.getElem_mem hk
set_option maxRecDepth 100000 in
theorem nonce_in {H : Type} {enc : TypeId × Value → H} {W : World} {fuel : Nat} {cs : List Value} {x : DataW H × List MemPlace} (h : DataW.trod enc Tryd.prog W 0 (fun _ => true) true fuel 25 cs = some x) :
    ∃ a : Nn, cs = [.int .i64 a.b, .int .i64 a.c] ∧ a.fit := by
  obtain ⟨xs, n, -, -, hlen, hxl, hf⟩ := DataW.trod_struct Tryd.underlying25 h
  have hl3 : cs.length = 2 := hlen.trans (by kernel_rfl)
  have hx3 : xs.length = 2 := hxl
  match cs, hl3, xs, hx3 with
  | [c0, c1], _, [y0, y1], _ =>
    have g0 : DataW.trod enc Tryd.prog W 0 (fun _ => true) true n 3 [c0] = some y0 := hf 0 _ rfl
    have g1 : DataW.trod enc Tryd.prog W 0 (fun _ => true) true n 3 [c1] = some y1 := hf 1 _ rfl
    obtain ⟨s, e0, -, w0⟩ := DataW.trod_int Tryd.underlying3 g0
    obtain ⟨m, e1, -, w1⟩ := DataW.trod_int Tryd.underlying3 g1
    simp at e0 e1
    subst e0 e1
    exact ⟨⟨s, m⟩, rfl, lit_i64 s w0, lit_i64 m w1⟩
/-- What a window knows: the latest, and a bit a counter. -/
structure Ws where
  n : Nn
  t : BitVec 64
def Ws.zero : Ws := ⟨Nn.zero, 0#64⟩
end Go.Proofs.YtaoekfomffebhaaDoor
namespace Go.Proofs.YtaoekfomffebhaaDoor
open Go Go.RowKit
/-- Is it a boot? Is it a nonce? -/
def bootN (b : Int) : Bool := decide (1 ≤ b ∧ b ≤ 65535)
def okN (n : Nn) : Bool := bootN n.b && decide (1 ≤ n.c ∧ n.c ≤ 2147483647)
theorem okN_iff (n : Nn) : okN n = true ↔ 1 ≤ n.b ∧ n.b ≤ 65535 ∧ 1 ≤ n.c ∧ n.c ≤ 2147483647 := by
  unfold okN bootN
  rw [Bool.and_eq_true, decide_eq_true_eq, decide_eq_true_eq]
  exact ⟨fun h => ⟨h.1.1, h.1.2, h.2.1, h.2.2⟩, fun h => ⟨⟨h.1, h.2.1⟩, h.2.2.1, h.2.2.2⟩⟩
set_option maxRecDepth 100000 in
set_option maxHeartbeats 4000000 in
theorem boot_any (b : Int) (w : World) : Calls Tryd.prog 80 #[.int .i64 b] w fun e w' => e = .returned (.bool (bootN b)) ∧ w = w' := by
  by_cases h1 : 1 ≤ b
  · by_cases h2 : b ≤ 65535
    · have hd : decide (1 ≤ b) = true := decide_eq_true h1
      rw [show bootN b = true from decide_eq_true ⟨h1, h2⟩]
      go_enter Tryd.func80, Tryd.ntmps80
      go_wp2
      go_ret
      exact ⟨rfl, rfl⟩
    · have hd : decide (1 ≤ b) = true := decide_eq_true h1
      rw [show bootN b = false from decide_eq_false (fun h => h2 h.2)]
      go_enter Tryd.func80, Tryd.ntmps80
      go_wp2
      go_ret
      exact ⟨rfl, rfl⟩
  · rw [show bootN b = false from decide_eq_false (fun h => h1 h.1)]
    go_enter Tryd.func80, Tryd.ntmps80
    go_wp2
    go_ret
    exact ⟨rfl, rfl⟩
set_option maxRecDepth 100000 in
set_option maxHeartbeats 4000000 in
theorem check_any (n : Nn) (w : World) : Calls Tryd.prog 64 #[nv n] w fun e w' => e = .returned (.int .i64 (if okN n = true then 0 else 10)) ∧ Below w.heap.size w w' := by
  have HB := Bx.mk fun (W : World) => boot_any n.b W
  have HBl : Bx (Below w.heap.size w (w.alloc (.cells #[.int .i64 n.b, .int .i64 n.c] 31))) := Bx.mk (below_a _)
  obtain ⟨b, c⟩ := n
  unfold nv
  unfold okN
  simp only at HB HBl ⊢
  cases hb : bootN b with
  | false =>
    rw [hb] at HB
    rw [if_neg (by simp)]
    clear hb
    go_enter Tryd.func64, Tryd.ntmps64
    go_wp2_with fail
    refine (HB.out _).mono ?_
    rintro e w1 ⟨rfl, rfl⟩
    go_wp2
    go_ret
    exact ⟨rfl, HBl.out⟩
  | true =>
    rw [hb] at HB
    clear hb
    by_cases h1 : c < 1
    · rw [if_neg (by simp; omega)]
      have hd : decide (c < 1) = true := decide_eq_true h1
      go_enter Tryd.func64, Tryd.ntmps64
      go_wp2_with fail
      refine (HB.out _).mono ?_
      rintro e w1 ⟨rfl, rfl⟩
      go_wp2
      go_ret
      exact ⟨rfl, HBl.out⟩
    · by_cases h2 : 2147483647 < c
      · rw [if_neg (by simp; omega)]
        go_enter Tryd.func64, Tryd.ntmps64
        go_wp2_with fail
        refine (HB.out _).mono ?_
        rintro e w1 ⟨rfl, rfl⟩
        go_wp2
        go_ret
        exact ⟨rfl, HBl.out⟩
      · rw [if_pos (by simp; omega)]
        go_enter Tryd.func64, Tryd.ntmps64
        go_wp2_with fail
        refine (HB.out _).mono ?_
        rintro e w1 ⟨rfl, rfl⟩
        go_wp2
        go_ret
        exact ⟨rfl, HBl.out⟩
set_option maxRecDepth 100000 in
set_option maxHeartbeats 4000000 in
theorem to12_any (n : Nn) (w : World) : Calls Tryd.prog 24 #[nv n] w fun e w' => e = .returned (nv n) ∧ Below w.heap.size w w' := by
  obtain ⟨b, c⟩ := n
  have HBl : Bx (Below w.heap.size w ((w.alloc (.cells #[.int .i64 b, .int .i64 c] 25)).alloc (.cells #[.int .i64 b, .int .i64 c] 31))) := Bx.mk ((below_a _).trans ((below_a _).mono (by simp)))
  unfold nv
  go_enter Tryd.func24, Tryd.ntmps24
  go_wp2
  refine bodyPost_ret (results_cell_row rfl _ _ (w.heap.size + 1) _ _ _ _ rfl (hnew _ _ _ (by simp)) Tryd.underlying31 rfl (by kernel_rfl)) rfl ?_
  exact ⟨rfl, HBl.out⟩
end Go.Proofs.YtaoekfomffebhaaDoor
namespace Go.Proofs.YtaoekfomffebhaaDoor
open Go Go.ChangeShapes Go.WideShapes Go.ChangeAt Go.RowKit
/-- A packet. -/
structure Pk where
  k : Int
  c : Cl
  to : Int
  n : Nn
  b : List UInt8
  t : List UInt8
def clL (c : Cl) : List Value := [.int .i64 c.id, .int .i64 c.ro, .int .i64 c.ex, .int .i64 c.se]
def nnL (n : Nn) : List Value := [.int .i64 n.b, .int .i64 n.c]
/-- Its cells: the kind, the claims' four, the place, the nonce's two, the body's slice, the tag's bytes. -/
def pkL (x : Pk) (v : Value) : List Value := .int .i64 x.k :: (clL x.c ++ (.int .i64 x.to :: (nnL x.n ++ (v :: (u8s x.t).toList))))
def pkC (x : Pk) (v : Value) : Array Value := (pkL x v).toArray
def pkV (x : Pk) (v : Value) : Value := .agg (pkC x v)
def z32P : List UInt8 := List.replicate 32 0
def Pk.zero : Pk := ⟨0, ⟨0, 0, 0, 0⟩, 0, Nn.zero, [], z32P⟩
theorem pkL_len (x : Pk) (v : Value) (h : x.t.length = 32) : (pkL x v).length = 41 := by
  have h32 : (u8s x.t).toList.length = 32 := by rw [Array.length_toList, u8s_size, h]
  simp [pkL, clL, nnL, h32]
theorem pkC_size (x : Pk) (v : Value) (h : x.t.length = 32) : (pkC x v).size = 41 := by unfold pkC; rw [List.size_toArray, pkL_len x v h]
theorem pkC_one (x : Pk) (a : Option Addr) (n c : Nat) : (pkC x (.slice a n c)).all (·.oneCell') = true := by
  unfold pkC
  refine Go.all_oneCell_toArray ?_
  intro u hu
  simp only [pkL, clL, nnL, List.mem_cons, List.mem_append, List.not_mem_nil, or_false] at hu
  rcases hu with rfl | (rfl | rfl | rfl | rfl) | rfl | (rfl | rfl) | rfl | hu
  all_goals try rfl
  rw [u8s, List.toList_toArray] at hu
  obtain ⟨q, -, rfl⟩ := List.mem_map.1 hu
  rfl
theorem pk_infoW (x : Pk) (v : Value) (h : x.t.length = 32) : (Tryd.prog.info? 33).map (·.size) = some (pkC x v).size := by rw [pkC_size x v h]; kernel_rfl
theorem pk_infoR (x : Pk) (v : Value) (h : x.t.length = 32) : (Tryd.prog.info? 29).map (·.size) = some (pkC x v).size := by rw [pkC_size x v h]; kernel_rfl
theorem u8_info (l : List UInt8) (h : l.length = 32) : (Tryd.prog.info? 27).map (·.size) = some (u8s l).toList.length := by rw [Array.length_toList, u8s_size, h]; kernel_rfl
/-- The parts of a packet in a block. -/
structure PkAt (W : World) (q : Nat) (x : Pk) (v : Value) : Prop where
  k : W.cell? ⟨q, 0, none⟩ = some (.int .i64 x.k)
  c : W.rangeAt q 1 [.int .i64 x.c.id, .int .i64 x.c.ro, .int .i64 x.c.ex, .int .i64 x.c.se]
  to : W.cell? ⟨q, 5, none⟩ = some (.int .i64 x.to)
  n : W.rangeAt q 6 [.int .i64 x.n.b, .int .i64 x.n.c]
  n0 : W.cell? ⟨q, 6, none⟩ = some (.int .i64 x.n.b)
  n1 : W.cell? ⟨q, 7, none⟩ = some (.int .i64 x.n.c)
  b : W.cell? ⟨q, 8, none⟩ = some v
  t : W.rangeAt q 9 (u8s x.t).toList
theorem pk_at {W : World} {q : Nat} {T : TypeId} {x : Pk} {v : Value} (h : W.heap[q]? = some (.cells (pkC x v) T (0, 0))) : PkAt W q x v := by
  have hc : ∀ i u, (pkL x v)[i]? = some u → W.cell? ⟨q, i, none⟩ = some u := fun i u hu => by
    rw [cell_of_row _ _ _ _ _ _ h]
    unfold pkC
    rw [List.getElem?_toArray]
    exact hu
  refine ⟨hc 0 _ rfl, ?_, hc 5 _ rfl, ?_, hc 6 _ rfl, hc 7 _ rfl, hc 8 _ rfl, ?_⟩
  · intro j u hj
    have h4 : j < 4 := (List.getElem?_eq_some_iff.1 hj).1
    match j, h4 with
    | 0, _ => exact hc 1 _ hj
    | 1, _ => exact hc 2 _ hj
    | 2, _ => exact hc 3 _ hj
    | 3, _ => exact hc 4 _ hj
  · intro j u hj
    have h4 : j < 2 := (List.getElem?_eq_some_iff.1 hj).1
    match j, h4 with
    | 0, _ => exact hc 6 _ hj
    | 1, _ => exact hc 7 _ hj
  · intro j u hj
    refine hc (9 + j) u ?_
    rw [show 9 + j = j + 9 by omega]
    exact hj
/-- A packet in block B, made in a world of B blocks; all below stays. -/
structure PB (w : World) (B : Nat) (T : TypeId) (x : Pk) (v : Value) (W : World) : Prop where
  row : W.heap[B]? = some (.cells (pkC x v) T (0, 0))
  below : Below B w W
theorem PB.new {w : World} {B : Nat} (hB : w.heap.size = B) (T : TypeId) (x : Pk) (v : Value) : PB w B T x v (w.alloc (.cells (pkC x v) T)) := ⟨hnew _ _ _ hB.symm, by rw [← hB]; exact below_a _⟩
theorem PB.lt {w : World} {B : Nat} {T : TypeId} {x : Pk} {v : Value} {W : World} (h : PB w B T x v W) : B < W.heap.size := (Array.getElem?_eq_some_iff.1 h.row).1
theorem PB.later {w : World} {B : Nat} {T : TypeId} {x : Pk} {v : Value} {W W1 : World} (h : PB w B T x v W) (hb : Below W.heap.size W W1) : PB w B T x v W1 :=
  ⟨(hb.block B h.lt).trans h.row, h.below.trans (hb.mono (Nat.le_of_lt h.lt))⟩
theorem PB.at {w : World} {B : Nat} {T : TypeId} {x : Pk} {v : Value} {W : World} (h : PB w B T x v W) : PkAt W B x v := pk_at h.row
theorem PB.body {w : World} {B : Nat} {T : TypeId} {x : Pk} {v u : Value} {l : List UInt8} {W : World} (h : PB w B T x v W) (hB : w.heap.size = B) (hb : Bytes w u l) : Bytes W u l := hb.old hB h.below
end Go.Proofs.YtaoekfomffebhaaDoor
