/-
  DeltaMeets: what is answered of a longer beginning, and what is gained by it.
-/
import Derived.Test.YtnfgamekjbkbkaaDoorD18
import Derived.Test.YtnfgamekjbkbkaaDoorJa
namespace Go.Proofs.YtnfgamekjbkbkaaDoor
open Go Go.RowKit
def N4.min (n m : N4) : N4 := ⟨Nat.min n.a m.a, Nat.min n.b m.b, Nat.min n.c m.c, Nat.min n.d m.d⟩
/-- How many serials one lacks of what the other has. -/
def gapN (i j : N4) : Nat := (j.a - i.a) + (j.b - i.b) + (j.c - i.c) + (j.d - i.d)
theorem gap_cov {i j : N4} : covV i.v j.v = true ↔ gapN i j = 0 := by
  unfold covV N4.v gapN
  simp only [decide_eq_true_iff]
  omega
theorem part_drop (L : List Int) (j m t : Nat) (h : m + t ≤ j) : ((L.take j).drop m).take t = (L.take (m + t)).drop m := by
  rw [List.take_drop, List.take_take, Nat.min_eq_left h]
theorem fN_pre (L : List Int) (i j : Nat) (hj : j ≤ L.length) : fN (i : Int) (L.take j) = Nat.min i j := by
  unfold fN
  rw [List.length_take, Int.toNat_natCast, Nat.min_eq_left hj]
theorem tN_pre (L : List Int) (i j n : Nat) (hj : j ≤ L.length) : tN (i : Int) (L.take j) n = Nat.min (j - i) n := by
  unfold tN
  rw [fN_pre L i j hj, List.length_take, Nat.min_eq_left hj, show j - Nat.min i j = j - i by have : Nat.min i j = min i j := rfl; omega]
theorem low_min (i j : N4) : lowV i.v j.v = (i.min j).v := by
  unfold lowV N4.v N4.min
  have h : ∀ a b : Nat, min (a : Int) (b : Int) = ((Nat.min a b : Nat) : Int) := fun a b => by have : Nat.min a b = min a b := rfl; omega
  simp only [h]
theorem cnt_pre {L : L4} {i : N4} (h : i.Le L.len) : cntL (L.pre i) = i.a + i.b + i.c + i.d := by
  obtain ⟨h1, h2, h3, h4⟩ := h
  unfold L4.len at *
  simp only at h1 h2 h3 h4
  unfold cntL L4.pre
  simp only [List.length_take, Nat.min_eq_left h1, Nat.min_eq_left h2, Nat.min_eq_left h3, Nat.min_eq_left h4]
theorem max_min_add (i j t : Nat) (h : t ≤ j - i) : Nat.max i (Nat.min i j + t) = i + t ∧ Nat.min i j + t ≤ j := by
  have m : Nat.min i j = min i j := rfl
  have M : Nat.max i (min i j + t) = max i (min i j + t) := rfl
  rw [m, M]
  omega
theorem sum_two (A B n : Nat) : min A n + min B (n - min A n) = min (A + B) n := by omega
theorem sum_four (A B C D n t1 t2 t3 t4 : Nat) (h1 : min A n = t1) (h2 : min B (n - t1) = t2) (h3 : min C (n - t1 - t2) = t3) (h4 : min D (n - t1 - t2 - t3) = t4) : t1 + t2 + t3 + t4 = min n (A + B + C + D) := by
  have e2 : t1 + t2 = min (A + B) n := by rw [← h2, ← h1]; exact sum_two A B n
  rw [show n - t1 - t2 = n - (t1 + t2) by omega, e2] at h3
  have e3 : t1 + t2 + t3 = min (A + B + C) n := by rw [e2, ← h3]; exact sum_two (A + B) C n
  rw [show n - t1 - t2 - t3 = n - (t1 + t2 + t3) by omega, e3] at h4
  rw [e3, ← h4, sum_two (A + B + C) D n, Nat.min_comm]
/-- An answer is of a beginning, and tells something where there is something to tell. -/
theorem ans_gain (L : L4) (i j : N4) (n : Nat) (hi : i.Le L.len) (hj : j.Le L.len) :
    ∃ k : N4, k.Le j ∧ (i.min j).Le k ∧ (i.max k).Le L.len ∧ ansL (L.pre j) i.v n = (L.pre k).from_ (i.min j) ∧ cntL (L.pre (i.max k)) = cntL (L.pre i) + min n (gapN i j) ∧ gapN (i.max k) j + min n (gapN i j) = gapN i j := by
  have hi' := hi
  obtain ⟨i1, i2, i3, i4⟩ := hi
  obtain ⟨j1, j2, j3, j4⟩ := hj
  unfold L4.len at *
  simp only at i1 i2 i3 i4 j1 j2 j3 j4
  have e1 := tN_pre L.a i.a j.a n j1
  obtain ⟨t1, h1⟩ : ∃ t, Nat.min (j.a - i.a) n = t := ⟨_, rfl⟩
  rw [h1] at e1
  have e2 := tN_pre L.b i.b j.b (n - t1) j2
  obtain ⟨t2, h2⟩ : ∃ t, Nat.min (j.b - i.b) (n - t1) = t := ⟨_, rfl⟩
  rw [h2] at e2
  have e3 := tN_pre L.c i.c j.c (n - t1 - t2) j3
  obtain ⟨t3, h3⟩ : ∃ t, Nat.min (j.c - i.c) (n - t1 - t2) = t := ⟨_, rfl⟩
  rw [h3] at e3
  have e4 := tN_pre L.d i.d j.d (n - t1 - t2 - t3) j4
  obtain ⟨t4, h4⟩ : ∃ t, Nat.min (j.d - i.d) (n - t1 - t2 - t3) = t := ⟨_, rfl⟩
  rw [h4] at e4
  have hs := sum_four _ _ _ _ n t1 t2 t3 t4 h1 h2 h3 h4
  have b1 : t1 ≤ j.a - i.a := h1 ▸ Nat.min_le_left _ _
  have b2 : t2 ≤ j.b - i.b := h2 ▸ Nat.min_le_left _ _
  have b3 : t3 ≤ j.c - i.c := h3 ▸ Nat.min_le_left _ _
  have b4 : t4 ≤ j.d - i.d := h4 ▸ Nat.min_le_left _ _
  clear h1 h2 h3 h4
  obtain ⟨x1, s1⟩ := max_min_add i.a j.a t1 b1
  obtain ⟨x2, s2⟩ := max_min_add i.b j.b t2 b2
  obtain ⟨x3, s3⟩ := max_min_add i.c j.c t3 b3
  obtain ⟨x4, s4⟩ := max_min_add i.d j.d t4 b4
  have hk : (i.max ⟨Nat.min i.a j.a + t1, Nat.min i.b j.b + t2, Nat.min i.c j.c + t3, Nat.min i.d j.d + t4⟩) = ⟨i.a + t1, i.b + t2, i.c + t3, i.d + t4⟩ := by
    unfold N4.max
    simp only [x1, x2, x3, x4]
  have up : ∀ a b t n : Nat, a ≤ n → b ≤ n → t ≤ b - a → a + t ≤ n := fun a b t n h1 h2 h3 => by omega
  have hl : N4.Le ⟨i.a + t1, i.b + t2, i.c + t3, i.d + t4⟩ L.len := ⟨up _ _ _ _ i1 j1 b1, up _ _ _ _ i2 j2 b2, up _ _ _ _ i3 j3 b3, up _ _ _ _ i4 j4 b4⟩
  refine ⟨⟨Nat.min i.a j.a + t1, Nat.min i.b j.b + t2, Nat.min i.c j.c + t3, Nat.min i.d j.d + t4⟩, ⟨s1, s2, s3, s4⟩, ⟨Nat.le_add_right _ _, Nat.le_add_right _ _, Nat.le_add_right _ _, Nat.le_add_right _ _⟩, by rw [hk]; exact hl, ?_, ?_, ?_⟩
  · unfold ansL L4.pre L4.from_ N4.v N4.min
    simp only
    rw [e1, e2, e3, e4, fN_pre _ _ _ j1, fN_pre _ _ _ j2, fN_pre _ _ _ j3, fN_pre _ _ _ j4, part_drop _ _ _ _ s1, part_drop _ _ _ _ s2, part_drop _ _ _ _ s3, part_drop _ _ _ _ s4]
  · rw [hk, cnt_pre hl, cnt_pre hi']
    unfold gapN
    rw [← hs]
    simp only
    clear hs hl hk e1 e2 e3 e4 x1 x2 x3 x4 s1 s2 s3 s4 b1 b2 b3 b4 i1 i2 i3 i4 j1 j2 j3 j4 up
    omega
  · rw [hk]
    unfold gapN
    rw [← hs]
    simp only
    clear hs hl hk e1 e2 e3 e4 x1 x2 x3 x4 s1 s2 s3 s4 i1 i2 i3 i4 j1 j2 j3 j4 hi' up
    have sb : ∀ a b t : Nat, t ≤ b - a → b - (a + t) + t = b - a := fun a b t h => by omega
    have q1 := sb _ _ _ b1
    have q2 := sb _ _ _ b2
    have q3 := sb _ _ _ b3
    have q4 := sb _ _ _ b4
    omega
/-- A round: an answer, applied. -/
theorem meet_step {L : L4} (hg : Good L) (hd : NoDup L) (i j : N4) (n : Nat) (hi : i.Le L.len) (hj : j.Le L.len) :
    ∃ k : N4, k.Le L.len ∧ applyL (L.pre i) (lowV i.v j.v) (ansL (L.pre j) i.v n) = (((min n (gapN i j) : Nat) : Int), 0, L.pre k) ∧ gapN k j + min n (gapN i j) = gapN i j := by
  obtain ⟨k, h1, h2, h3, h4, h5, h6⟩ := ans_gain L i j n hi hj
  have hm : (i.min j).Le i := ⟨Nat.min_le_left _ _, Nat.min_le_left _ _, Nat.min_le_left _ _, Nat.min_le_left _ _⟩
  refine ⟨i.max k, h3, ?_, h6⟩
  rw [low_min, h4, applyL_pre hg hd i k (i.min j) hi ⟨Nat.le_trans h1.a hj.a, Nat.le_trans h1.b hj.b, Nat.le_trans h1.c hj.c, Nat.le_trans h1.d hj.d⟩ hm h2, h5]
  congr 1
  omega
end Go.Proofs.YtnfgamekjbkbkaaDoor
