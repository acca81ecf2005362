/-
  Claims: what follows of their order and of their texts.
-/
import Derived.Test.YtiomjknhlfhlhaaDoorDb
namespace Go.Proofs.YtiomjknhlfhlhaaDoor
open Go Go.RowKit
/-- The number of digits. -/
def dval (l : List UInt8) : Nat := l.foldl (fun a c => a * 10 + (c.toNat - 48)) 0
theorem dec_all (u : Nat) : dval (Lib.decDigits u) = u ∧ ∀ c ∈ Lib.decDigits u, 48 ≤ c.toNat ∧ c.toNat ≤ 57 := by
  induction u using Nat.strongRecOn with
  | ind u ih =>
    rw [Lib.decDigits]
    by_cases h : u < 10
    · rw [dif_pos h]
      have e : (UInt8.ofNat (48 + u)).toNat = 48 + u := by rw [UInt8.toNat_ofNat']; omega
      refine ⟨by simp only [dval, List.foldl_cons, List.foldl_nil]; rw [e]; omega, fun c hc => ?_⟩
      rw [List.mem_singleton] at hc
      subst hc
      rw [e]
      omega
    · rw [dif_neg h]
      obtain ⟨h1, h2⟩ := ih (u / 10) (by omega)
      have e : (UInt8.ofNat (48 + u % 10)).toNat = 48 + u % 10 := by rw [UInt8.toNat_ofNat']; omega
      refine ⟨?_, fun c hc => ?_⟩
      · unfold dval at h1 ⊢
        rw [List.foldl_append, h1, List.foldl_cons, List.foldl_nil, e]
        omega
      · rcases List.mem_append.1 hc with hc | hc
        · exact h2 c hc
        · rw [List.mem_singleton] at hc
          subst hc
          rw [e]
          omega
theorem dec_inj {u v : Nat} (h : Lib.decDigits u = Lib.decDigits v) : u = v := by
  rw [← (dec_all u).1, ← (dec_all v).1, h]
theorem dec_ne (u : Nat) (t : List UInt8) : Lib.decDigits u ≠ 45 :: t := fun h => by
  have := (dec_all u).2 45 (by rw [h]; exact List.mem_cons_self)
  have e : (45 : UInt8).toNat = 45 := rfl
  omega
theorem itoa_inj {n m : Int} (h : Lib.itoa n = Lib.itoa m) : n = m := by
  unfold Lib.itoa at h
  by_cases h1 : n < 0 <;> by_cases h2 : m < 0
  · rw [if_pos h1, if_pos h2] at h
    injection h with _ h
    have := dec_inj h
    omega
  · rw [if_pos h1, if_neg h2] at h
    exact absurd h.symm (dec_ne _ _)
  · rw [if_neg h1, if_pos h2] at h
    exact absurd h (dec_ne _ _)
  · rw [if_neg h1, if_neg h2] at h
    have := dec_inj h
    omega
theorem itoa_no (n : Int) : ∀ c ∈ Lib.itoa n, c ≠ 32 := fun c hc e => by
  subst e
  unfold Lib.itoa at hc
  have e : (32 : UInt8).toNat = 32 := rfl
  by_cases h : n < 0
  · rw [if_pos h] at hc
    rcases List.mem_cons.1 hc with hc | hc
    · exact absurd hc (by decide)
    · have := (dec_all _).2 _ hc
      omega
  · rw [if_neg h] at hc
    have := (dec_all _).2 _ hc
    omega
theorem split_blank : ∀ (a a' t t' : List UInt8), (∀ c ∈ a, c ≠ 32) → (∀ c ∈ a', c ≠ 32) → a ++ 32 :: t = a' ++ 32 :: t' → a = a' ∧ t = t' := by
  intro a
  induction a with
  | nil =>
    intro a' t t' _ h2 h
    match a', h2, h with
    | [], _, h => exact ⟨rfl, by simpa using h⟩
    | x :: a', h2, h =>
      simp at h
      exact absurd h.1.symm (h2 x List.mem_cons_self)
  | cons y a ih =>
    intro a' t t' h1 h2 h
    match a', h2, h with
    | [], _, h =>
      simp at h
      exact absurd h.1 (h1 y List.mem_cons_self)
    | x :: a', h2, h =>
      simp only [List.cons_append, List.cons.injEq] at h
      obtain ⟨e1, e2⟩ := ih a' t t' (fun c hc => h1 c (List.mem_cons_of_mem _ hc)) (fun c hc => h2 c (List.mem_cons_of_mem _ hc)) h.2
      exact ⟨by rw [h.1, e1], e2⟩
theorem textL_eq (i r x s : Int) : textL i r x s = Lib.itoa i ++ 32 :: (Lib.itoa r ++ 32 :: (Lib.itoa x ++ 32 :: Lib.itoa s)) := by
  unfold textL
  rw [Lib.join_cons]
  simp [Lib.joinTail]
theorem textL_inj {i r x s i' r' x' s' : Int} (h : textL i r x s = textL i' r' x' s') : i = i' ∧ r = r' ∧ x = x' ∧ s = s' := by
  rw [textL_eq, textL_eq] at h
  obtain ⟨e1, h⟩ := split_blank _ _ _ _ (itoa_no _) (itoa_no _) h
  obtain ⟨e2, h⟩ := split_blank _ _ _ _ (itoa_no _) (itoa_no _) h
  obtain ⟨e3, h⟩ := split_blank _ _ _ _ (itoa_no _) (itoa_no _) h
  exact ⟨itoa_inj e1, itoa_inj e2, itoa_inj e3, itoa_inj h⟩
theorem text_same (i r x s i' r' x' s' : Int) : decide ((⟨(textL i r x s).toArray⟩ : ByteArray) = ⟨(textL i' r' x' s').toArray⟩) = sameC ⟨i, r, x, s⟩ ⟨i', r', x', s'⟩ := by
  rw [Bool.eq_iff_iff, sameC_iff]
  simp only [decide_eq_true_eq]
  constructor
  · intro h
    injection h with h
    have h := congrArg Array.toList h
    simp only [List.toList_toArray] at h
    obtain ⟨rfl, rfl, rfl, rfl⟩ := textL_inj h
    rfl
  · intro h
    injection h with e1 e2 e3 e4
    subst e1 e2 e3 e4
    rfl
/-- The order, in plain words. -/
theorem cmpC_neg (a b : Cl) : decide (cmpC a b < 0) = lessC a b := by
  obtain ⟨p1, p3, p2, p0⟩ := a
  obtain ⟨q1, q3, q2, q0⟩ := b
  unfold cmpC lessC or4 less4 sg
  simp only
  rw [Bool.eq_iff_iff]
  rcases Int.lt_trichotomy p0 q0 with h0 | h0 | h0
  · simp [h0, Int.ne_of_lt h0]
  · subst h0
    rcases Int.lt_trichotomy p1 q1 with h1 | h1 | h1
    · simp [h1, Int.ne_of_lt h1]
    · subst h1
      rcases Int.lt_trichotomy p2 q2 with h2 | h2 | h2
      · simp [h2, Int.ne_of_lt h2]
      · subst h2
        rcases Int.lt_trichotomy p3 q3 with h3 | h3 | h3
        · simp [h3, Int.ne_of_lt h3]
        · subst h3
          simp
        · simp [h3, Int.ne_of_gt h3, Int.not_lt.mpr (Int.le_of_lt h3)]
      · simp [h2, Int.ne_of_gt h2, Int.not_lt.mpr (Int.le_of_lt h2)]
    · simp [h1, Int.ne_of_gt h1, Int.not_lt.mpr (Int.le_of_lt h1)]
  · simp [h0, Int.ne_of_gt h0, Int.not_lt.mpr (Int.le_of_lt h0)]
theorem sg_flip (x y : Int) : sg y x = - sg x y := by
  unfold sg
  repeat' split
  all_goals omega
theorem cmpC_flip (a b : Cl) : cmpC b a = - cmpC a b := by
  unfold cmpC or4
  rw [sg_flip a.se b.se, sg_flip a.id b.id, sg_flip a.ex b.ex, sg_flip a.ro b.ro]
  by_cases h0 : sg a.se b.se = 0 <;> by_cases h1 : sg a.id b.id = 0 <;> by_cases h2 : sg a.ex b.ex = 0 <;> simp [h0, h1, h2]
theorem cmpC_pos (a b : Cl) : decide (0 < cmpC a b) = lessC b a := by
  rw [← cmpC_neg, cmpC_flip a b, Bool.eq_iff_iff]
  simp only [decide_eq_true_eq]
  omega
theorem sg_zero (x y : Int) : sg x y = 0 ↔ x = y := by
  unfold sg
  by_cases h1 : x < y
  · rw [if_pos h1]; omega
  · rw [if_neg h1]
    by_cases h2 : y < x
    · rw [if_pos h2]; omega
    · rw [if_neg h2]; omega
theorem cmpC_zero (a b : Cl) : decide (cmpC a b = 0) = sameC a b := by
  rw [Bool.eq_iff_iff, sameC_iff]
  obtain ⟨p1, p3, p2, p0⟩ := a
  obtain ⟨q1, q3, q2, q0⟩ := b
  unfold cmpC or4
  simp only [decide_eq_true_eq, Cl.mk.injEq]
  have z0 := sg_zero p0 q0
  have z1 := sg_zero p1 q1
  have z2 := sg_zero p2 q2
  have z3 := sg_zero p3 q3
  by_cases h0 : sg p0 q0 = 0 <;> by_cases h1 : sg p1 q1 = 0 <;> by_cases h2 : sg p2 q2 = 0 <;> simp [h0, h1, h2] at z0 z1 z2 ⊢ <;> omega
theorem lessC_iff (p0 p1 p2 p3 q0 q1 q2 q3 : Int) : lessC ⟨p1, p3, p2, p0⟩ ⟨q1, q3, q2, q0⟩ = true ↔ (p0 < q0 ∨ (p0 = q0 ∧ (p1 < q1 ∨ (p1 = q1 ∧ (p2 < q2 ∨ (p2 = q2 ∧ p3 < q3)))))) := by
  unfold lessC less4
  simp only
  by_cases a0 : p0 = q0
  · rw [if_neg (by simp [a0])]
    by_cases a1 : p1 = q1
    · rw [if_neg (by simp [a1])]
      by_cases a2 : p2 = q2
      · rw [if_neg (by simp [a2])]
        by_cases a3 : p3 = q3
        · rw [if_neg (by simp [a3])]
          simp only [Bool.false_eq_true, false_iff]
          omega
        · rw [if_pos a3, decide_eq_true_eq]
          omega
      · rw [if_pos a2, decide_eq_true_eq]
        omega
    · rw [if_pos a1, decide_eq_true_eq]
      omega
  · rw [if_pos a0, decide_eq_true_eq]
    omega
theorem less_trans (a b c : Cl) (h : lessC a b = true) (k : lessC b c = true) : lessC a c = true := by
  obtain ⟨p1, p3, p2, p0⟩ := a
  obtain ⟨q1, q3, q2, q0⟩ := b
  obtain ⟨r1, r3, r2, r0⟩ := c
  rw [lessC_iff] at *
  omega
end Go.Proofs.YtiomjknhlfhlhaaDoor
