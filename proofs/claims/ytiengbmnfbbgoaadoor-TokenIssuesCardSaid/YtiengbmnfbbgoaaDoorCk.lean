/-
  Claims: the walks of the document's Bit and Covers, and of Has.
-/
import Derived.Test.YtiengbmnfbbgoaaDoorCd
import Derived.Test.YtiengbmnfbbgoaaDoorCf
namespace Go.Proofs.YtiengbmnfbbgoaaDoor
open Go Go.RowKit
/-- Has a mask a role? -/
def bitN (m r : Nat) : Bool := decide (m / 2 ^ r % 2 = 1)
theorem bitN_test (m r : Nat) : bitN m r = m.testBit r := by
  unfold bitN
  rw [Nat.testBit_eq_decide_div_mod_eq]
theorem bitN_cov (m r : Nat) : covN m (2 ^ r) = bitN m r := by
  rw [bitN_test, Bool.eq_iff_iff]
  unfold covN
  simp only [decide_eq_true_eq]
  constructor
  · intro h
    have := congrArg (fun z => z.testBit r) h
    simp only [Nat.testBit_and, Nat.testBit_two_pow_self, Bool.and_true] at this
    exact this
  · intro h
    apply Nat.eq_of_testBit_eq
    intro i
    rw [Nat.testBit_and, Nat.testBit_two_pow]
    by_cases hi : r = i
    · subst hi; simp [h]
    · simp [hi]
theorem half (m k : Nat) : m / 2 ^ k / 2 = m / 2 ^ (k + 1) := by rw [Nat.div_div_eq_div_mul, Nat.pow_succ]
/-- Are a mask's roles below a number another one's too? -/
def allB (x y k : Nat) : Bool := (List.range k).all fun j => !bitN y j || bitN x j
theorem allB_succ (x y k : Nat) : allB x y (k + 1) = (allB x y k && (!bitN y k || bitN x k)) := by
  unfold allB
  rw [List.range_succ, List.all_append]
  simp
theorem allB_false (x y k n : Nat) (hk : k < n) (h1 : bitN y k = true) (h2 : bitN x k = false) : allB x y n = false := by
  unfold allB
  rw [List.all_eq_false]
  exact ⟨k, List.mem_range.mpr hk, by simp [h1, h2]⟩
theorem allB_cov (x y : Nat) (hy : y < 256) : allB x y 8 = covN x y := by
  rw [Bool.eq_iff_iff]
  unfold allB covN
  simp only [List.all_eq_true, List.mem_range, decide_eq_true_eq, Bool.or_eq_true, Bool.not_eq_true', bitN_test]
  constructor
  · intro h
    apply Nat.eq_of_testBit_eq
    intro i
    rw [Nat.testBit_and]
    by_cases hi : i < 8
    · rcases h i hi with h | h
      · simp [h]
      · simp [h]
    · have : y.testBit i = false := Nat.testBit_lt_two_pow (Nat.lt_of_lt_of_le hy (Nat.pow_le_pow_right (n := 2) (i := 8) (by omega) (by omega)))
      simp [this]
  · intro h i _
    have := congrArg (fun z => z.testBit i) h
    simp only [Nat.testBit_and] at this
    cases hy : y.testBit i <;> simp_all
/-- Has a mask each of these roles? -/
def hasL (x : Nat) (ns : List Int) : Bool := ns.all fun r => isR r && bitN x r.toNat
theorem hasL_is (x : Nat) (ns : List Int) : hasL x ns = (ns.all isR && covN x (mkN ns)) := by
  rw [Bool.eq_iff_iff]
  unfold hasL
  induction ns with
  | nil => simp [mkN, covN]
  | cons r ns ih =>
    have hm : mkN (r :: ns) = 2 ^ r.toNat ||| mkN ns := by
      show (r :: ns).foldl _ 0 = _
      rw [List.foldl_cons, Nat.zero_or]
      exact fold_or ns _
    simp only [List.all_cons, Bool.and_eq_true] at ih ⊢
    rw [ih, hm]
    constructor
    · rintro ⟨⟨h1, h2⟩, h3, h4⟩
      exact ⟨⟨h1, h3⟩, cov_or (by rw [bitN_cov]; exact h2) h4⟩
    · rintro ⟨⟨h1, h3⟩, h4⟩
      exact ⟨⟨h1, by rw [← bitN_cov]; exact cov_trans h4 (cov_left _ _)⟩, h3, cov_trans h4 (cov_right _ _)⟩
theorem mk_bits (ns : List Int) (h : ns.all isR = true) (r : Nat) : bitN (mkN ns) r = ns.any fun z => decide (z = (r : Int)) := by
  rw [bitN_test]
  induction ns with
  | nil => simp [mkN]
  | cons z ns ih =>
    have hm : mkN (z :: ns) = 2 ^ z.toNat ||| mkN ns := by
      show (z :: ns).foldl _ 0 = _
      rw [List.foldl_cons, Nat.zero_or]
      exact fold_or ns _
    simp only [List.all_cons, Bool.and_eq_true] at h
    rw [hm, Nat.testBit_or, ih h.2, List.any_cons, Nat.testBit_two_pow]
    congr 1
    have hz := h.1
    simp [isR] at hz
    rw [Bool.eq_iff_iff]
    simp only [decide_eq_true_eq]
    omega
theorem roles_at : ∀ x, x < 256 → ∀ r, r < 8 → bitN x r = true → (rolesK x 8).getD (rolesK x r).length 0 = (r : Int) ∧ (rolesK x r).length < (rolesK x 8).length := by decide +kernel
theorem rolesK_bit (x k : Nat) : (rolesK x (k + 1)).length = (rolesK x k).length + if bitN x k = true then 1 else 0 := by
  rw [rolesK_succ, List.length_append, bitN_cov]
  split <;> simp
end Go.Proofs.YtiengbmnfbbgoaaDoor
