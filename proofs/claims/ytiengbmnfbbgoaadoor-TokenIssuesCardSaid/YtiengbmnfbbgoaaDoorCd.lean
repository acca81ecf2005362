/-
  Claims: what follows of masks.
-/
import Derived.Test.YtiengbmnfbbgoaaDoorCc
namespace Go.Proofs.YtiengbmnfbbgoaaDoor
open Go Go.RowKit
theorem fold_or (ns : List Int) : ∀ m : Nat, ns.foldl (fun m r => m ||| 2 ^ r.toNat) m = m ||| mkN ns := by
  induction ns with
  | nil => intro m; simp [mkN]
  | cons r ns ih =>
    intro m
    unfold mkN
    rw [List.foldl_cons, List.foldl_cons, ih, ih (0 ||| 2 ^ r.toNat), Nat.zero_or, Nat.or_assoc]
theorem mkN_append (a b : List Int) : mkN (a ++ b) = mkN a ||| mkN b := by
  show (a ++ b).foldl _ 0 = _
  rw [List.foldl_append]
  exact fold_or b _
theorem roles_back : ∀ x, x < 256 → mkN (rolesK x 8) = x ∧ (rolesK x 8).all isR = true := by decide +kernel
theorem cov_self (x : Nat) : covN x x = true := by simp [covN]
theorem cov_anti {x y : Nat} (h : covN x y = true) (k : covN y x = true) : x = y := by
  simp [covN] at h k
  rw [Nat.and_comm] at k
  rw [← h, k]
theorem cov_trans {x y z : Nat} (h : covN x y = true) (k : covN y z = true) : covN x z = true := by
  simp [covN] at h k ⊢
  rw [← k, ← Nat.and_assoc, h]
theorem cov_left (x y : Nat) : covN (x ||| y) x = true := by
  simp only [covN, decide_eq_true_eq]
  apply Nat.eq_of_testBit_eq
  intro i
  simp only [Nat.testBit_and, Nat.testBit_or]
  cases x.testBit i <;> simp
theorem cov_right (x y : Nat) : covN (x ||| y) y = true := by rw [Nat.or_comm]; exact cov_left y x
theorem cov_or {x y z : Nat} (h : covN z x = true) (k : covN z y = true) : covN z (x ||| y) = true := by
  simp only [covN, decide_eq_true_eq] at h k ⊢
  rw [Nat.and_or_distrib_left, h, k]
/-- A number's last eight bits. -/
theorem low8 (a : Int) : ∃ x : Nat, x < 256 ∧ wrap64 ((IntKind.u64.wrap a).tmod 256) = (x : Int) := by
  have h0 : 0 ≤ IntKind.u64.wrap a := by rw [IntKind.wrap_u64]; omega
  rw [Int.tmod_eq_emod_of_nonneg h0]
  generalize IntKind.u64.wrap a = z at h0
  refine ⟨(z % 256).toNat, by omega, ?_⟩
  rw [IntWalk.wrap64_in _ (by omega)]
  omega
theorem mask_ok (ns : List Int) (v : Value) (w : World) (hv : Ints w v ns) (hl : ns.length ≤ 1000000) (ha : ns.all isR = true) :
    Calls Tryd.prog 47 #[v] w fun e w' => e = .returned (.tuple #[.int .i64 (mkN ns : Int), .int .i64 0]) ∧ w' = w := by
  have h := mask_any ns v w hv hl
  rw [if_pos ha] at h
  exact h
theorem mask_bad (ns : List Int) (v : Value) (w : World) (hv : Ints w v ns) (hl : ns.length ≤ 1000000) (ha : ns.all isR = false) :
    Calls Tryd.prog 47 #[v] w fun e w' => e = .returned (.tuple #[.int .i64 0, .int .i64 10]) ∧ w' = w := by
  have h := mask_any ns v w hv hl
  rw [if_neg (by rw [ha]; simp)] at h
  exact h
end Go.Proofs.YtiengbmnfbbgoaaDoor
