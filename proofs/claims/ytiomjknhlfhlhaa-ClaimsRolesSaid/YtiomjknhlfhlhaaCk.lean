/-
  Claims: the walks of the document's Bit and Covers, and of Has.
-/
import Derived.Test.YtiomjknhlfhlhaaCd
import Derived.Test.YtiomjknhlfhlhaaCf
namespace Go.Proofs.Ytiomjknhlfhlhaa
open Go Go.RowKit
/-- Has a mask a role? -/
def bitN (m r : Nat) : Bool := decide (m / 2 ^ r % 2 = 1)
theorem bitN_test (m r : Nat) : bitN m r = m.testBit r := by
  unfold bitN
  rw [Nat.testBit_eq_decide_div_mod_eq]
theorem bitN_cov (m r : Nat) : covN m (2 ^ r) = bitN m r := by
  rw [bitN_test, Bool.eq_iff_iff]
  unfold covN
  simp only [decide_eq_true_eq]
  constructor
  · intro h
    have := congrArg (fun z => z.testBit r) h
    simp only [Nat.testBit_and, Nat.testBit_two_pow_self, Bool.and_true] at this
    exact this
  · intro h
    apply Nat.eq_of_testBit_eq
    intro i
    rw [Nat.testBit_and, Nat.testBit_two_pow]
    by_cases hi : r = i
    · subst hi; simp [h]
    · simp [hi]
theorem half (m k : Nat) : m / 2 ^ k / 2 = m / 2 ^ (k + 1) := by rw [Nat.div_div_eq_div_mul, Nat.pow_succ]
set_option maxRecDepth 100000 in
set_option maxHeartbeats 1000000 in
theorem bit_any (m r : Nat) (w : World) (hm : m < 256) (hr : r < 8) : Calls Try.prog 21 #[.int .i64 (m : Int), .int .i64 (r : Int)] w fun e w' => e = .returned (.bool (bitN m r)) ∧ w' = w := by
  obtain ⟨V, hV⟩ : ∃ V, bitN m r = V := ⟨_, rfl⟩
  rw [hV]
  have HV := Bx.mk hV
  have HM := Bx.mk hm
  clear hV hm
  have hr1 : (r : Int) < 8 := by omega
  go_enter Try.func21, Try.ntmps21
  go_wp2
  go_loopw [5, 0] (fun i z wr => ∃ k : Nat, k ≤ r ∧ i = .int .i64 (k : Int) ∧ z = .int .i64 ((m / 2 ^ k : Nat) : Int) ∧ wr = w) (fun i _ _ => r - (intOf i).toNat)
  case atStart => exact ⟨0, Nat.zero_le _, rfl, by simp, rfl⟩
  case round =>
    obtain ⟨k, hk, rfl, rfl, rfl⟩ := hrel
    obtain ⟨z, hz⟩ : ∃ z, m / 2 ^ k = z := ⟨_, rfl⟩
    have hz2 : (z : Int) < 256 := by have h1 := HM.out; have h2 := Nat.div_le_self m (2 ^ k); omega
    rw [hz]
    by_cases hlt : k < r
    · have hk1 : (k : Int) < (r : Int) := by omega
      have HZ : Bx (((m / 2 ^ (k + 1) : Nat) : Int) = (z : Int) / 2) := Bx.mk (by rw [← half, hz]; rfl)
      clear hz
      go_wp2
      go_roundw
      case rel => exact ⟨k + 1, by omega, by go_num, by rw [HZ.out], trivial⟩
      case measure => simp [intOf]; omega
    · obtain rfl : k = r := by omega
      have HE : Bx (V = decide (z % 2 = 1)) := Bx.mk (by rw [← HV.out]; unfold bitN; rw [hz])
      clear hz HV
      go_wp2
      go_ret
      refine ⟨ret_bool ?_, rfl⟩
      rw [HE.out, Bool.eq_iff_iff]
      simp
      omega
/-- Are a mask's roles below a number another one's too? -/
def allB (x y k : Nat) : Bool := (List.range k).all fun j => !bitN y j || bitN x j
theorem allB_succ (x y k : Nat) : allB x y (k + 1) = (allB x y k && (!bitN y k || bitN x k)) := by
  unfold allB
  rw [List.range_succ, List.all_append]
  simp
theorem allB_false (x y k n : Nat) (hk : k < n) (h1 : bitN y k = true) (h2 : bitN x k = false) : allB x y n = false := by
  unfold allB
  rw [List.all_eq_false]
  exact ⟨k, List.mem_range.mpr hk, by simp [h1, h2]⟩
theorem allB_cov (x y : Nat) (hy : y < 256) : allB x y 8 = covN x y := by
  rw [Bool.eq_iff_iff]
  unfold allB covN
  simp only [List.all_eq_true, List.mem_range, decide_eq_true_eq, Bool.or_eq_true, Bool.not_eq_true', bitN_test]
  constructor
  · intro h
    apply Nat.eq_of_testBit_eq
    intro i
    rw [Nat.testBit_and]
    by_cases hi : i < 8
    · rcases h i hi with h | h
      · simp [h]
      · simp [h]
    · have : y.testBit i = false := Nat.testBit_lt_two_pow (Nat.lt_of_lt_of_le hy (Nat.pow_le_pow_right (n := 2) (i := 8) (by omega) (by omega)))
      simp [this]
  · intro h i _
    have := congrArg (fun z => z.testBit i) h
    simp only [Nat.testBit_and] at this
    cases hy : y.testBit i <;> simp_all
set_option maxRecDepth 100000 in
set_option maxHeartbeats 1000000 in
theorem rcov_any (x y : Nat) (w : World) (hx : x < 256) (hy : y < 256) : Calls Try.prog 23 #[.int .i64 (x : Int), .int .i64 (y : Int)] w fun e w' => e = .returned (.bool (covN x y)) ∧ w' = w := by
  obtain ⟨V, hV⟩ : ∃ V, covN x y = V := ⟨_, rfl⟩
  rw [hV]
  have HV : Bx (allB x y 8 = V) := Bx.mk (by rw [allB_cov x y hy, hV])
  clear hV
  go_enter Try.func23, Try.ntmps23
  go_wp2
  go_loopw [5] (fun i wr => ∃ k : Nat, k ≤ 8 ∧ i = .int .i64 (k : Int) ∧ Bx (allB x y k = true) ∧ wr = w) (fun i _ => 8 - (intOf i).toNat)
  case atStart => exact ⟨0, Nat.zero_le _, rfl, ⟨rfl⟩, rfl⟩
  case round =>
    obtain ⟨k, hk, rfl, HA, rfl⟩ := hrel
    by_cases hlt : k < 8
    · have hk1 : (k : Int) < 8 := by omega
      have B1 := Bx.mk (bit_any y k wr hy hlt)
      have B2 := Bx.mk (bit_any x k wr hx hlt)
      have HS := Bx.mk (allB_succ x y k)
      have HF := Bx.mk (allB_false x y k 8 hlt)
      obtain ⟨p, hp⟩ : ∃ p, bitN y k = p := ⟨_, rfl⟩
      obtain ⟨q, hq⟩ : ∃ q, bitN x k = q := ⟨_, rfl⟩
      rw [hp] at B1 HS HF
      rw [hq] at B2 HS HF
      clear hp hq
      rcases p with _ | _
      · go_wp2_with fail
        refine B1.out.mono ?_
        rintro e w1 ⟨rfl, hw⟩
        rw [hw]
        clear hw w1
        go_wp2
        go_roundw
        case rel => exact ⟨k + 1, by omega, by go_num, ⟨by rw [HS.out, HA.out]; rfl⟩, trivial⟩
        case measure => simp [intOf]; omega
      · rcases q with _ | _
        · have HE : Bx (V = false) := Bx.mk (by rw [← HV.out]; exact HF.out rfl rfl)
          go_wp2_with fail
          refine B1.out.mono ?_
          rintro e w1 ⟨rfl, hw⟩
          rw [hw]
          clear hw w1
          go_wp2_with fail
          refine B2.out.mono ?_
          rintro e w1 ⟨rfl, hw⟩
          rw [hw]
          clear hw w1
          go_wp2
          go_ret
          exact ⟨by rw [HE.out]; rfl, rfl⟩
        · go_wp2_with fail
          refine B1.out.mono ?_
          rintro e w1 ⟨rfl, hw⟩
          rw [hw]
          clear hw w1
          go_wp2_with fail
          refine B2.out.mono ?_
          rintro e w1 ⟨rfl, hw⟩
          rw [hw]
          clear hw w1
          go_wp2
          go_roundw
          case rel => exact ⟨k + 1, by omega, by go_num, ⟨by rw [HS.out, HA.out]; rfl⟩, trivial⟩
          case measure => simp [intOf]; omega
    · obtain rfl : k = 8 := by omega
      have HE : Bx (V = true) := Bx.mk (by rw [← HV.out]; exact HA.out)
      go_wp2
      go_ret
      exact ⟨by rw [HE.out]; rfl, rfl⟩
/-- Has a mask each of these roles? -/
def hasL (x : Nat) (ns : List Int) : Bool := ns.all fun r => isR r && bitN x r.toNat
theorem hasL_is (x : Nat) (ns : List Int) : hasL x ns = (ns.all isR && covN x (mkN ns)) := by
  rw [Bool.eq_iff_iff]
  unfold hasL
  induction ns with
  | nil => simp [mkN, covN]
  | cons r ns ih =>
    have hm : mkN (r :: ns) = 2 ^ r.toNat ||| mkN ns := by
      show (r :: ns).foldl _ 0 = _
      rw [List.foldl_cons, Nat.zero_or]
      exact fold_or ns _
    simp only [List.all_cons, Bool.and_eq_true] at ih ⊢
    rw [ih, hm]
    constructor
    · rintro ⟨⟨h1, h2⟩, h3, h4⟩
      exact ⟨⟨h1, h3⟩, cov_or (by rw [bitN_cov]; exact h2) h4⟩
    · rintro ⟨⟨h1, h3⟩, h4⟩
      exact ⟨⟨h1, by rw [← bitN_cov]; exact cov_trans h4 (cov_left _ _)⟩, h3, cov_trans h4 (cov_right _ _)⟩
set_option maxRecDepth 100000 in
theorem has_any (i e s : Int) (x : Nat) (ns : List Int) (v : Value) (w : World) (hx : x < 256) (hv : Ints w v ns) (hl : ns.length ≤ 1000000) :
    Calls Try.prog 24 #[clV ⟨i, (x : Int), e, s⟩, v] w fun r w' => r = .returned (.bool (hasL x ns)) ∧ Below w.heap.size w w' := by
  obtain ⟨V, hV⟩ : ∃ V, hasL x ns = V := ⟨_, rfl⟩
  rw [hV]
  have HV : Bx ((ns.all isR && covN x (mkN ns)) = V) := Bx.mk (by rw [← hasL_is, hV])
  clear hV
  have HA : Bx (Ints (w.alloc (.cells #[.int .i64 i, .int .i64 (x : Int), .int .i64 e, .int .i64 s] 25)) v ns ∧ Below w.heap.size w (w.alloc (.cells #[.int .i64 i, .int .i64 (x : Int), .int .i64 e, .int .i64 s] 25)) ∧ (w.alloc (.cells #[.int .i64 i, .int .i64 (x : Int), .int .i64 e, .int .i64 s] 25)).cell? ⟨w.heap.size, 1, none⟩ = some (.int .i64 (x : Int))) := Bx.mk ⟨hv.later (below_a _), below_a _, by rw [cell_of_row _ _ _ _ _ _ (hnew _ _ _ rfl)]; rfl⟩
  obtain ⟨a, cap, rfl, -⟩ := hv
  unfold clV
  simp only
  by_cases hR : ns.all isR = true
  · rw [hR, Bool.true_and] at HV
    have hm := mkN_lt ns hR
    go_enter Try.func24, Try.ntmps24
    go_wp2_with fail
    generalize w.alloc (.cells #[.int .i64 i, .int .i64 (x : Int), .int .i64 e, .int .i64 s] 25) = w1 at *
    refine (mask_ok ns _ w1 HA.out.1 hl hR).mono ?_
    rintro e w2 ⟨rfl, hw⟩
    rw [hw]
    clear hw w2
    have hc := HA.out.2.2
    go_wp2_with fail
    refine (covers_any x (mkN ns) w1 (by omega) (by omega)).mono ?_
    rintro e w2 ⟨rfl, hw⟩
    rw [hw, HV.out]
    clear hw w2
    go_wp2
    go_ret
    exact ⟨rfl, HA.out.2.1⟩
  · have hf : ns.all isR = false := by simpa using hR
    rw [hf, Bool.false_and] at HV
    go_enter Try.func24, Try.ntmps24
    go_wp2_with fail
    generalize w.alloc (.cells #[.int .i64 i, .int .i64 (x : Int), .int .i64 e, .int .i64 s] 25) = w1 at *
    refine (mask_bad ns _ w1 HA.out.1 hl hf).mono ?_
    rintro e w2 ⟨rfl, hw⟩
    rw [hw]
    clear hw w2
    go_wp2
    go_ret
    exact ⟨by rw [← HV.out]; rfl, HA.out.2.1⟩
theorem mk_bits (ns : List Int) (h : ns.all isR = true) (r : Nat) : bitN (mkN ns) r = ns.any fun z => decide (z = (r : Int)) := by
  rw [bitN_test]
  induction ns with
  | nil => simp [mkN]
  | cons z ns ih =>
    have hm : mkN (z :: ns) = 2 ^ z.toNat ||| mkN ns := by
      show (z :: ns).foldl _ 0 = _
      rw [List.foldl_cons, Nat.zero_or]
      exact fold_or ns _
    simp only [List.all_cons, Bool.and_eq_true] at h
    rw [hm, Nat.testBit_or, ih h.2, List.any_cons, Nat.testBit_two_pow]
    congr 1
    have hz := h.1
    simp [isR] at hz
    rw [Bool.eq_iff_iff]
    simp only [decide_eq_true_eq]
    omega
theorem roles_at : ∀ x, x < 256 → ∀ r, r < 8 → bitN x r = true → (rolesK x 8).getD (rolesK x r).length 0 = (r : Int) ∧ (rolesK x r).length < (rolesK x 8).length := by decide +kernel
theorem rolesK_bit (x k : Nat) : (rolesK x (k + 1)).length = (rolesK x k).length + if bitN x k = true then 1 else 0 := by
  rw [rolesK_succ, List.length_append, bitN_cov]
  split <;> simp
end Go.Proofs.Ytiomjknhlfhlhaa
