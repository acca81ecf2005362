/-
  Delta: whether versions are as they may be; ours and the document's.
-/
import Derived.Test.YtnfgamekjbkbkaaDoorD1
namespace Go.Proofs.YtnfgamekjbkbkaaDoor
open Go Go.RowKit
def okN (n : Int) : Bool := decide (0 ≤ n) && decide (n ≤ 256)
def okV (v : V4) : Bool := okN v.a && (okN v.b && (okN v.c && okN v.d))
theorem okN_iff (n : Int) : okN n = true ↔ 0 ≤ n ∧ n ≤ 256 := by simp [okN]
theorem okV_iff (v : V4) : okV v = true ↔ (0 ≤ v.a ∧ v.a ≤ 256) ∧ (0 ≤ v.b ∧ v.b ≤ 256) ∧ (0 ≤ v.c ∧ v.c ≤ 256) ∧ (0 ≤ v.d ∧ v.d ≤ 256) := by simp [okV, okN_iff]
theorem within1_any (n : Int) (w : World) : Calls Tryd.prog 86 #[.int .i64 n] w fun e w' => e = .returned (.bool (!okN n)) ∧ w' = w := by
  by_cases h1 : n < 0
  · have HO : okN n = false := by unfold okN; simp; omega
    go_enter Tryd.func86, Tryd.ntmps86
    go_wp2
    go_ret
    refine ⟨ret_bool ?_, rfl⟩
    simp [HO]
  by_cases h2 : 256 < n
  · have HO : okN n = false := by unfold okN; simp; omega
    go_enter Tryd.func86, Tryd.ntmps86
    go_wp2
    go_ret
    refine ⟨ret_bool ?_, rfl⟩
    simp
  have HO : okN n = true := by unfold okN; simp; omega
  go_enter Tryd.func86, Tryd.ntmps86
  go_wp2
  go_ret
  refine ⟨ret_bool ?_, rfl⟩
  simp
theorem four_nat {k : Nat} (h : k < 4) : k = 0 ∨ k = 1 ∨ k = 2 ∨ k = 3 := by omega
theorem ints4 {W : World} {E : Nat} {a b c d : Int} {t : TypeId} (h : W.heap[E]? = some (.cells #[.int .i64 a, .int .i64 b, .int .i64 c, .int .i64 d] t (0, 0))) : Ints W (.slice (some ⟨E, 0, none⟩) 4 4) [a, b, c, d] :=
  ⟨_, _, rfl, Nat.le_refl _, (fun h => by cases h), fun _ => ⟨E, 0, rfl, fun i hi => by
    rw [cell_of_row _ _ _ _ _ _ h]
    rcases four_nat hi with rfl | rfl | rfl | rfl <;> rfl⟩⟩
set_option maxRecDepth 100000 in
set_option maxHeartbeats 4000000 in
theorem within9_any (v : V4) (w : World) : Calls Tryd.prog 65 #[.agg #[.int .i64 v.a, .int .i64 v.b, .int .i64 v.c, .int .i64 v.d]] w fun e w' => e = .returned (.bool (okV v)) ∧ Below w.heap.size w w' := by
  obtain ⟨E, hE⟩ : ∃ E, w.heap.size = E := ⟨_, rfl⟩
  have K0 : Bx (KR w E [(E, .cells #[.int .i64 v.a, .int .i64 v.b, .int .i64 v.c, .int .i64 v.d] 28)] (w.alloc (.cells #[.int .i64 v.a, .int .i64 v.b, .int .i64 v.c, .int .i64 v.d] 28))) := ⟨by
    subst hE
    exact (KR.start w).new _⟩
  rw [hE]
  generalize hz : okV v = z
  have HC : Bx (∀ W, KR w E [(E, .cells #[.int .i64 v.a, .int .i64 v.b, .int .i64 v.c, .int .i64 v.d] 28)] W → Calls Tryd.prog 85 #[.slice (some ⟨E, 0, none⟩) 4 4, .func (.func 86) #[] #[]] W fun e w' => e = .returned (.bool (!z)) ∧ KR w E [(E, .cells #[.int .i64 v.a, .int .i64 v.b, .int .i64 v.c, .int .i64 v.d] 28)] w') := ⟨fun W hW => by
    refine (conF_any [v.a, v.b, v.c, v.d] (.slice (some ⟨E, 0, none⟩) 4 4) 86 #[] (fun k => !okN ([v.a, v.b, v.c, v.d].getD k 0)) (fun _ w' => KR w E [(E, .cells #[.int .i64 v.a, .int .i64 v.b, .int .i64 v.c, .int .i64 v.d] 28)] w') W (fun args w => by kernel_rfl) hW (by simp) ?_ ?_).mono ?_
    · intro k w' h1
      exact ints4 (h1.rows _ (.head _))
    · intro k w' hk hr h1
      refine (within1_any _ w').mono ?_
      rintro e w2 ⟨rfl, rfl⟩
      exact ⟨rfl, h1⟩
    · rintro e w' ⟨y, rfl, ⟨rfl, k, hk, h1, h2, h3⟩ | ⟨rfl, h1, h2⟩⟩
      · refine ⟨?_, h3⟩
        have : z = false := by
          rw [← hz]
          unfold okV
          rcases four_nat (show k < 4 from hk) with rfl | rfl | rfl | rfl
          · have h : okN v.a = false := by simpa using h2
            simp [h]
          · have h : okN v.b = false := by simpa using h2
            simp [h]
          · have h : okN v.c = false := by simpa using h2
            simp [h]
          · have h : okN v.d = false := by simpa using h2
            simp [h]
        rw [this]
        rfl
      · refine ⟨?_, h2⟩
        have : z = true := by
          rw [← hz]
          unfold okV
          have e0 : okN v.a = true := by simpa using h1 0 (by simp)
          have e1 : okN v.b = true := by simpa using h1 1 (by simp)
          have e2 : okN v.c = true := by simpa using h1 2 (by simp)
          have e3 : okN v.d = true := by simpa using h1 3 (by simp)
          simp [e0, e1, e2, e3]
        rw [this]
        rfl⟩
  clear hz
  go_enter Tryd.func65, Tryd.ntmps65
  go_wp2_with fail
  refine (HC.out _ K0.out).mono ?_
  rintro e w1 ⟨rfl, hb⟩
  go_wp2
  go_ret
  exact ⟨ret_bool (by simp), hb.below⟩
end Go.Proofs.YtnfgamekjbkbkaaDoor
