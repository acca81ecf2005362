/-
  The walks of the document's own fields.
-/
import Derived.Test.YtgbhckoaabnblaaIc
namespace Go.Proofs.Ytgbhckoaabnblaa
open Go Go.RowKit
theorem idxW0 (W : World) : (Instr.index 55 (.agg #[.int .i64 1, .int .i64 2, .int .i64 4, .int .i64 8]) (.int .i64 0)).run Try.prog W = .ok (.int .i64 1) W := by kernel_rfl
theorem idxW1 (W : World) : (Instr.index 55 (.agg #[.int .i64 1, .int .i64 2, .int .i64 4, .int .i64 8]) (.int .i64 1)).run Try.prog W = .ok (.int .i64 2) W := by kernel_rfl
theorem idxW2 (W : World) : (Instr.index 55 (.agg #[.int .i64 1, .int .i64 2, .int .i64 4, .int .i64 8]) (.int .i64 2)).run Try.prog W = .ok (.int .i64 4) W := by kernel_rfl
theorem idxW3 (W : World) : (Instr.index 55 (.agg #[.int .i64 1, .int .i64 2, .int .i64 4, .int .i64 8]) (.int .i64 3)).run Try.prog W = .ok (.int .i64 8) W := by kernel_rfl
theorem idxM0 (W : World) : (Instr.index 55 (.agg #[.int .i64 255, .int .i64 65535, .int .i64 4294967295, .int .i64 9223372036854775807]) (.int .i64 0)).run Try.prog W = .ok (.int .i64 255) W := by kernel_rfl
theorem idxM1 (W : World) : (Instr.index 55 (.agg #[.int .i64 255, .int .i64 65535, .int .i64 4294967295, .int .i64 9223372036854775807]) (.int .i64 1)).run Try.prog W = .ok (.int .i64 65535) W := by kernel_rfl
theorem idxM2 (W : World) : (Instr.index 55 (.agg #[.int .i64 255, .int .i64 65535, .int .i64 4294967295, .int .i64 9223372036854775807]) (.int .i64 2)).run Try.prog W = .ok (.int .i64 4294967295) W := by kernel_rfl
theorem idxM3 (W : World) : (Instr.index 55 (.agg #[.int .i64 255, .int .i64 65535, .int .i64 4294967295, .int .i64 9223372036854775807]) (.int .i64 3)).run Try.prog W = .ok (.int .i64 9223372036854775807) W := by kernel_rfl
theorem rwidth_any (s : Int) (w : World) (h0 : 0 ≤ s) (h3 : s ≤ 3) : Calls Try.prog 24 #[.int .i64 s] w fun e w' => e = .returned (.int .i64 (wid s : Int)) ∧ w' = w := by
  rcases size_cases h0 h3 with rfl | rfl | rfl | rfl
  all_goals
    have q0 := idxW0
    have q1 := idxW1
    have q2 := idxW2
    have q3 := idxW3
    go_enter Try.func24, Try.ntmps24
    go_wp2
    go_ret
    exact ⟨rfl, rfl⟩
set_option maxRecDepth 100000 in
set_option maxHeartbeats 1000000 in
theorem rcheck_any (f : Fd) (v : Value) (w : World) (hv : IsF w v f) (hn1 : -9223372036854775808 ≤ f.n) (hn2 : f.n ≤ 9223372036854775807) :
    Calls Try.prog 7 #[v] w fun e w' => e = .returned (.int .i64 (chk f)) ∧ Below w.heap.size w w' := by
  obtain ⟨vb, rfl, hb⟩ := hv
  obtain ⟨s, n, b⟩ := f
  simp only at hb hn1 hn2 ⊢
  obtain ⟨ab, cb, rfl, -⟩ := hb
  have q0 := idxM0
  have q1 := idxM1
  have q2 := idxM2
  have q3 := idxM3
  by_cases hk : s < 0 ∨ 4 < s
  · have HC : Bx (chk ⟨s, n, b⟩ = 13) := Bx.mk (chk_kind hk)
    generalize b.length = L at *
    by_cases hs : s < 0
    · clear hk
      go_enter Try.func7, Try.ntmps7
      go_wp2
      go_ret
      exact ⟨by rw [HC.out]; rfl, below_a _⟩
    · have hs4 : 4 < s := by omega
      clear hk
      go_enter Try.func7, Try.ntmps7
      go_wp2
      go_ret
      exact ⟨by rw [HC.out]; rfl, below_a _⟩
  · by_cases h4 : s = 4
    · subst h4
      have HC := Bx.mk (chk_four (f := ⟨4, n, b⟩) rfl)
      simp only at HC
      generalize b.length = L at *
      clear hk
      by_cases hn : n = 0
      · subst hn
        by_cases hl : 512 < L
        · have hl1 : (512 : Int) < (L : Int) := by omega
          go_enter Try.func7, Try.ntmps7
          go_wp2
          go_ret
          exact ⟨by rw [HC.out, if_neg (by simp), if_pos hl]; rfl, below_a _⟩
        · have hl1 : ¬ (512 : Int) < (L : Int) := by omega
          go_enter Try.func7, Try.ntmps7
          go_wp2
          go_ret
          exact ⟨by rw [HC.out, if_neg (by simp), if_neg hl]; rfl, below_a _⟩
      · go_enter Try.func7, Try.ntmps7
        go_wp2
        go_ret
        exact ⟨by rw [HC.out, if_pos hn]; rfl, below_a _⟩
    · have h0 : 0 ≤ s := by omega
      have h3 : s ≤ 3 := by omega
      have HC := Bx.mk (chk_num (f := ⟨s, n, b⟩) h0 h3)
      simp only at HC
      generalize b.length = L at *
      clear hk h4
      by_cases hl : 0 < L
      · have hl1 : (0 : Int) < (L : Int) := by omega
        rcases size_cases h0 h3 with rfl | rfl | rfl | rfl
        all_goals
          clear h0 h3
          go_enter Try.func7, Try.ntmps7
          go_wp2
          go_ret
          exact ⟨by rw [HC.out, if_pos (.inl hl)]; rfl, below_a _⟩
      · obtain rfl : L = 0 := by omega
        by_cases hn : n < 0
        · rcases size_cases h0 h3 with rfl | rfl | rfl | rfl
          all_goals
            clear h0 h3
            go_enter Try.func7, Try.ntmps7
            go_wp2
            go_ret
            exact ⟨by rw [HC.out, if_pos (.inr (.inl hn))]; rfl, below_a _⟩
        · have hm : ∃ M, most s = M := ⟨_, rfl⟩
          obtain ⟨M, hM⟩ := hm
          by_cases hq : M < n
          · have HD : Bx (chk ⟨s, n, b⟩ = 10) := Bx.mk (by rw [HC.out, if_pos (.inr (.inr (by rw [hM]; exact hq)))])
            clear HC
            rcases size_cases h0 h3 with rfl | rfl | rfl | rfl
            all_goals
              clear h0 h3
              simp only [most] at hM
              subst hM
              first
              | (exfalso; omega)
              | (go_enter Try.func7, Try.ntmps7
                 go_wp2
                 go_ret
                 exact ⟨by rw [HD.out]; rfl, below_a _⟩)
          · have HD : Bx (chk ⟨s, n, b⟩ = 0) := Bx.mk (by rw [HC.out, if_neg (by omega)])
            clear HC
            rcases size_cases h0 h3 with rfl | rfl | rfl | rfl
            all_goals
              clear h0 h3
              simp only [most] at hM
              subst hM
              go_enter Try.func7, Try.ntmps7
              go_wp2
              go_ret
              exact ⟨by rw [HD.out]; rfl, below_a _⟩
end Go.Proofs.Ytgbhckoaabnblaa
