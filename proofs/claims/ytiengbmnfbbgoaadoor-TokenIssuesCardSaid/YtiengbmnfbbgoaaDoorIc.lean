/-
  The walks of what is wrong with a field, the program's and the document's.
-/
import Derived.Test.YtiengbmnfbbgoaaDoorIb
namespace Go.Proofs.YtiengbmnfbbgoaaDoor
open Go Go.RowKit
theorem chk_kind {f : Fd} (h : f.s < 0 ∨ 4 < f.s) : chk f = 13 := by unfold chk; rw [if_pos h]
theorem chk_four {f : Fd} (h : f.s = 4) : chk f = if f.n ≠ 0 then 10 else if 512 < f.b.length then 2 else 0 := by unfold chk; rw [if_neg (by omega), if_pos h]
theorem chk_num {f : Fd} (h0 : 0 ≤ f.s) (h3 : f.s ≤ 3) : chk f = if f.b.length > 0 ∨ f.n < 0 ∨ most f.s < f.n then 10 else 0 := by unfold chk; rw [if_neg (by omega), if_neg (by omega)]
set_option maxRecDepth 100000 in
set_option maxHeartbeats 1000000 in
theorem wcheck_any (f : Fd) (v : Value) (w : World) (hv : IsF w v f) (hn1 : -9223372036854775808 ≤ f.n) (hn2 : f.n ≤ 9223372036854775807) :
    Calls Tryd.prog 91 #[v] w fun e w' => e = .returned (.int .i64 (chk f)) ∧ Below w.heap.size w w' := by
  obtain ⟨vb, rfl, hb⟩ := hv
  obtain ⟨s, n, b⟩ := f
  simp only at hb hn1 hn2 ⊢
  obtain ⟨ab, cb, rfl, -⟩ := hb
  by_cases hk : s < 0 ∨ 4 < s
  · have HC : Bx (chk ⟨s, n, b⟩ = 13) := Bx.mk (chk_kind hk)
    have hkk : (decide (0 ≤ s) && decide (s ≤ 4)) = false := by rw [Bool.eq_false_iff]; intro h; simp at h; omega
    clear hk
    generalize b.length = L at *
    go_enter Tryd.func91, Tryd.ntmps91
    go_wp2_with fail
    refine (known_any s _).mono ?_
    rintro e w1 ⟨rfl, rfl⟩
    rw [hkk]
    go_wp2
    go_ret
    exact ⟨by rw [HC.out]; rfl, below_a _⟩
  · have hkk : (decide (0 ≤ s) && decide (s ≤ 4)) = true := by simp; omega
    by_cases h4 : s = 4
    · subst h4
      have HC := Bx.mk (chk_four (f := ⟨4, n, b⟩) rfl)
      simp only at HC
      generalize b.length = L at *
      clear hk
      by_cases hn : n = 0
      · subst hn
        by_cases hl : 512 < L
        · have hl1 : (512 : Int) < (L : Int) := by omega
          go_enter Tryd.func91, Tryd.ntmps91
          go_wp2_with fail
          refine (known_any 4 _).mono ?_
          rintro e w1 ⟨rfl, rfl⟩
          rw [hkk]
          go_wp2
          go_ret
          exact ⟨by rw [HC.out, if_neg (by simp), if_pos hl]; rfl, below_a _⟩
        · have hl1 : ¬ (512 : Int) < (L : Int) := by omega
          go_enter Tryd.func91, Tryd.ntmps91
          go_wp2_with fail
          refine (known_any 4 _).mono ?_
          rintro e w1 ⟨rfl, rfl⟩
          rw [hkk]
          go_wp2
          go_ret
          exact ⟨by rw [HC.out, if_neg (by simp), if_neg hl]; rfl, below_a _⟩
      · go_enter Tryd.func91, Tryd.ntmps91
        go_wp2_with fail
        refine (known_any 4 _).mono ?_
        rintro e w1 ⟨rfl, rfl⟩
        rw [hkk]
        go_wp2
        go_ret
        exact ⟨by rw [HC.out, if_pos hn]; rfl, below_a _⟩
    · have h0 : 0 ≤ s := by omega
      have h3 : s ≤ 3 := by omega
      have HC := Bx.mk (chk_num (f := ⟨s, n, b⟩) h0 h3)
      simp only at HC
      generalize b.length = L at *
      clear hk
      cases hf : fitB s n
      · have HF : Bx (n < 0 ∨ most s < n) := Bx.mk (by unfold fitB at hf; rw [Bool.eq_false_iff] at hf; simp at hf; omega)
        go_enter Tryd.func91, Tryd.ntmps91
        go_wp2_with fail
        refine (known_any s _).mono ?_
        rintro e w1 ⟨rfl, rfl⟩
        rw [hkk]
        go_wp2_with fail
        refine (fits_any s n _ h0 h3 hn1 hn2).mono ?_
        rintro e w1 ⟨rfl, rfl⟩
        rw [hf]
        go_wp2
        go_ret
        exact ⟨by rw [HC.out, if_pos (.inr HF.out)]; rfl, below_a _⟩
      · have HF : Bx (¬ (n < 0 ∨ most s < n)) := Bx.mk (by unfold fitB at hf; simp at hf; omega)
        by_cases hl : 0 < L
        · have hl1 : (0 : Int) < (L : Int) := by omega
          go_enter Tryd.func91, Tryd.ntmps91
          go_wp2_with fail
          refine (known_any s _).mono ?_
          rintro e w1 ⟨rfl, rfl⟩
          rw [hkk]
          go_wp2_with fail
          refine (fits_any s n _ h0 h3 hn1 hn2).mono ?_
          rintro e w1 ⟨rfl, rfl⟩
          rw [hf]
          go_wp2
          go_ret
          exact ⟨by rw [HC.out, if_pos (.inl hl)]; rfl, below_a _⟩
        · obtain rfl : L = 0 := by omega
          go_enter Tryd.func91, Tryd.ntmps91
          go_wp2_with fail
          refine (known_any s _).mono ?_
          rintro e w1 ⟨rfl, rfl⟩
          rw [hkk]
          go_wp2_with fail
          refine (fits_any s n _ h0 h3 hn1 hn2).mono ?_
          rintro e w1 ⟨rfl, rfl⟩
          rw [hf]
          go_wp2
          go_ret
          exact ⟨by rw [HC.out, if_neg (by have := HF.out; omega)]; rfl, below_a _⟩
end Go.Proofs.YtiengbmnfbbgoaaDoor
