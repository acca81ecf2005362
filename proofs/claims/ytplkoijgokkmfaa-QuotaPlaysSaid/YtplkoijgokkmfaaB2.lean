/-
  Quotas: Period, New, refuses, taken, Times, Left.
-/
import Derived.Test.YtplkoijgokkmfaaB1
import Derived.Deep.QuietTactic
import Derived.BigQuiet
import Derived.Deep.RegionHeld3
namespace Go.Proofs.Ytplkoijgokkmfaa
open Go Go.RowKit
/-- The period of a tick. -/
def perT (t : Int) : Int := max 0 t / 32
/-- Quotas in their blocks: of n a period, with these entries. -/
structure QB (W : World) (q M : Nat) (n : Int) (l : List En) : Prop where
  hq : W.heap[q]? = some (.cells #[.int .i64 n, .map (some M)] 58 (0, 0))
  hm : MapQ W M l
theorem QB.ne {W : World} {q M : Nat} {n : Int} {l : List En} (h : QB W q M n l) : q ≠ M := by
  rintro rfl
  obtain ⟨es, clock, hb, -, -⟩ := h.hm.st
  rw [h.hq] at hb
  cases hb
theorem QB.lt {W : World} {q M : Nat} {n : Int} {l : List En} (h : QB W q M n l) : q < W.heap.size ∧ M < W.heap.size := ⟨(Array.getElem?_eq_some_iff.1 h.hq).1, h.hm.lt⟩
theorem QB.later {W W1 : World} {q M : Nat} {n : Int} {l : List En} (h : QB W q M n l) (hb : Below W.heap.size W W1) : QB W1 q M n l := ⟨(hb.block q h.lt.1).trans h.hq, h.hm.later (hb.block M h.lt.2)⟩
theorem QB.aside {W W1 : World} {q M p : Nat} {n : Int} {l : List En} (h : QB W q M n l) (hg : W.grownBy W1 (some p)) (h1 : q ≠ p) (h2 : M ≠ p) : QB W1 q M n l := ⟨(hg.block q h.lt.1 (fun e => h1 (by injection e))).trans h.hq, h.hm.later (hg.block M h.lt.2 (fun e => h2 (by injection e)))⟩
theorem QB.turn {W W1 : World} {q M : Nat} {n : Int} {l l1 : List En} (h : QB W q M n l) (hg : W.grownBy W1 (some M)) (hm : MapQ W1 M l1) : QB W1 q M n l1 := ⟨(hg.block q h.lt.1 (fun e => h.ne (by injection e))).trans h.hq, hm⟩
theorem QB.cells {W : World} {q M : Nat} {n : Int} {l : List En} (h : QB W q M n l) : W.cell? ⟨q, 0, none⟩ = some (.int .i64 n) ∧ W.cell? ⟨q, 1, none⟩ = some (.map (some M)) := ⟨by rw [cell_of_row _ _ _ _ _ _ h.hq]; rfl, by rw [cell_of_row _ _ _ _ _ _ h.hq]; rfl⟩
set_option maxRecDepth 100000 in
theorem period_any (t : Int) (w : World) (h1 : -9223372036854775808 ≤ t) (h2 : t ≤ 9223372036854775807) :
    Calls Try.prog 21 #[.int .i64 t] w fun e w' => e = .returned (.int .i64 (perT t)) ∧ w = w' := by
  unfold perT
  by_cases h : 0 < t
  · have e1 : max 0 t = t := by omega
    rw [e1]
    clear e1
    go_enter Try.func21, Try.ntmps21
    go_wp2
    go_ret
    exact ⟨rfl, rfl⟩
  · have e1 : max 0 t = 0 := by omega
    rw [e1]
    clear e1
    go_enter Try.func21, Try.ntmps21
    go_wp2
    go_ret
    exact ⟨rfl, rfl⟩
set_option maxRecDepth 100000 in
theorem qnew_bad (n : Int) (w : World) (h : n < 1 ∨ 255 < n) :
    Calls Try.prog 8 #[.int .i64 n] w fun e w' => e = .returned (.tuple #[.pointer none, .int .i64 10]) ∧ w = w' := by
  by_cases h1 : n < 1
  · clear h
    go_enter Try.func8, Try.ntmps8
    go_wp2
    go_ret2
    exact ⟨rfl, rfl⟩
  · have h2 : 255 < n := by omega
    clear h
    go_enter Try.func8, Try.ntmps8
    go_wp2
    go_ret2
    exact ⟨rfl, rfl⟩
set_option maxRecDepth 100000 in
theorem qnew_ok (n : Int) (w : World) (h1 : 1 ≤ n) (h2 : n ≤ 255) :
    Calls Try.prog 8 #[.int .i64 n] w fun e w' => ∃ q M, e = .returned (.tuple #[.pointer (some ⟨q, 0, none⟩), .int .i64 0]) ∧ w.heap.size ≤ q ∧ w.heap.size ≤ M ∧ Below w.heap.size w w' ∧ QB w' q M n [] := by
  have h3 : ¬ n < 1 := by omega
  have h4 : ¬ 255 < n := by omega
  have hmk : ∀ W : World, (Instr.makeMap 56 none).run Try.prog W = .ok (.map (some W.heap.size)) (W.alloc (.map #[] 0)) := fun W => by kernel_rfl
  go_enter Try.func8, Try.ntmps8
  go_wp2
  go_ret2
  refine ⟨w.heap.size + 1, rfl, Nat.le_succ _, w.heap.size, Nat.le_refl _, ?_, ?_, ?_⟩
  · exact (below_a _).trans ((below_a _).mono (by simp))
  · exact hnew _ _ _ (by simp)
  · exact (mapQ_made w).later (hold _ _ _ (by simp))
/-- Why nobody's quota is asked for. -/
def refK (l : List En) (s t : Int) : Int := if s < 1 ∨ 65535 < s ∨ t < 0 then 10 else if perT t < perQ l s then 9 else 0
theorem refK_bad {l : List En} {s t : Int} (h : s < 1 ∨ 65535 < s ∨ t < 0) : refK l s t = 10 := if_pos h
theorem mapnil (M : Nat) (W : World) : (binOp BinOp.eql 56 (.map (some M)) (.map none)).run Try.prog W = .ok (.bool false) W := by kernel_rfl
theorem fieldQ (P C : Int) (W : World) : (Instr.field 60 (.agg #[.int .i64 P, .int .i64 C]) 0).run Try.prog W = .ok (.int .i64 P) W := by kernel_rfl
-- generated
set_option maxRecDepth 100000 in
set_option maxHeartbeats 4000000 in
theorem qref_any (q M : Nat) (n : Int) (l : List En) (s t : Int) (w : World) (h : QB w q M n l) (hs : in64 s) (ht : in64 t) :
    Calls Try.prog 25 #[.pointer (some ⟨q, 0, none⟩), .int .i64 s, .int .i64 t] w fun e w' => e = .returned (.int .i64 (refK l s t)) ∧ Below w.heap.size w w' := by
  have hc := h.cells.2
  have hne := mapnil M w
  by_cases h1 : s < 1
  · rw [refK_bad (.inl h1)]
    clear h hs ht
    go_enter Try.func25, Try.ntmps25
    go_wp2
    go_ret
    exact ⟨rfl, Below.refl _ _⟩
  · by_cases h2 : 65535 < s
    · rw [refK_bad (.inr (.inl h2))]
      clear h hs ht
      go_enter Try.func25, Try.ntmps25
      go_wp2
      go_ret
      exact ⟨rfl, Below.refl _ _⟩
    · by_cases h3 : t < 0
      · rw [refK_bad (.inr (.inr h3))]
        clear h hs ht
        go_enter Try.func25, Try.ntmps25
        go_wp2
        go_ret
        exact ⟨rfl, Below.refl _ _⟩
      · have HT := Bx.mk ht
        have hR : ∀ P, perQ l s = P → refK l s t = if perT t < P then 9 else 0 := by
          rintro P rfl
          unfold refK
          rw [if_neg (by omega)]
        obtain ⟨P, hP⟩ : ∃ P, perQ l s = P := ⟨_, rfl⟩
        rw [hR P hP]
        obtain ⟨C, hC⟩ : ∃ C, cntQ l s = C := ⟨_, rfl⟩
        have HS0 : Bx (w.drew.cell? ⟨q, 1, none⟩ = some (.map (some M)) ∧ (Instr.lookup 56 (.map (some M)) (.int .i64 s) false).run Try.prog w.drew = .ok (.agg #[.int .i64 P, .int .i64 C]) w.drew) := Bx.mk ⟨hc, by have := (h.later (Below.refl w.heap.size w).drew).hm.look1 s hs; rw [hP, hC] at this; exact this⟩
        clear h hs ht hR hP hC
        have hfl := fieldQ P C
        by_cases h4 : perT t < P
        · rw [if_pos h4]
          go_enter Try.func25, Try.ntmps25
          go_upto_region 8 with fail
          have HS := Bx.mk HS0.out
          have HBd : Bx (Below w.heap.size w w.drew) := Bx.mk (Below.refl _ _).drew
          refine wp_region_noPanic ?_
          refine wp_region_held_drew (S := fun W => W.cell? ⟨q, 1, none⟩ = some (.map (some M)) ∧ (Instr.lookup 56 (.map (some M)) (.int .i64 s) false).run Try.prog W = .ok (.agg #[.int .i64 P, .int .i64 C]) W) (by kernel_rfl) (HS.out) (fun hHeld => ?_)
          generalize w.drew = W0 at *
          refine takeL 0 (v := ?_) rfl (by kernel_rfl) (by kernel_rfl) (by kernel_rfl) (fun _ _ _ h => h) (Or.inl ⟨by rfl, ?_⟩) hHeld ?_
          rotate_left 1
          · (intro w hSw; go_simp; try with_reducible rfl)
          try simp only [Act.put, List.setIfInBounds_toArray, List.set_cons_zero, List.set_cons_succ]
          refine takeL 1 (v := ?_) rfl (by kernel_rfl) (by kernel_rfl) (by kernel_rfl) (fun _ _ _ h => h) (Or.inl ⟨by rfl, ?_⟩) hHeld ?_
          rotate_left 1
          · (intro w hSw; go_simp; try with_reducible rfl)
          try simp only [Act.put, List.setIfInBounds_toArray, List.set_cons_zero, List.set_cons_succ]
          refine takeL 2 (v := ?_) rfl (by kernel_rfl) (by kernel_rfl) (by kernel_rfl) (fun _ _ _ h => h) (Or.inl ⟨by rfl, ?_⟩) hHeld ?_
          rotate_left 1
          · (intro w hSw; go_simp; try with_reducible rfl)
          try simp only [Act.put, List.setIfInBounds_toArray, List.set_cons_zero, List.set_cons_succ]
          refine takeL 3 (v := ?_) rfl (by kernel_rfl) (by kernel_rfl) (by kernel_rfl) (fun _ _ _ h => h) (Or.inl ⟨by rfl, ?_⟩) hHeld ?_
          rotate_left 1
          · (intro w hSw; obtain ⟨q1, q2⟩ := hSw; clear q2; go_simp; try with_reducible rfl)
          try simp only [Act.put, List.setIfInBounds_toArray, List.set_cons_zero, List.set_cons_succ]
          refine takeL 4 (v := ?_) rfl (by kernel_rfl) (by kernel_rfl) (by kernel_rfl) (fun _ _ _ h => h) (Or.inl ⟨by rfl, ?_⟩) hHeld ?_
          rotate_left 1
          · (intro w hSw; go_simp; try with_reducible rfl)
          try simp only [Act.put, List.setIfInBounds_toArray, List.set_cons_zero, List.set_cons_succ]
          refine takeL 5 (v := ?_) rfl (by kernel_rfl) (by kernel_rfl) (by kernel_rfl) (fun _ _ _ h => h) (Or.inl ⟨by rfl, ?_⟩) hHeld ?_
          rotate_left 1
          · (intro w hSw; obtain ⟨q1, q2⟩ := hSw; go_simp; try with_reducible rfl)
          try simp only [Act.put, List.setIfInBounds_toArray, List.set_cons_zero, List.set_cons_succ]
          refine takeL 6 (v := ?_) rfl (by kernel_rfl) (by kernel_rfl) (by kernel_rfl) (fun _ _ _ h => h) (Or.inl ⟨by rfl, ?_⟩) hHeld ?_
          rotate_left 1
          · (intro w hSw; go_simp; try with_reducible rfl)
          try simp only [Act.put, List.setIfInBounds_toArray, List.set_cons_zero, List.set_cons_succ]
          refine takeL 7 (v := ?_) rfl (by kernel_rfl) (by kernel_rfl) (by kernel_rfl) (fun _ _ _ h => h) (Or.inl ⟨by rfl, ?_⟩) hHeld ?_
          rotate_left 1
          · (intro w hSw; go_simp; try with_reducible rfl)
          try simp only [Act.put, List.setIfInBounds_toArray, List.set_cons_zero, List.set_cons_succ]
          refine stepL 8 (by kernel_rfl) rfl (fun K hK => ?_)
          go_simp
          refine (period_any t _ HT.out.1 HT.out.2).mono ?_
          rintro e W1 ⟨rfl, rfl⟩
          show K _ _
          refine hK.out _ _ HS.out (fun hHeld => ?_)
          clear hK K
          try simp only [Act.put, List.setIfInBounds_toArray, List.set_cons_zero, List.set_cons_succ]
          refine takeL 9 (v := ?_) rfl (by kernel_rfl) (by kernel_rfl) (by kernel_rfl) (fun _ _ _ h => h) (Or.inl ⟨by rfl, ?_⟩) hHeld ?_
          rotate_left 1
          · (intro w hSw; go_simp; try with_reducible rfl)
          try simp only [Act.put, List.setIfInBounds_toArray, List.set_cons_zero, List.set_cons_succ]
          refine takeL 10 (v := ?_) rfl (by kernel_rfl) (by kernel_rfl) (by kernel_rfl) (fun _ _ _ h => h) (Or.inl ⟨by rfl, ?_⟩) hHeld ?_
          rotate_left 1
          · (intro w hSw; go_simp; try with_reducible rfl)
          try simp only [Act.put, List.setIfInBounds_toArray, List.set_cons_zero, List.set_cons_succ]
          refine wpAnyH_done (by kernel_rfl) ?_ _
          refine NoPanic.normal ?_
          clear hHeld
          go_wp2
          go_ret
          exact ⟨rfl, HBd.out⟩
        · rw [if_neg h4]
          go_enter Try.func25, Try.ntmps25
          go_upto_region 8 with fail
          have HS := Bx.mk HS0.out
          have HBd : Bx (Below w.heap.size w w.drew) := Bx.mk (Below.refl _ _).drew
          refine wp_region_noPanic ?_
          refine wp_region_held_drew (S := fun W => W.cell? ⟨q, 1, none⟩ = some (.map (some M)) ∧ (Instr.lookup 56 (.map (some M)) (.int .i64 s) false).run Try.prog W = .ok (.agg #[.int .i64 P, .int .i64 C]) W) (by kernel_rfl) (HS.out) (fun hHeld => ?_)
          generalize w.drew = W0 at *
          refine takeL 0 (v := ?_) rfl (by kernel_rfl) (by kernel_rfl) (by kernel_rfl) (fun _ _ _ h => h) (Or.inl ⟨by rfl, ?_⟩) hHeld ?_
          rotate_left 1
          · (intro w hSw; go_simp; try with_reducible rfl)
          try simp only [Act.put, List.setIfInBounds_toArray, List.set_cons_zero, List.set_cons_succ]
          refine takeL 1 (v := ?_) rfl (by kernel_rfl) (by kernel_rfl) (by kernel_rfl) (fun _ _ _ h => h) (Or.inl ⟨by rfl, ?_⟩) hHeld ?_
          rotate_left 1
          · (intro w hSw; go_simp; try with_reducible rfl)
          try simp only [Act.put, List.setIfInBounds_toArray, List.set_cons_zero, List.set_cons_succ]
          refine takeL 2 (v := ?_) rfl (by kernel_rfl) (by kernel_rfl) (by kernel_rfl) (fun _ _ _ h => h) (Or.inl ⟨by rfl, ?_⟩) hHeld ?_
          rotate_left 1
          · (intro w hSw; go_simp; try with_reducible rfl)
          try simp only [Act.put, List.setIfInBounds_toArray, List.set_cons_zero, List.set_cons_succ]
          refine takeL 3 (v := ?_) rfl (by kernel_rfl) (by kernel_rfl) (by kernel_rfl) (fun _ _ _ h => h) (Or.inl ⟨by rfl, ?_⟩) hHeld ?_
          rotate_left 1
          · (intro w hSw; obtain ⟨q1, q2⟩ := hSw; clear q2; go_simp; try with_reducible rfl)
          try simp only [Act.put, List.setIfInBounds_toArray, List.set_cons_zero, List.set_cons_succ]
          refine takeL 4 (v := ?_) rfl (by kernel_rfl) (by kernel_rfl) (by kernel_rfl) (fun _ _ _ h => h) (Or.inl ⟨by rfl, ?_⟩) hHeld ?_
          rotate_left 1
          · (intro w hSw; go_simp; try with_reducible rfl)
          try simp only [Act.put, List.setIfInBounds_toArray, List.set_cons_zero, List.set_cons_succ]
          refine takeL 5 (v := ?_) rfl (by kernel_rfl) (by kernel_rfl) (by kernel_rfl) (fun _ _ _ h => h) (Or.inl ⟨by rfl, ?_⟩) hHeld ?_
          rotate_left 1
          · (intro w hSw; obtain ⟨q1, q2⟩ := hSw; go_simp; try with_reducible rfl)
          try simp only [Act.put, List.setIfInBounds_toArray, List.set_cons_zero, List.set_cons_succ]
          refine takeL 6 (v := ?_) rfl (by kernel_rfl) (by kernel_rfl) (by kernel_rfl) (fun _ _ _ h => h) (Or.inl ⟨by rfl, ?_⟩) hHeld ?_
          rotate_left 1
          · (intro w hSw; go_simp; try with_reducible rfl)
          try simp only [Act.put, List.setIfInBounds_toArray, List.set_cons_zero, List.set_cons_succ]
          refine takeL 7 (v := ?_) rfl (by kernel_rfl) (by kernel_rfl) (by kernel_rfl) (fun _ _ _ h => h) (Or.inl ⟨by rfl, ?_⟩) hHeld ?_
          rotate_left 1
          · (intro w hSw; go_simp; try with_reducible rfl)
          try simp only [Act.put, List.setIfInBounds_toArray, List.set_cons_zero, List.set_cons_succ]
          refine stepL 8 (by kernel_rfl) rfl (fun K hK => ?_)
          go_simp
          refine (period_any t _ HT.out.1 HT.out.2).mono ?_
          rintro e W1 ⟨rfl, rfl⟩
          show K _ _
          refine hK.out _ _ HS.out (fun hHeld => ?_)
          clear hK K
          try simp only [Act.put, List.setIfInBounds_toArray, List.set_cons_zero, List.set_cons_succ]
          refine takeL 9 (v := ?_) rfl (by kernel_rfl) (by kernel_rfl) (by kernel_rfl) (fun _ _ _ h => h) (Or.inl ⟨by rfl, ?_⟩) hHeld ?_
          rotate_left 1
          · (intro w hSw; go_simp; try with_reducible rfl)
          try simp only [Act.put, List.setIfInBounds_toArray, List.set_cons_zero, List.set_cons_succ]
          refine takeL 10 (v := ?_) rfl (by kernel_rfl) (by kernel_rfl) (by kernel_rfl) (fun _ _ _ h => h) (Or.inl ⟨by rfl, ?_⟩) hHeld ?_
          rotate_left 1
          · (intro w hSw; go_simp; try with_reducible rfl)
          try simp only [Act.put, List.setIfInBounds_toArray, List.set_cons_zero, List.set_cons_succ]
          refine wpAnyH_done (by kernel_rfl) ?_ _
          refine NoPanic.normal ?_
          clear hHeld
          go_wp2
          go_ret
          exact ⟨rfl, HBd.out⟩
end Go.Proofs.Ytplkoijgokkmfaa
