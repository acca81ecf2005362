/-
  A ring's methods: Drop.
-/
import Derived.Test.YtnefpjdjnjcmbaaGreatDoorYr
namespace Go.Proofs.YtnefpjdjnjcmbaaGreatDoor
open Go Go.RowKit
theorem step_del {w w1 : World} {ops : Array Oper} {o : Oper} {a : Act} {K : Act → World → Prop} {Q : Exit → Act → World → Prop} {E : Prop} (hgd : o.guard = none) (x y : Operand)
    (ho : o.op = .call { callee := .builtin .delete, args := #[x, y], argTypes := #[70, 26] }) (hrun : (Builtin.delete_ #[70, 26] o.type #[a.eval x, a.eval y]).run Tryz.prog w = .ok (.tuple #[]) w1) (h : K (a.put o.dst (.tuple #[])) w1) :
    if Region.wanted o (yielded ops a.tmps) = true then Oper.wp Tryz.prog o a w K Q else E := by
  have hw : Region.wanted o (yielded ops a.tmps) = true := by simp [Region.wanted, hgd]
  rw [if_pos hw]
  unfold Oper.wp
  simp [execOp, ho, resolve, invoke, builtin, hrun, Result.andThen]
  exact h
/-- A ring in the midst of a round. -/
def Ring3 (R B : Nat) (tk : List Value) (mv : Value) (lb : List Value) (l : List (Cl × Nat)) (w W : World) : Prop := RingAt W R tk mv lb ∧ MapV W B mv l ∧ KP R R B w W
theorem Ring3.later {R B : Nat} {tk : List Value} {mv : Value} {lb : List Value} {l : List (Cl × Nat)} {w W W1 : World} (h : Ring3 R B tk mv lb l w W) (hb : Below W.heap.size W W1) : Ring3 R B tk mv lb l w W1 :=
  ⟨h.1.later (hb.block R h.1.lt), h.2.1.later hb, h.2.2.trans (KP.below hb)⟩
theorem atC_drop (l : List (Cl × Nat)) (c : Cl) : atC (l.filter fun y => decide (y.1 ≠ c)) c = none := atC_none fun x hx => by
  have := (List.mem_filter.1 hx).2
  simpa using this
set_option maxRecDepth 100000 in
set_option maxHeartbeats 2000000 in
theorem drop_none (R B G : Nat) (tk : List Value) (mv : Value) (lb : List Value) (l : List (Cl × Nat)) (i r x q : Int) (w : World) (hr : RingAt w R tk mv lb) (hm : MapV w B mv l) (hRB : R < B) (hc : Cl64 ⟨i, r, x, q⟩) (hG : w.heap[G]? = some (.cells #[.int .i64 i, .int .i64 r, .int .i64 x, .int .i64 q, .int .i64 i, .int .i64 r, .int .i64 x, .int .i64 q] 26 (0, 0))) (hGR : G ≠ R) (ha : atC l ⟨i, r, x, q⟩ = none) :
    Calls Tryz.prog 14 #[.pointer (some ⟨R, 0, none⟩), .slice (some ⟨G, 0, none⟩) 2 2] w fun e w' => e = .returned (.int .i64 0) ∧ Ring3 R B tk mv lb l w w' := by
  have H0 : Bx (Ring3 R B tk mv lb l w w) := Bx.mk ⟨hr, hm, KP.refl _ _ _ _⟩
  have HG : Bx (∀ W, KP R R B w W → W.heap[G]? = some (.cells #[.int .i64 i, .int .i64 r, .int .i64 x, .int .i64 q, .int .i64 i, .int .i64 r, .int .i64 x, .int .i64 q] 26 (0, 0))) := Bx.mk fun W k => k.block G _ hG hGR hGR (.inr rfl)
  have HC : Bx (R < B ∧ Cl64 ⟨i, r, x, q⟩) := Bx.mk ⟨hRB, hc⟩
  have HA := Bx.mk ha
  clear hr hm hRB hc hG hGR ha
  go_enter Tryz.func14, Tryz.ntmps14
  go_wp2_with fail
  go_step3
  go_wp2_with fail
  go_step3
  go_wp2
  go_loopw [14, 5] (fun j d wr => ∃ k : Nat, k ≤ 2 ∧ j = .int .i64 (k : Int) ∧ d = .int .i64 0 ∧ Bx (Ring3 R B tk mv lb l w wr)) (fun j _ _ => 2 - (intOf j).toNat)
  case atStart => exact ⟨0, Nat.zero_le _, rfl, rfl, H0⟩
  case round =>
    clear H0
    obtain ⟨k, hk, rfl, rfl, HI⟩ := hrel
    obtain rfl | rfl | rfl : k = 0 ∨ k = 1 ∨ k = 2 := by omega
    · have hg := HG.out wr HI.out.2.2
      have g0 : wr.cell? ⟨G, 0, none⟩ = some (.int .i64 i) := by rw [cell_of_row _ _ _ _ _ _ hg]; rfl
      have g1 : wr.cell? ⟨G, 1, none⟩ = some (.int .i64 r) := by rw [cell_of_row _ _ _ _ _ _ hg]; rfl
      have g2 : wr.cell? ⟨G, 2, none⟩ = some (.int .i64 x) := by rw [cell_of_row _ _ _ _ _ _ hg]; rfl
      have g3 : wr.cell? ⟨G, 3, none⟩ = some (.int .i64 q) := by rw [cell_of_row _ _ _ _ _ _ hg]; rfl
      have A0 : Bx (Ring3 R B tk mv lb l w (wr.alloc (.cells #[.int .i64 i, .int .i64 r, .int .i64 x, .int .i64 q] 26)) ∧ (wr.alloc (.cells #[.int .i64 i, .int .i64 r, .int .i64 x, .int .i64 q] 26)).heap[wr.heap.size]? = some (.cells #[.int .i64 i, .int .i64 r, .int .i64 x, .int .i64 q] 26 (0, 0)) ∧ wr.heap.size < (wr.alloc (.cells #[.int .i64 i, .int .i64 r, .int .i64 x, .int .i64 q] 26)).heap.size) := Bx.mk ⟨HI.out.later (below_a _), hnew _ _ _ rfl, by simp⟩
      clear hg
      go_upto_region 7 with fail
      generalize hwa : wr.alloc (.cells #[.int .i64 i, .int .i64 r, .int .i64 x, .int .i64 q] 26) = wa at *
      generalize hX : wr.heap.size = X at *
      clear hX hwa g0 g1 g2 g3
      have A1 : Bx (Ring3 R B tk mv lb l w wa.drew ∧ wa.drew.heap[X]? = some (.cells #[.int .i64 i, .int .i64 r, .int .i64 x, .int .i64 q] 26 (0, 0)) ∧ X < wa.drew.heap.size) := Bx.mk ⟨A0.out.1.later (Below.refl _ _).drew, A0.out.2.1, A0.out.2.2⟩
      clear A0
      have hlk : (Instr.lookup 70 mv (.agg #[.int .i64 i, .int .i64 r, .int .i64 x, .int .i64 q]) true).run Tryz.prog wa.drew = .ok (.tuple #[.pointer none, .bool false]) wa.drew := by
        have h := A1.out.1.2.1.look ⟨i, r, x, q⟩ HC.out.2
        rw [(HA.out)] at h
        exact h
      refine wp_region_noPanic ?_
      refine wp_region_held_drew (S := fun W => W.cell? ⟨R, 36, none⟩ = some mv ∧ (W.rangeAt X 0 [.int .i64 i, .int .i64 r, .int .i64 x, .int .i64 q] ∧ (Instr.lookup 70 mv (.agg #[.int .i64 i, .int .i64 r, .int .i64 x, .int .i64 q]) true).run Tryz.prog W = .ok (.tuple #[.pointer none, .bool false]) W)) (by kernel_rfl) (⟨A1.out.1.1.map, row_rng (l := [.int .i64 i, .int .i64 r, .int .i64 x, .int .i64 q]) A1.out.2.1, hlk⟩) (fun hHeld => ?_)
      clear hlk
      generalize wa.drew = W0 at *
      clear wa
      refine takeL 0 (v := ?_) rfl (by kernel_rfl) (by kernel_rfl) (by kernel_rfl) (fun _ _ _ h => h) (Or.inl ⟨by rfl, ?_⟩) hHeld ?_
      rotate_left 1
      · (intro w hSw; go_simp; try with_reducible rfl)
      try simp only [Act.put, List.setIfInBounds_toArray, List.set_cons_zero, List.set_cons_succ]
      refine takeL 1 (v := ?_) rfl (by kernel_rfl) (by kernel_rfl) (by kernel_rfl) (fun _ _ _ h => h) (Or.inl ⟨by rfl, ?_⟩) hHeld ?_
      rotate_left 1
      · (intro w hSw; go_simp; try with_reducible rfl)
      try simp only [Act.put, List.setIfInBounds_toArray, List.set_cons_zero, List.set_cons_succ]
      refine takeL 2 (v := ?_) rfl (by kernel_rfl) (by kernel_rfl) (by kernel_rfl) (fun _ _ _ h => h) (Or.inl ⟨by rfl, ?_⟩) hHeld ?_
      rotate_left 1
      · (intro w hSw; go_simp; try with_reducible rfl)
      try simp only [Act.put, List.setIfInBounds_toArray, List.set_cons_zero, List.set_cons_succ]
      refine takeL 3 (v := ?_) rfl (by kernel_rfl) (by kernel_rfl) (by kernel_rfl) (fun _ _ _ h => h) (Or.inl ⟨by rfl, ?_⟩) hHeld ?_
      rotate_left 1
      · (intro w hSw; have h1 := hSw.1; go_simp; try with_reducible rfl)
      try simp only [Act.put, List.setIfInBounds_toArray, List.set_cons_zero, List.set_cons_succ]
      refine takeL 4 rfl (by kernel_rfl) (by kernel_rfl) (by kernel_rfl) (fun _ _ _ h => h) (yieldsIf_load_mid (by rfl) _ _ rfl _ _ rfl _ _ (fun w hSw => hSw.2.1) Tryz.underlying26 rfl (by kernel_rfl)) hHeld ?_
      try simp only [Act.put, List.setIfInBounds_toArray, List.set_cons_zero, List.set_cons_succ]
      refine takeL 5 (v := ?_) rfl (by kernel_rfl) (by kernel_rfl) (by kernel_rfl) (fun _ _ _ h => h) (Or.inl ⟨by rfl, ?_⟩) hHeld ?_
      rotate_left 1
      · (intro w hSw; have h3 := hSw.2.2; go_simp; try with_reducible rfl)
      try simp only [Act.put, List.setIfInBounds_toArray, List.set_cons_zero, List.set_cons_succ]
      refine takeL 6 (v := ?_) rfl (by kernel_rfl) (by kernel_rfl) (by kernel_rfl) (fun _ _ _ h => h) (Or.inl ⟨by rfl, ?_⟩) hHeld ?_
      rotate_left 1
      · (intro w hSw; go_simp; try with_reducible rfl)
      try simp only [Act.put, List.setIfInBounds_toArray, List.set_cons_zero, List.set_cons_succ]
      refine takeL 7 (v := ?_) rfl (by kernel_rfl) (by kernel_rfl) (by kernel_rfl) (fun _ _ _ h => h) (Or.inl ⟨by rfl, ?_⟩) hHeld ?_
      rotate_left 1
      · (intro w hSw; go_simp; try with_reducible rfl)
      try simp only [Act.put, List.setIfInBounds_toArray, List.set_cons_zero, List.set_cons_succ]
      refine takeL 8 (v := ?_) rfl (by kernel_rfl) (by kernel_rfl) (by kernel_rfl) (fun _ _ _ h => h) (Or.inl ⟨by rfl, ?_⟩) hHeld ?_
      rotate_left 1
      · (intro w hSw; go_simp; try with_reducible rfl)
      try simp only [Act.put, List.setIfInBounds_toArray, List.set_cons_zero, List.set_cons_succ]
      refine takeL 9 (v := ?_) rfl (by kernel_rfl) (by kernel_rfl) (by kernel_rfl) (fun _ _ _ h => h) (Or.inl ⟨by rfl, ?_⟩) hHeld ?_
      rotate_left 1
      · (intro w hSw; go_simp; try with_reducible rfl)
      try simp only [Act.put, List.setIfInBounds_toArray, List.set_cons_zero, List.set_cons_succ]
      refine takeL 10 (v := ?_) rfl (by kernel_rfl) (by kernel_rfl) (by kernel_rfl) (fun _ _ _ h => h) (Or.inl ⟨by rfl, ?_⟩) hHeld ?_
      rotate_left 1
      · (intro w hSw; go_simp; try with_reducible rfl)
      try simp only [Act.put, List.setIfInBounds_toArray, List.set_cons_zero, List.set_cons_succ]
      refine wpAnyH_done (by kernel_rfl) ?_ _
      refine NoPanic.normal ?_
      clear hHeld
      go_wp2
      go_roundw
      case rel => exact ⟨1, by omega, rfl, rfl, ⟨A1.out.1⟩⟩
      case measure => simp [intOf]
    · have hg := HG.out wr HI.out.2.2
      have g0 : wr.cell? ⟨G, 4, none⟩ = some (.int .i64 i) := by rw [cell_of_row _ _ _ _ _ _ hg]; rfl
      have g1 : wr.cell? ⟨G, 5, none⟩ = some (.int .i64 r) := by rw [cell_of_row _ _ _ _ _ _ hg]; rfl
      have g2 : wr.cell? ⟨G, 6, none⟩ = some (.int .i64 x) := by rw [cell_of_row _ _ _ _ _ _ hg]; rfl
      have g3 : wr.cell? ⟨G, 7, none⟩ = some (.int .i64 q) := by rw [cell_of_row _ _ _ _ _ _ hg]; rfl
      have A0 : Bx (Ring3 R B tk mv lb l w (wr.alloc (.cells #[.int .i64 i, .int .i64 r, .int .i64 x, .int .i64 q] 26)) ∧ (wr.alloc (.cells #[.int .i64 i, .int .i64 r, .int .i64 x, .int .i64 q] 26)).heap[wr.heap.size]? = some (.cells #[.int .i64 i, .int .i64 r, .int .i64 x, .int .i64 q] 26 (0, 0)) ∧ wr.heap.size < (wr.alloc (.cells #[.int .i64 i, .int .i64 r, .int .i64 x, .int .i64 q] 26)).heap.size) := Bx.mk ⟨HI.out.later (below_a _), hnew _ _ _ rfl, by simp⟩
      clear hg
      go_upto_region 7 with fail
      generalize hwa : wr.alloc (.cells #[.int .i64 i, .int .i64 r, .int .i64 x, .int .i64 q] 26) = wa at *
      generalize hX : wr.heap.size = X at *
      clear hX hwa g0 g1 g2 g3
      have A1 : Bx (Ring3 R B tk mv lb l w wa.drew ∧ wa.drew.heap[X]? = some (.cells #[.int .i64 i, .int .i64 r, .int .i64 x, .int .i64 q] 26 (0, 0)) ∧ X < wa.drew.heap.size) := Bx.mk ⟨A0.out.1.later (Below.refl _ _).drew, A0.out.2.1, A0.out.2.2⟩
      clear A0
      have hlk : (Instr.lookup 70 mv (.agg #[.int .i64 i, .int .i64 r, .int .i64 x, .int .i64 q]) true).run Tryz.prog wa.drew = .ok (.tuple #[.pointer none, .bool false]) wa.drew := by
        have h := A1.out.1.2.1.look ⟨i, r, x, q⟩ HC.out.2
        rw [(HA.out)] at h
        exact h
      refine wp_region_noPanic ?_
      refine wp_region_held_drew (S := fun W => W.cell? ⟨R, 36, none⟩ = some mv ∧ (W.rangeAt X 0 [.int .i64 i, .int .i64 r, .int .i64 x, .int .i64 q] ∧ (Instr.lookup 70 mv (.agg #[.int .i64 i, .int .i64 r, .int .i64 x, .int .i64 q]) true).run Tryz.prog W = .ok (.tuple #[.pointer none, .bool false]) W)) (by kernel_rfl) (⟨A1.out.1.1.map, row_rng (l := [.int .i64 i, .int .i64 r, .int .i64 x, .int .i64 q]) A1.out.2.1, hlk⟩) (fun hHeld => ?_)
      clear hlk
      generalize wa.drew = W0 at *
      clear wa
      refine takeL 0 (v := ?_) rfl (by kernel_rfl) (by kernel_rfl) (by kernel_rfl) (fun _ _ _ h => h) (Or.inl ⟨by rfl, ?_⟩) hHeld ?_
      rotate_left 1
      · (intro w hSw; go_simp; try with_reducible rfl)
      try simp only [Act.put, List.setIfInBounds_toArray, List.set_cons_zero, List.set_cons_succ]
      refine takeL 1 (v := ?_) rfl (by kernel_rfl) (by kernel_rfl) (by kernel_rfl) (fun _ _ _ h => h) (Or.inl ⟨by rfl, ?_⟩) hHeld ?_
      rotate_left 1
      · (intro w hSw; go_simp; try with_reducible rfl)
      try simp only [Act.put, List.setIfInBounds_toArray, List.set_cons_zero, List.set_cons_succ]
      refine takeL 2 (v := ?_) rfl (by kernel_rfl) (by kernel_rfl) (by kernel_rfl) (fun _ _ _ h => h) (Or.inl ⟨by rfl, ?_⟩) hHeld ?_
      rotate_left 1
      · (intro w hSw; go_simp; try with_reducible rfl)
      try simp only [Act.put, List.setIfInBounds_toArray, List.set_cons_zero, List.set_cons_succ]
      refine takeL 3 (v := ?_) rfl (by kernel_rfl) (by kernel_rfl) (by kernel_rfl) (fun _ _ _ h => h) (Or.inl ⟨by rfl, ?_⟩) hHeld ?_
      rotate_left 1
      · (intro w hSw; have h1 := hSw.1; go_simp; try with_reducible rfl)
      try simp only [Act.put, List.setIfInBounds_toArray, List.set_cons_zero, List.set_cons_succ]
      refine takeL 4 rfl (by kernel_rfl) (by kernel_rfl) (by kernel_rfl) (fun _ _ _ h => h) (yieldsIf_load_mid (by rfl) _ _ rfl _ _ rfl _ _ (fun w hSw => hSw.2.1) Tryz.underlying26 rfl (by kernel_rfl)) hHeld ?_
      try simp only [Act.put, List.setIfInBounds_toArray, List.set_cons_zero, List.set_cons_succ]
      refine takeL 5 (v := ?_) rfl (by kernel_rfl) (by kernel_rfl) (by kernel_rfl) (fun _ _ _ h => h) (Or.inl ⟨by rfl, ?_⟩) hHeld ?_
      rotate_left 1
      · (intro w hSw; have h3 := hSw.2.2; go_simp; try with_reducible rfl)
      try simp only [Act.put, List.setIfInBounds_toArray, List.set_cons_zero, List.set_cons_succ]
      refine takeL 6 (v := ?_) rfl (by kernel_rfl) (by kernel_rfl) (by kernel_rfl) (fun _ _ _ h => h) (Or.inl ⟨by rfl, ?_⟩) hHeld ?_
      rotate_left 1
      · (intro w hSw; go_simp; try with_reducible rfl)
      try simp only [Act.put, List.setIfInBounds_toArray, List.set_cons_zero, List.set_cons_succ]
      refine takeL 7 (v := ?_) rfl (by kernel_rfl) (by kernel_rfl) (by kernel_rfl) (fun _ _ _ h => h) (Or.inl ⟨by rfl, ?_⟩) hHeld ?_
      rotate_left 1
      · (intro w hSw; go_simp; try with_reducible rfl)
      try simp only [Act.put, List.setIfInBounds_toArray, List.set_cons_zero, List.set_cons_succ]
      refine takeL 8 (v := ?_) rfl (by kernel_rfl) (by kernel_rfl) (by kernel_rfl) (fun _ _ _ h => h) (Or.inl ⟨by rfl, ?_⟩) hHeld ?_
      rotate_left 1
      · (intro w hSw; go_simp; try with_reducible rfl)
      try simp only [Act.put, List.setIfInBounds_toArray, List.set_cons_zero, List.set_cons_succ]
      refine takeL 9 (v := ?_) rfl (by kernel_rfl) (by kernel_rfl) (by kernel_rfl) (fun _ _ _ h => h) (Or.inl ⟨by rfl, ?_⟩) hHeld ?_
      rotate_left 1
      · (intro w hSw; go_simp; try with_reducible rfl)
      try simp only [Act.put, List.setIfInBounds_toArray, List.set_cons_zero, List.set_cons_succ]
      refine takeL 10 (v := ?_) rfl (by kernel_rfl) (by kernel_rfl) (by kernel_rfl) (fun _ _ _ h => h) (Or.inl ⟨by rfl, ?_⟩) hHeld ?_
      rotate_left 1
      · (intro w hSw; go_simp; try with_reducible rfl)
      try simp only [Act.put, List.setIfInBounds_toArray, List.set_cons_zero, List.set_cons_succ]
      refine wpAnyH_done (by kernel_rfl) ?_ _
      refine NoPanic.normal ?_
      clear hHeld
      go_wp2
      go_roundw
      case rel => exact ⟨2, by omega, rfl, rfl, ⟨A1.out.1⟩⟩
      case measure => simp [intOf]
    · go_wp2
      try rw [Exit.noGoto_ret]
      go_ret
      exact ⟨rfl, HI.out⟩
set_option maxRecDepth 100000 in
set_option maxHeartbeats 2000000 in
theorem drop_some (R B G : Nat) (tk : List Value) (mv : Value) (lb : List Value) (l : List (Cl × Nat)) (i r x q : Int) (w : World) (hr : RingAt w R tk mv lb) (hm : MapV w B mv l) (hRB : R < B) (hc : Cl64 ⟨i, r, x, q⟩) (hG : w.heap[G]? = some (.cells #[.int .i64 i, .int .i64 r, .int .i64 x, .int .i64 q, .int .i64 i, .int .i64 r, .int .i64 x, .int .i64 q] 26 (0, 0))) (hGR : G ≠ R) (p : Nat) (ha : atC l ⟨i, r, x, q⟩ = some p) :
    Calls Tryz.prog 14 #[.pointer (some ⟨R, 0, none⟩), .slice (some ⟨G, 0, none⟩) 2 2] w fun e w' => e = .returned (.int .i64 1) ∧ Ring3 R B tk mv lb (l.filter fun y => decide (y.1 ≠ ⟨i, r, x, q⟩)) w w' := by
  have H0 : Bx (Ring3 R B tk mv lb l w w) := Bx.mk ⟨hr, hm, KP.refl _ _ _ _⟩
  have HG : Bx (∀ W, KP R R B w W → W.heap[G]? = some (.cells #[.int .i64 i, .int .i64 r, .int .i64 x, .int .i64 q, .int .i64 i, .int .i64 r, .int .i64 x, .int .i64 q] 26 (0, 0))) := Bx.mk fun W k => k.block G _ hG hGR hGR (.inr rfl)
  have HC : Bx (R < B ∧ Cl64 ⟨i, r, x, q⟩) := Bx.mk ⟨hRB, hc⟩
  have HA := Bx.mk ha
  clear hr hm hRB hc hG hGR ha
  go_enter Tryz.func14, Tryz.ntmps14
  go_wp2_with fail
  go_step3
  go_wp2_with fail
  go_step3
  go_wp2
  go_loopw [14, 5] (fun j d wr => ∃ k : Nat, k ≤ 2 ∧ j = .int .i64 (k : Int) ∧ ((k = 0 ∧ d = .int .i64 0 ∧ Bx (Ring3 R B tk mv lb l w wr)) ∨ (1 ≤ k ∧ d = .int .i64 1 ∧ Bx (Ring3 R B tk mv lb (l.filter fun y => decide (y.1 ≠ ⟨i, r, x, q⟩)) w wr)))) (fun j _ _ => 2 - (intOf j).toNat)
  case atStart => exact ⟨0, Nat.zero_le _, rfl, .inl ⟨rfl, rfl, H0⟩⟩
  case round =>
    clear H0
    obtain ⟨k, hk, rfl, hrel⟩ := hrel
    rcases hrel with ⟨rfl, rfl, HI⟩ | ⟨hk1, rfl, HI⟩
    · have hg := HG.out wr HI.out.2.2
      have g0 : wr.cell? ⟨G, 0, none⟩ = some (.int .i64 i) := by rw [cell_of_row _ _ _ _ _ _ hg]; rfl
      have g1 : wr.cell? ⟨G, 1, none⟩ = some (.int .i64 r) := by rw [cell_of_row _ _ _ _ _ _ hg]; rfl
      have g2 : wr.cell? ⟨G, 2, none⟩ = some (.int .i64 x) := by rw [cell_of_row _ _ _ _ _ _ hg]; rfl
      have g3 : wr.cell? ⟨G, 3, none⟩ = some (.int .i64 q) := by rw [cell_of_row _ _ _ _ _ _ hg]; rfl
      have A0 : Bx (Ring3 R B tk mv lb l w (wr.alloc (.cells #[.int .i64 i, .int .i64 r, .int .i64 x, .int .i64 q] 26)) ∧ (wr.alloc (.cells #[.int .i64 i, .int .i64 r, .int .i64 x, .int .i64 q] 26)).heap[wr.heap.size]? = some (.cells #[.int .i64 i, .int .i64 r, .int .i64 x, .int .i64 q] 26 (0, 0)) ∧ wr.heap.size < (wr.alloc (.cells #[.int .i64 i, .int .i64 r, .int .i64 x, .int .i64 q] 26)).heap.size) := Bx.mk ⟨HI.out.later (below_a _), hnew _ _ _ rfl, by simp⟩
      clear hg
      go_upto_region 7 with fail
      generalize hwa : wr.alloc (.cells #[.int .i64 i, .int .i64 r, .int .i64 x, .int .i64 q] 26) = wa at *
      generalize hX : wr.heap.size = X at *
      clear hX hwa g0 g1 g2 g3
      have A1 : Bx (Ring3 R B tk mv lb l w wa.drew ∧ wa.drew.heap[X]? = some (.cells #[.int .i64 i, .int .i64 r, .int .i64 x, .int .i64 q] 26 (0, 0)) ∧ X < wa.drew.heap.size) := Bx.mk ⟨A0.out.1.later (Below.refl _ _).drew, A0.out.2.1, A0.out.2.2⟩
      clear A0
      have hlk : (Instr.lookup 70 mv (.agg #[.int .i64 i, .int .i64 r, .int .i64 x, .int .i64 q]) true).run Tryz.prog wa.drew = .ok (.tuple #[.pointer (some ⟨p, 0, none⟩), .bool true]) wa.drew := by
        have h := A1.out.1.2.1.look ⟨i, r, x, q⟩ HC.out.2
        rw [(HA.out)] at h
        exact h
      refine wp_region_noPanic ?_
      refine wp_region_held_drew (S := fun W => W.cell? ⟨R, 36, none⟩ = some mv ∧ (W.rangeAt X 0 [.int .i64 i, .int .i64 r, .int .i64 x, .int .i64 q] ∧ (Instr.lookup 70 mv (.agg #[.int .i64 i, .int .i64 r, .int .i64 x, .int .i64 q]) true).run Tryz.prog W = .ok (.tuple #[.pointer (some ⟨p, 0, none⟩), .bool true]) W)) (by kernel_rfl) (⟨A1.out.1.1.map, row_rng (l := [.int .i64 i, .int .i64 r, .int .i64 x, .int .i64 q]) A1.out.2.1, hlk⟩) (fun hHeld => ?_)
      clear hlk
      generalize wa.drew = W0 at *
      clear wa
      refine takeL 0 (v := ?_) rfl (by kernel_rfl) (by kernel_rfl) (by kernel_rfl) (fun _ _ _ h => h) (Or.inl ⟨by rfl, ?_⟩) hHeld ?_
      rotate_left 1
      · (intro w hSw; go_simp; try with_reducible rfl)
      try simp only [Act.put, List.setIfInBounds_toArray, List.set_cons_zero, List.set_cons_succ]
      refine takeL 1 (v := ?_) rfl (by kernel_rfl) (by kernel_rfl) (by kernel_rfl) (fun _ _ _ h => h) (Or.inl ⟨by rfl, ?_⟩) hHeld ?_
      rotate_left 1
      · (intro w hSw; go_simp; try with_reducible rfl)
      try simp only [Act.put, List.setIfInBounds_toArray, List.set_cons_zero, List.set_cons_succ]
      refine takeL 2 (v := ?_) rfl (by kernel_rfl) (by kernel_rfl) (by kernel_rfl) (fun _ _ _ h => h) (Or.inl ⟨by rfl, ?_⟩) hHeld ?_
      rotate_left 1
      · (intro w hSw; go_simp; try with_reducible rfl)
      try simp only [Act.put, List.setIfInBounds_toArray, List.set_cons_zero, List.set_cons_succ]
      refine takeL 3 (v := ?_) rfl (by kernel_rfl) (by kernel_rfl) (by kernel_rfl) (fun _ _ _ h => h) (Or.inl ⟨by rfl, ?_⟩) hHeld ?_
      rotate_left 1
      · (intro w hSw; have h1 := hSw.1; go_simp; try with_reducible rfl)
      try simp only [Act.put, List.setIfInBounds_toArray, List.set_cons_zero, List.set_cons_succ]
      refine takeL 4 rfl (by kernel_rfl) (by kernel_rfl) (by kernel_rfl) (fun _ _ _ h => h) (yieldsIf_load_mid (by rfl) _ _ rfl _ _ rfl _ _ (fun w hSw => hSw.2.1) Tryz.underlying26 rfl (by kernel_rfl)) hHeld ?_
      try simp only [Act.put, List.setIfInBounds_toArray, List.set_cons_zero, List.set_cons_succ]
      refine takeL 5 (v := ?_) rfl (by kernel_rfl) (by kernel_rfl) (by kernel_rfl) (fun _ _ _ h => h) (Or.inl ⟨by rfl, ?_⟩) hHeld ?_
      rotate_left 1
      · (intro w hSw; have h3 := hSw.2.2; go_simp; try with_reducible rfl)
      try simp only [Act.put, List.setIfInBounds_toArray, List.set_cons_zero, List.set_cons_succ]
      refine takeL 6 (v := ?_) rfl (by kernel_rfl) (by kernel_rfl) (by kernel_rfl) (fun _ _ _ h => h) (Or.inl ⟨by rfl, ?_⟩) hHeld ?_
      rotate_left 1
      · (intro w hSw; go_simp; try with_reducible rfl)
      try simp only [Act.put, List.setIfInBounds_toArray, List.set_cons_zero, List.set_cons_succ]
      refine takeL 7 (v := ?_) rfl (by kernel_rfl) (by kernel_rfl) (by kernel_rfl) (fun _ _ _ h => h) (Or.inl ⟨by rfl, ?_⟩) hHeld ?_
      rotate_left 1
      · (intro w hSw; go_simp; try with_reducible rfl)
      try simp only [Act.put, List.setIfInBounds_toArray, List.set_cons_zero, List.set_cons_succ]
      refine takeL 8 (v := ?_) rfl (by kernel_rfl) (by kernel_rfl) (by kernel_rfl) (fun _ _ _ h => h) (Or.inl ⟨by rfl, ?_⟩) hHeld ?_
      rotate_left 1
      · (intro w hSw; go_simp; try with_reducible rfl)
      try simp only [Act.put, List.setIfInBounds_toArray, List.set_cons_zero, List.set_cons_succ]
      refine takeL 9 (v := ?_) rfl (by kernel_rfl) (by kernel_rfl) (by kernel_rfl) (fun _ _ _ h => h) (Or.inl ⟨by rfl, ?_⟩) hHeld ?_
      rotate_left 1
      · (intro w hSw; go_simp; try with_reducible rfl)
      try simp only [Act.put, List.setIfInBounds_toArray, List.set_cons_zero, List.set_cons_succ]
      refine takeL 10 (v := ?_) rfl (by kernel_rfl) (by kernel_rfl) (by kernel_rfl) (fun _ _ _ h => h) (Or.inl ⟨by rfl, ?_⟩) hHeld ?_
      rotate_left 1
      · (intro w hSw; go_simp; try with_reducible rfl)
      try simp only [Act.put, List.setIfInBounds_toArray, List.set_cons_zero, List.set_cons_succ]
      refine wpAnyH_done (by kernel_rfl) ?_ _
      refine NoPanic.normal ?_
      clear hHeld
      obtain ⟨M, hMv, hBM, hM⟩ : ∃ M, mv = .map (some M) ∧ B ≤ M ∧ MapL W0 M l := by
        rcases A1.out.1.2.1 with ⟨_, h2⟩ | h
        · have h3 := HA.out
          rw [h2] at h3
          cases h3
        · exact h
      subst hMv
      have HM := Bx.mk (And.intro hBM hM)
      clear hBM hM
      go_upto_region 9 with fail
      have A2 : Bx (Ring3 R B tk (.map (some M)) lb l w W0.drew ∧ W0.drew.heap[X]? = some (.cells #[.int .i64 i, .int .i64 r, .int .i64 x, .int .i64 q] 26 (0, 0)) ∧ X < W0.drew.heap.size ∧ B ≤ M ∧ MapL W0.drew M l) := Bx.mk ⟨A1.out.1.later (Below.refl _ _).drew, A1.out.2.1, A1.out.2.2, HM.out.1, HM.out.2.later rfl⟩
      clear A1 HM
      refine wp_region_noPanic ?_
      refine wp_region_held_drew (S := fun W => W.cell? ⟨R, 36, none⟩ = some (.map (some M)) ∧ W.rangeAt X 0 [.int .i64 i, .int .i64 r, .int .i64 x, .int .i64 q]) (by kernel_rfl) (⟨A2.out.1.1.map, row_rng (l := [.int .i64 i, .int .i64 r, .int .i64 x, .int .i64 q]) A2.out.2.1⟩) (fun hHeld => ?_)
      generalize W0.drew = W1 at *
      clear W0
      refine takeL 0 (v := ?_) rfl (by kernel_rfl) (by kernel_rfl) (by kernel_rfl) (fun _ _ _ h => h) (Or.inl ⟨by rfl, ?_⟩) hHeld ?_
      rotate_left 1
      · (intro w hSw; go_simp; try with_reducible rfl)
      try simp only [Act.put, List.setIfInBounds_toArray, List.set_cons_zero, List.set_cons_succ]
      refine takeL 1 (v := ?_) rfl (by kernel_rfl) (by kernel_rfl) (by kernel_rfl) (fun _ _ _ h => h) (Or.inl ⟨by rfl, ?_⟩) hHeld ?_
      rotate_left 1
      · (intro w hSw; go_simp; try with_reducible rfl)
      try simp only [Act.put, List.setIfInBounds_toArray, List.set_cons_zero, List.set_cons_succ]
      refine takeL 2 (v := ?_) rfl (by kernel_rfl) (by kernel_rfl) (by kernel_rfl) (fun _ _ _ h => h) (Or.inl ⟨by rfl, ?_⟩) hHeld ?_
      rotate_left 1
      · (intro w hSw; go_simp; try with_reducible rfl)
      try simp only [Act.put, List.setIfInBounds_toArray, List.set_cons_zero, List.set_cons_succ]
      refine takeL 3 (v := ?_) rfl (by kernel_rfl) (by kernel_rfl) (by kernel_rfl) (fun _ _ _ h => h) (Or.inl ⟨by rfl, ?_⟩) hHeld ?_
      rotate_left 1
      · (intro w hSw; have h1 := hSw.1; go_simp; try with_reducible rfl)
      try simp only [Act.put, List.setIfInBounds_toArray, List.set_cons_zero, List.set_cons_succ]
      refine takeL 4 rfl (by kernel_rfl) (by kernel_rfl) (by kernel_rfl) (fun _ _ _ h => h) (yieldsIf_load_mid (by rfl) _ _ rfl _ _ rfl _ _ (fun w hSw => hSw.2) Tryz.underlying26 rfl (by kernel_rfl)) hHeld ?_
      try simp only [Act.put, List.setIfInBounds_toArray, List.set_cons_zero, List.set_cons_succ]
      refine stepL 5 (by kernel_rfl) rfl (fun K hK => ?_)
      obtain ⟨W2, hrun, hm2, hg2⟩ := A2.out.2.2.2.2.drop ⟨i, r, x, q⟩ HC.out.2 0
      have hXM : X ≠ M := fun e => by
        obtain ⟨o, h1, h2⟩ := A2.out.2.2.2.2.walk
        rw [← e, A2.out.2.1] at h1
        injection h1 with h1
        rw [← h1] at h2
        cases h2
      have hr2 := A2.out.1.1.later (hg2.block R A2.out.1.1.lt (fun e => by injection e with e; have h1 := HC.out.1; have h2 := A2.out.2.2.2.1; omega))
      have hx2 : W2.heap[X]? = some (.cells #[.int .i64 i, .int .i64 r, .int .i64 x, .int .i64 q] 26 (0, 0)) := by rw [hg2.block X A2.out.2.2.1 (fun e => by injection e with e; exact hXM e)]; exact A2.out.2.1
      have A3 : Bx (Ring3 R B tk (.map (some M)) lb (l.filter fun y => decide (y.1 ≠ ⟨i, r, x, q⟩)) w W2) := Bx.mk ⟨hr2, .inr ⟨M, rfl, A2.out.2.2.2.1, hm2⟩, A2.out.1.2.2.trans (KP.by_ hg2 (.inr (.inr ⟨A2.out.2.2.2.1, A2.out.2.2.2.2.walk⟩)))⟩
      refine step_del rfl _ _ rfl hrun ?_
      refine hK.out _ _ ⟨hr2.map, row_rng (l := [.int .i64 i, .int .i64 r, .int .i64 x, .int .i64 q]) hx2⟩ (fun hHeld => ?_)
      clear hK K hrun hm2 hg2 hXM hr2 hx2 A2
      try simp only [Act.put, List.setIfInBounds_toArray, List.set_cons_zero, List.set_cons_succ]
      refine wpAnyH_done (by kernel_rfl) ?_ _
      refine NoPanic.normal ?_
      clear hHeld
      go_wp2
      go_roundw
      case rel => exact ⟨1, by omega, rfl, .inr ⟨by omega, rfl, A3⟩⟩
      case measure => simp [intOf]
    · obtain rfl | rfl : k = 1 ∨ k = 2 := by omega
      · have hg := HG.out wr HI.out.2.2
        have g0 : wr.cell? ⟨G, 4, none⟩ = some (.int .i64 i) := by rw [cell_of_row _ _ _ _ _ _ hg]; rfl
        have g1 : wr.cell? ⟨G, 5, none⟩ = some (.int .i64 r) := by rw [cell_of_row _ _ _ _ _ _ hg]; rfl
        have g2 : wr.cell? ⟨G, 6, none⟩ = some (.int .i64 x) := by rw [cell_of_row _ _ _ _ _ _ hg]; rfl
        have g3 : wr.cell? ⟨G, 7, none⟩ = some (.int .i64 q) := by rw [cell_of_row _ _ _ _ _ _ hg]; rfl
        have A0 : Bx (Ring3 R B tk mv lb (l.filter fun y => decide (y.1 ≠ ⟨i, r, x, q⟩)) w (wr.alloc (.cells #[.int .i64 i, .int .i64 r, .int .i64 x, .int .i64 q] 26)) ∧ (wr.alloc (.cells #[.int .i64 i, .int .i64 r, .int .i64 x, .int .i64 q] 26)).heap[wr.heap.size]? = some (.cells #[.int .i64 i, .int .i64 r, .int .i64 x, .int .i64 q] 26 (0, 0)) ∧ wr.heap.size < (wr.alloc (.cells #[.int .i64 i, .int .i64 r, .int .i64 x, .int .i64 q] 26)).heap.size) := Bx.mk ⟨HI.out.later (below_a _), hnew _ _ _ rfl, by simp⟩
        clear hg
        go_upto_region 7 with fail
        generalize hwa : wr.alloc (.cells #[.int .i64 i, .int .i64 r, .int .i64 x, .int .i64 q] 26) = wa at *
        generalize hX : wr.heap.size = X at *
        clear hX hwa g0 g1 g2 g3
        have A1 : Bx (Ring3 R B tk mv lb (l.filter fun y => decide (y.1 ≠ ⟨i, r, x, q⟩)) w wa.drew ∧ wa.drew.heap[X]? = some (.cells #[.int .i64 i, .int .i64 r, .int .i64 x, .int .i64 q] 26 (0, 0)) ∧ X < wa.drew.heap.size) := Bx.mk ⟨A0.out.1.later (Below.refl _ _).drew, A0.out.2.1, A0.out.2.2⟩
        clear A0
        have hlk : (Instr.lookup 70 mv (.agg #[.int .i64 i, .int .i64 r, .int .i64 x, .int .i64 q]) true).run Tryz.prog wa.drew = .ok (.tuple #[.pointer none, .bool false]) wa.drew := by
          have h := A1.out.1.2.1.look ⟨i, r, x, q⟩ HC.out.2
          rw [(atC_drop l ⟨i, r, x, q⟩)] at h
          exact h
        refine wp_region_noPanic ?_
        refine wp_region_held_drew (S := fun W => W.cell? ⟨R, 36, none⟩ = some mv ∧ (W.rangeAt X 0 [.int .i64 i, .int .i64 r, .int .i64 x, .int .i64 q] ∧ (Instr.lookup 70 mv (.agg #[.int .i64 i, .int .i64 r, .int .i64 x, .int .i64 q]) true).run Tryz.prog W = .ok (.tuple #[.pointer none, .bool false]) W)) (by kernel_rfl) (⟨A1.out.1.1.map, row_rng (l := [.int .i64 i, .int .i64 r, .int .i64 x, .int .i64 q]) A1.out.2.1, hlk⟩) (fun hHeld => ?_)
        clear hlk
        generalize wa.drew = W0 at *
        clear wa
        refine takeL 0 (v := ?_) rfl (by kernel_rfl) (by kernel_rfl) (by kernel_rfl) (fun _ _ _ h => h) (Or.inl ⟨by rfl, ?_⟩) hHeld ?_
        rotate_left 1
        · (intro w hSw; go_simp; try with_reducible rfl)
        try simp only [Act.put, List.setIfInBounds_toArray, List.set_cons_zero, List.set_cons_succ]
        refine takeL 1 (v := ?_) rfl (by kernel_rfl) (by kernel_rfl) (by kernel_rfl) (fun _ _ _ h => h) (Or.inl ⟨by rfl, ?_⟩) hHeld ?_
        rotate_left 1
        · (intro w hSw; go_simp; try with_reducible rfl)
        try simp only [Act.put, List.setIfInBounds_toArray, List.set_cons_zero, List.set_cons_succ]
        refine takeL 2 (v := ?_) rfl (by kernel_rfl) (by kernel_rfl) (by kernel_rfl) (fun _ _ _ h => h) (Or.inl ⟨by rfl, ?_⟩) hHeld ?_
        rotate_left 1
        · (intro w hSw; go_simp; try with_reducible rfl)
        try simp only [Act.put, List.setIfInBounds_toArray, List.set_cons_zero, List.set_cons_succ]
        refine takeL 3 (v := ?_) rfl (by kernel_rfl) (by kernel_rfl) (by kernel_rfl) (fun _ _ _ h => h) (Or.inl ⟨by rfl, ?_⟩) hHeld ?_
        rotate_left 1
        · (intro w hSw; have h1 := hSw.1; go_simp; try with_reducible rfl)
        try simp only [Act.put, List.setIfInBounds_toArray, List.set_cons_zero, List.set_cons_succ]
        refine takeL 4 rfl (by kernel_rfl) (by kernel_rfl) (by kernel_rfl) (fun _ _ _ h => h) (yieldsIf_load_mid (by rfl) _ _ rfl _ _ rfl _ _ (fun w hSw => hSw.2.1) Tryz.underlying26 rfl (by kernel_rfl)) hHeld ?_
        try simp only [Act.put, List.setIfInBounds_toArray, List.set_cons_zero, List.set_cons_succ]
        refine takeL 5 (v := ?_) rfl (by kernel_rfl) (by kernel_rfl) (by kernel_rfl) (fun _ _ _ h => h) (Or.inl ⟨by rfl, ?_⟩) hHeld ?_
        rotate_left 1
        · (intro w hSw; have h3 := hSw.2.2; go_simp; try with_reducible rfl)
        try simp only [Act.put, List.setIfInBounds_toArray, List.set_cons_zero, List.set_cons_succ]
        refine takeL 6 (v := ?_) rfl (by kernel_rfl) (by kernel_rfl) (by kernel_rfl) (fun _ _ _ h => h) (Or.inl ⟨by rfl, ?_⟩) hHeld ?_
        rotate_left 1
        · (intro w hSw; go_simp; try with_reducible rfl)
        try simp only [Act.put, List.setIfInBounds_toArray, List.set_cons_zero, List.set_cons_succ]
        refine takeL 7 (v := ?_) rfl (by kernel_rfl) (by kernel_rfl) (by kernel_rfl) (fun _ _ _ h => h) (Or.inl ⟨by rfl, ?_⟩) hHeld ?_
        rotate_left 1
        · (intro w hSw; go_simp; try with_reducible rfl)
        try simp only [Act.put, List.setIfInBounds_toArray, List.set_cons_zero, List.set_cons_succ]
        refine takeL 8 (v := ?_) rfl (by kernel_rfl) (by kernel_rfl) (by kernel_rfl) (fun _ _ _ h => h) (Or.inl ⟨by rfl, ?_⟩) hHeld ?_
        rotate_left 1
        · (intro w hSw; go_simp; try with_reducible rfl)
        try simp only [Act.put, List.setIfInBounds_toArray, List.set_cons_zero, List.set_cons_succ]
        refine takeL 9 (v := ?_) rfl (by kernel_rfl) (by kernel_rfl) (by kernel_rfl) (fun _ _ _ h => h) (Or.inl ⟨by rfl, ?_⟩) hHeld ?_
        rotate_left 1
        · (intro w hSw; go_simp; try with_reducible rfl)
        try simp only [Act.put, List.setIfInBounds_toArray, List.set_cons_zero, List.set_cons_succ]
        refine takeL 10 (v := ?_) rfl (by kernel_rfl) (by kernel_rfl) (by kernel_rfl) (fun _ _ _ h => h) (Or.inl ⟨by rfl, ?_⟩) hHeld ?_
        rotate_left 1
        · (intro w hSw; go_simp; try with_reducible rfl)
        try simp only [Act.put, List.setIfInBounds_toArray, List.set_cons_zero, List.set_cons_succ]
        refine wpAnyH_done (by kernel_rfl) ?_ _
        refine NoPanic.normal ?_
        clear hHeld
        go_wp2
        go_roundw
        case rel => exact ⟨2, by omega, rfl, .inr ⟨by omega, rfl, ⟨A1.out.1⟩⟩⟩
        case measure => simp [intOf]
      · go_wp2
        try rw [Exit.noGoto_ret]
        go_ret
        exact ⟨rfl, HI.out⟩
end Go.Proofs.YtnefpjdjnjcmbaaGreatDoor
namespace Go.Proofs.YtnefpjdjnjcmbaaGreatDoor
open Go Go.RowKit
/-- Entries one behind the other, as cells. -/
def cells5s : List (Cl × Value) → List Value
  | [] => []
  | e :: r => .int .i64 e.1.id :: .int .i64 e.1.ro :: .int .i64 e.1.ex :: .int .i64 e.1.se :: e.2 :: cells5s r
def eC (e : Cl × Value) : List Value := [.int .i64 e.1.id, .int .i64 e.1.ro, .int .i64 e.1.ex, .int .i64 e.1.se, e.2]
theorem cells5s_snoc (l : List (Cl × Value)) (e : Cl × Value) : cells5s (l ++ [e]) = cells5s l ++ eC e := by
  induction l with
  | nil => rfl
  | cons y r ih => simp only [List.cons_append, cells5s, ih]
theorem cells5s_get (l : List (Cl × Value)) : ∀ (k : Nat), k < l.length → ∀ j v, (eC (l.getD k (⟨0, 0, 0, 0⟩, undef)))[j]? = some v → (cells5s l)[k * 5 + j]? = some v := by
  induction l with
  | nil => intro k hk; exact absurd hk (Nat.not_lt_zero _)
  | cons c r ih =>
    intro k hk j v hj
    match k with
    | 0 =>
      have hj4 : j < 5 := (List.getElem?_eq_some_iff.1 hj).1
      match j, hj4 with
      | 0, _ => exact hj
      | 1, _ => exact hj
      | 2, _ => exact hj
      | 3, _ => exact hj
      | 4, _ => exact hj
    | k + 1 =>
      have h := ih k (by simpa using hk) j v (by simpa using hj)
      rw [show (k + 1) * 5 + j = (k * 5 + j) + 5 by omega]
      exact h
/-- Entries in a row that the call owns. -/
def OwnE (w : World) (base : Nat) (v : Value) (l : List (Cl × Value)) : Prop := w.ownsRow base 50 5 v l.length (cells5s l)
theorem OwnE.nil (w : World) (base : Nat) : OwnE w base (.slice none 0 0) [] := ⟨rfl, .inl ⟨rfl, rfl⟩⟩
theorem OwnE.lt {w : World} {base : Nat} {v : Value} {l : List (Cl × Value)} (h : OwnE w base v l) : ∀ g, v.ownBlock = some g → g < w.heap.size ∧ base ≤ g := fun g hg => by
  have := World.ownsRow.lt h g hg
  exact ⟨this.2, this.1⟩
theorem OwnE.kept {w w1 : World} {base : Nat} {v : Value} {l : List (Cl × Value)} (h : OwnE w base v l) (hb : ∀ g o, base ≤ g → w.heap[g]? = some o → o.isWalk = false → w1.heap[g]? = some o) : OwnE w1 base v l := by
  refine ⟨h.1, ?_⟩
  rcases h.2 with h0 | ⟨g, cap, cur, hv, hb', hh, hr⟩
  · exact .inl h0
  · exact .inr ⟨g, cap, cur, hv, hb', hb g _ hb' hh rfl, hr⟩
theorem OwnE.later {w w1 : World} {base : Nat} {v : Value} {l : List (Cl × Value)} (h : OwnE w base v l) (hb : Below w.heap.size w w1) : OwnE w1 base v l := h.kept fun g o _ h0 _ => by rw [hb.block g (Array.getElem?_eq_some_iff.1 h0).1]; exact h0
theorem OwnE.keep {w w1 : World} {R L B base : Nat} {v : Value} {l : List (Cl × Value)} (h : OwnE w base v l) (k : KP R L B w w1) (hR : R < base) (hL : L < base) : OwnE w1 base v l := h.kept fun g o h1 h0 h2 => k.block g o h0 (by omega) (by omega) (.inr h2)
theorem OwnE.form {w : World} {base : Nat} {v : Value} {l : List (Cl × Value)} (h : OwnE w base v l) : ∃ a cap, v = .slice a l.length cap := by
  rcases h.2 with ⟨hv, h0⟩ | ⟨g, cap, cur, hv, _⟩
  · exact ⟨none, 0, by rw [h0]; exact hv⟩
  · exact ⟨_, cap, hv⟩
theorem OwnE.at_ {w : World} {base : Nat} {v : Value} {l : List (Cl × Value)} (h : OwnE w base v l) (k : Nat) (hk : k < l.length) : ∃ g cap, v = .slice (some ⟨g, 0, none⟩) l.length cap ∧ l.length ≤ cap ∧ w.rangeAt g (k * 5) (eC (l.getD k (⟨0, 0, 0, 0⟩, undef))) := by
  rcases h.2 with ⟨hv, h0⟩ | ⟨g, cap, cur, hv, _, hg, hc1, hc2, hc3, hc4⟩
  · omega
  · refine ⟨g, cap, hv, by omega, fun j u hj => ?_⟩
    show w.cell? ⟨g, k * 5 + j, none⟩ = some u
    have hj4 : j < 5 := (List.getElem?_eq_some_iff.1 hj).1
    rw [cell_of_row _ _ _ _ _ _ hg, ← Array.getElem?_toList]
    have h1 : (cur.toList.take (l.length * 5))[k * 5 + j]? = (cells5s l)[k * 5 + j]? := by rw [hc4]
    rw [List.getElem?_take_of_lt (by omega)] at h1
    rw [h1]
    exact cells5s_get l k hk j u hj
theorem run_apE (w : World) (base : Nat) (v : Value) (l : List (Cl × Value)) (hown : OwnE w base v l) (g o : Nat) (e : Cl × Value) (he : e.2.oneCell' = true) (hr : w.rangeAt g o (eC e)) (hn : l.length ≤ 1000) (hbase : base ≤ w.heap.size) (ty : TypeId) (cp : Nat) :
    ∃ v' w', (Builtin.append_ #[37, 37] ty #[v, .slice (some ⟨g, o, none⟩) 1 cp]).run Tryz.prog w = .ok v' w' ∧ OwnE w' base v' (l ++ [e]) ∧ w.grownBy w' v.ownBlock := by
  have hi : Tryz.prog.info? 50 = some ((Tryz.prog.info? 50).getD default) := by kernel_rfl
  obtain ⟨v', w', hrun, h2, h3, _, _⟩ := run_append_own_at (P := Tryz.prog) w base 37 ty 50 _ (.agg #[.int .i64 0, .int .i64 0, .int .i64 0, .int .i64 0, .slice none 0 0]) 5 56 Tryz.underlying37 hi (by kernel_rfl) (by kernel_rfl) (by kernel_rfl) rfl (by omega) v l.length (cells5s l) hown ⟨g, o, none⟩ 1 cp (eC e) (by simp [eC])
    (fun j u hu => by rw [show (⟨g, o, none⟩ : Addr).add j = ⟨g, o + j, none⟩ by unfold Addr.add; split <;> simp_all]; exact hr j u hu)
    (fun u hu => by
      unfold eC at hu
      simp at hu
      rcases hu with rfl | rfl | rfl | rfl | rfl
      · rfl
      · rfl
      · rfl
      · rfl
      · exact he) (by simp only [maxLen]; omega) (by omega) hbase
  refine ⟨v', w', hrun, ?_, h3⟩
  unfold OwnE
  rw [List.length_append, cells5s_snoc]
  exact h2
theorem wpList_apE {w : World} {ops : Array Oper} {rest : List Oper} {o : Oper} {a : Act} {Q : Exit → Act → World → Prop} (hgd : o.guard = none) (sl x : Operand)
    (ho : o.op = .call { callee := .builtin .append, args := #[sl, x], argTypes := #[37, 37] }) (base : Nat) (v : Value) (l : List (Cl × Value)) (hs : a.eval sl = v) (hown : OwnE w base v l) (g of : Nat) (e : Cl × Value) (he : e.2.oneCell' = true) (cp : Nat) (hx : a.eval x = .slice (some ⟨g, of, none⟩) 1 cp) (hr : w.rangeAt g of (eC e))
    (hn : l.length ≤ 1000) (hbase : base ≤ w.heap.size)
    (h : ∀ v' w', OwnE w' base v' (l ++ [e]) → w.grownBy w' v.ownBlock → wpList Tryz.prog ops Q rest (a.put o.dst v') w') : wpList Tryz.prog ops Q (o :: rest) a w := by
  refine wpList_plain hgd fun K hK => ?_
  obtain ⟨v', w', hrun, h1, h2⟩ := run_apE w base v l hown g of e he hr hn hbase o.type cp
  unfold Oper.wp
  simp [execOp, ho, resolve, invoke, builtin, hs, hx, hrun, Result.andThen]
  exact hK _ _ (h v' w' h1 h2)
end Go.Proofs.YtnefpjdjnjcmbaaGreatDoor
namespace Go.Proofs.YtnefpjdjnjcmbaaGreatDoor
open Go Go.RowKit
theorem eql_in (d : Nat) (a b : Cl) (W : World) : (Op.equalIn (d + 2) 24 (.agg (clC a)) (.agg (clC b))).run Tryz.prog W = .ok (decide (a = b)) W := by
  obtain ⟨a1, a2, a3, a4⟩ := a
  obtain ⟨b1, b2, b3, b4⟩ := b
  have he : decide ((⟨a1, a2, a3, a4⟩ : Cl) = ⟨b1, b2, b3, b4⟩) = (decide (a1 = b1) && (decide (a2 = b2) && (decide (a3 = b3) && decide (a4 = b4)))) := by simp
  rw [he]
  unfold clC
  simp only
  by_cases h1 : a1 = b1
  · by_cases h2 : a2 = b2
    · by_cases h3 : a3 = b3
      · by_cases h4 : a4 = b4
        · subst h1 h2 h3 h4
          go_simp
        · subst h1 h2 h3
          simp only [h4, decide_true, decide_false, Bool.and_false]
          go_simp
      · subst h1 h2
        simp only [h3, decide_true, decide_false, Bool.and_false, Bool.false_and]
        go_simp
    · subst h1
      simp only [h2, decide_true, decide_false, Bool.and_false, Bool.false_and]
      go_simp
  · simp only [h1, decide_false, Bool.false_and]
    go_simp
theorem cl_eql (a b : Cl) (W : World) : (binOp .eql 24 (.agg (clC a)) (.agg (clC b))).run Tryz.prog W = .ok (.bool (decide (a = b))) W := by
  rw [run_eql_struct, eql_in 9998 a b W]
  rfl
abbrev e0 : Cl × Value := (⟨0, 0, 0, 0⟩, undef)
/-- Whose it is. -/
def FindQ (m : List (Cl × Value)) (c : Cl) (e : Ending) : Prop := (∃ k, k < m.length ∧ e = .returned (.int .i64 (k : Int)) ∧ (m.getD k e0).1 = c) ∨ (e = .returned (.int .i64 (-1)) ∧ ∀ k, k < m.length → (m.getD k e0).1 ≠ c)
set_option maxRecDepth 100000 in
set_option maxHeartbeats 2000000 in
theorem find_any (base : Nat) (v : Value) (m : List (Cl × Value)) (c : Cl) (w : World) (hm : OwnE w base v m) (hl : m.length ≤ 1000) :
    Calls Tryz.prog 8 #[v, clV c] w fun e w' => FindQ m c e ∧ Below w.heap.size w w' := by
  have H0 := Bx.mk hm
  obtain ⟨va, vc, rfl⟩ := hm.form
  obtain ⟨n, hn⟩ : ∃ n, m.length = n := ⟨_, rfl⟩
  have HN := Bx.mk hn
  have HEq : Bx (∀ (k : Nat) W, (binOp .eql 24 (.agg (clC (m.getD k e0).1)) (.agg (clC c))).run Tryz.prog W = .ok (.bool (decide ((m.getD k e0).1 = c))) W) := Bx.mk fun k W => cl_eql _ _ W
  rw [hn] at hl ⊢
  have hl1 : (n : Int) ≤ 1000 := by omega
  obtain ⟨i, r, x, q⟩ := c
  unfold clV
  obtain ⟨E, hE⟩ : ∃ E, w.heap.size = E := ⟨_, rfl⟩
  have H1 : Bx (OwnE (w.alloc (.cells #[.int .i64 i, .int .i64 r, .int .i64 x, .int .i64 q] 24)) base (.slice va n vc) m ∧ (w.alloc (.cells #[.int .i64 i, .int .i64 r, .int .i64 x, .int .i64 q] 24)).heap[E]? = some (.cells #[.int .i64 i, .int .i64 r, .int .i64 x, .int .i64 q] 24 (0, 0)) ∧ Below E w (w.alloc (.cells #[.int .i64 i, .int .i64 r, .int .i64 x, .int .i64 q] 24)) ∧ E < (w.alloc (.cells #[.int .i64 i, .int .i64 r, .int .i64 x, .int .i64 q] 24)).heap.size) := Bx.mk ⟨by rw [← hn]; exact H0.out.later (below_a _), by rw [← hE]; exact hnew _ _ _ rfl, by rw [← hE]; exact below_a _, by rw [← hE]; simp⟩
  rw [hE]
  clear H0 hn hm
  go_enter Tryz.func8, Tryz.ntmps8
  go_wp2
  go_loopw [5] (fun j wr => ∃ k : Nat, k ≤ n ∧ j = .int .i64 (k : Int) ∧ Bx (OwnE wr base (.slice va n vc) m ∧ wr.heap[E]? = some (.cells #[.int .i64 i, .int .i64 r, .int .i64 x, .int .i64 q] 24 (0, 0)) ∧ Below E w wr ∧ E < wr.heap.size ∧ ∀ z, z < k → (m.getD z e0).1 ≠ ⟨i, r, x, q⟩)) (fun j _ => n - (intOf j).toNat)
  case atStart => exact ⟨0, Nat.zero_le _, rfl, ⟨H1.out.1, H1.out.2.1, H1.out.2.2.1, H1.out.2.2.2, fun z hz => absurd hz (Nat.not_lt_zero _)⟩⟩
  case round =>
    clear H1
    obtain ⟨k, hk, rfl, HI⟩ := hrel
    by_cases hlt : k < n
    · have hk1 : (k : Int) < (n : Int) := by omega
      have hk0 : (0 : Int) ≤ (k : Int) := by omega
      obtain ⟨g, cap, hv, hcap, hg⟩ := HI.out.1.at_ k (by rw [HN.out]; exact hlt)
      rw [HN.out] at hv
      injection hv with hv1 hv2 hv3
      subst hv1 hv3
      have HQ := Bx.mk (HEq.out k)
      obtain ⟨⟨⟨yi, yr, yx, yq⟩, yv⟩, hy⟩ : ∃ y, m.getD k e0 = y := ⟨_, rfl⟩
      have HY := Bx.mk hy
      rw [hy] at HQ hg
      unfold clC at HQ
      simp only at HQ
      have hg4 : ∀ W : World, Below wr.heap.size wr W → W.rangeAt g (k * 5) [.int .i64 yi, .int .i64 yr, .int .i64 yx, .int .i64 yq] := fun W hb j u hj => by
        have hj4 : j < 4 := (List.getElem?_eq_some_iff.1 hj).1
        have hu : (eC (⟨yi, yr, yx, yq⟩, yv))[j]? = some u := by
          match j, hj4 with
          | 0, _ => exact hj
          | 1, _ => exact hj
          | 2, _ => exact hj
          | 3, _ => exact hj
        have h1 := hg j u hu
        rw [hb.cell (World.block_lt_of_cell? _ _ h1)]
        exact h1
      have HG := Bx.mk hg4
      clear hg hg4 hy
      have A1 : Bx (OwnE wr.drew base (.slice (some ⟨g, 0, none⟩) n vc) m ∧ wr.drew.heap[E]? = some (.cells #[.int .i64 i, .int .i64 r, .int .i64 x, .int .i64 q] 24 (0, 0)) ∧ Below E w wr.drew ∧ E < wr.drew.heap.size ∧ (∀ z, z < k → (m.getD z e0).1 ≠ ⟨i, r, x, q⟩) ∧ wr.drew.rangeAt g (k * 5) [.int .i64 yi, .int .i64 yr, .int .i64 yx, .int .i64 yq]) := Bx.mk ⟨HI.out.1.later (Below.refl _ _).drew, HI.out.2.1, HI.out.2.2.1.drew, HI.out.2.2.2.1, HI.out.2.2.2.2, HG.out _ (Below.refl _ _).drew⟩
      clear HI HG
      go_upto_region 4 with fail
      refine wp_region_noPanic ?_
      refine wp_region_held_drew (S := fun W => W.rangeAt E 0 [.int .i64 i, .int .i64 r, .int .i64 x, .int .i64 q] ∧ W.rangeAt g (k * 5) [.int .i64 yi, .int .i64 yr, .int .i64 yx, .int .i64 yq]) (by kernel_rfl) (⟨row_rng (l := [.int .i64 i, .int .i64 r, .int .i64 x, .int .i64 q]) A1.out.2.1, A1.out.2.2.2.2.2⟩) (fun hHeld => ?_)
      generalize wr.drew = W0 at *
      clear wr
      refine takeL 0 (v := ?_) rfl (by kernel_rfl) (by kernel_rfl) (by kernel_rfl) (fun _ _ _ h => h) (Or.inl ⟨by rfl, ?_⟩) hHeld ?_
      rotate_left 1
      · (intro w hSw; go_simp; try with_reducible rfl)
      try simp only [Act.put, List.setIfInBounds_toArray, List.set_cons_zero, List.set_cons_succ]
      refine takeL 1 (v := ?_) rfl (by kernel_rfl) (by kernel_rfl) (by kernel_rfl) (fun _ _ _ h => h) (Or.inl ⟨by rfl, ?_⟩) hHeld ?_
      rotate_left 1
      · (intro w hSw; go_simp; try with_reducible rfl)
      try simp only [Act.put, List.setIfInBounds_toArray, List.set_cons_zero, List.set_cons_succ]
      refine takeL 2 (v := ?_) rfl (by kernel_rfl) (by kernel_rfl) (by kernel_rfl) (fun _ _ _ h => h) (Or.inl ⟨by rfl, ?_⟩) hHeld ?_
      rotate_left 1
      · (intro w hSw; go_simp; try with_reducible rfl)
      try simp only [Act.put, List.setIfInBounds_toArray, List.set_cons_zero, List.set_cons_succ]
      refine takeL 3 (v := ?_) rfl (by kernel_rfl) (by kernel_rfl) (by kernel_rfl) (fun _ _ _ h => h) (Or.inl ⟨by rfl, ?_⟩) hHeld ?_
      rotate_left 1
      · (intro w hSw; go_simp; try with_reducible rfl)
      try simp only [Act.put, List.setIfInBounds_toArray, List.set_cons_zero, List.set_cons_succ]
      refine takeL 4 rfl (by kernel_rfl) (by kernel_rfl) (by kernel_rfl) (fun _ _ _ h => h) (yieldsIf_load_mid (by rfl) _ _ rfl _ _ rfl _ _ (fun w hSw => hSw.2) Tryz.underlying24 rfl (by kernel_rfl)) hHeld ?_
      try simp only [Act.put, List.setIfInBounds_toArray, List.set_cons_zero, List.set_cons_succ]
      refine takeL 5 rfl (by kernel_rfl) (by kernel_rfl) (by kernel_rfl) (fun _ _ _ h => h) (yieldsIf_load_mid (by rfl) _ _ rfl _ _ rfl _ _ (fun w hSw => hSw.1) Tryz.underlying24 rfl (by kernel_rfl)) hHeld ?_
      try simp only [Act.put, List.setIfInBounds_toArray, List.set_cons_zero, List.set_cons_succ]
      refine takeL 6 (v := ?_) rfl (by kernel_rfl) (by kernel_rfl) (by kernel_rfl) (fun _ _ _ h => h) (Or.inl ⟨by rfl, ?_⟩) hHeld ?_
      rotate_left 1
      · (intro w hSw; go_simp; show _ = Result.ok (Next.value (Value.bool (decide ((⟨yi, yr, yx, yq⟩ : Cl) = ⟨i, r, x, q⟩)))) w; (repeat' split) <;> simp_all)
      try simp only [Act.put, List.setIfInBounds_toArray, List.set_cons_zero, List.set_cons_succ]
      refine wpAnyH_done (by kernel_rfl) ?_ _
      refine NoPanic.normal ?_
      clear hHeld
      by_cases hc : (⟨yi, yr, yx, yq⟩ : Cl) = ⟨i, r, x, q⟩
      · have HF : Bx (FindQ m ⟨i, r, x, q⟩ (.returned (.int .i64 (k : Int)))) := Bx.mk (.inl ⟨k, by rw [HN.out]; exact hlt, rfl, by rw [HY.out]; exact hc⟩)
        have hd : decide ((⟨yi, yr, yx, yq⟩ : Cl) = ⟨i, r, x, q⟩) = true := decide_eq_true hc
        rw [hd]
        clear hc hd HY HQ
        go_wp2
        try rw [Exit.noGoto_ret]
        go_ret
        exact ⟨HF.out, A1.out.2.2.1⟩
      · have HF : Bx (∀ z, z < k + 1 → (m.getD z e0).1 ≠ ⟨i, r, x, q⟩) := Bx.mk fun z hz => by
          rcases Nat.lt_succ_iff_lt_or_eq.1 hz with h | rfl
          · exact A1.out.2.2.2.2.1 z h
          · rw [HY.out]; exact hc
        have hd : decide ((⟨yi, yr, yx, yq⟩ : Cl) = ⟨i, r, x, q⟩) = false := decide_eq_false hc
        rw [hd]
        clear hc hd HY HQ
        go_wp2
        go_roundw
        case rel => exact ⟨k + 1, by omega, by go_num, ⟨A1.out.1, A1.out.2.1, A1.out.2.2.1, A1.out.2.2.2.1, HF.out⟩⟩
        case measure => simp [intOf]; omega
    · obtain rfl : k = n := by omega
      go_wp2
      try rw [Exit.noGoto_ret]
      go_ret
      exact ⟨.inr ⟨rfl, fun z hz => HI.out.2.2.2.2 z (by rw [← HN.out]; exact hz)⟩, HI.out.2.2.1⟩
end Go.Proofs.YtnefpjdjnjcmbaaGreatDoor
