/-
  The walk of what a writer has.
-/
import Derived.Test.YtiengbmnfbbgoaaDoorIf
namespace Go.Proofs.YtiengbmnfbbgoaaDoor
open Go Go.RowKit
theorem slice_arr (p n : Nat) (hn : n ≤ 1024) (W : World) : (Instr.sliceAt 107 (.pointer (some ⟨p, 0, none⟩)) none (some (.int .i64 (n : Int))) none).run Tryd.prog W = .ok (.slice (some ⟨p, 0, none⟩) n 1024) W := by
  have ha : Tryd.prog.arrayLen 107 = 1024 := by kernel_rfl
  have he : Tryd.prog.elem 107 = 5 := by kernel_rfl
  have hs : ((sizeOf 5).run Tryd.prog W) = .ok 1 W := by kernel_rfl
  rw [run_sliceAt_array_h W 107 ⟨p, 0, none⟩ (by rw [ha, he]; exact Tryd.underlying107) .i64 (n : Int) (by omega) (by rw [ha]; omega)]
  rw [he, hs, ha]
  simp [slicedAt, Result.andThen, Addr.add]
theorem slice_arl (p n : Nat) (hn : n < 1024) (W : World) : (Instr.sliceAt 107 (.pointer (some ⟨p, 0, none⟩)) (some (.int .i64 (n : Int))) none none).run Tryd.prog W = .ok (.slice (some ⟨p, n, none⟩) (1024 - n) (1024 - n)) W := by
  have ha : Tryd.prog.arrayLen 107 = 1024 := by kernel_rfl
  have he : Tryd.prog.elem 107 = 5 := by kernel_rfl
  have hs : ((sizeOf 5).run Tryd.prog W) = .ok 1 W := by kernel_rfl
  rw [run_sliceAt_array_l W 107 ⟨p, 0, none⟩ (by rw [ha, he]; exact Tryd.underlying107) .i64 (n : Int) (by omega) (by rw [ha]; omega)]
  rw [he, hs, ha]
  have h1 : ¬ (1024 = n) := by omega
  simp [slicedAt, h1, Result.andThen, Addr.add]
  intro h
  omega
set_option maxRecDepth 100000 in
set_option maxHeartbeats 1000000 in
theorem wout_ok (p : Nat) (l : List UInt8) (w : World) (hw : IsW w p (l, 0)) :
    Calls Tryd.prog 55 #[.pointer (some ⟨p, 0, none⟩)] w fun e w' => ∃ v', e = .returned (.tuple #[v', .int .i64 0]) ∧ OwnB w' w.heap.size v' l ∧ Below w.heap.size w w' := by
  have HW := Bx.mk hw
  have hE := hw.err
  have hu := hw.used
  have HU0 := Bx.mk hw.le
  have HU := Bx.mk hw.le
  have H0 : Bx (w.drew.cell? ⟨p, 1024, none⟩ = some (.int .i64 (l.length : Int)) ∧ Below w.heap.size w w.drew ∧ Bytes w.drew (.slice (some ⟨p, 0, none⟩) l.length 1024) l) := Bx.mk ⟨hu, (Below.refl _ _).drew, hw.bytes⟩
  obtain ⟨u, hu2⟩ : ∃ n, l.length = n := ⟨_, rfl⟩
  rw [hu2] at hu HU H0
  have hu1 := HU.out
  have hu3 : (u : Int) ≤ 1024 := by omega
  have hsl := fun W => slice_arr p u hu1 W
  clear hu2 hw hu1
  go_enter Tryd.func55, Tryd.ntmps55
  go_upto_region 5 with fail
  refine wp_region_noPanic ?_
  refine wp_region_held_drew (S := fun W => W.cell? ⟨p, 1024, none⟩ = some (.int .i64 (u : Int)) ∧ Bx (Below w.heap.size w W)) (by kernel_rfl) (⟨hu, ⟨(Below.refl _ _).drew⟩⟩) (fun hHeld => ?_)
  clear hE hu
  generalize w.drew = W0 at *
  refine takeL 0 (v := ?_) rfl (by kernel_rfl) (by kernel_rfl) (by kernel_rfl) (fun _ _ _ h => h) (Or.inl ⟨by rfl, ?_⟩) hHeld ?_
  rotate_left 1
  · (intro w hSw; go_simp; try with_reducible rfl)
  try simp only [Act.put, List.setIfInBounds_toArray, List.set_cons_zero, List.set_cons_succ]
  refine takeL 1 (v := ?_) rfl (by kernel_rfl) (by kernel_rfl) (by kernel_rfl) (fun _ _ _ h => h) (Or.inl ⟨by rfl, ?_⟩) hHeld ?_
  rotate_left 1
  · (intro w hSw; go_simp; try with_reducible rfl)
  try simp only [Act.put, List.setIfInBounds_toArray, List.set_cons_zero, List.set_cons_succ]
  refine takeL 2 (v := ?_) rfl (by kernel_rfl) (by kernel_rfl) (by kernel_rfl) (fun _ _ _ h => h) (Or.inl ⟨by rfl, ?_⟩) hHeld ?_
  rotate_left 1
  · (intro w hSw; go_simp; try with_reducible rfl)
  try simp only [Act.put, List.setIfInBounds_toArray, List.set_cons_zero, List.set_cons_succ]
  refine takeL 3 (v := ?_) rfl (by kernel_rfl) (by kernel_rfl) (by kernel_rfl) (fun _ _ _ h => h) (Or.inl ⟨by rfl, ?_⟩) hHeld ?_
  rotate_left 1
  · (intro w hSw; go_simp; try with_reducible rfl)
  try simp only [Act.put, List.setIfInBounds_toArray, List.set_cons_zero, List.set_cons_succ]
  refine takeL 4 (v := ?_) rfl (by kernel_rfl) (by kernel_rfl) (by kernel_rfl) (fun _ _ _ h => h) (Or.inl ⟨by rfl, ?_⟩) hHeld ?_
  rotate_left 1
  · (intro w hSw; go_simp; try with_reducible rfl)
  try simp only [Act.put, List.setIfInBounds_toArray, List.set_cons_zero, List.set_cons_succ]
  refine takeL 5 (v := ?_) rfl (by kernel_rfl) (by kernel_rfl) (by kernel_rfl) (fun _ _ _ h => h) (Or.inl ⟨by rfl, ?_⟩) hHeld ?_
  rotate_left 1
  · (intro w hSw; go_simp; try with_reducible rfl)
  try simp only [Act.put, List.setIfInBounds_toArray, List.set_cons_zero, List.set_cons_succ]
  refine takeL 6 (v := ?_) rfl (by kernel_rfl) (by kernel_rfl) (by kernel_rfl) (fun _ _ _ h => h) (Or.inl ⟨by rfl, ?_⟩) hHeld ?_
  rotate_left 1
  · (intro w hSw; go_simp; try with_reducible rfl)
  try simp only [Act.put, List.setIfInBounds_toArray, List.set_cons_zero, List.set_cons_succ]
  refine takeL 7 (v := ?_) rfl (by kernel_rfl) (by kernel_rfl) (by kernel_rfl) (fun _ _ _ h => h) (Or.inl ⟨by rfl, ?_⟩) hHeld ?_
  rotate_left 1
  · (intro w hSw; go_simp; try with_reducible rfl)
  try simp only [Act.put, List.setIfInBounds_toArray, List.set_cons_zero, List.set_cons_succ]
  refine stepL 8 (by kernel_rfl) rfl (fun K hK => ?_)
  go_simp
  refine (clone_any l _ W0 H0.out.2.2 (by have := HU0.out; omega)).mono ?_
  rintro e W1 ⟨v1, rfl, ho1, hb1⟩
  show K _ _
  have H1 : Bx (W1.cell? ⟨p, 1024, none⟩ = some (.int .i64 (u : Int)) ∧ Below w.heap.size w W1 ∧ OwnB W1 w.heap.size v1 l) := Bx.mk ⟨by rw [hb1.cell (p := ⟨p, 1024, none⟩) (World.block_lt_of_cell? _ _ H0.out.1)]; exact H0.out.1, H0.out.2.1.trans (hb1.mono H0.out.2.1.size), ho1.weak H0.out.2.1.size⟩
  clear ho1 hb1 H0
  refine hK.out _ _ ⟨H1.out.1, ⟨H1.out.2.1⟩⟩ (fun hHeld => ?_)
  clear hK K
  try simp only [Act.put, List.setIfInBounds_toArray, List.set_cons_zero, List.set_cons_succ]
  refine takeL 9 (v := ?_) rfl (by kernel_rfl) (by kernel_rfl) (by kernel_rfl) (fun _ _ _ h => h) (Or.inl ⟨by rfl, ?_⟩) hHeld ?_
  rotate_left 1
  · (intro w hSw; go_simp; try with_reducible rfl)
  try simp only [Act.put, List.setIfInBounds_toArray, List.set_cons_zero, List.set_cons_succ]
  refine takeL 10 (v := ?_) rfl (by kernel_rfl) (by kernel_rfl) (by kernel_rfl) (fun _ _ _ h => h) (Or.inl ⟨by rfl, ?_⟩) hHeld ?_
  rotate_left 1
  · (intro w hSw; go_simp; try with_reducible rfl)
  try simp only [Act.put, List.setIfInBounds_toArray, List.set_cons_zero, List.set_cons_succ]
  refine wpAnyH_done (by kernel_rfl) ?_ _
  refine NoPanic.normal ?_
  clear hHeld
  go_wp2
  go_ret2
  exact ⟨_, rfl, H1.out.2.2, H1.out.2.1⟩
theorem wout_bad (p : Nat) (l : List UInt8) (er : Int) (w : World) (hw : IsW w p (l, er)) (he : er ≠ 0) :
    Calls Tryd.prog 55 #[.pointer (some ⟨p, 0, none⟩)] w fun e w' => e = .returned (.tuple #[.slice none 0 0, .int .i64 er]) ∧ Below w.heap.size w w' := by
  have hE := hw.err
  have HW := Bx.mk hw
  clear hw
  go_enter Tryd.func55, Tryd.ntmps55
  go_upto_region 4 with fail
  go_quiet (fail)
  go_wp2
  go_ret2
  exact ⟨rfl, below_drewN (Below.refl _ _) _⟩
theorem wout_nil (w : World) : Calls Tryd.prog 55 #[.pointer none] w fun e w' => e = .returned (.tuple #[.slice none 0 0, .int .i64 11]) ∧ w = w' := by
  go_enter Tryd.func55, Tryd.ntmps55
  go_wp2
  go_ret2
  exact ⟨rfl, rfl⟩
end Go.Proofs.YtiengbmnfbbgoaaDoor
