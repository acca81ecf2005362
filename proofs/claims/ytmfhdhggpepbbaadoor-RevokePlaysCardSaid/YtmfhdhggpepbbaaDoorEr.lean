/-
  Revocations: rows put one behind the other.
-/
import Derived.Test.YtmfhdhggpepbbaaDoorEq
import Derived.Lib.AppendZeros
namespace Go.Proofs.YtmfhdhggpepbbaaDoor
open Go Go.RowKit
theorem run_zeros (w : World) (n : Nat) (h0 : 0 < n) (hn : n ≤ 10000) (ty : TypeId) : ∃ cap w', (Builtin.append_ #[26, 3] ty #[.slice none 0 0, .int .i64 (n : Int)]).run Tryd.prog w = .ok (.slice (some ⟨w.heap.size, 0, none⟩) n cap) w' ∧ OwnI w' w.heap.size (.slice (some ⟨w.heap.size, 0, none⟩) 0 cap) [] ∧ Below w.heap.size w w' := by
  have hi : Tryd.prog.info? 3 = some ((Tryd.prog.info? 3).getD default) := by kernel_rfl
  have hz : ((Tryd.prog.info? 3).getD default).zero = some (.int .i64 0) := by kernel_rfl
  have hsz : ((Tryd.prog.info? 3).getD default).size = 1 := by kernel_rfl
  have hby : ((Tryd.prog.info? 3).getD default).bytes = 8 := by kernel_rfl
  generalize (Tryd.prog.info? 3).getD default = inf at hi hz hsz hby
  have hrun := Lib.run_append_nil_zeros (P := Tryd.prog) w 26 3 ty 3 inf _ .i64 .i64 Tryd.underlying26 Tryd.underlying3 hi hz n h0 (by omega) (by omega) (by rw [hby]; omega)
  have hge := grownCap_ge w n 0 3
  refine ⟨_, _, hrun, ⟨rfl, .inr ⟨w.heap.size, grownCap w n 0 3, _, rfl, Nat.le_refl _, hnew w.drew _ _ rfl, Nat.zero_le _, grownCap_le_maxLen _ _ _ _ (by simp only [maxLen]; omega), ?_, ?_⟩⟩, (Below.refl _ _).drew.trans ((Below.refl _ _).alloc (by simp) _)⟩
  · rw [Array.size_append, size_zeroCells, size_zeroCells, ← Nat.add_mul, Nat.add_sub_cancel' hge]
    rfl
  · simp [i64s]
set_option maxRecDepth 100000 in
theorem grow8 (n : Nat) (w : World) (hn : n ≤ 10000) : Calls Tryd.prog 83 #[.slice none 0 0, .int .i64 (n : Int)] w fun e w' => ∃ v, e = .returned v ∧ OwnI w' w.heap.size v [] ∧ Below w.heap.size w w' := by
  have hn1 : (n : Int) ≤ 10000 := by omega
  have hc0 := fun W => cut_h none 0 0 0 (Nat.le_refl _) W
  by_cases h0 : n = 0
  · subst h0
    go_enter Tryd.func83, Tryd.ntmps83
    go_wp2
    go_ret
    exact ⟨_, rfl, OwnI.nil _ _, Below.refl _ _⟩
  · obtain ⟨cap, w1, hrun, ho, hb⟩ := run_zeros w n (by omega) hn 26
    have h1 : (0 : Int) < (n : Int) := by omega
    have HO := Bx.mk ho
    have HB := Bx.mk hb
    have HRn := Bx.mk hrun
    have hcut := fun W => cut_h (some ⟨w.heap.size, 0, none⟩) n cap 0 (Nat.zero_le _) W
    clear ho hb hrun hn h0
    go_enter Tryd.func83, Tryd.ntmps83
    go_wp2_with (at_builtin; refine Lib.wpList_append_run _ rfl _ _ 26 3 rfl (.slice none 0 0) (.int .i64 (n : Int)) (by rfl) (by rfl) _ _ HRn.out ?_)
    go_ret
    exact ⟨_, rfl, HO.out, HB.out⟩
end Go.Proofs.YtmfhdhggpepbbaaDoor
