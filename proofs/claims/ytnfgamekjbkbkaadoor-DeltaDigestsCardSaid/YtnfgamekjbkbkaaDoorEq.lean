/-
  Revocations: the chapter's example, a copy.
  Revocations: rows put one behind the other.
-/
import Derived.Test.YtnfgamekjbkbkaaDoorEo
import Derived.Lib.AppendZeros
namespace Go.Proofs.YtnfgamekjbkbkaaDoor
open Go Go.RowKit
theorem isL_one8 (W : World) (n : Int) : IsL (W.alloc (.cells #[.int .i64 n] 3)) (.slice (some ⟨W.heap.size, 0, none⟩) 1 1) [n] := by
  refine ⟨_, 1, rfl, by simp, (fun h => by cases h), fun _ => ⟨W.heap.size, 0, _, _, rfl, hnew _ _ _ rfl, fun i hi => ?_⟩⟩
  obtain rfl : i = 0 := by simp at hi; omega
  rfl
theorem IsL.at0 {W : World} {b : Option Addr} {n c : Nat} {x : Int} (h : IsL W (.slice b n c) [x]) : ∃ g o, b = some ⟨g, o, none⟩ ∧ W.cell? ⟨g, o, none⟩ = some (.int .i64 x) ∧ n = 1 := by
  obtain ⟨a, cap, hv, _, _, hr⟩ := h
  injection hv with e1 e2 e3
  obtain ⟨g, o, cs, fr, ha, hh, hcs⟩ := hr (by simp)
  refine ⟨g, o, e1.trans ha, ?_, e2⟩
  rw [cell_of_row _ _ _ _ _ _ hh]
  exact hcs 0 (by simp)
theorem Rows4.ex {W : World} {u : VV} (h : Rows4 W u ⟨[], [7], [], []⟩) : ∃ p1 a1 g o b1 t1 c1 s1 d1, u = ⟨.slice p1 0 a1, .slice (some ⟨g, o, none⟩) 1 b1, .slice t1 0 c1, .slice s1 0 d1⟩ ∧ W.cell? ⟨g, o, none⟩ = some (.int .i64 7) := by
  obtain ⟨x1, x2, x3, x4⟩ := u
  obtain ⟨p1, a1, h1⟩ := h.a.form
  obtain ⟨q1, b1, h2⟩ := h.b.form
  obtain ⟨t1, c1, h3⟩ := h.c.form
  obtain ⟨s1, d1, h4⟩ := h.d.form
  have hb := h.b
  simp only [List.length_nil, List.length_cons] at h1 h2 h3 h4 hb
  subst h1 h2 h3 h4
  obtain ⟨g, o, rfl, hc, _⟩ := hb.at0
  exact ⟨_, _, _, _, _, _, _, _, _, rfl, hc⟩
theorem ex_eql (W : World) : (binOp BinOp.eql 28 (.agg #[.int .i64 0, .int .i64 1, .int .i64 0, .int .i64 0]) (.agg #[.int .i64 0, .int .i64 1, .int .i64 0, .int .i64 0])).run Tryd.prog W = .ok (.bool true) W := by
  rw [vers_eql]
  rfl
theorem ex_build (W : World) : (Instr.build 28 #[(0, .int .i64 0), (1, .int .i64 1), (2, .int .i64 0), (3, .int .i64 0)]).run Tryd.prog W = .ok (.agg #[.int .i64 0, .int .i64 1, .int .i64 0, .int .i64 0]) W := by kernel_rfl
theorem rev_ex : revL L4.nil 1 [7] = (0, ⟨[], [7], [], []⟩) := by decide
theorem good_ex : Good ⟨[], [7], [], []⟩ := ⟨fun x h => by simp at h; subst h; rfl, by simp, by simp, by simp, by simp⟩
set_option maxRecDepth 100000 in
set_option maxHeartbeats 2000000 in
theorem known8_any (w : World) : Calls Tryd.prog 20 #[] w fun e w' => e = .returned (.bool true) ∧ Below w.heap.size w w' := by
  obtain ⟨p, hp⟩ : ∃ p, w.heap.size = p := ⟨_, rfl⟩
  have HN := Bx.mk (new_any8 w)
  rw [hp] at HN
  have HP := Bx.mk hp
  clear hp
  go_enter Tryd.func20, Tryd.ntmps20
  go_wp2_with fail
  refine HN.out.mono ?_
  rintro e w1 ⟨rfl, hs, hb, -⟩
  have HS1 := Bx.mk (hs.later (below_a (W := w1) (.cells #[.int .i64 7] 3)))
  have HB1 : Bx (Below p w (w1.alloc (.cells #[.int .i64 7] 3))) := ⟨hb.trans ((below_a _).mono (by have := hb.size; rw [HP.out] at this; exact this))⟩
  have HI := Bx.mk (isL_one8 w1 7)
  clear hs hb HN
  go_wp2_with fail
  refine (revoke_any 1 _ [7] p L4.nil _ HS1.out Good.nil HI.out (by simp)).mono ?_
  rw [rev_ex]
  rintro e w2 ⟨rfl, hs, hg⟩
  have HS2 := Bx.mk hs
  have HB2 : Bx (Below p w w2) := ⟨HB1.out.trans (grown_below hg (Nat.le_refl _) (by have := HB1.out.size; rw [HP.out] at this; exact this))⟩
  clear hs hg HS1 HB1 HI
  have hbv := build_vers
  go_wp2_with fail
  have HSi : Bx (Calls Tryd.prog 60 #[.pointer (some ⟨p, 0, none⟩), .agg #[.int .i64 0, .int .i64 0, .int .i64 0, .int .i64 0]] w2 fun e w' => ∃ u : VV, e = .returned (.tuple #[.agg (dC V4.zero u), .int .i64 0]) ∧ Rows4 w' u ⟨[], [7], [], []⟩ ∧ Below w2.heap.size w2 w') := ⟨since_ok V4.zero 0 0 0 0 p _ w2 HS2.out good_ex rfl rfl rfl rfl (by simp) (by simp) (by simp) (by simp)⟩
  refine HSi.out.mono ?_
  rintro e w3 ⟨u, rfl, hu, hb⟩
  have HS3 := Bx.mk (HS2.out.later hb)
  have HB3 := Bx.mk (HB2.out.trans (hb.mono (by have := HB2.out.size; rw [HP.out] at this; exact this)))
  obtain ⟨p1, a1, g, o, b1, t1, c1, s1, d1, rfl, hc⟩ := hu.ex
  unfold dC V4.zero
  simp only
  obtain ⟨D, hD⟩ : ∃ D, w3.heap.size = D := ⟨_, rfl⟩
  have K4 : Bx (KR w p [(D, .cells #[.int .i64 0, .int .i64 0, .int .i64 0, .int .i64 0, .slice p1 0 a1, .slice (some ⟨g, o, none⟩) 1 b1, .slice t1 0 c1, .slice s1 0 d1] 30)] (w3.alloc (.cells #[.int .i64 0, .int .i64 0, .int .i64 0, .int .i64 0, .slice p1 0 a1, .slice (some ⟨g, o, none⟩) 1 b1, .slice t1 0 c1, .slice s1 0 d1] 30))) := Bx.mk (by
    subst hD
    exact KR.new ⟨fun _ h => (List.not_mem_nil h).elim, HB3.out, by have := HB3.out.size; rw [HP.out] at this; exact this⟩ _)
  have HC4 : Bx ((w3.alloc (.cells #[.int .i64 0, .int .i64 0, .int .i64 0, .int .i64 0, .slice p1 0 a1, .slice (some ⟨g, o, none⟩) 1 b1, .slice t1 0 c1, .slice s1 0 d1] 30)).cell? ⟨g, o, none⟩ = some (.int .i64 7)) := ⟨by rw [(below_a (W := w3) _).cell (p := ⟨g, o, none⟩) (World.block_lt_of_cell? _ _ hc)]; exact hc⟩
  have HS4 := Bx.mk (HS3.out.later (below_a (W := w3) (.cells #[.int .i64 0, .int .i64 0, .int .i64 0, .int .i64 0, .slice p1 0 a1, .slice (some ⟨g, o, none⟩) 1 b1, .slice t1 0 c1, .slice s1 0 d1] 30)))
  have hbx := ex_build
  clear hu hb HS2 HB2 HS3 HSi hc HB3
  go_wp2_with fail
  generalize (w3.alloc (.cells #[.int .i64 0, .int .i64 0, .int .i64 0, .int .i64 0, .slice p1 0 a1, .slice (some ⟨g, o, none⟩) 1 b1, .slice t1 0 c1, .slice s1 0 d1] 30)) = w4 at *
  have HV : Bx (Calls Tryd.prog 36 #[.pointer (some ⟨p, 0, none⟩)] w4 fun e w' => e = .returned (.agg #[.int .i64 0, .int .i64 1, .int .i64 0, .int .i64 0]) ∧ Below w4.heap.size w4 w') := ⟨versions_any (.pointer (some ⟨p, 0, none⟩)) _ w4 (.inr ⟨p, rfl, HS4.out⟩)⟩
  refine HV.out.mono ?_
  rintro e w5 ⟨rfl, hb⟩
  have K5 := Bx.mk (K4.out.later hb)
  have hc5 : w5.cell? ⟨g, o, none⟩ = some (.int .i64 7) := by rw [hb.cell (p := ⟨g, o, none⟩) (World.block_lt_of_cell? _ _ HC4.out)]; exact HC4.out
  have k5 : w5.cell? ⟨D, 5, none⟩ = some (.slice (some ⟨g, o, none⟩) 1 b1) := by rw [cell_of_row _ _ _ _ _ _ (K5.out.rows _ (.head _))]; rfl
  have hex := ex_eql
  clear hb HV HS4 HC4 K4 hD
  go_wp2
  go_ret
  exact ⟨rfl, by rw [HP.out]; exact K5.out.below⟩
end Go.Proofs.YtnfgamekjbkbkaaDoor
namespace Go.Proofs.YtnfgamekjbkbkaaDoor
open Go Go.RowKit
theorem run_zeros (w : World) (n : Nat) (h0 : 0 < n) (hn : n ≤ 10000) (ty : TypeId) : ∃ cap w', (Builtin.append_ #[23, 3] ty #[.slice none 0 0, .int .i64 (n : Int)]).run Tryd.prog w = .ok (.slice (some ⟨w.heap.size, 0, none⟩) n cap) w' ∧ OwnI w' w.heap.size (.slice (some ⟨w.heap.size, 0, none⟩) 0 cap) [] ∧ Below w.heap.size w w' := by
  have hi : Tryd.prog.info? 3 = some ((Tryd.prog.info? 3).getD default) := by kernel_rfl
  have hz : ((Tryd.prog.info? 3).getD default).zero = some (.int .i64 0) := by kernel_rfl
  have hsz : ((Tryd.prog.info? 3).getD default).size = 1 := by kernel_rfl
  have hby : ((Tryd.prog.info? 3).getD default).bytes = 8 := by kernel_rfl
  generalize (Tryd.prog.info? 3).getD default = inf at hi hz hsz hby
  have hrun := Lib.run_append_nil_zeros (P := Tryd.prog) w 23 3 ty 3 inf _ .i64 .i64 Tryd.underlying23 Tryd.underlying3 hi hz n h0 (by omega) (by omega) (by rw [hby]; omega)
  have hge := grownCap_ge w n 0 3
  refine ⟨_, _, hrun, ⟨rfl, .inr ⟨w.heap.size, grownCap w n 0 3, _, rfl, Nat.le_refl _, hnew w.drew _ _ rfl, Nat.zero_le _, grownCap_le_maxLen _ _ _ _ (by simp only [maxLen]; omega), ?_, ?_⟩⟩, (Below.refl _ _).drew.trans ((Below.refl _ _).alloc (by simp) _)⟩
  · rw [Array.size_append, size_zeroCells, size_zeroCells, ← Nat.add_mul, Nat.add_sub_cancel' hge]
    rfl
  · simp [i64s]
end Go.Proofs.YtnfgamekjbkbkaaDoor
