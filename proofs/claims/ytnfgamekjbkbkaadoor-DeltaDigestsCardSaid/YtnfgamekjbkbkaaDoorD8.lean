/-
  Delta: the document's bytes of a digest.
-/
import Derived.Test.YtnfgamekjbkbkaaDoorD7
import Derived.Test.YtnfgamekjbkbkaaDoorMe
namespace Go.Proofs.YtnfgamekjbkbkaaDoor
open Go Go.RowKit
/-- What stays while the document's bytes of a digest are laid. -/
structure RB9 (w : World) (E : Nat) (cs : Array Value) (bs : List UInt8) (v : Value) (W : World) : Prop where
  kr : KR w E [(E, (.cells cs 50))] W
  o : OwnB W (E + 1) v bs
theorem RB9.later {w : World} {E : Nat} {cs : Array Value} {bs : List UInt8} {v : Value} {W W1 : World} (h : RB9 w E cs bs v W) (hb : Below W.heap.size W W1) : RB9 w E cs bs v W1 := ⟨h.kr.later hb, h.o.later hb (fun g hg => (h.o.lt g hg).1)⟩
theorem RB9.ap {w : World} {E : Nat} {cs : Array Value} {bs bs' : List UInt8} {v v1 : Value} {W W1 : World} (h : RB9 w E cs bs v W) (ho : OwnB W1 (E + 1) v1 bs') (hg : W.grownBy W1 v.ownBlock) : RB9 w E cs bs' v1 W1 := by
  have hlt := fun g hg => (h.o.lt g hg).2
  refine ⟨?_, ho⟩
  cases hv : v.ownBlock with
  | none =>
    rw [hv] at hg
    exact ⟨fun x hx => by rw [hg.block _ (h.kr.lt hx) (by simp)]; exact h.kr.rows x hx, h.kr.below.trans ⟨hg.os, hg.tape, hg.output, hg.size, fun c hc => hg.block c (by have := h.kr.le; omega) (by simp)⟩, Nat.le_trans h.kr.le hg.size⟩
  | some g =>
    have hg0 := hlt g hv
    rw [hv] at hg
    refine h.kr.grown hg (by omega) (fun x hx => ?_)
    simp only [List.mem_cons, List.not_mem_nil, or_false] at hx
    subst hx
    show E ≠ g
    omega
theorem RB9.cell {w : World} {E : Nat} {cs : Array Value} {bs : List UInt8} {v : Value} {W : World} (h : RB9 w E cs bs v W) (i : Nat) {u : Value} (hu : cs[i]? = some u) : W.cell? ⟨E, i, none⟩ = some u := by
  rw [cell_of_row _ _ _ _ _ _ (h.kr.rows _ (.head _))]
  exact hu
theorem RB9.le {w : World} {E : Nat} {cs : Array Value} {bs : List UInt8} {v : Value} {W : World} (h : RB9 w E cs bs v W) : E + 1 ≤ W.heap.size := h.kr.lt (.head _)
theorem eight_nat {k : Nat} (h : k < 8) : k = 0 ∨ k = 1 ∨ k = 2 ∨ k = 3 ∨ k = 4 ∨ k = 5 ∨ k = 6 ∨ k = 7 := by omega
theorem bytes_dg {W : World} {E : Nat} {v : V4} {p : B8} {t : TypeId} (h : W.heap[E]? = some (.cells #[.int .i64 v.a, .int .i64 v.b, .int .i64 v.c, .int .i64 v.d, .int .u8 (ub p.a), .int .u8 (ub p.b), .int .u8 (ub p.c), .int .u8 (ub p.d), .int .u8 (ub p.e), .int .u8 (ub p.f), .int .u8 (ub p.g), .int .u8 (ub p.h)] t (0, 0))) : Bytes W (.slice (some ⟨E, 4, none⟩) 8 8) p.list :=
  ⟨_, _, rfl, Nat.le_refl _, (fun h => by cases h), fun _ => ⟨E, 4, rfl, fun i hi => by
    rw [cell_of_row _ _ _ _ _ _ h]
    rcases eight_nat hi with rfl | rfl | rfl | rfl | rfl | rfl | rfl | rfl <;> rfl⟩⟩
set_option maxRecDepth 100000 in
set_option maxHeartbeats 4000000 in
theorem rdbytes9 (v : V4) (p : B8) (w : World) (hw : okV v = true) : Calls Tryd.prog 31 #[.agg (dgC v p)] w fun e w' => ∃ u, e = .returned u ∧ OwnB w' w.heap.size u (dgB v p) ∧ Below w.heap.size w w' := by
  obtain ⟨E, hE⟩ : ∃ E, w.heap.size = E := ⟨_, rfl⟩
  have HI := Bx.mk ((okV_iff v).1 hw)
  have R0 : Bx (RB9 w E #[.int .i64 v.a, .int .i64 v.b, .int .i64 v.c, .int .i64 v.d, .int .u8 (ub p.a), .int .u8 (ub p.b), .int .u8 (ub p.c), .int .u8 (ub p.d), .int .u8 (ub p.e), .int .u8 (ub p.f), .int .u8 (ub p.g), .int .u8 (ub p.h)] [] (.slice none 0 0) (w.alloc (.cells #[.int .i64 v.a, .int .i64 v.b, .int .i64 v.c, .int .i64 v.d, .int .u8 (ub p.a), .int .u8 (ub p.b), .int .u8 (ub p.c), .int .u8 (ub p.d), .int .u8 (ub p.e), .int .u8 (ub p.f), .int .u8 (ub p.g), .int .u8 (ub p.h)] 50))) := Bx.mk (by
    subst hE
    exact ⟨(KR.start w).new (.cells #[.int .i64 v.a, .int .i64 v.b, .int .i64 v.c, .int .i64 v.d, .int .u8 (ub p.a), .int .u8 (ub p.b), .int .u8 (ub p.c), .int .u8 (ub p.d), .int .u8 (ub p.e), .int .u8 (ub p.f), .int .u8 (ub p.g), .int .u8 (ub p.h)] 50), OwnB.nil _ _⟩)
  have hbf := build_fd
  unfold dgC
  rw [hE]
  clear hw
  go_enter Tryd.func31, Tryd.ntmps31
  go_wp2_with fail
  generalize w.alloc (.cells #[.int .i64 v.a, .int .i64 v.b, .int .i64 v.c, .int .i64 v.d, .int .u8 (ub p.a), .int .u8 (ub p.b), .int .u8 (ub p.c), .int .u8 (ub p.d), .int .u8 (ub p.e), .int .u8 (ub p.f), .int .u8 (ub p.g), .int .u8 (ub p.h)] 50) = w0 at *
  refine wp_loop_rounds 5 ?_
  rw [rounds_succ]
  have m := R0.out.cell 0 rfl
  go_wp2_with fail
  clear m
  refine (out8 v.a HI.out.1.1 (by have := HI.out.1.2; omega) w0).mono ?_
  rintro e w1 ⟨ya, yc, rfl, hy, hb⟩
  have R1 := Bx.mk (R0.out.later hb)
  have HY := Bx.mk hy
  clear hy hb R0
  go_upto_region 4 with (refine wpList_ap rfl _ _ rfl (E + 1) _ _ (by rfl) R1.out.o _ _ (by rfl) HY.out (by simp [beN_length]) R1.out.le ?_; intro y w2 ho hg _; have R2 := Bx.mk (R1.out.ap ho hg); clear ho hg R1 HY)
  obtain ⟨za, zn, zc, rfl⟩ := own_form2 R2.out.o
  go_wp2_with fail
  rw [rounds_succ]
  have m := R2.out.cell 1 rfl
  go_wp2_with fail
  clear m
  refine (out8 v.b HI.out.2.1.1 (by have := HI.out.2.1.2; omega) w2).mono ?_
  rintro e w3 ⟨ya, yc, rfl, hy, hb⟩
  have R3 := Bx.mk (R2.out.later hb)
  have HY := Bx.mk hy
  clear hy hb R2
  go_upto_region 4 with (refine wpList_ap rfl _ _ rfl (E + 1) _ _ (by rfl) R3.out.o _ _ (by rfl) HY.out (by simp [beN_length]) R3.out.le ?_; intro y w4 ho hg _; have R4 := Bx.mk (R3.out.ap ho hg); clear ho hg R3 HY)
  obtain ⟨za, zn, zc, rfl⟩ := own_form2 R4.out.o
  go_wp2_with fail
  rw [rounds_succ]
  have m := R4.out.cell 2 rfl
  go_wp2_with fail
  clear m
  refine (out8 v.c HI.out.2.2.1.1 (by have := HI.out.2.2.1.2; omega) w4).mono ?_
  rintro e w5 ⟨ya, yc, rfl, hy, hb⟩
  have R5 := Bx.mk (R4.out.later hb)
  have HY := Bx.mk hy
  clear hy hb R4
  go_upto_region 4 with (refine wpList_ap rfl _ _ rfl (E + 1) _ _ (by rfl) R5.out.o _ _ (by rfl) HY.out (by simp [beN_length]) R5.out.le ?_; intro y w6 ho hg _; have R6 := Bx.mk (R5.out.ap ho hg); clear ho hg R5 HY)
  obtain ⟨za, zn, zc, rfl⟩ := own_form2 R6.out.o
  go_wp2_with fail
  rw [rounds_succ]
  have m := R6.out.cell 3 rfl
  go_wp2_with fail
  clear m
  refine (out8 v.d HI.out.2.2.2.1 (by have := HI.out.2.2.2.2; omega) w6).mono ?_
  rintro e w7 ⟨ya, yc, rfl, hy, hb⟩
  have R7 := Bx.mk (R6.out.later hb)
  have HY := Bx.mk hy
  clear hy hb R6
  go_upto_region 4 with (refine wpList_ap rfl _ _ rfl (E + 1) _ _ (by rfl) R7.out.o _ _ (by rfl) HY.out (by simp [beN_length]) R7.out.le ?_; intro y w8 ho hg _; have R8 := Bx.mk (R7.out.ap ho hg); clear ho hg R7 HY)
  obtain ⟨za, zn, zc, rfl⟩ := own_form2 R8.out.o
  go_wp2_with fail
  rw [rounds_succ]
  have HB := Bx.mk (bytes_dg (R8.out.kr.rows _ (.head _)))
  go_wp2_with (refine wpList_ap rfl _ _ rfl (E + 1) _ _ (by rfl) R8.out.o _ _ (by rfl) HB.out (by simp [beN_length, B8.list]) R8.out.le ?_; intro y w9 ho hg _; have R9 := Bx.mk (R8.out.ap ho hg); clear ho hg R8 HB)
  obtain ⟨za, zn, zc, rfl⟩ := own_form2 R9.out.o
  go_wp2
  go_ret
  refine ⟨.slice za zn zc, rfl, ?_, R9.out.kr.below⟩
  have h := R9.out.o.weak (Nat.le_succ E)
  unfold dgB
  simpa only [List.nil_append, List.append_assoc] using h
end Go.Proofs.YtnfgamekjbkbkaaDoor
