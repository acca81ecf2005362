/-
  Delta: the chapter's example; versions as they may be.
-/
import Derived.Test.YtnfgamekjbkbkaaDoorD2
import Derived.Test.YtnfgamekjbkbkaaDoorD3
import Derived.Test.YtnfgamekjbkbkaaDoorShl
namespace Go.Proofs.YtnfgamekjbkbkaaDoor
open Go Go.RowKit
theorem prt_nil_ne : ((prtL L4.nil).list == [0, 0, 0, 0, 0, 0, 0, 0]) = false := by decide +kernel
theorem neq8 (p : B8) (h : (p.list == [0, 0, 0, 0, 0, 0, 0, 0]) = false) (W : World) : (binOp .neq 48 (.agg #[.int .u8 (ub p.a), .int .u8 (ub p.b), .int .u8 (ub p.c), .int .u8 (ub p.d), .int .u8 (ub p.e), .int .u8 (ub p.f), .int .u8 (ub p.g), .int .u8 (ub p.h)]) (.agg #[.int .u8 0, .int .u8 0, .int .u8 0, .int .u8 0, .int .u8 0, .int .u8 0, .int .u8 0, .int .u8 0])).run Tryd.prog W = .ok (.bool true) W := by
  rw [run_neq_struct]
  have e2 : (Op.equalIn 10000 48 (.agg #[.int .u8 (ub p.a), .int .u8 (ub p.b), .int .u8 (ub p.c), .int .u8 (ub p.d), .int .u8 (ub p.e), .int .u8 (ub p.f), .int .u8 (ub p.g), .int .u8 (ub p.h)]) (.agg #[.int .u8 0, .int .u8 0, .int .u8 0, .int .u8 0, .int .u8 0, .int .u8 0, .int .u8 0, .int .u8 0])).run Tryd.prog W = .ok (p.list == [0, 0, 0, 0, 0, 0, 0, 0]) W := Go.run_equalIn_bytes (P := Tryd.prog) W 9998 48 5 8 Tryd.underlying48 Tryd.underlying5 u8_size9 p.list [0, 0, 0, 0, 0, 0, 0, 0] rfl rfl
  rw [h] at e2
  exact (congrArg (fun z => z.andThen fun b w' => Result.ok (Value.bool (!b)) w') e2).trans rfl
theorem zero_eql (W : World) : (binOp BinOp.eql 28 (.agg #[.int .i64 0, .int .i64 0, .int .i64 0, .int .i64 0]) (.agg #[.int .i64 0, .int .i64 0, .int .i64 0, .int .i64 0])).run Tryd.prog W = .ok (.bool true) W := by
  rw [vers_eql]
  rfl
set_option maxRecDepth 100000 in
set_option maxHeartbeats 4000000 in
theorem known9_any (w : World) (hTab : Tab w) (hG : 1 < w.heap.size) : Calls Tryd.prog 33 #[] w fun e w' => e = .returned (.bool true) ∧ Below w.heap.size w w' := by
  obtain ⟨E, hE⟩ : ∃ E, w.heap.size = E := ⟨_, rfl⟩
  have HD : Bx (∀ W q, Below E w W → SetAt W q L4.nil → Calls Tryd.prog 23 #[.pointer (some ⟨q, 0, none⟩)] W fun e w' => e = .returned (.agg #[.int .i64 0, .int .i64 0, .int .i64 0, .int .i64 0, .int .u8 (ub (prtL L4.nil).a), .int .u8 (ub (prtL L4.nil).b), .int .u8 (ub (prtL L4.nil).c), .int .u8 (ub (prtL L4.nil).d), .int .u8 (ub (prtL L4.nil).e), .int .u8 (ub (prtL L4.nil).f), .int .u8 (ub (prtL L4.nil).g), .int .u8 (ub (prtL L4.nil).h)]) ∧ Below W.heap.size W w') := ⟨fun W q h hs => dof_any _ L4.nil W (.inr ⟨q, rfl, hs⟩) Good.nil (hTab.later h (by omega)) (by have := h.size; omega)⟩
  have HA : Bx (∀ W q, Below E w W → SetAt W q L4.nil → Calls Tryd.prog 26 #[.pointer (some ⟨q, 0, none⟩), .agg #[.int .i64 0, .int .i64 0, .int .i64 0, .int .i64 0, .int .u8 (ub (prtL L4.nil).a), .int .u8 (ub (prtL L4.nil).b), .int .u8 (ub (prtL L4.nil).c), .int .u8 (ub (prtL L4.nil).d), .int .u8 (ub (prtL L4.nil).e), .int .u8 (ub (prtL L4.nil).f), .int .u8 (ub (prtL L4.nil).g), .int .u8 (ub (prtL L4.nil).h)]] W fun e w' => e = .returned (.bool true) ∧ Below W.heap.size W w') := ⟨fun W q h hs => by
    have := alike_any (.pointer (some ⟨q, 0, none⟩)) L4.nil V4.zero (prtL L4.nil) W (.inr ⟨q, rfl, hs⟩) Good.nil (hTab.later h (by omega)) (by have := h.size; omega)
    rw [show eqD L4.nil.ver V4.zero (prtL L4.nil) (prtL L4.nil) = true from eqD_self _ _] at this
    exact this⟩
  have hne := neq8 (prtL L4.nil) prt_nil_ne
  generalize prtL L4.nil = p at *
  have hze := zero_eql
  have KS0 := Bx.mk (KR.start w)
  rw [hE] at KS0
  clear hTab hG
  rw [hE]
  go_enter Tryd.func33, Tryd.ntmps33
  go_wp2_with fail
  refine (new_any8 w).mono ?_
  rintro e w1 ⟨rfl, hs, hb, -⟩
  have K1 := Bx.mk (KS0.out.later hb)
  rw [hE] at hs
  have HS := Bx.mk hs
  clear hs hb KS0
  go_wp2_with fail
  refine (HD.out w1 _ K1.out.below HS.out).mono ?_
  rintro e w2 ⟨rfl, hb⟩
  have K2 := Bx.mk (K1.out.later hb)
  clear hb K1 HS HD
  obtain ⟨D, hD⟩ : ∃ X, w2.heap.size = X := ⟨_, rfl⟩
  go_upto_region 2 with (refine wpList_store_v9 rfl 62 _ _ rfl w2 D hD #[.int .i64 0, .int .i64 0, .int .i64 0, .int .i64 0, .int .u8 0, .int .u8 0, .int .u8 0, .int .u8 0, .int .u8 0, .int .u8 0, .int .u8 0, .int .u8 0] 62 rfl (by rfl) #[.int .i64 0, .int .i64 0, .int .i64 0, .int .i64 0, .int .u8 (ub p.a), .int .u8 (ub p.b), .int .u8 (ub p.c), .int .u8 (ub p.d), .int .u8 (ub p.e), .int .u8 (ub p.f), .int .u8 (ub p.g), .int .u8 (ub p.h)] (by rfl) rfl (by kernel_rfl) (by simp [Value.oneCell']) ?_; intro w3 hb hr _; have K3 := Bx.mk (K2.out.var9 hD hb hr); clear hb hr K2)
  have R0 := Bx.mk K3.out.drew
  clear K3 hD
  refine wp_region_noPanic ?_
  refine wp_region_held_drew (S := fun W => W.rangeAt D 0 [.int .i64 0, .int .i64 0, .int .i64 0, .int .i64 0, .int .u8 (ub p.a), .int .u8 (ub p.b), .int .u8 (ub p.c), .int .u8 (ub p.d), .int .u8 (ub p.e), .int .u8 (ub p.f), .int .u8 (ub p.g), .int .u8 (ub p.h)]) (by kernel_rfl) (row_rng8 (l := [.int .i64 0, .int .i64 0, .int .i64 0, .int .i64 0, .int .u8 (ub p.a), .int .u8 (ub p.b), .int .u8 (ub p.c), .int .u8 (ub p.d), .int .u8 (ub p.e), .int .u8 (ub p.f), .int .u8 (ub p.g), .int .u8 (ub p.h)]) (R0.out.rows _ (.head _))) (fun hHeld => ?_)
  generalize w3.drew = W0 at *
  refine takeL 0 (v := ?_) rfl (by kernel_rfl) (by kernel_rfl) (by kernel_rfl) (fun _ _ _ h => h) (Or.inl ⟨by rfl, ?_⟩) hHeld ?_
  rotate_left 1
  · (intro w hSw; go_simp; try with_reducible rfl)
  try simp only [Act.put, List.setIfInBounds_toArray, List.set_cons_zero, List.set_cons_succ]
  refine takeL 1 rfl (by kernel_rfl) (by kernel_rfl) (by kernel_rfl) (fun _ _ _ h => h) (yieldsIf_load_mid (by rfl) _ _ rfl _ _ rfl _ _ (fun w hSw => range_to8 (l := [.int .i64 0, .int .i64 0, .int .i64 0, .int .i64 0]) hSw) Tryd.underlying28 rfl (by kernel_rfl)) hHeld ?_
  try simp only [Act.put, List.setIfInBounds_toArray, List.set_cons_zero, List.set_cons_succ]
  refine takeL 2 rfl (by kernel_rfl) (by kernel_rfl) (by kernel_rfl) (fun _ _ _ h => h) (yieldsIf_build9 (by rfl) 28 _ rfl #[.int .i64 0, .int .i64 0, .int .i64 0, .int .i64 0] (by kernel_rfl)) hHeld ?_
  try simp only [Act.put, List.setIfInBounds_toArray, List.set_cons_zero, List.set_cons_succ]
  refine takeL 3 (v := ?_) rfl (by kernel_rfl) (by kernel_rfl) (by kernel_rfl) (fun _ _ _ h => h) (Or.inl ⟨by rfl, ?_⟩) hHeld ?_
  rotate_left 1
  · (intro w hSw; go_simp; try with_reducible rfl)
  try simp only [Act.put, List.setIfInBounds_toArray, List.set_cons_zero, List.set_cons_succ]
  refine takeL 4 (v := ?_) rfl (by kernel_rfl) (by kernel_rfl) (by kernel_rfl) (fun _ _ _ h => h) (Or.inl ⟨by rfl, ?_⟩) hHeld ?_
  rotate_left 1
  · (intro w hSw; go_simp; try with_reducible rfl)
  try simp only [Act.put, List.setIfInBounds_toArray, List.set_cons_zero, List.set_cons_succ]
  refine takeL 6 rfl (by kernel_rfl) (by kernel_rfl) (by kernel_rfl) (fun _ _ _ h => h) (yieldsIf_load_mid (by rfl) _ _ rfl _ _ rfl _ _ (fun w hSw => hSw) Tryd.underlying62 rfl (by kernel_rfl)) hHeld ?_
  try simp only [Act.put, List.setIfInBounds_toArray, List.set_cons_zero, List.set_cons_succ]
  refine stepL 5 (by kernel_rfl) rfl (fun K hK => ?_)
  go_simp
  refine (new_any8 W0).mono ?_
  rintro e W1 ⟨rfl, hs, hb, -⟩
  show K _ _
  have R1 := Bx.mk (R0.out.later hb)
  have HS := Bx.mk hs
  clear hb hs R0
  refine hK.out _ _ (row_rng8 (l := [.int .i64 0, .int .i64 0, .int .i64 0, .int .i64 0, .int .u8 (ub p.a), .int .u8 (ub p.b), .int .u8 (ub p.c), .int .u8 (ub p.d), .int .u8 (ub p.e), .int .u8 (ub p.f), .int .u8 (ub p.g), .int .u8 (ub p.h)]) (R1.out.rows _ (.head _))) (fun hHeld => ?_)
  clear hK K
  try simp only [Act.put, List.setIfInBounds_toArray, List.set_cons_zero, List.set_cons_succ]
  refine stepL 7 (by kernel_rfl) rfl (fun K hK => ?_)
  go_simp
  refine (HA.out W1 _ R1.out.below HS.out).mono ?_
  rintro e W2 ⟨rfl, hb⟩
  show K _ _
  have R2 := Bx.mk (R1.out.later hb)
  clear hb HS R1
  refine hK.out _ _ (row_rng8 (l := [.int .i64 0, .int .i64 0, .int .i64 0, .int .i64 0, .int .u8 (ub p.a), .int .u8 (ub p.b), .int .u8 (ub p.c), .int .u8 (ub p.d), .int .u8 (ub p.e), .int .u8 (ub p.f), .int .u8 (ub p.g), .int .u8 (ub p.h)]) (R2.out.rows _ (.head _))) (fun hHeld => ?_)
  clear hK K
  try simp only [Act.put, List.setIfInBounds_toArray, List.set_cons_zero, List.set_cons_succ]
  refine takeL 8 (v := ?_) rfl (by kernel_rfl) (by kernel_rfl) (by kernel_rfl) (fun _ _ _ h => h) (Or.inl ⟨by rfl, ?_⟩) hHeld ?_
  rotate_left 1
  · (intro w hSw; go_simp; try with_reducible rfl)
  try simp only [Act.put, List.setIfInBounds_toArray, List.set_cons_zero, List.set_cons_succ]
  refine takeL 9 (v := ?_) rfl (by kernel_rfl) (by kernel_rfl) (by kernel_rfl) (fun _ _ _ h => h) (Or.inl ⟨by rfl, ?_⟩) hHeld ?_
  rotate_left 1
  · (intro w hSw; go_simp; try with_reducible rfl)
  try simp only [Act.put, List.setIfInBounds_toArray, List.set_cons_zero, List.set_cons_succ]
  refine takeL 10 (v := ?_) rfl (by kernel_rfl) (by kernel_rfl) (by kernel_rfl) (fun _ _ _ h => h) (Or.inl ⟨by rfl, ?_⟩) hHeld ?_
  rotate_left 1
  · (intro w hSw; go_simp; try with_reducible rfl)
  try simp only [Act.put, List.setIfInBounds_toArray, List.set_cons_zero, List.set_cons_succ]
  refine takeL 11 rfl (by kernel_rfl) (by kernel_rfl) (by kernel_rfl) (fun _ _ _ h => h) (yieldsIf_load_mid (by rfl) _ _ rfl _ _ rfl _ _ (fun w hSw => range_from8 (l := [.int .i64 0, .int .i64 0, .int .i64 0, .int .i64 0]) hSw rfl) Tryd.underlying48 rfl (by kernel_rfl)) hHeld ?_
  try simp only [Act.put, List.setIfInBounds_toArray, List.set_cons_zero, List.set_cons_succ]
  refine takeL 12 rfl (by kernel_rfl) (by kernel_rfl) (by kernel_rfl) (fun _ _ _ h => h) (yieldsIf_build9 (by rfl) 48 _ rfl #[.int .u8 0, .int .u8 0, .int .u8 0, .int .u8 0, .int .u8 0, .int .u8 0, .int .u8 0, .int .u8 0] (by kernel_rfl)) hHeld ?_
  try simp only [Act.put, List.setIfInBounds_toArray, List.set_cons_zero, List.set_cons_succ]
  refine takeL 13 (v := ?_) rfl (by kernel_rfl) (by kernel_rfl) (by kernel_rfl) (fun _ _ _ h => h) (Or.inl ⟨by rfl, ?_⟩) hHeld ?_
  rotate_left 1
  · (intro w hSw; go_simp; try with_reducible rfl)
  try simp only [Act.put, List.setIfInBounds_toArray, List.set_cons_zero, List.set_cons_succ]
  refine takeL 14 (v := ?_) rfl (by kernel_rfl) (by kernel_rfl) (by kernel_rfl) (fun _ _ _ h => h) (Or.inl ⟨by rfl, ?_⟩) hHeld ?_
  rotate_left 1
  · (intro w hSw; go_simp; try with_reducible rfl)
  try simp only [Act.put, List.setIfInBounds_toArray, List.set_cons_zero, List.set_cons_succ]
  refine takeL 15 (v := ?_) rfl (by kernel_rfl) (by kernel_rfl) (by kernel_rfl) (fun _ _ _ h => h) (Or.inl ⟨by rfl, ?_⟩) hHeld ?_
  rotate_left 1
  · (intro w hSw; go_simp; try with_reducible rfl)
  try simp only [Act.put, List.setIfInBounds_toArray, List.set_cons_zero]
  refine wpAnyH_done (by kernel_rfl) ?_ _
  refine NoPanic.normal ?_
  clear hHeld
  go_wp2_with fail
  go_ret
  exact ⟨rfl, R2.out.below⟩
end Go.Proofs.YtnfgamekjbkbkaaDoor
