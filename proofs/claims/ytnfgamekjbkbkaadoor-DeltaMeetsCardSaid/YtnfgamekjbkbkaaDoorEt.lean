/-
  Revocations: a set copied.
-/
import Derived.Test.YtnfgamekjbkbkaaDoorEo
import Derived.Lib.AppendZeros
namespace Go.Proofs.YtnfgamekjbkbkaaDoor
open Go Go.RowKit
theorem step_cellS {ops : Array Oper} {o : Oper} {a : Act} {w : World} {K : Act → World → Prop} {Q : Exit → Act → World → Prop} {E : Prop} (hgd : o.guard = none) (x y : Operand) (ho : o.op = .store 23 x y)
    (b i : Nat) (a1 : Option Addr) (n1 c1 : Nat) (cs ds : Array Value) (t : TypeId) (hx : a.eval x = .pointer (some ⟨b, i, none⟩)) (hy : a.eval y = .slice a1 n1 c1) (hrow : w.heap[b]? = some (.cells cs t (0, 0))) (hi : i < cs.size) (hd : cs.setIfInBounds i (.slice a1 n1 c1) = ds)
    (k : ∀ w', w.grownBy w' (some b) → w'.heap[b]? = some (.cells ds t (0, 0)) → K (a.put o.dst undef) w') : if Region.wanted o (yielded ops a.tmps) = true then Oper.wp Tryd.prog o a w K Q else E := by
  have hw : Region.wanted o (yielded ops a.tmps) = true := by simp [Region.wanted, hgd]
  rw [if_pos hw]
  have hrun := run_cellS w b i a1 n1 c1 cs[i] (by rw [cell_of_row _ _ _ _ _ _ hrow]; exact Array.getElem?_eq_getElem hi) (frozen_of_row _ _ _ _ _ hrow)
  unfold Oper.wp execOp
  simp only [ho, hx, hy, hrun, Sem.run_bind, Sem.run_pure, Result.andThen_ok]
  exact k _ (kb_set1 _ _ _ _) (by rw [← hd]; exact heap_setCell_same _ _ _ _ _ _ hrow)
theorem SetAt.aside {W W1 : World} {p D : Nat} {l : L4} {cs : Array Value} {fr : Nat × Nat} (h : SetAt W p l) (hg : W.grownBy W1 (some D)) (hD : W.heap[D]? = some (.cells cs 129 fr)) (hne : p ≠ D) : SetAt W1 p l := by
  obtain ⟨x, hx, hr⟩ := h
  exact ⟨x, by rw [hg.block p (Array.getElem?_eq_some_iff.1 hx).1 (fun e => hne (Option.some.inj e))]; exact hx, hr.grown hg hD set_int⟩
set_option maxRecDepth 100000 in
set_option maxHeartbeats 2000000 in
theorem copy_any (p : Nat) (l : L4) (w : World) (hs : SetAt w p l) (hg : Good l) : Calls Tryd.prog 43 #[.pointer (some ⟨p, 0, none⟩)] w fun e w' => e = .returned (.pointer (some ⟨w.heap.size, 0, none⟩)) ∧ SetAt w' w.heap.size l ∧ Below w.heap.size w w' := by
  have hpl := hs.lt
  obtain ⟨D, hD⟩ : ∃ D, w.heap.size = D := ⟨_, rfl⟩
  have hN := new_any8 w
  rw [hD] at hN hpl ⊢
  have HD := Bx.mk hD
  have HG := Bx.mk hg
  have S0 := Bx.mk hs
  have hpD : p ≠ D := by omega
  have hNone : ¬ (some (Addr.mk p 0 none) = none) := by simp
  clear hs hg hD hpl
  go_enter Tryd.func43, Tryd.ntmps43
  go_wp2_with fail
  refine hN.mono ?_
  rintro e w1 ⟨rfl, ⟨x, hx, hr⟩, hb, hsz⟩
  have K0 : Bx (KR w D [(D, .cells #[x.a, x.b, x.c, x.d] 129)] w1) := ⟨⟨(fun z hz => by
    rcases List.mem_cons.1 hz with rfl | hz
    · exact hx
    · cases hz), hb, (by have := HD.out; omega)⟩⟩
  have S1 := Bx.mk (S0.out.later (by rw [HD.out]; exact hb))
  clear hx hr hb hsz hN S0 HD
  go_wp2
  refine wp_loop_rounds 5 ?_
  rw [rounds_succ]
  go_upto_region 7 with fail
  have R0 := Bx.mk K0.out.drew
  have S0 := Bx.mk (S1.out.later (Below.refl _ _).drew)
  clear K0 S1
  refine wp_region_noPanic ?_
  refine wp_region_held_drew (S := fun _ => True) (by kernel_rfl) (trivial) (fun hHeld => ?_)
  generalize w1.drew = y0 at *
  refine takeL 0 (v := ?_) rfl (by kernel_rfl) (by kernel_rfl) (by kernel_rfl) (fun _ _ _ h => h) (Or.inl ⟨by rfl, ?_⟩) hHeld ?_
  rotate_left 1
  · (intro w hSw; go_simp; try with_reducible rfl)
  try simp only [Act.put, List.setIfInBounds_toArray, List.set_cons_zero, List.set_cons_succ]
  refine takeL 1 (v := ?_) rfl (by kernel_rfl) (by kernel_rfl) (by kernel_rfl) (fun _ _ _ h => h) (Or.inl ⟨by rfl, ?_⟩) hHeld ?_
  rotate_left 1
  · (intro w hSw; go_simp; try with_reducible rfl)
  try simp only [Act.put, List.setIfInBounds_toArray, List.set_cons_zero, List.set_cons_succ]
  refine takeL 2 (v := ?_) rfl (by kernel_rfl) (by kernel_rfl) (by kernel_rfl) (fun _ _ _ h => h) (Or.inl ⟨by rfl, ?_⟩) hHeld ?_
  rotate_left 1
  · (intro w hSw; go_simp; try with_reducible rfl)
  try simp only [Act.put, List.setIfInBounds_toArray, List.set_cons_zero, List.set_cons_succ]
  refine takeL 3 (v := ?_) rfl (by kernel_rfl) (by kernel_rfl) (by kernel_rfl) (fun _ _ _ h => h) (Or.inl ⟨by rfl, ?_⟩) hHeld ?_
  rotate_left 1
  · (intro w hSw; go_simp; try with_reducible rfl)
  try simp only [Act.put, List.setIfInBounds_toArray, List.set_cons_zero, List.set_cons_succ]
  refine takeL 5 (v := ?_) rfl (by kernel_rfl) (by kernel_rfl) (by kernel_rfl) (fun _ _ _ h => h) (Or.inl ⟨by rfl, ?_⟩) hHeld ?_
  rotate_left 1
  · (intro w hSw; go_simp; try with_reducible rfl)
  try simp only [Act.put, List.setIfInBounds_toArray, List.set_cons_zero, List.set_cons_succ]
  refine takeL 6 (v := ?_) rfl (by kernel_rfl) (by kernel_rfl) (by kernel_rfl) (fun _ _ _ h => h) (Or.inl ⟨by rfl, ?_⟩) hHeld ?_
  rotate_left 1
  · (intro w hSw; go_simp; try with_reducible rfl)
  try simp only [Act.put, List.setIfInBounds_toArray, List.set_cons_zero, List.set_cons_succ]
  refine stepL 4 (by kernel_rfl) rfl (fun K hK => ?_)
  go_simp
  refine (log_0 _ l y0 (.inr ⟨p, rfl, S0.out⟩) (by have := HG.out.a; omega)).mono ?_
  rintro e z0 ⟨v, rfl, hu, hb⟩
  show K _ _
  obtain ⟨u0, g0, hv⟩ := hu.form
  subst hv
  have W0 := Bx.mk hu
  have R1 := Bx.mk (R0.out.later hb)
  have S1 := Bx.mk (S0.out.later hb)
  clear hu hb R0 S0
  refine hK.out _ _ trivial (fun hHeld => ?_)
  clear hK K
  try simp only [Act.put, List.setIfInBounds_toArray, List.set_cons_zero, List.set_cons_succ]
  refine takeL 7 (v := ?_) rfl (by kernel_rfl) (by kernel_rfl) (by kernel_rfl) (fun _ _ _ h => h) (Or.inl ⟨by rfl, ?_⟩) hHeld ?_
  rotate_left 1
  · (intro w hSw; go_simp; try with_reducible rfl)
  try simp only [Act.put, List.setIfInBounds_toArray, List.set_cons_zero, List.set_cons_succ]
  refine stepL 8 (by kernel_rfl) rfl (fun K hK => ?_)
  refine step_cellS rfl _ _ rfl D 0 u0 l.a.length g0 #[x.a, x.b, x.c, x.d] #[.slice u0 l.a.length g0, x.b, x.c, x.d] 129 (by rfl) (by rfl) (R1.out.rows _ (.head _)) (by simp) rfl ?_
  intro q0 hg hr
  have K1 := Bx.mk (R1.out.set hg hr (Nat.le_refl _) (fun z hz => by cases hz))
  have S2 := Bx.mk (S1.out.aside hg (R1.out.rows _ (.head _)) hpD)
  have U0 := Bx.mk (W0.out.grown hg (R1.out.rows _ (.head _)) set_int)
  clear W0
  clear hg hr R1 S1
  have S1 := S2
  clear S2
  refine hK.out _ _ trivial (fun hHeld => ?_)
  clear hK K
  try simp only [Act.put]
  refine wpAnyH_done (by kernel_rfl) ?_ _
  refine NoPanic.normal ?_
  clear hHeld
  go_wp2
  rw [rounds_succ]
  go_upto_region 7 with fail
  have R0 := Bx.mk K1.out.drew
  have S0 := Bx.mk (S1.out.later (Below.refl _ _).drew)
  have V0 := Bx.mk (U0.out.later (Below.refl _ _).drew)
  clear U0
  clear K1 S1
  refine wp_region_noPanic ?_
  refine wp_region_held_drew (S := fun _ => True) (by kernel_rfl) (trivial) (fun hHeld => ?_)
  generalize q0.drew = y1 at *
  refine takeL 0 (v := ?_) rfl (by kernel_rfl) (by kernel_rfl) (by kernel_rfl) (fun _ _ _ h => h) (Or.inl ⟨by rfl, ?_⟩) hHeld ?_
  rotate_left 1
  · (intro w hSw; go_simp; try with_reducible rfl)
  try simp only [Act.put, List.setIfInBounds_toArray, List.set_cons_zero, List.set_cons_succ]
  refine takeL 1 (v := ?_) rfl (by kernel_rfl) (by kernel_rfl) (by kernel_rfl) (fun _ _ _ h => h) (Or.inl ⟨by rfl, ?_⟩) hHeld ?_
  rotate_left 1
  · (intro w hSw; go_simp; try with_reducible rfl)
  try simp only [Act.put, List.setIfInBounds_toArray, List.set_cons_zero, List.set_cons_succ]
  refine takeL 2 (v := ?_) rfl (by kernel_rfl) (by kernel_rfl) (by kernel_rfl) (fun _ _ _ h => h) (Or.inl ⟨by rfl, ?_⟩) hHeld ?_
  rotate_left 1
  · (intro w hSw; go_simp; try with_reducible rfl)
  try simp only [Act.put, List.setIfInBounds_toArray, List.set_cons_zero, List.set_cons_succ]
  refine takeL 3 (v := ?_) rfl (by kernel_rfl) (by kernel_rfl) (by kernel_rfl) (fun _ _ _ h => h) (Or.inl ⟨by rfl, ?_⟩) hHeld ?_
  rotate_left 1
  · (intro w hSw; go_simp; try with_reducible rfl)
  try simp only [Act.put, List.setIfInBounds_toArray, List.set_cons_zero, List.set_cons_succ]
  refine takeL 5 (v := ?_) rfl (by kernel_rfl) (by kernel_rfl) (by kernel_rfl) (fun _ _ _ h => h) (Or.inl ⟨by rfl, ?_⟩) hHeld ?_
  rotate_left 1
  · (intro w hSw; go_simp; try with_reducible rfl)
  try simp only [Act.put, List.setIfInBounds_toArray, List.set_cons_zero, List.set_cons_succ]
  refine takeL 6 (v := ?_) rfl (by kernel_rfl) (by kernel_rfl) (by kernel_rfl) (fun _ _ _ h => h) (Or.inl ⟨by rfl, ?_⟩) hHeld ?_
  rotate_left 1
  · (intro w hSw; go_simp; try with_reducible rfl)
  try simp only [Act.put, List.setIfInBounds_toArray, List.set_cons_zero, List.set_cons_succ]
  refine stepL 4 (by kernel_rfl) rfl (fun K hK => ?_)
  go_simp
  refine (log_1 _ l y1 (.inr ⟨p, rfl, S0.out⟩) (by have := HG.out.b; omega)).mono ?_
  rintro e z1 ⟨v, rfl, hu, hb⟩
  show K _ _
  obtain ⟨u1, g1, hv⟩ := hu.form
  subst hv
  have W1 := Bx.mk hu
  have R1 := Bx.mk (R0.out.later hb)
  have S1 := Bx.mk (S0.out.later hb)
  have W0 := Bx.mk (V0.out.later hb)
  clear V0
  clear hu hb R0 S0
  refine hK.out _ _ trivial (fun hHeld => ?_)
  clear hK K
  try simp only [Act.put, List.setIfInBounds_toArray, List.set_cons_zero, List.set_cons_succ]
  refine takeL 7 (v := ?_) rfl (by kernel_rfl) (by kernel_rfl) (by kernel_rfl) (fun _ _ _ h => h) (Or.inl ⟨by rfl, ?_⟩) hHeld ?_
  rotate_left 1
  · (intro w hSw; go_simp; try with_reducible rfl)
  try simp only [Act.put, List.setIfInBounds_toArray, List.set_cons_zero, List.set_cons_succ]
  refine stepL 8 (by kernel_rfl) rfl (fun K hK => ?_)
  refine step_cellS rfl _ _ rfl D 1 u1 l.b.length g1 #[.slice u0 l.a.length g0, x.b, x.c, x.d] #[.slice u0 l.a.length g0, .slice u1 l.b.length g1, x.c, x.d] 129 (by rfl) (by rfl) (R1.out.rows _ (.head _)) (by simp) rfl ?_
  intro q1 hg hr
  have K2 := Bx.mk (R1.out.set hg hr (Nat.le_refl _) (fun z hz => by cases hz))
  have S2 := Bx.mk (S1.out.aside hg (R1.out.rows _ (.head _)) hpD)
  have U0 := Bx.mk (W0.out.grown hg (R1.out.rows _ (.head _)) set_int)
  clear W0
  have U1 := Bx.mk (W1.out.grown hg (R1.out.rows _ (.head _)) set_int)
  clear W1
  clear hg hr R1 S1
  have S1 := S2
  clear S2
  refine hK.out _ _ trivial (fun hHeld => ?_)
  clear hK K
  try simp only [Act.put]
  refine wpAnyH_done (by kernel_rfl) ?_ _
  refine NoPanic.normal ?_
  clear hHeld
  go_wp2
  rw [rounds_succ]
  go_upto_region 7 with fail
  have R0 := Bx.mk K2.out.drew
  have S0 := Bx.mk (S1.out.later (Below.refl _ _).drew)
  have V0 := Bx.mk (U0.out.later (Below.refl _ _).drew)
  clear U0
  have V1 := Bx.mk (U1.out.later (Below.refl _ _).drew)
  clear U1
  clear K2 S1
  refine wp_region_noPanic ?_
  refine wp_region_held_drew (S := fun _ => True) (by kernel_rfl) (trivial) (fun hHeld => ?_)
  generalize q1.drew = y2 at *
  refine takeL 0 (v := ?_) rfl (by kernel_rfl) (by kernel_rfl) (by kernel_rfl) (fun _ _ _ h => h) (Or.inl ⟨by rfl, ?_⟩) hHeld ?_
  rotate_left 1
  · (intro w hSw; go_simp; try with_reducible rfl)
  try simp only [Act.put, List.setIfInBounds_toArray, List.set_cons_zero, List.set_cons_succ]
  refine takeL 1 (v := ?_) rfl (by kernel_rfl) (by kernel_rfl) (by kernel_rfl) (fun _ _ _ h => h) (Or.inl ⟨by rfl, ?_⟩) hHeld ?_
  rotate_left 1
  · (intro w hSw; go_simp; try with_reducible rfl)
  try simp only [Act.put, List.setIfInBounds_toArray, List.set_cons_zero, List.set_cons_succ]
  refine takeL 2 (v := ?_) rfl (by kernel_rfl) (by kernel_rfl) (by kernel_rfl) (fun _ _ _ h => h) (Or.inl ⟨by rfl, ?_⟩) hHeld ?_
  rotate_left 1
  · (intro w hSw; go_simp; try with_reducible rfl)
  try simp only [Act.put, List.setIfInBounds_toArray, List.set_cons_zero, List.set_cons_succ]
  refine takeL 3 (v := ?_) rfl (by kernel_rfl) (by kernel_rfl) (by kernel_rfl) (fun _ _ _ h => h) (Or.inl ⟨by rfl, ?_⟩) hHeld ?_
  rotate_left 1
  · (intro w hSw; go_simp; try with_reducible rfl)
  try simp only [Act.put, List.setIfInBounds_toArray, List.set_cons_zero, List.set_cons_succ]
  refine takeL 5 (v := ?_) rfl (by kernel_rfl) (by kernel_rfl) (by kernel_rfl) (fun _ _ _ h => h) (Or.inl ⟨by rfl, ?_⟩) hHeld ?_
  rotate_left 1
  · (intro w hSw; go_simp; try with_reducible rfl)
  try simp only [Act.put, List.setIfInBounds_toArray, List.set_cons_zero, List.set_cons_succ]
  refine takeL 6 (v := ?_) rfl (by kernel_rfl) (by kernel_rfl) (by kernel_rfl) (fun _ _ _ h => h) (Or.inl ⟨by rfl, ?_⟩) hHeld ?_
  rotate_left 1
  · (intro w hSw; go_simp; try with_reducible rfl)
  try simp only [Act.put, List.setIfInBounds_toArray, List.set_cons_zero, List.set_cons_succ]
  refine stepL 4 (by kernel_rfl) rfl (fun K hK => ?_)
  go_simp
  refine (log_2 _ l y2 (.inr ⟨p, rfl, S0.out⟩) (by have := HG.out.c; omega)).mono ?_
  rintro e z2 ⟨v, rfl, hu, hb⟩
  show K _ _
  obtain ⟨u2, g2, hv⟩ := hu.form
  subst hv
  have W2 := Bx.mk hu
  have R1 := Bx.mk (R0.out.later hb)
  have S1 := Bx.mk (S0.out.later hb)
  have W0 := Bx.mk (V0.out.later hb)
  clear V0
  have W1 := Bx.mk (V1.out.later hb)
  clear V1
  clear hu hb R0 S0
  refine hK.out _ _ trivial (fun hHeld => ?_)
  clear hK K
  try simp only [Act.put, List.setIfInBounds_toArray, List.set_cons_zero, List.set_cons_succ]
  refine takeL 7 (v := ?_) rfl (by kernel_rfl) (by kernel_rfl) (by kernel_rfl) (fun _ _ _ h => h) (Or.inl ⟨by rfl, ?_⟩) hHeld ?_
  rotate_left 1
  · (intro w hSw; go_simp; try with_reducible rfl)
  try simp only [Act.put, List.setIfInBounds_toArray, List.set_cons_zero, List.set_cons_succ]
  refine stepL 8 (by kernel_rfl) rfl (fun K hK => ?_)
  refine step_cellS rfl _ _ rfl D 2 u2 l.c.length g2 #[.slice u0 l.a.length g0, .slice u1 l.b.length g1, x.c, x.d] #[.slice u0 l.a.length g0, .slice u1 l.b.length g1, .slice u2 l.c.length g2, x.d] 129 (by rfl) (by rfl) (R1.out.rows _ (.head _)) (by simp) rfl ?_
  intro q2 hg hr
  have K3 := Bx.mk (R1.out.set hg hr (Nat.le_refl _) (fun z hz => by cases hz))
  have S2 := Bx.mk (S1.out.aside hg (R1.out.rows _ (.head _)) hpD)
  have U0 := Bx.mk (W0.out.grown hg (R1.out.rows _ (.head _)) set_int)
  clear W0
  have U1 := Bx.mk (W1.out.grown hg (R1.out.rows _ (.head _)) set_int)
  clear W1
  have U2 := Bx.mk (W2.out.grown hg (R1.out.rows _ (.head _)) set_int)
  clear W2
  clear hg hr R1 S1
  have S1 := S2
  clear S2
  refine hK.out _ _ trivial (fun hHeld => ?_)
  clear hK K
  try simp only [Act.put]
  refine wpAnyH_done (by kernel_rfl) ?_ _
  refine NoPanic.normal ?_
  clear hHeld
  go_wp2
  rw [rounds_succ]
  go_upto_region 7 with fail
  have R0 := Bx.mk K3.out.drew
  have S0 := Bx.mk (S1.out.later (Below.refl _ _).drew)
  have V0 := Bx.mk (U0.out.later (Below.refl _ _).drew)
  clear U0
  have V1 := Bx.mk (U1.out.later (Below.refl _ _).drew)
  clear U1
  have V2 := Bx.mk (U2.out.later (Below.refl _ _).drew)
  clear U2
  clear K3 S1
  refine wp_region_noPanic ?_
  refine wp_region_held_drew (S := fun _ => True) (by kernel_rfl) (trivial) (fun hHeld => ?_)
  generalize q2.drew = y3 at *
  refine takeL 0 (v := ?_) rfl (by kernel_rfl) (by kernel_rfl) (by kernel_rfl) (fun _ _ _ h => h) (Or.inl ⟨by rfl, ?_⟩) hHeld ?_
  rotate_left 1
  · (intro w hSw; go_simp; try with_reducible rfl)
  try simp only [Act.put, List.setIfInBounds_toArray, List.set_cons_zero, List.set_cons_succ]
  refine takeL 1 (v := ?_) rfl (by kernel_rfl) (by kernel_rfl) (by kernel_rfl) (fun _ _ _ h => h) (Or.inl ⟨by rfl, ?_⟩) hHeld ?_
  rotate_left 1
  · (intro w hSw; go_simp; try with_reducible rfl)
  try simp only [Act.put, List.setIfInBounds_toArray, List.set_cons_zero, List.set_cons_succ]
  refine takeL 2 (v := ?_) rfl (by kernel_rfl) (by kernel_rfl) (by kernel_rfl) (fun _ _ _ h => h) (Or.inl ⟨by rfl, ?_⟩) hHeld ?_
  rotate_left 1
  · (intro w hSw; go_simp; try with_reducible rfl)
  try simp only [Act.put, List.setIfInBounds_toArray, List.set_cons_zero, List.set_cons_succ]
  refine takeL 3 (v := ?_) rfl (by kernel_rfl) (by kernel_rfl) (by kernel_rfl) (fun _ _ _ h => h) (Or.inl ⟨by rfl, ?_⟩) hHeld ?_
  rotate_left 1
  · (intro w hSw; go_simp; try with_reducible rfl)
  try simp only [Act.put, List.setIfInBounds_toArray, List.set_cons_zero, List.set_cons_succ]
  refine takeL 5 (v := ?_) rfl (by kernel_rfl) (by kernel_rfl) (by kernel_rfl) (fun _ _ _ h => h) (Or.inl ⟨by rfl, ?_⟩) hHeld ?_
  rotate_left 1
  · (intro w hSw; go_simp; try with_reducible rfl)
  try simp only [Act.put, List.setIfInBounds_toArray, List.set_cons_zero, List.set_cons_succ]
  refine takeL 6 (v := ?_) rfl (by kernel_rfl) (by kernel_rfl) (by kernel_rfl) (fun _ _ _ h => h) (Or.inl ⟨by rfl, ?_⟩) hHeld ?_
  rotate_left 1
  · (intro w hSw; go_simp; try with_reducible rfl)
  try simp only [Act.put, List.setIfInBounds_toArray, List.set_cons_zero, List.set_cons_succ]
  refine stepL 4 (by kernel_rfl) rfl (fun K hK => ?_)
  go_simp
  refine (log_3 _ l y3 (.inr ⟨p, rfl, S0.out⟩) (by have := HG.out.d; omega)).mono ?_
  rintro e z3 ⟨v, rfl, hu, hb⟩
  show K _ _
  obtain ⟨u3, g3, hv⟩ := hu.form
  subst hv
  have W3 := Bx.mk hu
  have R1 := Bx.mk (R0.out.later hb)
  have S1 := Bx.mk (S0.out.later hb)
  have W0 := Bx.mk (V0.out.later hb)
  clear V0
  have W1 := Bx.mk (V1.out.later hb)
  clear V1
  have W2 := Bx.mk (V2.out.later hb)
  clear V2
  clear hu hb R0 S0
  refine hK.out _ _ trivial (fun hHeld => ?_)
  clear hK K
  try simp only [Act.put, List.setIfInBounds_toArray, List.set_cons_zero, List.set_cons_succ]
  refine takeL 7 (v := ?_) rfl (by kernel_rfl) (by kernel_rfl) (by kernel_rfl) (fun _ _ _ h => h) (Or.inl ⟨by rfl, ?_⟩) hHeld ?_
  rotate_left 1
  · (intro w hSw; go_simp; try with_reducible rfl)
  try simp only [Act.put, List.setIfInBounds_toArray, List.set_cons_zero, List.set_cons_succ]
  refine stepL 8 (by kernel_rfl) rfl (fun K hK => ?_)
  refine step_cellS rfl _ _ rfl D 3 u3 l.d.length g3 #[.slice u0 l.a.length g0, .slice u1 l.b.length g1, .slice u2 l.c.length g2, x.d] #[.slice u0 l.a.length g0, .slice u1 l.b.length g1, .slice u2 l.c.length g2, .slice u3 l.d.length g3] 129 (by rfl) (by rfl) (R1.out.rows _ (.head _)) (by simp) rfl ?_
  intro q3 hg hr
  have K4 := Bx.mk (R1.out.set hg hr (Nat.le_refl _) (fun z hz => by cases hz))
  have S2 := Bx.mk (S1.out.aside hg (R1.out.rows _ (.head _)) hpD)
  have U0 := Bx.mk (W0.out.grown hg (R1.out.rows _ (.head _)) set_int)
  clear W0
  have U1 := Bx.mk (W1.out.grown hg (R1.out.rows _ (.head _)) set_int)
  clear W1
  have U2 := Bx.mk (W2.out.grown hg (R1.out.rows _ (.head _)) set_int)
  clear W2
  have U3 := Bx.mk (W3.out.grown hg (R1.out.rows _ (.head _)) set_int)
  clear W3
  clear hg hr R1 S1
  have S1 := S2
  clear S2
  refine hK.out _ _ trivial (fun hHeld => ?_)
  clear hK K
  try simp only [Act.put]
  refine wpAnyH_done (by kernel_rfl) ?_ _
  refine NoPanic.normal ?_
  clear hHeld
  go_wp2
  rw [rounds_succ]
  go_wp2
  go_ret
  exact ⟨rfl, ⟨⟨_, _, _, _⟩, K4.out.rows _ (.head _), ⟨U0.out, U1.out, U2.out, U3.out⟩⟩, K4.out.below⟩
end Go.Proofs.YtnfgamekjbkbkaaDoor
