/-
  Revocations: a set's versions, its logs.
-/
import Derived.Test.YtmfhdhggpepbbaaDoorEf
namespace Go.Proofs.YtmfhdhggpepbbaaDoor
open Go Go.RowKit
theorem below_set1 {B b i : Nat} {w W : World} {v : Value} (h : Below B w W) (hb : B ≤ b) : Below B w (W.setCell ⟨b, i, none⟩ v) := below_setCells hb [v] i _ _ h
theorem idxL0 (a b c d : Value) (W : World) : (Instr.index 27 (.agg #[a, b, c, d]) (.int .i64 0)).run Tryd.prog W = .ok a W := by kernel_rfl
theorem idxL1 (a b c d : Value) (W : World) : (Instr.index 27 (.agg #[a, b, c, d]) (.int .i64 1)).run Tryd.prog W = .ok b W := by kernel_rfl
theorem idxL2 (a b c d : Value) (W : World) : (Instr.index 27 (.agg #[a, b, c, d]) (.int .i64 2)).run Tryd.prog W = .ok c W := by kernel_rfl
theorem idxL3 (a b c d : Value) (W : World) : (Instr.index 27 (.agg #[a, b, c, d]) (.int .i64 3)).run Tryd.prog W = .ok d W := by kernel_rfl
theorem four_new (W : World) (a b c d : Value) (t : TypeId) (i : Nat) (u : Value) (h : (#[a, b, c, d] : Array Value)[i]? = some u) : ((W.alloc (.cells #[a, b, c, d] t)).cell? ⟨W.heap.size, i, none⟩) = some u := by
  rw [cell_of_row _ _ _ _ _ _ (hnew _ _ _ rfl)]
  exact h
/-- The four cells of a block, and that they may be written. -/
theorem row_four {W : World} {g : Nat} {a b c d : Value} {t : TypeId} (h : W.heap[g]? = some (.cells #[a, b, c, d] t (0, 0))) :
    (W.cell? ⟨g, 0, none⟩ = some a ∧ W.cell? ⟨g, 1, none⟩ = some b ∧ W.cell? ⟨g, 2, none⟩ = some c ∧ W.cell? ⟨g, 3, none⟩ = some d) ∧ W.frozen? ⟨g, 0, none⟩ = false ∧ W.frozen? ⟨g, 1, none⟩ = false ∧ W.frozen? ⟨g, 2, none⟩ = false ∧ W.frozen? ⟨g, 3, none⟩ = false := by
  refine ⟨⟨?_, ?_, ?_, ?_⟩, frozen_of_row _ _ _ _ _ h, frozen_of_row _ _ _ _ _ h, frozen_of_row _ _ _ _ _ h, frozen_of_row _ _ _ _ _ h⟩ <;> (rw [cell_of_row _ _ _ _ _ _ h]; rfl)
theorem Rows4.forms {W : World} {x : VV} {l : L4} (h : Rows4 W x l) : ∃ p q r s a b c d, x = ⟨.slice p l.a.length a, .slice q l.b.length b, .slice r l.c.length c, .slice s l.d.length d⟩ := by
  obtain ⟨x1, x2, x3, x4⟩ := x
  obtain ⟨p, a, h1⟩ := h.a.form
  obtain ⟨q, b, h2⟩ := h.b.form
  obtain ⟨r, c, h3⟩ := h.c.form
  obtain ⟨s, d, h4⟩ := h.d.form
  simp only at h1 h2 h3 h4
  subst h1 h2 h3 h4
  exact ⟨_, _, _, _, _, _, _, _, rfl⟩
theorem KR.set {w : World} {B Y : Nat} {o o1 : Obj} {rs : List (Nat × Obj)} {W W1 : World} (h : KR w B ((Y, o) :: rs) W) (hg : W.grownBy W1 (some Y)) (hY : W1.heap[Y]? = some o1) (hB : B ≤ Y) (hn : ∀ x ∈ rs, x.1 ≠ Y) : KR w B ((Y, o1) :: rs) W1 := by
  refine ⟨fun x hx => ?_, h.below.trans (grown_below hg hB h.le), Nat.le_trans h.le hg.size⟩
  rcases List.mem_cons.1 hx with rfl | hx
  · exact hY
  · rw [hg.block x.1 (h.lt (.tail _ hx)) (fun e => hn x hx (by injection e))]
    exact h.rows x (.tail _ hx)
theorem run_cellI (w : World) (b i : Nat) (n : Int) (u : Value) (hc : w.cell? ⟨b, i, none⟩ = some u) (hf : w.frozen? ⟨b, i, none⟩ = false) : (Instr.storeAt 3 (.pointer (some ⟨b, i, none⟩)) (.int .i64 n)).run Tryd.prog w = .ok () (w.setCell ⟨b, i, none⟩ (.int .i64 n)) := by
  go_simp
theorem run_cellS (w : World) (b i : Nat) (a : Option Addr) (n c : Nat) (u : Value) (hc : w.cell? ⟨b, i, none⟩ = some u) (hf : w.frozen? ⟨b, i, none⟩ = false) : (Instr.storeAt 26 (.pointer (some ⟨b, i, none⟩)) (.slice a n c)).run Tryd.prog w = .ok () (w.setCell ⟨b, i, none⟩ (.slice a n c)) := by
  go_simp
/-- One cell of a block that is known. -/
theorem wpList_cellI {ops : Array Oper} {rest : List Oper} {op : Oper} {a : Act} {w : World} {Q : Exit → Act → World → Prop} (hgd : op.guard = none) (x y : Operand) (ho : op.op = .store 3 x y)
    (b i : Nat) (n : Int) (cs ds : Array Value) (t : TypeId) (hx : a.eval x = .pointer (some ⟨b, i, none⟩)) (hy : a.eval y = .int .i64 n) (hrow : w.heap[b]? = some (.cells cs t (0, 0))) (hi : i < cs.size) (hd : cs.setIfInBounds i (.int .i64 n) = ds)
    (k : ∀ w', w.grownBy w' (some b) → w'.heap[b]? = some (.cells ds t (0, 0)) → wpList Tryd.prog ops Q rest (a.put op.dst undef) w') : wpList Tryd.prog ops Q (op :: rest) a w := by
  refine wpList_plain hgd fun K hK => ?_
  have hrun := run_cellI w b i n cs[i] (by rw [cell_of_row _ _ _ _ _ _ hrow]; exact Array.getElem?_eq_getElem hi) (frozen_of_row _ _ _ _ _ hrow)
  unfold Oper.wp execOp
  simp only [ho, hx, hy, hrun, Sem.run_bind, Sem.run_pure, Result.andThen_ok]
  exact hK _ _ (k _ (kb_set1 _ _ _ _) (by rw [← hd]; exact heap_setCell_same _ _ _ _ _ _ hrow))
theorem wpList_cellS {ops : Array Oper} {rest : List Oper} {op : Oper} {a : Act} {w : World} {Q : Exit → Act → World → Prop} (hgd : op.guard = none) (x y : Operand) (ho : op.op = .store 26 x y)
    (b i : Nat) (a1 : Option Addr) (n1 c1 : Nat) (cs ds : Array Value) (t : TypeId) (hx : a.eval x = .pointer (some ⟨b, i, none⟩)) (hy : a.eval y = .slice a1 n1 c1) (hrow : w.heap[b]? = some (.cells cs t (0, 0))) (hi : i < cs.size) (hd : cs.setIfInBounds i (.slice a1 n1 c1) = ds)
    (k : ∀ w', w.grownBy w' (some b) → w'.heap[b]? = some (.cells ds t (0, 0)) → wpList Tryd.prog ops Q rest (a.put op.dst undef) w') : wpList Tryd.prog ops Q (op :: rest) a w := by
  refine wpList_plain hgd fun K hK => ?_
  have hrun := run_cellS w b i a1 n1 c1 cs[i] (by rw [cell_of_row _ _ _ _ _ _ hrow]; exact Array.getElem?_eq_getElem hi) (frozen_of_row _ _ _ _ _ hrow)
  unfold Oper.wp execOp
  simp only [ho, hx, hy, hrun, Sem.run_bind, Sem.run_pure, Result.andThen_ok]
  exact hK _ _ (k _ (kb_set1 _ _ _ _) (by rw [← hd]; exact heap_setCell_same _ _ _ _ _ _ hrow))
set_option maxRecDepth 100000 in
set_option maxHeartbeats 1000000 in
theorem versions_any (v : Value) (l : L4) (w : World) (hv : SetV w v l) : Calls Tryd.prog 21 #[v] w fun e w' => e = .returned l.ver.v ∧ Below w.heap.size w w' := by
  obtain ⟨E, hE⟩ : ∃ E, w.heap.size = E := ⟨_, rfl⟩
  have K0 : Bx (KR w E [(E + 1, (.cells #[.int .i64 0, .int .i64 0, .int .i64 0, .int .i64 0] 39)), (E, (.cells #[.int .i64 0, .int .i64 0, .int .i64 0, .int .i64 0] 39))] ((w.alloc (.cells #[.int .i64 0, .int .i64 0, .int .i64 0, .int .i64 0] 39)).alloc (.cells #[.int .i64 0, .int .i64 0, .int .i64 0, .int .i64 0] 39))) := Bx.mk (by
    subst hE
    have h := ((KR.start w).new (.cells #[.int .i64 0, .int .i64 0, .int .i64 0, .int .i64 0] 39)).new (.cells #[.int .i64 0, .int .i64 0, .int .i64 0, .int .i64 0] 39)
    simpa using h)
  have HO := Bx.mk (own_any8 v l ((w.alloc (.cells #[.int .i64 0, .int .i64 0, .int .i64 0, .int .i64 0] 39)).alloc (.cells #[.int .i64 0, .int .i64 0, .int .i64 0, .int .i64 0] 39)) (hv.later (((Below.refl _ _).alloc (Nat.le_refl _) _).trans ((Below.refl _ _).alloc (by simp) _))))
  obtain ⟨pt, rfl⟩ : ∃ pt, v = .pointer pt := by
    rcases hv with ⟨rfl, -⟩ | ⟨p, rfl, -⟩
    · exact ⟨_, rfl⟩
    · exact ⟨_, rfl⟩
  clear hv
  go_enter Tryd.func21, Tryd.ntmps21
  go_wp2_with fail
  generalize ((w.alloc (.cells #[.int .i64 0, .int .i64 0, .int .i64 0, .int .i64 0] 39)).alloc (.cells #[.int .i64 0, .int .i64 0, .int .i64 0, .int .i64 0] 39)) = w0 at *
  refine HO.out.mono ?_
  rintro e w1 ⟨x, rfl, hx, hb⟩
  obtain ⟨p1, q1, t1, s1, a1, b1, c1, d1, rfl⟩ := hx.forms
  have K1 := Bx.mk (K0.out.later hb)
  have i0 := idxL0 (.slice p1 l.a.length a1) (.slice q1 l.b.length b1) (.slice t1 l.c.length c1) (.slice s1 l.d.length d1)
  have i1 := idxL1 (.slice p1 l.a.length a1) (.slice q1 l.b.length b1) (.slice t1 l.c.length c1) (.slice s1 l.d.length d1)
  have i2 := idxL2 (.slice p1 l.a.length a1) (.slice q1 l.b.length b1) (.slice t1 l.c.length c1) (.slice s1 l.d.length d1)
  have i3 := idxL3 (.slice p1 l.a.length a1) (.slice q1 l.b.length b1) (.slice t1 l.c.length c1) (.slice s1 l.d.length d1)
  clear hx hb HO K0
  unfold VV.v
  go_wp2
  refine wp_loop_rounds 5 ?_
  rw [rounds_succ]
  go_wp2_with (refine wpList_cellI rfl _ _ rfl (E + 1) 0 (l.a.length : Int) #[.int .i64 0, .int .i64 0, .int .i64 0, .int .i64 0] #[.int .i64 (l.a.length : Int), .int .i64 0, .int .i64 0, .int .i64 0] 39 (by rfl) (by rfl) (K1.out.rows _ (.head _)) (by simp) rfl ?_; intro w2 hg hr; have K2 := Bx.mk (K1.out.set hg hr (by omega) (by simp)); clear hg hr K1)
  rw [rounds_succ]
  go_wp2_with (refine wpList_cellI rfl _ _ rfl (E + 1) 1 (l.b.length : Int) #[.int .i64 (l.a.length : Int), .int .i64 0, .int .i64 0, .int .i64 0] #[.int .i64 (l.a.length : Int), .int .i64 (l.b.length : Int), .int .i64 0, .int .i64 0] 39 (by rfl) (by rfl) (K2.out.rows _ (.head _)) (by simp) rfl ?_; intro w3 hg hr; have K3 := Bx.mk (K2.out.set hg hr (by omega) (by simp)); clear hg hr K2)
  rw [rounds_succ]
  go_wp2_with (refine wpList_cellI rfl _ _ rfl (E + 1) 2 (l.c.length : Int) #[.int .i64 (l.a.length : Int), .int .i64 (l.b.length : Int), .int .i64 0, .int .i64 0] #[.int .i64 (l.a.length : Int), .int .i64 (l.b.length : Int), .int .i64 (l.c.length : Int), .int .i64 0] 39 (by rfl) (by rfl) (K3.out.rows _ (.head _)) (by simp) rfl ?_; intro w4 hg hr; have K4 := Bx.mk (K3.out.set hg hr (by omega) (by simp)); clear hg hr K3)
  rw [rounds_succ]
  go_wp2_with (refine wpList_cellI rfl _ _ rfl (E + 1) 3 (l.d.length : Int) #[.int .i64 (l.a.length : Int), .int .i64 (l.b.length : Int), .int .i64 (l.c.length : Int), .int .i64 0] #[.int .i64 (l.a.length : Int), .int .i64 (l.b.length : Int), .int .i64 (l.c.length : Int), .int .i64 (l.d.length : Int)] 39 (by rfl) (by rfl) (K4.out.rows _ (.head _)) (by simp) rfl ?_; intro w5 hg hr; have K5 := Bx.mk (K4.out.set hg hr (by omega) (by simp)); clear hg hr K4)
  rw [rounds_succ]
  go_wp2_with (first | (refine wpList_load_row rfl 39 _ rfl (E + 1) (by rfl) _ #[.int .i64 (l.a.length : Int), .int .i64 (l.b.length : Int), .int .i64 (l.c.length : Int), .int .i64 (l.d.length : Int)] (0, 0) _ (K5.out.rows _ (.head _)) Tryd.underlying39 rfl (by kernel_rfl) ?_) | (refine wpList_store_new rfl 39 _ _ rfl E #[.int .i64 (l.a.length : Int), .int .i64 (l.b.length : Int), .int .i64 (l.c.length : Int), .int .i64 (l.d.length : Int)] _ _ (by rfl) (by rfl) (K5.out.rows _ (.tail _ (.head _))) rfl (by kernel_rfl) (by simp [Value.oneCell']) ?_; intro w6 hw6 hr6; have HR6 := Bx.mk hr6; have HB6 := Bx.mk (show Below E w w6 by rw [hw6]; exact below_setCells (Nat.le_refl _) _ _ _ _ K5.out.below); clear hw6 hr6 K5))
  refine bodyPost_ret (results_cell_row rfl _ _ E _ _ _ _ rfl HR6.out Tryd.underlying39 rfl (by kernel_rfl)) rfl ?_
  exact ⟨rfl, by first | exact HB6.out | (rw [hE]; exact HB6.out)⟩
end Go.Proofs.YtmfhdhggpepbbaaDoor
