/-
  RevokeMerges' walk, whole.
-/
import Derived.Test.YtmfhdhggpepbbaaDoorFm
namespace Go.Proofs.YtmfhdhggpepbbaaDoor
open Go Go.RowKit
theorem cutC_row {W : World} {b o : Nat} {f : Nat → Int} {T : TypeId} (h : W.heap[b]? = some (.cells (cutC f) T (0, 0))) (x y z v : Int) : ∃ f', (W.setCells b o [.int .i64 x, .int .i64 y, .int .i64 z, .int .i64 v]).heap[b]? = some (.cells (cutC f') T (0, 0)) := by
  have h1 := heap_setCell_same _ b o _ _ (.int .i64 x) h
  rw [cutC_set] at h1
  have h2 := heap_setCell_same _ b (o + 1) _ _ (.int .i64 y) h1
  rw [cutC_set] at h2
  have h3 := heap_setCell_same _ b (o + 1 + 1) _ _ (.int .i64 z) h2
  rw [cutC_set] at h3
  have h4 := heap_setCell_same _ b (o + 1 + 1 + 1) _ _ (.int .i64 v) h3
  rw [cutC_set] at h4
  exact ⟨_, h4⟩
theorem step_st4 {ops : Array Oper} {o : Oper} {a : Act} {w : World} {K : Act → World → Prop} {Q : Exit → Act → World → Prop} {E : Prop} (hgd : o.guard = none) (x y : Operand) (ho : o.op = .store 31 x y)
    (b off : Nat) (v : V4) (f : Nat → Int) (hx : a.eval x = .pointer (some ⟨b, off, none⟩)) (hy : a.eval y = .agg #[.int .i64 v.a, .int .i64 v.b, .int .i64 v.c, .int .i64 v.d]) (hrow : w.heap[b]? = some (.cells (cutC f) 62 (0, 0))) (hoff : off + 4 ≤ 12)
    (k : ∀ w' f', w.grownBy w' (some b) → w'.heap.size = w.heap.size → w'.heap[b]? = some (.cells (cutC f') 62 (0, 0)) → K (a.put o.dst undef) w') : if Region.wanted o (yielded ops a.tmps) = true then Oper.wp Tryd.prog o a w K Q else E := by
  have hw : Region.wanted o (yielded ops a.tmps) = true := by simp [Region.wanted, hgd]
  rw [if_pos hw]
  obtain ⟨f', hf'⟩ := cutC_row (o := off) hrow v.a v.b v.c v.d
  exact wp_store_mid 31 x y ho b off #[.int .i64 v.a, .int .i64 v.b, .int .i64 v.c, .int .i64 v.d] hx hy (there_row hrow off _ (by simpa [cutC] using hoff)) (by kernel_rfl) (by simp [Value.oneCell']) (k _ f' (kb_setCells _ _ _) (by simp [World.setCells, World.setCell]) hf')
/-- All that is there while the copies take the deltas. -/
structure MX (w : World) (E p0 p1 p2 X Y : Nat) (rs : List (Nat × Obj)) (u1 u2 : VV) (d1 d2 l0 l1 l2 lx ly : L4) (W : World) : Prop where
  k : KR w E rs W
  e : ME w E p0 p1 p2 l0 l1 l2 W
  x : SetAt W X lx
  y : SetAt W Y ly
  r1 : Rows4 W u1 d1
  r2 : Rows4 W u2 d2
theorem MX.later {w : World} {E p0 p1 p2 X Y : Nat} {rs : List (Nat × Obj)} {u1 u2 : VV} {d1 d2 l0 l1 l2 lx ly : L4} {W W1 : World} (h : MX w E p0 p1 p2 X Y rs u1 u2 d1 d2 l0 l1 l2 lx ly W) (hb : Below W.heap.size W W1) : MX w E p0 p1 p2 X Y rs u1 u2 d1 d2 l0 l1 l2 lx ly W1 := ⟨h.k.later hb, h.e.later hb, h.x.later hb, h.y.later hb, h.r1.later hb, h.r2.later hb⟩
/-- A copy changes. -/
structure Apart (E p0 p1 p2 X Y : Nat) (rs : List (Nat × Obj)) : Prop where
  e : E + 5 < X
  a : p0 < X
  b : p1 < X
  c : p2 < X
  y : X < Y
  r : ∀ z ∈ rs, z.1 ≠ X ∧ z.1 ≠ Y
theorem ME.side {w : World} {E p0 p1 p2 Z : Nat} {l0 l1 l2 m : L4} {W W1 : World} (h : ME w E p0 p1 p2 l0 l1 l2 W) (hz : SetAt W Z m) (hg : W.grownBy W1 (some Z)) (he : E + 5 < Z) (h0 : p0 ≠ Z) (h1 : p1 ≠ Z) (h2 : p2 ≠ Z) : ME w E p0 p1 p2 l0 l1 l2 W1 :=
  ⟨h.k.grown hg (by omega) (fun z hz => by rcases List.mem_cons.1 hz with rfl | hz; exact Nat.ne_of_lt he; cases hz), h.s0.beside hz hg h0, h.s1.beside hz hg h1, h.s2.beside hz hg h2⟩
theorem MX.onX {w : World} {E p0 p1 p2 X Y : Nat} {rs : List (Nat × Obj)} {u1 u2 : VV} {d1 d2 l0 l1 l2 lx ly m : L4} {W W1 : World} (h : MX w E p0 p1 p2 X Y rs u1 u2 d1 d2 l0 l1 l2 lx ly W) (ha : Apart E p0 p1 p2 X Y rs) (hg : W.grownBy W1 (some X)) (hs : SetAt W1 X m) : MX w E p0 p1 p2 X Y rs u1 u2 d1 d2 l0 l1 l2 m ly W1 := by
  have h1 := ha.e
  have h2 := ha.a
  have h3 := ha.b
  have h4 := ha.c
  have h5 := ha.y
  exact ⟨h.k.grown hg (by omega) (fun z hz => (ha.r z hz).1), h.e.side h.x hg h1 (by omega) (by omega) (by omega), hs, h.y.beside h.x hg (by omega), h.r1.beside h.x hg, h.r2.beside h.x hg⟩
theorem MX.onY {w : World} {E p0 p1 p2 X Y : Nat} {rs : List (Nat × Obj)} {u1 u2 : VV} {d1 d2 l0 l1 l2 lx ly m : L4} {W W1 : World} (h : MX w E p0 p1 p2 X Y rs u1 u2 d1 d2 l0 l1 l2 lx ly W) (ha : Apart E p0 p1 p2 X Y rs) (hg : W.grownBy W1 (some Y)) (hs : SetAt W1 Y m) : MX w E p0 p1 p2 X Y rs u1 u2 d1 d2 l0 l1 l2 lx m W1 := by
  have h1 := ha.e
  have h2 := ha.a
  have h3 := ha.b
  have h4 := ha.c
  have h5 := ha.y
  exact ⟨h.k.grown hg (by omega) (fun z hz => (ha.r z hz).2), h.e.side h.y hg (by omega) (by omega) (by omega) (by omega), h.x.beside h.y hg (by omega), hs, h.r1.beside h.y hg, h.r2.beside h.y hg⟩
set_option maxRecDepth 100000 in
set_option maxHeartbeats 8000000 in
theorem merges_walk (u : VV) (m : L4) (fa fb fc : V4) (w : World) (hx : RowsI w u m) (hm : Most m 9223372036854775807) (hF : Full w) (hf : 0 < w.heap.size) (hT : Tab w) (hG : 1 < w.heap.size) :
    Calls Tryd.prog 5 #[u.v, fa.v, fb.v, fc.v] w fun e w' => e = .returned (.bool true) ∧ Below w.heap.size w w' := by
  obtain ⟨E, hE⟩ : ∃ E, w.heap.size = E := ⟨_, rfl⟩
  rw [hE] at hf hG
  have HL := Bx.mk (loopMO w E u m hE hx hm)
  have HTab : Bx (∀ W, Below E w W → Tab W ∧ 1 < W.heap.size) := ⟨fun W h => ⟨hT.later h hG, Nat.lt_of_lt_of_le hG (by have := h.size; rw [hE] at this; exact this)⟩⟩
  have HFu : Bx (∀ W, Below E w W → Full W ∧ 0 < W.heap.size) := ⟨fun W h => ⟨hF.later h hf, Nat.lt_of_lt_of_le hf (by have := h.size; rw [hE] at this; exact this)⟩⟩
  have K0 : Bx (KR w E [(E + 3, .cells #[.int .i64 fc.a, .int .i64 fc.b, .int .i64 fc.c, .int .i64 fc.d] 31), (E + 2, .cells #[.int .i64 fb.a, .int .i64 fb.b, .int .i64 fb.c, .int .i64 fb.d] 31), (E + 1, .cells #[.int .i64 fa.a, .int .i64 fa.b, .int .i64 fa.c, .int .i64 fa.d] 31), (E, .cells #[u.a, u.b, u.c, u.d] 27)] (((((w.alloc (.cells #[u.a, u.b, u.c, u.d] 27)).alloc (.cells #[.int .i64 fa.a, .int .i64 fa.b, .int .i64 fa.c, .int .i64 fa.d] 31)).alloc (.cells #[.int .i64 fb.a, .int .i64 fb.b, .int .i64 fb.c, .int .i64 fb.d] 31)).alloc (.cells #[.int .i64 fc.a, .int .i64 fc.b, .int .i64 fc.c, .int .i64 fc.d] 31)).alloc (.cells #[.int .i64 0, .int .i64 0, .int .i64 0, .int .i64 0, .int .i64 0, .int .i64 0, .int .i64 0, .int .i64 0, .int .i64 0, .int .i64 0, .int .i64 0, .int .i64 0] 62)) ∧ (((((w.alloc (.cells #[u.a, u.b, u.c, u.d] 27)).alloc (.cells #[.int .i64 fa.a, .int .i64 fa.b, .int .i64 fa.c, .int .i64 fa.d] 31)).alloc (.cells #[.int .i64 fb.a, .int .i64 fb.b, .int .i64 fb.c, .int .i64 fb.d] 31)).alloc (.cells #[.int .i64 fc.a, .int .i64 fc.b, .int .i64 fc.c, .int .i64 fc.d] 31)).alloc (.cells #[.int .i64 0, .int .i64 0, .int .i64 0, .int .i64 0, .int .i64 0, .int .i64 0, .int .i64 0, .int .i64 0, .int .i64 0, .int .i64 0, .int .i64 0, .int .i64 0] 62)).heap[E + 4]? = some (.cells (cutC fun _ => 0) 62 (0, 0)) ∧ (((((w.alloc (.cells #[u.a, u.b, u.c, u.d] 27)).alloc (.cells #[.int .i64 fa.a, .int .i64 fa.b, .int .i64 fa.c, .int .i64 fa.d] 31)).alloc (.cells #[.int .i64 fb.a, .int .i64 fb.b, .int .i64 fb.c, .int .i64 fb.d] 31)).alloc (.cells #[.int .i64 fc.a, .int .i64 fc.b, .int .i64 fc.c, .int .i64 fc.d] 31)).alloc (.cells #[.int .i64 0, .int .i64 0, .int .i64 0, .int .i64 0, .int .i64 0, .int .i64 0, .int .i64 0, .int .i64 0, .int .i64 0, .int .i64 0, .int .i64 0, .int .i64 0] 62)).heap.size = E + 5) := ⟨by
    have h := (((((KR.start w).new (.cells #[u.a, u.b, u.c, u.d] 27)).new (.cells #[.int .i64 fa.a, .int .i64 fa.b, .int .i64 fa.c, .int .i64 fa.d] 31)).new (.cells #[.int .i64 fb.a, .int .i64 fb.b, .int .i64 fb.c, .int .i64 fb.d] 31)).new (.cells #[.int .i64 fc.a, .int .i64 fc.b, .int .i64 fc.c, .int .i64 fc.d] 31)).new (.cells #[.int .i64 0, .int .i64 0, .int .i64 0, .int .i64 0, .int .i64 0, .int .i64 0, .int .i64 0, .int .i64 0, .int .i64 0, .int .i64 0, .int .i64 0, .int .i64 0] 62)
    simp only [alloc_size8, hE] at h
    refine ⟨h.sub (fun z hz => .tail _ hz), ?_, by simp only [alloc_size8, hE]⟩
    exact h.rows _ (.head _)⟩
  have hz62 : ∀ W : World, (zeroValue 62).run Tryd.prog W = .ok (.agg #[.int .i64 0, .int .i64 0, .int .i64 0, .int .i64 0, .int .i64 0, .int .i64 0, .int .i64 0, .int .i64 0, .int .i64 0, .int .i64 0, .int .i64 0, .int .i64 0]) W := fun W => by kernel_rfl
  have hz63 : ∀ W : World, (zeroValue 63).run Tryd.prog W = .ok (.agg #[.pointer none, .pointer none, .pointer none]) W := fun W => by kernel_rfl
  have hbv := build_vers
  have HRo : Bx (∀ W, KR w E [(E + 3, .cells #[.int .i64 fc.a, .int .i64 fc.b, .int .i64 fc.c, .int .i64 fc.d] 31), (E + 2, .cells #[.int .i64 fb.a, .int .i64 fb.b, .int .i64 fb.c, .int .i64 fb.d] 31), (E + 1, .cells #[.int .i64 fa.a, .int .i64 fa.b, .int .i64 fa.c, .int .i64 fa.d] 31), (E, .cells #[u.a, u.b, u.c, u.d] 27)] W → W.rangeAt (E + 1) 0 [.int .i64 fa.a, .int .i64 fa.b, .int .i64 fa.c, .int .i64 fa.d] ∧ W.rangeAt (E + 2) 0 [.int .i64 fb.a, .int .i64 fb.b, .int .i64 fb.c, .int .i64 fb.d] ∧ W.rangeAt (E + 3) 0 [.int .i64 fc.a, .int .i64 fc.b, .int .i64 fc.c, .int .i64 fc.d]) := ⟨fun W h => ⟨row_rng8 (l := [.int .i64 fa.a, .int .i64 fa.b, .int .i64 fa.c, .int .i64 fa.d]) (h.rows _ (.tail _ (.tail _ (.head _)))), row_rng8 (l := [.int .i64 fb.a, .int .i64 fb.b, .int .i64 fb.c, .int .i64 fb.d]) (h.rows _ (.tail _ (.head _))), row_rng8 (l := [.int .i64 fc.a, .int .i64 fc.b, .int .i64 fc.c, .int .i64 fc.d]) (h.rows _ (.head _))⟩⟩
  have HKg : Bx (∀ W W1, KR w E [(E + 3, .cells #[.int .i64 fc.a, .int .i64 fc.b, .int .i64 fc.c, .int .i64 fc.d] 31), (E + 2, .cells #[.int .i64 fb.a, .int .i64 fb.b, .int .i64 fb.c, .int .i64 fb.d] 31), (E + 1, .cells #[.int .i64 fa.a, .int .i64 fa.b, .int .i64 fa.c, .int .i64 fa.d] 31), (E, .cells #[u.a, u.b, u.c, u.d] 27)] W → W.grownBy W1 (some (E + 4)) → KR w E [(E + 3, .cells #[.int .i64 fc.a, .int .i64 fc.b, .int .i64 fc.c, .int .i64 fc.d] 31), (E + 2, .cells #[.int .i64 fb.a, .int .i64 fb.b, .int .i64 fb.c, .int .i64 fb.d] 31), (E + 1, .cells #[.int .i64 fa.a, .int .i64 fa.b, .int .i64 fa.c, .int .i64 fa.d] 31), (E, .cells #[u.a, u.b, u.c, u.d] 27)] W1) := ⟨fun W W1 h hg => h.grown hg (by omega) (fun z hz => by
    simp only [List.mem_cons, List.not_mem_nil, or_false] at hz
    rcases hz with rfl | rfl | rfl | rfl <;> simp)⟩
  rw [hE]
  unfold V4.v VV.v
  have HE := Bx.mk hE
  clear hx hm hF hf hT hG
  go_enter Tryd.func5, Tryd.ntmps5
  go_upto_region 2 with fail
  generalize (((((w.alloc (.cells #[u.a, u.b, u.c, u.d] 27)).alloc (.cells #[.int .i64 fa.a, .int .i64 fa.b, .int .i64 fa.c, .int .i64 fa.d] 31)).alloc (.cells #[.int .i64 fb.a, .int .i64 fb.b, .int .i64 fb.c, .int .i64 fb.d] 31)).alloc (.cells #[.int .i64 fc.a, .int .i64 fc.b, .int .i64 fc.c, .int .i64 fc.d] 31)).alloc (.cells #[.int .i64 0, .int .i64 0, .int .i64 0, .int .i64 0, .int .i64 0, .int .i64 0, .int .i64 0, .int .i64 0, .int .i64 0, .int .i64 0, .int .i64 0, .int .i64 0] 62)) = w0 at *
  have R0 := Bx.mk (And.intro K0.out.1.drew (And.intro (show w0.drew.heap[E + 4]? = _ from K0.out.2.1) (show w0.drew.heap.size = E + 5 from K0.out.2.2)))
  clear K0
  refine wp_region_noPanic ?_
  refine wp_region_held_drew (S := fun W => W.rangeAt (E + 1) 0 [.int .i64 fa.a, .int .i64 fa.b, .int .i64 fa.c, .int .i64 fa.d] ∧ W.rangeAt (E + 2) 0 [.int .i64 fb.a, .int .i64 fb.b, .int .i64 fb.c, .int .i64 fb.d] ∧ W.rangeAt (E + 3) 0 [.int .i64 fc.a, .int .i64 fc.b, .int .i64 fc.c, .int .i64 fc.d]) (by kernel_rfl) (HRo.out _ R0.out.1) (fun hHeld => ?_)
  generalize w0.drew = V0 at *
  refine takeL 0 rfl (by kernel_rfl) (by kernel_rfl) (by kernel_rfl) (fun _ _ _ h => h) (yieldsIf_load_mid (by rfl) _ _ rfl _ _ rfl _ _ (fun w hSw => hSw.1) Tryd.underlying31 rfl (by kernel_rfl)) hHeld ?_
  try simp only [Act.put, List.setIfInBounds_toArray, List.set_cons_zero, List.set_cons_succ]
  refine takeL 1 rfl (by kernel_rfl) (by kernel_rfl) (by kernel_rfl) (fun _ _ _ h => h) (yieldsIf_load_mid (by rfl) _ _ rfl _ _ rfl _ _ (fun w hSw => hSw.2.1) Tryd.underlying31 rfl (by kernel_rfl)) hHeld ?_
  try simp only [Act.put, List.setIfInBounds_toArray, List.set_cons_zero, List.set_cons_succ]
  refine takeL 2 rfl (by kernel_rfl) (by kernel_rfl) (by kernel_rfl) (fun _ _ _ h => h) (yieldsIf_load_mid (by rfl) _ _ rfl _ _ rfl _ _ (fun w hSw => hSw.2.2) Tryd.underlying31 rfl (by kernel_rfl)) hHeld ?_
  try simp only [Act.put, List.setIfInBounds_toArray, List.set_cons_zero, List.set_cons_succ]
  refine takeL 3 (v := ?_) rfl (by kernel_rfl) (by kernel_rfl) (by kernel_rfl) (fun _ _ _ h => h) (Or.inl ⟨by rfl, ?_⟩) hHeld ?_
  rotate_left 1
  · (intro w hSw; go_simp; try with_reducible rfl)
  try simp only [Act.put, List.setIfInBounds_toArray, List.set_cons_zero, List.set_cons_succ]
  refine stepL 4 (by kernel_rfl) rfl (fun K hK => ?_)
  refine step_st4 rfl _ _ rfl (E + 4) 0 fa (fun _ => 0) (by rfl) (by rfl) R0.out.2.1 (by omega) ?_
  intro V1 f1 hg hz hc
  show K _ _
  have R1 := Bx.mk (And.intro (HKg.out _ _ R0.out.1 hg) (And.intro hc (hz.trans R0.out.2.2)))
  clear hg hz hc R0
  refine hK.out _ _ (HRo.out _ R1.out.1) (fun hHeld => ?_)
  clear hK K
  try simp only [Act.put]
  refine takeL 5 (v := ?_) rfl (by kernel_rfl) (by kernel_rfl) (by kernel_rfl) (fun _ _ _ h => h) (Or.inl ⟨by rfl, ?_⟩) hHeld ?_
  rotate_left 1
  · (intro w hSw; go_simp; try with_reducible rfl)
  try simp only [Act.put, List.setIfInBounds_toArray, List.set_cons_zero, List.set_cons_succ]
  refine stepL 6 (by kernel_rfl) rfl (fun K hK => ?_)
  refine step_st4 rfl _ _ rfl (E + 4) 4 fb f1 (by rfl) (by rfl) R1.out.2.1 (by omega) ?_
  intro V2 f2 hg hz hc
  show K _ _
  have R2 := Bx.mk (And.intro (HKg.out _ _ R1.out.1 hg) (And.intro hc (hz.trans R1.out.2.2)))
  clear hg hz hc R1
  refine hK.out _ _ (HRo.out _ R2.out.1) (fun hHeld => ?_)
  clear hK K
  try simp only [Act.put]
  refine takeL 7 (v := ?_) rfl (by kernel_rfl) (by kernel_rfl) (by kernel_rfl) (fun _ _ _ h => h) (Or.inl ⟨by rfl, ?_⟩) hHeld ?_
  rotate_left 1
  · (intro w hSw; go_simp; try with_reducible rfl)
  try simp only [Act.put, List.setIfInBounds_toArray, List.set_cons_zero, List.set_cons_succ]
  refine stepL 8 (by kernel_rfl) rfl (fun K hK => ?_)
  refine step_st4 rfl _ _ rfl (E + 4) 8 fc f2 (by rfl) (by rfl) R2.out.2.1 (by omega) ?_
  intro V3 f3 hg hz hc
  show K _ _
  have R3 := Bx.mk (And.intro (HKg.out _ _ R2.out.1 hg) (And.intro hc (hz.trans R2.out.2.2)))
  clear hg hz hc R2
  refine hK.out _ _ (HRo.out _ R3.out.1) (fun hHeld => ?_)
  clear hK K
  try simp only [Act.put]
  refine wpAnyH_done (by kernel_rfl) ?_ _
  refine NoPanic.normal ?_
  clear hHeld
  have hsz := R3.out.2.2
  have HM : Bx (MM w E u 0 (fun _ => 0) (fun _ => L4.nil) (V3.alloc (.cells #[.pointer none, .pointer none, .pointer none] 63))) := ⟨⟨(R3.out.1.sub (rs' := [(E, .cells #[u.a, u.b, u.c, u.d] 27)]) (fun z hz => by
    rcases List.mem_cons.1 hz with rfl | hz
    · exact .tail _ (.tail _ (.tail _ (.head _)))
    · cases hz)).later (below_a _), ⟨f3, (hold _ _ _ (Array.getElem?_eq_some_iff.1 R3.out.2.1).1).trans R3.out.2.1⟩, hnew _ _ _ hsz.symm, fun j hj => absurd hj (Nat.not_lt_zero _), fun j hj => absurd hj (Nat.not_lt_zero _), fun j k _ hk => absurd hk (Nat.not_lt_zero _)⟩⟩
  clear R3 HRo HKg
  go_wp2_with fail
  clear hsz
  generalize V3.alloc _ = w1 at *
  refine HL.out _ ?_ _ w1 ?_ ?_
  · intro a' w' hfr h8 hb
    obtain ⟨x, rfl, hx⟩ := open194 hfr
    have e8 := (hx 8).symm.trans h8
    rw [e8]
    go_ret
    exact ⟨rfl, hb⟩
  · exact ⟨⟨⟨rfl, rfl⟩, rfl, rfl, rfl, rfl⟩, ⟨_, _, HM.out, fun j hj => absurd hj (Nat.not_lt_zero _)⟩, fun h => absurd h (Nat.not_lt_zero _)⟩
  intro a5 w5 h5
  obtain ⟨P, M, hMM, hJ⟩ := h5.st
  obtain ⟨hgd, hnd⟩ := chk_good (h5.chk (by omega))
  obtain ⟨n0, hn0, e0⟩ := hJ 0 (by omega)
  obtain ⟨n1, hn1, e1⟩ := hJ 1 (by omega)
  obtain ⟨n2, hn2, e2⟩ := hJ 2 (by omega)
  have hs0 := hMM.at_ 0 (by omega)
  have hs1 := hMM.at_ 1 (by omega)
  have hs2 := hMM.at_ 2 (by omega)
  rw [e0] at hs0
  rw [e1] at hs1
  rw [e2] at hs2
  have hset := hMM.set
  have hpc : ptrC P 3 = #[.pointer (some ⟨P 0, 0, none⟩), .pointer (some ⟨P 1, 0, none⟩), .pointer (some ⟨P 2, 0, none⟩)] := rfl
  rw [hpc] at hset
  have hkr := hMM.kr
  clear hMM hJ e0 e1 e2 hpc
  generalize P 0 = p0 at *
  generalize P 1 = p1 at *
  generalize P 2 = p2 at *
  have hMl := Most.take m 40
  generalize m.take 40 = L at *
  have M5 : Bx (ME w E p0 p1 p2 (L.pre n0) (L.pre n1) (L.pre n2) w5) := ⟨⟨⟨(fun z hz => by
    rcases List.mem_cons.1 hz with rfl | hz
    · exact hset
    · cases hz), hkr.below, hkr.le⟩, hs0, hs1, hs2⟩⟩
  obtain ⟨z, rfl, hz⟩ := open194 h5.fr.fr
  have f4 := (hz 4).symm.trans h5.fr.s4
  have f9 := (hz 9).symm.trans h5.fr.s9
  have f10 := (hz 10).symm.trans h5.fr.s10
  have f11 := (hz 11).symm.trans h5.fr.s11
  clear h5 hz HM HL hs0 hs1 hs2 hset hkr
  rw [f4, f9, f10, f11]
  clear f4 f9 f10 f11
  obtain ⟨q, hq⟩ : ∃ q, q = (n0.max n1).max n2 := ⟨_, rfl⟩
  have hq2 : (n0.max n2).max n1 = q := by rw [hq, N4.max_swap]
  have hqL : q.Le L.len := by rw [hq]; exact N4.max_le (N4.max_le hn0 hn1) hn2
  have HG0 : Bx (Good (L.pre n0)) := ⟨hgd.pre n0⟩
  have HG01 : Bx (Good (L.pre (n0.max n1))) := ⟨hgd.pre _⟩
  have HG02 : Bx (Good (L.pre (n0.max n2))) := ⟨hgd.pre _⟩
  have HGq : Bx (Good (L.pre q)) := ⟨hgd.pre q⟩
  obtain ⟨d1, hd1⟩ : ∃ d, (L.pre n1).from_ ⟨0, 0, 0, 0⟩ = d := ⟨_, rfl⟩
  obtain ⟨d2, hd2⟩ : ∃ d, (L.pre n2).from_ ⟨0, 0, 0, 0⟩ = d := ⟨_, rfl⟩
  have HA1 : Bx (∃ k, applyL (L.pre n0) V4.zero d1 = (k, 0, L.pre (n0.max n1))) := ⟨⟨_, by rw [← hd1]; exact apply_beg hgd hnd n0 n1 hn0 hn1⟩⟩
  have HA2 : Bx (∃ k, applyL (L.pre (n0.max n1)) V4.zero d2 = (k, 0, L.pre q)) := ⟨⟨_, by rw [← hd2, hq]; exact apply_beg hgd hnd _ n2 (N4.max_le hn0 hn1) hn2⟩⟩
  have HA3 : Bx (∃ k, applyL (L.pre n0) V4.zero d2 = (k, 0, L.pre (n0.max n2))) := ⟨⟨_, by rw [← hd2]; exact apply_beg hgd hnd n0 n2 hn0 hn2⟩⟩
  have HA4 : Bx (∃ k, applyL (L.pre (n0.max n2)) V4.zero d1 = (k, 0, L.pre q)) := ⟨⟨_, by rw [← hd1, ← hq2]; exact apply_beg hgd hnd _ n1 (N4.max_le hn0 hn2) hn1⟩⟩
  have HD1 : Bx (Most d1 1000) := ⟨by rw [← hd1]; have ha := hMl.a; have hb := hMl.b; have hc := hMl.c; have hd := hMl.d; unfold L4.from_ L4.pre; exact ⟨by simp only [List.length_drop, List.length_take]; omega, by simp only [List.length_drop, List.length_take]; omega, by simp only [List.length_drop, List.length_take]; omega, by simp only [List.length_drop, List.length_take]; omega⟩⟩
  have HD2 : Bx (Most d2 1000) := ⟨by rw [← hd2]; have ha := hMl.a; have hb := hMl.b; have hc := hMl.c; have hd := hMl.d; unfold L4.from_ L4.pre; exact ⟨by simp only [List.length_drop, List.length_take]; omega, by simp only [List.length_drop, List.length_take]; omega, by simp only [List.length_drop, List.length_take]; omega, by simp only [List.length_drop, List.length_take]; omega⟩⟩
  have HSi1 : Bx (∀ W, SetAt W p1 (L.pre n1) → Calls Tryd.prog 20 #[.pointer (some ⟨p1, 0, none⟩), .agg #[.int .i64 0, .int .i64 0, .int .i64 0, .int .i64 0]] W fun e w' => ∃ u : VV, e = .returned (.tuple #[.agg (dC V4.zero u), .int .i64 0]) ∧ Rows4 w' u d1 ∧ Below W.heap.size W w') := ⟨fun W h => by rw [← hd1]; exact since_ok V4.zero 0 0 0 0 p1 (L.pre n1) W h (hgd.pre n1) rfl rfl rfl rfl (Nat.zero_le _) (Nat.zero_le _) (Nat.zero_le _) (Nat.zero_le _)⟩
  have HSi2 : Bx (∀ W, SetAt W p2 (L.pre n2) → Calls Tryd.prog 20 #[.pointer (some ⟨p2, 0, none⟩), .agg #[.int .i64 0, .int .i64 0, .int .i64 0, .int .i64 0]] W fun e w' => ∃ u : VV, e = .returned (.tuple #[.agg (dC V4.zero u), .int .i64 0]) ∧ Rows4 w' u d2 ∧ Below W.heap.size W w') := ⟨fun W h => by rw [← hd2]; exact since_ok V4.zero 0 0 0 0 p2 (L.pre n2) W h (hgd.pre n2) rfl rfl rfl rfl (Nat.zero_le _) (Nat.zero_le _) (Nat.zero_le _) (Nat.zero_le _)⟩
  have HR24 := Bx.mk (fun X Y => reg24 w E p0 p1 p2 X Y L n0 n1 n2 q hn0 hn1 hn2 hq)
  have HVq : Bx (∀ W p, SetAt W p (L.pre q) → Calls Tryd.prog 21 #[.pointer (some ⟨p, 0, none⟩)] W fun e w' => e = .returned (.agg #[.int .i64 (q.a : Int), .int .i64 (q.b : Int), .int .i64 (q.c : Int), .int .i64 (q.d : Int)]) ∧ Below W.heap.size W w') := ⟨fun W p h => by have := versions_any (.pointer (some ⟨p, 0, none⟩)) _ W (.inr ⟨_, rfl, h⟩); rwa [L4.pre_len hqL] at this⟩
  have HV1 : Bx (∀ W, SetAt W p1 (L.pre n1) → Calls Tryd.prog 21 #[.pointer (some ⟨p1, 0, none⟩)] W fun e w' => e = .returned n1.v.v ∧ Below W.heap.size W w') := ⟨fun W h => by have := versions_any (.pointer (some ⟨p1, 0, none⟩)) _ W (.inr ⟨_, rfl, h⟩); rwa [L4.pre_len hn1] at this⟩
  have HCv : Bx (∀ W, Calls Tryd.prog 26 #[.agg #[.int .i64 (q.a : Int), .int .i64 (q.b : Int), .int .i64 (q.c : Int), .int .i64 (q.d : Int)], n1.v.v] W fun e w' => e = .returned (.bool true) ∧ Below W.heap.size W w') := ⟨fun W => by
    have h1 := covers_any8 q.v n1.v W
    have h2 : covV q.v n1.v = true := by
      rw [hq]
      unfold covV N4.v N4.max
      have e : ∀ x y : Nat, Nat.max x y = Max.max x y := fun _ _ => rfl
      simp only [decide_eq_true_iff, e]
      omega
    rw [h2] at h1
    exact h1⟩
  have hvs := vers_self
  obtain ⟨sb2, hsb⟩ : ∃ sb, sha (printB (L.pre q)) = sb := ⟨_, rfl⟩
  have hl32 : sb2.length = 32 := by rw [← hsb]; exact sha_length _
  have heq := eq32 sb2 sb2 hl32 hl32
  have HP : Bx (∀ W p, Below E w W → SetAt W p (L.pre q) → Calls Tryd.prog 25 #[.pointer (some ⟨p, 0, none⟩)] W fun e w' => e = .returned (.agg (u8s sb2)) ∧ Below W.heap.size W w') := ⟨fun W p h hu => by rw [← hsb]; exact print_any8 _ _ W (.inr ⟨p, rfl, hu⟩) HGq.out (HTab.out W h).1 (HTab.out W h).2⟩
  generalize u8s sb2 = sbd at *
  simp only [beq_self_eq_true] at heq
  clear hq hq2 hqL hgd hnd hd1 hd2 hn0 hn1 hn2 hMl hsb hl32 HTab
  go_upto_region 17 with fail
  have R0 := Bx.mk (M5.out.later (Below.refl _ _).drew)
  clear M5
  refine wp_region_noPanic ?_
  refine wp_region_held_drew (S := fun W => W.rangeAt (E + 5) 0 [.pointer (some ⟨p0, 0, none⟩), .pointer (some ⟨p1, 0, none⟩), .pointer (some ⟨p2, 0, none⟩)]) (by kernel_rfl) (R0.out.rng) (fun hHeld => ?_)
  generalize w5.drew = Y0 at *
  refine takeL 0 (v := ?_) rfl (by kernel_rfl) (by kernel_rfl) (by kernel_rfl) (fun _ _ _ h => h) (Or.inl ⟨by rfl, ?_⟩) hHeld ?_
  rotate_left 1
  · (intro w hSw; go_simp; try with_reducible rfl)
  try simp only [Act.put, List.setIfInBounds_toArray, List.set_cons_zero, List.set_cons_succ]
  refine takeL 1 (v := ?_) rfl (by kernel_rfl) (by kernel_rfl) (by kernel_rfl) (fun _ _ _ h => h) (Or.inl ⟨by rfl, ?_⟩) hHeld ?_
  rotate_left 1
  · (intro w hSw; have c1 : w.cell? ⟨E + 5, 0, none⟩ = some _ := hSw 0 _ rfl; go_simp; try with_reducible rfl)
  try simp only [Act.put, List.setIfInBounds_toArray, List.set_cons_zero, List.set_cons_succ]
  refine takeL 3 (v := ?_) rfl (by kernel_rfl) (by kernel_rfl) (by kernel_rfl) (fun _ _ _ h => h) (Or.inl ⟨by rfl, ?_⟩) hHeld ?_
  rotate_left 1
  · (intro w hSw; go_simp; try with_reducible rfl)
  try simp only [Act.put, List.setIfInBounds_toArray, List.set_cons_zero, List.set_cons_succ]
  refine takeL 4 (v := ?_) rfl (by kernel_rfl) (by kernel_rfl) (by kernel_rfl) (fun _ _ _ h => h) (Or.inl ⟨by rfl, ?_⟩) hHeld ?_
  rotate_left 1
  · (intro w hSw; have c1 : w.cell? ⟨E + 5, 0, none⟩ = some _ := hSw 0 _ rfl; go_simp; try with_reducible rfl)
  try simp only [Act.put, List.setIfInBounds_toArray, List.set_cons_zero, List.set_cons_succ]
  refine stepL 2 (by kernel_rfl) rfl (fun K hK => ?_)
  go_simp
  refine (copy_any p0 (L.pre n0) Y0 R0.out.s0 HG0.out).mono ?_
  rintro e Y1 ⟨rfl, hs, hb⟩
  obtain ⟨X, hX⟩ : ∃ X, Y0.heap.size = X := ⟨_, rfl⟩
  rw [hX] at hs ⊢
  show K _ _
  have HX5 : Bx (E + 5 < X ∧ p0 < X ∧ p1 < X ∧ p2 < X) := ⟨by rw [← hX]; exact ⟨R0.out.k.lt (.head _), R0.out.s0.lt, R0.out.s1.lt, R0.out.s2.lt⟩⟩
  have R1 := Bx.mk (And.intro (R0.out.later hb) hs)
  clear hs hb hX R0
  refine hK.out _ _ R1.out.1.rng (fun hHeld => ?_)
  clear hK K
  try simp only [Act.put, List.setIfInBounds_toArray, List.set_cons_zero, List.set_cons_succ]
  refine stepL 5 (by kernel_rfl) rfl (fun K hK => ?_)
  go_simp
  refine (copy_any p0 (L.pre n0) Y1 R1.out.1.s0 HG0.out).mono ?_
  rintro e Y2 ⟨rfl, hs, hb⟩
  obtain ⟨Y, hY⟩ : ∃ Y, Y1.heap.size = Y := ⟨_, rfl⟩
  rw [hY] at hs ⊢
  show K _ _
  have HXY : Bx (X < Y) := ⟨by rw [← hY]; exact R1.out.2.lt⟩
  have R2 := Bx.mk (And.intro (R1.out.1.later hb) (And.intro (R1.out.2.later hb) hs))
  clear hs hb hY R1
  refine hK.out _ _ R2.out.1.rng (fun hHeld => ?_)
  clear hK K
  try simp only [Act.put, List.setIfInBounds_toArray, List.set_cons_zero, List.set_cons_succ]
  refine takeL 6 (v := ?_) rfl (by kernel_rfl) (by kernel_rfl) (by kernel_rfl) (fun _ _ _ h => h) (Or.inl ⟨by rfl, ?_⟩) hHeld ?_
  rotate_left 1
  · (intro w hSw; go_simp; try with_reducible rfl)
  try simp only [Act.put, List.setIfInBounds_toArray, List.set_cons_zero, List.set_cons_succ]
  refine takeL 7 (v := ?_) rfl (by kernel_rfl) (by kernel_rfl) (by kernel_rfl) (fun _ _ _ h => h) (Or.inl ⟨by rfl, ?_⟩) hHeld ?_
  rotate_left 1
  · (intro w hSw; go_simp; try with_reducible rfl)
  try simp only [Act.put, List.setIfInBounds_toArray, List.set_cons_zero, List.set_cons_succ]
  refine wpAnyH_done (by kernel_rfl) ?_ _
  refine NoPanic.normal ?_
  clear hHeld
  have c1 : Y2.cell? ⟨E + 5, 1, none⟩ = some (.pointer (some ⟨p1, 0, none⟩)) := by have := R2.out.1.rng 1 _ rfl; simpa using this
  go_wp2_with fail
  refine (HSi1.out Y2 R2.out.1.s1).mono ?_
  rintro e Y3 ⟨u, rfl, hu, hb⟩
  obtain ⟨xp1, xq1, xt1, xs1, ca1, cb1, cc1, cd1, rfl⟩ := hu.forms
  clear c1
  unfold dC V4.zero
  simp only
  obtain ⟨D1, hD1⟩ : ∃ D, Y3.heap.size = D := ⟨_, rfl⟩
  have R3 : Bx (ME w E p0 p1 p2 (L.pre n0) (L.pre n1) (L.pre n2) (Y3.alloc (.cells #[.int .i64 0, .int .i64 0, .int .i64 0, .int .i64 0, .slice xp1 d1.a.length ca1, .slice xq1 d1.b.length cb1, .slice xt1 d1.c.length cc1, .slice xs1 d1.d.length cd1] 41)) ∧ SetAt (Y3.alloc (.cells #[.int .i64 0, .int .i64 0, .int .i64 0, .int .i64 0, .slice xp1 d1.a.length ca1, .slice xq1 d1.b.length cb1, .slice xt1 d1.c.length cc1, .slice xs1 d1.d.length cd1] 41)) X (L.pre n0) ∧ SetAt (Y3.alloc (.cells #[.int .i64 0, .int .i64 0, .int .i64 0, .int .i64 0, .slice xp1 d1.a.length ca1, .slice xq1 d1.b.length cb1, .slice xt1 d1.c.length cc1, .slice xs1 d1.d.length cd1] 41)) Y (L.pre n0) ∧ Rows4 (Y3.alloc (.cells #[.int .i64 0, .int .i64 0, .int .i64 0, .int .i64 0, .slice xp1 d1.a.length ca1, .slice xq1 d1.b.length cb1, .slice xt1 d1.c.length cc1, .slice xs1 d1.d.length cd1] 41)) (VV.mk (.slice xp1 d1.a.length ca1) (.slice xq1 d1.b.length cb1) (.slice xt1 d1.c.length cc1) (.slice xs1 d1.d.length cd1)) d1 ∧ KR w E [(D1, .cells #[.int .i64 0, .int .i64 0, .int .i64 0, .int .i64 0, .slice xp1 d1.a.length ca1, .slice xq1 d1.b.length cb1, .slice xt1 d1.c.length cc1, .slice xs1 d1.d.length cd1] 41)] (Y3.alloc (.cells #[.int .i64 0, .int .i64 0, .int .i64 0, .int .i64 0, .slice xp1 d1.a.length ca1, .slice xq1 d1.b.length cb1, .slice xt1 d1.c.length cc1, .slice xs1 d1.d.length cd1] 41)) ∧ Y < D1) := ⟨by
    have h0 := R2.out.1.later hb
    refine ⟨h0.later (below_a _), (R2.out.2.1.later hb).later (below_a _), (R2.out.2.2.later hb).later (below_a _), hu.later (below_a _), ?_, ?_⟩
    · rw [← hD1]
      exact (h0.k.sub (rs' := []) (fun z hz => by cases hz)).new _
    · rw [← hD1]
      exact (R2.out.2.2.later hb).lt⟩
  clear hb hu R2
  have c1 : (Y3.alloc (.cells #[.int .i64 0, .int .i64 0, .int .i64 0, .int .i64 0, .slice xp1 d1.a.length ca1, .slice xq1 d1.b.length cb1, .slice xt1 d1.c.length cc1, .slice xs1 d1.d.length cd1] 41)).cell? ⟨E + 5, 2, none⟩ = some (.pointer (some ⟨p2, 0, none⟩)) := by have := R3.out.1.rng 2 _ rfl; simpa using this
  go_wp2_with fail
  clear hD1
  generalize Y3.alloc _ = Y3a at *
  refine (HSi2.out Y3a R3.out.1.s2).mono ?_
  rintro e Y4 ⟨u, rfl, hu, hb⟩
  obtain ⟨xp2, xq2, xt2, xs2, ca2, cb2, cc2, cd2, rfl⟩ := hu.forms
  clear c1
  unfold dC V4.zero
  simp only
  obtain ⟨D2, hD2⟩ : ∃ D, Y4.heap.size = D := ⟨_, rfl⟩
  have R4 : Bx (MX w E p0 p1 p2 X Y [(D2, .cells #[.int .i64 0, .int .i64 0, .int .i64 0, .int .i64 0, .slice xp2 d2.a.length ca2, .slice xq2 d2.b.length cb2, .slice xt2 d2.c.length cc2, .slice xs2 d2.d.length cd2] 41), (D1, .cells #[.int .i64 0, .int .i64 0, .int .i64 0, .int .i64 0, .slice xp1 d1.a.length ca1, .slice xq1 d1.b.length cb1, .slice xt1 d1.c.length cc1, .slice xs1 d1.d.length cd1] 41)] (VV.mk (.slice xp1 d1.a.length ca1) (.slice xq1 d1.b.length cb1) (.slice xt1 d1.c.length cc1) (.slice xs1 d1.d.length cd1)) (VV.mk (.slice xp2 d2.a.length ca2) (.slice xq2 d2.b.length cb2) (.slice xt2 d2.c.length cc2) (.slice xs2 d2.d.length cd2)) d1 d2 (L.pre n0) (L.pre n1) (L.pre n2) (L.pre n0) (L.pre n0) (Y4.alloc (.cells #[.int .i64 0, .int .i64 0, .int .i64 0, .int .i64 0, .slice xp2 d2.a.length ca2, .slice xq2 d2.b.length cb2, .slice xt2 d2.c.length cc2, .slice xs2 d2.d.length cd2] 41)) ∧ Apart E p0 p1 p2 X Y [(D2, .cells #[.int .i64 0, .int .i64 0, .int .i64 0, .int .i64 0, .slice xp2 d2.a.length ca2, .slice xq2 d2.b.length cb2, .slice xt2 d2.c.length cc2, .slice xs2 d2.d.length cd2] 41), (D1, .cells #[.int .i64 0, .int .i64 0, .int .i64 0, .int .i64 0, .slice xp1 d1.a.length ca1, .slice xq1 d1.b.length cb1, .slice xt1 d1.c.length cc1, .slice xs1 d1.d.length cd1] 41)]) := ⟨by
    have h0 := R3.out.1.later hb
    refine ⟨⟨?_, h0.later (below_a _), (R3.out.2.1.later hb).later (below_a _), (R3.out.2.2.1.later hb).later (below_a _), (R3.out.2.2.2.1.later hb).later (below_a _), hu.later (below_a _)⟩, ?_⟩
    · rw [← hD2]
      exact (R3.out.2.2.2.2.1.later hb).new _
    · have hy1 := R3.out.2.2.2.2.2
      have hy2 := (R3.out.2.2.1.later hb).lt
      have hxy := HXY.out
      refine ⟨HX5.out.1, HX5.out.2.1, HX5.out.2.2.1, HX5.out.2.2.2, HXY.out, fun z hz => ?_⟩
      simp only [List.mem_cons, List.not_mem_nil, or_false] at hz
      rcases hz with rfl | rfl
      · simp only
        omega
      · simp only
        omega⟩
  clear hb hu R3
  go_wp2_with (refine wpList_load_row rfl 41 _ rfl D1 (by rfl) _ #[.int .i64 0, .int .i64 0, .int .i64 0, .int .i64 0, .slice xp1 d1.a.length ca1, .slice xq1 d1.b.length cb1, .slice xt1 d1.c.length cc1, .slice xs1 d1.d.length cd1] (0, 0) _ (R4.out.1.k.rows _ (.tail _ (.head _))) Tryd.underlying41 rfl (by kernel_rfl) ?_)
  clear hD2
  generalize Y4.alloc _ = Y5 at *
  obtain ⟨k1, hk1⟩ := HA1.out
  refine (apply_any V4.zero (VV.mk (.slice xp1 d1.a.length ca1) (.slice xq1 d1.b.length cb1) (.slice xt1 d1.c.length cc1) (.slice xs1 d1.d.length cd1)) d1 (L.pre n0) X Y5 R4.out.1.r1 HD1.out R4.out.1.x (HFu.out _ R4.out.1.k.below).1 (HFu.out _ R4.out.1.k.below).2 HG0.out).mono ?_
  rw [hk1]
  rintro e Y6 ⟨rfl, hs2, hg2⟩
  have R5 := Bx.mk (And.intro (R4.out.1.onX R4.out.2 hg2 hs2) R4.out.2)
  clear hs2 hg2 R4 hk1
  go_wp2_with (refine wpList_load_row rfl 41 _ rfl D2 (by rfl) _ #[.int .i64 0, .int .i64 0, .int .i64 0, .int .i64 0, .slice xp2 d2.a.length ca2, .slice xq2 d2.b.length cb2, .slice xt2 d2.c.length cc2, .slice xs2 d2.d.length cd2] (0, 0) _ (R5.out.1.k.rows _ (.head _)) Tryd.underlying41 rfl (by kernel_rfl) ?_)
  obtain ⟨k2, hk2⟩ := HA2.out
  refine (apply_any V4.zero (VV.mk (.slice xp2 d2.a.length ca2) (.slice xq2 d2.b.length cb2) (.slice xt2 d2.c.length cc2) (.slice xs2 d2.d.length cd2)) d2 (L.pre (n0.max n1)) X Y6 R5.out.1.r2 HD2.out R5.out.1.x (HFu.out _ R5.out.1.k.below).1 (HFu.out _ R5.out.1.k.below).2 HG01.out).mono ?_
  rw [hk2]
  rintro e Y7 ⟨rfl, hs2, hg2⟩
  have R6 := Bx.mk (And.intro (R5.out.1.onX R5.out.2 hg2 hs2) R5.out.2)
  clear hs2 hg2 R5 hk2
  go_wp2_with (refine wpList_load_row rfl 41 _ rfl D2 (by rfl) _ #[.int .i64 0, .int .i64 0, .int .i64 0, .int .i64 0, .slice xp2 d2.a.length ca2, .slice xq2 d2.b.length cb2, .slice xt2 d2.c.length cc2, .slice xs2 d2.d.length cd2] (0, 0) _ (R6.out.1.k.rows _ (.head _)) Tryd.underlying41 rfl (by kernel_rfl) ?_)
  obtain ⟨k3, hk3⟩ := HA3.out
  refine (apply_any V4.zero (VV.mk (.slice xp2 d2.a.length ca2) (.slice xq2 d2.b.length cb2) (.slice xt2 d2.c.length cc2) (.slice xs2 d2.d.length cd2)) d2 (L.pre n0) Y Y7 R6.out.1.r2 HD2.out R6.out.1.y (HFu.out _ R6.out.1.k.below).1 (HFu.out _ R6.out.1.k.below).2 HG0.out).mono ?_
  rw [hk3]
  rintro e Y8 ⟨rfl, hs2, hg2⟩
  have R7 := Bx.mk (And.intro (R6.out.1.onY R6.out.2 hg2 hs2) R6.out.2)
  clear hs2 hg2 R6 hk3
  go_wp2_with (refine wpList_load_row rfl 41 _ rfl D1 (by rfl) _ #[.int .i64 0, .int .i64 0, .int .i64 0, .int .i64 0, .slice xp1 d1.a.length ca1, .slice xq1 d1.b.length cb1, .slice xt1 d1.c.length cc1, .slice xs1 d1.d.length cd1] (0, 0) _ (R7.out.1.k.rows _ (.tail _ (.head _))) Tryd.underlying41 rfl (by kernel_rfl) ?_)
  obtain ⟨k4, hk4⟩ := HA4.out
  refine (apply_any V4.zero (VV.mk (.slice xp1 d1.a.length ca1) (.slice xq1 d1.b.length cb1) (.slice xt1 d1.c.length cc1) (.slice xs1 d1.d.length cd1)) d1 (L.pre (n0.max n2)) Y Y8 R7.out.1.r1 HD1.out R7.out.1.y (HFu.out _ R7.out.1.k.below).1 (HFu.out _ R7.out.1.k.below).2 HG02.out).mono ?_
  rw [hk4]
  rintro e Y9 ⟨rfl, hs2, hg2⟩
  have R8 := Bx.mk (And.intro (R7.out.1.onY R7.out.2 hg2 hs2) R7.out.2)
  clear hs2 hg2 R7 hk4
  go_upto_region 24 with fail
  refine HR24.out X Y _ _ Y9 ⟨⟨rfl, rfl⟩, rfl, rfl, rfl, rfl, rfl, rfl, rfl, rfl, rfl⟩ R8.out.1.e ?_
  intro a6 y1 D h6 h28 hb6 hD hrow
  have R9 : Bx (KR w E [(D, .cells #[.int .i64 (q.a : Int), .int .i64 (q.b : Int), .int .i64 (q.c : Int), .int .i64 (q.d : Int)] 39), (E + 5, .cells #[.pointer (some ⟨p0, 0, none⟩), .pointer (some ⟨p1, 0, none⟩), .pointer (some ⟨p2, 0, none⟩)] 63)] y1 ∧ SetAt y1 X (L.pre q) ∧ SetAt y1 Y (L.pre q) ∧ SetAt y1 p1 (L.pre n1)) := ⟨by
    have hk := R8.out.1.e.k.later hb6
    exact ⟨⟨(fun z hz => by
      rcases List.mem_cons.1 hz with rfl | hz
      · exact hrow
      · exact hk.rows z hz), hk.below, hk.le⟩, R8.out.1.x.later hb6, R8.out.1.y.later hb6, R8.out.1.e.s1.later hb6⟩⟩
  obtain ⟨g, rfl, hg⟩ := open194 h6.fr
  have j10 := (hg 10).symm.trans h6.s10
  have j14 := (hg 14).symm.trans h6.s14
  have j15 := (hg 15).symm.trans h6.s15
  have j17 := (hg 17).symm.trans h6.s17
  have j19 := (hg 19).symm.trans h6.s19
  have j21 := (hg 21).symm.trans h6.s21
  have j23 := (hg 23).symm.trans h6.s23
  have j25 := (hg 25).symm.trans h6.s25
  have j27 := (hg 27).symm.trans h6.s27
  have j28 := (hg 28).symm.trans h28
  clear h6 hg h28 hb6 hD hrow R8 HR24
  rw [j10, j14, j15, j17, j19, j21, j23, j25, j27, j28]
  clear j10 j14 j15 j17 j19 j21 j23 j25 j27 j28
  go_upto_region 25 with fail
  have T0 := Bx.mk (And.intro R9.out.1.drew (And.intro (R9.out.2.1.later (Below.refl _ _).drew) (And.intro (R9.out.2.2.1.later (Below.refl _ _).drew) (R9.out.2.2.2.later (Below.refl _ _).drew))))
  clear R9
  refine wp_region_noPanic ?_
  refine wp_region_held_drew (S := fun W => W.rangeAt (E + 5) 0 [.pointer (some ⟨p0, 0, none⟩), .pointer (some ⟨p1, 0, none⟩), .pointer (some ⟨p2, 0, none⟩)] ∧ W.rangeAt D 0 [.int .i64 (q.a : Int), .int .i64 (q.b : Int), .int .i64 (q.c : Int), .int .i64 (q.d : Int)]) (by kernel_rfl) (⟨fun j v hv => by rw [cell_of_row _ _ _ _ _ _ (T0.out.1.rows _ (.tail _ (.head _))), Nat.zero_add]; simpa using hv, row_rng8 (l := [.int .i64 (q.a : Int), .int .i64 (q.b : Int), .int .i64 (q.c : Int), .int .i64 (q.d : Int)]) (T0.out.1.rows _ (.head _))⟩) (fun hHeld => ?_)
  generalize y1.drew = X0 at *
  refine stepL 0 (by kernel_rfl) rfl (fun K hK => ?_)
  go_simp
  refine (known8_any X0).mono ?_
  rintro e X1 ⟨rfl, hb⟩
  show K _ _
  have T1 := Bx.mk (And.intro (T0.out.1.later hb) (And.intro (T0.out.2.1.later hb) (And.intro (T0.out.2.2.1.later hb) (T0.out.2.2.2.later hb))))
  clear hb T0
  refine hK.out _ _ (⟨fun j v hv => by rw [cell_of_row _ _ _ _ _ _ (T1.out.1.rows _ (.tail _ (.head _))), Nat.zero_add]; simpa using hv, row_rng8 (l := [.int .i64 (q.a : Int), .int .i64 (q.b : Int), .int .i64 (q.c : Int), .int .i64 (q.d : Int)]) (T1.out.1.rows _ (.head _))⟩) (fun hHeld => ?_)
  clear hK K
  try simp only [Act.put, List.setIfInBounds_toArray, List.set_cons_zero, List.set_cons_succ]
  refine takeL 1 (v := ?_) rfl (by kernel_rfl) (by kernel_rfl) (by kernel_rfl) (fun _ _ _ h => h) (Or.inl ⟨by rfl, ?_⟩) hHeld ?_
  rotate_left 1
  · (intro w hSw; go_simp; try with_reducible rfl)
  try simp only [Act.put, List.setIfInBounds_toArray, List.set_cons_zero, List.set_cons_succ]
  refine takeL 2 (v := ?_) rfl (by kernel_rfl) (by kernel_rfl) (by kernel_rfl) (fun _ _ _ h => h) (Or.inl ⟨by rfl, ?_⟩) hHeld ?_
  rotate_left 1
  · (intro w hSw; go_simp; try with_reducible rfl)
  try simp only [Act.put, List.setIfInBounds_toArray, List.set_cons_zero, List.set_cons_succ]
  refine takeL 3 (v := ?_) rfl (by kernel_rfl) (by kernel_rfl) (by kernel_rfl) (fun _ _ _ h => h) (Or.inl ⟨by rfl, ?_⟩) hHeld ?_
  rotate_left 1
  · (intro w hSw; go_simp; try with_reducible rfl)
  try simp only [Act.put, List.setIfInBounds_toArray, List.set_cons_zero, List.set_cons_succ]
  refine takeL 4 (v := ?_) rfl (by kernel_rfl) (by kernel_rfl) (by kernel_rfl) (fun _ _ _ h => h) (Or.inl ⟨by rfl, ?_⟩) hHeld ?_
  rotate_left 1
  · (intro w hSw; go_simp; try with_reducible rfl)
  try simp only [Act.put, List.setIfInBounds_toArray, List.set_cons_zero, List.set_cons_succ]
  refine takeL 5 (v := ?_) rfl (by kernel_rfl) (by kernel_rfl) (by kernel_rfl) (fun _ _ _ h => h) (Or.inl ⟨by rfl, ?_⟩) hHeld ?_
  rotate_left 1
  · (intro w hSw; go_simp; try with_reducible rfl)
  try simp only [Act.put, List.setIfInBounds_toArray, List.set_cons_zero, List.set_cons_succ]
  refine takeL 6 (v := ?_) rfl (by kernel_rfl) (by kernel_rfl) (by kernel_rfl) (fun _ _ _ h => h) (Or.inl ⟨by rfl, ?_⟩) hHeld ?_
  rotate_left 1
  · (intro w hSw; go_simp; try with_reducible rfl)
  try simp only [Act.put, List.setIfInBounds_toArray, List.set_cons_zero, List.set_cons_succ]
  refine takeL 7 (v := ?_) rfl (by kernel_rfl) (by kernel_rfl) (by kernel_rfl) (fun _ _ _ h => h) (Or.inl ⟨by rfl, ?_⟩) hHeld ?_
  rotate_left 1
  · (intro w hSw; go_simp; try with_reducible rfl)
  try simp only [Act.put, List.setIfInBounds_toArray, List.set_cons_zero, List.set_cons_succ]
  refine takeL 8 (v := ?_) rfl (by kernel_rfl) (by kernel_rfl) (by kernel_rfl) (fun _ _ _ h => h) (Or.inl ⟨by rfl, ?_⟩) hHeld ?_
  rotate_left 1
  · (intro w hSw; go_simp; try with_reducible rfl)
  try simp only [Act.put, List.setIfInBounds_toArray, List.set_cons_zero, List.set_cons_succ]
  refine takeL 9 (v := ?_) rfl (by kernel_rfl) (by kernel_rfl) (by kernel_rfl) (fun _ _ _ h => h) (Or.inl ⟨by rfl, ?_⟩) hHeld ?_
  rotate_left 1
  · (intro w hSw; go_simp; try with_reducible rfl)
  try simp only [Act.put, List.setIfInBounds_toArray, List.set_cons_zero, List.set_cons_succ]
  refine takeL 10 (v := ?_) rfl (by kernel_rfl) (by kernel_rfl) (by kernel_rfl) (fun _ _ _ h => h) (Or.inl ⟨by rfl, ?_⟩) hHeld ?_
  rotate_left 1
  · (intro w hSw; go_simp; try with_reducible rfl)
  try simp only [Act.put, List.setIfInBounds_toArray, List.set_cons_zero, List.set_cons_succ]
  refine takeL 11 (v := ?_) rfl (by kernel_rfl) (by kernel_rfl) (by kernel_rfl) (fun _ _ _ h => h) (Or.inl ⟨by rfl, ?_⟩) hHeld ?_
  rotate_left 1
  · (intro w hSw; go_simp; try with_reducible rfl)
  try simp only [Act.put, List.setIfInBounds_toArray, List.set_cons_zero, List.set_cons_succ]
  refine takeL 12 (v := ?_) rfl (by kernel_rfl) (by kernel_rfl) (by kernel_rfl) (fun _ _ _ h => h) (Or.inl ⟨by rfl, ?_⟩) hHeld ?_
  rotate_left 1
  · (intro w hSw; go_simp; try with_reducible rfl)
  try simp only [Act.put, List.setIfInBounds_toArray, List.set_cons_zero, List.set_cons_succ]
  refine takeL 13 (v := ?_) rfl (by kernel_rfl) (by kernel_rfl) (by kernel_rfl) (fun _ _ _ h => h) (Or.inl ⟨by rfl, ?_⟩) hHeld ?_
  rotate_left 1
  · (intro w hSw; go_simp; try with_reducible rfl)
  try simp only [Act.put, List.setIfInBounds_toArray, List.set_cons_zero, List.set_cons_succ]
  refine takeL 14 (v := ?_) rfl (by kernel_rfl) (by kernel_rfl) (by kernel_rfl) (fun _ _ _ h => h) (Or.inl ⟨by rfl, ?_⟩) hHeld ?_
  rotate_left 1
  · (intro w hSw; go_simp; try with_reducible rfl)
  try simp only [Act.put, List.setIfInBounds_toArray, List.set_cons_zero, List.set_cons_succ]
  refine takeL 15 (v := ?_) rfl (by kernel_rfl) (by kernel_rfl) (by kernel_rfl) (fun _ _ _ h => h) (Or.inl ⟨by rfl, ?_⟩) hHeld ?_
  rotate_left 1
  · (intro w hSw; go_simp; try with_reducible rfl)
  try simp only [Act.put, List.setIfInBounds_toArray, List.set_cons_zero, List.set_cons_succ]
  refine takeL 16 (v := ?_) rfl (by kernel_rfl) (by kernel_rfl) (by kernel_rfl) (fun _ _ _ h => h) (Or.inl ⟨by rfl, ?_⟩) hHeld ?_
  rotate_left 1
  · (intro w hSw; go_simp; try with_reducible rfl)
  try simp only [Act.put, List.setIfInBounds_toArray, List.set_cons_zero, List.set_cons_succ]
  refine takeL 17 (v := ?_) rfl (by kernel_rfl) (by kernel_rfl) (by kernel_rfl) (fun _ _ _ h => h) (Or.inl ⟨by rfl, ?_⟩) hHeld ?_
  rotate_left 1
  · (intro w hSw; go_simp; try with_reducible rfl)
  try simp only [Act.put, List.setIfInBounds_toArray, List.set_cons_zero, List.set_cons_succ]
  refine takeL 18 (v := ?_) rfl (by kernel_rfl) (by kernel_rfl) (by kernel_rfl) (fun _ _ _ h => h) (Or.inl ⟨by rfl, ?_⟩) hHeld ?_
  rotate_left 1
  · (intro w hSw; go_simp; try with_reducible rfl)
  try simp only [Act.put, List.setIfInBounds_toArray, List.set_cons_zero, List.set_cons_succ]
  refine takeL 19 (v := ?_) rfl (by kernel_rfl) (by kernel_rfl) (by kernel_rfl) (fun _ _ _ h => h) (Or.inl ⟨by rfl, ?_⟩) hHeld ?_
  rotate_left 1
  · (intro w hSw; go_simp; try with_reducible rfl)
  try simp only [Act.put, List.setIfInBounds_toArray, List.set_cons_zero, List.set_cons_succ]
  refine takeL 20 (v := ?_) rfl (by kernel_rfl) (by kernel_rfl) (by kernel_rfl) (fun _ _ _ h => h) (Or.inl ⟨by rfl, ?_⟩) hHeld ?_
  rotate_left 1
  · (intro w hSw; go_simp; try with_reducible rfl)
  try simp only [Act.put, List.setIfInBounds_toArray, List.set_cons_zero, List.set_cons_succ]
  refine takeL 21 (v := ?_) rfl (by kernel_rfl) (by kernel_rfl) (by kernel_rfl) (fun _ _ _ h => h) (Or.inl ⟨by rfl, ?_⟩) hHeld ?_
  rotate_left 1
  · (intro w hSw; go_simp; try with_reducible rfl)
  try simp only [Act.put, List.setIfInBounds_toArray, List.set_cons_zero, List.set_cons_succ]
  refine takeL 22 (v := ?_) rfl (by kernel_rfl) (by kernel_rfl) (by kernel_rfl) (fun _ _ _ h => h) (Or.inl ⟨by rfl, ?_⟩) hHeld ?_
  rotate_left 1
  · (intro w hSw; go_simp; try with_reducible rfl)
  try simp only [Act.put, List.setIfInBounds_toArray, List.set_cons_zero, List.set_cons_succ]
  refine takeL 23 (v := ?_) rfl (by kernel_rfl) (by kernel_rfl) (by kernel_rfl) (fun _ _ _ h => h) (Or.inl ⟨by rfl, ?_⟩) hHeld ?_
  rotate_left 1
  · (intro w hSw; go_simp; try with_reducible rfl)
  try simp only [Act.put, List.setIfInBounds_toArray, List.set_cons_zero, List.set_cons_succ]
  refine takeL 24 (v := ?_) rfl (by kernel_rfl) (by kernel_rfl) (by kernel_rfl) (fun _ _ _ h => h) (Or.inl ⟨by rfl, ?_⟩) hHeld ?_
  rotate_left 1
  · (intro w hSw; go_simp; try with_reducible rfl)
  try simp only [Act.put, List.setIfInBounds_toArray, List.set_cons_zero, List.set_cons_succ]
  refine takeL 25 (v := ?_) rfl (by kernel_rfl) (by kernel_rfl) (by kernel_rfl) (fun _ _ _ h => h) (Or.inl ⟨by rfl, ?_⟩) hHeld ?_
  rotate_left 1
  · (intro w hSw; go_simp; try with_reducible rfl)
  try simp only [Act.put, List.setIfInBounds_toArray, List.set_cons_zero, List.set_cons_succ]
  refine takeL 26 (v := ?_) rfl (by kernel_rfl) (by kernel_rfl) (by kernel_rfl) (fun _ _ _ h => h) (Or.inl ⟨by rfl, ?_⟩) hHeld ?_
  rotate_left 1
  · (intro w hSw; go_simp; try with_reducible rfl)
  try simp only [Act.put, List.setIfInBounds_toArray, List.set_cons_zero, List.set_cons_succ]
  refine takeL 28 (v := ?_) rfl (by kernel_rfl) (by kernel_rfl) (by kernel_rfl) (fun _ _ _ h => h) (Or.inl ⟨by rfl, ?_⟩) hHeld ?_
  rotate_left 1
  · (intro w hSw; go_simp; try with_reducible rfl)
  try simp only [Act.put, List.setIfInBounds_toArray, List.set_cons_zero, List.set_cons_succ]
  refine stepL 27 (by kernel_rfl) rfl (fun K hK => ?_)
  go_simp
  refine (HP.out X1 _ T1.out.1.below T1.out.2.1).mono ?_
  rintro e X2 ⟨rfl, hb⟩
  show K _ _
  have T2 := Bx.mk (And.intro (T1.out.1.later hb) (And.intro (T1.out.2.1.later hb) (And.intro (T1.out.2.2.1.later hb) (T1.out.2.2.2.later hb))))
  clear hb T1
  refine hK.out _ _ (⟨fun j v hv => by rw [cell_of_row _ _ _ _ _ _ (T2.out.1.rows _ (.tail _ (.head _))), Nat.zero_add]; simpa using hv, row_rng8 (l := [.int .i64 (q.a : Int), .int .i64 (q.b : Int), .int .i64 (q.c : Int), .int .i64 (q.d : Int)]) (T2.out.1.rows _ (.head _))⟩) (fun hHeld => ?_)
  clear hK K
  try simp only [Act.put, List.setIfInBounds_toArray, List.set_cons_zero, List.set_cons_succ]
  refine stepL 29 (by kernel_rfl) rfl (fun K hK => ?_)
  go_simp
  refine (HP.out X2 _ T2.out.1.below T2.out.2.2.1).mono ?_
  rintro e X3 ⟨rfl, hb⟩
  show K _ _
  have T3 := Bx.mk (And.intro (T2.out.1.later hb) (And.intro (T2.out.2.1.later hb) (And.intro (T2.out.2.2.1.later hb) (T2.out.2.2.2.later hb))))
  clear hb T2
  refine hK.out _ _ (⟨fun j v hv => by rw [cell_of_row _ _ _ _ _ _ (T3.out.1.rows _ (.tail _ (.head _))), Nat.zero_add]; simpa using hv, row_rng8 (l := [.int .i64 (q.a : Int), .int .i64 (q.b : Int), .int .i64 (q.c : Int), .int .i64 (q.d : Int)]) (T3.out.1.rows _ (.head _))⟩) (fun hHeld => ?_)
  clear hK K
  try simp only [Act.put, List.setIfInBounds_toArray, List.set_cons_zero, List.set_cons_succ]
  refine takeL 30 (v := ?_) rfl (by kernel_rfl) (by kernel_rfl) (by kernel_rfl) (fun _ _ _ h => h) (Or.inl ⟨by rfl, ?_⟩) hHeld ?_
  rotate_left 1
  · (intro w hSw; have h3 := heq w; go_simp; try with_reducible rfl)
  try simp only [Act.put, List.setIfInBounds_toArray, List.set_cons_zero, List.set_cons_succ]
  refine takeL 31 (v := ?_) rfl (by kernel_rfl) (by kernel_rfl) (by kernel_rfl) (fun _ _ _ h => h) (Or.inl ⟨by rfl, ?_⟩) hHeld ?_
  rotate_left 1
  · (intro w hSw; go_simp; try with_reducible rfl)
  try simp only [Act.put, List.setIfInBounds_toArray, List.set_cons_zero, List.set_cons_succ]
  refine takeL 32 (v := ?_) rfl (by kernel_rfl) (by kernel_rfl) (by kernel_rfl) (fun _ _ _ h => h) (Or.inl ⟨by rfl, ?_⟩) hHeld ?_
  rotate_left 1
  · (intro w hSw; go_simp; try with_reducible rfl)
  try simp only [Act.put, List.setIfInBounds_toArray, List.set_cons_zero, List.set_cons_succ]
  refine takeL 33 (v := ?_) rfl (by kernel_rfl) (by kernel_rfl) (by kernel_rfl) (fun _ _ _ h => h) (Or.inl ⟨by rfl, ?_⟩) hHeld ?_
  rotate_left 1
  · (intro w hSw; go_simp; try with_reducible rfl)
  try simp only [Act.put, List.setIfInBounds_toArray, List.set_cons_zero, List.set_cons_succ]
  refine takeL 35 rfl (by kernel_rfl) (by kernel_rfl) (by kernel_rfl) (fun _ _ _ h => h) (yieldsIf_load_mid (by rfl) _ _ rfl _ _ rfl _ _ (fun w hSw => hSw.2) Tryd.underlying39 rfl (by kernel_rfl)) hHeld ?_
  try simp only [Act.put, List.setIfInBounds_toArray, List.set_cons_zero, List.set_cons_succ]
  refine stepL 34 (by kernel_rfl) rfl (fun K hK => ?_)
  go_simp
  refine (HVq.out X3 _ T3.out.2.1).mono ?_
  rintro e X4 ⟨rfl, hb⟩
  show K _ _
  have T4 := Bx.mk (And.intro (T3.out.1.later hb) (And.intro (T3.out.2.1.later hb) (And.intro (T3.out.2.2.1.later hb) (T3.out.2.2.2.later hb))))
  clear hb T3
  refine hK.out _ _ (⟨fun j v hv => by rw [cell_of_row _ _ _ _ _ _ (T4.out.1.rows _ (.tail _ (.head _))), Nat.zero_add]; simpa using hv, row_rng8 (l := [.int .i64 (q.a : Int), .int .i64 (q.b : Int), .int .i64 (q.c : Int), .int .i64 (q.d : Int)]) (T4.out.1.rows _ (.head _))⟩) (fun hHeld => ?_)
  clear hK K
  try simp only [Act.put, List.setIfInBounds_toArray, List.set_cons_zero, List.set_cons_succ]
  refine takeL 36 (v := ?_) rfl (by kernel_rfl) (by kernel_rfl) (by kernel_rfl) (fun _ _ _ h => h) (Or.inl ⟨by rfl, ?_⟩) hHeld ?_
  rotate_left 1
  · (intro w hSw; have h3 := hvs (q.a : Int) (q.b : Int) (q.c : Int) (q.d : Int) w; go_simp; try with_reducible rfl)
  try simp only [Act.put, List.setIfInBounds_toArray, List.set_cons_zero, List.set_cons_succ]
  refine takeL 37 (v := ?_) rfl (by kernel_rfl) (by kernel_rfl) (by kernel_rfl) (fun _ _ _ h => h) (Or.inl ⟨by rfl, ?_⟩) hHeld ?_
  rotate_left 1
  · (intro w hSw; go_simp; try with_reducible rfl)
  try simp only [Act.put, List.setIfInBounds_toArray, List.set_cons_zero, List.set_cons_succ]
  refine takeL 38 (v := ?_) rfl (by kernel_rfl) (by kernel_rfl) (by kernel_rfl) (fun _ _ _ h => h) (Or.inl ⟨by rfl, ?_⟩) hHeld ?_
  rotate_left 1
  · (intro w hSw; go_simp; try with_reducible rfl)
  try simp only [Act.put, List.setIfInBounds_toArray, List.set_cons_zero, List.set_cons_succ]
  refine takeL 39 (v := ?_) rfl (by kernel_rfl) (by kernel_rfl) (by kernel_rfl) (fun _ _ _ h => h) (Or.inl ⟨by rfl, ?_⟩) hHeld ?_
  rotate_left 1
  · (intro w hSw; go_simp; try with_reducible rfl)
  try simp only [Act.put, List.setIfInBounds_toArray, List.set_cons_zero, List.set_cons_succ]
  refine takeL 41 rfl (by kernel_rfl) (by kernel_rfl) (by kernel_rfl) (fun _ _ _ h => h) (yieldsIf_load_mid (by rfl) _ _ rfl _ _ rfl _ _ (fun w hSw => hSw.2) Tryd.underlying39 rfl (by kernel_rfl)) hHeld ?_
  try simp only [Act.put, List.setIfInBounds_toArray, List.set_cons_zero, List.set_cons_succ]
  refine stepL 40 (by kernel_rfl) rfl (fun K hK => ?_)
  go_simp
  refine (HVq.out X4 _ T4.out.2.2.1).mono ?_
  rintro e X5 ⟨rfl, hb⟩
  show K _ _
  have T5 := Bx.mk (And.intro (T4.out.1.later hb) (And.intro (T4.out.2.1.later hb) (And.intro (T4.out.2.2.1.later hb) (T4.out.2.2.2.later hb))))
  clear hb T4
  refine hK.out _ _ (⟨fun j v hv => by rw [cell_of_row _ _ _ _ _ _ (T5.out.1.rows _ (.tail _ (.head _))), Nat.zero_add]; simpa using hv, row_rng8 (l := [.int .i64 (q.a : Int), .int .i64 (q.b : Int), .int .i64 (q.c : Int), .int .i64 (q.d : Int)]) (T5.out.1.rows _ (.head _))⟩) (fun hHeld => ?_)
  clear hK K
  try simp only [Act.put, List.setIfInBounds_toArray, List.set_cons_zero, List.set_cons_succ]
  refine takeL 42 (v := ?_) rfl (by kernel_rfl) (by kernel_rfl) (by kernel_rfl) (fun _ _ _ h => h) (Or.inl ⟨by rfl, ?_⟩) hHeld ?_
  rotate_left 1
  · (intro w hSw; have h3 := hvs (q.a : Int) (q.b : Int) (q.c : Int) (q.d : Int) w; go_simp; try with_reducible rfl)
  try simp only [Act.put, List.setIfInBounds_toArray, List.set_cons_zero, List.set_cons_succ]
  refine takeL 43 (v := ?_) rfl (by kernel_rfl) (by kernel_rfl) (by kernel_rfl) (fun _ _ _ h => h) (Or.inl ⟨by rfl, ?_⟩) hHeld ?_
  rotate_left 1
  · (intro w hSw; go_simp; try with_reducible rfl)
  try simp only [Act.put, List.setIfInBounds_toArray, List.set_cons_zero, List.set_cons_succ]
  refine takeL 44 (v := ?_) rfl (by kernel_rfl) (by kernel_rfl) (by kernel_rfl) (fun _ _ _ h => h) (Or.inl ⟨by rfl, ?_⟩) hHeld ?_
  rotate_left 1
  · (intro w hSw; go_simp; try with_reducible rfl)
  try simp only [Act.put, List.setIfInBounds_toArray, List.set_cons_zero, List.set_cons_succ]
  refine takeL 45 rfl (by kernel_rfl) (by kernel_rfl) (by kernel_rfl) (fun _ _ _ h => h) (yieldsIf_load_mid (by rfl) _ _ rfl _ _ rfl _ _ (fun w hSw => hSw.2) Tryd.underlying39 rfl (by kernel_rfl)) hHeld ?_
  try simp only [Act.put, List.setIfInBounds_toArray, List.set_cons_zero, List.set_cons_succ]
  refine takeL 46 (v := ?_) rfl (by kernel_rfl) (by kernel_rfl) (by kernel_rfl) (fun _ _ _ h => h) (Or.inl ⟨by rfl, ?_⟩) hHeld ?_
  rotate_left 1
  · (intro w hSw; go_simp; try with_reducible rfl)
  try simp only [Act.put, List.setIfInBounds_toArray, List.set_cons_zero, List.set_cons_succ]
  refine takeL 47 (v := ?_) rfl (by kernel_rfl) (by kernel_rfl) (by kernel_rfl) (fun _ _ _ h => h) (Or.inl ⟨by rfl, ?_⟩) hHeld ?_
  rotate_left 1
  · (intro w hSw; have c1 : w.cell? ⟨E + 5, 1, none⟩ = some _ := hSw.1 1 _ rfl; go_simp; try with_reducible rfl)
  try simp only [Act.put, List.setIfInBounds_toArray, List.set_cons_zero, List.set_cons_succ]
  refine stepL 48 (by kernel_rfl) rfl (fun K hK => ?_)
  go_simp
  refine (HV1.out X5 T5.out.2.2.2).mono ?_
  rintro e X6 ⟨rfl, hb⟩
  show K _ _
  have T6 := Bx.mk (And.intro (T5.out.1.later hb) (And.intro (T5.out.2.1.later hb) (And.intro (T5.out.2.2.1.later hb) (T5.out.2.2.2.later hb))))
  clear hb T5
  refine hK.out _ _ (⟨fun j v hv => by rw [cell_of_row _ _ _ _ _ _ (T6.out.1.rows _ (.tail _ (.head _))), Nat.zero_add]; simpa using hv, row_rng8 (l := [.int .i64 (q.a : Int), .int .i64 (q.b : Int), .int .i64 (q.c : Int), .int .i64 (q.d : Int)]) (T6.out.1.rows _ (.head _))⟩) (fun hHeld => ?_)
  clear hK K
  try simp only [Act.put, List.setIfInBounds_toArray, List.set_cons_zero, List.set_cons_succ]
  refine stepL 49 (by kernel_rfl) rfl (fun K hK => ?_)
  go_simp
  refine (HCv.out X6).mono ?_
  rintro e X7 ⟨rfl, hb⟩
  show K _ _
  have T7 := Bx.mk (And.intro (T6.out.1.later hb) (And.intro (T6.out.2.1.later hb) (And.intro (T6.out.2.2.1.later hb) (T6.out.2.2.2.later hb))))
  clear hb T6
  refine hK.out _ _ (⟨fun j v hv => by rw [cell_of_row _ _ _ _ _ _ (T7.out.1.rows _ (.tail _ (.head _))), Nat.zero_add]; simpa using hv, row_rng8 (l := [.int .i64 (q.a : Int), .int .i64 (q.b : Int), .int .i64 (q.c : Int), .int .i64 (q.d : Int)]) (T7.out.1.rows _ (.head _))⟩) (fun hHeld => ?_)
  clear hK K
  try simp only [Act.put, List.setIfInBounds_toArray, List.set_cons_zero, List.set_cons_succ]
  refine takeL 50 (v := ?_) rfl (by kernel_rfl) (by kernel_rfl) (by kernel_rfl) (fun _ _ _ h => h) (Or.inl ⟨by rfl, ?_⟩) hHeld ?_
  rotate_left 1
  · (intro w hSw; go_simp; try with_reducible rfl)
  try simp only [Act.put, List.setIfInBounds_toArray, List.set_cons_zero, List.set_cons_succ]
  refine takeL 51 (v := ?_) rfl (by kernel_rfl) (by kernel_rfl) (by kernel_rfl) (fun _ _ _ h => h) (Or.inl ⟨by rfl, ?_⟩) hHeld ?_
  rotate_left 1
  · (intro w hSw; go_simp; try with_reducible rfl)
  try simp only [Act.put, List.setIfInBounds_toArray, List.set_cons_zero, List.set_cons_succ]
  refine wpAnyH_done (by kernel_rfl) ?_ _
  refine NoPanic.normal ?_
  clear hHeld
  go_wp2
  go_ret
  exact ⟨rfl, T7.out.1.below⟩
end Go.Proofs.YtmfhdhggpepbbaaDoor
