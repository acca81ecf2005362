/-
  The walks of a reader, whole.
-/
import Derived.Test.YtiengbmnfbbgoaaDoorIo
import Derived.Test.YtiengbmnfbbgoaaDoorIk
namespace Go.Proofs.YtiengbmnfbbgoaaDoor
open Go Go.RowKit
set_option maxRecDepth 100000 in
set_option maxHeartbeats 1000000 in
theorem get_ok (q : Nat) (f : Fd) (more : List UInt8) (w : World) (hc : chk f = 0) (h : IsR w q (enc f ++ more) 0) (hl : more.length ≤ 5000) :
    Calls Tryd.prog 86 #[.pointer (some ⟨q, 0, none⟩), .int .i64 f.s] w fun e w' => ∃ v', e = .returned v' ∧ IsF w' v' f ∧ IsR w' q more 0 ∧ w.grownBy w' (some q) := by
  obtain ⟨s, n, b⟩ := f
  simp only
  have hq := h.lt
  have HA : Bx (Below w.heap.size w (w.alloc (.cells #[.int .i64 0, .int .i64 0, .slice none 0 0] 141))) := Bx.mk (below_a _)
  have HR := Bx.mk (h.later HA.out)
  have HF := Bx.mk (field_ok q ⟨s, n, b⟩ more 0 _ hc (h.later HA.out) hl)
  simp only at HF
  clear hc h hl
  go_enter Tryd.func86, Tryd.ntmps86
  go_wp2_with fail
  refine (rerr_any q _ 0 _ HR.out).mono ?_
  rintro e w1 ⟨rfl, rfl⟩
  go_wp2_with fail
  refine HF.out.mono ?_
  rintro e w2 ⟨v2, rfl, ⟨vb, rfl, hb2⟩, hr2, hg2⟩
  have HR2 : Bx (w2.heap[w.heap.size]? = some (.cells #[.int .i64 0, .int .i64 0, .slice none 0 0] 141 (0, 0))) := Bx.mk (by rw [hg2.block _ (by simp) (fun e => by injection e with e; omega), hnew _ _ _ rfl])
  obtain ⟨D, hD⟩ : ∃ D, w.heap.size = D := ⟨_, rfl⟩
  have HD : Bx (w.heap.size = D ∧ q ≠ D) := Bx.mk ⟨hD, by omega⟩
  rw [hD] at HR2 ⊢
  have hD2 : D < w2.heap.size := (Array.getElem?_eq_some_iff.1 HR2.out).1
  obtain ⟨⟨a2, c2, hvb, -⟩, -⟩ := id hb2
  subst hvb
  have H3 : Bx (BytesN (w2.alloc (.cells #[.int .i64 s, .int .i64 n, .slice a2 b.length c2] 141)) q (.slice a2 b.length c2) b ∧ IsR (w2.alloc (.cells #[.int .i64 s, .int .i64 n, .slice a2 b.length c2] 141)) q more 0 ∧ w.grownBy (w2.alloc (.cells #[.int .i64 s, .int .i64 n, .slice a2 b.length c2] 141)) (some q) ∧ (w2.alloc (.cells #[.int .i64 s, .int .i64 n, .slice a2 b.length c2] 141)).heap[D]? = some (.cells #[.int .i64 0, .int .i64 0, .slice none 0 0] 141 (0, 0))) :=
    Bx.mk ⟨hb2.grown (kb_below _ (below_a _)), hr2.later (below_a _), kb_trans (kb_trans (kb_below (some q) HA.out) hg2) (kb_below _ (below_a _)), by rw [(below_a _).block D hD2]; exact HR2.out⟩
  clear hb2 hr2 hg2 HR2 HA HR HF hD hq
  generalize b.length = L at *
  have HX := Bx.mk (box_range w2 (.int .i64 s) (.int .i64 n) (.slice a2 L c2) 141)
  have hE : D ≠ w2.heap.size := by omega
  go_upto_region 4 with fail
  generalize w2.alloc (.cells #[.int .i64 s, .int .i64 n, .slice a2 L c2] 141) = wB at *
  generalize w2.heap.size = E at *
  clear hD2
  go_wp2_with (first | refine wpList_load_mid rfl 141 _ rfl E 0 (by rfl) _ _ HX.out Tryd.underlying141 rfl (by kernel_rfl) ?_ | (refine wpList_store_new rfl 141 _ _ rfl D #[.int .i64 s, .int .i64 n, .slice a2 L c2] _ _ (by rfl) (by rfl) H3.out.2.2.2 rfl (by kernel_rfl) (by simp [Value.oneCell']) ?_; intro w3 hw3 hr3; have hg3 : Bx (wB.grownBy w3 (some D)) := Bx.mk (by rw [hw3]; exact kb_setCells _ _ _); have HR3 := Bx.mk hr3; clear hw3 hr3))
  have hg3 := hg3.out
  have hr3 := HR3.out
  have H4 := Bx.mk (And.intro (H3.out.1.aside H3.out.2.2.2 (fun x e => by cases e) hg3) (And.intro (H3.out.2.1.aside H3.out.2.2.2 (fun x e => by cases e) hg3 HD.out.2) (kb_new H3.out.2.2.1 hg3 (Nat.le_of_eq HD.out.1))))
  refine bodyPost_ret (results_cell_row rfl _ _ D _ _ _ _ rfl hr3 Tryd.underlying141 rfl (by kernel_rfl)) rfl ?_
  exact ⟨_, rfl, ⟨_, rfl, H4.out.1.1⟩, H4.out.2⟩
/-- The zero field. -/
def fZero : Value := .agg #[.int .i64 0, .int .i64 0, .slice none 0 0]
theorem set_same3 (W : World) (a b c : Value) (t : TypeId) : ((W.alloc (.cells #[a, b, c] t)).setCells W.heap.size 0 [a, b, c]).heap[W.heap.size]? = some (.cells #[a, b, c] t (0, 0)) := heap_setCells_all (ds := #[a, b, c]) (hnew _ _ _ rfl) rfl
theorem get_nil (z : Int) (w : World) : Calls Tryd.prog 86 #[.pointer none, .int .i64 z] w fun e w' => e = .returned fZero ∧ Below w.heap.size w w' := by
  have HR2 : Bx ((w.alloc (.cells #[.int .i64 0, .int .i64 0, .slice none 0 0] 141)).heap[w.heap.size]? = some (.cells #[.int .i64 0, .int .i64 0, .slice none 0 0] 141 (0, 0))) := Bx.mk (hnew _ _ _ rfl)
  have HB : Bx (Below w.heap.size w (w.alloc (.cells #[.int .i64 0, .int .i64 0, .slice none 0 0] 141))) := Bx.mk (below_a _)
  go_enter Tryd.func86, Tryd.ntmps86
  go_wp2_with fail
  refine (rerr_nil _).mono ?_
  rintro e w1 ⟨rfl, hw1⟩
  obtain ⟨D, hD⟩ : ∃ D, w.heap.size = D := ⟨_, rfl⟩
  have HD := Bx.mk hD
  rw [← hw1, hD] at HR2
  rw [← hw1] at HB
  rw [hD]
  clear hw1 hD
  go_wp2_with (refine wpList_store_new rfl 141 _ _ rfl D #[.int .i64 0, .int .i64 0, .slice none 0 0] _ _ (by rfl) (by rfl) HR2.out rfl (by kernel_rfl) (by simp [Value.oneCell']) ?_; intro w3 hw3 hr3; have hg3 : Bx (w1.grownBy w3 (some D)) := Bx.mk (by rw [hw3]; exact kb_setCells _ _ _); have HR3 := Bx.mk hr3; clear hw3 hr3)
  refine bodyPost_ret (results_cell_row rfl _ _ D _ _ _ _ rfl HR3.out Tryd.underlying141 rfl (by kernel_rfl)) rfl ?_
  exact ⟨rfl, by
    have h := HB.out
    rw [HD.out] at h ⊢
    exact h.trans (grown_below hg3.out (Nat.le_refl _) (Nat.le_of_lt (Array.getElem?_eq_some_iff.1 HR2.out).1))⟩
theorem get_bad (q : Nat) (l : List UInt8) (er z : Int) (w : World) (h : IsR w q l er) (he : er ≠ 0) : Calls Tryd.prog 86 #[.pointer (some ⟨q, 0, none⟩), .int .i64 z] w fun e w' => e = .returned fZero ∧ Below w.heap.size w w' := by
  have HR2 : Bx ((w.alloc (.cells #[.int .i64 0, .int .i64 0, .slice none 0 0] 141)).heap[w.heap.size]? = some (.cells #[.int .i64 0, .int .i64 0, .slice none 0 0] 141 (0, 0))) := Bx.mk (hnew _ _ _ rfl)
  have HB : Bx (Below w.heap.size w (w.alloc (.cells #[.int .i64 0, .int .i64 0, .slice none 0 0] 141))) := Bx.mk (below_a _)
  have HR := Bx.mk (h.later HB.out)
  clear h
  go_enter Tryd.func86, Tryd.ntmps86
  go_wp2_with fail
  refine (rerr_any q l er _ HR.out).mono ?_
  rintro e w1 ⟨rfl, hw1⟩
  obtain ⟨D, hD⟩ : ∃ D, w.heap.size = D := ⟨_, rfl⟩
  have HD := Bx.mk hD
  rw [← hw1, hD] at HR2
  rw [← hw1] at HB
  rw [hD]
  clear hw1 hD HR
  go_wp2_with (refine wpList_store_new rfl 141 _ _ rfl D #[.int .i64 0, .int .i64 0, .slice none 0 0] _ _ (by rfl) (by rfl) HR2.out rfl (by kernel_rfl) (by simp [Value.oneCell']) ?_; intro w3 hw3 hr3; have hg3 : Bx (w1.grownBy w3 (some D)) := Bx.mk (by rw [hw3]; exact kb_setCells _ _ _); have HR3 := Bx.mk hr3; clear hw3 hr3)
  refine bodyPost_ret (results_cell_row rfl _ _ D _ _ _ _ rfl HR3.out Tryd.underlying141 rfl (by kernel_rfl)) rfl ?_
  exact ⟨rfl, by
    have h := HB.out
    rw [HD.out] at h ⊢
    exact h.trans (grown_below hg3.out (Nat.le_refl _) (Nat.le_of_lt (Array.getElem?_eq_some_iff.1 HR2.out).1))⟩
theorem fld1 (W : World) : (Instr.field 141 (.agg #[.int .i64 0, .int .i64 0, .slice none 0 0]) 1).run Tryd.prog W = .ok (.int .i64 0) W := by kernel_rfl
theorem fld2 (W : World) : (Instr.field 141 (.agg #[.int .i64 0, .int .i64 0, .slice none 0 0]) 2).run Tryd.prog W = .ok (.slice none 0 0) W := by kernel_rfl
set_option maxRecDepth 100000 in
theorem rnum_nil (w : World) : Calls Tryd.prog 77 #[.pointer none, .int .i64 0] w fun e w' => e = .returned (.int .i64 0) ∧ Below w.heap.size w w' := by
  go_enter Tryd.func77, Tryd.ntmps77
  go_wp2_with fail
  refine (get_nil 0 w).mono ?_
  rintro e w1 ⟨rfl, hb1⟩
  have HB := Bx.mk hb1
  unfold fZero
  have q1 := fld1
  have q2 := fld2
  clear hb1
  go_wp2
  go_ret
  exact ⟨rfl, HB.out⟩
set_option maxRecDepth 100000 in
theorem rnum_some (q : Nat) (l : List UInt8) (w : World) (h : IsR w q l 0) : Calls Tryd.prog 77 #[.pointer (some ⟨q, 0, none⟩), .int .i64 4] w fun e w' => e = .returned (.int .i64 0) ∧ IsR w' q [] 13 ∧ w.grownBy w' (some q) := by
  have H := Bx.mk h
  clear h
  go_enter Tryd.func77, Tryd.ntmps77
  go_wp2_with fail
  refine (fail_ok q l 13 w H.out).mono ?_
  rintro e w1 ⟨⟨v1, rfl⟩, hr1, hg1⟩
  have H1 := Bx.mk (And.intro hr1 hg1)
  clear hr1 hg1 H
  go_wp2_with fail
  refine (get_bad q [] 13 4 w1 H1.out.1 (by omega)).mono ?_
  rintro e w2 ⟨rfl, hb2⟩
  have H2 := Bx.mk (And.intro (H1.out.1.later hb2) (kb_trans H1.out.2 (kb_below (some q) hb2)))
  unfold fZero
  have q1 := fld1
  have q2 := fld2
  clear hb2 H1
  go_wp2
  go_ret
  exact ⟨rfl, H2.out⟩
set_option maxRecDepth 100000 in
theorem new_ok (b : List UInt8) (v : Value) (w : World) (hv : Bytes w v b) (hl : b.length ≤ 1024) : Calls Tryd.prog 59 #[v] w fun e w' => e = .returned (.pointer (some ⟨w.heap.size, 0, none⟩)) ∧ IsR w' w.heap.size b 0 ∧ Below w.heap.size w w' := by
  have HV := Bx.mk hv
  have HL := Bx.mk hl
  have HA : Bx (Below w.heap.size w (w.alloc (.cells #[.slice none 0 0, .int .i64 0] 147)) ∧ IsR (w.alloc (.cells #[.slice none 0 0, .int .i64 0] 147)) w.heap.size [] 0) := Bx.mk ⟨below_a _, ⟨_, by rw [hnew _ _ _ rfl], BytesN.nil _ _⟩⟩
  obtain ⟨a, c, rfl, -⟩ := hv
  obtain ⟨L, hL⟩ : ∃ n, b.length = n := ⟨_, rfl⟩
  rw [hL] at HV hl ⊢
  have hl1 : ¬ (1024 : Int) < (L : Int) := by omega
  clear hL hl
  go_enter Tryd.func59, Tryd.ntmps59
  go_wp2_with fail
  refine (clone_any b _ _ (HV.out.later HA.out.1) (by have := HL.out; omega)).mono ?_
  rintro e w2 ⟨v2, rfl, ho2, hb2⟩
  obtain ⟨q, hq⟩ : ∃ q, w.heap.size = q := ⟨_, rfl⟩
  have HQ := Bx.mk hq
  have H2 : Bx (IsR w2 q [] 0 ∧ BytesN w2 q v2 b ∧ Below q w w2) := Bx.mk ⟨by rw [← hq]; exact HA.out.2.later hb2, ho2.bytesN (by rw [← hq]; exact HA.out.2.lt), by rw [← hq]; exact HA.out.1.trans (hb2.mono HA.out.1.size)⟩
  rw [hq]
  clear ho2 hb2 HA hq
  have hf0 := H2.out.1.thaw 0
  obtain ⟨a0, c0, hc0, -⟩ := H2.out.1.rest
  have H3 : Bx (IsR (w2.setCell ⟨q, 0, none⟩ v2) q b 0 ∧ Below q w (w2.setCell ⟨q, 0, none⟩ v2)) := Bx.mk ⟨H2.out.1.set H2.out.2.1, H2.out.2.2.setCell (Nat.le_refl _) _⟩
  obtain ⟨a2, c2, hv2, -⟩ := H2.out.2.1.1
  subst hv2
  clear H2
  go_wp2
  go_ret
  rw [HQ.out]
  exact ⟨rfl, H3.out⟩
end Go.Proofs.YtiengbmnfbbgoaaDoor
