/-
  The walks of Prove, Proves and Parse.
-/
import Derived.Test.YtiengbmnfbbgoaaDoorAf
import Derived.Test.YtiengbmnfbbgoaaDoorQa
import Derived.Test.YtiengbmnfbbgoaaDoorCi
namespace Go.Proofs.YtiengbmnfbbgoaaDoor
open Go Go.RowKit
set_option maxRecDepth 100000 in
theorem tlength_any (bs : List UInt8) (v : Value) (w : World) (hv : Bytes w v bs) (hn : bs.length ≤ 140737488355328) :
    Calls Tryd.prog 44 #[v] w fun e w' => e = .returned (.slice (some ⟨w.heap.size, 0, none⟩) 4 4) ∧ w' = w.alloc (.cells (u8s (lenB bs.length)) 5) := by
  obtain ⟨a, cap, rfl, -⟩ := hv
  obtain ⟨n, hn1⟩ : ∃ n, bs.length = n := ⟨_, rfl⟩
  rw [hn1] at hn ⊢
  have h3 := (len_byte n 3).resolve_right (by omega)
  have h2 := (len_byte n 2).resolve_right (by omega)
  have h1 := (len_byte n 1).resolve_right (by omega)
  have h0 := (len_byte n 0).resolve_right (by omega)
  simp only [Nat.mul_zero, Int.pow_zero, Nat.reduceMul, Int.reducePow, Int.ediv_one] at h0 h1 h2 h3
  have hn2 : (n : Int) ≤ 140737488355328 := by omega
  clear hn1
  go_enter Tryd.func44, Tryd.ntmps44
  go_wp2
  go_ret
  exact ⟨rfl, rfl⟩
/-- A value whose bytes stay while parts are gathered in block G. -/
def SV (w0 : World) (G : Nat) (W : World) (x : Value) (q : List UInt8) : Prop := BN w0 G x q ∨ ∃ b, OwnB W b x q
/-- Parts being gathered in the variable of block G. -/
structure GS (w0 : World) (G : Nat) (qs : List (List UInt8)) (v : Value) (xs : List Value) (W : World) : Prop where
  grown : w0.grownBy W (some G)
  lt : G < w0.heap.size
  row : W.heap[G]? = some (.cells #[v] 25 (0, 0))
  own : OwnP W w0.heap.size v xs
  len : xs.length = qs.length
  vals : ∀ j, j < xs.length → SV w0 G W (xs.getD j undef) (qs.getD j [])
theorem own_neG {w : World} {b G : Nat} {v x : Value} {l : List UInt8} (h : OwnB w b x l) (hG : w.heap[G]? = some (.cells #[v] 25 (0, 0))) : ∀ g, some G = some g → x.ownBlock ≠ some g := by
  intro g hg hx
  injection hg with hg
  subst hg
  rcases h.2 with ⟨rfl, _⟩ | ⟨g1, cap, cur, rfl, _, hh, _⟩
  · cases hx
  · injection hx with hx
    simp only at hx
    subst hx
    rw [hh] at hG
    injection hG with e
    injection e with _ e2
    exact absurd e2 (by decide)
theorem ownP_neG {w : World} {b G : Nat} {v x : Value} {xs : List Value} (h : OwnP w b x xs) (hG : w.heap[G]? = some (.cells #[v] 25 (0, 0))) : ∀ g, some G = some g → x.ownBlock ≠ some g := by
  intro g hg hx
  injection hg with hg
  subst hg
  rcases h.2 with ⟨rfl, _⟩ | ⟨g1, cap, cur, rfl, _, hh, _⟩
  · cases hx
  · injection hx with hx
    simp only at hx
    subst hx
    rw [hh] at hG
    injection hG with e
    injection e with _ e2
    exact absurd e2 (by decide)
theorem SV.grown {w0 : World} {G : Nat} {W W1 : World} {x : Value} {q : List UInt8} (h : SV w0 G W x q) {row : Option Nat} (hg : W.grownBy W1 row) (hne : ∀ b, OwnB W b x q → ∀ g, row = some g → x.ownBlock ≠ some g) : SV w0 G W1 x q := by
  rcases h with h | ⟨b, h⟩
  · exact .inl h
  · exact .inr ⟨b, h.grown hg (hne b h)⟩
theorem SV.below {w0 : World} {G : Nat} {W W1 : World} {x : Value} {q : List UInt8} (h : SV w0 G W x q) (hb : Below W.heap.size W W1) : SV w0 G W1 x q := by
  rcases h with h | ⟨b, h⟩
  · exact .inl h
  · exact .inr ⟨b, h.later hb (fun g hg => (h.lt g hg).1)⟩
theorem SV.bytes {w0 : World} {G : Nat} {W : World} {x : Value} {q : List UInt8} (h : SV w0 G W x q) (hg : w0.grownBy W (some G)) : Bytes W x q := by
  rcases h with h | ⟨b, h⟩
  · exact (h.later hg).1
  · exact h.bytes
theorem GS.later {w0 : World} {G : Nat} {qs : List (List UInt8)} {v : Value} {xs : List Value} {W W1 : World} (h : GS w0 G qs v xs W) (hb : Below W.heap.size W W1) : GS w0 G qs v xs W1 :=
  ⟨kb_trans h.grown (kb_below _ hb), h.lt, by rw [hb.block _ (Array.getElem?_eq_some_iff.1 h.row).1]; exact h.row, h.own.later hb (fun g hg => (h.own.lt g hg).1), h.len, fun j hj => (h.vals j hj).below hb⟩
/-- Two more values behind those gathered; the variable is yet to be set. -/
structure GA (w0 : World) (G : Nat) (qs : List (List UInt8)) (v v1 : Value) (xs : List Value) (W : World) : Prop where
  grown : w0.grownBy W (some G)
  lt : G < w0.heap.size
  row : W.heap[G]? = some (.cells #[v] 25 (0, 0))
  own : OwnP W w0.heap.size v1 xs
  len : xs.length = qs.length
  vals : ∀ j, j < xs.length → SV w0 G W (xs.getD j undef) (qs.getD j [])
theorem GS.more {w0 : World} {G : Nat} {qs : List (List UInt8)} {v v1 : Value} {xs : List Value} {W W1 : World} (h : GS w0 G qs v xs W) {y z : Value} {p r : List UInt8} (hy : SV w0 G W y p) (hz : SV w0 G W z r) (ho : OwnP W1 w0.heap.size v1 (xs ++ [y, z])) (hg : W.grownBy W1 v.ownBlock) : GA w0 G (qs ++ [p, r]) v v1 (xs ++ [y, z]) W1 := by
  have hk : ∀ b (x : Value) (q : List UInt8), OwnB W b x q → ∀ g, v.ownBlock = some g → x.ownBlock ≠ some g := fun b x q hx => own_ne h.own hx
  have hb : Below w0.heap.size W W1 := ⟨hg.os, hg.tape, hg.output, hg.size, fun i hi => hg.block i (Nat.lt_of_lt_of_le hi h.grown.size) (fun e => by have := (h.own.lt i e.symm).2; omega)⟩
  refine ⟨⟨by rw [hb.os]; exact h.grown.os, by rw [hb.tape]; exact h.grown.tape, by rw [hb.output]; exact h.grown.output, Nat.le_trans h.grown.size hb.size, fun i hi hne => by rw [hb.block i hi]; exact h.grown.block i hi hne⟩, h.lt, by rw [hb.block G h.lt]; exact h.row, ho, by simp [h.len], fun j hj => ?_⟩
  rw [List.length_append] at hj
  by_cases hlt : j < xs.length
  · have e1 : (xs ++ [y, z]).getD j undef = xs.getD j undef := by simp [List.getElem?_append_left hlt]
    have e2 : (qs ++ [p, r]).getD j [] = qs.getD j [] := by simp [List.getElem?_append_left (h.len ▸ hlt)]
    rw [e1, e2]
    exact (h.vals j hlt).grown hg (fun b hb => hk b _ _ hb)
  · simp only [List.length_cons, List.length_nil] at hj
    rcases (show j = xs.length ∨ j = xs.length + 1 by omega) with rfl | rfl
    · have e1 : (xs ++ [y, z]).getD xs.length undef = y := by simp
      have e2 : (qs ++ [p, r]).getD xs.length [] = p := by rw [h.len]; simp
      rw [e1, e2]
      exact hy.grown hg (fun b hb => hk b _ _ hb)
    · have e1 : (xs ++ [y, z]).getD (xs.length + 1) undef = z := by simp
      have e2 : (qs ++ [p, r]).getD (xs.length + 1) [] = r := by rw [h.len]; simp
      rw [e1, e2]
      exact hz.grown hg (fun b hb => hk b _ _ hb)
theorem GA.set {w0 : World} {G : Nat} {qs : List (List UInt8)} {v v1 : Value} {xs : List Value} {W : World} (h : GA w0 G qs v v1 xs W) : GS w0 G qs v1 xs (W.setCell ⟨G, 0, none⟩ v1) := by
  have hg : W.grownBy (W.setCell ⟨G, 0, none⟩ v1) (some G) := kb_setCell W 0 v1
  exact ⟨kb_trans h.grown hg, h.lt, by have := heap_setCell_same W G 0 _ _ v1 h.row; simpa using this, h.own.grown hg (ownP_neG h.own h.row), h.len, fun j hj => (h.vals j hj).grown hg (fun b hb => own_neG hb h.row)⟩
theorem GS.cell {w0 : World} {G : Nat} {qs : List (List UInt8)} {v : Value} {xs : List Value} {W : World} (h : GS w0 G qs v xs W) : W.cell? ⟨G, 0, none⟩ = some v := by rw [cell_of_row _ _ _ _ _ _ h.row]; rfl
theorem own_built (W : World) (l : List UInt8) (hl : l.length ≤ 1000000) : OwnB (W.alloc (.cells (u8s l) 5)) W.heap.size (.slice (some ⟨W.heap.size, 0, none⟩) l.length l.length) l := by
  refine ⟨by simp [u8s_size], .inr ⟨W.heap.size, l.length, u8s l, rfl, Nat.le_refl _, hnew _ _ _ rfl, Nat.le_refl _, by unfold maxLen; omega, by simp [u8s_size], ?_⟩⟩
  rw [List.take_of_length_le (by simp [u8s_size])]
theorem SV.one {w0 : World} {G : Nat} {W : World} {x : Value} {q : List UInt8} (h : SV w0 G W x q) : ∃ a n c, x = .slice a n c := by
  rcases h with h | ⟨b, h⟩
  · obtain ⟨a, c, hx, _⟩ := h.1
    exact ⟨a, _, c, hx⟩
  · obtain ⟨a, c, hx, _⟩ := h.bytes
    exact ⟨a, _, c, hx⟩
theorem lenB_len (n : Nat) : (lenB n).length = 4 := rfl
theorem row_two (W : World) (x y : Value) (t : TypeId) : RowP (W.alloc (.cells #[x, y] t)) (.slice (some ⟨W.heap.size, 0, none⟩) 2 2) [x, y] := by
  refine .inr ⟨W.heap.size, 0, 2, rfl, fun j hj => ?_⟩
  rw [cell_of_row _ _ _ _ _ _ (hnew W _ _ rfl)]
  match j, hj with
  | 0, _ => rfl
  | 1, _ => rfl
theorem frozen_row {W : World} {G : Nat} {cs : Array Value} {t : TypeId} (h : W.heap[G]? = some (.cells cs t (0, 0))) : W.frozen? ⟨G, 0, none⟩ = false := frozen_of_row _ _ _ _ _ h
theorem ownP_form {w : World} {b : Nat} {v : Value} {xs : List Value} (h : OwnP w b v xs) : ∃ a n c, v = .slice a n c := by
  rcases h.2 with ⟨hv, _⟩ | ⟨g, cap, cur, hv, _⟩
  · exact ⟨_, _, _, hv⟩
  · exact ⟨_, _, _, hv⟩
/-- What the closure leaves. -/
def GatQ (w0 : World) (G : Nat) (qs : List (List UInt8)) (e : Ending) (w' : World) : Prop := e = .returned (.tuple #[]) ∧ ∃ v xs, GS w0 G qs v xs w'
set_option maxRecDepth 100000 in
set_option maxHeartbeats 1000000 in
theorem gather_any (w0 : World) (G : Nat) (qs : List (List UInt8)) (v : Value) (xs : List Value) (x : Value) (q : List UInt8) (w : World) (h : GS w0 G qs v xs w) (hx : SV w0 G w x q) (hq : q.length ≤ 1000000) (hn : qs.length ≤ 1000) :
    Calls Tryd.prog 43 #[x, .pointer (some ⟨G, 0, none⟩)] w (GatQ w0 G (qs ++ [lenB q.length, q])) := by
  have B0 := Bx.mk (And.intro (h.later (Below.refl _ _).drew) (hx.below (Below.refl _ _).drew))
  have HN := Bx.mk (And.intro hq hn)
  obtain ⟨ax, nx, cx, rfl⟩ := hx.one
  clear h hx hq hn
  go_enter Tryd.func43, Tryd.ntmps43
  go_wp2_with fail
  refine wp_region_noPanic ?_
  refine wp_region_held_drew (S := fun _ => True) (by kernel_rfl) (trivial) (fun hHeld => ?_)
  generalize w.drew = W0 at *
  refine takeL 1 (v := ?_) rfl (by kernel_rfl) (by kernel_rfl) (by kernel_rfl) (fun _ _ _ h => h) (Or.inl ⟨by rfl, ?_⟩) hHeld ?_
  rotate_left 1
  · (intro w hSw; go_simp; try with_reducible rfl)
  try simp only [Act.put, List.setIfInBounds_toArray, List.set_cons_zero, List.set_cons_succ]
  refine takeL 3 (v := ?_) rfl (by kernel_rfl) (by kernel_rfl) (by kernel_rfl) (fun _ _ _ h => h) (Or.inl ⟨by rfl, ?_⟩) hHeld ?_
  rotate_left 1
  · (intro w hSw; go_simp; try with_reducible rfl)
  try simp only [Act.put, List.setIfInBounds_toArray, List.set_cons_zero, List.set_cons_succ]
  refine wpAnyH_ready (rs := [0, 2]) (by kernel_rfl) (by simp) ?_
  refine consM 0 rfl (fun K hK => ?_) (consM 2 rfl (fun K hK => ?_) AllReadyH.nil)
  · have c0 := B0.out.1.cell
    go_simp
    refine hK.out _ _ trivial (fun hHeld => ?_)
    clear hK K c0
    try simp only [Act.put, List.setIfInBounds_toArray, List.set_cons_zero, List.set_cons_succ]
    refine stepL 2 (by kernel_rfl) rfl (fun K hK => ?_)
    go_simp
    refine (tlength_any q _ W0 (B0.out.2.bytes B0.out.1.grown) (by have := HN.out; omega)).mono ?_
    rintro e W1 ⟨rfl, hv1⟩
    show K _ _
    have B1 := Bx.mk (And.intro (B0.out.1.later (W1 := W1) (by rw [hv1]; exact below_a _)) (And.intro (B0.out.2.below (W1 := W1) (by rw [hv1]; exact below_a _)) (show SV w0 G W1 _ _ from .inr ⟨_, by rw [hv1]; exact own_built W0 (lenB q.length) (by rw [lenB_len]; omega)⟩)))
    rw [lenB_len] at B1
    clear hv1 B0
    generalize W0.heap.size = D1 at *
    refine hK.out _ _ trivial (fun hHeld => ?_)
    clear hK K
    try simp only [Act.put, List.setIfInBounds_toArray, List.set_cons_zero, List.set_cons_succ]
    refine stepL 4 (by kernel_rfl) rfl (fun K hK => ?_)
    go_simp
    show K _ _
    have B2 := Bx.mk (And.intro (B1.out.1.later (below_a (.cells #[.slice (some ⟨D1, 0, none⟩) 4 4, .slice ax nx cx] 22))) (And.intro (B1.out.2.1.below (below_a (.cells #[.slice (some ⟨D1, 0, none⟩) 4 4, .slice ax nx cx] 22))) (And.intro (B1.out.2.2.below (below_a (.cells #[.slice (some ⟨D1, 0, none⟩) 4 4, .slice ax nx cx] 22))) (show RowP (W1.alloc (.cells #[.slice (some ⟨D1, 0, none⟩) 4 4, .slice ax nx cx] 22)) (.slice (some ⟨W1.heap.size, 0, none⟩) 2 2) [.slice (some ⟨D1, 0, none⟩) 4 4, .slice ax nx cx] from row_two _ _ _ _))))
    clear B1
    refine hK.out _ _ trivial (fun hHeld => ?_)
    clear hK K
    try simp only [Act.put, List.setIfInBounds_toArray, List.set_cons_zero, List.set_cons_succ]
    generalize W1.alloc (.cells #[.slice (some ⟨D1, 0, none⟩) 4 4, .slice ax nx cx] 22) = W2 at *
    generalize W1.heap.size = D2 at *
    refine stepL 5 (by kernel_rfl) rfl (fun K hK => ?_)
    refine step_apP (by rfl) _ _ rfl w0.heap.size v xs (by rfl) B2.out.1.own _ [.slice (some ⟨D1, 0, none⟩) 4 4, .slice ax nx cx] (by rfl) B2.out.2.2.2 (by intro u hu; simp at hu; rcases hu with rfl | rfl <;> rfl) (by have := HN.out; have := B2.out.1.len; simp; omega) B2.out.1.grown.size ?_
    intro v1 W3 ho1 hg1
    have B3 := Bx.mk (B2.out.1.more B2.out.2.2.1 B2.out.2.1 ho1 hg1)
    obtain ⟨a1, n1, c1, rfl⟩ := ownP_form ho1
    clear ho1 hg1 B2
    refine hK.out _ _ trivial (fun hHeld => ?_)
    clear hK K
    try simp only [Act.put, List.setIfInBounds_toArray, List.set_cons_zero, List.set_cons_succ]
    refine stepL 6 (by kernel_rfl) rfl (fun K hK => ?_)
    have c0 : W3.cell? ⟨G, 0, none⟩ = some v := by rw [cell_of_row _ _ _ _ _ _ B3.out.row]; rfl
    have f0 : W3.frozen? ⟨G, 0, none⟩ = false := frozen_row B3.out.row
    go_simp
    have B4 := Bx.mk B3.out.set
    clear B3 c0 f0
    refine hK.out _ _ trivial (fun hHeld => ?_)
    clear hK K
    try simp only [Act.put, List.setIfInBounds_toArray, List.set_cons_zero, List.set_cons_succ]
    generalize W3.setCell ⟨G, 0, none⟩ (.slice a1 n1 c1) = W4 at *
    refine wpAnyH_done (by kernel_rfl) ?_ _
    refine NoPanic.normal ?_
    clear hHeld
    go_end0
    exact ⟨rfl, _, _, B4.out⟩
  · go_simp
    refine (tlength_any q _ W0 (B0.out.2.bytes B0.out.1.grown) (by have := HN.out; omega)).mono ?_
    rintro e W1 ⟨rfl, hv1⟩
    show K _ _
    have B1 := Bx.mk (And.intro (B0.out.1.later (W1 := W1) (by rw [hv1]; exact below_a _)) (And.intro (B0.out.2.below (W1 := W1) (by rw [hv1]; exact below_a _)) (show SV w0 G W1 _ _ from .inr ⟨_, by rw [hv1]; exact own_built W0 (lenB q.length) (by rw [lenB_len]; omega)⟩)))
    rw [lenB_len] at B1
    clear hv1 B0
    generalize W0.heap.size = D1 at *
    refine hK.out _ _ trivial (fun hHeld => ?_)
    clear hK K
    try simp only [Act.put, List.setIfInBounds_toArray, List.set_cons_zero, List.set_cons_succ]
    refine wpAnyH_ready (rs := [0, 4]) (by kernel_rfl) (by simp) ?_
    refine consM 0 rfl (fun K hK => ?_) (consM 4 rfl (fun K hK => ?_) AllReadyH.nil)
    · have c0 := B1.out.1.cell
      go_simp
      refine hK.out _ _ trivial (fun hHeld => ?_)
      clear hK K c0
      try simp only [Act.put, List.setIfInBounds_toArray, List.set_cons_zero, List.set_cons_succ]
      refine stepL 4 (by kernel_rfl) rfl (fun K hK => ?_)
      go_simp
      show K _ _
      have B2 := Bx.mk (And.intro (B1.out.1.later (below_a (.cells #[.slice (some ⟨D1, 0, none⟩) 4 4, .slice ax nx cx] 22))) (And.intro (B1.out.2.1.below (below_a (.cells #[.slice (some ⟨D1, 0, none⟩) 4 4, .slice ax nx cx] 22))) (And.intro (B1.out.2.2.below (below_a (.cells #[.slice (some ⟨D1, 0, none⟩) 4 4, .slice ax nx cx] 22))) (show RowP (W1.alloc (.cells #[.slice (some ⟨D1, 0, none⟩) 4 4, .slice ax nx cx] 22)) (.slice (some ⟨W1.heap.size, 0, none⟩) 2 2) [.slice (some ⟨D1, 0, none⟩) 4 4, .slice ax nx cx] from row_two _ _ _ _))))
      clear B1
      refine hK.out _ _ trivial (fun hHeld => ?_)
      clear hK K
      try simp only [Act.put, List.setIfInBounds_toArray, List.set_cons_zero, List.set_cons_succ]
      generalize W1.alloc (.cells #[.slice (some ⟨D1, 0, none⟩) 4 4, .slice ax nx cx] 22) = W2 at *
      generalize W1.heap.size = D2 at *
      refine stepL 5 (by kernel_rfl) rfl (fun K hK => ?_)
      refine step_apP (by rfl) _ _ rfl w0.heap.size v xs (by rfl) B2.out.1.own _ [.slice (some ⟨D1, 0, none⟩) 4 4, .slice ax nx cx] (by rfl) B2.out.2.2.2 (by intro u hu; simp at hu; rcases hu with rfl | rfl <;> rfl) (by have := HN.out; have := B2.out.1.len; simp; omega) B2.out.1.grown.size ?_
      intro v1 W3 ho1 hg1
      have B3 := Bx.mk (B2.out.1.more B2.out.2.2.1 B2.out.2.1 ho1 hg1)
      obtain ⟨a1, n1, c1, rfl⟩ := ownP_form ho1
      clear ho1 hg1 B2
      refine hK.out _ _ trivial (fun hHeld => ?_)
      clear hK K
      try simp only [Act.put, List.setIfInBounds_toArray, List.set_cons_zero, List.set_cons_succ]
      refine stepL 6 (by kernel_rfl) rfl (fun K hK => ?_)
      have c0 : W3.cell? ⟨G, 0, none⟩ = some v := by rw [cell_of_row _ _ _ _ _ _ B3.out.row]; rfl
      have f0 : W3.frozen? ⟨G, 0, none⟩ = false := frozen_row B3.out.row
      go_simp
      have B4 := Bx.mk B3.out.set
      clear B3 c0 f0
      refine hK.out _ _ trivial (fun hHeld => ?_)
      clear hK K
      try simp only [Act.put, List.setIfInBounds_toArray, List.set_cons_zero, List.set_cons_succ]
      generalize W3.setCell ⟨G, 0, none⟩ (.slice a1 n1 c1) = W4 at *
      refine wpAnyH_done (by kernel_rfl) ?_ _
      refine NoPanic.normal ?_
      clear hHeld
      go_end0
      exact ⟨rfl, _, _, B4.out⟩
    · go_simp
      show K _ _
      have B2 := Bx.mk (And.intro (B1.out.1.later (below_a (.cells #[.slice (some ⟨D1, 0, none⟩) 4 4, .slice ax nx cx] 22))) (And.intro (B1.out.2.1.below (below_a (.cells #[.slice (some ⟨D1, 0, none⟩) 4 4, .slice ax nx cx] 22))) (And.intro (B1.out.2.2.below (below_a (.cells #[.slice (some ⟨D1, 0, none⟩) 4 4, .slice ax nx cx] 22))) (show RowP (W1.alloc (.cells #[.slice (some ⟨D1, 0, none⟩) 4 4, .slice ax nx cx] 22)) (.slice (some ⟨W1.heap.size, 0, none⟩) 2 2) [.slice (some ⟨D1, 0, none⟩) 4 4, .slice ax nx cx] from row_two _ _ _ _))))
      clear B1
      refine hK.out _ _ trivial (fun hHeld => ?_)
      clear hK K
      try simp only [Act.put, List.setIfInBounds_toArray, List.set_cons_zero, List.set_cons_succ]
      generalize W1.alloc (.cells #[.slice (some ⟨D1, 0, none⟩) 4 4, .slice ax nx cx] 22) = W2 at *
      generalize W1.heap.size = D2 at *
      refine stepL 0 (by kernel_rfl) rfl (fun K hK => ?_)
      have c0 := B2.out.1.cell
      go_simp
      refine hK.out _ _ trivial (fun hHeld => ?_)
      clear hK K c0
      try simp only [Act.put, List.setIfInBounds_toArray, List.set_cons_zero, List.set_cons_succ]
      refine stepL 5 (by kernel_rfl) rfl (fun K hK => ?_)
      refine step_apP (by rfl) _ _ rfl w0.heap.size v xs (by rfl) B2.out.1.own _ [.slice (some ⟨D1, 0, none⟩) 4 4, .slice ax nx cx] (by rfl) B2.out.2.2.2 (by intro u hu; simp at hu; rcases hu with rfl | rfl <;> rfl) (by have := HN.out; have := B2.out.1.len; simp; omega) B2.out.1.grown.size ?_
      intro v1 W3 ho1 hg1
      have B3 := Bx.mk (B2.out.1.more B2.out.2.2.1 B2.out.2.1 ho1 hg1)
      obtain ⟨a1, n1, c1, rfl⟩ := ownP_form ho1
      clear ho1 hg1 B2
      refine hK.out _ _ trivial (fun hHeld => ?_)
      clear hK K
      try simp only [Act.put, List.setIfInBounds_toArray, List.set_cons_zero, List.set_cons_succ]
      refine stepL 6 (by kernel_rfl) rfl (fun K hK => ?_)
      have c0 : W3.cell? ⟨G, 0, none⟩ = some v := by rw [cell_of_row _ _ _ _ _ _ B3.out.row]; rfl
      have f0 : W3.frozen? ⟨G, 0, none⟩ = false := frozen_row B3.out.row
      go_simp
      have B4 := Bx.mk B3.out.set
      clear B3 c0 f0
      refine hK.out _ _ trivial (fun hHeld => ?_)
      clear hK K
      try simp only [Act.put, List.setIfInBounds_toArray, List.set_cons_zero, List.set_cons_succ]
      generalize W3.setCell ⟨G, 0, none⟩ (.slice a1 n1 c1) = W4 at *
      refine wpAnyH_done (by kernel_rfl) ?_ _
      refine NoPanic.normal ?_
      clear hHeld
      go_end0
      exact ⟨rfl, _, _, B4.out⟩
end Go.Proofs.YtiengbmnfbbgoaaDoor
namespace Go.Proofs.YtiengbmnfbbgoaaDoor
open Go Go.RowKit
/-- The label of proofs. -/
def prL : List UInt8 := [112, 114, 111, 111, 102]
/-- A proof by a secret. -/
def prvK (s : List UInt8) (pss : List (List UInt8)) : List UInt8 := hmac s (frame (prL :: pss))
theorem prvK_length (s : List UInt8) (pss : List (List UInt8)) : (prvK s pss).length = 32 := hmac_length _ _
theorem cell_same {w w1 : World} {p o : Nat} (h : w1.heap[p]? = w.heap[p]?) : w1.cell? ⟨p, o, none⟩ = w.cell? ⟨p, o, none⟩ := by
  unfold World.cell?
  simp only [h]
theorem framed_next (l : List UInt8) (pss : List (List UInt8)) (k : Nat) (h : k < pss.length) : framed (l :: pss.take (k + 1)) = framed (l :: pss.take k) ++ [lenB (pss.getD k []).length, pss.getD k []] := framed_succ l pss k h
theorem GS.parts {w0 : World} {G : Nat} {qs : List (List UInt8)} {v : Value} {xs : List Value} {W : World} (h : GS w0 G qs v xs W) : Parts W v qs := by
  have hb : ∀ j, j < xs.length → Bytes W (xs.getD j undef) (qs.getD j []) := fun j hj => (h.vals j hj).bytes h.grown
  rcases h.own.2 with ⟨hn, h0⟩ | ⟨g, cap, cur, hv, _, hg, hc1, hc2, hc3, hc4⟩
  · have : qs = [] := List.length_eq_zero_iff.1 (by rw [← h.len]; exact h0)
    subst this
    exact ⟨none, 0, hn, fun e => by simp at e⟩
  · refine ⟨_, cap, by rw [← h.len]; exact hv, fun _ => ⟨g, 0, rfl, fun j hj => ?_⟩⟩
    rw [← h.len] at hj
    refine ⟨xs.getD j undef, ?_, hb j hj⟩
    rw [cell_of_row _ _ _ _ _ _ hg, Nat.zero_add, ← Array.getElem?_toList]
    have h1 : (cur.toList.take (xs.length * 1))[j]? = xs[j]? := by rw [hc4]
    rw [List.getElem?_take_of_lt (by omega)] at h1
    rw [h1]
    simp [hj]
theorem GS.start {w : World} {G : Nat} (hG : w.heap[G]? = some (.cells #[.slice none 0 0] 25 (0, 0))) : GS w G [] (.slice none 0 0) [] w :=
  ⟨kb_refl _ _, (Array.getElem?_eq_some_iff.1 hG).1, hG, ⟨rfl, .inl ⟨rfl, rfl⟩⟩, rfl, fun j hj => by simp at hj⟩
theorem KS.grown {w : World} {B Y : Nat} {rs : List (Nat × Obj)} {W W1 : World} (h : KS w B rs W) (hg : W.grownBy W1 (some Y)) (hB : B ≤ Y) (hn : ∀ x ∈ rs, x.1 ≠ Y) : KS w B rs W1 :=
  ⟨fun x hx => by rw [hg.block x.1 (h.lt hx) (fun e => hn x hx (by injection e))]; exact h.rows x hx, h.below.trans (grown_below hg hB h.le), Nat.le_trans h.le hg.size⟩
set_option maxRecDepth 100000 in
set_option maxHeartbeats 2000000 in
theorem tprove_any (c : Cl) (s : List UInt8) (pss : List (List UInt8)) (vp : Value) (w : World) (hs : s.length = 32) (hp : Parts w vp pss) (hn : pss.length ≤ 100) (hpl : ∀ p ∈ pss, p.length ≤ 10000) (hTab : Tab w) (hg : 0 < w.heap.size) :
    Calls Tryd.prog 24 #[tkV c s, vp] w fun e w' => e = .returned (.agg (u8s (prvK s pss))) ∧ Below w.heap.size w w' := by
  have HS := Bx.mk hs
  have HP := Bx.mk hp
  have HPL := Bx.mk hpl
  obtain ⟨a, cap, rfl, -⟩ := hp
  obtain ⟨n, hnn⟩ : ∃ n, pss.length = n := ⟨_, rfl⟩
  have HN := Bx.mk hnn
  rw [hnn] at HP hn ⊢
  have hn1 : (n : Int) ≤ 100 := by omega
  obtain ⟨tk, htk⟩ : ∃ tk, tkC c s = tk := ⟨_, rfl⟩
  unfold tkV
  rw [htk]
  have HTK := Bx.mk htk
  obtain ⟨z32, hz32⟩ : ∃ z, u8s (List.replicate 32 0) = z := ⟨_, rfl⟩
  have hz32v : ∀ W : World, (zeroValue 37).run Tryd.prog W = .ok (.agg z32) W := fun W => by rw [← hz32, zero32]; kernel_rfl
  have HZ := Bx.mk hz32
  have HTab : Bx (∀ W, Below w.heap.size w W → Tab W ∧ 0 < W.heap.size) := Bx.mk fun W hb => ⟨hTab.later hb hg, Nat.lt_of_lt_of_le hg hb.size⟩
  clear hz32 htk hs hpl hnn hTab hg
  obtain ⟨B, hB⟩ : ∃ B, w.heap.size = B := ⟨_, rfl⟩
  have H0 := Bx.mk ((((KS.start w B hB).new (.cells tk 39)).new (.cells z32 37)).new (.cells #[.slice none 0 0] 25))
  rw [alloc_size, alloc_size, hB] at H0
  have hmf : ∀ (fn : Fn) (first cap : Array Value) (w : World), (Instr.makeFunc fn first cap).run Tryd.prog w = .ok (.func fn first cap) w := fun _ _ _ _ => rfl
  have hcv := fun (w : World) (C : Array Value) (n c : Nat) => Lib.run_convert_bytes_const (P := Tryd.prog) w 22 5 C n c Tryd.underlying22 Tryd.underlying5
  have HB := Bx.mk hB
  rw [hB] at HTab ⊢
  go_enter Tryd.func24, Tryd.ntmps24
  go_upto_region 3 with fail
  have H3 : Bx ((((w.alloc (.cells tk 39)).alloc (.cells z32 37)).alloc (.cells #[.slice none 0 0] 25)).heap.size = B + 1 + 1 + 1) := Bx.mk (by rw [alloc_size, alloc_size, alloc_size, HB.out])
  generalize ((w.alloc (.cells tk 39)).alloc (.cells z32 37)).alloc (.cells #[.slice none 0 0] 25) = w3 at *
  go_wp2_with fail
  have H0 : Bx (KS w B ((w3.heap.size, .cells #[.int .u8 112, .int .u8 114, .int .u8 111, .int .u8 111, .int .u8 102] 5 (5, 6)) :: [(B + 1 + 1, .cells #[.slice none 0 0] 25), (B + 1, .cells z32 37), (B, .cells tk 39)]) (w3.alloc (.cells #[.int .u8 112, .int .u8 114, .int .u8 111, .int .u8 111, .int .u8 102] 5 (5, 6)))) := Bx.mk (H0.out.new _)
  have HD : Bx (w3.heap.size ≠ B + 1 + 1) := Bx.mk (by have := H3.out; omega)
  change Bx (KS w B _ (w3.alloc (.cells #[.int .u8 112, .int .u8 114, .int .u8 111, .int .u8 111, .int .u8 102] 5 (#[Value.int .u8 112, Value.int .u8 114, Value.int .u8 111, Value.int .u8 111, Value.int .u8 102].size, #[Value.int .u8 112, Value.int .u8 114, Value.int .u8 111, Value.int .u8 111, Value.int .u8 102].size + 1)))) at H0
  generalize w3.heap.size = D at *
  have hsz : #[Value.int .u8 112, Value.int .u8 114, Value.int .u8 111, Value.int .u8 111, Value.int .u8 102].size = 5 := rfl
  generalize w3.alloc (.cells #[.int .u8 112, .int .u8 114, .int .u8 111, .int .u8 111, .int .u8 102] 5 _) = w4 at *
  have HL : Bx (Bytes w4 (.slice (some ⟨D, 0, none⟩) 5 5) prL) := Bx.mk ⟨_, 5, rfl, Nat.le_refl _, (fun h => by cases h), fun _ => ⟨D, 0, rfl, fun j hj => by rw [cell_of_row _ _ _ _ _ _ (H0.out.rows _ (.head _)), Nat.zero_add]; exact u8s_get prL j hj⟩⟩
  have H0 := Bx.mk H0.out.tail
  have HG1 := Bx.mk (GS.start (H0.out.rows _ (.head _)))
  refine (gather_any w4 (B + 1 + 1) [] _ _ _ prL w4 HG1.out (.inl (HL.out.bn HD.out)) (by decide) (by decide)).mono ?_
  rintro e w5 ⟨rfl, v5, xs5, h5⟩
  have H5 : Bx (∃ v xs, GS w4 (B + 1 + 1) (framed (prL :: pss.take 0)) v xs w5) := Bx.mk ⟨v5, xs5, h5⟩
  clear h5 HG1 HL hsz
  go_wp2
  go_loopw [16] (fun i wr => ∃ j : Nat, j ≤ n ∧ i = .int .i64 (j : Int) ∧ Bx (∃ v xs, GS w4 (B + 1 + 1) (framed (prL :: pss.take j)) v xs wr)) (fun i _ => n - (intOf i).toNat)
  case atStart => exact ⟨0, by omega, rfl, H5⟩
  case round =>
    clear H5
    obtain ⟨j, hj, rfl, HF⟩ := hrel
    by_cases hlt : j < n
    · obtain ⟨a', cap', hv', hr'⟩ := HP.out
      injection hv' with e1 e2 e3
      obtain ⟨p, o, ha, hcell⟩ := hr' (by rw [HN.out]; omega)
      subst e1
      subst ha
      obtain ⟨xv, hx, hxb⟩ := hcell j (by rw [HN.out]; exact hlt)
      obtain ⟨vv, xs, hF⟩ := HF.out
      have hpB : p < B := by rw [← HB.out]; exact World.block_lt_of_cell? _ _ hx
      have hcw : wr.cell? ⟨p, o + j, none⟩ = some xv := by
        have h1 : wr.heap[p]? = w.heap[p]? := by rw [hF.grown.block p (Nat.lt_of_lt_of_le hpB H0.out.le) (by intro e; injection e; omega), H0.out.below.block p hpB]
        rw [← hx]
        exact cell_same h1
      have HXB : Bx (BN w4 (B + 1 + 1) xv (pss.getD j [])) := Bx.mk ⟨hxb.later (by rw [HB.out]; exact H0.out.below), hxb.apart (by rw [HB.out]; exact H0.out.below) _ (by rw [HB.out]; omega)⟩
      have HPJ : Bx ((pss.getD j []).length ≤ 10000) := Bx.mk (by
        have h : j < pss.length := by rw [HN.out]; exact hlt
        exact HPL.out _ (by rw [List.getD_eq_getElem?_getD, List.getElem?_eq_getElem h]; exact List.getElem_mem h))
      have HSc : Bx (framed (prL :: pss.take (j + 1)) = framed (prL :: pss.take j) ++ [lenB (pss.getD j []).length, pss.getD j []]) := Bx.mk (framed_next prL pss j (by rw [HN.out]; exact hlt))
      have HFL : Bx ((framed (prL :: pss.take j)).length ≤ 1000) := Bx.mk (by rw [framed_len, List.length_take]; omega)
      have HF2 := Bx.mk hF
      obtain ⟨ax, nx, cx, rfl⟩ : ∃ a n c, xv = .slice a n c := by obtain ⟨a, c, h, _⟩ := hxb; exact ⟨a, _, c, h⟩
      have hj1 : (j : Int) < (n : Int) := by omega
      generalize pss.getD j [] = pj at *
      clear hr' e2 e3 hcell hx hxb hF HF hpB
      go_wp2_with fail
      refine (gather_any w4 (B + 1 + 1) (framed (prL :: pss.take j)) vv xs _ pj wr HF2.out (.inl HXB.out) (by have := HPJ.out; omega) HFL.out).mono ?_
      rintro e w6 ⟨rfl, v6, xs6, h6⟩
      have H6 : Bx (∃ v xs, GS w4 (B + 1 + 1) (framed (prL :: pss.take (j + 1))) v xs w6) := Bx.mk ⟨v6, xs6, by rw [HSc.out]; exact h6⟩
      clear h6 HF2
      go_wp2
      go_roundw
      case rel => exact ⟨j + 1, by omega, by go_num, H6⟩
      case measure => simp [intOf]; omega
    · obtain rfl : j = n := by omega
      have HE : Bx (∃ v xs, GS w4 (B + 1 + 1) (framed (prL :: pss)) v xs wr) := Bx.mk (by have h := HF.out; rw [List.take_of_length_le (by rw [HN.out]; exact Nat.le_refl _)] at h; exact h)
      clear HF
      obtain ⟨vv, xs, hF⟩ := HE.out
      have HF := Bx.mk hF
      have hlt2 : ¬ ((j : Int) < (j : Int)) := by omega
      clear hF HE
      go_upto_region 9 with fail
      have B0 : Bx (KS w B [(B + 1, .cells z32 37), (B, .cells tk 39)] wr.drew ∧ GS w4 (B + 1 + 1) (framed (prL :: pss)) vv xs wr.drew) := Bx.mk ⟨(H0.out.tail.grown HF.out.grown (by omega) (by intro y hy; simp at hy; rcases hy with rfl | rfl <;> (simp only; omega))).drew, HF.out.later (Below.refl _ _).drew⟩
      rw [← HTK.out, ← HZ.out] at B0
      obtain ⟨av, nv, cv, rfl⟩ : ∃ a n c, vv = .slice a n c := by obtain ⟨a, c, h, _⟩ := HF.out.parts; exact ⟨a, _, c, h⟩
      clear HF H0
      have HML : Bx ((prvK s pss).length = 32) := Bx.mk (prvK_length _ _)
      have HI : Bx ((Tryd.prog.info? 37).map (·.size) = some (u8s (prvK s pss)).size) := Bx.mk (by rw [u8s_size, HML.out]; kernel_rfl)
      have HFl : Bx ((framed (prL :: pss)).flatten.length ≤ 100000000) := Bx.mk (by
        have h2 := frame_len (prL :: pss) 10000 (fun p hp => by rcases List.mem_cons.1 hp with rfl | hp; decide; exact HPL.out p hp)
        rw [List.length_cons] at h2
        have h3 := HN.out
        show (frame (prL :: pss)).length ≤ _
        omega)
      refine wp_region_noPanic ?_
      refine wp_region_held_drew (S := fun W => W.cell? ⟨B + 1 + 1, 0, none⟩ = some (.slice av nv cv)) (by kernel_rfl) (B0.out.2.cell) (fun hHeld => ?_)
      generalize wr.drew = W0 at *
      refine takeL 0 (v := ?_) rfl (by kernel_rfl) (by kernel_rfl) (by kernel_rfl) (fun _ _ _ h => h) (Or.inl ⟨by rfl, ?_⟩) hHeld ?_
      rotate_left 1
      · (intro w hSw; go_simp; try with_reducible rfl)
      try simp only [Act.put, List.setIfInBounds_toArray, List.set_cons_zero, List.set_cons_succ]
      refine takeL 1 (v := ?_) rfl (by kernel_rfl) (by kernel_rfl) (by kernel_rfl) (fun _ _ _ h => h) (Or.inl ⟨by rfl, ?_⟩) hHeld ?_
      rotate_left 1
      · (intro w hSw; go_simp; try with_reducible rfl)
      try simp only [Act.put, List.setIfInBounds_toArray, List.set_cons_zero, List.set_cons_succ]
      refine takeL 2 (v := ?_) rfl (by kernel_rfl) (by kernel_rfl) (by kernel_rfl) (fun _ _ _ h => h) (Or.inl ⟨by rfl, ?_⟩) hHeld ?_
      rotate_left 1
      · (intro w hSw; have c0 : w.cell? ⟨B + 1 + 1, 0, none⟩ = some (.slice av nv cv) := hSw; go_simp; try with_reducible rfl)
      try simp only [Act.put, List.setIfInBounds_toArray, List.set_cons_zero, List.set_cons_succ]
      refine stepL 3 (by kernel_rfl) rfl (fun K hK => ?_)
      go_simp
      refine (tag_any s (framed (prL :: pss)) _ _ W0 (tk_sec (B0.out.1.rows _ (.tail _ (.head _))) HS.out) B0.out.2.parts (by rw [HS.out]; omega) (by rw [framed_len]; have := HN.out; omega) HFl.out (HTab.out W0 B0.out.1.below).1 (HTab.out W0 B0.out.1.below).2).mono ?_
      rintro e W1 ⟨rfl, hb1⟩
      show K _ _
      have B1 := Bx.mk (And.intro (B0.out.1.later hb1) (B0.out.2.later hb1))
      clear hb1 B0
      refine hK.out _ _ B1.out.2.cell (fun hHeld => ?_)
      clear hK K
      try simp only [Act.put, List.setIfInBounds_toArray, List.set_cons_zero, List.set_cons_succ]
      refine stepL 4 (by kernel_rfl) rfl (fun K hK => ?_)
      change Bx ((prvK s pss).length = 32) at HML
      change Bx ((Tryd.prog.info? 37).map (·.size) = some (u8s (prvK s pss)).size) at HI
      refine step_st rfl 37 _ _ rfl (B + 1) (u8s (prvK s pss)) (by rfl) (by rfl) (there_row (B1.out.1.rows _ (.head _)) 0 _ (by rw [u8s_size, u8s_size, HML.out]; simp)) HI.out (one_u8s _) ?_
      have hr2 := heap_setCells_all (ds := u8s (prvK s pss)) (B1.out.1.rows _ (.head _)) (by rw [u8s_size, u8s_size, HML.out]; simp)
      have B2 := Bx.mk (And.intro (B1.out.1.set (kb_setCells _ _ _) hr2 (by omega) (by intro y hy; simp at hy; rcases hy with rfl; simp only; omega)) (show (W1.setCells (B + 1) 0 (u8s (prvK s pss)).toList).cell? ⟨B + 1 + 1, 0, none⟩ = some (.slice av nv cv) from by rw [← B1.out.2.cell]; exact cell_same (by rw [(kb_setCells (b := B + 1) _ _ _).block _ (Array.getElem?_eq_some_iff.1 B1.out.2.row).1 (by intro e; injection e; omega)])))
      clear hr2 B1
      refine hK.out _ _ B2.out.2 (fun hHeld => ?_)
      clear hK K
      try simp only [Act.put]
      generalize W1.setCells (B + 1) 0 (u8s (prvK s pss)).toList = W2 at *
      refine wpAnyH_done (by kernel_rfl) ?_ _
      refine NoPanic.normal ?_
      clear hHeld
      try go_wp2
      refine bodyPost_ret (results_cell_row rfl _ _ (B + 1) _ (u8s (prvK s pss)) _ _ rfl (B2.out.1.rows _ (.head _)) Tryd.underlying37 rfl HI.out) rfl ?_
      exact ⟨rfl, B2.out.1.below⟩
end Go.Proofs.YtiengbmnfbbgoaaDoor
namespace Go.Proofs.YtiengbmnfbbgoaaDoor
open Go Go.RowKit
theorem tk_rng {W : World} {g : Nat} {i r x q : Int} {t : TypeId} (h : W.heap[g]? = some (.cells #[.int .i64 i, .int .i64 r, .int .i64 x, .int .i64 q] t (0, 0))) : W.rangeAt g 0 [.int .i64 i, .int .i64 r, .int .i64 x, .int .i64 q] := by
  intro j v hj
  show W.cell? ⟨g, 0 + j, none⟩ = some v
  rw [cell_of_row _ _ _ _ _ _ h, Nat.zero_add, ← Array.getElem?_toList]
  exact hj
set_option maxRecDepth 100000 in
set_option maxHeartbeats 1000000 in
theorem proves_ok (bs : List UInt8) (c : Cl) (tg : List UInt8) (pss : List (List UInt8)) (v vt vp : Value) (w : World) (hv : IsKey w v bs) (ht : Bytes w vt tg) (hp : Parts w vp pss) (htl : tg.length ≤ 1000000) (hl : bs.length ≤ 1000000) (hn : pss.length ≤ 100) (hpl : ∀ p ∈ pss, p.length ≤ 10000) (hc : okC c = true) (hTab : Tab w) (hg : 0 < w.heap.size) :
    Calls Tryd.prog 17 #[v, clV c, vt, vp] w fun e w' => e = .returned (.int .i64 (if prvK (secK bs c) pss = tg then 0 else 5)) ∧ Below w.heap.size w w' := by
  obtain ⟨zc, hzc⟩ : ∃ zc, tkC c0 z32 = zc := ⟨_, rfl⟩
  have hzv : ∀ W : World, (zeroValue 39).run Tryd.prog W = .ok (.agg zc) W := fun W => by rw [← hzc]; exact tk_zero W
  have HZ := Bx.mk hzc
  obtain ⟨z1, hz1⟩ : ∃ z, u8s (List.replicate 32 0) = z := ⟨_, rfl⟩
  have hz1v : ∀ W : World, (zeroValue 37).run Tryd.prog W = .ok (.agg z1) W := fun W => by rw [← hz1, zero32]; kernel_rfl
  have HZ1 := Bx.mk hz1
  have HA := Bx.mk (And.intro ht (And.intro hp (And.intro htl (And.intro hn hpl))))
  have HTL : Bx (tg.length ≤ 140737488355328) := Bx.mk (by omega)
  have HTab : Bx (∀ W, Below w.heap.size w W → Tab W ∧ 0 < W.heap.size) := Bx.mk fun W hb => ⟨hTab.later hb hg, Nat.lt_of_lt_of_le hg hb.size⟩
  have HMk : Bx (∀ W, Below w.heap.size w W → Calls Tryd.prog 12 #[v, clV c] W fun e w' => e = .returned (.tuple #[tkV c (secK bs c), .int .i64 0]) ∧ Below W.heap.size W w') := Bx.mk fun W hb => mk_ok bs c v W (hv.later hb) hl hc (hTab.later hb hg) (Nat.lt_of_lt_of_le hg hb.size)
  have HS1 : Bx ((secK bs c).length = 32) := Bx.mk (secK_length _ _)
  generalize secK bs c = k1 at *
  have HP1 : Bx ((prvK k1 pss).length = 32) := Bx.mk (prvK_length _ _)
  have HPr : Bx (∀ W, Below w.heap.size w W → Calls Tryd.prog 24 #[tkV c k1, vp] W fun e w' => e = .returned (.agg (u8s (prvK k1 pss))) ∧ Below W.heap.size W w') := Bx.mk fun W hb => tprove_any c k1 pss vp W HS1.out (hp.later hb) hn hpl (hTab.later hb hg) (Nat.lt_of_lt_of_le hg hb.size)
  generalize prvK k1 pss = pv at *
  obtain ⟨dd, hdd⟩ : ∃ d, decide (pv = tg) = d := ⟨_, rfl⟩
  have HE : Bx ((if pv = tg then (0 : Int) else 5) = if dd = true then 0 else 5) := Bx.mk (by rw [← hdd]; simp)
  rw [HE.out]
  have HD := Bx.mk hdd
  obtain ⟨p, s0, rfl, -, -⟩ := hv
  obtain ⟨at_, ct, rfl, -⟩ := ht
  obtain ⟨ap, cp, rfl, -⟩ := hp
  obtain ⟨nt, hnt⟩ : ∃ n, tg.length = n := ⟨_, rfl⟩
  obtain ⟨np, hnp⟩ : ∃ n, pss.length = n := ⟨_, rfl⟩
  rw [hnt, hnp] at HA
  rw [hnp] at HPr
  rw [hnt, hnp]
  have HM1 : Bx ((Tryd.prog.info? 39).map (·.size) = some (tkC c k1).size ∧ (tkC c k1).all (·.oneCell') = true ∧ (tkC c k1).size = zc.size) := Bx.mk ⟨tk_info _ _ HS1.out, tkC_one _ _, by rw [← HZ.out, tkC_size _ _ HS1.out, tkC_size _ _ rfl]⟩
  have HI : Bx ((Tryd.prog.info? 37).map (·.size) = some (u8s pv).size) := Bx.mk (by rw [u8s_size, HP1.out]; kernel_rfl)
  have HZ2 : Bx ((u8s pv).size = z1.size) := Bx.mk (by rw [← HZ1.out, u8s_size, u8s_size, HP1.out]; rfl)
  clear hz1 hdd hzc hl hTab hg hc htl hn hpl hnt hnp HE
  obtain ⟨i, r, x, q⟩ := c
  unfold tkV at HMk HPr
  obtain ⟨kk, hkk⟩ : ∃ kk, tkC ⟨i, r, x, q⟩ k1 = kk := ⟨_, rfl⟩
  rw [hkk] at HMk HM1 HPr
  have HKK := Bx.mk hkk
  clear hkk
  unfold clV at HMk ⊢
  obtain ⟨B, hB⟩ : ∃ B, w.heap.size = B := ⟨_, rfl⟩
  have H0 := Bx.mk ((KS.start w B hB).new (.cells #[.int .i64 i, .int .i64 r, .int .i64 x, .int .i64 q] 36))
  have HB := Bx.mk hB
  rw [hB] at H0 HMk HPr HTab ⊢
  have HR := Bx.mk (tk_rng (H0.out.rows _ (.head _)))
  go_enter Tryd.func17, Tryd.ntmps17
  go_wp2_with (refine wpList_load_mid rfl 36 _ rfl B 0 (by rfl) [.int .i64 i, .int .i64 r, .int .i64 x, .int .i64 q] _ HR.out Tryd.underlying36 rfl (by kernel_rfl) ?_)
  generalize w.alloc (.cells #[.int .i64 i, .int .i64 r, .int .i64 x, .int .i64 q] 36) = w0 at *
  refine (HMk.out w0 H0.out.below).mono ?_
  rintro e w1 ⟨rfl, hb1⟩
  have H1 := Bx.mk (H0.out.later hb1)
  clear hb1 H0 HMk HR
  obtain ⟨D, hD⟩ : ∃ D, w1.heap.size = D := ⟨_, rfl⟩
  have HDB : Bx (B < D) := Bx.mk (by rw [← hD]; exact H1.out.lt (.head _))
  have H2 := Bx.mk (H1.out.new (.cells zc 39))
  rw [hD] at H2
  clear H1
  go_upto_region 4 with (refine wpList_store_new rfl 39 _ _ rfl D kk zc _ (by rfl) (by rfl) (H2.out.rows _ (.head _)) HM1.out.2.2 HM1.out.1 HM1.out.2.1 ?_; intro w3 hw8 hr8; have hg8 := Bx.mk (kb_of hw8); have HR8 := Bx.mk hr8; clear hw8 hr8)
  have B1 := Bx.mk (H2.out.set hg8.out HR8.out (by have := HDB.out; omega) (by intro y hy; have h1 := HDB.out; simp at hy; rcases hy with rfl; simp only; omega))
  clear H2 hg8 HR8 hD
  go_wp2_with (refine wpList_load_row rfl 39 _ rfl D (by rfl) _ _ _ _ (B1.out.rows _ (.head _)) Tryd.underlying39 rfl HM1.out.1 ?_)
  refine (HPr.out w3 B1.out.below).mono ?_
  rintro e w4 ⟨rfl, hb4⟩
  have B4 := Bx.mk (B1.out.later hb4)
  clear hb4 B1 HPr
  go_upto_region 5 with (refine wpList_store_var rfl 37 _ _ rfl w4 _ _ rfl (by rfl) (u8s pv) (by rfl) HZ2.out HI.out (one_u8s _) ?_; intro w5 hb5 hr5 hl5)
  have B5 := Bx.mk (And.intro (B4.out.later hb5) (row_bytes hr5 HP1.out))
  clear hb5 hr5 hl5 B4
  generalize w4.heap.size = D4 at *
  go_wp2_with fail
  refine (equal_any pv tg _ _ w5 B5.out.2 (HA.out.1.later (by rw [HB.out]; exact B5.out.1.below)) (by rw [HP1.out]; omega) HTL.out).mono ?_
  rintro e w6 ⟨rfl, n6, rfl⟩
  have HF := Bx.mk (B5.out.1.below.trans ((below_drewN (Below.refl _ _) n6).mono B5.out.1.le))
  clear B5
  rw [HD.out]
  rcases Bool.eq_false_or_eq_true dd with rfl | rfl
  · go_wp2
    go_ret
    exact ⟨rfl, HF.out⟩
  · go_wp2
    go_ret
    exact ⟨rfl, HF.out⟩
set_option maxRecDepth 100000 in
set_option maxHeartbeats 1000000 in
theorem proves_err (c : Cl) (r0 : Int) (ad : Option Addr) (vt vp : Value) (w : World) (hr : r0 = 1 ∨ r0 = 10) (hm : ∀ W, Calls Tryd.prog 12 #[.pointer ad, clV c] W fun e w' => e = .returned (.tuple #[tkV c0 z32, .int .i64 r0]) ∧ Below W.heap.size W w') :
    Calls Tryd.prog 17 #[.pointer ad, clV c, vt, vp] w fun e w' => e = .returned (.int .i64 r0) ∧ Below w.heap.size w w' := by
  obtain ⟨zc, hzc⟩ : ∃ zc, tkC c0 z32 = zc := ⟨_, rfl⟩
  have hzv : ∀ W : World, (zeroValue 39).run Tryd.prog W = .ok (.agg zc) W := fun W => by rw [← hzc]; exact tk_zero W
  have HZ := Bx.mk hzc
  have HMk := Bx.mk hm
  have hr0 : (r0 == 0) = false := by rcases hr with rfl | rfl <;> rfl
  have hr1 : (r0 != 0) = true := by rcases hr with rfl | rfl <;> rfl
  have hr2 : ¬ r0 = 0 := by rcases hr with rfl | rfl <;> decide
  have HM1 : Bx ((Tryd.prog.info? 39).map (·.size) = some zc.size ∧ zc.all (·.oneCell') = true) := Bx.mk (by rw [← HZ.out]; exact ⟨tk_info _ _ rfl, tkC_one _ _⟩)
  clear hzc hm hr
  obtain ⟨i, r, x, q⟩ := c
  unfold tkV at HMk
  rw [HZ.out] at HMk
  unfold clV at HMk ⊢
  obtain ⟨B, hB⟩ : ∃ B, w.heap.size = B := ⟨_, rfl⟩
  have H0 := Bx.mk ((KS.start w B hB).new (.cells #[.int .i64 i, .int .i64 r, .int .i64 x, .int .i64 q] 36))
  rw [hB] at H0 ⊢
  have HR := Bx.mk (tk_rng (H0.out.rows _ (.head _)))
  go_enter Tryd.func17, Tryd.ntmps17
  go_wp2_with (refine wpList_load_mid rfl 36 _ rfl B 0 (by rfl) [.int .i64 i, .int .i64 r, .int .i64 x, .int .i64 q] _ HR.out Tryd.underlying36 rfl (by kernel_rfl) ?_)
  generalize w.alloc (.cells #[.int .i64 i, .int .i64 r, .int .i64 x, .int .i64 q] 36) = w0 at *
  refine (HMk.out w0).mono ?_
  rintro e w1 ⟨rfl, hb1⟩
  have H1 := Bx.mk (H0.out.later hb1)
  clear hb1 H0 HMk HR
  obtain ⟨D, hD⟩ : ∃ D, w1.heap.size = D := ⟨_, rfl⟩
  have HDB : Bx (B < D) := Bx.mk (by rw [← hD]; exact H1.out.lt (.head _))
  have H2 := Bx.mk (H1.out.new (.cells zc 39))
  rw [hD] at H2
  clear H1
  go_wp2_with (refine wpList_store_new rfl 39 _ _ rfl D zc zc _ (by rfl) (by rfl) (H2.out.rows _ (.head _)) rfl HM1.out.1 HM1.out.2 ?_; intro w3 hw8 hr8; have hg8 := Bx.mk (kb_of hw8); have HR8 := Bx.mk hr8; clear hw8 hr8)
  have B1 := Bx.mk (H2.out.set hg8.out HR8.out (by have := HDB.out; omega) (by intro y hy; have h1 := HDB.out; simp at hy; rcases hy with rfl; simp only; omega))
  go_ret
  exact ⟨rfl, B1.out.below⟩
theorem proves_nil (c : Cl) (vt vp : Value) (w : World) : Calls Tryd.prog 17 #[.pointer none, clV c, vt, vp] w fun e w' => e = .returned (.int .i64 1) ∧ Below w.heap.size w w' :=
  proves_err c 1 none vt vp w (.inl rfl) (fun W => mk_nil c W)
theorem proves_bad (c : Cl) (p : Nat) (vt vp : Value) (w : World) (hc : okC c = false) : Calls Tryd.prog 17 #[.pointer (some ⟨p, 0, none⟩), clV c, vt, vp] w fun e w' => e = .returned (.int .i64 10) ∧ Below w.heap.size w w' :=
  proves_err c 10 (some ⟨p, 0, none⟩) vt vp w (.inr rfl) (fun W => mk_bad c p W hc)
end Go.Proofs.YtiengbmnfbbgoaaDoor
namespace Go.Proofs.YtiengbmnfbbgoaaDoor
open Go Go.RowKit
theorem yieldsIf_build {P : Program} {ops : Array Oper} {S : World → Prop} {o : Oper} {a : Act} (hw : Region.wanted o (yielded ops a.tmps) = true) (t : TypeId) (parts : Array (Nat × Operand)) (ho : o.op = .build t parts) (cells : Array Value)
    (hf : P.built t (parts.map fun (i, x) => (i, a.eval x)).toList = some cells) : YieldsIf P ops S o (.agg cells) a :=
  .inl ⟨hw, fun w _ => by
    unfold execOp
    simp only [ho, Sem.run_bind, run_build w t _ cells hf, Result.andThen_ok]
    rfl⟩
theorem built_tok32 (b0 b1 b2 b3 b4 b5 b6 b7 b8 b9 b10 b11 b12 b13 b14 b15 b16 b17 b18 b19 b20 b21 b22 b23 b24 b25 b26 b27 b28 b29 b30 b31 : UInt8) (i r x q : Int) : Tryd.prog.built 39 [(0, clV ⟨i, r, x, q⟩), (1, .agg (u8s [b0, b1, b2, b3, b4, b5, b6, b7, b8, b9, b10, b11, b12, b13, b14, b15, b16, b17, b18, b19, b20, b21, b22, b23, b24, b25, b26, b27, b28, b29, b30, b31]))] = some (tkC ⟨i, r, x, q⟩ [b0, b1, b2, b3, b4, b5, b6, b7, b8, b9, b10, b11, b12, b13, b14, b15, b16, b17, b18, b19, b20, b21, b22, b23, b24, b25, b26, b27, b28, b29, b30, b31]) := by kernel_rfl
theorem built_tok (c : Cl) (s : List UInt8) (h : s.length = 32) : Tryd.prog.built 39 [(0, clV c), (1, .agg (u8s s))] = some (tkC c s) := by
  obtain ⟨i, r, x, q⟩ := c
  match s, h with
  | [b0, b1, b2, b3, b4, b5, b6, b7, b8, b9, b10, b11, b12, b13, b14, b15, b16, b17, b18, b19, b20, b21, b22, b23, b24, b25, b26, b27, b28, b29, b30, b31], _ => exact built_tok32 b0 b1 b2 b3 b4 b5 b6 b7 b8 b9 b10 b11 b12 b13 b14 b15 b16 b17 b18 b19 b20 b21 b22 b23 b24 b25 b26 b27 b28 b29 b30 b31 i r x q
/-- A token out of bytes that are none. -/
def TNone (r : Int) (w : World) (e : Ending) (w' : World) : Prop := e = .returned (.tuple #[tkV c0 z32, .int .i64 r]) ∧ Below w.heap.size w w'
set_option maxRecDepth 100000 in
theorem tparse_len (bs : List UInt8) (v : Value) (w : World) (hv : Bytes w v bs) (hl : bs.length ≤ 1000000) (hne : bs.length ≠ 41) :
    Calls Tryd.prog 20 #[v] w (TNone (if bs.length < 41 then 4 else 3) w) := by
  obtain ⟨zc, hzc⟩ : ∃ zc, tkC c0 z32 = zc := ⟨_, rfl⟩
  have hzv : ∀ W : World, (zeroValue 39).run Tryd.prog W = .ok (.agg zc) W := fun W => by rw [← hzc]; exact tk_zero W
  have hbz : Tryd.prog.built 39 [] = some zc := by rw [← hzc]; exact tk_none
  have HM1 : Bx ((Tryd.prog.info? 39).map (·.size) = some zc.size ∧ zc.all (·.oneCell') = true) := Bx.mk (by rw [← hzc]; exact ⟨tk_info _ _ rfl, tkC_one _ _⟩)
  have HZ := Bx.mk hzc
  obtain ⟨a, cap, rfl, -⟩ := hv
  obtain ⟨n, hn⟩ : ∃ n, bs.length = n := ⟨_, rfl⟩
  rw [hn] at hl hne ⊢
  clear hn hzc
  unfold TNone tkV
  rw [HZ.out]
  obtain ⟨B, hB⟩ : ∃ B, w.heap.size = B := ⟨_, rfl⟩
  have H0 := Bx.mk ((KS.start w B hB).new (.cells zc 39))
  rw [hB]
  by_cases hlt : n < 41
  · have h1 : (n : Int) < 41 := by omega
    rw [if_pos hlt]
    go_enter Tryd.func20, Tryd.ntmps20
    go_wp2_with (first | (refine wpList_buildTo rfl 39 _ rfl _ rfl zc hbz ?_) | (refine wpList_store_new rfl 39 _ _ rfl B zc zc _ (by rfl) (by rfl) (by rw [← hB]; exact H0.out.rows _ (.head _)) rfl HM1.out.1 HM1.out.2 ?_; intro w8 hw8 hr8; have hg8 := Bx.mk (kb_of hw8); have HR8 := Bx.mk hr8; clear hw8 hr8))
    refine bodyPost_ret (results_pair rfl _ _ _ B _ rfl (run_loadVar_row _ B _ _ _ _ _ HR8.out Tryd.underlying39 rfl HM1.out.1)) rfl ?_
    exact ⟨rfl, H0.out.below.trans (grown_below hg8.out (by omega) H0.out.le)⟩
  · have h1 : ¬ ((n : Int) < 41) := by omega
    have h2 : (41 : Int) < (n : Int) := by omega
    rw [if_neg hlt]
    go_enter Tryd.func20, Tryd.ntmps20
    go_wp2_with (first | (refine wpList_buildTo rfl 39 _ rfl _ rfl zc hbz ?_) | (refine wpList_store_new rfl 39 _ _ rfl B zc zc _ (by rfl) (by rfl) (by rw [← hB]; exact H0.out.rows _ (.head _)) rfl HM1.out.1 HM1.out.2 ?_; intro w8 hw8 hr8; have hg8 := Bx.mk (kb_of hw8); have HR8 := Bx.mk hr8; clear hw8 hr8))
    refine bodyPost_ret (results_pair rfl _ _ _ B _ rfl (run_loadVar_row _ B _ _ _ _ _ HR8.out Tryd.underlying39 rfl HM1.out.1)) rfl ?_
    exact ⟨rfl, H0.out.below.trans (grown_below hg8.out (by omega) H0.out.le)⟩
set_option maxRecDepth 100000 in
set_option maxHeartbeats 1000000 in
theorem tparse_bad (bs : List UInt8) (v : Value) (w : World) (hv : Bytes w v bs) (hl : bs.length = 41) (hc : psE (bs.take 9) = 3) :
    Calls Tryd.prog 20 #[v] w (TNone 3 w) := by
  obtain ⟨zc, hzc⟩ : ∃ zc, tkC c0 z32 = zc := ⟨_, rfl⟩
  have hzv : ∀ W : World, (zeroValue 39).run Tryd.prog W = .ok (.agg zc) W := fun W => by rw [← hzc]; exact tk_zero W
  have hbz : Tryd.prog.built 39 [] = some zc := by rw [← hzc]; exact tk_none
  have HM1 : Bx ((Tryd.prog.info? 39).map (·.size) = some zc.size ∧ zc.all (·.oneCell') = true) := Bx.mk (by rw [← hzc]; exact ⟨tk_info _ _ rfl, tkC_one _ _⟩)
  have HZ := Bx.mk hzc
  have HV := Bx.mk hv
  have HC := Bx.mk hc
  obtain ⟨a, cap, rfl, hcap, hnil, hrow⟩ := hv
  rw [hl] at HV hcap ⊢
  have hsl : ∀ W, (Instr.slice 22 (.slice a 41 cap) none (some (.int .i64 9)) none).run Tryd.prog W = .ok (.slice a 9 cap) W := fun W => cut_bytes a 41 cap 9 (by omega) hcap hnil W
  have HT := Bx.mk (HV.out.take 9 (by omega))
  have HTl : Bx ((bs.take 9).length = 9) := Bx.mk (by rw [List.length_take]; omega)
  have HD : Bx ((bs.drop 9).length = 32) := Bx.mk (by rw [List.length_drop]; omega)
  have HPC := Bx.mk (fun (W : World) (h : Bytes W (.slice a 9 cap) (bs.take 9)) => parse_any (bs.take 9) _ W h (by rw [HTl.out]; omega))
  clear hrow hnil hcap hzc hl hc
  generalize bs.take 9 = hd at *
  rw [HC.out] at HPC
  obtain ⟨B, hB⟩ : ∃ B, w.heap.size = B := ⟨_, rfl⟩
  have H0 := Bx.mk (And.intro ((KS.start w B hB).new (.cells zc 39)) (HT.out.later (below_a (.cells zc 39))))
  unfold TNone tkV
  rw [HZ.out]
  rw [hB] at H0 ⊢
  have HB := Bx.mk hB
  generalize bs.drop 9 = tl at *
  generalize psC hd = c at *
  obtain ⟨i, r, x, q⟩ := c
  unfold clV at HPC
  go_enter Tryd.func20, Tryd.ntmps20
  go_wp2_with fail
  generalize w.alloc (.cells zc 39) = w0 at *
  refine (HPC.out w0 H0.out.2).mono ?_
  rintro e w1 ⟨rfl, hb1⟩
  have H1 := Bx.mk (H0.out.1.later hb1)
  clear hb1 H0 HPC
  obtain ⟨D, hD⟩ : ∃ D, w1.heap.size = D := ⟨_, rfl⟩
  have HDB : Bx (B < D) := Bx.mk (by rw [← hD]; exact H1.out.lt (.head _))
  have H2 := Bx.mk (H1.out.new (.cells #[.int .i64 i, .int .i64 r, .int .i64 x, .int .i64 q] 36))
  rw [hD] at H2
  clear H1
  go_upto_region 7 with fail
  generalize w1.alloc (.cells #[.int .i64 i, .int .i64 r, .int .i64 x, .int .i64 q] 36) = w3 at *
  have B0 := H2
  clear H2 hD
  go_wp2_with (first | (refine wpList_buildTo rfl 39 _ rfl _ rfl zc hbz ?_) | (refine wpList_store_new rfl 39 _ _ rfl B zc zc _ (by rfl) (by rfl) (B0.out.rows _ (.tail _ (.head _))) rfl HM1.out.1 HM1.out.2 ?_; intro w8 hw8 hr8; have hg8 := Bx.mk (kb_of hw8); have HR8 := Bx.mk hr8; clear hw8 hr8))
  refine bodyPost_ret (results_pair rfl _ _ _ B _ rfl (run_loadVar_row _ B _ _ _ _ _ HR8.out Tryd.underlying39 rfl HM1.out.1)) rfl ?_
  exact ⟨rfl, B0.out.below.trans (grown_below hg8.out (by omega) B0.out.le)⟩
set_option maxRecDepth 100000 in
set_option maxHeartbeats 1000000 in
theorem tparse_ok (bs : List UInt8) (v : Value) (w : World) (hv : Bytes w v bs) (hl : bs.length = 41) (hc : psE (bs.take 9) = 0) :
    Calls Tryd.prog 20 #[v] w (fun e w' => e = .returned (.tuple #[tkV (psC (bs.take 9)) (bs.drop 9), .int .i64 0]) ∧ Below w.heap.size w w') := by
  obtain ⟨zc, hzc⟩ : ∃ zc, tkC c0 z32 = zc := ⟨_, rfl⟩
  have hzv : ∀ W : World, (zeroValue 39).run Tryd.prog W = .ok (.agg zc) W := fun W => by rw [← hzc]; exact tk_zero W
  have hbz : Tryd.prog.built 39 [] = some zc := by rw [← hzc]; exact tk_none
  have HM1 : Bx ((Tryd.prog.info? 39).map (·.size) = some zc.size ∧ zc.all (·.oneCell') = true) := Bx.mk (by rw [← hzc]; exact ⟨tk_info _ _ rfl, tkC_one _ _⟩)
  have HZ := Bx.mk hzc
  have HV := Bx.mk hv
  have HC := Bx.mk hc
  obtain ⟨a, cap, rfl, hcap, hnil, hrow⟩ := hv
  rw [hl] at HV hcap ⊢
  have hsl : ∀ W, (Instr.slice 22 (.slice a 41 cap) none (some (.int .i64 9)) none).run Tryd.prog W = .ok (.slice a 9 cap) W := fun W => cut_bytes a 41 cap 9 (by omega) hcap hnil W
  have HT := Bx.mk (HV.out.take 9 (by omega))
  have HTl : Bx ((bs.take 9).length = 9) := Bx.mk (by rw [List.length_take]; omega)
  have HD : Bx ((bs.drop 9).length = 32) := Bx.mk (by rw [List.length_drop]; omega)
  obtain ⟨p, o, rfl, hcell⟩ := hrow (by omega)
  have hsr : ∀ W, (Instr.slice 22 (.slice (some ⟨p, o, none⟩) 41 cap) (some (.int .i64 9)) none none).run Tryd.prog W = .ok (.slice (some ⟨p, o + 9, none⟩) 32 (cap - 9)) W := fun W => by
    have h := cutB (some ⟨p, o, none⟩) 41 cap 9 (by omega) hcap W
    rw [if_neg (by omega)] at h
    exact h
  have HRw : Bx (w.rangeAt p (o + 9) (u8s (bs.drop 9)).toList) := Bx.mk (fun j v hj => by
    rw [Array.getElem?_toList] at hj
    have hj' : j < (bs.drop 9).length := by have := (Array.getElem?_eq_some_iff.1 hj).1; rw [u8s_size] at this; exact this
    rw [u8s_get _ _ hj'] at hj
    rw [← hj]
    have h2 := hcell (9 + j) (by rw [List.length_drop] at hj'; omega)
    show w.cell? ⟨p, o + 9 + j, none⟩ = _
    rw [Nat.add_assoc, h2]
    simp [List.getD_eq_getElem?_getD])
  have HpB : Bx (p < w.heap.size) := Bx.mk (World.block_lt_of_cell? _ _ (hcell 0 (by omega)))
  have HPC := Bx.mk (fun (W : World) (h : Bytes W (.slice (some ⟨p, o, none⟩) 9 cap) (bs.take 9)) => parse_any (bs.take 9) _ W h (by rw [HTl.out]; omega))
  clear hcell
  clear hrow hnil hcap hzc hl hc
  generalize bs.take 9 = hd at *
  rw [HC.out] at HPC
  obtain ⟨B, hB⟩ : ∃ B, w.heap.size = B := ⟨_, rfl⟩
  have H0 := Bx.mk (And.intro ((KS.start w B hB).new (.cells zc 39)) (HT.out.later (below_a (.cells zc 39))))
  rw [hB] at H0 ⊢
  rw [hB] at HpB
  have HR0 : Bx ((w.alloc (.cells zc 39)).rangeAt p (o + 9) (u8s (bs.drop 9)).toList) := Bx.mk (range_later HRw.out (below_a _) (by rw [hB]; exact HpB.out))
  clear HRw
  have HB := Bx.mk hB
  generalize bs.drop 9 = tl at *
  generalize psC hd = c at *
  obtain ⟨i, r, x, q⟩ := c
  unfold clV at HPC
  have hbt := built_tok ⟨i, r, x, q⟩ tl HD.out
  unfold clV at hbt
  simp only at hbt
  have HI : Bx ((Tryd.prog.info? 37).map (·.size) = some (u8s tl).toList.length) := Bx.mk (by rw [Array.length_toList, u8s_size, HD.out]; kernel_rfl)
  have HI2 : Bx ((Tryd.prog.info? 39).map (·.size) = some (tkC ⟨i, r, x, q⟩ tl).size ∧ (tkC ⟨i, r, x, q⟩ tl).all (·.oneCell') = true ∧ (tkC ⟨i, r, x, q⟩ tl).size = zc.size) := Bx.mk ⟨tk_info _ _ HD.out, tkC_one _ _, by rw [← HZ.out, tkC_size _ _ HD.out, tkC_size _ _ rfl]⟩
  obtain ⟨tk, htk⟩ : ∃ tk, tkC ⟨i, r, x, q⟩ tl = tk := ⟨_, rfl⟩
  unfold tkV
  rw [htk] at hbt HI2 ⊢
  clear htk
  obtain ⟨rw0, hrw⟩ : ∃ rw, (u8s tl).toList = rw := ⟨_, rfl⟩
  rw [hrw] at HR0 HI
  have hrt : u8s tl = rw0.toArray := by rw [← hrw]
  rw [hrt] at hbt
  clear hrw hrt
  go_enter Tryd.func20, Tryd.ntmps20
  go_wp2_with fail
  generalize w.alloc (.cells zc 39) = w0 at *
  refine (HPC.out w0 H0.out.2).mono ?_
  rintro e w1 ⟨rfl, hb1⟩
  have H1 := Bx.mk (And.intro (H0.out.1.later hb1) (range_later HR0.out hb1 (Nat.lt_of_lt_of_le HpB.out H0.out.1.le)))
  clear hb1 H0 HR0 HPC
  obtain ⟨D, hD⟩ : ∃ D, w1.heap.size = D := ⟨_, rfl⟩
  have HDB : Bx (B < D) := Bx.mk (by rw [← hD]; exact H1.out.1.lt (.head _))
  have H2 := Bx.mk (And.intro (H1.out.1.new (.cells #[.int .i64 i, .int .i64 r, .int .i64 x, .int .i64 q] 36)) (range_later H1.out.2 (below_a (.cells #[.int .i64 i, .int .i64 r, .int .i64 x, .int .i64 q] 36)) (Nat.lt_of_lt_of_le HpB.out H1.out.1.le)))
  rw [hD] at H2
  clear H1
  go_upto_region 8 with fail
  generalize w1.alloc (.cells #[.int .i64 i, .int .i64 r, .int .i64 x, .int .i64 q] 36) = w3 at *
  have B0 := Bx.mk (And.intro H2.out.1.drew (range_grown H2.out.2 (kb_drewN (some D) _ 1) (by have h1 := HDB.out; have h2 := HpB.out; omega)))
  change Bx (_ ∧ w3.drew.rangeAt p (o + 9) rw0) at B0
  have HR2 := Bx.mk (tk_rng (B0.out.1.rows _ (.head _)))
  clear H2 hD
  have hsp : ∀ W, (Instr.arrayAt 37 (.slice (some ⟨p, o + 9, none⟩) 32 (cap - 9))).run Tryd.prog W = .ok (.pointer (some ⟨p, o + 9, none⟩)) W := fun W => by kernel_rfl
  refine wp_region_noPanic ?_
  refine wp_region_held_drew (S := fun W => W.rangeAt D 0 [.int .i64 i, .int .i64 r, .int .i64 x, .int .i64 q] ∧ W.rangeAt p (o + 9) rw0) (by kernel_rfl) (⟨HR2.out, B0.out.2⟩) (fun hHeld => ?_)
  generalize w3.drew = W0 at *
  refine takeL 0 rfl (by kernel_rfl) (by kernel_rfl) (by kernel_rfl) (fun _ _ _ h => h) (yieldsIf_load_mid (by rfl) _ _ rfl _ _ rfl _ _ (fun w hSw => hSw.1) Tryd.underlying36 rfl (by kernel_rfl)) hHeld ?_
  try simp only [Act.put, List.setIfInBounds_toArray, List.set_cons_zero, List.set_cons_succ]
  refine takeL 1 (v := ?_) rfl (by kernel_rfl) (by kernel_rfl) (by kernel_rfl) (fun _ _ _ h => h) (Or.inl ⟨by rfl, ?_⟩) hHeld ?_
  rotate_left 1
  · (intro w hSw; go_simp; try with_reducible rfl)
  try simp only [Act.put, List.setIfInBounds_toArray, List.set_cons_zero, List.set_cons_succ]
  refine takeL 2 (v := ?_) rfl (by kernel_rfl) (by kernel_rfl) (by kernel_rfl) (fun _ _ _ h => h) (Or.inl ⟨by rfl, ?_⟩) hHeld ?_
  rotate_left 1
  · (intro w hSw; go_simp; try with_reducible rfl)
  try simp only [Act.put, List.setIfInBounds_toArray, List.set_cons_zero, List.set_cons_succ]
  refine takeL 3 (v := ?_) rfl (by kernel_rfl) (by kernel_rfl) (by kernel_rfl) (fun _ _ _ h => h) (Or.inl ⟨by rfl, ?_⟩) hHeld ?_
  rotate_left 1
  · (intro w hSw; go_simp; try with_reducible rfl)
  try simp only [Act.put, List.setIfInBounds_toArray, List.set_cons_zero, List.set_cons_succ]
  refine takeL 4 rfl (by kernel_rfl) (by kernel_rfl) (by kernel_rfl) (fun _ _ _ h => h) (yieldsIf_load_mid (by rfl) _ _ rfl _ _ rfl _ _ (fun w hSw => hSw.2) Tryd.underlying37 rfl HI.out) hHeld ?_
  try simp only [Act.put, List.setIfInBounds_toArray, List.set_cons_zero, List.set_cons_succ]
  refine takeL 5 rfl (by kernel_rfl) (by kernel_rfl) (by kernel_rfl) (fun _ _ _ h => h) (yieldsIf_build (by rfl) 39 _ rfl tk (by simp only [List.map_toArray, List.map_cons, List.map_nil]; exact hbt)) hHeld ?_
  try simp only [Act.put, List.setIfInBounds_toArray, List.set_cons_zero, List.set_cons_succ]
  refine stepL 6 (by kernel_rfl) rfl (fun K hK => ?_)
  refine step_st rfl 39 _ _ rfl B tk (by rfl) (by rfl) (there_row (B0.out.1.rows _ (.tail _ (.head _))) 0 _ (by rw [HI2.out.2.2]; omega)) HI2.out.1 HI2.out.2.1 ?_
  have hr2 := heap_setCells_all (ds := tk) (B0.out.1.rows _ (.tail _ (.head _))) HI2.out.2.2
  have B1 : Bx (KS w B [(B, .cells tk 39), (D, .cells #[.int .i64 i, .int .i64 r, .int .i64 x, .int .i64 q] 36)] (W0.setCells B 0 tk.toList) ∧ (W0.setCells B 0 tk.toList).rangeAt D 0 [.int .i64 i, .int .i64 r, .int .i64 x, .int .i64 q] ∧ (W0.setCells B 0 tk.toList).rangeAt p (o + 9) rw0) := Bx.mk (And.intro (B0.out.1.swap.set (kb_setCells _ _ _) hr2 (by omega) (by intro y hy; have h1 := HDB.out; simp at hy; rcases hy with rfl; simp only; omega)) (And.intro (range_grown HR2.out (kb_setCells (b := B) tk.toList 0 W0) (by have h1 := HDB.out; omega)) (range_grown B0.out.2 (kb_setCells (b := B) tk.toList 0 W0) (by have h1 := HpB.out; omega))))
  clear hr2 B0 HR2
  refine hK.out _ _ B1.out.2 (fun hHeld => ?_)
  clear hK K
  try simp only [Act.put]
  refine takeL 7 (v := ?_) rfl (by kernel_rfl) (by kernel_rfl) (by kernel_rfl) (fun _ _ _ h => h) (Or.inl ⟨by rfl, ?_⟩) hHeld ?_
  rotate_left 1
  · (intro w hSw; go_simp; try with_reducible rfl)
  try simp only [Act.put, List.setIfInBounds_toArray, List.set_cons_zero, List.set_cons_succ]
  refine wpAnyH_done (by kernel_rfl) ?_ _
  refine NoPanic.normal ?_
  clear hHeld
  try go_wp2
  refine bodyPost_ret (results_pair rfl _ _ _ B _ rfl (run_loadVar_row _ B _ _ _ _ _ (B1.out.1.rows _ (.head _)) Tryd.underlying39 rfl HI2.out.1)) rfl ?_
  exact ⟨rfl, B1.out.1.below⟩
end Go.Proofs.YtiengbmnfbbgoaaDoor
