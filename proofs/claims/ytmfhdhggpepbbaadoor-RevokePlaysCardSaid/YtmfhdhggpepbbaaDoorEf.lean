/-
  Revocations: a set, its logs, its versions.
-/
import Derived.Test.YtmfhdhggpepbbaaDoorEe
namespace Go.Proofs.YtmfhdhggpepbbaaDoor
open Go Go.RowKit
/-- Four logs, and the slices that hold them. -/
structure L4 where
  a : List Int
  b : List Int
  c : List Int
  d : List Int
deriving DecidableEq
structure VV where
  a : Value
  b : Value
  c : Value
  d : Value
def L4.nil : L4 := ⟨[], [], [], []⟩
def L4.ver (l : L4) : V4 := ⟨(l.a.length : Int), (l.b.length : Int), (l.c.length : Int), (l.d.length : Int)⟩
def VV.v (x : VV) : Value := .agg #[x.a, x.b, x.c, x.d]
def VV.nil : VV := ⟨.slice none 0 0, .slice none 0 0, .slice none 0 0, .slice none 0 0⟩
structure Rows4 (W : World) (x : VV) (l : L4) : Prop where
  a : IsL W x.a l.a
  b : IsL W x.b l.b
  c : IsL W x.c l.c
  d : IsL W x.d l.d
theorem Rows4.nil (W : World) : Rows4 W VV.nil L4.nil := ⟨IsL.nil _, IsL.nil _, IsL.nil _, IsL.nil _⟩
theorem Rows4.later {W W1 : World} {x : VV} {l : L4} (h : Rows4 W x l) (hb : Below W.heap.size W W1) : Rows4 W1 x l := ⟨h.a.later hb, h.b.later hb, h.c.later hb, h.d.later hb⟩
/-- Logs as they may be. -/
structure Good (l : L4) : Prop where
  s : ∀ x, x ∈ l.a ∨ x ∈ l.b ∨ x ∈ l.c ∨ x ∈ l.d → okS x = true
  a : l.a.length ≤ 256
  b : l.b.length ≤ 256
  c : l.c.length ≤ 256
  d : l.d.length ≤ 256
theorem Good.nil : Good L4.nil := ⟨fun x h => by simp [L4.nil] at h, by simp [L4.nil], by simp [L4.nil], by simp [L4.nil], by simp [L4.nil]⟩
/-- A set in its block. -/
def SetAt (W : World) (p : Nat) (l : L4) : Prop := ∃ x : VV, W.heap[p]? = some (.cells #[x.a, x.b, x.c, x.d] 84 (0, 0)) ∧ Rows4 W x l
theorem SetAt.lt {W : World} {p : Nat} {l : L4} (h : SetAt W p l) : p < W.heap.size := by
  obtain ⟨x, h, _⟩ := h
  exact (Array.getElem?_eq_some_iff.1 h).1
theorem SetAt.later {W W1 : World} {p : Nat} {l : L4} (h : SetAt W p l) (hb : Below W.heap.size W W1) : SetAt W1 p l := by
  obtain ⟨x, h1, h2⟩ := h
  exact ⟨x, by rw [hb.block p (Array.getElem?_eq_some_iff.1 h1).1]; exact h1, h2.later hb⟩
theorem set_int : (84 : TypeId) ≠ 3 := by decide
/-- Rows stay where a set changes. -/
theorem IsL.beside {W W1 : World} {p : Nat} {m : L4} {v : Value} {l : List Int} (h : IsL W v l) (hs : SetAt W p m) (hg : W.grownBy W1 (some p)) : IsL W1 v l := by
  obtain ⟨x, h1, h2⟩ := hs
  exact h.grown hg h1 set_int
theorem Rows4.beside {W W1 : World} {p : Nat} {m l : L4} {x : VV} (h : Rows4 W x l) (hs : SetAt W p m) (hg : W.grownBy W1 (some p)) : Rows4 W1 x l := ⟨h.a.beside hs hg, h.b.beside hs hg, h.c.beside hs hg, h.d.beside hs hg⟩
theorem SetAt.beside {W W1 : World} {p q : Nat} {m l : L4} (h : SetAt W q l) (hs : SetAt W p m) (hg : W.grownBy W1 (some p)) (hne : q ≠ p) : SetAt W1 q l := by
  obtain ⟨x, h1, h2⟩ := id h
  exact ⟨x, by rw [hg.block q h.lt (fun e => by injection e with e; exact hne e)]; exact h1, h2.beside hs hg⟩
/-- A set, or none. -/
def SetV (W : World) (v : Value) (l : L4) : Prop := (v = .pointer none ∧ l = L4.nil) ∨ ∃ p, v = .pointer (some ⟨p, 0, none⟩) ∧ SetAt W p l
theorem SetV.later {W W1 : World} {v : Value} {l : L4} (h : SetV W v l) (hb : Below W.heap.size W W1) : SetV W1 v l := by
  rcases h with h | ⟨p, hv, hs⟩
  · exact .inl h
  · exact .inr ⟨p, hv, hs.later hb⟩
theorem zero_set (W : World) : (zeroValue 84).run Tryd.prog W = .ok (.agg #[.slice none 0 0, .slice none 0 0, .slice none 0 0, .slice none 0 0]) W := by kernel_rfl
theorem set_new (W : World) : SetAt (W.alloc (.cells #[.slice none 0 0, .slice none 0 0, .slice none 0 0, .slice none 0 0] 84)) W.heap.size L4.nil := ⟨VV.nil, hnew _ _ _ rfl, Rows4.nil _⟩
theorem new_any8 (w : World) : Calls Tryd.prog 9 #[] w fun e w' => e = .returned (.pointer (some ⟨w.heap.size, 0, none⟩)) ∧ SetAt w' w.heap.size L4.nil ∧ Below w.heap.size w w' ∧ w'.heap.size = w.heap.size + 1 := by
  have HS := Bx.mk (set_new w)
  go_enter Tryd.func9, Tryd.ntmps9
  go_wp2
  go_ret
  exact ⟨rfl, HS.out, below_a _, by simp⟩
theorem alloc_size8 (w : World) (o : Obj) : (w.alloc o).heap.size = w.heap.size + 1 := by simp
theorem isL_one {W : World} {v : Value} {l : List Int} (h : IsL W v l) : v.oneCell' = true := by
  obtain ⟨a, cap, rfl⟩ := h.form
  rfl
theorem Rows4.one {W : World} {x : VV} {l : L4} (h : Rows4 W x l) : (#[x.a, x.b, x.c, x.d] : Array Value).all (·.oneCell') = true := by
  simp [isL_one h.a, isL_one h.b, isL_one h.c, isL_one h.d]
/-- The logs' array, stored over one in a block. -/
theorem own_end {w W : World} {E : Nat} {x : VV} {l : L4} {cs : Array Value} (hE : w.heap.size ≤ E) (h : Rows4 W x l) (hb : Below w.heap.size w W) (hr : W.heap[E]? = some (.cells cs 27 (0, 0))) (_ : cs.size = 4) :
    ∀ w', w' = W.setCells E 0 [x.a, x.b, x.c, x.d] → Rows4 w' x l ∧ Below w.heap.size w w' := by
  rintro w' rfl
  have hg : W.grownBy (W.setCells E 0 [x.a, x.b, x.c, x.d]) (some E) := kb_setCells _ _ _
  have hne : (27 : TypeId) ≠ 3 := by decide
  exact ⟨⟨h.a.grown hg hr hne, h.b.grown hg hr hne, h.c.grown hg hr hne, h.d.grown hg hr hne⟩, below_setCells hE _ _ _ _ hb⟩
set_option maxRecDepth 100000 in
theorem own_any8 (v : Value) (l : L4) (w : World) (hv : SetV w v l) : Calls Tryd.prog 51 #[v] w fun e w' => ∃ x : VV, e = .returned x.v ∧ Rows4 w' x l ∧ Below w.heap.size w w' := by
  rcases hv with ⟨rfl, rfl⟩ | ⟨p, rfl, x, hp, hx⟩
  · have H0 : Bx (∀ w1, Below (w.heap.size + 1) (w.alloc (.cells #[.slice none 0 0, .slice none 0 0, .slice none 0 0, .slice none 0 0] 27)) w1 → w1.heap[w.heap.size]? = some (.cells #[.slice none 0 0, .slice none 0 0, .slice none 0 0, .slice none 0 0] 27 (0, 0)) ∧ Below w.heap.size w w1) := Bx.mk (fun w1 hb => ⟨by rw [hb.block _ (by omega)]; exact hnew _ _ _ rfl, (below_a _).trans (hb.mono (by omega))⟩)
    have HN := Bx.mk (new_any8 (w.alloc (.cells #[.slice none 0 0, .slice none 0 0, .slice none 0 0, .slice none 0 0] 27)))
    go_enter Tryd.func51, Tryd.ntmps51
    go_wp2_with fail
    refine HN.out.mono ?_
    rintro e w1 ⟨rfl, hs, hb, -⟩
    rw [alloc_size8] at *
    obtain ⟨r1, r2⟩ := H0.out w1 hb
    obtain ⟨x, h1, h2⟩ := hs
    have HH := Bx.mk h1
    have HF := Bx.mk (own_end (Nat.le_refl _) h2 r2 r1 rfl)
    have HO := Bx.mk h2.one
    have HR := Bx.mk r1
    clear hb r1 r2 h1 h2 H0 HN
    go_wp2_with (first | (refine wpList_load_row rfl 27 _ rfl (w.heap.size + 1) (by rfl) _ _ _ _ HH.out Tryd.underlying27 rfl (by kernel_rfl) ?_) | (refine wpList_store_new rfl 27 _ _ rfl w.heap.size #[x.a, x.b, x.c, x.d] _ _ (by rfl) (by rfl) HR.out rfl (by kernel_rfl) HO.out ?_; intro w2 hw2 hr2; have HG := Bx.mk (HF.out w2 hw2); have HR2 := Bx.mk hr2; clear hw2 hr2 HF HR HO HH))
    refine bodyPost_ret (results_cell_row rfl _ _ w.heap.size _ _ _ _ rfl HR2.out Tryd.underlying27 rfl (by kernel_rfl)) rfl ?_
    exact ⟨x, rfl, HG.out.1, HG.out.2⟩
  · have hb1 : Below w.heap.size w (w.alloc (.cells #[.slice none 0 0, .slice none 0 0, .slice none 0 0, .slice none 0 0] 27)) := below_a _
    have HH : Bx ((w.alloc (.cells #[.slice none 0 0, .slice none 0 0, .slice none 0 0, .slice none 0 0] 27)).heap[p]? = some (.cells #[x.a, x.b, x.c, x.d] 84 (0, 0))) := ⟨(hold _ _ _ (Array.getElem?_eq_some_iff.1 hp).1).trans hp⟩
    have HR : Bx ((w.alloc (.cells #[.slice none 0 0, .slice none 0 0, .slice none 0 0, .slice none 0 0] 27)).heap[w.heap.size]? = some (.cells #[.slice none 0 0, .slice none 0 0, .slice none 0 0, .slice none 0 0] 27 (0, 0))) := ⟨hnew _ _ _ rfl⟩
    have HF := Bx.mk (own_end (Nat.le_refl _) (hx.later hb1) hb1 HR.out rfl)
    have HO := Bx.mk hx.one
    clear hp hx hb1
    go_enter Tryd.func51, Tryd.ntmps51
    go_wp2_with (first | (refine wpList_load_row rfl 27 _ rfl p (by rfl) _ _ _ _ HH.out Tryd.underlying27 rfl (by kernel_rfl) ?_) | (refine wpList_store_new rfl 27 _ _ rfl w.heap.size #[x.a, x.b, x.c, x.d] _ _ (by rfl) (by rfl) HR.out rfl (by kernel_rfl) HO.out ?_; intro w2 hw2 hr2; have HG := Bx.mk (HF.out w2 hw2); have HR2 := Bx.mk hr2; clear hw2 hr2 HF HR HO HH))
    refine bodyPost_ret (results_cell_row rfl _ _ w.heap.size _ _ _ _ rfl HR2.out Tryd.underlying27 rfl (by kernel_rfl)) rfl ?_
    exact ⟨x, rfl, HG.out.1, HG.out.2⟩
end Go.Proofs.YtmfhdhggpepbbaaDoor
