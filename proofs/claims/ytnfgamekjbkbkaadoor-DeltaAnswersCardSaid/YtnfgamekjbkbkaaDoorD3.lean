/-
  Delta: a delta's size, errors in a row, a delta that is merged.
-/
import Derived.Test.YtnfgamekjbkbkaaDoorD1
import Derived.Test.YtnfgamekjbkbkaaDoorEk
namespace Go.Proofs.YtnfgamekjbkbkaaDoor
open Go Go.RowKit
set_option maxRecDepth 100000 in
theorem size_any9 (v : V4) (x : VV) (l : L4) (w : World) (hx : Rows4 w x l) (hm : Most l 1000) : Calls Tryd.prog 39 #[.agg (dC v x)] w fun e w' => e = .returned (.int .i64 ((16 + 2 * (l.a.length + l.b.length + l.c.length + l.d.length) : Nat) : Int)) ∧ Below w.heap.size w w' := by
  obtain ⟨E, hE⟩ : ∃ E, w.heap.size = E := ⟨_, rfl⟩
  obtain ⟨p1, q1, t1, s1, a1, b1, c1, d1, rfl⟩ := hx.forms
  have m1 : (l.a.length : Int) ≤ 1000 := by have := hm.a; omega
  have m2 : (l.b.length : Int) ≤ 1000 := by have := hm.b; omega
  have m3 : (l.c.length : Int) ≤ 1000 := by have := hm.c; omega
  have m4 : (l.d.length : Int) ≤ 1000 := by have := hm.d; omega
  have z1 : (0 : Int) ≤ (l.a.length : Int) := by omega
  have z2 : (0 : Int) ≤ (l.b.length : Int) := by omega
  have z3 : (0 : Int) ≤ (l.c.length : Int) := by omega
  have z4 : (0 : Int) ≤ (l.d.length : Int) := by omega
  obtain ⟨m, hmm⟩ : ∃ m, 16 + 2 * (l.a.length + l.b.length + l.c.length + l.d.length) = m := ⟨_, rfl⟩
  rw [hmm]
  have HM := Bx.mk hmm
  clear hx hm hmm
  generalize l.a.length = n1 at *
  generalize l.b.length = n2 at *
  generalize l.c.length = n3 at *
  generalize l.d.length = n4 at *
  unfold dC
  simp only
  have HB := Bx.mk (below_a (W := w) (.cells #[.int .i64 v.a, .int .i64 v.b, .int .i64 v.c, .int .i64 v.d, .slice p1 n1 a1, .slice q1 n2 b1, .slice t1 n3 c1, .slice s1 n4 d1] 30))
  have hr : (w.alloc (.cells #[.int .i64 v.a, .int .i64 v.b, .int .i64 v.c, .int .i64 v.d, .slice p1 n1 a1, .slice q1 n2 b1, .slice t1 n3 c1, .slice s1 n4 d1] 30)).heap[E]? = some (.cells #[.int .i64 v.a, .int .i64 v.b, .int .i64 v.c, .int .i64 v.d, .slice p1 n1 a1, .slice q1 n2 b1, .slice t1 n3 c1, .slice s1 n4 d1] 30 (0, 0)) := by
    subst hE
    exact hnew _ _ _ rfl
  have hc : ∀ i u, (#[.int .i64 v.a, .int .i64 v.b, .int .i64 v.c, .int .i64 v.d, .slice p1 n1 a1, .slice q1 n2 b1, .slice t1 n3 c1, .slice s1 n4 d1] : Array Value)[i]? = some u → (w.alloc (.cells #[.int .i64 v.a, .int .i64 v.b, .int .i64 v.c, .int .i64 v.d, .slice p1 n1 a1, .slice q1 n2 b1, .slice t1 n3 c1, .slice s1 n4 d1] 30)).cell? ⟨E, i, none⟩ = some u := fun i u h => by
    rw [cell_of_row _ _ _ _ _ _ hr]
    exact h
  have k4 := hc 4 _ rfl
  have k5 := hc 5 _ rfl
  have k6 := hc 6 _ rfl
  have k7 := hc 7 _ rfl
  have i0 := idxL0 (.slice p1 n1 a1) (.slice q1 n2 b1) (.slice t1 n3 c1) (.slice s1 n4 d1)
  have i1 := idxL1 (.slice p1 n1 a1) (.slice q1 n2 b1) (.slice t1 n3 c1) (.slice s1 n4 d1)
  have i2 := idxL2 (.slice p1 n1 a1) (.slice q1 n2 b1) (.slice t1 n3 c1) (.slice s1 n4 d1)
  have i3 := idxL3 (.slice p1 n1 a1) (.slice q1 n2 b1) (.slice t1 n3 c1) (.slice s1 n4 d1)
  clear hc hr
  rw [hE] at HB ⊢
  go_enter Tryd.func39, Tryd.ntmps39
  go_wp2
  refine wp_loop_rounds 5 ?_
  rw [rounds_succ]
  go_wp2
  rw [rounds_succ]
  go_wp2
  rw [rounds_succ]
  go_wp2
  rw [rounds_succ]
  go_wp2
  rw [rounds_succ]
  go_wp2
  go_ret
  refine ⟨?_, HB.out⟩
  have h := HM.out
  show Ending.returned (Value.int .i64 _) = _
  congr 2
  omega
def OwnR9 (w : World) (base : Nat) (v : Value) (ns : List Int) : Prop := w.ownsRow base 33 1 v ns.length (i64s ns)
theorem OwnR9.nil (w : World) (base : Nat) : OwnR9 w base (.slice none 0 0) [] := ⟨rfl, .inl ⟨rfl, rfl⟩⟩
theorem OwnR9.later {w w1 : World} {base B : Nat} {v : Value} {ns : List Int} (h : OwnR9 w base v ns) (hb : Below B w w1) (hB : ∀ g, v.ownBlock = some g → g < B) : OwnR9 w1 base v ns := by
  obtain ⟨hl, hr⟩ := h
  refine ⟨hl, ?_⟩
  rcases hr with h | ⟨g, cap, cur, hv, hc, h1, h2, h3, h4⟩
  · exact .inl h
  · refine .inr ⟨g, cap, cur, hv, hc, ?_, h2, h3, h4⟩
    rw [hb.block g (hB g (by rw [hv]; rfl))]
    exact h1
theorem OwnR9.lt {w : World} {base : Nat} {v : Value} {ns : List Int} (h : OwnR9 w base v ns) : ∀ g, v.ownBlock = some g → g < w.heap.size ∧ base ≤ g := by
  intro g hg
  rcases h.2 with ⟨rfl, _⟩ | ⟨g', cap, cur, rfl, hb, hh, _⟩
  · cases hg
  · injection hg with hg
    subst hg
    exact ⟨(Array.getElem?_eq_some_iff.1 hh).1, hb⟩
theorem OwnR9.ints {w : World} {base : Nat} {v : Value} {ns : List Int} (h : OwnR9 w base v ns) : Ints w v ns := by
  rcases h.2 with ⟨rfl, h0⟩ | ⟨g, cap, cur, rfl, hb, hg, hn, hm, hs, hc⟩
  · refine ⟨none, 0, by rw [h0], by omega, fun _ => rfl, fun hp => by omega⟩
  · refine ⟨_, cap, rfl, hn, (fun hx => by cases hx), fun _ => ⟨g, 0, rfl, fun j hj => ?_⟩⟩
    rw [cell_of_row _ _ _ _ _ _ hg, Nat.zero_add, ← Array.getElem?_toList]
    have h1 : (cur.toList.take (ns.length * 1))[j]? = (i64s ns)[j]? := by rw [hc]
    rw [List.getElem?_take, if_pos (by omega), i64s_get ns j hj] at h1
    exact h1
theorem OwnR9.form {w : World} {base : Nat} {v : Value} {ns : List Int} (h : OwnR9 w base v ns) : ∃ a cap, v = .slice a ns.length cap := by
  obtain ⟨a, cap, hv, -⟩ := h.ints
  exact ⟨a, cap, hv⟩
theorem OwnR9.weak {w : World} {base base' : Nat} {v : Value} {l : List Int} (h : OwnR9 w base v l) (hb : base' ≤ base) : OwnR9 w base' v l := by
  refine ⟨h.1, ?_⟩
  rcases h.2 with h0 | ⟨g, cap, cur, hv, hb', hr⟩
  · exact .inl h0
  · exact .inr ⟨g, cap, cur, hv, by omega, hr⟩
end Go.Proofs.YtnfgamekjbkbkaaDoor
