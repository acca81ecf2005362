/-
  RevokeMerges: what holds: the cuts, the sets, the logs.
-/
import Derived.Test.YtnfgamekjbkbkaaDoorJb
import Derived.Test.YtnfgamekjbkbkaaDoorJa
import Derived.Test.YtnfgamekjbkbkaaDoorJe
import Derived.Test.YtnfgamekjbkbkaaDoorEq
import Derived.Test.YtnfgamekjbkbkaaDoorEt
namespace Go.Proofs.YtnfgamekjbkbkaaDoor
open Go Go.RowKit
def lN (l : L4) : Nat → List Int
  | 0 => l.a
  | 1 => l.b
  | 2 => l.c
  | _ => l.d
def uN (u : VV) : Nat → Value
  | 0 => u.a
  | 1 => u.b
  | 2 => u.c
  | _ => u.d
theorem uN_at (u : VV) : ∀ i, i < 4 → (#[u.a, u.b, u.c, u.d] : Array Value)[i]? = some (uN u i)
  | 0, _ => rfl
  | 1, _ => rfl
  | 2, _ => rfl
  | 3, _ => rfl
theorem RowsI.nth {W : World} {u : VV} {m : L4} (h : RowsI W u m) : ∀ i, i < 4 → Ints W (uN u i) (lN m i)
  | 0, _ => h.a
  | 1, _ => h.b
  | 2, _ => h.c
  | 3, _ => h.d
theorem Most.nth {m : L4} {n : Nat} (h : Most m n) : ∀ i, i < 4 → (lN m i).length ≤ n
  | 0, _ => h.a
  | 1, _ => h.b
  | 2, _ => h.c
  | 3, _ => h.d
theorem lN_take (m : L4) (n : Nat) : ∀ i, i < 4 → lN (m.take n) i = (lN m i).take n
  | 0, _ => rfl
  | 1, _ => rfl
  | 2, _ => rfl
  | 3, _ => rfl
/-- Some logs are beginnings; the others have nothing. -/
structure HalfOf (L : L4) (i : Nat) (m : L4) : Prop where
  lo : ∀ t, t < i → ∃ d, d ≤ (lN L t).length ∧ lN m t = (lN L t).take d
  hi : ∀ t, i ≤ t → t < 4 → lN m t = []
theorem HalfOf.nil (L : L4) : HalfOf L 0 L4.nil := ⟨fun t h => absurd h (Nat.not_lt_zero _), fun t _ h4 => by
  match t, h4 with
  | 0, _ => rfl
  | 1, _ => rfl
  | 2, _ => rfl
  | 3, _ => rfl⟩
theorem rev_zero {m : L4} {n : Int} {t : List Int} (h : (revL m n t).1 = 0) : (revL m n t).2 = m.put n (m.get n ++ t) := by
  unfold revL at *
  split at h
  · rename_i h0
    rw [if_pos h0]
    split at h
    · simp at h
    · rename_i h1
      rw [if_neg h1]
      split at h
      · simp at h
      · rename_i h2
        rw [if_neg h2]
  · simp at h
theorem HalfOf.next {L m : L4} {i d : Nat} (h : HalfOf L i m) (hi : i < 4) (hd : d ≤ (lN L i).length) (hr : (revL m (i : Int) ((lN L i).take d)).1 = 0) : HalfOf L (i + 1) (revL m (i : Int) ((lN L i).take d)).2 := by
  rw [rev_zero hr]
  have h0 := h.hi i (Nat.le_refl _) hi
  have hl := h.lo
  have hh := h.hi
  match i, hi with
  | 0, _ =>
    have e : m.a = [] := h0
    refine ⟨fun t ht => ?_, fun t h1 h2 => ?_⟩
    · obtain rfl : t = 0 := by omega
      exact ⟨d, hd, by show m.a ++ _ = _; rw [e, List.nil_append]⟩
    · have := hh t (by omega) h2
      match t, h1, h2 with
      | 1, _, _ => exact this
      | 2, _, _ => exact this
      | 3, _, _ => exact this
  | 1, _ =>
    have e : m.b = [] := h0
    refine ⟨fun t ht => ?_, fun t h1 h2 => ?_⟩
    · match t, ht with
      | 0, _ => exact hl 0 (by omega)
      | 1, _ => exact ⟨d, hd, by show m.b ++ _ = _; rw [e, List.nil_append]⟩
    · have := hh t (by omega) h2
      match t, h1, h2 with
      | 2, _, _ => exact this
      | 3, _, _ => exact this
  | 2, _ =>
    have e : m.c = [] := h0
    refine ⟨fun t ht => ?_, fun t h1 h2 => ?_⟩
    · match t, ht with
      | 0, _ => exact hl 0 (by omega)
      | 1, _ => exact hl 1 (by omega)
      | 2, _ => exact ⟨d, hd, by show m.c ++ _ = _; rw [e, List.nil_append]⟩
    · have := hh t (by omega) h2
      match t, h1, h2 with
      | 3, _, _ => exact this
  | 3, _ =>
    have e : m.d = [] := h0
    refine ⟨fun t ht => ?_, fun t h1 h2 => by omega⟩
    match t, ht with
    | 0, _ => exact hl 0 (by omega)
    | 1, _ => exact hl 1 (by omega)
    | 2, _ => exact hl 2 (by omega)
    | 3, _ => exact ⟨d, hd, by show m.d ++ _ = _; rw [e, List.nil_append]⟩
theorem HalfOf.whole {L m : L4} (h : HalfOf L 4 m) : ∃ n : N4, n.Le L.len ∧ m = L.pre n := by
  obtain ⟨a, ha, ea⟩ := h.lo 0 (by omega)
  obtain ⟨b, hb, eb⟩ := h.lo 1 (by omega)
  obtain ⟨c, hc, ec⟩ := h.lo 2 (by omega)
  obtain ⟨d, hd, ed⟩ := h.lo 3 (by omega)
  refine ⟨⟨a, b, c, d⟩, ⟨ha, hb, hc, hd⟩, ?_⟩
  obtain ⟨ma, mb, mc, md⟩ := m
  have e1 : ma = _ := ea
  have e2 : mb = _ := eb
  have e3 : mc = _ := ec
  have e4 : md = _ := ed
  rw [e1, e2, e3, e4]
  rfl
/-- The cells of twelve numbers. -/
def cutC (f : Nat → Int) : Array Value := ((List.range 12).map fun j => Value.int .i64 (f j)).toArray
theorem cutC_at (f : Nat → Int) (j : Nat) (h : j < 12) : (cutC f)[j]? = some (.int .i64 (f j)) := by
  unfold cutC
  simp [h]
theorem cutC_set (f : Nat → Int) (j : Nat) (n : Int) : (cutC f).setIfInBounds j (.int .i64 n) = cutC (fun t => if t = j then n else f t) := by
  apply Array.ext_getElem?
  intro t
  unfold cutC
  rw [Array.getElem?_setIfInBounds]
  by_cases ht : t < 12
  · by_cases e : j = t
    · subst e
      simp [ht]
    · rw [if_neg e]
      simp [ht, show ¬ t = j from fun h => e h.symm]
  · by_cases e : j = t
    · subst e
      rw [if_pos rfl, if_neg (by simpa using ht)]
      simp [ht]
    · rw [if_neg e]
      simp [ht]
/-- The cells of three pointers, the first n of them set. -/
def ptrC (P : Nat → Nat) (n : Nat) : Array Value := ((List.range 3).map fun j => if j < n then Value.pointer (some ⟨P j, 0, none⟩) else Value.pointer none).toArray
theorem ptrC_at (P : Nat → Nat) (n j : Nat) (h : j < n) (h3 : j < 3) : (ptrC P n)[j]? = some (.pointer (some ⟨P j, 0, none⟩)) := by
  unfold ptrC
  simp [h, h3]
theorem ptrC_none (P : Nat → Nat) (n j : Nat) (h : ¬ j < n) (h3 : j < 3) : (ptrC P n)[j]? = some (.pointer none) := by
  unfold ptrC
  simp [h, h3]
theorem ptrC_set (P : Nat → Nat) (n p : Nat) : (ptrC P n).setIfInBounds n (.pointer (some ⟨p, 0, none⟩)) = ptrC (fun j => if j = n then p else P j) (n + 1) := by
  apply Array.ext_getElem?
  intro t
  unfold ptrC
  rw [Array.getElem?_setIfInBounds]
  by_cases ht : t < 3
  · by_cases e : n = t
    · subst e
      simp [ht]
    · rw [if_neg e]
      by_cases h1 : t < n
      · simp [ht, h1, show ¬ t = n from fun h => e h.symm, show t < n + 1 by omega]
      · simp [ht, h1, show ¬ t < n + 1 by omega]
  · by_cases e : n = t
    · subst e
      rw [if_pos rfl, if_neg (by simpa using ht)]
      simp [ht]
    · rw [if_neg e]
      simp [ht]
theorem SetAt.far {W W1 : World} {p D : Nat} {l : L4} {T : TypeId} {cs : Array Value} {fr : Nat × Nat} (h : SetAt W p l) (hg : W.grownBy W1 (some D)) (hD : W.heap[D]? = some (.cells cs T fr)) (hT : T ≠ 3) (hne : p ≠ D) : SetAt W1 p l := by
  obtain ⟨x, hx, hr⟩ := h
  exact ⟨x, by rw [hg.block p (Array.getElem?_eq_some_iff.1 hx).1 (fun e => hne (Option.some.inj e))]; exact hx, hr.grown hg hD hT⟩
theorem run_cellP (w : World) (b i p : Nat) (u : Value) (hc : w.cell? ⟨b, i, none⟩ = some u) (hf : w.frozen? ⟨b, i, none⟩ = false) : (Instr.storeAt 51 (.pointer (some ⟨b, i, none⟩)) (.pointer (some ⟨p, 0, none⟩))).run Tryd.prog w = .ok () (w.setCell ⟨b, i, none⟩ (.pointer (some ⟨p, 0, none⟩))) := by
  go_simp
theorem wpList_cellP {ops : Array Oper} {rest : List Oper} {op : Oper} {a : Act} {w : World} {Q : Exit → Act → World → Prop} (hgd : op.guard = none) (x y : Operand) (ho : op.op = .store 51 x y)
    (b i p : Nat) (cs ds : Array Value) (t : TypeId) (hx : a.eval x = .pointer (some ⟨b, i, none⟩)) (hy : a.eval y = .pointer (some ⟨p, 0, none⟩)) (hrow : w.heap[b]? = some (.cells cs t (0, 0))) (hi : i < cs.size) (hd : cs.setIfInBounds i (.pointer (some ⟨p, 0, none⟩)) = ds)
    (k : ∀ w', w.grownBy w' (some b) → w'.heap[b]? = some (.cells ds t (0, 0)) → wpList Tryd.prog ops Q rest (a.put op.dst undef) w') : wpList Tryd.prog ops Q (op :: rest) a w := by
  refine wpList_plain hgd fun K hK => ?_
  have hrun := run_cellP w b i p cs[i] (by rw [cell_of_row _ _ _ _ _ _ hrow]; exact Array.getElem?_eq_getElem hi) (frozen_of_row _ _ _ _ _ hrow)
  unfold Oper.wp execOp
  simp only [ho, hx, hy, hrun, Sem.run_bind, Sem.run_pure, Result.andThen_ok]
  exact hK _ _ (k _ (kb_set1 _ _ _ _) (by rw [← hd]; exact heap_setCell_same _ _ _ _ _ _ hrow))
theorem step_cellI {ops : Array Oper} {o : Oper} {a : Act} {w : World} {K : Act → World → Prop} {Q : Exit → Act → World → Prop} {E : Prop} (hgd : o.guard = none) (x y : Operand) (ho : o.op = .store 3 x y)
    (b i : Nat) (n : Int) (cs ds : Array Value) (t : TypeId) (hx : a.eval x = .pointer (some ⟨b, i, none⟩)) (hy : a.eval y = .int .i64 n) (hrow : w.heap[b]? = some (.cells cs t (0, 0))) (hi : i < cs.size) (hd : cs.setIfInBounds i (.int .i64 n) = ds)
    (k : ∀ w', w.grownBy w' (some b) → w'.heap[b]? = some (.cells ds t (0, 0)) → K (a.put o.dst undef) w') : if Region.wanted o (yielded ops a.tmps) = true then Oper.wp Tryd.prog o a w K Q else E := by
  have hw : Region.wanted o (yielded ops a.tmps) = true := by simp [Region.wanted, hgd]
  rw [if_pos hw]
  have hrun := run_cellI w b i n cs[i] (by rw [cell_of_row _ _ _ _ _ _ hrow]; exact Array.getElem?_eq_getElem hi) (frozen_of_row _ _ _ _ _ hrow)
  unfold Oper.wp execOp
  simp only [ho, hx, hy, hrun, Sem.run_bind, Sem.run_pure, Result.andThen_ok]
  exact k _ (kb_set1 _ _ _ _) (by rw [← hd]; exact heap_setCell_same _ _ _ _ _ _ hrow)
end Go.Proofs.YtnfgamekjbkbkaaDoor
