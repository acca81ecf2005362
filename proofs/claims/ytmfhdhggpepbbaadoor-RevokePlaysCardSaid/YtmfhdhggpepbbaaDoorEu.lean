/-
  Revocations: all serials, rising, each once: what is reckoned.
-/
import Derived.Test.YtmfhdhggpepbbaaDoorEr
import Derived.Sort.Grow
import Derived.Lib.SlicesCompact
namespace Go.Proofs.YtmfhdhggpepbbaaDoor
open Go Go.RowKit
/-- All serials, rising, each once. -/
def allL (l : L4) : List Int := Go.Lib.compact ((l.a ++ l.b ++ l.c ++ l.d).mergeSort fun x y => decide (x ≤ y))
theorem mem_compactTo {zs : List Int} {x : Int} : ∀ m, m ≤ zs.length → x ∈ Go.Lib.compactUpTo zs.toArray m → ∃ i, i < m ∧ x = zs.getD i 0 := by
  intro m hm hx
  unfold Go.Lib.compactUpTo at hx
  obtain ⟨i, hi, rfl⟩ := List.mem_map.1 hx
  have hi2 := List.mem_range.1 (List.mem_filter.1 hi).1
  refine ⟨i, hi2, ?_⟩
  rw [getElem!_pos zs.toArray i (by simpa using (by omega : i < zs.length))]
  simp [List.getD_eq_getElem?_getD, show i < zs.length by omega]
theorem compactTo_rising {zs : List Int} (hs : ∀ i k, i ≤ k → k < zs.length → zs.getD i 0 ≤ zs.getD k 0) : ∀ m, m ≤ zs.length → (Go.Lib.compactUpTo zs.toArray m).Pairwise (· < ·)
  | 0, _ => by simp [Go.Lib.compactUpTo]
  | m + 1, hm => by
    have ih := compactTo_rising hs m (by omega)
    rw [Go.Lib.compactUpTo_succ]
    by_cases hk : Go.Lib.keeps zs.toArray m = true
    · rw [if_pos hk]
      refine List.pairwise_append.2 ⟨ih, by simp, fun x hx y hy => ?_⟩
      rw [List.mem_singleton] at hy
      subst hy
      obtain ⟨i, hi, rfl⟩ := mem_compactTo m (by omega) hx
      have e : ∀ j, j < zs.length → zs.toArray[j]! = zs.getD j 0 := fun j hj => by
        rw [getElem!_pos zs.toArray j (by simpa using hj)]
        simp [List.getD_eq_getElem?_getD, hj]
      unfold Go.Lib.keeps at hk
      rw [decide_eq_true_iff, e m (by omega), e (m - 1) (by omega)] at hk
      rw [e m (by omega)]
      have h1 := hs i (m - 1) (by omega) (by omega)
      have h2 := hs (m - 1) m (by omega) (by omega)
      rcases hk with hk | hk
      · omega
      · omega
    · rw [if_neg hk, List.append_nil]
      exact ih
theorem mem_allL {l : L4} {x : Int} (h : x ∈ allL l) : hasL4 l x = true := by
  unfold allL Go.Lib.compact at h
  obtain ⟨i, hi, e⟩ := mem_compactTo _ (Nat.le_refl _) h
  rw [List.getD_eq_getElem?_getD, List.getElem?_eq_getElem hi] at e
  have h1 : x ∈ (l.a ++ l.b ++ l.c ++ l.d).mergeSort fun x y => decide (x ≤ y) := by
    rw [e]
    exact List.getElem_mem hi
  rw [List.mem_mergeSort] at h1
  simp only [List.mem_append] at h1
  unfold hasL4
  simp only [Bool.or_eq_true, decide_eq_true_iff]
  rcases h1 with ((h1 | h1) | h1) | h1
  · exact .inl h1
  · exact .inr (.inl h1)
  · exact .inr (.inr (.inl h1))
  · exact .inr (.inr (.inr h1))
theorem allL_rising (l : L4) (k : Nat) (hk : k + 1 < (allL l).length) : (allL l).getD k 0 < (allL l).getD (k + 1) 0 := by
  have hp : (allL l).Pairwise (· < ·) := by
    refine compactTo_rising (fun i k hik hk => ?_) _ (Nat.le_refl _)
    have hs := List.pairwise_mergeSort (le := fun x y : Int => decide (x ≤ y)) (fun a b c h1 h2 => by simp at *; omega) (fun a b => by simp; omega) (l.a ++ l.b ++ l.c ++ l.d)
    rcases Nat.lt_or_ge i k with h | h
    · have := List.pairwise_iff_getElem.1 hs i k (by omega) hk h
      rw [List.getD_eq_getElem?_getD, List.getD_eq_getElem?_getD, List.getElem?_eq_getElem hk, List.getElem?_eq_getElem (by omega)]
      simpa using this
    · have : i = k := by omega
      subst this
      omega
  have := List.pairwise_iff_getElem.1 hp k (k + 1) (by omega) hk (by omega)
  rw [List.getD_eq_getElem?_getD, List.getD_eq_getElem?_getD, List.getElem?_eq_getElem hk, List.getElem?_eq_getElem (by omega)]
  exact this
theorem length_compactTo {zs : List Int} (m : Nat) : (Go.Lib.compactUpTo zs.toArray m).length ≤ m := by
  unfold Go.Lib.compactUpTo
  rw [List.length_map]
  exact Nat.le_trans (List.length_filter_le _ _) (by simp)
theorem length_allL (l : L4) : (allL l).length ≤ l.a.length + l.b.length + l.c.length + l.d.length := by
  unfold allL Go.Lib.compact
  refine Nat.le_trans (length_compactTo _) ?_
  simp [List.length_mergeSort]
  omega
theorem allL_nil : allL L4.nil = [] := List.eq_nil_of_length_eq_zero (by
  have h := length_allL L4.nil
  have h0 : L4.nil.a.length + L4.nil.b.length + L4.nil.c.length + L4.nil.d.length = 0 := rfl
  omega)
/-- A row that is laid anew, with blocks made behind it. -/
theorem rowed {w w' : World} {blk n : Nat} {cs : Array Value} {os : Array Obj} (d : Array Int) (hb : w.heap[blk]? = some (.cells cs 3 (0, 0))) (hs : d.size ≤ cs.size) (hw : w' = Go.Sort.grow (Go.Sort.putRow (Value.int .i64) (Go.Sort.ahead w n) blk 0 d) os) :
    ∃ cs', w'.heap[blk]? = some (.cells cs' 3 (0, 0)) ∧ cs'.size = cs.size ∧ (∀ j, j < d.size → cs'[j]? = some (.int .i64 d[j]!)) ∧ ∀ base, base ≤ blk → Below base w w' := by
  subst hw
  have hlt := (Array.getElem?_eq_some_iff.1 hb).1
  refine ⟨Go.Sort.putCells (Value.int .i64) 0 d cs, ?_, by simp [Go.Sort.putCells], fun j hj => ?_, fun base hbase => ⟨rfl, rfl, rfl, ?_, fun c hc => ?_⟩⟩
  · show (w.heap.modify blk (Go.Sort.onCells (Go.Sort.putCells (Value.int .i64) 0 d)) ++ os)[blk]? = _
    rw [Array.getElem?_append_left (by simpa using hlt), Array.getElem?_modify, if_pos rfl, hb]
    rfl
  · unfold Go.Sort.putCells
    rw [Array.getElem?_mapIdx, Array.getElem?_eq_getElem (by omega)]
    simp [hj]
  · show w.heap.size ≤ (w.heap.modify blk _ ++ os).size
    simp
  · show (w.heap.modify blk _ ++ os)[c]? = _
    rw [Array.getElem?_append_left (by simp; omega), Array.getElem?_modify, if_neg (by omega)]
end Go.Proofs.YtmfhdhggpepbbaaDoor
