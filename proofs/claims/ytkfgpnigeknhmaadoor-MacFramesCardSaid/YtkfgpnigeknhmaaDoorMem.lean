/-
  Whole arrays in blocks: stored, loaded, handed back.
-/
import Derived.Test.YtkfgpnigeknhmaaDoorSha
import Derived.Deep.MidRow
import Derived.WalkKit
namespace Go.Proofs.YtkfgpnigeknhmaaDoor
open Go Go.RowKit
theorem heap_setCells_other (b : Nat) (k : Nat) (h : k ≠ b) : ∀ (vs : List Value) (o : Nat) (w : World), (w.setCells b o vs).heap[k]? = w.heap[k]?
  | [], _, _ => rfl
  | v :: vs, o, w => by
    show ((w.setCell ⟨b, o, none⟩ v).setCells b (o + 1) vs).heap[k]? = _
    rw [heap_setCells_other b k h vs (o + 1), heap_setCell_other _ _ _ _ h]
theorem size_setCells (b : Nat) : ∀ (vs : List Value) (o : Nat) (w : World), (w.setCells b o vs).heap.size = w.heap.size
  | [], _, _ => rfl
  | v :: vs, o, w => by
    show ((w.setCell ⟨b, o, none⟩ v).setCells b (o + 1) vs).heap.size = _
    rw [size_setCells b vs (o + 1)]; simp
theorem below_setCells {B b : Nat} (hb : B ≤ b) : ∀ (vs : List Value) (o : Nat) (a w : World), Below B a w → Below B a (w.setCells b o vs)
  | [], _, _, _, h => h
  | v :: vs, o, a, w, h => below_setCells hb vs (o + 1) a (w.setCell ⟨b, o, none⟩ v) (h.setCell hb v)
/-- Values written one behind the other into an array. -/
def spl (cs : Array Value) (o : Nat) : List Value → Array Value
  | [] => cs
  | v :: vs => spl (cs.setIfInBounds o v) (o + 1) vs
theorem heap_setCells_same (b : Nat) (t : TypeId) : ∀ (vs : List Value) (o : Nat) (w : World) (cs : Array Value), w.heap[b]? = some (.cells cs t (0, 0)) → (w.setCells b o vs).heap[b]? = some (.cells (spl cs o vs) t (0, 0))
  | [], _, _, _, h => h
  | v :: vs, o, w, cs, h => heap_setCells_same b t vs (o + 1) (w.setCell ⟨b, o, none⟩ v) (cs.setIfInBounds o v) (heap_setCell_same w b o cs t v h)
theorem spl_size : ∀ (vs : List Value) (cs : Array Value) (o : Nat), (spl cs o vs).size = cs.size
  | [], _, _ => rfl
  | v :: vs, cs, o => by show (spl (cs.setIfInBounds o v) (o + 1) vs).size = _; rw [spl_size vs]; simp
theorem spl_get : ∀ (vs : List Value) (cs : Array Value) (o i : Nat), (spl cs o vs)[i]? = if o ≤ i ∧ i < o + vs.length ∧ i < cs.size then vs[i - o]? else cs[i]?
  | [], cs, o, i => by
    have : ¬ (o ≤ i ∧ i < o + 0 ∧ i < cs.size) := by omega
    simp only [List.length_nil, if_neg this, spl]
  | v :: vs, cs, o, i => by
    show (spl (cs.setIfInBounds o v) (o + 1) vs)[i]? = _
    rw [spl_get vs (cs.setIfInBounds o v) (o + 1) i]
    simp only [Array.size_setIfInBounds, List.length_cons]
    by_cases h1 : o = i
    · subst h1
      rw [if_neg (by omega)]
      by_cases h2 : o < cs.size
      · rw [if_pos (by omega)]; simp [h2]
      · rw [if_neg (by omega)]; simp [h2]
    · by_cases h2 : o + 1 ≤ i ∧ i < o + 1 + vs.length ∧ i < cs.size
      · rw [if_pos h2, if_pos (by omega)]
        rw [show i - o = (i - (o + 1)) + 1 by omega]; rfl
      · rw [if_neg h2, if_neg (by omega)]
        rw [Array.getElem?_setIfInBounds_ne h1]
theorem spl_all (cs : Array Value) (vs : List Value) (h : vs.length = cs.size) : spl cs 0 vs = vs.toArray := by
  apply Array.ext_getElem?
  intro i
  rw [spl_get]
  by_cases hi : i < cs.size
  · rw [if_pos (by omega)]; simp
  · rw [if_neg (by omega)]
    rw [Array.getElem?_eq_none (by omega), Array.getElem?_eq_none (by simp; omega)]
theorem heap_setCells_all {w : World} {b : Nat} {cs ds : Array Value} {t : TypeId} (h : w.heap[b]? = some (.cells cs t (0, 0))) (hs : ds.size = cs.size) : (w.setCells b 0 ds.toList).heap[b]? = some (.cells ds t (0, 0)) := by
  rw [heap_setCells_same b t _ 0 w cs h, spl_all _ _ (by simpa using hs)]
theorem there_row {w : World} {b : Nat} {cs : Array Value} {t : TypeId} (h : w.heap[b]? = some (.cells cs t (0, 0))) (o n : Nat) (hn : o + n ≤ cs.size) : w.there b o n := fun j hj => by
  rw [cell_of_row _ _ _ _ _ _ h]
  refine ⟨by simp; omega, frozen_of_row _ _ _ _ _ h⟩
theorem one_u32s (l : List (BitVec 32)) : (u32s l).all (·.oneCell') = true := by
  simp [u32s, Value.oneCell']
theorem one_u8s (l : List UInt8) : (u8s l).all (·.oneCell') = true := by
  simp [u8s, Value.oneCell']
/-- A whole array (or struct) that fills a block, loaded: the run's equation. -/
theorem ld_row {P : Program} {w : World} {g ty : Nat} {t : TypeId} {cs : Array Value} {d : TypeDesc} (hg : w.heap[g]? = some (.cells cs t (0, 0)))
    (hu : P.underlying ty = some d) (hd : (match d with | .struct _ | .array _ _ => true | _ => false) = true) (hi : (P.info? ty).map (·.size) = some cs.size) :
    (Instr.loadAt ty (.pointer (some ⟨g, 0, none⟩))).run P w = .ok (.agg cs) w := by
  simp only [Instr.loadAt, Instr.sureAddr, Sem.run_bind, Sem.run_pure, Result.andThen_ok, run_loadVar_row w g t ty cs (0, 0) d hg hu hd hi]
/-- .. stored over a whole block. -/
theorem st_row {P : Program} {w : World} {g ty : Nat} {t : TypeId} {cs ds : Array Value} (hg : w.heap[g]? = some (.cells cs t (0, 0))) (hs : ds.size = cs.size)
    (hi : (P.info? ty).map (·.size) = some ds.size) (h1 : ds.all (·.oneCell') = true) :
    (Instr.storeAt ty (.pointer (some ⟨g, 0, none⟩)) (.agg ds)).run P w = .ok () (w.setCells g 0 ds.toList) :=
  run_storeAt_mid w g 0 ty ds (there_row hg 0 _ (by omega)) hi h1
end Go.Proofs.YtkfgpnigeknhmaaDoor
