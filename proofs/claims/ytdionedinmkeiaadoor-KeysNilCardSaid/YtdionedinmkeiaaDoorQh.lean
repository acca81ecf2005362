/-
  Mints, as cells; the walks of New, Master, Count, Find and add.
-/
import Derived.Test.YtdionedinmkeiaaDoorQa
import Derived.Test.YtdionedinmkeiaaDoorCc
namespace Go.Proofs.YtdionedinmkeiaaDoor
open Go Go.RowKit
/-- The cells of a mint that issued these claims, with a key's pointer. -/
def MtC (l : List Cl) (v : Value) (ms : Array Value) : Prop :=
  ms.size = 1026 ∧ ms[1024]? = some (.int .i64 (l.length : Int)) ∧ ms[1025]? = some v ∧ ∀ k, k < l.length → ∀ j u, (clC (l.getD k c0)).toList[j]? = some u → ms[4 * k + j]? = some u
theorem kb_past {w W W1 : World} {M Y : Nat} (h : w.grownBy W (some M)) (hg : W.grownBy W1 (some Y)) (hY : w.heap.size ≤ Y) : w.grownBy W1 (some M) :=
  ⟨hg.os.trans h.os, hg.tape.trans h.tape, hg.output.trans h.output, Nat.le_trans h.size hg.size, fun i hi hne => by rw [hg.block i (Nat.lt_of_lt_of_le hi h.size) (fun e => by injection e; omega)]; exact h.block i hi hne⟩
/-- The cells of a mint that issued nothing. -/
def mint0 (p : Nat) : Array Value := (List.replicate 1024 (Value.int .i64 0) ++ [Value.int .i64 0, Value.pointer (some ⟨p, 0, none⟩)]).toArray
theorem mint0_is (p : Nat) : MtC [] (.pointer (some ⟨p, 0, none⟩)) (mint0 p) := by
  refine ⟨?_, ?_, ?_, fun k hk => absurd hk (Nat.not_lt_zero _)⟩
  · unfold mint0
    rw [List.size_toArray, List.length_append, List.length_replicate]; rfl
  · unfold mint0
    rw [List.getElem?_toArray, List.getElem?_append_right (by rw [List.length_replicate]; omega), List.length_replicate]; rfl
  · unfold mint0
    rw [List.getElem?_toArray, List.getElem?_append_right (by rw [List.length_replicate]; omega), List.length_replicate]; rfl
end Go.Proofs.YtdionedinmkeiaaDoor
namespace Go.Proofs.YtdionedinmkeiaaDoor
open Go Go.RowKit
end Go.Proofs.YtdionedinmkeiaaDoor
namespace Go.Proofs.YtdionedinmkeiaaDoor
open Go Go.RowKit
theorem step_stO {P : Program} {ops : Array Oper} {o : Oper} {a : Act} {w : World} {K : Act → World → Prop} {Q : Exit → Act → World → Prop} {E : Prop} (hgd : o.guard = none) (ty : TypeId) (x y : Operand) (ho : o.op = .store ty x y)
    (b off : Nat) (cs : Array Value) (hx : a.eval x = .pointer (some ⟨b, off, none⟩)) (hy : a.eval y = .agg cs) (ht : w.there b off cs.size) (hi : (P.info? ty).map (·.size) = some cs.size) (h1 : cs.all (·.oneCell') = true)
    (h : K (a.put o.dst undef) (w.setCells b off cs.toList)) : if Region.wanted o (yielded ops a.tmps) = true then Oper.wp P o a w K Q else E := by
  have hw : Region.wanted o (yielded ops a.tmps) = true := by simp [Region.wanted, hgd]
  rw [if_pos hw]
  exact wp_store_mid ty x y ho b off cs hx hy ht hi h1 h
theorem MtC.add {l : List Cl} {v : Value} {ms : Array Value} (h : MtC l v ms) (c : Cl) (hl : l.length < 256) : MtC (l ++ [c]) v ((spl ms (l.length * 4) (clC c).toList).setIfInBounds 1024 (.int .i64 ((l.length : Int) + 1))) := by
  obtain ⟨h1, h2, h3, h4⟩ := h
  have hcl : (clC c).toList.length = 4 := rfl
  refine ⟨by rw [Array.size_setIfInBounds, spl_size, h1], ?_, ?_, fun k hk j u hj => ?_⟩
  · rw [Array.getElem?_setIfInBounds_self, if_pos (by rw [spl_size, h1]; omega)]
    simp
  · rw [Array.getElem?_setIfInBounds_ne (by omega), spl_get, if_neg (by omega)]
    exact h3
  · have hj4 : j < 4 := by have := (List.getElem?_eq_some_iff.1 hj).1; exact this
    rw [List.length_append, List.length_singleton] at hk
    rw [Array.getElem?_setIfInBounds_ne (by omega), spl_get]
    by_cases hlt : k < l.length
    · rw [if_neg (by omega)]
      rw [show (l ++ [c]).getD k c0 = l.getD k c0 by simp [List.getElem?_append_left hlt]] at hj
      exact h4 k hlt j u hj
    · obtain rfl : k = l.length := by omega
      rw [if_pos (by rw [hcl, h1]; omega), show 4 * l.length + j - l.length * 4 = j by omega]
      rw [show (l ++ [c]).getD l.length c0 = c by simp] at hj
      exact hj
end Go.Proofs.YtdionedinmkeiaaDoor
