/-
  Arrays of bytes that are compared.
-/
import Derived.Test.YtkfgpnigeknhmaaDoorWn
import Derived.Stop.BytesEq
import Derived.Test.YtkfgpnigeknhmaaDoorRe
namespace Go.Proofs.YtkfgpnigeknhmaaDoor
open Go Go.RowKit
theorem u8s_cell (l : List UInt8) : u8s l = (l.map Extern.Stop.cell).toArray := rfl
theorem size1 (W : World) : (sizeOf 5).run Tryd.prog W = .ok 1 W := by kernel_rfl
theorem eq32 (l m : List UInt8) (hl : l.length = 32) (hm : m.length = 32) (W : World) : (Op.equalIn 10000 26 (.agg (u8s l)) (.agg (u8s m))).run Tryd.prog W = .ok (l == m) W := by
  rw [u8s_cell, u8s_cell]
  exact run_equalIn_bytes W 9998 26 5 32 Tryd.underlying26 Tryd.underlying5 size1 l m hl hm
/-- A variable that holds a whole array: made, and stored into. -/
theorem wpList_store_var {P : Program} {ops : Array Oper} {rest : List Oper} {op : Oper} {a : Act} {w : World} {Q : Exit → Act → World → Prop} (hgd : op.guard = none) (ty : TypeId) (x y : Operand) (ho : op.op = .store ty x y)
    (W : World) (ds : Array Value) (t : TypeId) (hw : w = W.alloc (.cells ds t (0, 0))) (hx : a.eval x = .pointer (some ⟨W.heap.size, 0, none⟩)) (cs : Array Value) (hy : a.eval y = .agg cs) (hs : cs.size = ds.size)
    (hi : (P.info? ty).map (·.size) = some cs.size) (h1 : cs.all (·.oneCell') = true)
    (k : ∀ w', Below W.heap.size W w' → w'.heap[W.heap.size]? = some (.cells cs t (0, 0)) → W.heap.size < w'.heap.size → wpList P ops Q rest (a.put op.dst undef) w') : wpList P ops Q (op :: rest) a w := by
  subst hw
  exact wpList_store_new hgd ty x y ho W.heap.size cs ds t hx hy (hnew _ _ _ rfl) hs hi h1 fun w' hw' hr => k w' (by rw [hw']; exact below_setCells (Nat.le_refl _) _ _ _ _ (below_a _)) hr (by rw [hw', size_setCells]; simp)
end Go.Proofs.YtkfgpnigeknhmaaDoor
