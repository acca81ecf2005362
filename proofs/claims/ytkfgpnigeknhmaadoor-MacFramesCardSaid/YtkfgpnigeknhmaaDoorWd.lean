/-
  The walks of the padding, and of the words so far.
-/
import Derived.Test.YtkfgpnigeknhmaaDoorWc
import Derived.Laws.MakeOwn
namespace Go.Proofs.YtkfgpnigeknhmaaDoor
open Go Go.RowKit
/-- Four bytes written into a list. -/
def putL (l : List UInt8) (off : Nat) (x : BitVec 32) : List UInt8 := (((l.set off (byteOf x 3)).set (off + 1) (byteOf x 2)).set (off + 2) (byteOf x 1)).set (off + 3) (byteOf x 0)
theorem putL_length (l : List UInt8) (off : Nat) (x : BitVec 32) : (putL l off x).length = l.length := by simp [putL]
theorem put4_row {w : World} {b : Nat} {l : List UInt8} {t : TypeId} (h : w.heap[b]? = some (.cells (u8s l) t (0, 0))) (off : Nat) (x : BitVec 32) :
    (put4 w b off x).heap[b]? = some (.cells (u8s (putL l off x)) t (0, 0)) := by
  have h1 := heap_setCell_same w b off _ t (.int .u8 (ub (byteOf x 3))) h
  rw [u8s_set] at h1
  have h2 := heap_setCell_same _ b (off + 1) _ t (.int .u8 (ub (byteOf x 2))) h1
  rw [u8s_set] at h2
  have h3 := heap_setCell_same _ b (off + 2) _ t (.int .u8 (ub (byteOf x 1))) h2
  rw [u8s_set] at h3
  have h4 := heap_setCell_same _ b (off + 3) _ t (.int .u8 (ub (byteOf x 0))) h3
  rw [u8s_set] at h4
  exact h4
theorem put4_other (w : World) (b off : Nat) (x : BitVec 32) (k : Nat) (h : k ≠ b) : (put4 w b off x).heap[k]? = w.heap[k]? := by
  unfold put4
  rw [heap_setCell_other _ _ _ _ h, heap_setCell_other _ _ _ _ h, heap_setCell_other _ _ _ _ h, heap_setCell_other _ _ _ _ h]
theorem put4_size (w : World) (b off : Nat) (x : BitVec 32) : (put4 w b off x).heap.size = w.heap.size := by simp [put4]
theorem put4_below {B : Nat} {a w : World} (h : Below B a w) (b off : Nat) (x : BitVec 32) (hb : B ≤ b) : Below B a (put4 w b off x) :=
  (((h.setCell hb _).setCell hb _).setCell hb _).setCell hb _
theorem put32_row (b off len cap : Nat) (l : List UInt8) (t : TypeId) (x : BitVec 32) (w : World) (h : w.heap[b]? = some (.cells (u8s l) t (0, 0))) (hl : 4 ≤ len) (ho : off + 4 ≤ l.length) :
    Calls Tryd.prog 55 #[.slice (some ⟨b, off, none⟩) len cap, .int .u32 (uv x)] w fun e w' => e = .returned (.tuple #[]) ∧ w' = put4 w b off x := by
  have c : ∀ i, i < l.length → w.cell? ⟨b, i, none⟩ = some (.int .u8 (ub (l.getD i 0))) := fun i hi => by
    rw [cell_of_row _ _ _ _ _ _ h]; exact u8s_get _ _ hi
  have f : ∀ i, w.frozen? ⟨b, i, none⟩ = false := fun i => frozen_of_row _ _ _ _ _ h
  exact put32_any b off len cap x w hl _ _ _ _ (c off (by omega)) (c (off + 1) (by omega)) (c (off + 2) (by omega)) (c (off + 3) (by omega)) (f _) (f _) (f _) (f _)

/-- How many zeros the padding has. -/
def zerosOf (t : Nat) : Nat := (119 - t % 64) % 64
/-- The four bytes of a word. -/
def four (x : BitVec 32) : List UInt8 := [byteOf x 3, byteOf x 2, byteOf x 1, byteOf x 0]
/-- What makes a whole number of blocks of t bytes. -/
def padOf (t : Nat) : List UInt8 := 128 :: (List.replicate (zerosOf t) 0 ++ (four (BitVec.ofNat 32 (8 * t / 4294967296)) ++ four (BitVec.ofNat 32 (8 * t))))
theorem set_mid (a : List UInt8) (x : BitVec 32) (p q r s : UInt8) (b : List UInt8) : putL (a ++ (p :: q :: r :: s :: b)) a.length x = a ++ (four x ++ b) := by
  unfold putL four
  rw [List.set_append_right _ _ (Nat.le_refl _), List.set_append_right _ _ (by omega), List.set_append_right _ _ (by omega), List.set_append_right _ _ (by omega)]
  simp
theorem pad_sets (t : Nat) : putL (putL ((List.replicate (zerosOf t + 9) 0).set 0 128) (1 + zerosOf t) (BitVec.ofNat 32 (8 * t / 4294967296))) (1 + zerosOf t + 4) (BitVec.ofNat 32 (8 * t)) = padOf t := by
  rw [Nat.add_comm 1 (zerosOf t)]
  have e : (List.replicate (zerosOf t + 9) (0 : UInt8)).set 0 128 = (128 :: List.replicate (zerosOf t) 0) ++ (0 :: 0 :: 0 :: 0 :: [0, 0, 0, 0]) := by
    rw [show zerosOf t + 9 = (zerosOf t + 8) + 1 by omega, List.replicate_succ, List.set_cons_zero, List.cons_append]
    congr 1
    rw [← List.replicate_append_replicate]
    rfl
  have l1 : (128 :: List.replicate (zerosOf t) (0 : UInt8)).length = zerosOf t + 1 := by simp
  rw [e, ← l1, set_mid]
  rw [show (128 :: List.replicate (zerosOf t) (0 : UInt8)) ++ (four (BitVec.ofNat 32 (8 * t / 4294967296)) ++ [0, 0, 0, 0]) = ((128 :: List.replicate (zerosOf t) (0 : UInt8)) ++ four (BitVec.ofNat 32 (8 * t / 4294967296))) ++ (0 :: 0 :: 0 :: 0 :: []) by simp]
  have l2 : ((128 :: List.replicate (zerosOf t) (0 : UInt8)) ++ four (BitVec.ofNat 32 (8 * t / 4294967296))).length = (128 :: List.replicate (zerosOf t) (0 : UInt8)).length + 4 := by simp [four]
  rw [← l2, set_mid]
  simp [padOf]

theorem made_u8 (n : Nat) : madeCells #[Value.int .u8 0] (n * 1) = u8s (List.replicate n 0) := by
  apply Array.ext_getElem?
  intro i
  by_cases h : i < n
  · rw [u8s_get _ _ (by simpa using h)]
    simp [madeCells, h, ub, Nat.mod_one]
  · rw [Array.getElem?_eq_none (by simp [madeCells]; omega), Array.getElem?_eq_none (by simp [u8s]; omega)]
theorem hTab_cells : u32s hTab = #[.int .u32 1779033703, .int .u32 3144134277, .int .u32 1013904242, .int .u32 2773480762, .int .u32 1359893119, .int .u32 2600822924, .int .u32 528734635, .int .u32 1541459225] := by kernel_rfl
theorem firstWords_any (w : World) : Calls Tryd.prog 62 #[] w fun e w' => e = .returned (.agg (u32s hTab)) ∧ Below w.heap.size w w' := by
  go_enter Tryd.func62, Tryd.ntmps62
  go_wp2
  rw [hTab_cells]
  refine bodyPost_ret (results_cell_row rfl _ _ w.heap.size _ _ _ _ rfl (hnew _ _ _ rfl) Tryd.underlying30 rfl (by kernel_rfl)) rfl ⟨rfl, (Below.refl _ _).alloc (Nat.le_refl _) _⟩
theorem mk_u8 (z : Nat) (hz : z < 64) (W : World) : (Instr.makeSlice 23 (.int .u64 (1 + (z : Int) + 8)) (.int .u64 (1 + (z : Int) + 8))).run Tryd.prog W = .ok (.slice (some ⟨W.heap.size, 0, none⟩) (z + 9) (z + 9)) (W.alloc (.cells (u8s (List.replicate (z + 9) 0)) 5)) := by
  have h := run_make (P := Tryd.prog) W 23 5 ((Tryd.prog.info? 5).getD default) (.int .u8 0) Tryd.underlying23 (by kernel_rfl) (by kernel_rfl) .u64 .u64 (1 + (z : Int) + 8) (1 + (z : Int) + 8) (by omega) (by omega) (by rw [show ((Tryd.prog.info? 5).getD default).bytes = 1 by kernel_rfl]; omega) (by omega)
  rw [show (1 + (z : Int) + 8).toNat = z + 9 by omega, show ((Tryd.prog.info? 5).getD default).size = 1 by kernel_rfl] at h
  rw [h]
  show Result.ok _ (W.alloc (.cells (madeCells #[Value.int .u8 0] ((z + 9) * 1)) 5)) = _
  rw [made_u8]
set_option maxRecDepth 100000 in
theorem padding_any (t : Nat) (w : World) (ht : t < 2305843009213693952) : Calls Tryd.prog 54 #[.int .u64 (t : Int)] w fun e w' =>
    e = .returned (.slice (some ⟨w.heap.size, 0, none⟩) (zerosOf t + 9) (zerosOf t + 9)) ∧ Below w.heap.size w w' ∧ w'.heap.size = w.heap.size + 1 ∧ w'.heap[w.heap.size]? = some (.cells (u8s (padOf t)) 5 (0, 0)) := by
  have hz : zerosOf t < 64 := Nat.mod_lt _ (by omega)
  have hp := pad_sets t
  have e1 : (119 - (t : Int) % 64) % 64 = (zerosOf t : Int) := by unfold zerosOf; omega
  have e2 : (119 - (t : Int)) % 64 = (zerosOf t : Int) := by unfold zerosOf; omega
  have e3 : (t : Int) * 8 / 4294967296 = uv (BitVec.ofNat 32 (8 * t / 4294967296)) := by unfold uv; rw [BitVec.toNat_ofNat]; omega
  have e4 : (t : Int) * 8 % 4294967296 = uv (BitVec.ofNat 32 (8 * t)) := by unfold uv; rw [BitVec.toNat_ofNat]; omega
  generalize zerosOf t = z at *
  generalize BitVec.ofNat 32 (8 * t / 4294967296) = hi at *
  generalize BitVec.ofNat 32 (8 * t) = lo at *
  have HP := Bx.mk hp
  clear hp
  have hmk := fun W => mk_u8 z hz W
  go_enter Tryd.func54, Tryd.ntmps54
  go_wp2_with fail
  obtain ⟨w1, hw1⟩ : ∃ w1, w.alloc (Obj.cells ((u8s (List.replicate (z + 9) 0)).setIfInBounds 0 (Value.int IntKind.u8 128)) 5) = w1 := ⟨_, rfl⟩
  have HB : Bx (Below w.heap.size w w1 ∧ w1.heap.size = w.heap.size + 1 ∧ w1.heap[w.heap.size]? = some (.cells (u8s ((List.replicate (z + 9) 0).set 0 128)) 5 (0, 0))) :=
    Bx.mk (by rw [← hw1]; exact ⟨(Below.refl _ _).alloc (Nat.le_refl _) _, by simp, by rw [hnew _ _ _ rfl, show (Value.int IntKind.u8 128) = Value.int .u8 (ub 128) from rfl, u8s_set]⟩)
  rw [hw1]
  clear hw1 hmk
  refine (put32_row w.heap.size (1 + z) _ _ _ _ hi w1 HB.out.2.2 (by omega) (by simp; omega)).mono ?_
  rintro e w2 ⟨rfl, hw2⟩
  have HB2 : Bx (Below w.heap.size w w2 ∧ w2.heap.size = w.heap.size + 1 ∧ w2.heap[w.heap.size]? = some (.cells (u8s (putL ((List.replicate (z + 9) 0).set 0 128) (1 + z) hi)) 5 (0, 0))) :=
    Bx.mk (by rw [hw2]; exact ⟨put4_below HB.out.1 _ _ _ (Nat.le_refl _), by rw [put4_size]; exact HB.out.2.1, put4_row HB.out.2.2 _ _⟩)
  clear hw2 HB
  go_wp2_with fail
  refine (put32_row w.heap.size (1 + z + 4) _ _ _ _ lo w2 HB2.out.2.2 (by omega) (by simp [putL_length]; omega)).mono ?_
  rintro e w3 ⟨rfl, hw3⟩
  have HB3 : Bx (Below w.heap.size w w3 ∧ w3.heap.size = w.heap.size + 1 ∧ w3.heap[w.heap.size]? = some (.cells (u8s (padOf t)) 5 (0, 0))) :=
    Bx.mk (by rw [hw3, ← HP.out]; exact ⟨put4_below HB2.out.1 _ _ _ (Nat.le_refl _), by rw [put4_size]; exact HB2.out.2.1, put4_row HB2.out.2.2 _ _⟩)
  clear hw3 HB2 HP
  go_wp2_with fail
  go_ret
  exact ⟨rfl, HB3.out⟩
end Go.Proofs.YtkfgpnigeknhmaaDoor
