/-
  The walk of the document's digest.
-/
import Derived.Test.YtkfgpnigeknhmaaDoorRd
import Derived.Test.YtkfgpnigeknhmaaDoorWn
import Derived.Test.YtkfgpnigeknhmaaDoorRp
import Derived.StillTailTactics
namespace Go.Proofs.YtkfgpnigeknhmaaDoor
open Go Go.RowKit
/-- The eight bytes of how many bits there were. -/
def eight (t : Nat) : List UInt8 := four (BitVec.ofNat 32 (8 * t / 4294967296)) ++ four (BitVec.ofNat 32 (8 * t))
theorem pad_is (t : Nat) : padOf t = 128 :: (List.replicate (zerosOf t) 0 ++ eight t) := rfl
theorem own_form {w : World} {base : Nat} {v : Value} {l : List UInt8} (h : OwnB w base v l) : ∃ a cap, v = .slice a l.length cap := by
  obtain ⟨a, cap, hv, _⟩ := h.bytes
  exact ⟨a, cap, hv⟩
theorem own_empty (W : World) (base : Nat) (hb : base ≤ W.heap.size) : OwnB (W.alloc (.cells #[] 5)) base (.slice (some ⟨W.heap.size, 0, none⟩) 0 0) [] :=
  ⟨rfl, .inr ⟨W.heap.size, 0, _, rfl, hb, hnew _ _ _ rfl, Nat.le_refl _, Nat.zero_le _, rfl, rfl⟩⟩
theorem one_128 (W : World) : Bytes (W.alloc (.cells #[.int .u8 128] 5)) (.slice (some ⟨W.heap.size, 0, none⟩) 1 1) [128] := built W [128]
theorem one_0 (W : World) : Bytes (W.alloc (.cells #[.int .u8 0] 5)) (.slice (some ⟨W.heap.size, 0, none⟩) 1 1) [0] := built W [0]
theorem own_a {W : World} {base : Nat} {v : Value} {l : List UInt8} (h : OwnB W base v l) (o : Obj) : OwnB (W.alloc o) base v l := h.later (below_a _) (fun g hg => (h.lt g hg).1)
theorem eight_length (t : Nat) : (eight t).length = 8 := rfl
theorem eight_at (t i : Nat) (hi : i < 8) : 8 * t / 2 ^ (56 - 8 * i) % 256 = ((eight t).getD i 0).toNat := by
  match i, hi with
  | 0, _ => show 8 * t / 2 ^ 56 % 256 = (byteOf (BitVec.ofNat 32 (8 * t / 4294967296)) 3).toNat; rw [byteOf_toNat, BitVec.toNat_ofNat]; omega
  | 1, _ => show 8 * t / 2 ^ 48 % 256 = (byteOf (BitVec.ofNat 32 (8 * t / 4294967296)) 2).toNat; rw [byteOf_toNat, BitVec.toNat_ofNat]; omega
  | 2, _ => show 8 * t / 2 ^ 40 % 256 = (byteOf (BitVec.ofNat 32 (8 * t / 4294967296)) 1).toNat; rw [byteOf_toNat, BitVec.toNat_ofNat]; omega
  | 3, _ => show 8 * t / 2 ^ 32 % 256 = (byteOf (BitVec.ofNat 32 (8 * t / 4294967296)) 0).toNat; rw [byteOf_toNat, BitVec.toNat_ofNat]; omega
  | 4, _ => show 8 * t / 2 ^ 24 % 256 = (byteOf (BitVec.ofNat 32 (8 * t)) 3).toNat; rw [byteOf_toNat, BitVec.toNat_ofNat]; omega
  | 5, _ => show 8 * t / 2 ^ 16 % 256 = (byteOf (BitVec.ofNat 32 (8 * t)) 2).toNat; rw [byteOf_toNat, BitVec.toNat_ofNat]; omega
  | 6, _ => show 8 * t / 2 ^ 8 % 256 = (byteOf (BitVec.ofNat 32 (8 * t)) 1).toNat; rw [byteOf_toNat, BitVec.toNat_ofNat]; omega
  | 7, _ => show 8 * t / 2 ^ 0 % 256 = (byteOf (BitVec.ofNat 32 (8 * t)) 0).toNat; rw [byteOf_toNat, BitVec.toNat_ofNat]; omega
theorem eight_succ (t i : Nat) (hi : i < 8) : (eight t).take (i + 1) = (eight t).take i ++ [(eight t).getD i 0] := by
  have h : i < (eight t).length := hi
  rw [List.take_succ_eq_append_getElem h]
  simp [h]
/-- The memory of the document's digest: the table, the result's place, and the bytes with their padding. -/
structure RS (w : World) (tb : Array Value) (l : List UInt8) (v : Value) (wr : World) : Prop where
  below : Below w.heap.size w wr
  size : w.heap.size + 2 ≤ wr.heap.size
  tab : wr.heap[w.heap.size]? = some (.cells tb 32 (0, 0))
  res : wr.heap[w.heap.size + 1]? = some (.cells (u8s (List.replicate 32 0)) 26 (0, 0))
  own : OwnB wr (w.heap.size + 2) v l
theorem RS.alloc {w wr : World} {tb : Array Value} {l : List UInt8} {v : Value} (h : RS w tb l v wr) (o : Obj) : RS w tb l v (wr.alloc o) :=
  ⟨h.below.alloc h.below.size _, by have := h.size; simp; omega, by rw [hold _ _ _ (by have := h.size; omega)]; exact h.tab, by rw [hold _ _ _ (by have := h.size; omega)]; exact h.res, own_a h.own _⟩
theorem RS.drewN {w wr : World} {tb : Array Value} {l : List UInt8} {v : Value} (h : RS w tb l v wr) (n : Nat) : RS w tb l v (wr.drewN n) :=
  ⟨below_drewN h.below n, h.size, h.tab, h.res, h.own⟩
theorem RS.ap {w wr w1 : World} {tb : Array Value} {l l1 : List UInt8} {v v1 : Value} (h : RS w tb l v wr) (h1 : OwnB w1 (w.heap.size + 2) v1 l1) (hg : wr.grownBy w1 v.ownBlock) : RS w tb l1 v1 w1 := by
  have hb := own_below h.own hg h.size
  exact ⟨h.below.trans (hb.mono (by omega)), Nat.le_trans h.size hg.size, by rw [hb.block _ (by omega)]; exact h.tab, by rw [hb.block _ (by omega)]; exact h.res, h1⟩
/-- A store into a block that came behind the bytes. -/
theorem RS.set {w wr : World} {tb : Array Value} {l : List UInt8} {v : Value} (h : RS w tb l v wr) (g i : Nat) (x : Value) (hg : w.heap.size + 2 ≤ g) (hne : v.ownBlock ≠ some g) : RS w tb l v (wr.setCell ⟨g, i, none⟩ x) := by
  refine ⟨h.below.setCell (by simp only []; omega) _, by simpa using h.size, by rw [heap_setCell_other _ _ _ _ (by simp only []; omega)]; exact h.tab, by rw [heap_setCell_other _ _ _ _ (by simp only []; omega)]; exact h.res, h.own.1, ?_⟩
  rcases h.own.2 with h0 | ⟨g', cap, cur, hv, hb', hg', hr⟩
  · exact .inl h0
  · refine .inr ⟨g', cap, cur, hv, hb', ?_, hr⟩
    rw [heap_setCell_other _ _ _ _ (fun e => hne (by rw [hv]; show some g' = some g; rw [e]))]
    exact hg'
theorem RS.sets {w : World} {tb : Array Value} {l : List UInt8} {v : Value} (g : Nat) (hg : w.heap.size + 2 ≤ g) (hne : v.ownBlock ≠ some g) : ∀ (vs : List Value) (o : Nat) (wr : World), RS w tb l v wr → RS w tb l v (wr.setCells g o vs)
  | [], _, _, h => h
  | x :: vs, o, wr, h => RS.sets g hg hne vs (o + 1) (wr.setCell ⟨g, o, none⟩ x) (h.set g o x hg hne)
theorem own_cell {w : World} {base G L C : Nat} {m : List UInt8} (h : OwnB w base (.slice (some ⟨G, 0, none⟩) L C) m) (j : Nat) (hj : j < m.length) : w.cell? ⟨G, j, none⟩ = some (.int .u8 (ub (m.getD j 0))) := by
  obtain ⟨a, cap, hv, _, _, hr⟩ := h.bytes
  injection hv with e1 e2 e3
  obtain ⟨c, o, ha, hc⟩ := hr (by omega)
  rw [ha] at e1
  injection e1 with e1
  injection e1 with e4 e5
  subst e4 e5
  have := hc j hj
  rwa [Nat.zero_add] at this
theorem own_at {w : World} {base : Nat} {A : Option Addr} {L C : Nat} {m : List UInt8} (h : OwnB w base (.slice A L C) m) (hm : 0 < m.length) : ∃ G, A = some ⟨G, 0, none⟩ ∧ G < w.heap.size := by
  rcases h.2 with ⟨hv, h0⟩ | ⟨g, cap, cur, hv, hb, hg, _⟩
  · omega
  · injection hv with e1 e2 e3
    exact ⟨g, e1, (Array.getElem?_eq_some_iff.1 hg).1⟩
/-- .. and the words so far, in block Hb. -/
structure RE (w : World) (tb : Array Value) (m : List UInt8) (G L C Hb : Nat) (hl : List (BitVec 32)) (wr : World) : Prop where
  rs : RS w tb m (.slice (some ⟨G, 0, none⟩) L C) wr
  hb : w.heap.size + 2 ≤ Hb
  ne : G ≠ Hb
  lt : Hb < wr.heap.size
  row : wr.heap[Hb]? = some (.cells (u32s hl) 30 (0, 0))
theorem RE.alloc {w wr : World} {tb : Array Value} {m : List UInt8} {G L C Hb : Nat} {hl : List (BitVec 32)} (h : RE w tb m G L C Hb hl wr) (o : Obj) : RE w tb m G L C Hb hl (wr.alloc o) :=
  ⟨h.rs.alloc o, h.hb, h.ne, by have := h.lt; simp; omega, by rw [hold _ _ _ h.lt]; exact h.row⟩
theorem RE.drewN {w wr : World} {tb : Array Value} {m : List UInt8} {G L C Hb : Nat} {hl : List (BitVec 32)} (h : RE w tb m G L C Hb hl wr) (n : Nat) : RE w tb m G L C Hb hl (wr.drewN n) :=
  ⟨h.rs.drewN n, h.hb, h.ne, h.lt, h.row⟩
theorem RE.set {w wr : World} {tb : Array Value} {m : List UInt8} {G L C Hb : Nat} {hl : List (BitVec 32)} (h : RE w tb m G L C Hb hl wr) (g i : Nat) (x : Value) (hg : w.heap.size + 2 ≤ g) (h1 : G ≠ g) (h2 : Hb ≠ g) : RE w tb m G L C Hb hl (wr.setCell ⟨g, i, none⟩ x) :=
  ⟨h.rs.set g i x hg (by intro e; injection e with e; exact h1 e), h.hb, h.ne, by have := h.lt; simpa using this, by rw [heap_setCell_other _ _ _ _ h2]; exact h.row⟩
theorem RE.sets {w : World} {tb : Array Value} {m : List UInt8} {G L C Hb : Nat} {hl : List (BitVec 32)} (g : Nat) (hg : w.heap.size + 2 ≤ g) (h1 : G ≠ g) (h2 : Hb ≠ g) : ∀ (vs : List Value) (o : Nat) (wr : World), RE w tb m G L C Hb hl wr → RE w tb m G L C Hb hl (wr.setCells g o vs)
  | [], _, _, h => h
  | x :: vs, o, wr, h => RE.sets g hg h1 h2 vs (o + 1) (wr.setCell ⟨g, o, none⟩ x) (h.set g o x hg h1 h2)
theorem tab_range {w : World} {b : Nat} {t : TypeId} {tb : Array Value} (h : w.heap[b]? = some (.cells tb t (0, 0))) (ht : u32s (kTab ++ hTab) = tb) : w.rangeAt b 64 (u32s hTab).toList := fun j v hv => by
  have hj : j < 8 := by have := (List.getElem?_eq_some_iff.1 hv).1; rw [Array.length_toList, u32s_size] at this; exact this
  rw [cell_of_row _ _ _ _ _ _ h, ← ht, u32s_get _ _ (by show 64 + j < 72; omega)]
  rw [Array.getElem?_toList, u32s_get _ _ (show j < hTab.length from hj)] at hv
  rw [← hv]
  congr 3
  have : (kTab ++ hTab).getD (64 + j) 0 = hTab.getD j 0 := by
    rw [List.getD_eq_getElem?_getD, List.getElem?_append_right (by show 64 ≤ 64 + j; omega), List.getD_eq_getElem?_getD]
    congr 2
    show 64 + j - 64 = j
    omega
  rw [this]
/-- A whole array stored over a block that is known. -/
theorem wpList_store_new {P : Program} {ops : Array Oper} {rest : List Oper} {op : Oper} {a : Act} {w : World} {Q : Exit → Act → World → Prop} (hgd : op.guard = none) (ty : TypeId) (x y : Operand) (ho : op.op = .store ty x y)
    (b : Nat) (cs ds : Array Value) (t : TypeId) (hx : a.eval x = .pointer (some ⟨b, 0, none⟩)) (hy : a.eval y = .agg cs) (hrow : w.heap[b]? = some (.cells ds t (0, 0))) (hs : cs.size = ds.size)
    (hi : (P.info? ty).map (·.size) = some cs.size) (h1 : cs.all (·.oneCell') = true)
    (k : ∀ w', w' = w.setCells b 0 cs.toList → w'.heap[b]? = some (.cells cs t (0, 0)) → wpList P ops Q rest (a.put op.dst undef) w') : wpList P ops Q (op :: rest) a w :=
  wpList_store_mid hgd ty x y ho b 0 cs hx hy (there_row hrow 0 _ (by omega)) hi h1 (k _ rfl (heap_setCells_all hrow hs))
/-- .. and a block's words, in block Wb. -/
structure RW (w : World) (tb : Array Value) (m : List UInt8) (G L C Hb : Nat) (hl : List (BitVec 32)) (Wb : Nat) (l : List (BitVec 32)) (wr : World) : Prop where
  re : RE w tb m G L C Hb hl wr
  wb : w.heap.size + 2 ≤ Wb
  g : G ≠ Wb
  h : Hb ≠ Wb
  row : wr.heap[Wb]? = some (.cells (u32s l) 29 (0, 0))
theorem RW.drewN {w wr : World} {tb : Array Value} {m : List UInt8} {G L C Hb Wb : Nat} {hl l : List (BitVec 32)} (h : RW w tb m G L C Hb hl Wb l wr) (n : Nat) : RW w tb m G L C Hb hl Wb l (wr.drewN n) :=
  ⟨h.re.drewN n, h.wb, h.g, h.h, h.row⟩
theorem RW.set {w wr : World} {tb : Array Value} {m : List UInt8} {G L C Hb Wb : Nat} {hl l : List (BitVec 32)} (h : RW w tb m G L C Hb hl Wb l wr) (i : Nat) (x : BitVec 32) : RW w tb m G L C Hb hl Wb (l.set i x) (wr.setCell ⟨Wb, i, none⟩ (.int .u32 (uv x))) :=
  ⟨h.re.set Wb i _ h.wb h.g h.h, h.wb, h.g, h.h, by rw [heap_setCell_same wr _ _ _ _ _ h.row, u32s_set]⟩
theorem RW.cell {w wr : World} {tb : Array Value} {m : List UInt8} {G L C Hb Wb : Nat} {hl l : List (BitVec 32)} (h : RW w tb m G L C Hb hl Wb l wr) (i : Nat) (hi : i < l.length) : wr.cell? ⟨Wb, i, none⟩ = some (.int .u32 (uv (l.getD i 0))) := by
  rw [cell_of_row _ _ _ _ _ _ h.row]; exact u32s_get _ _ hi
theorem RW.frozen {w wr : World} {tb : Array Value} {m : List UInt8} {G L C Hb Wb : Nat} {hl l : List (BitVec 32)} (h : RW w tb m G L C Hb hl Wb l wr) (i : Nat) : wr.frozen? ⟨Wb, i, none⟩ = false := frozen_of_row _ _ _ _ _ h.row
theorem RW.byte {w wr : World} {tb : Array Value} {m : List UInt8} {G L C Hb Wb : Nat} {hl l : List (BitVec 32)} (h : RW w tb m G L C Hb hl Wb l wr) (j : Nat) (hj : j < m.length) : wr.cell? ⟨G, j, none⟩ = some (.int .u8 (ub (m.getD j 0))) := own_cell h.re.rs.own j hj
theorem right7 (x : BitVec 32) (w : World) : Calls Tryd.prog 40 #[.int .u32 (uv x), .int .i64 7] w fun e w' => e = .returned (.int .u32 (uv (x.rotateRight 7))) ∧ ∃ n, w' = w.drewN n := right_any x 7 w (by omega) (by omega)
theorem right18 (x : BitVec 32) (w : World) : Calls Tryd.prog 40 #[.int .u32 (uv x), .int .i64 18] w fun e w' => e = .returned (.int .u32 (uv (x.rotateRight 18))) ∧ ∃ n, w' = w.drewN n := right_any x 18 w (by omega) (by omega)
theorem right17 (x : BitVec 32) (w : World) : Calls Tryd.prog 40 #[.int .u32 (uv x), .int .i64 17] w fun e w' => e = .returned (.int .u32 (uv (x.rotateRight 17))) ∧ ∃ n, w' = w.drewN n := right_any x 17 w (by omega) (by omega)
theorem right19 (x : BitVec 32) (w : World) : Calls Tryd.prog 40 #[.int .u32 (uv x), .int .i64 19] w fun e w' => e = .returned (.int .u32 (uv (x.rotateRight 19))) ∧ ∃ n, w' = w.drewN n := right_any x 19 w (by omega) (by omega)
theorem right6 (x : BitVec 32) (w : World) : Calls Tryd.prog 40 #[.int .u32 (uv x), .int .i64 6] w fun e w' => e = .returned (.int .u32 (uv (x.rotateRight 6))) ∧ ∃ n, w' = w.drewN n := right_any x 6 w (by omega) (by omega)
theorem right11 (x : BitVec 32) (w : World) : Calls Tryd.prog 40 #[.int .u32 (uv x), .int .i64 11] w fun e w' => e = .returned (.int .u32 (uv (x.rotateRight 11))) ∧ ∃ n, w' = w.drewN n := right_any x 11 w (by omega) (by omega)
theorem right25 (x : BitVec 32) (w : World) : Calls Tryd.prog 40 #[.int .u32 (uv x), .int .i64 25] w fun e w' => e = .returned (.int .u32 (uv (x.rotateRight 25))) ∧ ∃ n, w' = w.drewN n := right_any x 25 w (by omega) (by omega)
theorem right2 (x : BitVec 32) (w : World) : Calls Tryd.prog 40 #[.int .u32 (uv x), .int .i64 2] w fun e w' => e = .returned (.int .u32 (uv (x.rotateRight 2))) ∧ ∃ n, w' = w.drewN n := right_any x 2 w (by omega) (by omega)
theorem right13 (x : BitVec 32) (w : World) : Calls Tryd.prog 40 #[.int .u32 (uv x), .int .i64 13] w fun e w' => e = .returned (.int .u32 (uv (x.rotateRight 13))) ∧ ∃ n, w' = w.drewN n := right_any x 13 w (by omega) (by omega)
theorem right22 (x : BitVec 32) (w : World) : Calls Tryd.prog 40 #[.int .u32 (uv x), .int .i64 22] w fun e w' => e = .returned (.int .u32 (uv (x.rotateRight 22))) ∧ ∃ n, w' = w.drewN n := right_any x 22 w (by omega) (by omega)
end Go.Proofs.YtkfgpnigeknhmaaDoor
