/-
  The walk of the digest of the document.
  Parts, and what stays while a digest runs.
-/
import Derived.Test.YtnfgamekjbkbkaaDoorAc
import Derived.Control
import Derived.WalkKit
import Derived.Deep.LoopGhost
import Derived.StillTailTactics
import Derived.Stop.BytesEq
import Derived.Deep.RegionHeld3
namespace Go.Proofs.YtnfgamekjbkbkaaDoor
open Go
end Go.Proofs.YtnfgamekjbkbkaaDoor
namespace Go.Proofs.YtnfgamekjbkbkaaDoor
open Go Go.RowKit
end Go.Proofs.YtnfgamekjbkbkaaDoor
namespace Go.Proofs.YtnfgamekjbkbkaaDoor
open Go Go.RowKit
/-- The memory of the document's digest: the table, the result's place, and the bytes with their padding. -/
structure RS (w : World) (tb : Array Value) (l : List UInt8) (v : Value) (wr : World) : Prop where
  below : Below w.heap.size w wr
  size : w.heap.size + 2 ≤ wr.heap.size
  tab : wr.heap[w.heap.size]? = some (.cells tb 59 (0, 0))
  res : wr.heap[w.heap.size + 1]? = some (.cells (u8s (List.replicate 32 0)) 121 (0, 0))
  own : OwnB wr (w.heap.size + 2) v l
theorem RS.alloc {w wr : World} {tb : Array Value} {l : List UInt8} {v : Value} (h : RS w tb l v wr) (o : Obj) : RS w tb l v (wr.alloc o) :=
  ⟨h.below.alloc h.below.size _, by have := h.size; simp; omega, by rw [hold _ _ _ (by have := h.size; omega)]; exact h.tab, by rw [hold _ _ _ (by have := h.size; omega)]; exact h.res, own_a h.own _⟩
theorem RS.drewN {w wr : World} {tb : Array Value} {l : List UInt8} {v : Value} (h : RS w tb l v wr) (n : Nat) : RS w tb l v (wr.drewN n) :=
  ⟨below_drewN h.below n, h.size, h.tab, h.res, h.own⟩
/-- A store into a block that came behind the bytes. -/
theorem RS.set {w wr : World} {tb : Array Value} {l : List UInt8} {v : Value} (h : RS w tb l v wr) (g i : Nat) (x : Value) (hg : w.heap.size + 2 ≤ g) (hne : v.ownBlock ≠ some g) : RS w tb l v (wr.setCell ⟨g, i, none⟩ x) := by
  refine ⟨h.below.setCell (by simp only []; omega) _, by simpa using h.size, by rw [heap_setCell_other _ _ _ _ (by simp only []; omega)]; exact h.tab, by rw [heap_setCell_other _ _ _ _ (by simp only []; omega)]; exact h.res, h.own.1, ?_⟩
  rcases h.own.2 with h0 | ⟨g', cap, cur, hv, hb', hg', hr⟩
  · exact .inl h0
  · refine .inr ⟨g', cap, cur, hv, hb', ?_, hr⟩
    rw [heap_setCell_other _ _ _ _ (fun e => hne (by rw [hv]; show some g' = some g; rw [e]))]
    exact hg'
/-- .. and the words so far, in block Hb. -/
structure RE (w : World) (tb : Array Value) (m : List UInt8) (G L C Hb : Nat) (hl : List (BitVec 32)) (wr : World) : Prop where
  rs : RS w tb m (.slice (some ⟨G, 0, none⟩) L C) wr
  hb : w.heap.size + 2 ≤ Hb
  ne : G ≠ Hb
  lt : Hb < wr.heap.size
  row : wr.heap[Hb]? = some (.cells (u32s hl) 57 (0, 0))
theorem RE.alloc {w wr : World} {tb : Array Value} {m : List UInt8} {G L C Hb : Nat} {hl : List (BitVec 32)} (h : RE w tb m G L C Hb hl wr) (o : Obj) : RE w tb m G L C Hb hl (wr.alloc o) :=
  ⟨h.rs.alloc o, h.hb, h.ne, by have := h.lt; simp; omega, by rw [hold _ _ _ h.lt]; exact h.row⟩
theorem RE.drewN {w wr : World} {tb : Array Value} {m : List UInt8} {G L C Hb : Nat} {hl : List (BitVec 32)} (h : RE w tb m G L C Hb hl wr) (n : Nat) : RE w tb m G L C Hb hl (wr.drewN n) :=
  ⟨h.rs.drewN n, h.hb, h.ne, h.lt, h.row⟩
theorem RE.set {w wr : World} {tb : Array Value} {m : List UInt8} {G L C Hb : Nat} {hl : List (BitVec 32)} (h : RE w tb m G L C Hb hl wr) (g i : Nat) (x : Value) (hg : w.heap.size + 2 ≤ g) (h1 : G ≠ g) (h2 : Hb ≠ g) : RE w tb m G L C Hb hl (wr.setCell ⟨g, i, none⟩ x) :=
  ⟨h.rs.set g i x hg (by intro e; injection e with e; exact h1 e), h.hb, h.ne, by have := h.lt; simpa using this, by rw [heap_setCell_other _ _ _ _ h2]; exact h.row⟩
/-- .. and a block's words, in block Wb. -/
structure RW (w : World) (tb : Array Value) (m : List UInt8) (G L C Hb : Nat) (hl : List (BitVec 32)) (Wb : Nat) (l : List (BitVec 32)) (wr : World) : Prop where
  re : RE w tb m G L C Hb hl wr
  wb : w.heap.size + 2 ≤ Wb
  g : G ≠ Wb
  h : Hb ≠ Wb
  row : wr.heap[Wb]? = some (.cells (u32s l) 56 (0, 0))
theorem RW.drewN {w wr : World} {tb : Array Value} {m : List UInt8} {G L C Hb Wb : Nat} {hl l : List (BitVec 32)} (h : RW w tb m G L C Hb hl Wb l wr) (n : Nat) : RW w tb m G L C Hb hl Wb l (wr.drewN n) :=
  ⟨h.re.drewN n, h.wb, h.g, h.h, h.row⟩
theorem RW.set {w wr : World} {tb : Array Value} {m : List UInt8} {G L C Hb Wb : Nat} {hl l : List (BitVec 32)} (h : RW w tb m G L C Hb hl Wb l wr) (i : Nat) (x : BitVec 32) : RW w tb m G L C Hb hl Wb (l.set i x) (wr.setCell ⟨Wb, i, none⟩ (.int .u32 (uv x))) :=
  ⟨h.re.set Wb i _ h.wb h.g h.h, h.wb, h.g, h.h, by rw [heap_setCell_same wr _ _ _ _ _ h.row, u32s_set]⟩
theorem RW.cell {w wr : World} {tb : Array Value} {m : List UInt8} {G L C Hb Wb : Nat} {hl l : List (BitVec 32)} (h : RW w tb m G L C Hb hl Wb l wr) (i : Nat) (hi : i < l.length) : wr.cell? ⟨Wb, i, none⟩ = some (.int .u32 (uv (l.getD i 0))) := by
  rw [cell_of_row _ _ _ _ _ _ h.row]; exact u32s_get _ _ hi
theorem RW.frozen {w wr : World} {tb : Array Value} {m : List UInt8} {G L C Hb Wb : Nat} {hl l : List (BitVec 32)} (h : RW w tb m G L C Hb hl Wb l wr) (i : Nat) : wr.frozen? ⟨Wb, i, none⟩ = false := frozen_of_row _ _ _ _ _ h.row
end Go.Proofs.YtnfgamekjbkbkaaDoor
namespace Go.Proofs.YtnfgamekjbkbkaaDoor
open Go Go.RowKit


end Go.Proofs.YtnfgamekjbkbkaaDoor
namespace Go.Proofs.YtnfgamekjbkbkaaDoor
open Go Go.RowKit
end Go.Proofs.YtnfgamekjbkbkaaDoor
namespace Go.Proofs.YtnfgamekjbkbkaaDoor
open Go Go.RowKit
end Go.Proofs.YtnfgamekjbkbkaaDoor
namespace Go.Proofs.YtnfgamekjbkbkaaDoor
open Go Go.RowKit
end Go.Proofs.YtnfgamekjbkbkaaDoor
namespace Go.Proofs.YtnfgamekjbkbkaaDoor
open Go Go.RowKit
end Go.Proofs.YtnfgamekjbkbkaaDoor
namespace Go.Proofs.YtnfgamekjbkbkaaDoor
open Go Go.RowKit
theorem RS.kept {w wr w1 : World} {tb : Array Value} {l : List UInt8} {v : Value} (h : RS w tb l v wr) {b : Nat} (hk : wr.grownBy w1 (some b)) (hb : w.heap.size + 2 ≤ b) (hne : v.ownBlock ≠ some b) : RS w tb l v w1 := by
  have h2 := h.size
  have hne' : ∀ i, i < w.heap.size + 2 → some i ≠ some b := fun i hi e => by injection e with e; omega
  exact ⟨⟨hk.os.trans h.below.os, hk.tape.trans h.below.tape, hk.output.trans h.below.output, Nat.le_trans h.below.size hk.size, fun i hi => (hk.block i (by omega) (hne' i (by omega))).trans (h.below.block i hi)⟩,
    Nat.le_trans h.size hk.size, by rw [hk.block _ (by omega) (hne' _ (by omega))]; exact h.tab, by rw [hk.block _ (by omega) (hne' _ (by omega))]; exact h.res, h.own.kept hk hne⟩
theorem RE.kept {w wr w1 : World} {tb : Array Value} {m : List UInt8} {G L C Hb : Nat} {hl : List (BitVec 32)} (h : RE w tb m G L C Hb hl wr) {b : Nat} (hk : wr.grownBy w1 (some b)) (hb : w.heap.size + 2 ≤ b) (h1 : G ≠ b) (h2 : Hb ≠ b) : RE w tb m G L C Hb hl w1 :=
  ⟨h.rs.kept hk hb (by intro e; injection e with e; exact h1 e), h.hb, h.ne, Nat.lt_of_lt_of_le h.lt hk.size, by rw [hk.block _ h.lt (by intro e; injection e with e; exact h2 e)]; exact h.row⟩
end Go.Proofs.YtnfgamekjbkbkaaDoor
namespace Go.Proofs.YtnfgamekjbkbkaaDoor
open Go Go.RowKit
end Go.Proofs.YtnfgamekjbkbkaaDoor
namespace Go.Proofs.YtnfgamekjbkbkaaDoor
open Go Go.RowKit
end Go.Proofs.YtnfgamekjbkbkaaDoor
namespace Go.Proofs.YtnfgamekjbkbkaaDoor
open Go
end Go.Proofs.YtnfgamekjbkbkaaDoor
namespace Go.Proofs.YtnfgamekjbkbkaaDoor
open Go Go.RowKit
theorem range_below {B : Nat} {w w1 : World} {b o : Nat} {vs : List Value} (h : w.rangeAt b o vs) (hb : Below B w w1) (hB : b < B) : w1.rangeAt b o vs := fun j v hv => by
  rw [hb.cell (p := ⟨b, o + j, none⟩) hB]
  exact h j v hv
/-- What holds all through a statement: nothing that was there has changed. -/
structure Sp (w0 : World) (b : Nat) (vs : List Value) (W : World) : Prop where
  below : Below w0.heap.size w0 W
  rng : W.rangeAt b 0 vs
theorem Sp.s {w0 W : World} {b : Nat} {vs : List Value} (h : Sp w0 b vs W) : W.rangeAt b 0 vs ∧ Bx (Sp w0 b vs W) := ⟨h.rng, ⟨h⟩⟩
theorem Sp.later {w0 W W1 : World} {b : Nat} {vs : List Value} (h : Sp w0 b vs W) (hb : Below W.heap.size W W1) (hB : b < w0.heap.size) : Sp w0 b vs W1 :=
  ⟨h.below.trans (hb.mono h.below.size), range_below h.rng (hb.mono h.below.size) hB⟩
end Go.Proofs.YtnfgamekjbkbkaaDoor
namespace Go.Proofs.YtnfgamekjbkbkaaDoor
open Go Go.RowKit
/-- Behind w3 there are a running digest, of these bytes, and a copy, if there is one. -/
structure Dy (w3 : World) (bs : List UInt8) (c : Option (Nat × List UInt8)) (W : World) : Prop where
  below : Below w3.heap.size w3 W
  took : Took W w3.heap.size 145 bs W
  cp : ∀ p, c = some p → w3.heap.size < p.1 ∧ Took W p.1 145 p.2 W
theorem Took.lt {w W : World} {b : Nat} {T : TypeId} {bs : List UInt8} (h : Took w b T bs W) : b < W.heap.size := by
  obtain ⟨ws, rest, h1, _⟩ := h
  exact (Array.getElem?_eq_some_iff.1 h1).1
theorem Took.stays {w W W1 : World} {b b' : Nat} {T : TypeId} {bs : List UInt8} (h : Took w b T bs W) (hk : W.grownBy W1 (some b')) (hne : b ≠ b') : Took W1 b T bs W1 := by
  have hl := h.lt
  obtain ⟨ws, rest, h1, h2, _⟩ := h
  exact ⟨ws, rest, by rw [hk.block _ hl (by intro e; injection e with e; exact hne e)]; exact h1, h2, kb_refl _ _⟩
theorem Took.later {w W W1 : World} {b : Nat} {T : TypeId} {bs : List UInt8} (h : Took w b T bs W) (hb : Below W.heap.size W W1) : Took W1 b T bs W1 := by
  have hl := h.lt
  obtain ⟨ws, rest, h1, h2, _⟩ := h
  exact ⟨ws, rest, by rw [hb.block _ hl]; exact h1, h2, kb_refl _ _⟩
theorem Dy.later {w3 W W1 : World} {bs : List UInt8} {c : Option (Nat × List UInt8)} (h : Dy w3 bs c W) (hb : Below W.heap.size W W1) : Dy w3 bs c W1 :=
  ⟨h.below.trans (hb.mono h.below.size), h.took.later hb, fun p hp => ⟨(h.cp p hp).1, (h.cp p hp).2.later hb⟩⟩
theorem below_kb {B b : Nat} {w W W1 : World} (h : Below B w W) (hB : B ≤ W.heap.size) (hk : W.grownBy W1 (some b)) (hb : B ≤ b) : Below B w W1 :=
  ⟨hk.os.trans h.os, hk.tape.trans h.tape, hk.output.trans h.output, Nat.le_trans h.size hk.size, fun i hi => (hk.block i (by omega) (by intro e; injection e with e; omega)).trans (h.block i hi)⟩
theorem Dy.add {w3 W W1 : World} {bs bs' : List UInt8} {c : Option (Nat × List UInt8)} (h : Dy w3 bs c W) (ht : Took W w3.heap.size 145 bs' W1) : Dy w3 bs' c W1 :=
  ⟨below_kb h.below h.below.size ht.kept (Nat.le_refl _), ht.self, fun p hp => ⟨(h.cp p hp).1, (h.cp p hp).2.stays ht.kept (by have := (h.cp p hp).1; omega)⟩⟩
theorem Dy.cut {w3 W : World} {bs : List UInt8} {c : Option (Nat × List UInt8)} (h : Dy w3 bs c W) : Dy w3 bs none W := ⟨h.below, h.took, fun _ hp => by cases hp⟩
/-- One part, in a slice that is made for the call. -/
theorem one_at {w W : World} {v : Value} {bs : List UInt8} (h : Bytes w v bs) (hb : Below w.heap.size w W) (b : Nat) (hB : w.heap.size ≤ b) (hB2 : b < W.heap.size) : PartsAt (W.alloc (.cells #[v] 27)) b (.slice (some ⟨W.heap.size, 0, none⟩) 1 1) [bs] := by
  refine ⟨_, 1, rfl, fun _ => ⟨W.heap.size, 0, by omega, rfl, fun j hj => ?_⟩⟩
  have hj0 : j = 0 := by simp at hj; omega
  subst hj0
  exact ⟨v, by rw [cell_of_row _ _ _ _ _ _ (hnew _ _ _ rfl)]; rfl, h.apart (hb.trans ((below_a _).mono hb.size)) b hB⟩
/-- What stays: the parts, all bytes, the program's table and the document's. -/
structure Stt (w3 : World) (Tb : Nat) (tbl : List Value) (vo va : Value) (qs : List (List UInt8)) : Prop where
  parts : Parts w3 vo qs
  all : Bytes w3 va qs.flatten
  tab : Tab w3
  g : 1 < w3.heap.size
  row : w3.heap[Tb]? = some (.cells tbl.toArray 59 (0, 0))
  lt : Tb < w3.heap.size
  is : u32s (kTab ++ hTab) = tbl.toArray
  few : qs.length ≤ 12 ∧ qs.flatten.length ≤ 1200
theorem Stt.rng {w3 W : World} {Tb : Nat} {tbl : List Value} {vo va : Value} {qs : List (List UInt8)} (h : Stt w3 Tb tbl vo va qs) (hb : Below w3.heap.size w3 W) : W.rangeAt Tb 0 tbl := fun j v hv => by
  rw [hb.cell (p := ⟨Tb, 0 + j, none⟩) h.lt, cell_of_row _ _ _ _ _ _ h.row, Nat.zero_add, ← Array.getElem?_toList]
  exact hv
theorem Stt.add {w3 : World} {Tb : Nat} {tbl : List Value} {vo va : Value} {qs : List (List UInt8)} (st : Stt w3 Tb tbl vo va qs) {W : World} (hb : Below w3.heap.size w3 W) {b : Nat} {bs ps : List UInt8} {x : Value} (hB : w3.heap.size ≤ b) (ht : Took W b 145 bs W) (hx : Bytes w3 x ps) (hl : bs.length ≤ 10000) (hl2 : ps.length ≤ 10000) :
    Calls Tryd.prog 82 #[.pointer (some ⟨b, 0, none⟩), .slice (some ⟨W.heap.size, 0, none⟩) 1 1] (W.alloc (.cells #[x] 27)) fun e W' => e = .returned (.pointer (some ⟨b, 0, none⟩)) ∧ Took (W.alloc (.cells #[x] 27)) b 145 (bs ++ ps) W' := by
  have h := add_any b bs [ps] _ _ (ht.later (below_a (.cells #[x] 27))) (one_at hx hb b hB ht.lt) (by simp) (by rw [List.flatten_singleton]; omega) (st.tab.later (hb.trans ((below_a _).mono hb.size)) st.g) (by have := st.g; omega)
  rw [List.flatten_singleton] at h
  exact h
end Go.Proofs.YtnfgamekjbkbkaaDoor
