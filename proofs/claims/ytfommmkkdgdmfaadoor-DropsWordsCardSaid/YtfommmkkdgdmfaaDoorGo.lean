/-
  What many texts want: bytes, rows that a call owns, frames.
-/
import Derived.Laws.BitsAllLaws
import Derived.IntWalk
import Derived.Laws.Rows
import Derived.Below
import Derived.WalkKit
import Derived.ProofKit
import Derived.Handy
import Derived.PlainAid
import Derived.WalkLawsBesides
import Derived.Outline
import Derived.BigQuiet
import Derived.Deep.QuietTactic
import Derived.Lib.Hide
import Derived.Deep.MidRow
import Derived.Deep.RegionHeld3
import Derived.Deep.Cut
import Derived.Laws.MakeOwn
import Derived.Laws.CopyOwn
import Derived.Maps.AppendAt
import Derived.Laws.AppendOwnNone
import Derived.Lib.BufferRead
import Derived.Laws.IdiomStrings
import Derived.RegionTactic
import Derived.Control
import Derived.Deep.LoopGhost
import Derived.StillTailTactics
import Derived.Stop.BytesEq
import Derived.OwnWalk
import Derived.Lib.SlBytesConst
import Derived.WalkMore
import Derived.ChangeKeysEq
import Derived.OpenShut
import Derived.ShutString
import Derived.ChangeOld
import Derived.Deep.DeepHandedRow
import Derived.Lib.LaidTab
import Derived.Deep.Matrix
import Derived.Test.YtfommmkkdgdmfaaDoorProg
import Derived.Laws.Pointers
import Derived.Shelf.Abstract
import Derived.Test.YtfommmkkdgdmfaaDoorRows
namespace Go.Proofs.YtfommmkkdgdmfaaDoor
open Go Go.RowKit Go.ChangeShapes Go.WideShapes Go.ChangeAt
/-- A fact that is put away: the walk sees nothing of it. -/
structure Bx (p : Prop) : Prop where
  out : p
/-- A byte as the model's integer. -/
def ub (b : UInt8) : Int := (b.toNat : Int)
/-- Bytes as cells. -/
def u8s (l : List UInt8) : Array Value := (l.map fun x => Value.int .u8 (ub x)).toArray
theorem hnew (w : World) (o : Obj) (i : Nat) (h : i = w.heap.size) : (w.alloc o).heap[i]? = some o := by
  subst h
  show (w.heap.push o)[w.heap.size]? = some o
  simp
theorem below_setCells {B b : Nat} (hb : B ≤ b) : ∀ (vs : List Value) (o : Nat) (a w : World), Below B a w → Below B a (w.setCells b o vs)
  | [], _, _, _, h => h
  | v :: vs, o, a, w, h => below_setCells hb vs (o + 1) a (w.setCell ⟨b, o, none⟩ v) (h.setCell hb v)
/-- Values written one behind the other into an array. -/
def spl (cs : Array Value) (o : Nat) : List Value → Array Value
  | [] => cs
  | v :: vs => spl (cs.setIfInBounds o v) (o + 1) vs
theorem heap_setCells_same (b : Nat) (t : TypeId) : ∀ (vs : List Value) (o : Nat) (w : World) (cs : Array Value), w.heap[b]? = some (.cells cs t (0, 0)) → (w.setCells b o vs).heap[b]? = some (.cells (spl cs o vs) t (0, 0))
  | [], _, _, _, h => h
  | v :: vs, o, w, cs, h => heap_setCells_same b t vs (o + 1) (w.setCell ⟨b, o, none⟩ v) (cs.setIfInBounds o v) (heap_setCell_same w b o cs t v h)
theorem spl_get : ∀ (vs : List Value) (cs : Array Value) (o i : Nat), (spl cs o vs)[i]? = if o ≤ i ∧ i < o + vs.length ∧ i < cs.size then vs[i - o]? else cs[i]?
  | [], cs, o, i => by
    have : ¬ (o ≤ i ∧ i < o + 0 ∧ i < cs.size) := by omega
    simp only [List.length_nil, if_neg this, spl]
  | v :: vs, cs, o, i => by
    show (spl (cs.setIfInBounds o v) (o + 1) vs)[i]? = _
    rw [spl_get vs (cs.setIfInBounds o v) (o + 1) i]
    simp only [Array.size_setIfInBounds, List.length_cons]
    by_cases h1 : o = i
    · subst h1
      rw [if_neg (by omega)]
      by_cases h2 : o < cs.size
      · rw [if_pos (by omega)]; simp [h2]
      · rw [if_neg (by omega)]; simp [h2]
    · by_cases h2 : o + 1 ≤ i ∧ i < o + 1 + vs.length ∧ i < cs.size
      · rw [if_pos h2, if_pos (by omega)]
        rw [show i - o = (i - (o + 1)) + 1 by omega]; rfl
      · rw [if_neg h2, if_neg (by omega)]
        rw [Array.getElem?_setIfInBounds_ne h1]
theorem spl_all (cs : Array Value) (vs : List Value) (h : vs.length = cs.size) : spl cs 0 vs = vs.toArray := by
  apply Array.ext_getElem?
  intro i
  rw [spl_get]
  by_cases hi : i < cs.size
  · rw [if_pos (by omega)]; simp
  · rw [if_neg (by omega)]
    rw [Array.getElem?_eq_none (by omega), Array.getElem?_eq_none (by simp; omega)]
theorem heap_setCells_all {w : World} {b : Nat} {cs ds : Array Value} {t : TypeId} (h : w.heap[b]? = some (.cells cs t (0, 0))) (hs : ds.size = cs.size) : (w.setCells b 0 ds.toList).heap[b]? = some (.cells ds t (0, 0)) := by
  rw [heap_setCells_same b t _ 0 w cs h, spl_all _ _ (by simpa using hs)]
theorem there_row {w : World} {b : Nat} {cs : Array Value} {t : TypeId} (h : w.heap[b]? = some (.cells cs t (0, 0))) (o n : Nat) (hn : o + n ≤ cs.size) : w.there b o n := fun j hj => by
  rw [cell_of_row _ _ _ _ _ _ h]
  refine ⟨by simp; omega, frozen_of_row _ _ _ _ _ h⟩
theorem kb_refl (b : Nat) (w : World) : w.grownBy w (some b) := ⟨rfl, rfl, rfl, Nat.le_refl _, fun _ _ _ => rfl⟩
theorem kb_trans {b : Option Nat} {w w1 w2 : World} (h : w.grownBy w1 b) (k : w1.grownBy w2 b) : w.grownBy w2 b :=
  ⟨k.os.trans h.os, k.tape.trans h.tape, k.output.trans h.output, Nat.le_trans h.size k.size, fun i hi hne => (k.block i (Nat.lt_of_lt_of_le hi h.size) hne).trans (h.block i hi hne)⟩
theorem kb_drewN (b : Option Nat) (w : World) (n : Nat) : w.grownBy (w.drewN n) b := ⟨rfl, rfl, rfl, Nat.le_refl _, fun _ _ _ => rfl⟩
theorem kb_setCell {b : Nat} (w : World) (o : Nat) (v : Value) : w.grownBy (w.setCell ⟨b, o, none⟩ v) (some b) :=
  ⟨rfl, rfl, rfl, by simp, fun i _ hne => heap_setCell_other w ⟨b, o, none⟩ i v (fun e => hne (by rw [e]))⟩
/-- Bytes behind a slice whose block isn't b. -/
def BytesAt (w : World) (b : Nat) (v : Value) (ps : List UInt8) : Prop :=
  ∃ a cap, v = .slice a ps.length cap ∧ ps.length ≤ cap ∧ (0 < ps.length → ∃ c o, c ≠ b ∧ a = some ⟨c, o, none⟩ ∧ ∀ j, j < ps.length → w.cell? ⟨c, o + j, none⟩ = some (.int .u8 (ub (ps.getD j 0))))
theorem BytesAt.later {w w1 : World} {b : Nat} {v : Value} {ps : List UInt8} (h : BytesAt w b v ps) (hk : w.grownBy w1 (some b)) : BytesAt w1 b v ps := by
  obtain ⟨a, cap, hv, hc, hr⟩ := h
  refine ⟨a, cap, hv, hc, fun hp => ?_⟩
  obtain ⟨c, o, hne, ha, hcell⟩ := hr hp
  refine ⟨c, o, hne, ha, fun j hj => ?_⟩
  exact hk.cell (hcell j hj) (by simpa using hne)
/-- Parts behind a slice of slices, none of them in block b. -/
def PartsAt (w : World) (b : Nat) (v : Value) (pss : List (List UInt8)) : Prop :=
  ∃ a cap, v = .slice a pss.length cap ∧ (0 < pss.length → ∃ p o, p ≠ b ∧ a = some ⟨p, o, none⟩ ∧ ∀ j, j < pss.length → ∃ x, w.cell? ⟨p, o + j, none⟩ = some x ∧ BytesAt w b x (pss.getD j []))
theorem PartsAt.later {w w1 : World} {b : Nat} {v : Value} {pss : List (List UInt8)} (h : PartsAt w b v pss) (hk : w.grownBy w1 (some b)) : PartsAt w1 b v pss := by
  obtain ⟨a, cap, hv, hr⟩ := h
  refine ⟨a, cap, hv, fun hp => ?_⟩
  obtain ⟨p, o, hne, ha, hcell⟩ := hr hp
  refine ⟨p, o, hne, ha, fun j hj => ?_⟩
  obtain ⟨x, hx, hb⟩ := hcell j hj
  exact ⟨x, hk.cell hx (by simpa using hne), hb.later hk⟩
/-- Bytes behind a slice. -/
def Bytes (w : World) (v : Value) (ps : List UInt8) : Prop :=
  ∃ a cap, v = .slice a ps.length cap ∧ ps.length ≤ cap ∧ (a = none → cap = 0) ∧ (0 < ps.length → ∃ c o, a = some ⟨c, o, none⟩ ∧ ∀ j, j < ps.length → w.cell? ⟨c, o + j, none⟩ = some (.int .u8 (ub (ps.getD j 0))))
theorem Bytes.later {w w1 : World} {v : Value} {ps : List UInt8} (h : Bytes w v ps) (hb : Below w.heap.size w w1) : Bytes w1 v ps := by
  obtain ⟨a, cap, hv, hc, hn, hr⟩ := h
  refine ⟨a, cap, hv, hc, hn, fun hp => ?_⟩
  obtain ⟨c, o, ha, hcell⟩ := hr hp
  refine ⟨c, o, ha, fun j hj => ?_⟩
  have := World.block_lt_of_cell? _ _ (hcell j hj)
  rw [hb.cell (p := ⟨c, o + j, none⟩) this]
  exact hcell j hj
/-- Bytes in a row that the call owns. -/
def OwnB (w : World) (base : Nat) (v : Value) (l : List UInt8) : Prop := w.ownsRow base 5 1 v l.length (u8s l).toList
theorem OwnB.later {w w1 : World} {base B : Nat} {v : Value} {l : List UInt8} (h : OwnB w base v l) (hb : Below B w w1) (hB : ∀ g, v.ownBlock = some g → g < B) : OwnB w1 base v l := by
  refine ⟨h.1, ?_⟩
  rcases h.2 with h0 | ⟨g, cap, cur, hv, hb', hg, hr⟩
  · exact .inl h0
  · refine .inr ⟨g, cap, cur, hv, hb', ?_, hr⟩
    rw [hb.block g (hB g (by rw [hv]; rfl))]
    exact hg
theorem OwnB.lt {w : World} {base : Nat} {v : Value} {l : List UInt8} (h : OwnB w base v l) : ∀ g, v.ownBlock = some g → g < w.heap.size ∧ base ≤ g := by
  intro g hg
  rcases h.2 with ⟨rfl, _⟩ | ⟨g', cap, cur, rfl, hb, hh, _⟩
  · cases hg
  · injection hg with hg
    subst hg
    exact ⟨(Array.getElem?_eq_some_iff.1 hh).1, hb⟩
theorem OwnB.nil (w : World) (base : Nat) : OwnB w base (.slice none 0 0) [] := ⟨rfl, .inl ⟨rfl, rfl⟩⟩
theorem Bytes.cell {w : World} {ps : List UInt8} {a : Option Addr} {n cap : Nat} (h : Bytes w (.slice a n cap) ps) (k : Nat) (hk : k < n) : ∃ c o, a = some ⟨c, o, none⟩ ∧ w.cell? ⟨c, o + k, none⟩ = some (.int .u8 (ub (ps.getD k 0))) := by
  obtain ⟨a', cap', hv, hc, hn, hr⟩ := h
  injection hv with e1 e2 e3
  subst e1
  obtain ⟨c, o, ha, hcell⟩ := hr (by omega)
  exact ⟨c, o, ha, hcell k (by omega)⟩
theorem below_a {W : World} (o : Obj) : Below W.heap.size W (W.alloc o) := (Below.refl _ _).alloc (Nat.le_refl _) _
theorem Bytes.take {w : World} {a : Option Addr} {n cap : Nat} {bs : List UInt8} (h : Bytes w (.slice a n cap) bs) (m : Nat) (hm : m ≤ n) : Bytes w (.slice a m cap) (bs.take m) := by
  obtain ⟨a', cap', hv, hc, hn, hr⟩ := h
  injection hv with e1 e2 e3
  subst e1 e3
  have hl : (bs.take m).length = m := by rw [List.length_take]; omega
  refine ⟨a, cap, by rw [hl], by omega, hn, fun hp => ?_⟩
  obtain ⟨c, o, ha, hcell⟩ := hr (by omega)
  refine ⟨c, o, ha, fun j hj => ?_⟩
  rw [hcell j (by omega)]
  simp [show j < m by omega]
/-- Parts behind a slice of slices. -/
def Parts (w : World) (v : Value) (pss : List (List UInt8)) : Prop :=
  ∃ a cap, v = .slice a pss.length cap ∧ (0 < pss.length → ∃ p o, a = some ⟨p, o, none⟩ ∧ ∀ j, j < pss.length → ∃ x, w.cell? ⟨p, o + j, none⟩ = some x ∧ Bytes w x (pss.getD j []))
/-- Values that are slices of parts. -/
def Vals (w : World) (xs : List Value) (qs : List (List UInt8)) : Prop := xs.length = qs.length ∧ ∀ j, j < xs.length → Bytes w (xs.getD j undef) (qs.getD j [])
/-- A whole array stored over a block that is known. -/
theorem wpList_store_new {P : Program} {ops : Array Oper} {rest : List Oper} {op : Oper} {a : Act} {w : World} {Q : Exit → Act → World → Prop} (hgd : op.guard = none) (ty : TypeId) (x y : Operand) (ho : op.op = .store ty x y)
    (b : Nat) (cs ds : Array Value) (t : TypeId) (hx : a.eval x = .pointer (some ⟨b, 0, none⟩)) (hy : a.eval y = .agg cs) (hrow : w.heap[b]? = some (.cells ds t (0, 0))) (hs : cs.size = ds.size)
    (hi : (P.info? ty).map (·.size) = some cs.size) (h1 : cs.all (·.oneCell') = true)
    (k : ∀ w', w' = w.setCells b 0 cs.toList → w'.heap[b]? = some (.cells cs t (0, 0)) → wpList P ops Q rest (a.put op.dst undef) w') : wpList P ops Q (op :: rest) a w :=
  wpList_store_mid hgd ty x y ho b 0 cs hx hy (there_row hrow 0 _ (by omega)) hi h1 (k _ rfl (heap_setCells_all hrow hs))
theorem Parts.later {w w1 : World} {v : Value} {pss : List (List UInt8)} (h : Parts w v pss) (hb : Below w.heap.size w w1) : Parts w1 v pss := by
  obtain ⟨a, cap, hv, hr⟩ := h
  refine ⟨a, cap, hv, fun hp => ?_⟩
  obtain ⟨p, o, ha, hcell⟩ := hr hp
  refine ⟨p, o, ha, fun j hj => ?_⟩
  obtain ⟨x, hx, hxb⟩ := hcell j hj
  exact ⟨x, by rw [hb.cell (p := ⟨p, o + j, none⟩) (World.block_lt_of_cell? _ _ hx)]; exact hx, hxb.later hb⟩
theorem Vals.later {w w1 : World} {xs : List Value} {qs : List (List UInt8)} (h : Vals w xs qs) (hb : Below w.heap.size w w1) : Vals w1 xs qs := ⟨h.1, fun j hj => (h.2 j hj).later hb⟩
/-- Bytes, and none of them in block g. -/
def BN (W : World) (g : Nat) (v : Value) (l : List UInt8) : Prop := Bytes W v l ∧ BytesAt W g v l
theorem BN.later {W W1 : World} {g : Nat} {v : Value} {l : List UInt8} (h : BN W g v l) (hk : W.grownBy W1 (some g)) : BN W1 g v l := by
  refine ⟨?_, h.2.later hk⟩
  obtain ⟨a, cap, hv, hc, hz, hr⟩ := h.1
  obtain ⟨a', cap', hv', hc', hr'⟩ := h.2.later hk
  rw [hv] at hv'
  injection hv' with e1 e2 e3
  subst e1
  exact ⟨a, cap, hv, hc, hz, fun hp => by obtain ⟨c, o, _, ha, hcell⟩ := hr' hp; exact ⟨c, o, ha, hcell⟩⟩
/-- A row of values behind a slice of slices. -/
def RowP (w : World) (x : Value) (ys : List Value) : Prop := (x = .slice none 0 0 ∧ ys = []) ∨ ∃ g o cap, x = .slice (some ⟨g, o, none⟩) ys.length cap ∧ ∀ j, j < ys.length → w.cell? ⟨g, o + j, none⟩ = some (ys.getD j undef)
/-- Parts behind a row of slices. -/
def PartsR (w : World) (x : Value) (ps : List (List UInt8)) : Prop := ∃ ys, RowP w x ys ∧ Vals w ys ps
theorem RowP.later {w w1 : World} {x : Value} {ys : List Value} (h : RowP w x ys) (hb : Below w.heap.size w w1) : RowP w1 x ys := by
  rcases h with h | ⟨g, o, cap, hx, hc⟩
  · exact .inl h
  · refine .inr ⟨g, o, cap, hx, fun j hj => ?_⟩
    rw [hb.cell (p := ⟨g, o + j, none⟩) (World.block_lt_of_cell? _ _ (hc j hj))]
    exact hc j hj
theorem PartsR.later {w w1 : World} {x : Value} {ps : List (List UInt8)} (h : PartsR w x ps) (hb : Below w.heap.size w w1) : PartsR w1 x ps := by
  obtain ⟨ys, h1, h2⟩ := h
  exact ⟨ys, h1.later hb, h2.later hb⟩
theorem Vals.cons {w : World} {xs : List Value} {qs : List (List UInt8)} (h : Vals w xs qs) {x : Value} {q : List UInt8} (hx : Bytes w x q) : Vals w ([x] ++ xs) (q :: qs) := by
  refine ⟨by simp [h.1], fun j hj => ?_⟩
  match j, hj with
  | 0, _ => exact hx
  | j + 1, hj => exact h.2 j (by simpa using hj)
theorem Bytes.nil (w : World) : Bytes w (.slice none 0 0) [] := ⟨none, 0, rfl, by simp, fun _ => rfl, fun h => absurd h (by simp)⟩
theorem Parts.nil (w : World) : Parts w (.slice none 0 0) [] := ⟨none, 0, rfl, fun h => absurd h (by simp)⟩
theorem OwnB.set {w : World} {base g n cap : Nat} {l : List UInt8} (h : OwnB w base (.slice (some ⟨g, 0, none⟩) n cap) l) (i : Nat) (x : UInt8) : OwnB (w.setCell ⟨g, i, none⟩ (.int .u8 (ub x))) base (.slice (some ⟨g, 0, none⟩) n cap) (l.set i x) := by
  refine ⟨by simp [u8s], ?_⟩
  rcases h.2 with ⟨hn, _⟩ | ⟨g', cap', cur, hv, hb, hg, h1, h2, h3, h4⟩
  · cases hn
  · injection hv with e1 e2 e3
    injection e1 with e1
    injection e1 with e1 _
    subst e1
    refine .inr ⟨g, cap', cur.setIfInBounds i (.int .u8 (ub x)), by rw [e2, e3, List.length_set], hb, heap_setCell_same _ _ _ _ _ _ hg, by rw [List.length_set]; exact h1, h2, by simpa using h3, ?_⟩
    rw [List.length_set, Array.toList_setIfInBounds, List.take_set, h4]
    simp [u8s, List.map_set]
theorem lit_i64 (n : Int) (h : (Lit.int .i64 n).wf = true) : -9223372036854775808 ≤ n ∧ n ≤ 9223372036854775807 := by
  have h2 : (decide (IntKind.i64.min ≤ n) && decide (n ≤ IntKind.i64.max)) = true := h
  rw [Bool.and_eq_true, decide_eq_true_eq, decide_eq_true_eq] at h2
  exact h2
end Go.Proofs.YtfommmkkdgdmfaaDoor
namespace Go.Proofs.YtfommmkkdgdmfaaDoor
open Go Go.RowKit
/-- A field. -/
structure Fd where
  s : Int
  n : Int
  b : List UInt8
/-- The lowest k bytes of a number, the highest first. -/
def beN : Nat → Nat → List UInt8
  | 0, _ => []
  | k + 1, n => UInt8.ofNat (n / 256 ^ k % 256) :: beN k n
/-- How many bytes a number of a size has. -/
def wid (s : Int) : Nat := if s = 0 then 1 else if s = 1 then 2 else if s = 2 then 4 else 8
/-- A field's bytes. -/
def enc (f : Fd) : List UInt8 := if f.s = 4 then beN 2 f.b.length ++ f.b else beN (wid f.s) f.n.toNat
end Go.Proofs.YtfommmkkdgdmfaaDoor
namespace Go.Proofs.YtfommmkkdgdmfaaDoor
open Go Go.RowKit
/-- A field, as a value. -/
def IsF (w : World) (v : Value) (f : Fd) : Prop := ∃ vb, v = .agg #[.int .i64 f.s, .int .i64 f.n, vb] ∧ Bytes w vb f.b
theorem IsF.later {w w1 : World} {v : Value} {f : Fd} (h : IsF w v f) (hb : Below w.heap.size w w1) : IsF w1 v f := by
  obtain ⟨vb, hv, h⟩ := h
  exact ⟨vb, hv, h.later hb⟩
end Go.Proofs.YtfommmkkdgdmfaaDoor
namespace Go.Proofs.YtfommmkkdgdmfaaDoor
open Go Go.RowKit
end Go.Proofs.YtfommmkkdgdmfaaDoor
namespace Go.Proofs.YtfommmkkdgdmfaaDoor
open Go Go.RowKit
end Go.Proofs.YtfommmkkdgdmfaaDoor
namespace Go.Proofs.YtfommmkkdgdmfaaDoor
open Go Go.RowKit
end Go.Proofs.YtfommmkkdgdmfaaDoor
namespace Go.Proofs.YtfommmkkdgdmfaaDoor
open Go Go.RowKit
end Go.Proofs.YtfommmkkdgdmfaaDoor
namespace Go.Proofs.YtfommmkkdgdmfaaDoor
open Go Go.RowKit
/-- A row of numbers. -/
def Ints (w : World) (v : Value) (ns : List Int) : Prop :=
  ∃ a cap, v = .slice a ns.length cap ∧ ns.length ≤ cap ∧ (a = none → cap = 0) ∧ (0 < ns.length → ∃ c o, a = some ⟨c, o, none⟩ ∧ ∀ i, i < ns.length → w.cell? ⟨c, o + i, none⟩ = some (.int .i64 (ns.getD i 0)))
theorem Ints.later {w w1 : World} {v : Value} {ns : List Int} (h : Ints w v ns) (hb : Below w.heap.size w w1) : Ints w1 v ns := by
  obtain ⟨a, cap, hv, hc, hn, hr⟩ := h
  refine ⟨a, cap, hv, hc, hn, fun hp => ?_⟩
  obtain ⟨c, o, ha, hf⟩ := hr hp
  refine ⟨c, o, ha, fun i hi => ?_⟩
  rw [hb.cell (p := ⟨c, o + i, none⟩) (World.block_lt_of_cell? _ _ (hf i hi))]
  exact hf i hi
/-- The cells of numbers. -/
def i64s (ns : List Int) : List Value := ns.map fun n => Value.int .i64 n
theorem i64s_get (ns : List Int) (i : Nat) (h : i < ns.length) : (i64s ns)[i]? = some (.int .i64 (ns.getD i 0)) := by
  unfold i64s
  rw [List.getElem?_map, List.getElem?_eq_getElem h, List.getD_eq_getElem?_getD, List.getElem?_eq_getElem h]
  rfl
/-- A row of numbers that the call has made. -/
def OwnI (w : World) (base : Nat) (v : Value) (ns : List Int) : Prop := w.ownsRow base 3 1 v ns.length (i64s ns)
theorem OwnI.nil (w : World) (base : Nat) : OwnI w base (.slice none 0 0) [] := ⟨rfl, .inl ⟨rfl, rfl⟩⟩
theorem OwnI.later {w w1 : World} {base B : Nat} {v : Value} {ns : List Int} (h : OwnI w base v ns) (hb : Below B w w1) (hB : ∀ g, v.ownBlock = some g → g < B) : OwnI w1 base v ns := by
  obtain ⟨hl, hr⟩ := h
  refine ⟨hl, ?_⟩
  rcases hr with h | ⟨g, cap, cur, hv, hc, h1, h2, h3, h4⟩
  · exact .inl h
  · refine .inr ⟨g, cap, cur, hv, hc, ?_, h2, h3, h4⟩
    rw [hb.block g (hB g (by rw [hv]; rfl))]
    exact h1
theorem OwnI.lt {w : World} {base : Nat} {v : Value} {ns : List Int} (h : OwnI w base v ns) : ∀ g, v.ownBlock = some g → g < w.heap.size ∧ base ≤ g := by
  intro g hg
  rcases h.2 with ⟨rfl, _⟩ | ⟨g', cap, cur, rfl, hb, hh, _⟩
  · cases hg
  · injection hg with hg
    subst hg
    exact ⟨(Array.getElem?_eq_some_iff.1 hh).1, hb⟩
end Go.Proofs.YtfommmkkdgdmfaaDoor
namespace Go.Proofs.YtfommmkkdgdmfaaDoor
open Go Go.RowKit
end Go.Proofs.YtfommmkkdgdmfaaDoor
namespace Go.Proofs.YtfommmkkdgdmfaaDoor
open Go Go.RowKit
/-- Is a number a reason? -/
def isRe (e : Int) : Bool := decide (1 ≤ e) && decide (e ≤ 15)
theorem isRe_iff (e : Int) : isRe e = true ↔ 1 ≤ e ∧ e ≤ 15 := by simp [isRe]
/-- A reason is counted n times more. -/
def addC (top : Int) (cs : List Int) (k : Nat) (n : Int) : List Int := cs.set k (min top (cs.getD k 0 + n))
/-- Counts that may be: none of them above the top, none at 0. -/
structure Cts (top : Int) (cs : List Int) : Prop where
  len : cs.length = 16
  zero : cs.getD 0 0 = 0
  low : ∀ k, 0 ≤ cs.getD k 0
  high : ∀ k, cs.getD k 0 ≤ top
  top1 : 1 ≤ top
  top2 : top ≤ 2147483647
/-- Drops in their block. -/
def DB (W : World) (q : Nat) (top : Int) (cs : List Int) : Prop := W.heap[q]? = some (.cells (Value.int .i64 top :: i64s cs).toArray 46 (0, 0))
theorem DB.lt {W : World} {q : Nat} {top : Int} {cs : List Int} (h : DB W q top cs) : q < W.heap.size := (Array.getElem?_eq_some_iff.1 h).1
theorem DB.later {W W1 : World} {q : Nat} {top : Int} {cs : List Int} (h : DB W q top cs) (hb : Below W.heap.size W W1) : DB W1 q top cs := (hb.block q h.lt).trans h
theorem DB.cell {W : World} {q : Nat} {top : Int} {cs : List Int} (h : DB W q top cs) (k : Nat) (hk : k < cs.length) : W.cell? ⟨q, 1 + k, none⟩ = some (.int .i64 (cs.getD k 0)) := by
  rw [cell_of_row _ _ _ _ _ _ h, List.getElem?_toArray, Nat.add_comm, List.getElem?_cons_succ]
  exact i64s_get cs k hk
theorem DB.top {W : World} {q : Nat} {top : Int} {cs : List Int} (h : DB W q top cs) : W.cell? ⟨q, 0, none⟩ = some (.int .i64 top) := by
  rw [cell_of_row _ _ _ _ _ _ h]
  rfl
theorem DB.frozen {W : World} {q : Nat} {top : Int} {cs : List Int} (h : DB W q top cs) (i : Nat) : W.frozen? ⟨q, i, none⟩ = false := frozen_of_row _ _ _ _ _ h
theorem DB.set {W : World} {q : Nat} {top : Int} {cs : List Int} (h : DB W q top cs) (k : Nat) (x : Int) : DB (W.setCell ⟨q, 1 + k, none⟩ (.int .i64 x)) q top (cs.set k x) := by
  have := heap_setCell_same W q (1 + k) _ 46 (.int .i64 x) h
  unfold DB
  rw [this]
  congr 2
  rw [List.setIfInBounds_toArray, Nat.add_comm, List.set_cons_succ]
  congr 2
  simp [i64s, List.map_set]
/-- No counts yet. -/
def z16 : List Int := List.replicate 16 0
theorem Cts.start {top : Int} (h1 : 1 ≤ top) (h2 : top ≤ 2147483647) : Cts top z16 := by
  have h0 : ∀ k, z16.getD k 0 = 0 := by
    intro k
    rw [List.getD_eq_getElem?_getD, z16, List.getElem?_replicate]
    split <;> rfl
  exact ⟨rfl, rfl, fun k => by rw [h0]; omega, fun k => by rw [h0]; omega, h1, h2⟩
theorem getD_set (cs : List Int) (k j : Nat) (x : Int) : (cs.set k x).getD j 0 = if k = j ∧ j < cs.length then x else cs.getD j 0 := by
  rw [List.getD_eq_getElem?_getD, List.getD_eq_getElem?_getD, List.getElem?_set]
  by_cases h : k = j
  · subst h
    by_cases h2 : k < cs.length
    · simp [h2]
    · simp [h2]
  · simp [h]
theorem Cts.add {top : Int} {cs : List Int} (h : Cts top cs) (k : Nat) (hk : 1 ≤ k) (n : Int) (hn : 0 ≤ n) : Cts top (addC top cs k n) := by
  have h1 := h.top1
  have hx := h.low k
  refine ⟨by rw [addC, List.length_set, h.len], ?_, fun j => ?_, fun j => ?_, h.top1, h.top2⟩
  · rw [addC, getD_set, if_neg (by omega)]; exact h.zero
  · rw [addC, getD_set]
    have := h.low j
    split <;> omega
  · rw [addC, getD_set]
    have := h.high j
    split <;> omega
set_option maxRecDepth 100000 in
set_option maxHeartbeats 4000000 in
theorem made_nil (w : World) : Calls Tryd.prog 19 #[.pointer none] w fun e w' => e = .returned (.bool false) ∧ w' = w := by
  go_enter Tryd.func19, Tryd.ntmps19
  go_wp2
  go_ret
  exact ⟨rfl, rfl⟩
set_option maxRecDepth 100000 in
set_option maxHeartbeats 4000000 in
theorem made_any (q : Nat) (top : Int) (cs : List Int) (w : World) (h : DB w q top cs) (ht : 1 ≤ top) : Calls Tryd.prog 19 #[.pointer (some ⟨q, 0, none⟩)] w fun e w' => e = .returned (.bool true) ∧ w' = w := by
  have c0 := h.top
  have d0 : decide (0 < top) = true := decide_eq_true (by omega)
  clear h ht
  go_enter Tryd.func19, Tryd.ntmps19
  go_wp2
  go_ret
  exact ⟨rfl, rfl⟩
set_option maxRecDepth 100000 in
set_option maxHeartbeats 4000000 in
theorem reason_any (e : Int) (w : World) : Calls Tryd.prog 18 #[.int .i64 e] w fun x w' => x = .returned (.bool (isRe e)) ∧ w' = w := by
  unfold isRe
  by_cases h1 : 1 ≤ e
  · have d1 : decide (1 ≤ e) = true := decide_eq_true h1
    obtain ⟨r, hr⟩ : ∃ r, decide (e ≤ 15) = r := ⟨_, rfl⟩
    rw [d1, hr, Bool.true_and]
    go_enter Tryd.func18, Tryd.ntmps18
    go_wp2
    go_ret
    exact ⟨rfl, rfl⟩
  · have d1 : decide (1 ≤ e) = false := decide_eq_false h1
    rw [d1, Bool.false_and]
    go_enter Tryd.func18, Tryd.ntmps18
    go_wp2
    go_ret
    exact ⟨rfl, rfl⟩
set_option maxRecDepth 100000 in
set_option maxHeartbeats 4000000 in
theorem dnew_ok (top : Int) (w : World) (h1 : 1 ≤ top) (h2 : top ≤ 2147483647) : Calls Tryd.prog 17 #[.int .i64 top] w fun e w' => e = .returned (.tuple #[.pointer (some ⟨w.heap.size, 0, none⟩), .int .i64 0]) ∧ DB w' w.heap.size top z16 ∧ Below w.heap.size w w' := by
  have t1 : ¬ top < 1 := by omega
  have t2 : ¬ 2147483647 < top := by omega
  clear h1 h2
  go_enter Tryd.func17, Tryd.ntmps17
  go_wp2
  skip -- M1
  go_ret2
  exact ⟨rfl, hnew _ _ _ rfl, below_a _⟩
end Go.Proofs.YtfommmkkdgdmfaaDoor
namespace Go.Proofs.YtfommmkkdgdmfaaDoor
open Go Go.RowKit
set_option maxRecDepth 100000 in
set_option maxHeartbeats 4000000 in
theorem add_any (q : Nat) (top : Int) (cs : List Int) (k : Nat) (n : Int) (w : World) (h : DB w q top cs) (hc : Cts top cs) (hk : 1 ≤ k) (hk2 : k ≤ 15) (hn : 0 ≤ n) (hn2 : n ≤ 2147483647) : Calls Tryd.prog 20 #[.pointer (some ⟨q, 0, none⟩), .int .i64 (k : Int), .int .i64 n] w fun e w' => e = .returned (.tuple #[]) ∧ DB w' q top (addC top cs k n) ∧ w.grownBy w' (some q) := by
  have c0 := h.top
  have ck := h.cell k (by rw [hc.len]; omega)
  have fk := h.frozen (1 + k)
  have HB := Bx.mk h
  have h1 := hc.low k
  have h2 := hc.high k
  have h3 := hc.top2
  unfold addC
  generalize cs.getD k 0 = c at *
  obtain ⟨x, hx⟩ : ∃ x, min top (c + n) = x := ⟨_, rfl⟩
  have e0 : IntKind.i64.wrap (top - c) = top - c := by simp [IntKind.wrap_i64]; omega
  have e1 : IntKind.i64.wrap (c + if top - c < n then top - c else n) = x := by
    rw [IntKind.wrap_i64]
    split <;> omega
  rw [hx]
  have hk3 : (k : Int) < 16 := by omega
  have hk4 : (0 : Int) ≤ (k : Int) := by omega
  clear h hc hk hk2 hn hn2 h1 h2 h3 hx
  go_enter Tryd.func20, Tryd.ntmps20
  go_wp2
  skip -- M1
  go_region
  skip -- M2
  go_end0
  exact ⟨rfl, (HB.out.later (below_drewN (Below.refl _ _) _)).set k x, kb_trans (kb_drewN _ _ _) (kb_setCell _ _ _)⟩
end Go.Proofs.YtfommmkkdgdmfaaDoor
namespace Go.Proofs.YtfommmkkdgdmfaaDoor
open Go Go.RowKit
theorem DB.range {W : World} {q : Nat} {top : Int} {cs : List Int} (h : DB W q top cs) : W.rangeAt q 1 (i64s cs) := fun j v hj => by
  rw [cell_of_row _ _ _ _ _ _ h, List.getElem?_toArray, Nat.add_comm, List.getElem?_cons_succ]
  exact hj
theorem i64s_one (cs : List Int) : (i64s cs).toArray.all (·.oneCell') = true := all_oneCell_toArray fun v hv => by
  unfold i64s at hv
  simp at hv
  obtain ⟨n, -, rfl⟩ := hv
  rfl
theorem info16 (n : Nat) (h : n = 16) : (Tryd.prog.info? 33).map (·.size) = some n := by subst h; kernel_rfl
set_option maxRecDepth 100000 in
set_option maxHeartbeats 4000000 in
theorem of_nil13 (e : Int) (w : World) : Calls Tryd.prog 9 #[.pointer none, .int .i64 e] w fun x w' => x = .returned (.int .i64 0) ∧ w' = w := by
  go_enter Tryd.func9, Tryd.ntmps9
  go_wp2
  go_ret
  exact ⟨rfl, rfl⟩
set_option maxRecDepth 100000 in
set_option maxHeartbeats 4000000 in
theorem of_any13 (q : Nat) (top : Int) (cs : List Int) (e : Int) (w : World) (h : DB w q top cs) (hc : cs.length = 16) : Calls Tryd.prog 9 #[.pointer (some ⟨q, 0, none⟩), .int .i64 e] w fun x w' => x = .returned (.int .i64 (if isRe e = true then cs.getD e.toNat 0 else 0)) ∧ w' = w := by
  have HR := Bx.mk (reason_any e)
  by_cases hr : isRe e = true
  · rw [if_pos hr]
    obtain ⟨h1, h2⟩ := (isRe_iff e).1 hr
    obtain ⟨k, rfl⟩ : ∃ k : Nat, e = (k : Int) := ⟨e.toNat, by omega⟩
    rw [hr] at HR
    have ck := h.cell k (by omega)
    rw [Int.toNat_natCast]
    generalize cs.getD k 0 = c at *
    have hk3 : (k : Int) < 16 := by omega
    have hk4 : (0 : Int) ≤ (k : Int) := by omega
    clear h hc hr h1 h2
    go_enter Tryd.func9, Tryd.ntmps9
    go_wp2_with (refine (HR.out _).mono ?_; rintro x w2 ⟨rfl, rfl⟩)
    go_ret
    exact ⟨rfl, rfl⟩
  · rw [if_neg hr]
    rw [Bool.not_eq_true] at hr
    rw [hr] at HR
    clear h hc hr
    go_enter Tryd.func9, Tryd.ntmps9
    go_wp2_with (refine (HR.out _).mono ?_; rintro x w2 ⟨rfl, rfl⟩)
    go_ret
    exact ⟨rfl, rfl⟩
set_option maxRecDepth 100000 in
set_option maxHeartbeats 4000000 in
theorem all_nil13 (w : World) : Calls Tryd.prog 11 #[.pointer none] w fun x w' => x = .returned (.agg (i64s z16).toArray) ∧ Below w.heap.size w w' := by
  have HR : Bx ((w.alloc (.cells (i64s z16).toArray 33)).heap[w.heap.size]? = some (.cells (i64s z16).toArray 33 (0, 0))) := Bx.mk (hnew _ _ _ rfl)
  have HI := Bx.mk (info16 (i64s z16).toArray.size (by simp [i64s, z16]))
  have HO := Bx.mk (i64s_one z16)
  have HSz : Bx ((i64s z16).toArray.size = (i64s z16).toArray.size) := Bx.mk rfl
  go_enter Tryd.func11, Tryd.ntmps11
  go_wp2_with (refine wpList_store_new rfl 33 _ _ rfl w.heap.size (i64s z16).toArray _ _ (by rfl) (by rfl) HR.out HSz.out HI.out HO.out ?_; intro w2 hw2 hr2; have HR2 := Bx.mk hr2; have HB2 : Bx (Below w.heap.size w w2) := Bx.mk (by rw [hw2]; exact below_setCells (Nat.le_refl _) _ _ _ _ (below_a _)); clear hw2 hr2 HR)
  refine bodyPost_ret (results_cell_row rfl _ _ w.heap.size _ _ _ _ rfl HR2.out Tryd.underlying33 rfl HI.out) rfl ?_
  exact ⟨rfl, HB2.out⟩
set_option maxRecDepth 100000 in
set_option maxHeartbeats 4000000 in
theorem copy_nil13 (w : World) : Calls Tryd.prog 13 #[.pointer none] w fun x w' => x = .returned (.pointer none) ∧ w' = w := by
  go_enter Tryd.func13, Tryd.ntmps13
  go_wp2
  go_ret
  exact ⟨rfl, rfl⟩
end Go.Proofs.YtfommmkkdgdmfaaDoor
namespace Go.Proofs.YtfommmkkdgdmfaaDoor
open Go Go.RowKit
/-- Cells of numbers, compared. -/
def i64c13 (n : Int) : Value := .int .i64 n
theorem all_range_eqI13 : ∀ (xs ys : List Int), xs.length = ys.length → ((List.range xs.length).all fun i => xs.getD i 0 == ys.getD i 0) = (xs == ys)
  | [], [], _ => rfl
  | x :: xs, y :: ys, h => by
    have ih := all_range_eqI13 xs ys (by simpa using h)
    rw [List.length_cons, List.range_succ_eq_map, List.all_cons, List.all_map]
    simp only [List.getD_cons_zero, Function.comp_def, List.getD_cons_succ, ih]
    simp [List.cons_beq_cons]
  | [], _ :: _, h => by simp at h
  | _ :: _, [], h => by simp at h
theorem equalIn_ints13 {P : Program} (w : World) (d : Nat) (t e : TypeId) (n : Nat) (ht : P.underlying t = some (.array n e)) (he : P.underlying e = some (.int .i64)) (hsz : ∀ w, (sizeOf e).run P w = .ok 1 w)
    (xs ys : List Int) (hx : xs.length = n) (hy : ys.length = n) :
    (Op.equalIn (d + 2) t (.agg (xs.map i64c13).toArray) (.agg (ys.map i64c13).toArray)).run P w = .ok (xs == ys) w := by
  rw [← all_range_eqI13 xs ys (hx.trans hy.symm), hx, List.range_eq_range', Op.equalIn]
  simp only [Sem.run_bind, run_underlying ht, Result.andThen_ok, hsz, Std.Legacy.Range.forIn_eq_forIn_range', Std.Legacy.Range.size, Nat.sub_zero, Nat.add_sub_cancel, Nat.div_one]
  have hl : ∀ i ∈ List.range' 0 n 1, i < n := fun i hi => by simpa using (List.mem_range'_1.1 hi).2
  generalize List.range' 0 n 1 = l at hl ⊢
  induction l with
  | nil => simp
  | cons i l ih =>
    have hi : i < n := hl i (by simp)
    have px : (part e (xs.map i64c13).toArray (i * 1)).run P w = .ok (i64c13 (xs.getD i 0)) w := by
      simp [part, isAgg, run_underlying he, List.getD, List.getElem?_eq_getElem (show i < xs.length by omega)]
    have py : (part e (ys.map i64c13).toArray (i * 1)).run P w = .ok (i64c13 (ys.getD i 0)) w := by
      simp [part, isAgg, run_underlying he, List.getD, List.getElem?_eq_getElem (show i < ys.length by omega)]
    have pe : (Op.equalIn (d + 1) e (i64c13 (xs.getD i 0)) (i64c13 (ys.getD i 0))).run P w = .ok (xs.getD i 0 == ys.getD i 0) w := by
      rw [i64c13, i64c13, run_equalIn_int w d e .i64 .i64 _ _ he]
      try congr 1
    simp only [List.forIn_cons, Sem.run_bind, px, py, pe, Result.andThen_ok, List.all_cons]
    cases hb : (xs.getD i 0 == ys.getD i 0)
    · simp
    · simp only [Bool.not_true, Bool.false_eq_true, if_false, Sem.run_pure, Result.andThen_ok, Bool.true_and]
      exact ih fun j hj => hl j (by simp [hj])
theorem i64s_13 (l : List Int) : i64s l = l.map i64c13 := rfl
theorem arr_eql13 (cs ds : List Int) (hc : cs.length = 16) (hd : ds.length = 16) (W : World) : (binOp BinOp.eql 33 (.agg (i64s cs).toArray) (.agg (i64s ds).toArray)).run Tryd.prog W = .ok (.bool (cs == ds)) W := by
  have h := equalIn_ints13 (P := Tryd.prog) W 9998 33 3 16 Tryd.underlying33 Tryd.underlying3 (fun _ => by kernel_rfl) cs ds hc hd
  rw [i64s_13, i64s_13, run_eql_struct]
  exact (congrArg (fun z => z.andThen fun b w' => Result.ok (Value.bool b) w') h).trans rfl
set_option maxRecDepth 100000 in
set_option maxHeartbeats 4000000 in
theorem same_nils13 (w : World) : Calls Tryd.prog 14 #[.pointer none, .pointer none] w fun x w' => x = .returned (.bool true) ∧ w' = w := by
  go_enter Tryd.func14, Tryd.ntmps14
  go_wp2
  go_ret
  exact ⟨rfl, rfl⟩
end Go.Proofs.YtfommmkkdgdmfaaDoor
namespace Go.Proofs.YtfommmkkdgdmfaaDoor
open Go Go.RowKit
set_option maxRecDepth 100000 in
set_option maxHeartbeats 4000000 in
theorem each_cap (q : Nat) (g : Nat) (lb : Array Value) (I : Nat → World → Prop) (w : World) (eg : ∀ args w, (callFunc g args).run Tryd.prog w = .ok (.enter g args) w) (h0 : I 1 w)
    (hstep : ∀ (k : Nat) (w' : World), 1 ≤ k → k ≤ 15 → I k w' → ∃ c : Int, w'.cell? ⟨q, 1 + k, none⟩ = some (.int .i64 c) ∧ Calls Tryd.prog g (#[.int .i64 (k : Int), .int .i64 c] ++ lb) w' fun e w'' => e = .returned (.tuple #[]) ∧ I (k + 1) w'') :
    Calls Tryd.prog 15 #[.pointer (some ⟨q, 0, none⟩), .func (.func g) #[] lb] w fun e w' => e = .returned (.tuple #[]) ∧ I 16 w' := by
  have HS := Bx.mk hstep
  have H0 := Bx.mk h0
  clear hstep h0
  go_enter Tryd.func15, Tryd.ntmps15
  go_wp2
  go_loopw [4] (fun i wr => ∃ k : Nat, 1 ≤ k ∧ k ≤ 16 ∧ i = .int .i64 (k : Int) ∧ Bx (I k wr)) (fun i _ => 16 - (intOf i).toNat)
  case atStart => exact ⟨1, by omega, by omega, rfl, H0⟩
  case round =>
    clear H0
    obtain ⟨k, hk1, hk2, rfl, HI⟩ := hrel
    by_cases hlt : k ≤ 15
    · have t1 : (k : Int) ≤ 15 := by omega
      have t2 : (k : Int) < 16 := by omega
      have t3 : (0 : Int) ≤ (k : Int) := by omega
      obtain ⟨c, ck, HC⟩ := HS.out k _ hk1 hlt HI.out
      have HC := Bx.mk HC
      clear HI
      go_wp2_with (go_at_fn g; refine HC.out.mono ?_; rintro e w1 ⟨rfl, h1⟩; have H1 := Bx.mk h1; clear h1)
      go_roundw
      case rel => exact ⟨k + 1, by omega, by omega, by go_num, H1⟩
      case measure => simp [intOf]; omega
    · obtain rfl : k = 16 := by omega
      go_wp2
      go_end0
      exact ⟨rfl, HI.out⟩
set_option maxRecDepth 100000 in
set_option maxHeartbeats 4000000 in
theorem each_nil (v : Value) (w : World) : Calls Tryd.prog 15 #[.pointer none, v] w fun e w' => e = .returned (.tuple #[]) ∧ w' = w := by
  go_enter Tryd.func15, Tryd.ntmps15
  go_wp2
  refine bodyPost_ret (results_none rfl _ _ _) rfl ?_
  exact ⟨rfl, rfl⟩
end Go.Proofs.YtfommmkkdgdmfaaDoor
namespace Go.Proofs.YtfommmkkdgdmfaaDoor
open Go Go.RowKit
/-- A number in its own block. -/
def BoxI (T : TypeId) (W : World) (X : Nat) (s : Int) : Prop := W.heap[X]? = some (.cells #[.int .i64 s] T (0, 0))
theorem BoxI.lt {T : TypeId} {W : World} {X : Nat} {s : Int} (h : BoxI T W X s) : X < W.heap.size := (Array.getElem?_eq_some_iff.1 h).1
theorem BoxI.later {T : TypeId} {W W1 : World} {X : Nat} {s : Int} (h : BoxI T W X s) (hb : Below W.heap.size W W1) : BoxI T W1 X s := (hb.block X h.lt).trans h
theorem BoxI.cell {T : TypeId} {W : World} {X : Nat} {s : Int} (h : BoxI T W X s) : W.cell? ⟨X, 0, none⟩ = some (.int .i64 s) := by rw [cell_of_row _ _ _ _ _ _ h]; rfl
theorem BoxI.frozen {T : TypeId} {W : World} {X : Nat} {s : Int} (h : BoxI T W X s) : W.frozen? ⟨X, 0, none⟩ = false := frozen_of_row _ _ _ _ _ h
theorem BoxI.set {T : TypeId} {W : World} {X : Nat} {s : Int} (h : BoxI T W X s) (x : Int) : BoxI T (W.setCell ⟨X, 0, none⟩ (.int .i64 x)) X x := by
  have := heap_setCell_same W X 0 _ T (.int .i64 x) h
  exact this
theorem boxI_new (T : TypeId) (W : World) (s : Int) : BoxI T (W.alloc (.cells #[.int .i64 s] T)) W.heap.size s := hnew _ _ _ rfl
theorem grown_belowD {w w1 : World} {p : Nat} (h : w.grownBy w1 (some p)) {B : Nat} (hB : B ≤ p) (hs : B ≤ w.heap.size) : Below B w w1 := ⟨h.os, h.tape, h.output, h.size, fun i hi => h.block i (by omega) (fun e => by injection e with e; omega)⟩
/-- All counts below a number, together. -/
def totC (cs : List Int) : Nat → Int
  | 0 => 0
  | k + 1 => totC cs k + cs.getD k 0
theorem totC_bound {top : Int} {cs : List Int} (h : Cts top cs) (k : Nat) : 0 ≤ totC cs k ∧ totC cs k ≤ (k : Int) * 2147483647 := by
  induction k with
  | zero => exact ⟨Int.le_refl 0, by simp [totC]⟩
  | succ k ih =>
    have h1 := h.low k
    have h2 := h.high k
    have h3 := h.top2
    unfold totC
    omega
set_option maxRecDepth 100000 in
set_option maxHeartbeats 4000000 in
theorem total1_any (X : Nat) (s e n : Int) (w : World) (h : BoxI 3 w X s) (hs : 0 ≤ s) (hs2 : s ≤ 100000000000) (hn : 0 ≤ n) (hn2 : n ≤ 2147483647) : Calls Tryd.prog 21 #[.int .i64 e, .int .i64 n, .pointer (some ⟨X, 0, none⟩)] w fun x w' => x = .returned (.tuple #[]) ∧ BoxI 3 w' X (s + n) ∧ w.grownBy w' (some X) := by
  have c0 := h.cell
  have f0 := h.frozen
  have HB := Bx.mk h
  have e1 : IntKind.i64.wrap (s + n) = s + n := by simp [IntKind.wrap_i64]; omega
  clear h hs hs2 hn hn2
  go_enter Tryd.func21, Tryd.ntmps21
  go_wp2
  go_end0
  exact ⟨rfl, HB.out.set _, kb_setCell _ _ _⟩
set_option maxRecDepth 100000 in
set_option maxHeartbeats 4000000 in
theorem total_nil13 (w : World) : Calls Tryd.prog 10 #[.pointer none] w fun x w' => x = .returned (.int .i64 0) ∧ Below w.heap.size w w' := by
  have hmf : ∀ (fn : Fn) (first cap : Array Value) (w : World), (Instr.makeFunc fn first cap).run Tryd.prog w = .ok (.func fn first cap) w := fun _ _ _ _ => rfl
  have HX : Bx (BoxI 3 (w.alloc (.cells #[.int .i64 0] 3)) w.heap.size 0 ∧ Below w.heap.size w (w.alloc (.cells #[.int .i64 0] 3))) := Bx.mk ⟨boxI_new 3 w 0, below_a _⟩
  go_enter Tryd.func10, Tryd.ntmps10
  go_upto_region 2 with fail
  generalize w.alloc (.cells #[.int .i64 0] 3) = w1 at *
  go_wp2_with fail
  refine (each_nil _ w1).mono ?_
  rintro e w2 ⟨rfl, rfl⟩
  have c0 := HX.out.1.cell
  go_wp2
  go_ret
  exact ⟨rfl, HX.out.2⟩
set_option maxRecDepth 100000 in
set_option maxHeartbeats 4000000 in
theorem total_any13 (q : Nat) (top : Int) (cs : List Int) (w : World) (h : DB w q top cs) (hc : Cts top cs) : Calls Tryd.prog 10 #[.pointer (some ⟨q, 0, none⟩)] w fun x w' => x = .returned (.int .i64 (totC cs 16)) ∧ Below w.heap.size w w' := by
  have hmf : ∀ (fn : Fn) (first cap : Array Value) (w : World), (Instr.makeFunc fn first cap).run Tryd.prog w = .ok (.func fn first cap) w := fun _ _ _ _ => rfl
  have HX : Bx (BoxI 3 (w.alloc (.cells #[.int .i64 0] 3)) w.heap.size 0 ∧ Below w.heap.size w (w.alloc (.cells #[.int .i64 0] 3))) := Bx.mk ⟨boxI_new 3 w 0, below_a _⟩
  have HW := Bx.mk h
  have HC := Bx.mk hc
  have hq := h.lt
  clear h hc
  go_enter Tryd.func10, Tryd.ntmps10
  go_upto_region 2 with fail
  generalize w.alloc (.cells #[.int .i64 0] 3) = w1 at *
  go_wp2_with fail
  refine (each_cap q 21 #[.pointer (some ⟨w.heap.size, 0, none⟩)] (fun k W => BoxI 3 W w.heap.size (totC cs k) ∧ Below w.heap.size w W) w1 (fun args w => by kernel_rfl) ?_ ?_).mono ?_
  · exact ⟨by rw [show totC cs 1 = 0 by unfold totC totC; have := HC.out.zero; omega]; exact HX.out.1, HX.out.2⟩
  · intro k W hk1 hk2 hI
    have hb := totC_bound HC.out k
    refine ⟨cs.getD k 0, ((HW.out.later hI.2).cell k (by rw [HC.out.len]; omega)), ?_⟩
    refine (total1_any w.heap.size (totC cs k) (k : Int) (cs.getD k 0) W hI.1 hb.1 (by omega) (HC.out.low k) (by have := HC.out.high k; have := HC.out.top2; omega)).mono ?_
    rintro e W2 ⟨rfl, h1, h2⟩
    exact ⟨rfl, h1, hI.2.trans (grown_belowD h2 (Nat.le_refl _) hI.2.size)⟩
  · rintro e w2 ⟨rfl, h1, h2⟩
    have c0 := h1.cell
    have HB := Bx.mk h2
    clear h1 h2 HX
    go_wp2
    go_ret
    exact ⟨rfl, HB.out⟩
set_option maxRecDepth 100000 in
set_option maxHeartbeats 4000000 in
theorem worst_nil13 (w : World) : Calls Tryd.prog 5 #[.pointer none] w fun x w' => x = .returned (.tuple #[.int .i64 0, .int .i64 0]) ∧ Below w.heap.size w w' := by
  have hmf : ∀ (fn : Fn) (first cap : Array Value) (w : World), (Instr.makeFunc fn first cap).run Tryd.prog w = .ok (.func fn first cap) w := fun _ _ _ _ => rfl
  have HX : Bx (BoxI 3 ((w.alloc (.cells #[.int .i64 0] 25)).alloc (.cells #[.int .i64 0] 3)) (w.heap.size + 1) 0 ∧ BoxI 25 ((w.alloc (.cells #[.int .i64 0] 25)).alloc (.cells #[.int .i64 0] 3)) w.heap.size 0 ∧ Below w.heap.size w ((w.alloc (.cells #[.int .i64 0] 25)).alloc (.cells #[.int .i64 0] 3))) := Bx.mk (by
    have a1 := boxI_new 25 w 0
    have a2 := a1.later (below_a (.cells #[.int .i64 0] 3))
    have a3 := boxI_new 3 (w.alloc (.cells #[.int .i64 0] 25)) 0
    rw [show (w.alloc (.cells #[.int .i64 0] 25)).heap.size = w.heap.size + 1 by simp] at a3
    exact ⟨a3, a2, (below_a _).trans ((below_a _).mono (by simp))⟩)
  go_enter Tryd.func5, Tryd.ntmps5
  go_upto_region 2 with fail
  skip -- M1
  generalize ((w.alloc (.cells #[.int .i64 0] 25)).alloc (.cells #[.int .i64 0] 3)) = w1 at *
  go_wp2_with fail
  refine (each_nil _ w1).mono ?_
  rintro e w2 ⟨rfl, rfl⟩
  have c0 := HX.out.1.cell
  have c1 := HX.out.2.1.cell
  go_wp2
  go_quiet (fail)
  skip -- M2
  go_wp2
  go_ret2
  exact ⟨rfl, below_drewN HX.out.2.2 _⟩
end Go.Proofs.YtfommmkkdgdmfaaDoor
namespace Go.Proofs.YtfommmkkdgdmfaaDoor
open Go Go.RowKit
set_option maxRecDepth 100000 in
set_option maxHeartbeats 4000000 in
theorem join_nil13 (v : Value) (w : World) : Calls Tryd.prog 12 #[.pointer none, v] w fun x w' => x = .returned (.int .i64 11) ∧ w' = w := by
  go_enter Tryd.func12, Tryd.ntmps12
  go_wp2_with (refine (made_nil _).mono ?_; rintro x w2 ⟨rfl, rfl⟩)
  go_ret
  exact ⟨rfl, rfl⟩
/-- One number is counted, if it is a reason. -/
def stepC (top : Int) (cs : List Int) (e : Int) : List Int := if isRe e = true then addC top cs e.toNat 1 else cs
/-- All of a list. -/
def cntC (top : Int) (cs : List Int) (l : List Int) : List Int := l.foldl (stepC top) cs
theorem cntC_take (top : Int) (cs l : List Int) (k : Nat) (hk : k < l.length) : cntC top cs (l.take (k + 1)) = stepC top (cntC top cs (l.take k)) (l.getD k 0) := by
  unfold cntC
  rw [List.take_add_one, List.foldl_append, List.getElem?_eq_getElem hk, List.getD_eq_getElem?_getD, List.getElem?_eq_getElem hk]
  rfl
theorem stepC_cts {top : Int} {cs : List Int} (h : Cts top cs) (e : Int) : Cts top (stepC top cs e) := by
  unfold stepC
  split
  · rename_i he
    have := (isRe_iff e).1 he
    exact h.add _ (by omega) 1 (by omega)
  · exact h
theorem cntC_cts {top : Int} {cs : List Int} (h : Cts top cs) (l : List Int) : Cts top (cntC top cs l) := by
  unfold cntC
  induction l generalizing cs with
  | nil => exact h
  | cons e l ih => exact ih (stepC_cts h e)
/-- How many of a list are reasons. -/
def reaN (l : List Int) : Nat := (l.filter isRe).length
theorem reaN_take (l : List Int) (k : Nat) (hk : k < l.length) : reaN (l.take (k + 1)) = reaN (l.take k) + if isRe (l.getD k 0) = true then 1 else 0 := by
  unfold reaN
  rw [List.take_add_one, List.filter_append, List.getElem?_eq_getElem hk, List.getD_eq_getElem?_getD, List.getElem?_eq_getElem hk, List.length_append]
  congr 1
  show (List.filter isRe [l[k]]).length = if isRe l[k] = true then 1 else 0
  by_cases h : isRe l[k] = true
  · rw [if_pos h]; simp [h]
  · rw [if_neg h]; simp [h]
theorem reaN_le (l : List Int) : reaN l ≤ l.length := List.length_filter_le _ _
set_option maxRecDepth 100000 in
set_option maxHeartbeats 4000000 in
theorem count_nil13 (v : Value) (w : World) : Calls Tryd.prog 8 #[.pointer none, v] w fun x w' => x = .returned (.int .i64 0) ∧ w' = w := by
  go_enter Tryd.func8, Tryd.ntmps8
  go_wp2_with (refine (made_nil _).mono ?_; rintro x w2 ⟨rfl, rfl⟩)
  go_ret
  exact ⟨rfl, rfl⟩
set_option maxRecDepth 100000 in
set_option maxHeartbeats 4000000 in
theorem count_any13 (q : Nat) (top : Int) (cs l : List Int) (v : Value) (w : World) (h : DB w q top cs) (hc : Cts top cs) (hv : Ints w v l) (hl : l.length ≤ 100000) (hap : ∀ W, w.grownBy W (some q) → Ints W v l) : Calls Tryd.prog 8 #[.pointer (some ⟨q, 0, none⟩), v] w fun x w' => x = .returned (.int .i64 (reaN l : Int)) ∧ DB w' q top (cntC top cs l) ∧ w.grownBy w' (some q) := by
  have HM := Bx.mk (made_any q top cs w h hc.top1)
  have HA : Bx (∀ W, w.grownBy W (some q) → Ints W v l) := Bx.mk hap
  have H0 : Bx (DB w q top (cntC top cs (l.take 0)) ∧ w.grownBy w (some q)) := Bx.mk ⟨h, kb_refl _ _⟩
  have HC := Bx.mk hc
  obtain ⟨a, cap, rfl, -⟩ := hv
  obtain ⟨n, hn⟩ : ∃ n, l.length = n := ⟨_, rfl⟩
  have HN := Bx.mk hn
  rw [hn] at hl HA ⊢
  have hl1 : (n : Int) ≤ 100000 := by omega
  clear h hc hap hn
  go_enter Tryd.func8, Tryd.ntmps8
  go_wp2_with (refine HM.out.mono ?_; rintro x w2 ⟨rfl, hw⟩; obtain rfl : w = w2 := hw.symm; clear hw)
  clear HM
  go_loopw [5, 13] (fun c i wr => ∃ k : Nat, k ≤ n ∧ i = .int .i64 (k : Int) ∧ c = .int .i64 (reaN (l.take k) : Int) ∧ Bx (DB wr q top (cntC top cs (l.take k)) ∧ w.grownBy wr (some q))) (fun _ i _ => n - (intOf i).toNat)
  case atStart => exact ⟨0, by omega, rfl, rfl, H0⟩
  case round =>
    clear H0
    obtain ⟨k, hk, rfl, rfl, HB⟩ := hrel
    by_cases hlt : k < n
    · have t1 : (k : Int) < (n : Int) := by omega
      have t3 : (0 : Int) ≤ (k : Int) := by omega
      obtain ⟨a', cap', hv', -, -, hr⟩ := HA.out wr HB.out.2
      injection hv' with e1 e2 e3
      subst e1
      clear e2 e3
      obtain ⟨g, o, rfl, hf⟩ := hr (by rw [HN.out]; omega)
      have ck := hf k (by rw [HN.out]; exact hlt)
      have HS := Bx.mk (cntC_take top cs l k (by rw [HN.out]; exact hlt))
      have HR := Bx.mk (reaN_take l k (by rw [HN.out]; exact hlt))
      have HL : Bx (reaN (l.take k) ≤ k) := Bx.mk (Nat.le_trans (reaN_le _) (by rw [List.length_take]; omega))
      generalize l.getD k 0 = e at *
      clear hr hf
      have HRe := Bx.mk (reason_any e)
      by_cases he : isRe e = true
      · obtain ⟨h1, h2⟩ := (isRe_iff e).1 he
        obtain ⟨j, rfl⟩ : ∃ j : Nat, e = (j : Int) := ⟨e.toNat, by omega⟩
        unfold stepC at HS
        rw [if_pos he, Int.toNat_natCast] at HS
        rw [if_pos he] at HR
        rw [he] at HRe
        have HAd := Bx.mk (add_any q top _ j 1 wr HB.out.1 (cntC_cts HC.out _) (by omega) (by omega) (by omega) (by omega))
        rw [← HS.out] at HAd
        have HG := Bx.mk HB.out.2
        clear he h1 h2 HB HS
        go_wp2_with (first | (refine (HRe.out _).mono ?_; rintro x w2 ⟨rfl, rfl⟩) | (refine HAd.out.mono ?_; rintro x w3 ⟨rfl, h1, h2⟩; have HB := Bx.mk (And.intro h1 (kb_trans HG.out h2)); clear h1 h2))
        go_roundw
        case rel => exact ⟨k + 1, by omega, by go_num, by have h := HL.out; rw [HR.out]; generalize reaN (l.take k) = m at *; have h2 : (m : Int) ≤ 100000 := (by omega); congr 1; unfold wrap64; omega, HB⟩
        case measure => simp [intOf]; omega
      · unfold stepC at HS
        rw [if_neg he] at HS HR
        rw [Bool.not_eq_true] at he
        rw [he] at HRe
        rw [← HS.out] at HB
        clear he HS
        go_wp2_with (refine (HRe.out _).mono ?_; rintro x w2 ⟨rfl, rfl⟩)
        go_roundw
        case rel => exact ⟨k + 1, by omega, by go_num, by rw [HR.out, Nat.add_zero], HB⟩
        case measure => simp [intOf]; omega
    · obtain rfl : k = n := by omega
      have HB2 := HB.out
      rw [List.take_of_length_le (by rw [HN.out]; exact Nat.le_refl _)] at HB2
      have HB3 := Bx.mk HB2
      have HE : Bx (reaN (l.take k) = reaN l) := Bx.mk (by rw [List.take_of_length_le (by rw [HN.out]; exact Nat.le_refl _)])
      clear HB HB2
      go_wp2
      go_ret
      exact ⟨by rw [HE.out]; rfl, HB3.out.1, HB3.out.2⟩
end Go.Proofs.YtfommmkkdgdmfaaDoor
namespace Go.Proofs.YtfommmkkdgdmfaaDoor
open Go Go.RowKit
theorem Ints.aside13 {w W : World} {q : Nat} {v : Value} {ns : List Int} (h : Ints w v ns) (hne : ∀ c o n cap, v = .slice (some ⟨c, o, none⟩) n cap → c ≠ q) (hg : w.grownBy W (some q)) : Ints W v ns := by
  obtain ⟨a, cap, hv, hc, hn, hr⟩ := h
  refine ⟨a, cap, hv, hc, hn, fun hp => ?_⟩
  obtain ⟨c, o, ha, hf⟩ := hr hp
  have hcq : c ≠ q := hne c o _ cap (by rw [hv, ha])
  exact ⟨c, o, ha, fun i hi => hg.cell (hf i hi) (by simpa using hcq)⟩
theorem ints_row13 {W : World} {g : Nat} {ns : List Int} {T : TypeId} (h : W.heap[g]? = some (.cells (i64s ns).toArray T (0, 0))) (n : Nat) (hn : ns.length = n) : Ints W (.slice (some ⟨g, 0, none⟩) n n) ns := by
  subst hn
  refine ⟨_, ns.length, rfl, Nat.le_refl _, (fun h => by cases h), fun _ => ⟨g, 0, rfl, fun i hi => ?_⟩⟩
  rw [cell_of_row _ _ _ _ _ _ h, Nat.zero_add, List.getElem?_toArray]
  exact i64s_get ns i hi
set_option maxRecDepth 100000 in
set_option maxHeartbeats 4000000 in
theorem known13_any (w : World) : Calls Tryd.prog 6 #[] w fun e w' => e = .returned (.bool true) ∧ Below w.heap.size w w' := by
  have C0 : Bx (Cts 2 z16) := Bx.mk (Cts.start (by omega) (by omega))
  have C1 : Bx (Cts 2 (cntC 2 z16 [3, 3, 3, 5])) := Bx.mk (cntC_cts C0.out _)
  have g3 : (if isRe 3 = true then (cntC 2 z16 [3, 3, 3, 5]).getD (3 : Int).toNat 0 else 0) = 2 := by decide
  have g5 : (if isRe 5 = true then (cntC 2 z16 [3, 3, 3, 5]).getD (5 : Int).toNat 0 else 0) = 1 := by decide
  have gt : totC (cntC 2 z16 [3, 3, 3, 5]) 16 = 3 := by decide
  have G3 := Bx.mk g3
  have G5 := Bx.mk g5
  have GT := Bx.mk gt
  clear g3 g5 gt
  go_enter Tryd.func6, Tryd.ntmps6
  go_wp2_with fail
  refine (dnew_ok 2 w (by omega) (by omega)).mono ?_
  rintro e w1 ⟨rfl, hd, hb⟩
  have H1 : Bx (DB (w1.alloc (.cells (i64s [3, 3, 3, 5]).toArray 25)) w.heap.size 2 z16 ∧ Ints (w1.alloc (.cells (i64s [3, 3, 3, 5]).toArray 25)) (.slice (some ⟨w1.heap.size, 0, none⟩) 4 4) [3, 3, 3, 5] ∧ Below w.heap.size w (w1.alloc (.cells (i64s [3, 3, 3, 5]).toArray 25)) ∧ w.heap.size < w1.heap.size) := Bx.mk ⟨hd.later (below_a _), ints_row13 (hnew _ _ _ rfl) 4 rfl, hb.trans ((below_a _).mono hb.size), hd.lt⟩
  clear hd hb
  generalize hw : w1.alloc (.cells (i64s [3, 3, 3, 5]).toArray 25) = w2 at H1
  have hw' : w1.alloc (.cells #[.int .i64 3, .int .i64 3, .int .i64 3, .int .i64 5] 25) = w2 := hw
  have HW := Bx.mk hw'
  clear hw hw'
  skip -- M1
  go_wp2_with fail
  skip -- M2
  rw [HW.out]
  refine (count_any13 w.heap.size 2 z16 [3, 3, 3, 5] _ w2 H1.out.1 C0.out H1.out.2.1 (by decide) (fun W hg => H1.out.2.1.aside13 (fun c o n cap h => by injection h with h; injection h with h; injection h with h; have := H1.out.2.2.2; omega) hg)).mono ?_
  rintro e w3 ⟨rfl, h1, h2⟩
  have H3 := Bx.mk (And.intro h1 (H1.out.2.2.1.trans (grown_belowD h2 (Nat.le_refl _) H1.out.2.2.1.size)))
  clear h1 h2
  skip -- M3
  go_wp2_with fail
  skip -- M4
  refine (of_any13 w.heap.size 2 _ 3 _ H3.out.1 C1.out.len).mono ?_
  rw [G3.out]
  rintro e w4 ⟨rfl, hw⟩
  obtain rfl : w3 = w4 := hw.symm
  clear hw
  go_wp2_with fail
  skip -- M5
  refine (of_any13 w.heap.size 2 _ 5 _ H3.out.1 C1.out.len).mono ?_
  rw [G5.out]
  rintro e w4 ⟨rfl, hw⟩
  obtain rfl : w3 = w4 := hw.symm
  clear hw
  go_wp2_with fail
  refine (total_any13 w.heap.size 2 _ _ H3.out.1 C1.out).mono ?_
  rw [GT.out]
  rintro e w4 ⟨rfl, hb⟩
  have H4 := Bx.mk (H3.out.2.trans (hb.mono H3.out.2.size))
  clear hb
  go_wp2
  go_ret
  exact ⟨rfl, H4.out⟩
end Go.Proofs.YtfommmkkdgdmfaaDoor
namespace Go.Proofs.YtfommmkkdgdmfaaDoor
open Go Go.ChangeShapes Go.WideShapes Go.ChangeAt Go.RowKit
theorem own : ownKnob Tryd.prog.godebug = none := by kernel_rfl
end Go.Proofs.YtfommmkkdgdmfaaDoor
