/-
  What many texts want: bytes, rows that a call owns, frames.
-/
import Derived.Laws.BitsAllLaws
import Derived.IntWalk
import Derived.Laws.Rows
import Derived.Below
import Derived.WalkKit
import Derived.ProofKit
import Derived.Handy
import Derived.PlainAid
import Derived.WalkLawsBesides
import Derived.Outline
import Derived.BigQuiet
import Derived.Deep.QuietTactic
import Derived.Lib.Hide
import Derived.Deep.MidRow
import Derived.Deep.RegionHeld3
import Derived.Deep.Cut
import Derived.Laws.MakeOwn
import Derived.Laws.CopyOwn
import Derived.Maps.AppendAt
import Derived.Laws.AppendOwnNone
import Derived.Lib.BufferRead
import Derived.Laws.IdiomStrings
import Derived.RegionTactic
import Derived.Control
import Derived.Deep.LoopGhost
import Derived.StillTailTactics
import Derived.Stop.BytesEq
import Derived.OwnWalk
import Derived.Lib.SlBytesConst
import Derived.WalkMore
import Derived.ChangeKeysEq
import Derived.OpenShut
import Derived.ShutString
import Derived.ChangeOld
import Derived.Deep.DeepHandedRow
import Derived.Lib.LaidTab
import Derived.Deep.Matrix
import Derived.Test.YtfommmkkdgdmfaaProg
import Derived.Laws.Pointers
import Derived.Shelf.Abstract
namespace Go.Proofs.Ytfommmkkdgdmfaa
open Go Go.RowKit Go.ChangeShapes Go.WideShapes Go.ChangeAt
/-- A fact that is put away: the walk sees nothing of it. -/
structure Bx (p : Prop) : Prop where
  out : p
/-- A byte as the model's integer. -/
def ub (b : UInt8) : Int := (b.toNat : Int)
/-- Bytes as cells. -/
def u8s (l : List UInt8) : Array Value := (l.map fun x => Value.int .u8 (ub x)).toArray
theorem hnew (w : World) (o : Obj) (i : Nat) (h : i = w.heap.size) : (w.alloc o).heap[i]? = some o := by
  subst h
  show (w.heap.push o)[w.heap.size]? = some o
  simp
theorem size_setCells (b : Nat) : ∀ (vs : List Value) (o : Nat) (w : World), (w.setCells b o vs).heap.size = w.heap.size
  | [], _, _ => rfl
  | v :: vs, o, w => by
    show ((w.setCell ⟨b, o, none⟩ v).setCells b (o + 1) vs).heap.size = _
    rw [size_setCells b vs (o + 1)]; simp
theorem below_setCells {B b : Nat} (hb : B ≤ b) : ∀ (vs : List Value) (o : Nat) (a w : World), Below B a w → Below B a (w.setCells b o vs)
  | [], _, _, _, h => h
  | v :: vs, o, a, w, h => below_setCells hb vs (o + 1) a (w.setCell ⟨b, o, none⟩ v) (h.setCell hb v)
/-- Values written one behind the other into an array. -/
def spl (cs : Array Value) (o : Nat) : List Value → Array Value
  | [] => cs
  | v :: vs => spl (cs.setIfInBounds o v) (o + 1) vs
theorem heap_setCells_same (b : Nat) (t : TypeId) : ∀ (vs : List Value) (o : Nat) (w : World) (cs : Array Value), w.heap[b]? = some (.cells cs t (0, 0)) → (w.setCells b o vs).heap[b]? = some (.cells (spl cs o vs) t (0, 0))
  | [], _, _, _, h => h
  | v :: vs, o, w, cs, h => heap_setCells_same b t vs (o + 1) (w.setCell ⟨b, o, none⟩ v) (cs.setIfInBounds o v) (heap_setCell_same w b o cs t v h)
theorem spl_get : ∀ (vs : List Value) (cs : Array Value) (o i : Nat), (spl cs o vs)[i]? = if o ≤ i ∧ i < o + vs.length ∧ i < cs.size then vs[i - o]? else cs[i]?
  | [], cs, o, i => by
    have : ¬ (o ≤ i ∧ i < o + 0 ∧ i < cs.size) := by omega
    simp only [List.length_nil, if_neg this, spl]
  | v :: vs, cs, o, i => by
    show (spl (cs.setIfInBounds o v) (o + 1) vs)[i]? = _
    rw [spl_get vs (cs.setIfInBounds o v) (o + 1) i]
    simp only [Array.size_setIfInBounds, List.length_cons]
    by_cases h1 : o = i
    · subst h1
      rw [if_neg (by omega)]
      by_cases h2 : o < cs.size
      · rw [if_pos (by omega)]; simp [h2]
      · rw [if_neg (by omega)]; simp [h2]
    · by_cases h2 : o + 1 ≤ i ∧ i < o + 1 + vs.length ∧ i < cs.size
      · rw [if_pos h2, if_pos (by omega)]
        rw [show i - o = (i - (o + 1)) + 1 by omega]; rfl
      · rw [if_neg h2, if_neg (by omega)]
        rw [Array.getElem?_setIfInBounds_ne h1]
theorem spl_all (cs : Array Value) (vs : List Value) (h : vs.length = cs.size) : spl cs 0 vs = vs.toArray := by
  apply Array.ext_getElem?
  intro i
  rw [spl_get]
  by_cases hi : i < cs.size
  · rw [if_pos (by omega)]; simp
  · rw [if_neg (by omega)]
    rw [Array.getElem?_eq_none (by omega), Array.getElem?_eq_none (by simp; omega)]
theorem heap_setCells_all {w : World} {b : Nat} {cs ds : Array Value} {t : TypeId} (h : w.heap[b]? = some (.cells cs t (0, 0))) (hs : ds.size = cs.size) : (w.setCells b 0 ds.toList).heap[b]? = some (.cells ds t (0, 0)) := by
  rw [heap_setCells_same b t _ 0 w cs h, spl_all _ _ (by simpa using hs)]
theorem there_row {w : World} {b : Nat} {cs : Array Value} {t : TypeId} (h : w.heap[b]? = some (.cells cs t (0, 0))) (o n : Nat) (hn : o + n ≤ cs.size) : w.there b o n := fun j hj => by
  rw [cell_of_row _ _ _ _ _ _ h]
  refine ⟨by simp; omega, frozen_of_row _ _ _ _ _ h⟩
theorem kb_refl (b : Nat) (w : World) : w.grownBy w (some b) := ⟨rfl, rfl, rfl, Nat.le_refl _, fun _ _ _ => rfl⟩
theorem kb_trans {b : Option Nat} {w w1 w2 : World} (h : w.grownBy w1 b) (k : w1.grownBy w2 b) : w.grownBy w2 b :=
  ⟨k.os.trans h.os, k.tape.trans h.tape, k.output.trans h.output, Nat.le_trans h.size k.size, fun i hi hne => (k.block i (Nat.lt_of_lt_of_le hi h.size) hne).trans (h.block i hi hne)⟩
theorem kb_drewN (b : Option Nat) (w : World) (n : Nat) : w.grownBy (w.drewN n) b := ⟨rfl, rfl, rfl, Nat.le_refl _, fun _ _ _ => rfl⟩
theorem kb_setCell {b : Nat} (w : World) (o : Nat) (v : Value) : w.grownBy (w.setCell ⟨b, o, none⟩ v) (some b) :=
  ⟨rfl, rfl, rfl, by simp, fun i _ hne => heap_setCell_other w ⟨b, o, none⟩ i v (fun e => hne (by rw [e]))⟩
/-- Bytes behind a slice whose block isn't b. -/
def BytesAt (w : World) (b : Nat) (v : Value) (ps : List UInt8) : Prop :=
  ∃ a cap, v = .slice a ps.length cap ∧ ps.length ≤ cap ∧ (0 < ps.length → ∃ c o, c ≠ b ∧ a = some ⟨c, o, none⟩ ∧ ∀ j, j < ps.length → w.cell? ⟨c, o + j, none⟩ = some (.int .u8 (ub (ps.getD j 0))))
theorem BytesAt.later {w w1 : World} {b : Nat} {v : Value} {ps : List UInt8} (h : BytesAt w b v ps) (hk : w.grownBy w1 (some b)) : BytesAt w1 b v ps := by
  obtain ⟨a, cap, hv, hc, hr⟩ := h
  refine ⟨a, cap, hv, hc, fun hp => ?_⟩
  obtain ⟨c, o, hne, ha, hcell⟩ := hr hp
  refine ⟨c, o, hne, ha, fun j hj => ?_⟩
  exact hk.cell (hcell j hj) (by simpa using hne)
/-- Parts behind a slice of slices, none of them in block b. -/
def PartsAt (w : World) (b : Nat) (v : Value) (pss : List (List UInt8)) : Prop :=
  ∃ a cap, v = .slice a pss.length cap ∧ (0 < pss.length → ∃ p o, p ≠ b ∧ a = some ⟨p, o, none⟩ ∧ ∀ j, j < pss.length → ∃ x, w.cell? ⟨p, o + j, none⟩ = some x ∧ BytesAt w b x (pss.getD j []))
theorem PartsAt.later {w w1 : World} {b : Nat} {v : Value} {pss : List (List UInt8)} (h : PartsAt w b v pss) (hk : w.grownBy w1 (some b)) : PartsAt w1 b v pss := by
  obtain ⟨a, cap, hv, hr⟩ := h
  refine ⟨a, cap, hv, fun hp => ?_⟩
  obtain ⟨p, o, hne, ha, hcell⟩ := hr hp
  refine ⟨p, o, hne, ha, fun j hj => ?_⟩
  obtain ⟨x, hx, hb⟩ := hcell j hj
  exact ⟨x, hk.cell hx (by simpa using hne), hb.later hk⟩
/-- Bytes behind a slice. -/
def Bytes (w : World) (v : Value) (ps : List UInt8) : Prop :=
  ∃ a cap, v = .slice a ps.length cap ∧ ps.length ≤ cap ∧ (a = none → cap = 0) ∧ (0 < ps.length → ∃ c o, a = some ⟨c, o, none⟩ ∧ ∀ j, j < ps.length → w.cell? ⟨c, o + j, none⟩ = some (.int .u8 (ub (ps.getD j 0))))
theorem Bytes.later {w w1 : World} {v : Value} {ps : List UInt8} (h : Bytes w v ps) (hb : Below w.heap.size w w1) : Bytes w1 v ps := by
  obtain ⟨a, cap, hv, hc, hn, hr⟩ := h
  refine ⟨a, cap, hv, hc, hn, fun hp => ?_⟩
  obtain ⟨c, o, ha, hcell⟩ := hr hp
  refine ⟨c, o, ha, fun j hj => ?_⟩
  have := World.block_lt_of_cell? _ _ (hcell j hj)
  rw [hb.cell (p := ⟨c, o + j, none⟩) this]
  exact hcell j hj
/-- Bytes in a row that the call owns. -/
def OwnB (w : World) (base : Nat) (v : Value) (l : List UInt8) : Prop := w.ownsRow base 5 1 v l.length (u8s l).toList
theorem OwnB.later {w w1 : World} {base B : Nat} {v : Value} {l : List UInt8} (h : OwnB w base v l) (hb : Below B w w1) (hB : ∀ g, v.ownBlock = some g → g < B) : OwnB w1 base v l := by
  refine ⟨h.1, ?_⟩
  rcases h.2 with h0 | ⟨g, cap, cur, hv, hb', hg, hr⟩
  · exact .inl h0
  · refine .inr ⟨g, cap, cur, hv, hb', ?_, hr⟩
    rw [hb.block g (hB g (by rw [hv]; rfl))]
    exact hg
theorem OwnB.lt {w : World} {base : Nat} {v : Value} {l : List UInt8} (h : OwnB w base v l) : ∀ g, v.ownBlock = some g → g < w.heap.size ∧ base ≤ g := by
  intro g hg
  rcases h.2 with ⟨rfl, _⟩ | ⟨g', cap, cur, rfl, hb, hh, _⟩
  · cases hg
  · injection hg with hg
    subst hg
    exact ⟨(Array.getElem?_eq_some_iff.1 hh).1, hb⟩
theorem OwnB.nil (w : World) (base : Nat) : OwnB w base (.slice none 0 0) [] := ⟨rfl, .inl ⟨rfl, rfl⟩⟩
theorem Bytes.cell {w : World} {ps : List UInt8} {a : Option Addr} {n cap : Nat} (h : Bytes w (.slice a n cap) ps) (k : Nat) (hk : k < n) : ∃ c o, a = some ⟨c, o, none⟩ ∧ w.cell? ⟨c, o + k, none⟩ = some (.int .u8 (ub (ps.getD k 0))) := by
  obtain ⟨a', cap', hv, hc, hn, hr⟩ := h
  injection hv with e1 e2 e3
  subst e1
  obtain ⟨c, o, ha, hcell⟩ := hr (by omega)
  exact ⟨c, o, ha, hcell k (by omega)⟩
theorem below_a {W : World} (o : Obj) : Below W.heap.size W (W.alloc o) := (Below.refl _ _).alloc (Nat.le_refl _) _
theorem Bytes.take {w : World} {a : Option Addr} {n cap : Nat} {bs : List UInt8} (h : Bytes w (.slice a n cap) bs) (m : Nat) (hm : m ≤ n) : Bytes w (.slice a m cap) (bs.take m) := by
  obtain ⟨a', cap', hv, hc, hn, hr⟩ := h
  injection hv with e1 e2 e3
  subst e1 e3
  have hl : (bs.take m).length = m := by rw [List.length_take]; omega
  refine ⟨a, cap, by rw [hl], by omega, hn, fun hp => ?_⟩
  obtain ⟨c, o, ha, hcell⟩ := hr (by omega)
  refine ⟨c, o, ha, fun j hj => ?_⟩
  rw [hcell j (by omega)]
  simp [show j < m by omega]
/-- Parts behind a slice of slices. -/
def Parts (w : World) (v : Value) (pss : List (List UInt8)) : Prop :=
  ∃ a cap, v = .slice a pss.length cap ∧ (0 < pss.length → ∃ p o, a = some ⟨p, o, none⟩ ∧ ∀ j, j < pss.length → ∃ x, w.cell? ⟨p, o + j, none⟩ = some x ∧ Bytes w x (pss.getD j []))
/-- Values that are slices of parts. -/
def Vals (w : World) (xs : List Value) (qs : List (List UInt8)) : Prop := xs.length = qs.length ∧ ∀ j, j < xs.length → Bytes w (xs.getD j undef) (qs.getD j [])
/-- The loops' bodies of a code, in the order of its text. -/
def loopsOf : Code → List Code
  | .loop c => c :: loopsOf c
  | .seq a b => loopsOf a ++ loopsOf b
  | .block _ c => loopsOf c
  | .scope c => loopsOf c
  | .cond _ a b => loopsOf a ++ loopsOf b
  | _ => []
def loopAt (c : Option Code) (k : Nat) : Code := ((c.map loopsOf).getD []).getD k .skip
/-- A frame of n slots, with nothing deferred. -/
structure Fr (n : Nat) (a : Act) : Prop where
  none : a.defers = []
  size : a.tmps.size = n
theorem list_range {α : Type} (l : List α) (d : α) : l = (List.range l.length).map fun i => l.getD i d := by
  apply List.ext_getElem
  · simp
  · intro i h1 h2; simp [h1]
theorem Fr.form {n : Nat} {a : Act} (h : Fr n a) : a = ⟨((List.range n).map fun i => a.tmps.getD i undef).toArray, []⟩ := by
  obtain ⟨⟨l⟩, d⟩ := a
  obtain ⟨h1, h2⟩ := h
  simp only at h1 h2
  have h3 : l.length = n := by simpa using h2
  subst h1 h3
  show (⟨⟨l⟩, []⟩ : Act) = ⟨((List.range l.length).map fun i => (⟨l⟩ : Array Value).getD i undef).toArray, []⟩
  have : (fun i => (⟨l⟩ : Array Value).getD i undef) = fun i => l.getD i undef := by
    funext i; simp [Array.getD_eq_getD_getElem?, List.getD_eq_getElem?_getD]
  rw [this, ← list_range]
/-- A loop that counts from k0 up to n. -/
theorem wp_count {P : Program} {Q : Exit → Act → World → Prop} {a : Act} {w : World} {c : Code} (n : Nat) (I : Nat → Act → World → Prop) (k0 : Nat) (hk : k0 ≤ n) (h0 : I k0 a w)
    (round : ∀ k a w, k < n → I k a w → c.wp P (Exit.then (fun a' w' => I (k + 1) a' w') Q) a w) (last : ∀ a w, I n a w → c.wp P (Exit.then (fun _ _ => False) Q) a w) : (Code.loop c).wp P Q a w := by
  refine wp_loop_ghost (fun m a w => ∃ k, k ≤ n ∧ m = n - k ∧ I k a w) (n - k0) ⟨k0, hk, rfl, h0⟩ ?_
  rintro m a w ⟨k, hk, rfl, hI⟩
  by_cases hlt : k < n
  · refine wp_mono (round k a w hlt hI) ?_
    rintro (_ | _ | _ | _ | _ | _) a' w' hq'
    case normal => exact ⟨n - (k + 1), by omega, k + 1, by omega, rfl, hq'⟩
    all_goals exact hq'
  · obtain rfl : k = n := by omega
    refine wp_mono (last a w hI) ?_
    rintro (_ | _ | _ | _ | _ | _) a' w' hq'
    case normal => exact absurd hq' id
    all_goals exact hq'
/-- A whole array stored over a block that is known. -/
theorem wpList_store_new {P : Program} {ops : Array Oper} {rest : List Oper} {op : Oper} {a : Act} {w : World} {Q : Exit → Act → World → Prop} (hgd : op.guard = none) (ty : TypeId) (x y : Operand) (ho : op.op = .store ty x y)
    (b : Nat) (cs ds : Array Value) (t : TypeId) (hx : a.eval x = .pointer (some ⟨b, 0, none⟩)) (hy : a.eval y = .agg cs) (hrow : w.heap[b]? = some (.cells ds t (0, 0))) (hs : cs.size = ds.size)
    (hi : (P.info? ty).map (·.size) = some cs.size) (h1 : cs.all (·.oneCell') = true)
    (k : ∀ w', w' = w.setCells b 0 cs.toList → w'.heap[b]? = some (.cells cs t (0, 0)) → wpList P ops Q rest (a.put op.dst undef) w') : wpList P ops Q (op :: rest) a w :=
  wpList_store_mid hgd ty x y ho b 0 cs hx hy (there_row hrow 0 _ (by omega)) hi h1 (k _ rfl (heap_setCells_all hrow hs))
/-- A variable that holds a whole array: made, and stored into. -/
theorem wpList_store_var {P : Program} {ops : Array Oper} {rest : List Oper} {op : Oper} {a : Act} {w : World} {Q : Exit → Act → World → Prop} (hgd : op.guard = none) (ty : TypeId) (x y : Operand) (ho : op.op = .store ty x y)
    (W : World) (ds : Array Value) (t : TypeId) (hw : w = W.alloc (.cells ds t (0, 0))) (hx : a.eval x = .pointer (some ⟨W.heap.size, 0, none⟩)) (cs : Array Value) (hy : a.eval y = .agg cs) (hs : cs.size = ds.size)
    (hi : (P.info? ty).map (·.size) = some cs.size) (h1 : cs.all (·.oneCell') = true)
    (k : ∀ w', Below W.heap.size W w' → w'.heap[W.heap.size]? = some (.cells cs t (0, 0)) → W.heap.size < w'.heap.size → wpList P ops Q rest (a.put op.dst undef) w') : wpList P ops Q (op :: rest) a w := by
  subst hw
  exact wpList_store_new hgd ty x y ho W.heap.size cs ds t hx hy (hnew _ _ _ rfl) hs hi h1 fun w' hw' hr => k w' (by rw [hw']; exact below_setCells (Nat.le_refl _) _ _ _ _ (below_a _)) hr (by rw [hw', size_setCells]; simp)
theorem takeL {P : Program} {ops : Array Oper} {Q : Exit → Act → World → Prop} {md : Region.Mode} {S : World → Prop} (i : Nat) {oi : Oper} {v : Value} {fuel : Nat} {listed : Array Bool} {a : Act} {w : World} (hi : ops.toList[i]? = some oi)
    (hs : Region.noSelect ops = true) (hf : Region.free md ops listed i = true) (hr : (Region.ready md ops listed).contains i = true)
    (hQ : ∀ c a w, Q (.panic c) (a.put oi.dst v) w → Q (.panic c) a w) (hy : YieldsIf P ops S oi v a) (hS : S w)
    (h : wpAnyH P md ops Q S fuel (listed.setIfInBounds i true) (a.put oi.dst v) w) : wpAnyH P md ops Q S (fuel + 1) listed a w :=
  wpAnyH_take (by rw [← Array.getElem?_toList]; exact hi) hs hf hr hQ hy hS h
theorem Parts.later {w w1 : World} {v : Value} {pss : List (List UInt8)} (h : Parts w v pss) (hb : Below w.heap.size w w1) : Parts w1 v pss := by
  obtain ⟨a, cap, hv, hr⟩ := h
  refine ⟨a, cap, hv, fun hp => ?_⟩
  obtain ⟨p, o, ha, hcell⟩ := hr hp
  refine ⟨p, o, ha, fun j hj => ?_⟩
  obtain ⟨x, hx, hxb⟩ := hcell j hj
  exact ⟨x, by rw [hb.cell (p := ⟨p, o + j, none⟩) (World.block_lt_of_cell? _ _ hx)]; exact hx, hxb.later hb⟩
theorem Vals.later {w w1 : World} {xs : List Value} {qs : List (List UInt8)} (h : Vals w xs qs) (hb : Below w.heap.size w w1) : Vals w1 xs qs := ⟨h.1, fun j hj => (h.2 j hj).later hb⟩
theorem OwnB.weak {w : World} {base base' : Nat} {v : Value} {l : List UInt8} (h : OwnB w base v l) (hb : base' ≤ base) : OwnB w base' v l := by
  refine ⟨h.1, ?_⟩
  rcases h.2 with h0 | ⟨g, cap, cur, hv, hb', hr⟩
  · exact .inl h0
  · exact .inr ⟨g, cap, cur, hv, Nat.le_trans hb hb', hr⟩
/-- Bytes, and none of them in block g. -/
def BN (W : World) (g : Nat) (v : Value) (l : List UInt8) : Prop := Bytes W v l ∧ BytesAt W g v l
theorem BN.later {W W1 : World} {g : Nat} {v : Value} {l : List UInt8} (h : BN W g v l) (hk : W.grownBy W1 (some g)) : BN W1 g v l := by
  refine ⟨?_, h.2.later hk⟩
  obtain ⟨a, cap, hv, hc, hz, hr⟩ := h.1
  obtain ⟨a', cap', hv', hc', hr'⟩ := h.2.later hk
  rw [hv] at hv'
  injection hv' with e1 e2 e3
  subst e1
  exact ⟨a, cap, hv, hc, hz, fun hp => by obtain ⟨c, o, _, ha, hcell⟩ := hr' hp; exact ⟨c, o, ha, hcell⟩⟩
/-- A row of values behind a slice of slices. -/
def RowP (w : World) (x : Value) (ys : List Value) : Prop := (x = .slice none 0 0 ∧ ys = []) ∨ ∃ g o cap, x = .slice (some ⟨g, o, none⟩) ys.length cap ∧ ∀ j, j < ys.length → w.cell? ⟨g, o + j, none⟩ = some (ys.getD j undef)
/-- Parts behind a row of slices. -/
def PartsR (w : World) (x : Value) (ps : List (List UInt8)) : Prop := ∃ ys, RowP w x ys ∧ Vals w ys ps
theorem RowP.later {w w1 : World} {x : Value} {ys : List Value} (h : RowP w x ys) (hb : Below w.heap.size w w1) : RowP w1 x ys := by
  rcases h with h | ⟨g, o, cap, hx, hc⟩
  · exact .inl h
  · refine .inr ⟨g, o, cap, hx, fun j hj => ?_⟩
    rw [hb.cell (p := ⟨g, o + j, none⟩) (World.block_lt_of_cell? _ _ (hc j hj))]
    exact hc j hj
theorem PartsR.later {w w1 : World} {x : Value} {ps : List (List UInt8)} (h : PartsR w x ps) (hb : Below w.heap.size w w1) : PartsR w1 x ps := by
  obtain ⟨ys, h1, h2⟩ := h
  exact ⟨ys, h1.later hb, h2.later hb⟩
theorem Vals.cons {w : World} {xs : List Value} {qs : List (List UInt8)} (h : Vals w xs qs) {x : Value} {q : List UInt8} (hx : Bytes w x q) : Vals w ([x] ++ xs) (q :: qs) := by
  refine ⟨by simp [h.1], fun j hj => ?_⟩
  match j, hj with
  | 0, _ => exact hx
  | j + 1, hj => exact h.2 j (by simpa using hj)
theorem Bytes.nil (w : World) : Bytes w (.slice none 0 0) [] := ⟨none, 0, rfl, by simp, fun _ => rfl, fun h => absurd h (by simp)⟩
theorem Parts.nil (w : World) : Parts w (.slice none 0 0) [] := ⟨none, 0, rfl, fun h => absurd h (by simp)⟩
theorem OwnB.set {w : World} {base g n cap : Nat} {l : List UInt8} (h : OwnB w base (.slice (some ⟨g, 0, none⟩) n cap) l) (i : Nat) (x : UInt8) : OwnB (w.setCell ⟨g, i, none⟩ (.int .u8 (ub x))) base (.slice (some ⟨g, 0, none⟩) n cap) (l.set i x) := by
  refine ⟨by simp [u8s], ?_⟩
  rcases h.2 with ⟨hn, _⟩ | ⟨g', cap', cur, hv, hb, hg, h1, h2, h3, h4⟩
  · cases hn
  · injection hv with e1 e2 e3
    injection e1 with e1
    injection e1 with e1 _
    subst e1
    refine .inr ⟨g, cap', cur.setIfInBounds i (.int .u8 (ub x)), by rw [e2, e3, List.length_set], hb, heap_setCell_same _ _ _ _ _ _ hg, by rw [List.length_set]; exact h1, h2, by simpa using h3, ?_⟩
    rw [List.length_set, Array.toList_setIfInBounds, List.take_set, h4]
    simp [u8s, List.map_set]
theorem OwnB.form {w : World} {base : Nat} {v : Value} {l : List UInt8} (h : OwnB w base v l) : (v = .slice none 0 0 ∧ l = []) ∨ ∃ g cap, v = .slice (some ⟨g, 0, none⟩) l.length cap := by
  rcases h.2 with ⟨hn, h0⟩ | ⟨g, cap, cur, hv, -⟩
  · exact .inl ⟨hn, List.eq_nil_of_length_eq_zero h0⟩
  · exact .inr ⟨g, cap, hv⟩
theorem lit_i64 (n : Int) (h : (Lit.int .i64 n).wf = true) : -9223372036854775808 ≤ n ∧ n ≤ 9223372036854775807 := by
  have h2 : (decide (IntKind.i64.min ≤ n) && decide (n ≤ IntKind.i64.max)) = true := h
  rw [Bool.and_eq_true, decide_eq_true_eq, decide_eq_true_eq] at h2
  exact h2
end Go.Proofs.Ytfommmkkdgdmfaa
namespace Go.Proofs.Ytfommmkkdgdmfaa
open Go Go.RowKit
/-- A field. -/
structure Fd where
  s : Int
  n : Int
  b : List UInt8
/-- The lowest k bytes of a number, the highest first. -/
def beN : Nat → Nat → List UInt8
  | 0, _ => []
  | k + 1, n => UInt8.ofNat (n / 256 ^ k % 256) :: beN k n
/-- How many bytes a number of a size has. -/
def wid (s : Int) : Nat := if s = 0 then 1 else if s = 1 then 2 else if s = 2 then 4 else 8
/-- A field's bytes. -/
def enc (f : Fd) : List UInt8 := if f.s = 4 then beN 2 f.b.length ++ f.b else beN (wid f.s) f.n.toNat
end Go.Proofs.Ytfommmkkdgdmfaa
namespace Go.Proofs.Ytfommmkkdgdmfaa
open Go Go.RowKit
/-- A field, as a value. -/
def IsF (w : World) (v : Value) (f : Fd) : Prop := ∃ vb, v = .agg #[.int .i64 f.s, .int .i64 f.n, vb] ∧ Bytes w vb f.b
theorem IsF.later {w w1 : World} {v : Value} {f : Fd} (h : IsF w v f) (hb : Below w.heap.size w w1) : IsF w1 v f := by
  obtain ⟨vb, hv, h⟩ := h
  exact ⟨vb, hv, h.later hb⟩
end Go.Proofs.Ytfommmkkdgdmfaa
namespace Go.Proofs.Ytfommmkkdgdmfaa
open Go Go.RowKit
end Go.Proofs.Ytfommmkkdgdmfaa
namespace Go.Proofs.Ytfommmkkdgdmfaa
open Go Go.RowKit
end Go.Proofs.Ytfommmkkdgdmfaa
namespace Go.Proofs.Ytfommmkkdgdmfaa
open Go Go.RowKit
end Go.Proofs.Ytfommmkkdgdmfaa
namespace Go.Proofs.Ytfommmkkdgdmfaa
open Go Go.RowKit
end Go.Proofs.Ytfommmkkdgdmfaa
namespace Go.Proofs.Ytfommmkkdgdmfaa
open Go Go.RowKit
/-- A row of numbers. -/
def Ints (w : World) (v : Value) (ns : List Int) : Prop :=
  ∃ a cap, v = .slice a ns.length cap ∧ ns.length ≤ cap ∧ (a = none → cap = 0) ∧ (0 < ns.length → ∃ c o, a = some ⟨c, o, none⟩ ∧ ∀ i, i < ns.length → w.cell? ⟨c, o + i, none⟩ = some (.int .i64 (ns.getD i 0)))
theorem Ints.later {w w1 : World} {v : Value} {ns : List Int} (h : Ints w v ns) (hb : Below w.heap.size w w1) : Ints w1 v ns := by
  obtain ⟨a, cap, hv, hc, hn, hr⟩ := h
  refine ⟨a, cap, hv, hc, hn, fun hp => ?_⟩
  obtain ⟨c, o, ha, hf⟩ := hr hp
  refine ⟨c, o, ha, fun i hi => ?_⟩
  rw [hb.cell (p := ⟨c, o + i, none⟩) (World.block_lt_of_cell? _ _ (hf i hi))]
  exact hf i hi
/-- The cells of numbers. -/
def i64s (ns : List Int) : List Value := ns.map fun n => Value.int .i64 n
theorem i64s_get (ns : List Int) (i : Nat) (h : i < ns.length) : (i64s ns)[i]? = some (.int .i64 (ns.getD i 0)) := by
  unfold i64s
  rw [List.getElem?_map, List.getElem?_eq_getElem h, List.getD_eq_getElem?_getD, List.getElem?_eq_getElem h]
  rfl
/-- A row of numbers that the call has made. -/
def OwnI (w : World) (base : Nat) (v : Value) (ns : List Int) : Prop := w.ownsRow base 3 1 v ns.length (i64s ns)
theorem OwnI.nil (w : World) (base : Nat) : OwnI w base (.slice none 0 0) [] := ⟨rfl, .inl ⟨rfl, rfl⟩⟩
theorem OwnI.later {w w1 : World} {base B : Nat} {v : Value} {ns : List Int} (h : OwnI w base v ns) (hb : Below B w w1) (hB : ∀ g, v.ownBlock = some g → g < B) : OwnI w1 base v ns := by
  obtain ⟨hl, hr⟩ := h
  refine ⟨hl, ?_⟩
  rcases hr with h | ⟨g, cap, cur, hv, hc, h1, h2, h3, h4⟩
  · exact .inl h
  · refine .inr ⟨g, cap, cur, hv, hc, ?_, h2, h3, h4⟩
    rw [hb.block g (hB g (by rw [hv]; rfl))]
    exact h1
theorem OwnI.lt {w : World} {base : Nat} {v : Value} {ns : List Int} (h : OwnI w base v ns) : ∀ g, v.ownBlock = some g → g < w.heap.size ∧ base ≤ g := by
  intro g hg
  rcases h.2 with ⟨rfl, _⟩ | ⟨g', cap, cur, rfl, hb, hh, _⟩
  · cases hg
  · injection hg with hg
    subst hg
    exact ⟨(Array.getElem?_eq_some_iff.1 hh).1, hb⟩
theorem OwnI.ints {w : World} {base : Nat} {v : Value} {ns : List Int} (h : OwnI w base v ns) : Ints w v ns := by
  rcases h.2 with ⟨rfl, h0⟩ | ⟨g, cap, cur, rfl, hb, hg, hn, hm, hs, hc⟩
  · refine ⟨none, 0, by rw [h0], by omega, fun _ => rfl, fun hp => by omega⟩
  · refine ⟨_, cap, rfl, hn, (fun hx => by cases hx), fun _ => ⟨g, 0, rfl, fun j hj => ?_⟩⟩
    rw [cell_of_row _ _ _ _ _ _ hg, Nat.zero_add, ← Array.getElem?_toList]
    have h1 : (cur.toList.take (ns.length * 1))[j]? = (i64s ns)[j]? := by rw [hc]
    rw [List.getElem?_take, if_pos (by omega), i64s_get ns j hj] at h1
    exact h1
theorem OwnI.form {w : World} {base : Nat} {v : Value} {ns : List Int} (h : OwnI w base v ns) : ∃ a cap, v = .slice a ns.length cap := by
  obtain ⟨a, cap, hv, -⟩ := h.ints
  exact ⟨a, cap, hv⟩
theorem ownI_below {w w1 : World} {base : Nat} {v : Value} {ns : List Int} (h : OwnI w base v ns) (hg : w.grownBy w1 v.ownBlock) (hb : base ≤ w.heap.size) : Below base w w1 :=
  ⟨hg.os, hg.tape, hg.output, hg.size, fun i hi => hg.block i (by omega) (fun e => by have := (h.lt i e.symm).2; omega)⟩
theorem ownI_a {W : World} {base : Nat} {v : Value} {ns : List Int} (h : OwnI W base v ns) (o : Obj) : OwnI (W.alloc o) base v ns := h.later (below_a _) (fun g hg => (h.lt g hg).1)
theorem OwnI.weak {w : World} {base base' : Nat} {v : Value} {l : List Int} (h : OwnI w base v l) (hb : base' ≤ base) : OwnI w base' v l := by
  refine ⟨h.1, ?_⟩
  rcases h.2 with h0 | ⟨g, cap, cur, hv, hb', hr⟩
  · exact .inl h0
  · exact .inr ⟨g, cap, cur, hv, by omega, hr⟩
set_option maxRecDepth 100000 in
theorem run_apI (w : World) (base : Nat) (v : Value) (l : List Int) (hown : OwnI w base v l) (x : Value) (ps : List Int) (hx : Ints w x ps) (hn : l.length + ps.length ≤ 10000) (hbase : base ≤ w.heap.size) (ty : TypeId) :
    ∃ v' w', (Builtin.append_ #[29, 29] ty #[v, x]).run Try.prog w = .ok v' w' ∧ OwnI w' base v' (l ++ ps) ∧ w.grownBy w' v.ownBlock := by
  have hi : Try.prog.info? 3 = some ((Try.prog.info? 3).getD default) := by kernel_rfl
  obtain ⟨a, cap, rfl, hc, hnone, hr⟩ := hx
  rcases a with _ | ad
  · have h0 : ps = [] := by have := hnone rfl; exact List.eq_nil_of_length_eq_zero (by omega)
    have hz := hnone rfl
    subst h0
    subst hz
    refine ⟨v, w, ?_, by rw [List.append_nil]; exact hown, World.grownBy.refl w _⟩
    exact run_append_owned_none (P := Try.prog) (w := w) base 29 ty 3 _ 1 Try.underlying29 hi v l.length _ hown
  · have hnews : ∀ j u, (i64s ps)[j]? = some u → w.cell? (ad.add j) = some u := by
      intro j u hu
      have hj : j < ps.length := by have := (List.getElem?_eq_some_iff.1 hu).1; simpa [i64s] using this
      obtain ⟨c, o, ha, hcell⟩ := hr (by omega)
      injection ha with ha
      subst ha
      rw [i64s_get ps j hj] at hu
      rw [show (⟨c, o, none⟩ : Addr).add j = ⟨c, o + j, none⟩ by unfold Addr.add; split <;> simp_all, hcell j hj]
      exact hu
    obtain ⟨v', w', hrun, h2, h3, _, h5⟩ := run_append_own_at (P := Try.prog) w base 29 ty 3 _ (.int .i64 0) 1 8 Try.underlying29 hi (by kernel_rfl) (by kernel_rfl) (by kernel_rfl) rfl (by omega) v l.length _ hown ad ps.length cap (i64s ps) (by simp [i64s]) hnews
      (fun u hu => by unfold i64s at hu; simp at hu; obtain ⟨n, -, rfl⟩ := hu; rfl) (by simp only [maxLen]; omega) (by omega) hbase
    refine ⟨v', w', hrun, ?_, h3⟩
    unfold OwnI
    rw [List.length_append]
    have e : i64s (l ++ ps) = i64s l ++ i64s ps := by simp [i64s]
    rw [e]
    exact h2
/-- At the list of a plain region's operations. -/
theorem wpList_apI {w : World} {ops : Array Oper} {rest : List Oper} {o : Oper} {a : Act} {Q : Exit → Act → World → Prop} (hgd : o.guard = none) (s x : Operand)
    (ho : o.op = .call { callee := .builtin .append, args := #[s, x], argTypes := #[29, 29] }) (base : Nat) (v : Value) (l : List Int) (hs : a.eval s = v) (hown : OwnI w base v l) (xv : Value) (ps : List Int) (hx : a.eval x = xv) (hb : Ints w xv ps)
    (hn : l.length + ps.length ≤ 10000) (hbase : base ≤ w.heap.size)
    (h : ∀ v' w', OwnI w' base v' (l ++ ps) → w.grownBy w' v.ownBlock → wpList Try.prog ops Q rest (a.put o.dst v') w') : wpList Try.prog ops Q (o :: rest) a w := by
  refine wpList_plain hgd fun K hK => ?_
  obtain ⟨v', w', hrun, h1, h2⟩ := run_apI w base v l hown xv ps hb hn hbase o.type
  unfold Oper.wp
  simp [execOp, ho, resolve, invoke, builtin, hs, hx, hrun, Result.andThen]
  exact hK _ _ (h v' w' h1 h2)
theorem ints1 (W : World) (n : Int) (t : TypeId) : Ints (W.alloc (.cells #[.int .i64 n] t)) (.slice (some ⟨W.heap.size, 0, none⟩) 1 1) [n] := by
  refine ⟨_, 1, rfl, by simp, (fun h => by cases h), fun _ => ⟨W.heap.size, 0, rfl, fun i hi => ?_⟩⟩
  obtain rfl : i = 0 := by simp at hi; omega
  rw [cell_of_row _ _ _ _ _ _ (hnew _ _ _ rfl)]
  rfl
end Go.Proofs.Ytfommmkkdgdmfaa
namespace Go.Proofs.Ytfommmkkdgdmfaa
open Go Go.RowKit
end Go.Proofs.Ytfommmkkdgdmfaa
namespace Go.Proofs.Ytfommmkkdgdmfaa
open Go Go.RowKit
/-- Is a number a reason? -/
def isRe (e : Int) : Bool := decide (1 ≤ e) && decide (e ≤ 15)
theorem isRe_iff (e : Int) : isRe e = true ↔ 1 ≤ e ∧ e ≤ 15 := by simp [isRe]
/-- A reason is counted n times more. -/
def addC (top : Int) (cs : List Int) (k : Nat) (n : Int) : List Int := cs.set k (min top (cs.getD k 0 + n))
/-- Counts that may be: none of them above the top, none at 0. -/
structure Cts (top : Int) (cs : List Int) : Prop where
  len : cs.length = 16
  zero : cs.getD 0 0 = 0
  low : ∀ k, 0 ≤ cs.getD k 0
  high : ∀ k, cs.getD k 0 ≤ top
  top1 : 1 ≤ top
  top2 : top ≤ 2147483647
/-- Drops in their block. -/
def DB (W : World) (q : Nat) (top : Int) (cs : List Int) : Prop := W.heap[q]? = some (.cells (Value.int .i64 top :: i64s cs).toArray 46 (0, 0))
theorem DB.lt {W : World} {q : Nat} {top : Int} {cs : List Int} (h : DB W q top cs) : q < W.heap.size := (Array.getElem?_eq_some_iff.1 h).1
theorem DB.later {W W1 : World} {q : Nat} {top : Int} {cs : List Int} (h : DB W q top cs) (hb : Below W.heap.size W W1) : DB W1 q top cs := (hb.block q h.lt).trans h
theorem DB.aside {W W1 : World} {q p : Nat} {top : Int} {cs : List Int} (h : DB W q top cs) (hg : W.grownBy W1 (some p)) (hne : q ≠ p) : DB W1 q top cs := (hg.block q h.lt (fun e => hne (by injection e))).trans h
theorem DB.cell {W : World} {q : Nat} {top : Int} {cs : List Int} (h : DB W q top cs) (k : Nat) (hk : k < cs.length) : W.cell? ⟨q, 1 + k, none⟩ = some (.int .i64 (cs.getD k 0)) := by
  rw [cell_of_row _ _ _ _ _ _ h, List.getElem?_toArray, Nat.add_comm, List.getElem?_cons_succ]
  exact i64s_get cs k hk
theorem DB.top {W : World} {q : Nat} {top : Int} {cs : List Int} (h : DB W q top cs) : W.cell? ⟨q, 0, none⟩ = some (.int .i64 top) := by
  rw [cell_of_row _ _ _ _ _ _ h]
  rfl
theorem DB.frozen {W : World} {q : Nat} {top : Int} {cs : List Int} (h : DB W q top cs) (i : Nat) : W.frozen? ⟨q, i, none⟩ = false := frozen_of_row _ _ _ _ _ h
theorem DB.set {W : World} {q : Nat} {top : Int} {cs : List Int} (h : DB W q top cs) (k : Nat) (x : Int) : DB (W.setCell ⟨q, 1 + k, none⟩ (.int .i64 x)) q top (cs.set k x) := by
  have := heap_setCell_same W q (1 + k) _ 46 (.int .i64 x) h
  unfold DB
  rw [this]
  congr 2
  rw [List.setIfInBounds_toArray, Nat.add_comm, List.set_cons_succ]
  congr 2
  simp [i64s, List.map_set]
/-- No counts yet. -/
def z16 : List Int := List.replicate 16 0
theorem Cts.start {top : Int} (h1 : 1 ≤ top) (h2 : top ≤ 2147483647) : Cts top z16 := by
  have h0 : ∀ k, z16.getD k 0 = 0 := by
    intro k
    rw [List.getD_eq_getElem?_getD, z16, List.getElem?_replicate]
    split <;> rfl
  exact ⟨rfl, rfl, fun k => by rw [h0]; omega, fun k => by rw [h0]; omega, h1, h2⟩
theorem getD_set (cs : List Int) (k j : Nat) (x : Int) : (cs.set k x).getD j 0 = if k = j ∧ j < cs.length then x else cs.getD j 0 := by
  rw [List.getD_eq_getElem?_getD, List.getD_eq_getElem?_getD, List.getElem?_set]
  by_cases h : k = j
  · subst h
    by_cases h2 : k < cs.length
    · simp [h2]
    · simp [h2]
  · simp [h]
theorem Cts.add {top : Int} {cs : List Int} (h : Cts top cs) (k : Nat) (hk : 1 ≤ k) (n : Int) (hn : 0 ≤ n) : Cts top (addC top cs k n) := by
  have h1 := h.top1
  have hx := h.low k
  refine ⟨by rw [addC, List.length_set, h.len], ?_, fun j => ?_, fun j => ?_, h.top1, h.top2⟩
  · rw [addC, getD_set, if_neg (by omega)]; exact h.zero
  · rw [addC, getD_set]
    have := h.low j
    split <;> omega
  · rw [addC, getD_set]
    have := h.high j
    split <;> omega
set_option maxRecDepth 100000 in
set_option maxHeartbeats 4000000 in
theorem made_any (q : Nat) (top : Int) (cs : List Int) (w : World) (h : DB w q top cs) (ht : 1 ≤ top) : Calls Try.prog 16 #[.pointer (some ⟨q, 0, none⟩)] w fun e w' => e = .returned (.bool true) ∧ w' = w := by
  have c0 := h.top
  have d0 : decide (0 < top) = true := decide_eq_true (by omega)
  clear h ht
  go_enter Try.func16, Try.ntmps16
  go_wp2
  go_ret
  exact ⟨rfl, rfl⟩
set_option maxRecDepth 100000 in
set_option maxHeartbeats 4000000 in
theorem reason_any (e : Int) (w : World) : Calls Try.prog 17 #[.int .i64 e] w fun x w' => x = .returned (.bool (isRe e)) ∧ w' = w := by
  unfold isRe
  by_cases h1 : 1 ≤ e
  · have d1 : decide (1 ≤ e) = true := decide_eq_true h1
    obtain ⟨r, hr⟩ : ∃ r, decide (e ≤ 15) = r := ⟨_, rfl⟩
    rw [d1, hr, Bool.true_and]
    go_enter Try.func17, Try.ntmps17
    go_wp2
    go_ret
    exact ⟨rfl, rfl⟩
  · have d1 : decide (1 ≤ e) = false := decide_eq_false h1
    rw [d1, Bool.false_and]
    go_enter Try.func17, Try.ntmps17
    go_wp2
    go_ret
    exact ⟨rfl, rfl⟩
set_option maxRecDepth 100000 in
set_option maxHeartbeats 4000000 in
theorem dnew_ok (top : Int) (w : World) (h1 : 1 ≤ top) (h2 : top ≤ 2147483647) : Calls Try.prog 5 #[.int .i64 top] w fun e w' => e = .returned (.tuple #[.pointer (some ⟨w.heap.size, 0, none⟩), .int .i64 0]) ∧ DB w' w.heap.size top z16 ∧ Below w.heap.size w w' := by
  have t1 : ¬ top < 1 := by omega
  have t2 : ¬ 2147483647 < top := by omega
  clear h1 h2
  go_enter Try.func5, Try.ntmps5
  go_wp2
  skip -- M1
  go_ret2
  exact ⟨rfl, hnew _ _ _ rfl, below_a _⟩
end Go.Proofs.Ytfommmkkdgdmfaa
namespace Go.Proofs.Ytfommmkkdgdmfaa
open Go Go.RowKit
set_option maxRecDepth 100000 in
set_option maxHeartbeats 4000000 in
theorem add_any (q : Nat) (top : Int) (cs : List Int) (k : Nat) (n : Int) (w : World) (h : DB w q top cs) (hc : Cts top cs) (hk : 1 ≤ k) (hk2 : k ≤ 15) (hn : 0 ≤ n) (hn2 : n ≤ 2147483647) : Calls Try.prog 18 #[.pointer (some ⟨q, 0, none⟩), .int .i64 (k : Int), .int .i64 n] w fun e w' => e = .returned (.tuple #[]) ∧ DB w' q top (addC top cs k n) ∧ w.grownBy w' (some q) := by
  have c0 := h.top
  have ck := h.cell k (by rw [hc.len]; omega)
  have fk := h.frozen (1 + k)
  have HB := Bx.mk h
  have h1 := hc.low k
  have h2 := hc.high k
  have h3 := hc.top2
  unfold addC
  generalize cs.getD k 0 = c at *
  obtain ⟨x, hx⟩ : ∃ x, min top (c + n) = x := ⟨_, rfl⟩
  have e0 : IntKind.i64.wrap (top - c) = top - c := by simp [IntKind.wrap_i64]; omega
  have e1 : IntKind.i64.wrap (c + if top - c < n then top - c else n) = x := by
    rw [IntKind.wrap_i64]
    split <;> omega
  rw [hx]
  have hk3 : (k : Int) < 16 := by omega
  have hk4 : (0 : Int) ≤ (k : Int) := by omega
  clear h hc hk hk2 hn hn2 h1 h2 h3 hx
  go_enter Try.func18, Try.ntmps18
  go_wp2
  skip -- M1
  go_region
  skip -- M2
  go_end0
  exact ⟨rfl, (HB.out.later (below_drewN (Below.refl _ _) _)).set k x, kb_trans (kb_drewN _ _ _) (kb_setCell _ _ _)⟩
end Go.Proofs.Ytfommmkkdgdmfaa
namespace Go.Proofs.Ytfommmkkdgdmfaa
open Go Go.RowKit
theorem DB.range {W : World} {q : Nat} {top : Int} {cs : List Int} (h : DB W q top cs) : W.rangeAt q 1 (i64s cs) := fun j v hj => by
  rw [cell_of_row _ _ _ _ _ _ h, List.getElem?_toArray, Nat.add_comm, List.getElem?_cons_succ]
  exact hj
theorem i64s_len (cs : List Int) : (i64s cs).length = cs.length := by simp [i64s]
theorem i64s_one (cs : List Int) : (i64s cs).toArray.all (·.oneCell') = true := all_oneCell_toArray fun v hv => by
  unfold i64s at hv
  simp at hv
  obtain ⟨n, -, rfl⟩ := hv
  rfl
theorem info16 (n : Nat) (h : n = 16) : (Try.prog.info? 35).map (·.size) = some n := by subst h; kernel_rfl
theorem info17 (n : Nat) (h : n = 17) : (Try.prog.info? 46).map (·.size) = some n := by subst h; kernel_rfl
set_option maxRecDepth 100000 in
set_option maxHeartbeats 4000000 in
theorem of_any13 (q : Nat) (top : Int) (cs : List Int) (e : Int) (w : World) (h : DB w q top cs) (hc : cs.length = 16) : Calls Try.prog 14 #[.pointer (some ⟨q, 0, none⟩), .int .i64 e] w fun x w' => x = .returned (.int .i64 (if isRe e = true then cs.getD e.toNat 0 else 0)) ∧ w' = w := by
  have HR := Bx.mk (reason_any e)
  by_cases hr : isRe e = true
  · rw [if_pos hr]
    obtain ⟨h1, h2⟩ := (isRe_iff e).1 hr
    obtain ⟨k, rfl⟩ : ∃ k : Nat, e = (k : Int) := ⟨e.toNat, by omega⟩
    rw [hr] at HR
    have ck := h.cell k (by omega)
    rw [Int.toNat_natCast]
    generalize cs.getD k 0 = c at *
    have hk3 : (k : Int) < 16 := by omega
    have hk4 : (0 : Int) ≤ (k : Int) := by omega
    clear h hc hr h1 h2
    go_enter Try.func14, Try.ntmps14
    go_wp2_with (refine (HR.out _).mono ?_; rintro x w2 ⟨rfl, rfl⟩)
    go_ret
    exact ⟨rfl, rfl⟩
  · rw [if_neg hr]
    rw [Bool.not_eq_true] at hr
    rw [hr] at HR
    clear h hc hr
    go_enter Try.func14, Try.ntmps14
    go_wp2_with (refine (HR.out _).mono ?_; rintro x w2 ⟨rfl, rfl⟩)
    go_ret
    exact ⟨rfl, rfl⟩
set_option maxRecDepth 100000 in
set_option maxHeartbeats 4000000 in
theorem all_any13 (q : Nat) (top : Int) (cs : List Int) (w : World) (h : DB w q top cs) (hc : cs.length = 16) : Calls Try.prog 8 #[.pointer (some ⟨q, 0, none⟩)] w fun x w' => x = .returned (.agg (i64s cs).toArray) ∧ Below w.heap.size w w' := by
  have HL := Bx.mk (h.later (below_a (.cells (i64s z16).toArray 35))).range
  have HR : Bx ((w.alloc (.cells (i64s z16).toArray 35)).heap[w.heap.size]? = some (.cells (i64s z16).toArray 35 (0, 0))) := Bx.mk (hnew _ _ _ rfl)
  have HI := Bx.mk (info16 (i64s cs).toArray.size (by simp [i64s, hc]))
  have HI2 := Bx.mk (info16 (i64s cs).length (by simp [i64s, hc]))
  have HO := Bx.mk (i64s_one cs)
  have HSz : Bx ((i64s cs).toArray.size = (i64s z16).toArray.size) := Bx.mk (by simp [i64s, hc, z16])
  generalize i64s cs = l at *
  clear h hc
  go_enter Try.func8, Try.ntmps8
  go_wp2_with (first | (refine wpList_load_mid rfl 35 _ rfl q 1 (by rfl) l _ HL.out Try.underlying35 rfl HI2.out ?_) | (refine wpList_store_new rfl 35 _ _ rfl w.heap.size l.toArray _ _ (by rfl) (by rfl) HR.out HSz.out HI.out HO.out ?_; intro w2 hw2 hr2; have HR2 := Bx.mk hr2; have HB2 : Bx (Below w.heap.size w w2) := Bx.mk (by rw [hw2]; exact below_setCells (Nat.le_refl _) _ _ _ _ (below_a _)); clear hw2 hr2 HR))
  refine bodyPost_ret (results_cell_row rfl _ _ w.heap.size _ _ _ _ rfl HR2.out Try.underlying35 rfl HI.out) rfl ?_
  exact ⟨rfl, HB2.out⟩
set_option maxRecDepth 100000 in
set_option maxHeartbeats 4000000 in
theorem copy_any13 (q : Nat) (top : Int) (cs : List Int) (w : World) (h : DB w q top cs) (hc : cs.length = 16) : Calls Try.prog 11 #[.pointer (some ⟨q, 0, none⟩)] w fun x w' => x = .returned (.pointer (some ⟨w.heap.size, 0, none⟩)) ∧ DB w' w.heap.size top cs ∧ Below w.heap.size w w' := by
  have HL := Bx.mk h
  unfold DB at HL
  have HI := Bx.mk (info17 (Value.int .i64 top :: i64s cs).toArray.size (by simp [i64s, hc]))
  have HO : Bx ((Value.int .i64 top :: i64s cs).toArray.all (·.oneCell') = true) := Bx.mk (all_oneCell_toArray fun v hv => by
    rcases List.mem_cons.1 hv with rfl | hv
    · rfl
    · unfold i64s at hv
      simp at hv
      obtain ⟨n, -, rfl⟩ := hv
      rfl)
  have HSz : Bx ((Value.int .i64 top :: i64s cs).toArray.size = (Value.int .i64 0 :: i64s z16).toArray.size) := Bx.mk (by simp [i64s, hc, z16])
  unfold DB
  generalize (Value.int .i64 top :: i64s cs).toArray = l at *
  clear h hc
  go_enter Try.func11, Try.ntmps11
  go_wp2_with (first | (refine wpList_load_row rfl 46 _ rfl q (by rfl) _ l (0, 0) _ HL.out Try.underlying46 rfl HI.out ?_) | (refine wpList_store_var rfl 46 _ _ rfl w (Value.int .i64 0 :: i64s z16).toArray 46 (by rfl) (by rfl) l (by rfl) HSz.out HI.out HO.out ?_; intro w2 hb hr _; have HH := Bx.mk (And.intro hr hb); clear hb hr))
  go_ret
  exact ⟨rfl, HH.out.1, HH.out.2⟩
end Go.Proofs.Ytfommmkkdgdmfaa
namespace Go.Proofs.Ytfommmkkdgdmfaa
open Go Go.RowKit
/-- Cells of numbers, compared. -/
def i64c13 (n : Int) : Value := .int .i64 n
theorem all_range_eqI13 : ∀ (xs ys : List Int), xs.length = ys.length → ((List.range xs.length).all fun i => xs.getD i 0 == ys.getD i 0) = (xs == ys)
  | [], [], _ => rfl
  | x :: xs, y :: ys, h => by
    have ih := all_range_eqI13 xs ys (by simpa using h)
    rw [List.length_cons, List.range_succ_eq_map, List.all_cons, List.all_map]
    simp only [List.getD_cons_zero, Function.comp_def, List.getD_cons_succ, ih]
    simp [List.cons_beq_cons]
  | [], _ :: _, h => by simp at h
  | _ :: _, [], h => by simp at h
theorem equalIn_ints13 {P : Program} (w : World) (d : Nat) (t e : TypeId) (n : Nat) (ht : P.underlying t = some (.array n e)) (he : P.underlying e = some (.int .i64)) (hsz : ∀ w, (sizeOf e).run P w = .ok 1 w)
    (xs ys : List Int) (hx : xs.length = n) (hy : ys.length = n) :
    (Op.equalIn (d + 2) t (.agg (xs.map i64c13).toArray) (.agg (ys.map i64c13).toArray)).run P w = .ok (xs == ys) w := by
  rw [← all_range_eqI13 xs ys (hx.trans hy.symm), hx, List.range_eq_range', Op.equalIn]
  simp only [Sem.run_bind, run_underlying ht, Result.andThen_ok, hsz, Std.Legacy.Range.forIn_eq_forIn_range', Std.Legacy.Range.size, Nat.sub_zero, Nat.add_sub_cancel, Nat.div_one]
  have hl : ∀ i ∈ List.range' 0 n 1, i < n := fun i hi => by simpa using (List.mem_range'_1.1 hi).2
  generalize List.range' 0 n 1 = l at hl ⊢
  induction l with
  | nil => simp
  | cons i l ih =>
    have hi : i < n := hl i (by simp)
    have px : (part e (xs.map i64c13).toArray (i * 1)).run P w = .ok (i64c13 (xs.getD i 0)) w := by
      simp [part, isAgg, run_underlying he, List.getD, List.getElem?_eq_getElem (show i < xs.length by omega)]
    have py : (part e (ys.map i64c13).toArray (i * 1)).run P w = .ok (i64c13 (ys.getD i 0)) w := by
      simp [part, isAgg, run_underlying he, List.getD, List.getElem?_eq_getElem (show i < ys.length by omega)]
    have pe : (Op.equalIn (d + 1) e (i64c13 (xs.getD i 0)) (i64c13 (ys.getD i 0))).run P w = .ok (xs.getD i 0 == ys.getD i 0) w := by
      rw [i64c13, i64c13, run_equalIn_int w d e .i64 .i64 _ _ he]
      try congr 1
    simp only [List.forIn_cons, Sem.run_bind, px, py, pe, Result.andThen_ok, List.all_cons]
    cases hb : (xs.getD i 0 == ys.getD i 0)
    · simp
    · simp only [Bool.not_true, Bool.false_eq_true, if_false, Sem.run_pure, Result.andThen_ok, Bool.true_and]
      exact ih fun j hj => hl j (by simp [hj])
theorem i64s_13 (l : List Int) : i64s l = l.map i64c13 := rfl
theorem arr_eql13 (cs ds : List Int) (hc : cs.length = 16) (hd : ds.length = 16) (W : World) : (binOp BinOp.eql 35 (.agg (i64s cs).toArray) (.agg (i64s ds).toArray)).run Try.prog W = .ok (.bool (cs == ds)) W := by
  have h := equalIn_ints13 (P := Try.prog) W 9998 35 3 16 Try.underlying35 Try.underlying3 (fun _ => by kernel_rfl) cs ds hc hd
  rw [i64s_13, i64s_13, run_eql_struct]
  exact (congrArg (fun z => z.andThen fun b w' => Result.ok (Value.bool b) w') h).trans rfl
structure SmS (p q : Nat) (tp : Int) (cs ds : List Int) (W : World) : Prop where
  a : W.cell? ⟨p, 0, none⟩ = some (.int .i64 tp)
  b : W.cell? ⟨q, 0, none⟩ = some (.int .i64 tp)
  c : W.rangeAt p 1 (i64s cs)
  d : W.rangeAt q 1 (i64s ds)
set_option maxRecDepth 100000 in
set_option maxHeartbeats 4000000 in
theorem same_any13 (p q : Nat) (tp tq : Int) (cs ds : List Int) (w : World) (h : DB w p tp cs) (hq : DB w q tq ds) (hc : cs.length = 16) (hd : ds.length = 16) : Calls Try.prog 13 #[.pointer (some ⟨p, 0, none⟩), .pointer (some ⟨q, 0, none⟩)] w fun x w' => x = .returned (.bool (decide (tp = tq) && (cs == ds))) ∧ Below w.heap.size w w' := by
  have c1 := h.top
  have c2 := hq.top
  by_cases h1 : tp = tq
  · subst h1
    have heq := arr_eql13 cs ds hc hd
    have l1 : (Instr.loadAt 35 (.pointer (some ⟨p, 1, none⟩))).run Try.prog w = .ok (.agg (i64s cs).toArray) w := by
      simp only [Instr.loadAt, Instr.sureAddr, Sem.run_bind, Sem.run_pure, Result.andThen_ok, run_loadVar_mid w p 1 35 (i64s cs) _ h.range Try.underlying35 rfl (info16 _ (by rw [i64s_len, hc]))]
    have l2 : (Instr.loadAt 35 (.pointer (some ⟨q, 1, none⟩))).run Try.prog w = .ok (.agg (i64s ds).toArray) w := by
      simp only [Instr.loadAt, Instr.sureAddr, Sem.run_bind, Sem.run_pure, Result.andThen_ok, run_loadVar_mid w q 1 35 (i64s ds) _ hq.range Try.underlying35 rfl (info16 _ (by rw [i64s_len, hd]))]
    rw [decide_eq_true (rfl : tp = tp), Bool.true_and]
    have d1 : decide (tp = tp) = true := decide_eq_true rfl
    generalize (cs == ds) = r at *
    have I1 := Bx.mk (info16 (i64s cs).length (by rw [i64s_len, hc]))
    have I2 := Bx.mk (info16 (i64s ds).length (by rw [i64s_len, hd]))
    go_enter Try.func13, Try.ntmps13
    go_upto_region 3 with fail
    have HS : Bx (SmS p q tp cs ds w.drew) := Bx.mk ⟨c1, c2, (h.later (Below.refl _ _).drew).range, (hq.later (Below.refl _ _).drew).range⟩
    have HB : Bx (Below w.heap.size w w.drew) := Bx.mk (Below.refl _ _).drew
    clear c1 c2 h hq hc hd l1 l2
    refine wp_region_noPanic ?_
    refine wp_region_held_drew (S := SmS p q tp cs ds) (by kernel_rfl) (HS.out) (fun hHeld => ?_)
    generalize w.drew = W0 at *
    refine takeL 0 (v := ?_) rfl (by kernel_rfl) (by kernel_rfl) (by kernel_rfl) (fun _ _ _ h => h) (Or.inl ⟨by rfl, ?_⟩) hHeld ?_
    rotate_left 1
    · (intro w hSw; go_simp; try with_reducible rfl)
    try simp only [Act.put, List.setIfInBounds_toArray, List.set_cons_zero, List.set_cons_succ]
    refine takeL 1 (v := ?_) rfl (by kernel_rfl) (by kernel_rfl) (by kernel_rfl) (fun _ _ _ h => h) (Or.inl ⟨by rfl, ?_⟩) hHeld ?_
    rotate_left 1
    · (intro w hSw; go_simp; try with_reducible rfl)
    try simp only [Act.put, List.setIfInBounds_toArray, List.set_cons_zero, List.set_cons_succ]
    refine takeL 2 (v := ?_) rfl (by kernel_rfl) (by kernel_rfl) (by kernel_rfl) (fun _ _ _ h => h) (Or.inl ⟨by rfl, ?_⟩) hHeld ?_
    rotate_left 1
    · (intro w hSw; go_simp; try with_reducible rfl)
    try simp only [Act.put, List.setIfInBounds_toArray, List.set_cons_zero, List.set_cons_succ]
    refine takeL 3 (v := ?_) rfl (by kernel_rfl) (by kernel_rfl) (by kernel_rfl) (fun _ _ _ h => h) (Or.inl ⟨by rfl, ?_⟩) hHeld ?_
    rotate_left 1
    · (intro w hSw; have c0 := hSw.a; go_simp; try with_reducible rfl)
    try simp only [Act.put, List.setIfInBounds_toArray, List.set_cons_zero, List.set_cons_succ]
    refine takeL 4 (v := ?_) rfl (by kernel_rfl) (by kernel_rfl) (by kernel_rfl) (fun _ _ _ h => h) (Or.inl ⟨by rfl, ?_⟩) hHeld ?_
    rotate_left 1
    · (intro w hSw; go_simp; try with_reducible rfl)
    try simp only [Act.put, List.setIfInBounds_toArray, List.set_cons_zero, List.set_cons_succ]
    refine takeL 5 (v := ?_) rfl (by kernel_rfl) (by kernel_rfl) (by kernel_rfl) (fun _ _ _ h => h) (Or.inl ⟨by rfl, ?_⟩) hHeld ?_
    rotate_left 1
    · (intro w hSw; go_simp; try with_reducible rfl)
    try simp only [Act.put, List.setIfInBounds_toArray, List.set_cons_zero, List.set_cons_succ]
    refine takeL 6 (v := ?_) rfl (by kernel_rfl) (by kernel_rfl) (by kernel_rfl) (fun _ _ _ h => h) (Or.inl ⟨by rfl, ?_⟩) hHeld ?_
    rotate_left 1
    · (intro w hSw; go_simp; try with_reducible rfl)
    try simp only [Act.put, List.setIfInBounds_toArray, List.set_cons_zero, List.set_cons_succ]
    refine takeL 7 (v := ?_) rfl (by kernel_rfl) (by kernel_rfl) (by kernel_rfl) (fun _ _ _ h => h) (Or.inl ⟨by rfl, ?_⟩) hHeld ?_
    rotate_left 1
    · (intro w hSw; have c0 := hSw.b; go_simp; try with_reducible rfl)
    try simp only [Act.put, List.setIfInBounds_toArray, List.set_cons_zero, List.set_cons_succ]
    refine takeL 8 (v := ?_) rfl (by kernel_rfl) (by kernel_rfl) (by kernel_rfl) (fun _ _ _ h => h) (Or.inl ⟨by rfl, ?_⟩) hHeld ?_
    rotate_left 1
    · (intro w hSw; go_simp; try with_reducible rfl)
    try simp only [Act.put, List.setIfInBounds_toArray, List.set_cons_zero, List.set_cons_succ]
    refine takeL 9 (v := ?_) rfl (by kernel_rfl) (by kernel_rfl) (by kernel_rfl) (fun _ _ _ h => h) (Or.inl ⟨by rfl, ?_⟩) hHeld ?_
    rotate_left 1
    · (intro w hSw; go_simp; try with_reducible rfl)
    try simp only [Act.put, List.setIfInBounds_toArray, List.set_cons_zero, List.set_cons_succ]
    refine takeL 10 (v := ?_) rfl (by kernel_rfl) (by kernel_rfl) (by kernel_rfl) (fun _ _ _ h => h) (Or.inl ⟨by rfl, ?_⟩) hHeld ?_
    rotate_left 1
    · (intro w hSw; go_simp; try with_reducible rfl)
    try simp only [Act.put, List.setIfInBounds_toArray, List.set_cons_zero, List.set_cons_succ]
    refine takeL 11 (v := ?_) rfl (by kernel_rfl) (by kernel_rfl) (by kernel_rfl) (fun _ _ _ h => h) (Or.inl ⟨by rfl, ?_⟩) hHeld ?_
    rotate_left 1
    · (intro w hSw; go_simp; try with_reducible rfl)
    try simp only [Act.put, List.setIfInBounds_toArray, List.set_cons_zero, List.set_cons_succ]
    refine takeL 12 (v := ?_) rfl (by kernel_rfl) (by kernel_rfl) (by kernel_rfl) (fun _ _ _ h => h) (Or.inl ⟨by rfl, ?_⟩) hHeld ?_
    rotate_left 1
    · (intro w hSw; go_simp; try with_reducible rfl)
    try simp only [Act.put, List.setIfInBounds_toArray, List.set_cons_zero, List.set_cons_succ]
    refine takeL 13 rfl (by kernel_rfl) (by kernel_rfl) (by kernel_rfl) (fun _ _ _ h => h) (yieldsIf_load_mid (by rfl) _ _ rfl _ _ rfl _ _ (fun w hSw => hSw.c) Try.underlying35 rfl I1.out) hHeld ?_
    try simp only [Act.put, List.setIfInBounds_toArray, List.set_cons_zero, List.set_cons_succ]
    refine takeL 14 (v := ?_) rfl (by kernel_rfl) (by kernel_rfl) (by kernel_rfl) (fun _ _ _ h => h) (Or.inl ⟨by rfl, ?_⟩) hHeld ?_
    rotate_left 1
    · (intro w hSw; go_simp; try with_reducible rfl)
    try simp only [Act.put, List.setIfInBounds_toArray, List.set_cons_zero, List.set_cons_succ]
    refine takeL 15 (v := ?_) rfl (by kernel_rfl) (by kernel_rfl) (by kernel_rfl) (fun _ _ _ h => h) (Or.inl ⟨by rfl, ?_⟩) hHeld ?_
    rotate_left 1
    · (intro w hSw; go_simp; try with_reducible rfl)
    try simp only [Act.put, List.setIfInBounds_toArray, List.set_cons_zero, List.set_cons_succ]
    refine takeL 16 (v := ?_) rfl (by kernel_rfl) (by kernel_rfl) (by kernel_rfl) (fun _ _ _ h => h) (Or.inl ⟨by rfl, ?_⟩) hHeld ?_
    rotate_left 1
    · (intro w hSw; go_simp; try with_reducible rfl)
    try simp only [Act.put, List.setIfInBounds_toArray, List.set_cons_zero, List.set_cons_succ]
    refine takeL 17 rfl (by kernel_rfl) (by kernel_rfl) (by kernel_rfl) (fun _ _ _ h => h) (yieldsIf_load_mid (by rfl) _ _ rfl _ _ rfl _ _ (fun w hSw => hSw.d) Try.underlying35 rfl I2.out) hHeld ?_
    try simp only [Act.put, List.setIfInBounds_toArray, List.set_cons_zero, List.set_cons_succ]
    refine takeL 18 (v := ?_) rfl (by kernel_rfl) (by kernel_rfl) (by kernel_rfl) (fun _ _ _ h => h) (Or.inl ⟨by rfl, ?_⟩) hHeld ?_
    rotate_left 1
    · (intro w hSw; go_simp; try with_reducible rfl)
    try simp only [Act.put, List.setIfInBounds_toArray, List.set_cons_zero, List.set_cons_succ]
    refine takeL 19 (v := ?_) rfl (by kernel_rfl) (by kernel_rfl) (by kernel_rfl) (fun _ _ _ h => h) (Or.inl ⟨by rfl, ?_⟩) hHeld ?_
    rotate_left 1
    · (intro w hSw; go_simp; try with_reducible rfl)
    try simp only [Act.put, List.setIfInBounds_toArray, List.set_cons_zero, List.set_cons_succ]
    refine takeL 20 (v := ?_) rfl (by kernel_rfl) (by kernel_rfl) (by kernel_rfl) (fun _ _ _ h => h) (Or.inl ⟨by rfl, ?_⟩) hHeld ?_
    rotate_left 1
    · (intro w hSw; go_simp; try with_reducible rfl)
    try simp only [Act.put, List.setIfInBounds_toArray, List.set_cons_zero, List.set_cons_succ]
    refine wpAnyH_done (by kernel_rfl) ?_ _
    refine NoPanic.normal ?_
    clear hHeld
    go_wp2
    go_ret
    exact ⟨rfl, HB.out⟩
  · rw [decide_eq_false h1, Bool.false_and]
    have d1 : decide (tp = tq) = false := decide_eq_false h1
    clear h hq hc hd
    go_enter Try.func13, Try.ntmps13
    go_wp2
    go_quiet (fail)
    go_wp2
    go_ret
    exact ⟨rfl, below_drewN (Below.refl _ _) _⟩
end Go.Proofs.Ytfommmkkdgdmfaa
namespace Go.Proofs.Ytfommmkkdgdmfaa
open Go Go.RowKit
set_option maxRecDepth 100000 in
set_option maxHeartbeats 4000000 in
theorem each_cap (q : Nat) (g : Nat) (lb : Array Value) (I : Nat → World → Prop) (w : World) (eg : ∀ args w, (callFunc g args).run Try.prog w = .ok (.enter g args) w) (h0 : I 1 w)
    (hstep : ∀ (k : Nat) (w' : World), 1 ≤ k → k ≤ 15 → I k w' → ∃ c : Int, w'.cell? ⟨q, 1 + k, none⟩ = some (.int .i64 c) ∧ Calls Try.prog g (#[.int .i64 (k : Int), .int .i64 c] ++ lb) w' fun e w'' => e = .returned (.tuple #[]) ∧ I (k + 1) w'') :
    Calls Try.prog 21 #[.pointer (some ⟨q, 0, none⟩), .func (.func g) #[] lb] w fun e w' => e = .returned (.tuple #[]) ∧ I 16 w' := by
  have HS := Bx.mk hstep
  have H0 := Bx.mk h0
  clear hstep h0
  go_enter Try.func21, Try.ntmps21
  go_wp2
  go_loopw [4] (fun i wr => ∃ k : Nat, 1 ≤ k ∧ k ≤ 16 ∧ i = .int .i64 (k : Int) ∧ Bx (I k wr)) (fun i _ => 16 - (intOf i).toNat)
  case atStart => exact ⟨1, by omega, by omega, rfl, H0⟩
  case round =>
    clear H0
    obtain ⟨k, hk1, hk2, rfl, HI⟩ := hrel
    by_cases hlt : k ≤ 15
    · have t1 : (k : Int) ≤ 15 := by omega
      have t2 : (k : Int) < 16 := by omega
      have t3 : (0 : Int) ≤ (k : Int) := by omega
      obtain ⟨c, ck, HC⟩ := HS.out k _ hk1 hlt HI.out
      have HC := Bx.mk HC
      clear HI
      go_wp2_with (go_at_fn g; refine HC.out.mono ?_; rintro e w1 ⟨rfl, h1⟩; have H1 := Bx.mk h1; clear h1)
      go_roundw
      case rel => exact ⟨k + 1, by omega, by omega, by go_num, H1⟩
      case measure => simp [intOf]; omega
    · obtain rfl : k = 16 := by omega
      go_wp2
      go_end0
      exact ⟨rfl, HI.out⟩
set_option maxRecDepth 100000 in
set_option maxHeartbeats 4000000 in
theorem each_bound (q : Nat) (g : Nat) (fb : Value) (I : Nat → World → Prop) (w : World) (eg : ∀ args w, (callFunc g args).run Try.prog w = .ok (.enter g args) w) (h0 : I 1 w)
    (hstep : ∀ (k : Nat) (w' : World), 1 ≤ k → k ≤ 15 → I k w' → ∃ c : Int, w'.cell? ⟨q, 1 + k, none⟩ = some (.int .i64 c) ∧ Calls Try.prog g (#[fb, .int .i64 (k : Int), .int .i64 c]) w' fun e w'' => e = .returned (.tuple #[]) ∧ I (k + 1) w'') :
    Calls Try.prog 21 #[.pointer (some ⟨q, 0, none⟩), .func (.func g) #[fb] #[]] w fun e w' => e = .returned (.tuple #[]) ∧ I 16 w' := by
  have HS := Bx.mk hstep
  have H0 := Bx.mk h0
  clear hstep h0
  go_enter Try.func21, Try.ntmps21
  go_wp2
  go_loopw [4] (fun i wr => ∃ k : Nat, 1 ≤ k ∧ k ≤ 16 ∧ i = .int .i64 (k : Int) ∧ Bx (I k wr)) (fun i _ => 16 - (intOf i).toNat)
  case atStart => exact ⟨1, by omega, by omega, rfl, H0⟩
  case round =>
    clear H0
    obtain ⟨k, hk1, hk2, rfl, HI⟩ := hrel
    by_cases hlt : k ≤ 15
    · have t1 : (k : Int) ≤ 15 := by omega
      have t2 : (k : Int) < 16 := by omega
      have t3 : (0 : Int) ≤ (k : Int) := by omega
      obtain ⟨c, ck, HC⟩ := HS.out k _ hk1 hlt HI.out
      have HC := Bx.mk HC
      clear HI
      go_wp2_with (go_at_fn g; refine HC.out.mono ?_; rintro e w1 ⟨rfl, h1⟩; have H1 := Bx.mk h1; clear h1)
      go_roundw
      case rel => exact ⟨k + 1, by omega, by omega, by go_num, H1⟩
      case measure => simp [intOf]; omega
    · obtain rfl : k = 16 := by omega
      go_wp2
      go_end0
      exact ⟨rfl, HI.out⟩
end Go.Proofs.Ytfommmkkdgdmfaa
