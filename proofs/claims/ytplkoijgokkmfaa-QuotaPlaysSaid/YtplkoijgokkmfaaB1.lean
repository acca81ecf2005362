/-
  What many texts want: bytes, rows that a call owns, frames.
-/
import Derived.Laws.BitsAllLaws
import Derived.IntWalk
import Derived.Laws.Rows
import Derived.Below
import Derived.WalkKit
import Derived.ProofKit
import Derived.Handy
import Derived.PlainAid
import Derived.WalkLawsBesides
import Derived.Outline
import Derived.BigQuiet
import Derived.Deep.QuietTactic
import Derived.Lib.Hide
import Derived.Deep.MidRow
import Derived.Deep.RegionHeld3
import Derived.Deep.Cut
import Derived.Laws.MakeOwn
import Derived.Laws.CopyOwn
import Derived.Maps.AppendAt
import Derived.Laws.AppendOwnNone
import Derived.Lib.BufferRead
import Derived.Laws.IdiomStrings
import Derived.RegionTactic
import Derived.Control
import Derived.Deep.LoopGhost
import Derived.StillTailTactics
import Derived.Stop.BytesEq
import Derived.OwnWalk
import Derived.Lib.SlBytesConst
import Derived.WalkMore
import Derived.ChangeKeysEq
import Derived.OpenShut
import Derived.ShutString
import Derived.ChangeOld
import Derived.Deep.DeepHandedRow
import Derived.Lib.LaidTab
import Derived.Deep.Matrix
import Derived.Test.YtplkoijgokkmfaaProg
import Derived.Test.YtplkoijgokkmfaaRows
import Derived.Deep.Slices
import Derived.Maps.Keyed
import Derived.Maps.RangeWalk
import Derived.Maps.OwnSet
namespace Go.Proofs.Ytplkoijgokkmfaa
open Go Go.RowKit Go.ChangeShapes Go.WideShapes Go.ChangeAt
/-- A fact that is put away: the walk sees nothing of it. -/
structure Bx (p : Prop) : Prop where
  out : p
/-- A byte as the model's integer. -/
def ub (b : UInt8) : Int := (b.toNat : Int)
/-- Bytes as cells. -/
def u8s (l : List UInt8) : Array Value := (l.map fun x => Value.int .u8 (ub x)).toArray
theorem hold (w : World) (o : Obj) (i : Nat) (h : i < w.heap.size) : (w.alloc o).heap[i]? = w.heap[i]? := by
  show (w.heap.push o)[i]? = w.heap[i]?
  rw [Array.getElem?_push, if_neg (Nat.ne_of_lt h)]
theorem hnew (w : World) (o : Obj) (i : Nat) (h : i = w.heap.size) : (w.alloc o).heap[i]? = some o := by
  subst h
  show (w.heap.push o)[w.heap.size]? = some o
  simp
theorem kb_trans {b : Option Nat} {w w1 w2 : World} (h : w.grownBy w1 b) (k : w1.grownBy w2 b) : w.grownBy w2 b :=
  ⟨k.os.trans h.os, k.tape.trans h.tape, k.output.trans h.output, Nat.le_trans h.size k.size, fun i hi hne => (k.block i (Nat.lt_of_lt_of_le hi h.size) hne).trans (h.block i hi hne)⟩
theorem kb_below {w w1 : World} (b : Option Nat) (h : Below w.heap.size w w1) : w.grownBy w1 b := ⟨h.os, h.tape, h.output, h.size, fun i hi _ => h.block i hi⟩
/-- Bytes behind a slice whose block isn't b. -/
def BytesAt (w : World) (b : Nat) (v : Value) (ps : List UInt8) : Prop :=
  ∃ a cap, v = .slice a ps.length cap ∧ ps.length ≤ cap ∧ (0 < ps.length → ∃ c o, c ≠ b ∧ a = some ⟨c, o, none⟩ ∧ ∀ j, j < ps.length → w.cell? ⟨c, o + j, none⟩ = some (.int .u8 (ub (ps.getD j 0))))
theorem BytesAt.later {w w1 : World} {b : Nat} {v : Value} {ps : List UInt8} (h : BytesAt w b v ps) (hk : w.grownBy w1 (some b)) : BytesAt w1 b v ps := by
  obtain ⟨a, cap, hv, hc, hr⟩ := h
  refine ⟨a, cap, hv, hc, fun hp => ?_⟩
  obtain ⟨c, o, hne, ha, hcell⟩ := hr hp
  refine ⟨c, o, hne, ha, fun j hj => ?_⟩
  exact hk.cell (hcell j hj) (by simpa using hne)
/-- Parts behind a slice of slices, none of them in block b. -/
def PartsAt (w : World) (b : Nat) (v : Value) (pss : List (List UInt8)) : Prop :=
  ∃ a cap, v = .slice a pss.length cap ∧ (0 < pss.length → ∃ p o, p ≠ b ∧ a = some ⟨p, o, none⟩ ∧ ∀ j, j < pss.length → ∃ x, w.cell? ⟨p, o + j, none⟩ = some x ∧ BytesAt w b x (pss.getD j []))
theorem PartsAt.later {w w1 : World} {b : Nat} {v : Value} {pss : List (List UInt8)} (h : PartsAt w b v pss) (hk : w.grownBy w1 (some b)) : PartsAt w1 b v pss := by
  obtain ⟨a, cap, hv, hr⟩ := h
  refine ⟨a, cap, hv, fun hp => ?_⟩
  obtain ⟨p, o, hne, ha, hcell⟩ := hr hp
  refine ⟨p, o, hne, ha, fun j hj => ?_⟩
  obtain ⟨x, hx, hb⟩ := hcell j hj
  exact ⟨x, hk.cell hx (by simpa using hne), hb.later hk⟩
/-- Bytes behind a slice. -/
def Bytes (w : World) (v : Value) (ps : List UInt8) : Prop :=
  ∃ a cap, v = .slice a ps.length cap ∧ ps.length ≤ cap ∧ (a = none → cap = 0) ∧ (0 < ps.length → ∃ c o, a = some ⟨c, o, none⟩ ∧ ∀ j, j < ps.length → w.cell? ⟨c, o + j, none⟩ = some (.int .u8 (ub (ps.getD j 0))))
theorem Bytes.later {w w1 : World} {v : Value} {ps : List UInt8} (h : Bytes w v ps) (hb : Below w.heap.size w w1) : Bytes w1 v ps := by
  obtain ⟨a, cap, hv, hc, hn, hr⟩ := h
  refine ⟨a, cap, hv, hc, hn, fun hp => ?_⟩
  obtain ⟨c, o, ha, hcell⟩ := hr hp
  refine ⟨c, o, ha, fun j hj => ?_⟩
  have := World.block_lt_of_cell? _ _ (hcell j hj)
  rw [hb.cell (p := ⟨c, o + j, none⟩) this]
  exact hcell j hj
/-- Bytes in a row that the call owns. -/
def OwnB (w : World) (base : Nat) (v : Value) (l : List UInt8) : Prop := w.ownsRow base 5 1 v l.length (u8s l).toList
theorem OwnB.later {w w1 : World} {base B : Nat} {v : Value} {l : List UInt8} (h : OwnB w base v l) (hb : Below B w w1) (hB : ∀ g, v.ownBlock = some g → g < B) : OwnB w1 base v l := by
  refine ⟨h.1, ?_⟩
  rcases h.2 with h0 | ⟨g, cap, cur, hv, hb', hg, hr⟩
  · exact .inl h0
  · refine .inr ⟨g, cap, cur, hv, hb', ?_, hr⟩
    rw [hb.block g (hB g (by rw [hv]; rfl))]
    exact hg
theorem OwnB.lt {w : World} {base : Nat} {v : Value} {l : List UInt8} (h : OwnB w base v l) : ∀ g, v.ownBlock = some g → g < w.heap.size ∧ base ≤ g := by
  intro g hg
  rcases h.2 with ⟨rfl, _⟩ | ⟨g', cap, cur, rfl, hb, hh, _⟩
  · cases hg
  · injection hg with hg
    subst hg
    exact ⟨(Array.getElem?_eq_some_iff.1 hh).1, hb⟩
theorem OwnB.nil (w : World) (base : Nat) : OwnB w base (.slice none 0 0) [] := ⟨rfl, .inl ⟨rfl, rfl⟩⟩
theorem Bytes.cell {w : World} {ps : List UInt8} {a : Option Addr} {n cap : Nat} (h : Bytes w (.slice a n cap) ps) (k : Nat) (hk : k < n) : ∃ c o, a = some ⟨c, o, none⟩ ∧ w.cell? ⟨c, o + k, none⟩ = some (.int .u8 (ub (ps.getD k 0))) := by
  obtain ⟨a', cap', hv, hc, hn, hr⟩ := h
  injection hv with e1 e2 e3
  subst e1
  obtain ⟨c, o, ha, hcell⟩ := hr (by omega)
  exact ⟨c, o, ha, hcell k (by omega)⟩
theorem below_a {W : World} (o : Obj) : Below W.heap.size W (W.alloc o) := (Below.refl _ _).alloc (Nat.le_refl _) _
theorem Bytes.take {w : World} {a : Option Addr} {n cap : Nat} {bs : List UInt8} (h : Bytes w (.slice a n cap) bs) (m : Nat) (hm : m ≤ n) : Bytes w (.slice a m cap) (bs.take m) := by
  obtain ⟨a', cap', hv, hc, hn, hr⟩ := h
  injection hv with e1 e2 e3
  subst e1 e3
  have hl : (bs.take m).length = m := by rw [List.length_take]; omega
  refine ⟨a, cap, by rw [hl], by omega, hn, fun hp => ?_⟩
  obtain ⟨c, o, ha, hcell⟩ := hr (by omega)
  refine ⟨c, o, ha, fun j hj => ?_⟩
  rw [hcell j (by omega)]
  simp [show j < m by omega]
/-- Parts behind a slice of slices. -/
def Parts (w : World) (v : Value) (pss : List (List UInt8)) : Prop :=
  ∃ a cap, v = .slice a pss.length cap ∧ (0 < pss.length → ∃ p o, a = some ⟨p, o, none⟩ ∧ ∀ j, j < pss.length → ∃ x, w.cell? ⟨p, o + j, none⟩ = some x ∧ Bytes w x (pss.getD j []))
/-- Values in a row that the call owns. -/
def OwnP (w : World) (base : Nat) (v : Value) (xs : List Value) : Prop := w.ownsRow base 50 1 v xs.length xs
/-- Values that are slices of parts. -/
def Vals (w : World) (xs : List Value) (qs : List (List UInt8)) : Prop := xs.length = qs.length ∧ ∀ j, j < xs.length → Bytes w (xs.getD j undef) (qs.getD j [])
theorem OwnP.later {w w1 : World} {base B : Nat} {v : Value} {xs : List Value} (h : OwnP w base v xs) (hb : Below B w w1) (hB : ∀ g, v.ownBlock = some g → g < B) : OwnP w1 base v xs := by
  refine ⟨h.1, ?_⟩
  rcases h.2 with h0 | ⟨g, cap, cur, hv, hb', hg, hr⟩
  · exact .inl h0
  · refine .inr ⟨g, cap, cur, hv, hb', ?_, hr⟩
    rw [hb.block g (hB g (by rw [hv]; rfl))]
    exact hg
theorem OwnP.lt {w : World} {base : Nat} {v : Value} {xs : List Value} (h : OwnP w base v xs) : ∀ g, v.ownBlock = some g → g < w.heap.size ∧ base ≤ g := by
  intro g hg
  rcases h.2 with ⟨rfl, _⟩ | ⟨g', cap, cur, rfl, hb, hh, _⟩
  · cases hg
  · injection hg with hg
    subst hg
    exact ⟨(Array.getElem?_eq_some_iff.1 hh).1, hb⟩
theorem OwnP.a {W : World} {base : Nat} {v : Value} {xs : List Value} (h : OwnP W base v xs) (o : Obj) : OwnP (W.alloc o) base v xs := h.later (below_a _) (fun g hg => (h.lt g hg).1)
/-- The loops' bodies of a code, in the order of its text. -/
def loopsOf : Code → List Code
  | .loop c => c :: loopsOf c
  | .seq a b => loopsOf a ++ loopsOf b
  | .block _ c => loopsOf c
  | .scope c => loopsOf c
  | .cond _ a b => loopsOf a ++ loopsOf b
  | _ => []
def loopAt (c : Option Code) (k : Nat) : Code := ((c.map loopsOf).getD []).getD k .skip
/-- A frame of n slots, with nothing deferred. -/
structure Fr (n : Nat) (a : Act) : Prop where
  none : a.defers = []
  size : a.tmps.size = n
theorem list_range {α : Type} (l : List α) (d : α) : l = (List.range l.length).map fun i => l.getD i d := by
  apply List.ext_getElem
  · simp
  · intro i h1 h2; simp [h1]
theorem Fr.form {n : Nat} {a : Act} (h : Fr n a) : a = ⟨((List.range n).map fun i => a.tmps.getD i undef).toArray, []⟩ := by
  obtain ⟨⟨l⟩, d⟩ := a
  obtain ⟨h1, h2⟩ := h
  simp only at h1 h2
  have h3 : l.length = n := by simpa using h2
  subst h1 h3
  show (⟨⟨l⟩, []⟩ : Act) = ⟨((List.range l.length).map fun i => (⟨l⟩ : Array Value).getD i undef).toArray, []⟩
  have : (fun i => (⟨l⟩ : Array Value).getD i undef) = fun i => l.getD i undef := by
    funext i; simp [Array.getD_eq_getD_getElem?, List.getD_eq_getElem?_getD]
  rw [this, ← list_range]
/-- A loop that counts from k0 up to n. -/
theorem wp_count {P : Program} {Q : Exit → Act → World → Prop} {a : Act} {w : World} {c : Code} (n : Nat) (I : Nat → Act → World → Prop) (k0 : Nat) (hk : k0 ≤ n) (h0 : I k0 a w)
    (round : ∀ k a w, k < n → I k a w → c.wp P (Exit.then (fun a' w' => I (k + 1) a' w') Q) a w) (last : ∀ a w, I n a w → c.wp P (Exit.then (fun _ _ => False) Q) a w) : (Code.loop c).wp P Q a w := by
  refine wp_loop_ghost (fun m a w => ∃ k, k ≤ n ∧ m = n - k ∧ I k a w) (n - k0) ⟨k0, hk, rfl, h0⟩ ?_
  rintro m a w ⟨k, hk, rfl, hI⟩
  by_cases hlt : k < n
  · refine wp_mono (round k a w hlt hI) ?_
    rintro (_ | _ | _ | _ | _ | _) a' w' hq'
    case normal => exact ⟨n - (k + 1), by omega, k + 1, by omega, rfl, hq'⟩
    all_goals exact hq'
  · obtain rfl : k = n := by omega
    refine wp_mono (last a w hI) ?_
    rintro (_ | _ | _ | _ | _ | _) a' w' hq'
    case normal => exact absurd hq' id
    all_goals exact hq'
theorem OwnB.kept {w w1 : World} {base b : Nat} {v : Value} {l : List UInt8} (h : OwnB w base v l) (hk : w.grownBy w1 (some b)) (hne : v.ownBlock ≠ some b) : OwnB w1 base v l := by
  refine ⟨h.1, ?_⟩
  rcases h.2 with h0 | ⟨g', cap, cur, hv, hb', hg', hr⟩
  · exact .inl h0
  · refine .inr ⟨g', cap, cur, hv, hb', ?_, hr⟩
    rw [hk.block g' (Array.getElem?_eq_some_iff.1 hg').1 (fun e => hne (by rw [hv]; exact e))]
    exact hg'
theorem takeL {P : Program} {ops : Array Oper} {Q : Exit → Act → World → Prop} {md : Region.Mode} {S : World → Prop} (i : Nat) {oi : Oper} {v : Value} {fuel : Nat} {listed : Array Bool} {a : Act} {w : World} (hi : ops.toList[i]? = some oi)
    (hs : Region.noSelect ops = true) (hf : Region.free md ops listed i = true) (hr : (Region.ready md ops listed).contains i = true)
    (hQ : ∀ c a w, Q (.panic c) (a.put oi.dst v) w → Q (.panic c) a w) (hy : YieldsIf P ops S oi v a) (hS : S w)
    (h : wpAnyH P md ops Q S fuel (listed.setIfInBounds i true) (a.put oi.dst v) w) : wpAnyH P md ops Q S (fuel + 1) listed a w :=
  wpAnyH_take (by rw [← Array.getElem?_toList]; exact hi) hs hf hr hQ hy hS h
theorem stepL {P : Program} {ops : Array Oper} {Q : Exit → Act → World → Prop} {md : Region.Mode} {S : World → Prop} (i : Nat) {fuel : Nat} {listed : Array Bool} {a : Act} {w : World} {o : Oper} (hr : Region.ready md ops listed = [i]) (hi : ops.toList[i]? = some o)
    (h : ∀ K' : Act → World → Prop, Shut (∀ a w, S w → (S w → wpAnyH P md ops Q S fuel (listed.setIfInBounds i true) a w) → K' a w) → if Region.wanted o (yielded ops a.tmps) = true then Oper.wp P o a w K' Q else K' (a.put o.dst undef) w) :
    wpAnyH P md ops Q S (fuel + 1) listed a w :=
  wpAnyH_ready hr (by simp) (AllReadyH.cons (by rw [← Array.getElem?_toList]; exact hi) h AllReadyH.nil)
theorem Parts.later {w w1 : World} {v : Value} {pss : List (List UInt8)} (h : Parts w v pss) (hb : Below w.heap.size w w1) : Parts w1 v pss := by
  obtain ⟨a, cap, hv, hr⟩ := h
  refine ⟨a, cap, hv, fun hp => ?_⟩
  obtain ⟨p, o, ha, hcell⟩ := hr hp
  refine ⟨p, o, ha, fun j hj => ?_⟩
  obtain ⟨x, hx, hxb⟩ := hcell j hj
  exact ⟨x, by rw [hb.cell (p := ⟨p, o + j, none⟩) (World.block_lt_of_cell? _ _ hx)]; exact hx, hxb.later hb⟩
theorem Vals.later {w w1 : World} {xs : List Value} {qs : List (List UInt8)} (h : Vals w xs qs) (hb : Below w.heap.size w w1) : Vals w1 xs qs := ⟨h.1, fun j hj => (h.2 j hj).later hb⟩
theorem OwnB.weak {w : World} {base base' : Nat} {v : Value} {l : List UInt8} (h : OwnB w base v l) (hb : base' ≤ base) : OwnB w base' v l := by
  refine ⟨h.1, ?_⟩
  rcases h.2 with h0 | ⟨g, cap, cur, hv, hb', hr⟩
  · exact .inl h0
  · exact .inr ⟨g, cap, cur, hv, Nat.le_trans hb hb', hr⟩
/-- Bytes, and none of them in block g. -/
def BN (W : World) (g : Nat) (v : Value) (l : List UInt8) : Prop := Bytes W v l ∧ BytesAt W g v l
theorem BN.later {W W1 : World} {g : Nat} {v : Value} {l : List UInt8} (h : BN W g v l) (hk : W.grownBy W1 (some g)) : BN W1 g v l := by
  refine ⟨?_, h.2.later hk⟩
  obtain ⟨a, cap, hv, hc, hz, hr⟩ := h.1
  obtain ⟨a', cap', hv', hc', hr'⟩ := h.2.later hk
  rw [hv] at hv'
  injection hv' with e1 e2 e3
  subst e1
  exact ⟨a, cap, hv, hc, hz, fun hp => by obtain ⟨c, o, _, ha, hcell⟩ := hr' hp; exact ⟨c, o, ha, hcell⟩⟩
/-- A row of values behind a slice of slices. -/
def RowP (w : World) (x : Value) (ys : List Value) : Prop := (x = .slice none 0 0 ∧ ys = []) ∨ ∃ g o cap, x = .slice (some ⟨g, o, none⟩) ys.length cap ∧ ∀ j, j < ys.length → w.cell? ⟨g, o + j, none⟩ = some (ys.getD j undef)
/-- Parts behind a row of slices. -/
def PartsR (w : World) (x : Value) (ps : List (List UInt8)) : Prop := ∃ ys, RowP w x ys ∧ Vals w ys ps
theorem RowP.later {w w1 : World} {x : Value} {ys : List Value} (h : RowP w x ys) (hb : Below w.heap.size w w1) : RowP w1 x ys := by
  rcases h with h | ⟨g, o, cap, hx, hc⟩
  · exact .inl h
  · refine .inr ⟨g, o, cap, hx, fun j hj => ?_⟩
    rw [hb.cell (p := ⟨g, o + j, none⟩) (World.block_lt_of_cell? _ _ (hc j hj))]
    exact hc j hj
theorem PartsR.later {w w1 : World} {x : Value} {ps : List (List UInt8)} (h : PartsR w x ps) (hb : Below w.heap.size w w1) : PartsR w1 x ps := by
  obtain ⟨ys, h1, h2⟩ := h
  exact ⟨ys, h1.later hb, h2.later hb⟩
theorem Vals.cons {w : World} {xs : List Value} {qs : List (List UInt8)} (h : Vals w xs qs) {x : Value} {q : List UInt8} (hx : Bytes w x q) : Vals w ([x] ++ xs) (q :: qs) := by
  refine ⟨by simp [h.1], fun j hj => ?_⟩
  match j, hj with
  | 0, _ => exact hx
  | j + 1, hj => exact h.2 j (by simpa using hj)
theorem Bytes.nil (w : World) : Bytes w (.slice none 0 0) [] := ⟨none, 0, rfl, by simp, fun _ => rfl, fun h => absurd h (by simp)⟩
theorem Parts.nil (w : World) : Parts w (.slice none 0 0) [] := ⟨none, 0, rfl, fun h => absurd h (by simp)⟩
theorem OwnB.row {w : World} {base n cap g : Nat} {l : List UInt8} (h : OwnB w base (.slice (some ⟨g, 0, none⟩) n cap) l) : ∃ cur, w.heap[g]? = some (.cells cur 5 (0, 0)) ∧ base ≤ g := by
  rcases h.2 with ⟨hn, _⟩ | ⟨g', cap', cur, hv, hb, hg, _⟩
  · cases hn
  · injection hv with e1 _ _
    injection e1 with e1
    injection e1 with e1 _
    subst e1
    exact ⟨cur, hg, hb⟩
theorem OwnB.form {w : World} {base : Nat} {v : Value} {l : List UInt8} (h : OwnB w base v l) : (v = .slice none 0 0 ∧ l = []) ∨ ∃ g cap, v = .slice (some ⟨g, 0, none⟩) l.length cap := by
  rcases h.2 with ⟨hn, h0⟩ | ⟨g, cap, cur, hv, -⟩
  · exact .inl ⟨hn, List.eq_nil_of_length_eq_zero h0⟩
  · exact .inr ⟨g, cap, hv⟩
theorem Bytes.drop {w : World} {c o n cap : Nat} {bs : List UInt8} (h : Bytes w (.slice (some ⟨c, o, none⟩) n cap) bs) (m : Nat) (hm : m < n) : Bytes w (.slice (some ⟨c, o + m, none⟩) (n - m) (cap - m)) (bs.drop m) := by
  obtain ⟨a', cap', hv, hc, hn, hr⟩ := h
  injection hv with e1 e2 e3
  subst e1 e3
  have hl : (bs.drop m).length = n - m := by rw [List.length_drop]; omega
  refine ⟨_, _, by rw [hl], by omega, (fun h => by cases h), fun _ => ⟨c, o + m, rfl, fun j hj => ?_⟩⟩
  rw [hl] at hj
  obtain ⟨c', o', he, hcell⟩ := hr (by omega)
  injection he with he
  injection he with h1 h2
  subst h1
  subst h2
  rw [Nat.add_assoc, hcell (m + j) (by omega)]
  simp [List.getElem?_drop]
theorem lit_i64 (n : Int) (h : (Lit.int .i64 n).wf = true) : -9223372036854775808 ≤ n ∧ n ≤ 9223372036854775807 := by
  have h2 : (decide (IntKind.i64.min ≤ n) && decide (n ≤ IntKind.i64.max)) = true := h
  rw [Bool.and_eq_true, decide_eq_true_eq, decide_eq_true_eq] at h2
  exact h2
end Go.Proofs.Ytplkoijgokkmfaa
namespace Go.Proofs.Ytplkoijgokkmfaa
open Go Go.RowKit
/-- A field. -/
structure Fd where
  s : Int
  n : Int
  b : List UInt8
/-- The lowest k bytes of a number, the highest first. -/
def beN : Nat → Nat → List UInt8
  | 0, _ => []
  | k + 1, n => UInt8.ofNat (n / 256 ^ k % 256) :: beN k n
/-- How many bytes a number of a size has. -/
def wid (s : Int) : Nat := if s = 0 then 1 else if s = 1 then 2 else if s = 2 then 4 else 8
/-- A field's bytes. -/
def enc (f : Fd) : List UInt8 := if f.s = 4 then beN 2 f.b.length ++ f.b else beN (wid f.s) f.n.toNat
end Go.Proofs.Ytplkoijgokkmfaa
namespace Go.Proofs.Ytplkoijgokkmfaa
open Go Go.RowKit
/-- A field, as a value. -/
def IsF (w : World) (v : Value) (f : Fd) : Prop := ∃ vb, v = .agg #[.int .i64 f.s, .int .i64 f.n, vb] ∧ Bytes w vb f.b
theorem IsF.later {w w1 : World} {v : Value} {f : Fd} (h : IsF w v f) (hb : Below w.heap.size w w1) : IsF w1 v f := by
  obtain ⟨vb, hv, h⟩ := h
  exact ⟨vb, hv, h.later hb⟩
end Go.Proofs.Ytplkoijgokkmfaa
namespace Go.Proofs.Ytplkoijgokkmfaa
open Go Go.RowKit
end Go.Proofs.Ytplkoijgokkmfaa
namespace Go.Proofs.Ytplkoijgokkmfaa
open Go Go.RowKit
end Go.Proofs.Ytplkoijgokkmfaa
namespace Go.Proofs.Ytplkoijgokkmfaa
open Go Go.RowKit
end Go.Proofs.Ytplkoijgokkmfaa
namespace Go.Proofs.Ytplkoijgokkmfaa
open Go Go.RowKit
end Go.Proofs.Ytplkoijgokkmfaa
namespace Go.Proofs.Ytplkoijgokkmfaa
open Go Go.RowKit
/-- A row of numbers. -/
def Ints (w : World) (v : Value) (ns : List Int) : Prop :=
  ∃ a cap, v = .slice a ns.length cap ∧ ns.length ≤ cap ∧ (a = none → cap = 0) ∧ (0 < ns.length → ∃ c o, a = some ⟨c, o, none⟩ ∧ ∀ i, i < ns.length → w.cell? ⟨c, o + i, none⟩ = some (.int .i64 (ns.getD i 0)))
theorem Ints.later {w w1 : World} {v : Value} {ns : List Int} (h : Ints w v ns) (hb : Below w.heap.size w w1) : Ints w1 v ns := by
  obtain ⟨a, cap, hv, hc, hn, hr⟩ := h
  refine ⟨a, cap, hv, hc, hn, fun hp => ?_⟩
  obtain ⟨c, o, ha, hf⟩ := hr hp
  refine ⟨c, o, ha, fun i hi => ?_⟩
  rw [hb.cell (p := ⟨c, o + i, none⟩) (World.block_lt_of_cell? _ _ (hf i hi))]
  exact hf i hi
/-- The cells of numbers. -/
def i64s (ns : List Int) : List Value := ns.map fun n => Value.int .i64 n
theorem i64s_get (ns : List Int) (i : Nat) (h : i < ns.length) : (i64s ns)[i]? = some (.int .i64 (ns.getD i 0)) := by
  unfold i64s
  rw [List.getElem?_map, List.getElem?_eq_getElem h, List.getD_eq_getElem?_getD, List.getElem?_eq_getElem h]
  rfl
/-- A row of numbers that the call has made. -/
def OwnI (w : World) (base : Nat) (v : Value) (ns : List Int) : Prop := w.ownsRow base 3 1 v ns.length (i64s ns)
theorem OwnI.nil (w : World) (base : Nat) : OwnI w base (.slice none 0 0) [] := ⟨rfl, .inl ⟨rfl, rfl⟩⟩
theorem OwnI.later {w w1 : World} {base B : Nat} {v : Value} {ns : List Int} (h : OwnI w base v ns) (hb : Below B w w1) (hB : ∀ g, v.ownBlock = some g → g < B) : OwnI w1 base v ns := by
  obtain ⟨hl, hr⟩ := h
  refine ⟨hl, ?_⟩
  rcases hr with h | ⟨g, cap, cur, hv, hc, h1, h2, h3, h4⟩
  · exact .inl h
  · refine .inr ⟨g, cap, cur, hv, hc, ?_, h2, h3, h4⟩
    rw [hb.block g (hB g (by rw [hv]; rfl))]
    exact h1
theorem OwnI.lt {w : World} {base : Nat} {v : Value} {ns : List Int} (h : OwnI w base v ns) : ∀ g, v.ownBlock = some g → g < w.heap.size ∧ base ≤ g := by
  intro g hg
  rcases h.2 with ⟨rfl, _⟩ | ⟨g', cap, cur, rfl, hb, hh, _⟩
  · cases hg
  · injection hg with hg
    subst hg
    exact ⟨(Array.getElem?_eq_some_iff.1 hh).1, hb⟩
theorem OwnI.ints {w : World} {base : Nat} {v : Value} {ns : List Int} (h : OwnI w base v ns) : Ints w v ns := by
  rcases h.2 with ⟨rfl, h0⟩ | ⟨g, cap, cur, rfl, hb, hg, hn, hm, hs, hc⟩
  · refine ⟨none, 0, by rw [h0], by omega, fun _ => rfl, fun hp => by omega⟩
  · refine ⟨_, cap, rfl, hn, (fun hx => by cases hx), fun _ => ⟨g, 0, rfl, fun j hj => ?_⟩⟩
    rw [cell_of_row _ _ _ _ _ _ hg, Nat.zero_add, ← Array.getElem?_toList]
    have h1 : (cur.toList.take (ns.length * 1))[j]? = (i64s ns)[j]? := by rw [hc]
    rw [List.getElem?_take, if_pos (by omega), i64s_get ns j hj] at h1
    exact h1
theorem OwnI.form {w : World} {base : Nat} {v : Value} {ns : List Int} (h : OwnI w base v ns) : ∃ a cap, v = .slice a ns.length cap := by
  obtain ⟨a, cap, hv, -⟩ := h.ints
  exact ⟨a, cap, hv⟩
theorem OwnI.weak {w : World} {base base' : Nat} {v : Value} {l : List Int} (h : OwnI w base v l) (hb : base' ≤ base) : OwnI w base' v l := by
  refine ⟨h.1, ?_⟩
  rcases h.2 with h0 | ⟨g, cap, cur, hv, hb', hr⟩
  · exact .inl h0
  · exact .inr ⟨g, cap, cur, hv, by omega, hr⟩
end Go.Proofs.Ytplkoijgokkmfaa
namespace Go.Proofs.Ytplkoijgokkmfaa
open Go Go.RowKit
end Go.Proofs.Ytplkoijgokkmfaa
namespace Go.Proofs.Ytplkoijgokkmfaa
open Go Go.ChangeShapes Go.WideShapes Go.ChangeAt Go.RowKit
theorem own : ownKnob Try.prog.godebug = none := by kernel_rfl
theorem laidOut : laidOutB Try.prog = true := by kernel_rfl
end Go.Proofs.Ytplkoijgokkmfaa
namespace Go.Proofs.Ytplkoijgokkmfaa
open Go Go.ChangeShapes Go.WideShapes Go.ChangeAt Go.RowKit
/-- A number that an int holds. -/
def in64 (n : Int) : Prop := -9223372036854775808 ≤ n ∧ n ≤ 9223372036854775807
end Go.Proofs.Ytplkoijgokkmfaa
namespace Go.Proofs.Ytplkoijgokkmfaa
open Go Go.RowKit
/-- A sender, the period in which it was taken last, and how often then. -/
structure En where
  s : Int
  p : Int
  t : Int
def enK (x : En) : Value := .int .i64 x.s
def enV (x : En) : Value := .agg #[.int .i64 x.p, .int .i64 x.t]
theorem sKeyed : Go.Maps.Keyed Try.prog 3 := Go.Maps.int_keyed Try.underlying3
theorem wfQ (n : Int) (h : in64 n) : (Lit.int .i64 n).wf = true := by
  unfold in64 at h
  simp [Lit.wf, IntKind.min, IntKind.max, IntKind.signed, IntKind.bits]
  omega
theorem keyS (n : Int) (h : in64 n) : ∃ kl, keyOf Try.prog 3 (.int .i64 n) = some kl := ⟨_, Go.Maps.keyOf_int_mk Try.underlying3 (wfQ n h)⟩
/-- Where a sender's entry lies. -/
def atQ (l : List En) (s : Int) : Option En := l.find? fun x => decide (x.s = s)
def perQ (l : List En) (s : Int) : Int := match atQ l s with | some x => x.p | none => 0
def cntQ (l : List En) (s : Int) : Int := match atQ l s with | some x => x.t | none => 0
def hasQ (l : List En) (s : Int) : Bool := (atQ l s).isSome
/-- With a sender's entry. -/
def putQ (l : List En) (c : En) : List En := if hasQ l c.s = true then l.map fun x => if x.s = c.s then c else x else l ++ [c]
/-- Without a sender. -/
def cutQ (l : List En) (s : Int) : List En := l.filter fun x => decide (x.s ≠ s)
/-- A map of senders, as the list of its entries. -/
structure MapQ (W : World) (M : Nat) (l : List En) : Prop where
  st : ∃ es clock, W.heap[M]? = some (.map es clock) ∧ Go.MapKept.Stamped es clock ∧ es.toList.map (fun e => (e.key, e.val)) = l.map fun x => (enK x, enV x)
  wf : ∀ x ∈ l, in64 x.s
  nd : l.Pairwise (fun x y => x.s ≠ y.s)
theorem mapQ_keys {es : List MapEntry} {l : List En} (h : es.map (fun e => (e.key, e.val)) = l.map fun x => (enK x, enV x)) (wf : ∀ x ∈ l, in64 x.s) : ∀ e ∈ es, ∃ kl, keyOf Try.prog 3 e.key = some kl := by
  intro e he
  have h1 : (e.key, e.val) ∈ l.map fun x => (enK x, enV x) := by rw [← h]; exact List.mem_map.2 ⟨e, he, rfl⟩
  obtain ⟨x, hx, h2⟩ := List.mem_map.1 h1
  injection h2 with h3 h4
  rw [← h3]
  exact keyS _ (wf x hx)
theorem mapQ_at {es : List MapEntry} {l : List En} (h : es.map (fun e => (e.key, e.val)) = l.map fun x => (enK x, enV x)) {j : Nat} {e : MapEntry} (hj : es[j]? = some e) : ∃ x, l[j]? = some x ∧ e.key = enK x ∧ e.val = enV x := by
  have h1 : (es.map fun e => (e.key, e.val))[j]? = some (e.key, e.val) := by rw [List.getElem?_map, hj]; rfl
  rw [h, List.getElem?_map] at h1
  cases hx : l[j]? with
  | none => rw [hx] at h1; cases h1
  | some x =>
    rw [hx] at h1
    injection h1 with h1
    injection h1 with h2 h3
    exact ⟨x, rfl, h2.symm, h3.symm⟩
theorem noneQ_of {es : List MapEntry} {l : List En} (h : es.map (fun e => (e.key, e.val)) = l.map fun x => (enK x, enV x)) {s : Int} (hn : ∀ e ∈ es, e.key ≠ .int .i64 s) : ∀ x ∈ l, x.s ≠ s := by
  rintro x hx rfl
  have h1 : (enK x, enV x) ∈ es.map fun e => (e.key, e.val) := by rw [h]; exact List.mem_map.2 ⟨x, hx, rfl⟩
  obtain ⟨e, he, h2⟩ := List.mem_map.1 h1
  injection h2 with h3 h4
  exact hn e he h3
theorem atQ_none {l : List En} {s : Int} (h : ∀ x ∈ l, x.s ≠ s) : atQ l s = none := List.find?_eq_none.2 (fun x hx => by simpa using h x hx)
theorem atQ_some {l : List En} (nd : l.Pairwise (fun x y => x.s ≠ y.s)) {x : En} (hx : x ∈ l) : atQ l x.s = some x := by
  induction l with
  | nil => cases hx
  | cons y l ih =>
    obtain ⟨h1, h2⟩ := List.pairwise_cons.1 nd
    unfold atQ
    rw [List.find?_cons]
    rcases List.mem_cons.1 hx with rfl | hx
    · simp
    · rw [show decide (y.s = x.s) = false from decide_eq_false (h1 x hx)]
      exact ih h2 hx
theorem atQ_mem {l : List En} {s : Int} {x : En} (h : atQ l s = some x) : x ∈ l ∧ x.s = s := ⟨List.mem_of_find?_eq_some h, by simpa using List.find?_some h⟩
theorem hasQ_iff (l : List En) (s : Int) : hasQ l s = true ↔ ∃ x ∈ l, x.s = s := by
  unfold hasQ atQ
  rw [List.find?_isSome]
  simp
theorem hasQ_false (l : List En) (s : Int) : hasQ l s = false ↔ ∀ x ∈ l, x.s ≠ s := by
  cases h : hasQ l s
  · simp only [true_iff]
    intro x hx hs
    have := (hasQ_iff l s).2 ⟨x, hx, hs⟩
    rw [h] at this
    cases this
  · obtain ⟨x, hx, hs⟩ := (hasQ_iff l s).1 h
    simp only [Bool.true_eq_false, false_iff]
    exact fun k => k x hx hs
theorem zeroQ (W : World) : (zeroValue 60).run Try.prog W = .ok (.agg #[.int .i64 0, .int .i64 0]) W := by kernel_rfl
theorem MapQ.look1 {W : World} {M : Nat} {l : List En} (m : MapQ W M l) (s : Int) (h : in64 s) : (Instr.lookup 56 (.map (some M)) (.int .i64 s) false).run Try.prog W = .ok (.agg #[.int .i64 (perQ l s), .int .i64 (cntQ l s)]) W := by
  obtain ⟨es, clock, hb, hs, he⟩ := m.st
  obtain ⟨kl, hk⟩ := keyS s h
  rcases sKeyed.find W hk es.toList (mapQ_keys he m.wf) with ⟨h1, h2⟩ | ⟨j, e, h1, h2, h3⟩
  · simp only [perQ, cntQ, atQ_none (noneQ_of he h2)]
    simp [Instr.lookup, run_underlying Try.underlying56, MapKept.run_getObj_map hb, sKeyed.check W _ hk, h1, zeroQ, Result.andThen]
  · obtain ⟨x, hx, h4, h5⟩ := mapQ_at he h2
    obtain rfl : x.s = s := by
      have := h4.symm.trans h3
      injection this
    simp only [perQ, cntQ, atQ_some m.nd (List.mem_of_getElem? hx)]
    simp [Instr.lookup, run_underlying Try.underlying56, MapKept.run_getObj_map hb, sKeyed.check W _ hk, h1, h5, Result.andThen, enV]
theorem MapQ.look2 {W : World} {M : Nat} {l : List En} (m : MapQ W M l) (s : Int) (h : in64 s) : (Instr.lookup 56 (.map (some M)) (.int .i64 s) true).run Try.prog W = .ok (.tuple #[.agg #[.int .i64 (perQ l s), .int .i64 (cntQ l s)], .bool (hasQ l s)]) W := by
  obtain ⟨es, clock, hb, hs, he⟩ := m.st
  obtain ⟨kl, hk⟩ := keyS s h
  rcases sKeyed.find W hk es.toList (mapQ_keys he m.wf) with ⟨h1, h2⟩ | ⟨j, e, h1, h2, h3⟩
  · simp only [perQ, cntQ, hasQ, atQ_none (noneQ_of he h2)]
    simp [Instr.lookup, run_underlying Try.underlying56, MapKept.run_getObj_map hb, sKeyed.check W _ hk, h1, zeroQ, Result.andThen]
  · obtain ⟨x, hx, h4, h5⟩ := mapQ_at he h2
    obtain rfl : x.s = s := by
      have := h4.symm.trans h3
      injection this
    simp only [perQ, cntQ, hasQ, atQ_some m.nd (List.mem_of_getElem? hx)]
    simp [Instr.lookup, run_underlying Try.underlying56, MapKept.run_getObj_map hb, sKeyed.check W _ hk, h1, h5, Result.andThen, enV]
theorem MapQ.later {W W1 : World} {M : Nat} {l : List En} (m : MapQ W M l) (h : W1.heap[M]? = W.heap[M]?) : MapQ W1 M l := ⟨by rw [h]; exact m.st, m.wf, m.nd⟩
theorem MapQ.lt {W : World} {M : Nat} {l : List En} (m : MapQ W M l) : M < W.heap.size := by
  obtain ⟨es, clock, hb, _, _⟩ := m.st
  exact (Array.getElem?_eq_some_iff.1 hb).1
theorem mapQ_made (W : World) : MapQ (W.alloc (.map #[] 0)) W.heap.size [] := ⟨⟨#[], 0, hnew _ _ _ rfl, Go.MapKept.stamped_empty 0, rfl⟩, (fun x hx => by cases hx), List.Pairwise.nil⟩
theorem setQ_grown {W : World} {M : Nat} {es : Array MapEntry} {clock : Nat} (hb : W.heap[M]? = some (.map es clock)) (o : Obj) : W.grownBy (Go.ChangeMaps.setBlock W M o) (some M) := ⟨rfl, rfl, rfl, by simp [Go.ChangeMaps.setBlock], fun i _ hi => ChangeMaps.heap_setBlock_other hb _ (fun e => hi (by rw [e]))⟩
theorem setQ_size {W : World} {M : Nat} (o : Obj) : (Go.ChangeMaps.setBlock W M o).heap.size = W.heap.size := by simp [Go.ChangeMaps.setBlock]
theorem map_keep {l : List En} {c : En} : (l.map fun x => if x.s = c.s then c else x).map (·.s) = l.map (·.s) := by
  rw [List.map_map]
  refine List.map_congr_left fun x _ => ?_
  simp only [Function.comp_apply]
  split <;> simp_all
theorem putQ_wf {l : List En} {c : En} (h : ∀ x ∈ l, in64 x.s) (hc : in64 c.s) : ∀ x ∈ putQ l c, in64 x.s := by
  intro x hx
  unfold putQ at hx
  split at hx
  · obtain ⟨y, hy, rfl⟩ := List.mem_map.1 hx
    split
    · exact hc
    · exact h y hy
  · rcases List.mem_append.1 hx with hx | hx
    · exact h x hx
    · obtain rfl : x = c := by simpa using hx
      exact hc
theorem pw_of_map {l : List En} : l.Pairwise (fun x y => x.s ≠ y.s) ↔ (l.map (·.s)).Nodup := (List.pairwise_map (f := fun x : En => x.s) (R := fun a b => a ≠ b)).symm
theorem putQ_nd {l : List En} {c : En} (h : l.Pairwise (fun x y => x.s ≠ y.s)) : (putQ l c).Pairwise (fun x y => x.s ≠ y.s) := by
  unfold putQ
  split
  · rw [pw_of_map, map_keep, ← pw_of_map]; exact h
  · rename_i hh
    rw [List.pairwise_append]
    refine ⟨h, List.pairwise_singleton _ _, fun x hx y hy => ?_⟩
    obtain rfl : y = c := by simpa using hy
    exact (hasQ_false l y.s).1 (by simpa using hh) x hx
theorem modify_list {es : Array MapEntry} {l : List En} (nd : l.Pairwise (fun x y => x.s ≠ y.s)) (he : es.toList.map (fun e => (e.key, e.val)) = l.map fun x => (enK x, enV x)) {j : Nat} {x : En} (hx : l[j]? = some x) (c : En) (hc : c.s = x.s) :
    (es.modify j (fun e' => { e' with key := enK c, val := enV c })).toList.map (fun e => (e.key, e.val)) = (l.map fun y => if y.s = c.s then c else y).map fun x => (enK x, enV x) := by
  apply List.ext_getElem?
  intro i
  have h0 := congrArg (fun z => z[i]?) he
  simp only [List.getElem?_map] at h0
  simp only [List.getElem?_map, Array.toList_modify, List.getElem?_modify]
  by_cases hij : j = i
  · subst hij
    rw [hx] at h0 ⊢
    cases hei : es.toList[j]? with
    | none => rw [hei] at h0; cases h0
    | some e => simp [hc]
  · simp only [if_neg hij]
    cases hli : l[i]? with
    | none =>
      rw [hli] at h0
      cases hei : es.toList[i]? with
      | none => simp
      | some e => rw [hei] at h0; cases h0
    | some y =>
      rw [hli] at h0
      cases hei : es.toList[i]? with
      | none => rw [hei] at h0; cases h0
      | some e =>
        rw [hei] at h0
        have hne : y.s ≠ c.s := by
          rw [hc]
          obtain ⟨h5, h6⟩ := List.getElem?_eq_some_iff.1 hli
          obtain ⟨h7, h8⟩ := List.getElem?_eq_some_iff.1 hx
          rw [← h6, ← h8]
          rcases Nat.lt_or_gt_of_ne hij with hlt | hlt
          · exact (List.pairwise_iff_getElem.1 nd j i h7 h5 hlt).symm
          · exact List.pairwise_iff_getElem.1 nd i j h5 h7 hlt
        simp [hne]
        simpa using h0
theorem MapQ.put {W : World} {M : Nat} {l : List En} (m : MapQ W M l) (c : En) (h : in64 c.s) :
    ∃ W1, (Instr.mapUpdate 56 (.map (some M)) (.int .i64 c.s) (.agg #[.int .i64 c.p, .int .i64 c.t])).run Try.prog W = .ok () W1 ∧ MapQ W1 M (putQ l c) ∧ W.grownBy W1 (some M) ∧ W1.heap.size = W.heap.size := by
  obtain ⟨es, clock, hb, hs, he⟩ := m.st
  obtain ⟨kl, hk⟩ := keyS c.s h
  rcases sKeyed.find W hk es.toList (mapQ_keys he m.wf) with ⟨h1, h2⟩ | ⟨j, e, h1, h2, h3⟩
  · have hno := (hasQ_false l c.s).2 (noneQ_of he h2)
    refine ⟨Go.ChangeMaps.setBlock W M (.map (es.push ⟨enK c, enV c, clock⟩) (clock + 1)), ?_, ⟨⟨_, _, ChangeMaps.heap_setBlock_same hb _, Go.MapKept.stamped_push hs h2, ?_⟩, putQ_wf m.wf h, putQ_nd m.nd⟩, setQ_grown hb _, setQ_size _⟩
    · simp [Instr.mapUpdate, run_underlying Try.underlying56, MapKept.run_getObj_map hb, sKeyed.check W false hk, h1, MapKept.run_setObj_map _ hb, Result.andThen, Go.ChangeMaps.setBlock, enK, enV]
    · simp [putQ, hno, he]
  · obtain ⟨x, hx, h4, h5⟩ := mapQ_at he h2
    have hxs : c.s = x.s := by
      have e1 := h4.symm.trans h3
      injection e1 with _ e2
      exact e2.symm
    have hj : es[j]? = some e := by simpa using h2
    have hin : hasQ l c.s = true := (hasQ_iff _ _).2 ⟨x, List.mem_of_getElem? hx, hxs.symm⟩
    refine ⟨Go.ChangeMaps.setBlock W M (.map (es.modify j (fun e' => { e' with key := enK c, val := enV c })) clock), ?_, ⟨⟨_, clock, ChangeMaps.heap_setBlock_same hb _, ?_, ?_⟩, putQ_wf m.wf h, putQ_nd m.nd⟩, setQ_grown hb _, setQ_size _⟩
    · simp [Instr.mapUpdate, run_underlying Try.underlying56, MapKept.run_getObj_map hb, sKeyed.check W false hk, h1, hj, h3, sKeyed.stays W hk, MapKept.run_setObj_map _ hb, Result.andThen, Go.ChangeMaps.setBlock, enK, enV]
    · exact Go.MapKept.stamped_modify hs j _ (fun _ _ => rfl) (fun e' _ hj' => by rw [hj] at hj'; injection hj' with hj'; subst hj'; exact h3.symm)
    · rw [modify_list m.nd he hx c hxs, putQ, if_pos hin]
theorem pairwise_eraseQ {l : List En} (nd : l.Pairwise (fun x y => x.s ≠ y.s)) {j : Nat} {x : En} (hx : l[j]? = some x) : l.eraseIdx j = cutQ l x.s := by
  unfold cutQ
  induction l generalizing j with
  | nil => rfl
  | cons y l ih =>
    obtain ⟨h1, h2⟩ := List.pairwise_cons.1 nd
    cases j with
    | zero =>
      obtain rfl : y = x := by simpa using hx
      rw [List.eraseIdx_cons_zero, List.filter_cons_of_neg (by simp)]
      exact (List.filter_eq_self.2 fun z hz => by simpa using (h1 z hz).symm).symm
    | succ j =>
      have hx' : l[j]? = some x := by simpa using hx
      rw [List.eraseIdx_cons_succ, List.filter_cons_of_pos (by simpa using h1 x (List.mem_of_getElem? hx')), ih h2 hx']
theorem MapQ.drop {W : World} {M : Nat} {l : List En} (m : MapQ W M l) (s : Int) (h : in64 s) (ty : TypeId) :
    ∃ W1, (Builtin.delete_ #[56, 3] ty #[.map (some M), .int .i64 s]).run Try.prog W = .ok (.tuple #[]) W1 ∧ MapQ W1 M (cutQ l s) ∧ W.grownBy W1 (some M) ∧ W1.heap.size = W.heap.size := by
  obtain ⟨es, clock, hb, hs, he⟩ := m.st
  obtain ⟨kl, hk⟩ := keyS s h
  rcases sKeyed.find W hk es.toList (mapQ_keys he m.wf) with ⟨h1, h2⟩ | ⟨j, e, h1, h2, h3⟩
  · have hl : cutQ l s = l := List.filter_eq_self.2 fun z hz => by simpa using noneQ_of he h2 z hz
    refine ⟨Go.ChangeMaps.setBlock W M (.map es clock), ?_, ⟨⟨es, clock, ChangeMaps.heap_setBlock_same hb _, hs, by rw [hl]; exact he⟩, by rw [hl]; exact m.wf, by rw [hl]; exact m.nd⟩, setQ_grown hb _, setQ_size _⟩
    simp [Builtin.delete_, run_underlying Try.underlying56, MapKept.run_getObj_map hb, sKeyed.check W _ hk, h1, MapKept.run_setObj_map _ hb, Result.andThen, Go.ChangeMaps.setBlock]
  · have hjl : j < es.toList.length := (List.getElem?_eq_some_iff.1 h2).1
    have hjs : j < es.size := by simpa using hjl
    have hsub : (es.eraseIdxIfInBounds j).toList = es.toList.eraseIdx j := by
      unfold Array.eraseIdxIfInBounds
      rw [dif_pos hjs]
      simp
    obtain ⟨x, hx, h4, h5⟩ := mapQ_at he h2
    obtain rfl : x.s = s := by
      have := h4.symm.trans h3
      injection this
    have hl := pairwise_eraseQ m.nd hx
    refine ⟨Go.ChangeMaps.setBlock W M (.map (es.eraseIdxIfInBounds j) clock), ?_, ⟨⟨_, clock, ChangeMaps.heap_setBlock_same hb _, Go.MapKept.stamped_erase hs j, ?_⟩, fun y hy => m.wf y (List.mem_filter.1 hy).1, m.nd.filter _⟩, setQ_grown hb _, setQ_size _⟩
    · simp [Builtin.delete_, run_underlying Try.underlying56, MapKept.run_getObj_map hb, sKeyed.check W _ hk, h1, MapKept.run_setObj_map _ hb, Result.andThen, Go.ChangeMaps.setBlock]
    · rw [hsub, ← hl]
      have e1 := congrArg (fun z => z.eraseIdx j) he
      rw [← ChangeMaps.map_eraseIdx, ← ChangeMaps.map_eraseIdx] at e1
      exact e1
theorem MapQ.len {W : World} {M : Nat} {l : List En} (m : MapQ W M l) (ty : TypeId) : (Builtin.len_ #[56] ty #[.map (some M)]).run Try.prog W = .ok (.int .i64 (l.length : Int)) W := by
  obtain ⟨es, clock, hb, hs, he⟩ := m.st
  have hl : es.size = l.length := by have := congrArg List.length he; simpa using this
  simp [Builtin.len_, run_underlying Try.underlying56, MapKept.run_getObj_map hb, Result.andThen, hl]
  rfl
end Go.Proofs.Ytplkoijgokkmfaa
