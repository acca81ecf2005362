/-
  What many texts want: bytes, rows that a call owns, frames.
-/
import Derived.Laws.BitsAllLaws
import Derived.IntWalk
import Derived.Laws.Rows
import Derived.Below
import Derived.WalkKit
import Derived.ProofKit
import Derived.Handy
import Derived.PlainAid
import Derived.WalkLawsBesides
import Derived.Outline
import Derived.BigQuiet
import Derived.Deep.QuietTactic
import Derived.Lib.Hide
import Derived.Deep.MidRow
import Derived.Deep.RegionHeld3
import Derived.Deep.Cut
import Derived.Laws.MakeOwn
import Derived.Laws.CopyOwn
import Derived.Maps.AppendAt
import Derived.Laws.AppendOwnNone
import Derived.Lib.BufferRead
import Derived.Laws.IdiomStrings
import Derived.RegionTactic
import Derived.Control
import Derived.Deep.LoopGhost
import Derived.StillTailTactics
import Derived.Stop.BytesEq
import Derived.OwnWalk
import Derived.Lib.SlBytesConst
import Derived.WalkMore
import Derived.ChangeKeysEq
import Derived.OpenShut
import Derived.ShutString
import Derived.ChangeOld
import Derived.Deep.DeepHandedRow
import Derived.Lib.LaidTab
import Derived.Deep.Matrix
import Derived.Test.YtoohcjdjmafliaaProg
import Derived.Test.YtoohcjdjmafliaaRows
import Derived.Deep.Slices
namespace Go.Proofs.Ytoohcjdjmafliaa
open Go Go.RowKit Go.ChangeShapes Go.WideShapes Go.ChangeAt
/-- A fact that is put away: the walk sees nothing of it. -/
structure Bx (p : Prop) : Prop where
  out : p
/-- A byte as the model's integer. -/
def ub (b : UInt8) : Int := (b.toNat : Int)
/-- Bytes as cells. -/
def u8s (l : List UInt8) : Array Value := (l.map fun x => Value.int .u8 (ub x)).toArray
theorem hold (w : World) (o : Obj) (i : Nat) (h : i < w.heap.size) : (w.alloc o).heap[i]? = w.heap[i]? := by
  show (w.heap.push o)[i]? = w.heap[i]?
  rw [Array.getElem?_push, if_neg (Nat.ne_of_lt h)]
theorem hnew (w : World) (o : Obj) (i : Nat) (h : i = w.heap.size) : (w.alloc o).heap[i]? = some o := by
  subst h
  show (w.heap.push o)[w.heap.size]? = some o
  simp
/-- Values written one behind the other into an array. -/
def spl (cs : Array Value) (o : Nat) : List Value → Array Value
  | [] => cs
  | v :: vs => spl (cs.setIfInBounds o v) (o + 1) vs
theorem heap_setCells_same (b : Nat) (t : TypeId) : ∀ (vs : List Value) (o : Nat) (w : World) (cs : Array Value), w.heap[b]? = some (.cells cs t (0, 0)) → (w.setCells b o vs).heap[b]? = some (.cells (spl cs o vs) t (0, 0))
  | [], _, _, _, h => h
  | v :: vs, o, w, cs, h => heap_setCells_same b t vs (o + 1) (w.setCell ⟨b, o, none⟩ v) (cs.setIfInBounds o v) (heap_setCell_same w b o cs t v h)
theorem spl_size : ∀ (vs : List Value) (cs : Array Value) (o : Nat), (spl cs o vs).size = cs.size
  | [], _, _ => rfl
  | v :: vs, cs, o => by show (spl (cs.setIfInBounds o v) (o + 1) vs).size = _; rw [spl_size vs]; simp
theorem spl_get : ∀ (vs : List Value) (cs : Array Value) (o i : Nat), (spl cs o vs)[i]? = if o ≤ i ∧ i < o + vs.length ∧ i < cs.size then vs[i - o]? else cs[i]?
  | [], cs, o, i => by
    have : ¬ (o ≤ i ∧ i < o + 0 ∧ i < cs.size) := by omega
    simp only [List.length_nil, if_neg this, spl]
  | v :: vs, cs, o, i => by
    show (spl (cs.setIfInBounds o v) (o + 1) vs)[i]? = _
    rw [spl_get vs (cs.setIfInBounds o v) (o + 1) i]
    simp only [Array.size_setIfInBounds, List.length_cons]
    by_cases h1 : o = i
    · subst h1
      rw [if_neg (by omega)]
      by_cases h2 : o < cs.size
      · rw [if_pos (by omega)]; simp [h2]
      · rw [if_neg (by omega)]; simp [h2]
    · by_cases h2 : o + 1 ≤ i ∧ i < o + 1 + vs.length ∧ i < cs.size
      · rw [if_pos h2, if_pos (by omega)]
        rw [show i - o = (i - (o + 1)) + 1 by omega]; rfl
      · rw [if_neg h2, if_neg (by omega)]
        rw [Array.getElem?_setIfInBounds_ne h1]
theorem kb_refl (b : Nat) (w : World) : w.grownBy w (some b) := ⟨rfl, rfl, rfl, Nat.le_refl _, fun _ _ _ => rfl⟩
theorem kb_trans {b : Option Nat} {w w1 w2 : World} (h : w.grownBy w1 b) (k : w1.grownBy w2 b) : w.grownBy w2 b :=
  ⟨k.os.trans h.os, k.tape.trans h.tape, k.output.trans h.output, Nat.le_trans h.size k.size, fun i hi hne => (k.block i (Nat.lt_of_lt_of_le hi h.size) hne).trans (h.block i hi hne)⟩
theorem kb_below {w w1 : World} (b : Option Nat) (h : Below w.heap.size w w1) : w.grownBy w1 b := ⟨h.os, h.tape, h.output, h.size, fun i hi _ => h.block i hi⟩
theorem kb_drewN (b : Option Nat) (w : World) (n : Nat) : w.grownBy (w.drewN n) b := ⟨rfl, rfl, rfl, Nat.le_refl _, fun _ _ _ => rfl⟩
theorem kb_setCell {b : Nat} (w : World) (o : Nat) (v : Value) : w.grownBy (w.setCell ⟨b, o, none⟩ v) (some b) :=
  ⟨rfl, rfl, rfl, by simp, fun i _ hne => heap_setCell_other w ⟨b, o, none⟩ i v (fun e => hne (by rw [e]))⟩
theorem kb_setCells {b : Nat} : ∀ (vs : List Value) (o : Nat) (w : World), w.grownBy (w.setCells b o vs) (some b)
  | [], _, w => kb_refl b w
  | v :: vs, o, w => kb_trans (kb_setCell w o v) (kb_setCells vs (o + 1) (w.setCell ⟨b, o, none⟩ v))
/-- Bytes behind a slice whose block isn't b. -/
def BytesAt (w : World) (b : Nat) (v : Value) (ps : List UInt8) : Prop :=
  ∃ a cap, v = .slice a ps.length cap ∧ ps.length ≤ cap ∧ (0 < ps.length → ∃ c o, c ≠ b ∧ a = some ⟨c, o, none⟩ ∧ ∀ j, j < ps.length → w.cell? ⟨c, o + j, none⟩ = some (.int .u8 (ub (ps.getD j 0))))
theorem BytesAt.later {w w1 : World} {b : Nat} {v : Value} {ps : List UInt8} (h : BytesAt w b v ps) (hk : w.grownBy w1 (some b)) : BytesAt w1 b v ps := by
  obtain ⟨a, cap, hv, hc, hr⟩ := h
  refine ⟨a, cap, hv, hc, fun hp => ?_⟩
  obtain ⟨c, o, hne, ha, hcell⟩ := hr hp
  refine ⟨c, o, hne, ha, fun j hj => ?_⟩
  exact hk.cell (hcell j hj) (by simpa using hne)
/-- Parts behind a slice of slices, none of them in block b. -/
def PartsAt (w : World) (b : Nat) (v : Value) (pss : List (List UInt8)) : Prop :=
  ∃ a cap, v = .slice a pss.length cap ∧ (0 < pss.length → ∃ p o, p ≠ b ∧ a = some ⟨p, o, none⟩ ∧ ∀ j, j < pss.length → ∃ x, w.cell? ⟨p, o + j, none⟩ = some x ∧ BytesAt w b x (pss.getD j []))
theorem PartsAt.later {w w1 : World} {b : Nat} {v : Value} {pss : List (List UInt8)} (h : PartsAt w b v pss) (hk : w.grownBy w1 (some b)) : PartsAt w1 b v pss := by
  obtain ⟨a, cap, hv, hr⟩ := h
  refine ⟨a, cap, hv, fun hp => ?_⟩
  obtain ⟨p, o, hne, ha, hcell⟩ := hr hp
  refine ⟨p, o, hne, ha, fun j hj => ?_⟩
  obtain ⟨x, hx, hb⟩ := hcell j hj
  exact ⟨x, hk.cell hx (by simpa using hne), hb.later hk⟩
/-- Bytes behind a slice. -/
def Bytes (w : World) (v : Value) (ps : List UInt8) : Prop :=
  ∃ a cap, v = .slice a ps.length cap ∧ ps.length ≤ cap ∧ (a = none → cap = 0) ∧ (0 < ps.length → ∃ c o, a = some ⟨c, o, none⟩ ∧ ∀ j, j < ps.length → w.cell? ⟨c, o + j, none⟩ = some (.int .u8 (ub (ps.getD j 0))))
theorem Bytes.later {w w1 : World} {v : Value} {ps : List UInt8} (h : Bytes w v ps) (hb : Below w.heap.size w w1) : Bytes w1 v ps := by
  obtain ⟨a, cap, hv, hc, hn, hr⟩ := h
  refine ⟨a, cap, hv, hc, hn, fun hp => ?_⟩
  obtain ⟨c, o, ha, hcell⟩ := hr hp
  refine ⟨c, o, ha, fun j hj => ?_⟩
  have := World.block_lt_of_cell? _ _ (hcell j hj)
  rw [hb.cell (p := ⟨c, o + j, none⟩) this]
  exact hcell j hj
/-- Bytes in a row that the call owns. -/
def OwnB (w : World) (base : Nat) (v : Value) (l : List UInt8) : Prop := w.ownsRow base 5 1 v l.length (u8s l).toList
theorem OwnB.later {w w1 : World} {base B : Nat} {v : Value} {l : List UInt8} (h : OwnB w base v l) (hb : Below B w w1) (hB : ∀ g, v.ownBlock = some g → g < B) : OwnB w1 base v l := by
  refine ⟨h.1, ?_⟩
  rcases h.2 with h0 | ⟨g, cap, cur, hv, hb', hg, hr⟩
  · exact .inl h0
  · refine .inr ⟨g, cap, cur, hv, hb', ?_, hr⟩
    rw [hb.block g (hB g (by rw [hv]; rfl))]
    exact hg
theorem OwnB.lt {w : World} {base : Nat} {v : Value} {l : List UInt8} (h : OwnB w base v l) : ∀ g, v.ownBlock = some g → g < w.heap.size ∧ base ≤ g := by
  intro g hg
  rcases h.2 with ⟨rfl, _⟩ | ⟨g', cap, cur, rfl, hb, hh, _⟩
  · cases hg
  · injection hg with hg
    subst hg
    exact ⟨(Array.getElem?_eq_some_iff.1 hh).1, hb⟩
theorem OwnB.nil (w : World) (base : Nat) : OwnB w base (.slice none 0 0) [] := ⟨rfl, .inl ⟨rfl, rfl⟩⟩
theorem Bytes.cell {w : World} {ps : List UInt8} {a : Option Addr} {n cap : Nat} (h : Bytes w (.slice a n cap) ps) (k : Nat) (hk : k < n) : ∃ c o, a = some ⟨c, o, none⟩ ∧ w.cell? ⟨c, o + k, none⟩ = some (.int .u8 (ub (ps.getD k 0))) := by
  obtain ⟨a', cap', hv, hc, hn, hr⟩ := h
  injection hv with e1 e2 e3
  subst e1
  obtain ⟨c, o, ha, hcell⟩ := hr (by omega)
  exact ⟨c, o, ha, hcell k (by omega)⟩
theorem below_a {W : World} (o : Obj) : Below W.heap.size W (W.alloc o) := (Below.refl _ _).alloc (Nat.le_refl _) _
theorem Bytes.take {w : World} {a : Option Addr} {n cap : Nat} {bs : List UInt8} (h : Bytes w (.slice a n cap) bs) (m : Nat) (hm : m ≤ n) : Bytes w (.slice a m cap) (bs.take m) := by
  obtain ⟨a', cap', hv, hc, hn, hr⟩ := h
  injection hv with e1 e2 e3
  subst e1 e3
  have hl : (bs.take m).length = m := by rw [List.length_take]; omega
  refine ⟨a, cap, by rw [hl], by omega, hn, fun hp => ?_⟩
  obtain ⟨c, o, ha, hcell⟩ := hr (by omega)
  refine ⟨c, o, ha, fun j hj => ?_⟩
  rw [hcell j (by omega)]
  simp [show j < m by omega]
/-- Parts behind a slice of slices. -/
def Parts (w : World) (v : Value) (pss : List (List UInt8)) : Prop :=
  ∃ a cap, v = .slice a pss.length cap ∧ (0 < pss.length → ∃ p o, a = some ⟨p, o, none⟩ ∧ ∀ j, j < pss.length → ∃ x, w.cell? ⟨p, o + j, none⟩ = some x ∧ Bytes w x (pss.getD j []))
/-- Values in a row that the call owns. -/
def OwnP (w : World) (base : Nat) (v : Value) (xs : List Value) : Prop := w.ownsRow base 50 1 v xs.length xs
/-- Values that are slices of parts. -/
def Vals (w : World) (xs : List Value) (qs : List (List UInt8)) : Prop := xs.length = qs.length ∧ ∀ j, j < xs.length → Bytes w (xs.getD j undef) (qs.getD j [])
theorem OwnP.later {w w1 : World} {base B : Nat} {v : Value} {xs : List Value} (h : OwnP w base v xs) (hb : Below B w w1) (hB : ∀ g, v.ownBlock = some g → g < B) : OwnP w1 base v xs := by
  refine ⟨h.1, ?_⟩
  rcases h.2 with h0 | ⟨g, cap, cur, hv, hb', hg, hr⟩
  · exact .inl h0
  · refine .inr ⟨g, cap, cur, hv, hb', ?_, hr⟩
    rw [hb.block g (hB g (by rw [hv]; rfl))]
    exact hg
theorem OwnP.lt {w : World} {base : Nat} {v : Value} {xs : List Value} (h : OwnP w base v xs) : ∀ g, v.ownBlock = some g → g < w.heap.size ∧ base ≤ g := by
  intro g hg
  rcases h.2 with ⟨rfl, _⟩ | ⟨g', cap, cur, rfl, hb, hh, _⟩
  · cases hg
  · injection hg with hg
    subst hg
    exact ⟨(Array.getElem?_eq_some_iff.1 hh).1, hb⟩
theorem OwnP.a {W : World} {base : Nat} {v : Value} {xs : List Value} (h : OwnP W base v xs) (o : Obj) : OwnP (W.alloc o) base v xs := h.later (below_a _) (fun g hg => (h.lt g hg).1)
/-- The loops' bodies of a code, in the order of its text. -/
def loopsOf : Code → List Code
  | .loop c => c :: loopsOf c
  | .seq a b => loopsOf a ++ loopsOf b
  | .block _ c => loopsOf c
  | .scope c => loopsOf c
  | .cond _ a b => loopsOf a ++ loopsOf b
  | _ => []
def loopAt (c : Option Code) (k : Nat) : Code := ((c.map loopsOf).getD []).getD k .skip
/-- A frame of n slots, with nothing deferred. -/
structure Fr (n : Nat) (a : Act) : Prop where
  none : a.defers = []
  size : a.tmps.size = n
theorem list_range {α : Type} (l : List α) (d : α) : l = (List.range l.length).map fun i => l.getD i d := by
  apply List.ext_getElem
  · simp
  · intro i h1 h2; simp [h1]
theorem Fr.form {n : Nat} {a : Act} (h : Fr n a) : a = ⟨((List.range n).map fun i => a.tmps.getD i undef).toArray, []⟩ := by
  obtain ⟨⟨l⟩, d⟩ := a
  obtain ⟨h1, h2⟩ := h
  simp only at h1 h2
  have h3 : l.length = n := by simpa using h2
  subst h1 h3
  show (⟨⟨l⟩, []⟩ : Act) = ⟨((List.range l.length).map fun i => (⟨l⟩ : Array Value).getD i undef).toArray, []⟩
  have : (fun i => (⟨l⟩ : Array Value).getD i undef) = fun i => l.getD i undef := by
    funext i; simp [Array.getD_eq_getD_getElem?, List.getD_eq_getElem?_getD]
  rw [this, ← list_range]
/-- A loop that counts from k0 up to n. -/
theorem wp_count {P : Program} {Q : Exit → Act → World → Prop} {a : Act} {w : World} {c : Code} (n : Nat) (I : Nat → Act → World → Prop) (k0 : Nat) (hk : k0 ≤ n) (h0 : I k0 a w)
    (round : ∀ k a w, k < n → I k a w → c.wp P (Exit.then (fun a' w' => I (k + 1) a' w') Q) a w) (last : ∀ a w, I n a w → c.wp P (Exit.then (fun _ _ => False) Q) a w) : (Code.loop c).wp P Q a w := by
  refine wp_loop_ghost (fun m a w => ∃ k, k ≤ n ∧ m = n - k ∧ I k a w) (n - k0) ⟨k0, hk, rfl, h0⟩ ?_
  rintro m a w ⟨k, hk, rfl, hI⟩
  by_cases hlt : k < n
  · refine wp_mono (round k a w hlt hI) ?_
    rintro (_ | _ | _ | _ | _ | _) a' w' hq'
    case normal => exact ⟨n - (k + 1), by omega, k + 1, by omega, rfl, hq'⟩
    all_goals exact hq'
  · obtain rfl : k = n := by omega
    refine wp_mono (last a w hI) ?_
    rintro (_ | _ | _ | _ | _ | _) a' w' hq'
    case normal => exact absurd hq' id
    all_goals exact hq'
theorem OwnB.kept {w w1 : World} {base b : Nat} {v : Value} {l : List UInt8} (h : OwnB w base v l) (hk : w.grownBy w1 (some b)) (hne : v.ownBlock ≠ some b) : OwnB w1 base v l := by
  refine ⟨h.1, ?_⟩
  rcases h.2 with h0 | ⟨g', cap, cur, hv, hb', hg', hr⟩
  · exact .inl h0
  · refine .inr ⟨g', cap, cur, hv, hb', ?_, hr⟩
    rw [hk.block g' (Array.getElem?_eq_some_iff.1 hg').1 (fun e => hne (by rw [hv]; exact e))]
    exact hg'
theorem takeL {P : Program} {ops : Array Oper} {Q : Exit → Act → World → Prop} {md : Region.Mode} {S : World → Prop} (i : Nat) {oi : Oper} {v : Value} {fuel : Nat} {listed : Array Bool} {a : Act} {w : World} (hi : ops.toList[i]? = some oi)
    (hs : Region.noSelect ops = true) (hf : Region.free md ops listed i = true) (hr : (Region.ready md ops listed).contains i = true)
    (hQ : ∀ c a w, Q (.panic c) (a.put oi.dst v) w → Q (.panic c) a w) (hy : YieldsIf P ops S oi v a) (hS : S w)
    (h : wpAnyH P md ops Q S fuel (listed.setIfInBounds i true) (a.put oi.dst v) w) : wpAnyH P md ops Q S (fuel + 1) listed a w :=
  wpAnyH_take (by rw [← Array.getElem?_toList]; exact hi) hs hf hr hQ hy hS h
theorem stepL {P : Program} {ops : Array Oper} {Q : Exit → Act → World → Prop} {md : Region.Mode} {S : World → Prop} (i : Nat) {fuel : Nat} {listed : Array Bool} {a : Act} {w : World} {o : Oper} (hr : Region.ready md ops listed = [i]) (hi : ops.toList[i]? = some o)
    (h : ∀ K' : Act → World → Prop, Shut (∀ a w, S w → (S w → wpAnyH P md ops Q S fuel (listed.setIfInBounds i true) a w) → K' a w) → if Region.wanted o (yielded ops a.tmps) = true then Oper.wp P o a w K' Q else K' (a.put o.dst undef) w) :
    wpAnyH P md ops Q S (fuel + 1) listed a w :=
  wpAnyH_ready hr (by simp) (AllReadyH.cons (by rw [← Array.getElem?_toList]; exact hi) h AllReadyH.nil)
theorem Parts.later {w w1 : World} {v : Value} {pss : List (List UInt8)} (h : Parts w v pss) (hb : Below w.heap.size w w1) : Parts w1 v pss := by
  obtain ⟨a, cap, hv, hr⟩ := h
  refine ⟨a, cap, hv, fun hp => ?_⟩
  obtain ⟨p, o, ha, hcell⟩ := hr hp
  refine ⟨p, o, ha, fun j hj => ?_⟩
  obtain ⟨x, hx, hxb⟩ := hcell j hj
  exact ⟨x, by rw [hb.cell (p := ⟨p, o + j, none⟩) (World.block_lt_of_cell? _ _ hx)]; exact hx, hxb.later hb⟩
theorem Vals.later {w w1 : World} {xs : List Value} {qs : List (List UInt8)} (h : Vals w xs qs) (hb : Below w.heap.size w w1) : Vals w1 xs qs := ⟨h.1, fun j hj => (h.2 j hj).later hb⟩
/-- Bytes, and none of them in block g. -/
def BN (W : World) (g : Nat) (v : Value) (l : List UInt8) : Prop := Bytes W v l ∧ BytesAt W g v l
theorem BN.later {W W1 : World} {g : Nat} {v : Value} {l : List UInt8} (h : BN W g v l) (hk : W.grownBy W1 (some g)) : BN W1 g v l := by
  refine ⟨?_, h.2.later hk⟩
  obtain ⟨a, cap, hv, hc, hz, hr⟩ := h.1
  obtain ⟨a', cap', hv', hc', hr'⟩ := h.2.later hk
  rw [hv] at hv'
  injection hv' with e1 e2 e3
  subst e1
  exact ⟨a, cap, hv, hc, hz, fun hp => by obtain ⟨c, o, _, ha, hcell⟩ := hr' hp; exact ⟨c, o, ha, hcell⟩⟩
/-- A row of values behind a slice of slices. -/
def RowP (w : World) (x : Value) (ys : List Value) : Prop := (x = .slice none 0 0 ∧ ys = []) ∨ ∃ g o cap, x = .slice (some ⟨g, o, none⟩) ys.length cap ∧ ∀ j, j < ys.length → w.cell? ⟨g, o + j, none⟩ = some (ys.getD j undef)
/-- Parts behind a row of slices. -/
def PartsR (w : World) (x : Value) (ps : List (List UInt8)) : Prop := ∃ ys, RowP w x ys ∧ Vals w ys ps
theorem RowP.later {w w1 : World} {x : Value} {ys : List Value} (h : RowP w x ys) (hb : Below w.heap.size w w1) : RowP w1 x ys := by
  rcases h with h | ⟨g, o, cap, hx, hc⟩
  · exact .inl h
  · refine .inr ⟨g, o, cap, hx, fun j hj => ?_⟩
    rw [hb.cell (p := ⟨g, o + j, none⟩) (World.block_lt_of_cell? _ _ (hc j hj))]
    exact hc j hj
theorem PartsR.later {w w1 : World} {x : Value} {ps : List (List UInt8)} (h : PartsR w x ps) (hb : Below w.heap.size w w1) : PartsR w1 x ps := by
  obtain ⟨ys, h1, h2⟩ := h
  exact ⟨ys, h1.later hb, h2.later hb⟩
theorem Vals.cons {w : World} {xs : List Value} {qs : List (List UInt8)} (h : Vals w xs qs) {x : Value} {q : List UInt8} (hx : Bytes w x q) : Vals w ([x] ++ xs) (q :: qs) := by
  refine ⟨by simp [h.1], fun j hj => ?_⟩
  match j, hj with
  | 0, _ => exact hx
  | j + 1, hj => exact h.2 j (by simpa using hj)
theorem Bytes.nil (w : World) : Bytes w (.slice none 0 0) [] := ⟨none, 0, rfl, by simp, fun _ => rfl, fun h => absurd h (by simp)⟩
theorem Parts.nil (w : World) : Parts w (.slice none 0 0) [] := ⟨none, 0, rfl, fun h => absurd h (by simp)⟩
theorem OwnB.set {w : World} {base g n cap : Nat} {l : List UInt8} (h : OwnB w base (.slice (some ⟨g, 0, none⟩) n cap) l) (i : Nat) (x : UInt8) : OwnB (w.setCell ⟨g, i, none⟩ (.int .u8 (ub x))) base (.slice (some ⟨g, 0, none⟩) n cap) (l.set i x) := by
  refine ⟨by simp [u8s], ?_⟩
  rcases h.2 with ⟨hn, _⟩ | ⟨g', cap', cur, hv, hb, hg, h1, h2, h3, h4⟩
  · cases hn
  · injection hv with e1 e2 e3
    injection e1 with e1
    injection e1 with e1 _
    subst e1
    refine .inr ⟨g, cap', cur.setIfInBounds i (.int .u8 (ub x)), by rw [e2, e3, List.length_set], hb, heap_setCell_same _ _ _ _ _ _ hg, by rw [List.length_set]; exact h1, h2, by simpa using h3, ?_⟩
    rw [List.length_set, Array.toList_setIfInBounds, List.take_set, h4]
    simp [u8s, List.map_set]
theorem OwnB.form {w : World} {base : Nat} {v : Value} {l : List UInt8} (h : OwnB w base v l) : (v = .slice none 0 0 ∧ l = []) ∨ ∃ g cap, v = .slice (some ⟨g, 0, none⟩) l.length cap := by
  rcases h.2 with ⟨hn, h0⟩ | ⟨g, cap, cur, hv, -⟩
  · exact .inl ⟨hn, List.eq_nil_of_length_eq_zero h0⟩
  · exact .inr ⟨g, cap, hv⟩
theorem lit_i64 (n : Int) (h : (Lit.int .i64 n).wf = true) : -9223372036854775808 ≤ n ∧ n ≤ 9223372036854775807 := by
  have h2 : (decide (IntKind.i64.min ≤ n) && decide (n ≤ IntKind.i64.max)) = true := h
  rw [Bool.and_eq_true, decide_eq_true_eq, decide_eq_true_eq] at h2
  exact h2
theorem consM {P : Program} {ops : Array Oper} {Q : Exit → Act → World → Prop} {md : Region.Mode} {S : World → Prop} {fuel : Nat} {listed : Array Bool} {a : Act} {w : World} (i : Nat) {o : Oper} {rs : List Nat} (ho : ops.toList[i]? = some o)
    (h : ∀ K' : Act → World → Prop, Shut (∀ a w, S w → (S w → wpAnyH P md ops Q S fuel (listed.setIfInBounds i true) a w) → K' a w) → if Region.wanted o (yielded ops a.tmps) = true then Oper.wp P o a w K' Q else K' (a.put o.dst undef) w)
    (hs : AllReadyH P md ops Q S fuel listed a w rs) : AllReadyH P md ops Q S fuel listed a w (i :: rs) := AllReadyH.cons (by rw [← Array.getElem?_toList]; exact ho) h hs
end Go.Proofs.Ytoohcjdjmafliaa
namespace Go.Proofs.Ytoohcjdjmafliaa
open Go Go.RowKit
/-- A field. -/
structure Fd where
  s : Int
  n : Int
  b : List UInt8
/-- The lowest k bytes of a number, the highest first. -/
def beN : Nat → Nat → List UInt8
  | 0, _ => []
  | k + 1, n => UInt8.ofNat (n / 256 ^ k % 256) :: beN k n
/-- How many bytes a number of a size has. -/
def wid (s : Int) : Nat := if s = 0 then 1 else if s = 1 then 2 else if s = 2 then 4 else 8
/-- A field's bytes. -/
def enc (f : Fd) : List UInt8 := if f.s = 4 then beN 2 f.b.length ++ f.b else beN (wid f.s) f.n.toNat
end Go.Proofs.Ytoohcjdjmafliaa
namespace Go.Proofs.Ytoohcjdjmafliaa
open Go Go.RowKit
/-- A field, as a value. -/
def IsF (w : World) (v : Value) (f : Fd) : Prop := ∃ vb, v = .agg #[.int .i64 f.s, .int .i64 f.n, vb] ∧ Bytes w vb f.b
theorem IsF.later {w w1 : World} {v : Value} {f : Fd} (h : IsF w v f) (hb : Below w.heap.size w w1) : IsF w1 v f := by
  obtain ⟨vb, hv, h⟩ := h
  exact ⟨vb, hv, h.later hb⟩
end Go.Proofs.Ytoohcjdjmafliaa
namespace Go.Proofs.Ytoohcjdjmafliaa
open Go Go.RowKit
end Go.Proofs.Ytoohcjdjmafliaa
namespace Go.Proofs.Ytoohcjdjmafliaa
open Go Go.RowKit
end Go.Proofs.Ytoohcjdjmafliaa
namespace Go.Proofs.Ytoohcjdjmafliaa
open Go Go.RowKit
end Go.Proofs.Ytoohcjdjmafliaa
namespace Go.Proofs.Ytoohcjdjmafliaa
open Go Go.RowKit
end Go.Proofs.Ytoohcjdjmafliaa
namespace Go.Proofs.Ytoohcjdjmafliaa
open Go Go.RowKit
/-- A row of numbers. -/
def Ints (w : World) (v : Value) (ns : List Int) : Prop :=
  ∃ a cap, v = .slice a ns.length cap ∧ ns.length ≤ cap ∧ (a = none → cap = 0) ∧ (0 < ns.length → ∃ c o, a = some ⟨c, o, none⟩ ∧ ∀ i, i < ns.length → w.cell? ⟨c, o + i, none⟩ = some (.int .i64 (ns.getD i 0)))
theorem Ints.later {w w1 : World} {v : Value} {ns : List Int} (h : Ints w v ns) (hb : Below w.heap.size w w1) : Ints w1 v ns := by
  obtain ⟨a, cap, hv, hc, hn, hr⟩ := h
  refine ⟨a, cap, hv, hc, hn, fun hp => ?_⟩
  obtain ⟨c, o, ha, hf⟩ := hr hp
  refine ⟨c, o, ha, fun i hi => ?_⟩
  rw [hb.cell (p := ⟨c, o + i, none⟩) (World.block_lt_of_cell? _ _ (hf i hi))]
  exact hf i hi
/-- The cells of numbers. -/
def i64s (ns : List Int) : List Value := ns.map fun n => Value.int .i64 n
theorem i64s_get (ns : List Int) (i : Nat) (h : i < ns.length) : (i64s ns)[i]? = some (.int .i64 (ns.getD i 0)) := by
  unfold i64s
  rw [List.getElem?_map, List.getElem?_eq_getElem h, List.getD_eq_getElem?_getD, List.getElem?_eq_getElem h]
  rfl
/-- A row of numbers that the call has made. -/
def OwnI (w : World) (base : Nat) (v : Value) (ns : List Int) : Prop := w.ownsRow base 3 1 v ns.length (i64s ns)
theorem OwnI.nil (w : World) (base : Nat) : OwnI w base (.slice none 0 0) [] := ⟨rfl, .inl ⟨rfl, rfl⟩⟩
theorem OwnI.later {w w1 : World} {base B : Nat} {v : Value} {ns : List Int} (h : OwnI w base v ns) (hb : Below B w w1) (hB : ∀ g, v.ownBlock = some g → g < B) : OwnI w1 base v ns := by
  obtain ⟨hl, hr⟩ := h
  refine ⟨hl, ?_⟩
  rcases hr with h | ⟨g, cap, cur, hv, hc, h1, h2, h3, h4⟩
  · exact .inl h
  · refine .inr ⟨g, cap, cur, hv, hc, ?_, h2, h3, h4⟩
    rw [hb.block g (hB g (by rw [hv]; rfl))]
    exact h1
theorem OwnI.lt {w : World} {base : Nat} {v : Value} {ns : List Int} (h : OwnI w base v ns) : ∀ g, v.ownBlock = some g → g < w.heap.size ∧ base ≤ g := by
  intro g hg
  rcases h.2 with ⟨rfl, _⟩ | ⟨g', cap, cur, rfl, hb, hh, _⟩
  · cases hg
  · injection hg with hg
    subst hg
    exact ⟨(Array.getElem?_eq_some_iff.1 hh).1, hb⟩
theorem OwnI.ints {w : World} {base : Nat} {v : Value} {ns : List Int} (h : OwnI w base v ns) : Ints w v ns := by
  rcases h.2 with ⟨rfl, h0⟩ | ⟨g, cap, cur, rfl, hb, hg, hn, hm, hs, hc⟩
  · refine ⟨none, 0, by rw [h0], by omega, fun _ => rfl, fun hp => by omega⟩
  · refine ⟨_, cap, rfl, hn, (fun hx => by cases hx), fun _ => ⟨g, 0, rfl, fun j hj => ?_⟩⟩
    rw [cell_of_row _ _ _ _ _ _ hg, Nat.zero_add, ← Array.getElem?_toList]
    have h1 : (cur.toList.take (ns.length * 1))[j]? = (i64s ns)[j]? := by rw [hc]
    rw [List.getElem?_take, if_pos (by omega), i64s_get ns j hj] at h1
    exact h1
theorem OwnI.form {w : World} {base : Nat} {v : Value} {ns : List Int} (h : OwnI w base v ns) : ∃ a cap, v = .slice a ns.length cap := by
  obtain ⟨a, cap, hv, -⟩ := h.ints
  exact ⟨a, cap, hv⟩
end Go.Proofs.Ytoohcjdjmafliaa
namespace Go.Proofs.Ytoohcjdjmafliaa
open Go Go.RowKit
end Go.Proofs.Ytoohcjdjmafliaa
namespace Go.Proofs.Ytoohcjdjmafliaa
open Go Go.ChangeShapes Go.WideShapes Go.ChangeAt Go.RowKit
theorem own : ownKnob Try.prog.godebug = none := by kernel_rfl
theorem laidOut : laidOutB Try.prog = true := by kernel_rfl
end Go.Proofs.Ytoohcjdjmafliaa
namespace Go.Proofs.Ytoohcjdjmafliaa
open Go Go.ChangeShapes Go.WideShapes Go.ChangeAt Go.RowKit
/-- A number that an int holds. -/
def in64 (n : Int) : Prop := -9223372036854775808 ≤ n ∧ n ≤ 9223372036854775807
/-- A slice of numbers. -/
theorem open_ns {H : Type} {enc : TypeId × Value → H} {W : World} {a : Option Addr} {len cap : Nat} {d : DataW H} {p : List MemPlace} (h : DataW.Trod enc Try.prog W 0 (fun _ => true) true 63 (.slice a len cap) d p) :
    ∃ ns, Ints W (.slice a len cap) ns ∧ ns.length ≤ 9223372036854775807 ∧ ∀ n ∈ ns, in64 n := by
  obtain ⟨fuel, hf⟩ := h
  rcases open_ints Try.underlying63 Try.underlying3 (by kernel_rfl) hf with ⟨hcs, _⟩ | ⟨x, l, c, zs, hcs, _, hl, hm, hz, _, hcell, hwz⟩
  · simp [Value.cells] at hcs
    obtain ⟨rfl, rfl, rfl⟩ := hcs
    exact ⟨[], ⟨none, 0, rfl, Nat.le_refl _, fun _ => rfl, fun h => by simp at h⟩, by simp, fun n hn => by simp at hn⟩
  · simp [Value.cells] at hcs
    obtain ⟨rfl, rfl, rfl⟩ := hcs
    have hz' : zs.length = cap := by simpa using hz
    have hm' : cap ≤ 9223372036854775807 := hm
    refine ⟨zs.take len, ⟨some x, cap, ?_, ?_, (fun h => by cases h), fun hp => ?_⟩, by rw [List.length_take]; omega, fun n hn => lit_i64 n (hwz n (List.mem_of_mem_take hn))⟩
    · rw [List.length_take, Nat.min_eq_left (by omega)]
    · rw [List.length_take]; omega
    · rw [List.length_take] at hp
      obtain ⟨b, off, rfl, hc'⟩ := ints_at hcell (by omega)
      refine ⟨b, off, rfl, fun j hj => ?_⟩
      rw [List.length_take] at hj
      rw [hc' j (by omega)]
      have hjz : j < zs.length := by omega
      simp [hjz, show j < len by omega]
end Go.Proofs.Ytoohcjdjmafliaa
namespace Go.Proofs.Ytoohcjdjmafliaa
open Go Go.ChangeShapes Go.WideShapes Go.ChangeAt Go.RowKit
/-- A boot and a counter. -/
structure Nn where
  b : Int
  c : Int
def Nn.zero : Nn := ⟨0, 0⟩
def nv (n : Nn) : Value := .agg #[.int .i64 n.b, .int .i64 n.c]
theorem Nn.ext' {x y : Nn} (h1 : x.b = y.b) (h2 : x.c = y.c) : x = y := by cases x; cases y; cases h1; cases h2; rfl
theorem Nn.eq_iff (x y : Nn) : x = y ↔ x.b = y.b ∧ x.c = y.c := ⟨fun h => by rw [h]; exact ⟨rfl, rfl⟩, fun h => Nn.ext' h.1 h.2⟩
instance : DecidableEq Nn := fun x y => decidable_of_iff _ (Nn.eq_iff x y).symm
def nnc (e : Nn) : List Value := [.int .i64 e.b, .int .i64 e.c]
/-- Nonces one behind the other, as cells. -/
def cellsN : List Nn → List Value
  | [] => []
  | e :: r => .int .i64 e.b :: .int .i64 e.c :: cellsN r
theorem cellsN_snoc (l : List Nn) (e : Nn) : cellsN (l ++ [e]) = cellsN l ++ nnc e := by
  induction l with
  | nil => rfl
  | cons y r ih => simp only [List.cons_append, cellsN, ih, nnc, List.nil_append]
theorem cellsN_len (l : List Nn) : (cellsN l).length = l.length * 2 := by
  induction l with
  | nil => rfl
  | cons y r ih => simp only [cellsN, List.length_cons, ih]; omega
theorem cellsN_get (l : List Nn) : ∀ (k : Nat), k < l.length → ∀ j v, (nnc (l.getD k Nn.zero))[j]? = some v → (cellsN l)[k * 2 + j]? = some v := by
  induction l with
  | nil => intro k hk; exact absurd hk (Nat.not_lt_zero _)
  | cons c r ih =>
    intro k hk j v hj
    match k with
    | 0 =>
      have hj4 : j < 2 := (List.getElem?_eq_some_iff.1 hj).1
      match j, hj4 with
      | 0, _ => exact hj
      | 1, _ => exact hj
    | k + 1 =>
      have h := ih k (by simpa using hk) j v (by simpa using hj)
      rw [show (k + 1) * 2 + j = (k * 2 + j) + 2 by omega]
      exact h
/-- Nonces in a row that the call owns, of one type or the other. -/
def OwnN (T : TypeId) (w : World) (base : Nat) (v : Value) (l : List Nn) : Prop := w.ownsRow base T 2 v l.length (cellsN l)
theorem OwnN.nil (T : TypeId) (w : World) (base : Nat) : OwnN T w base (.slice none 0 0) [] := ⟨rfl, .inl ⟨rfl, rfl⟩⟩
theorem OwnN.lt {T : TypeId} {w : World} {base : Nat} {v : Value} {l : List Nn} (h : OwnN T w base v l) : ∀ g, v.ownBlock = some g → g < w.heap.size ∧ base ≤ g := fun g hg => by
  have := World.ownsRow.lt h g hg
  exact ⟨this.2, this.1⟩
theorem OwnN.kept {T : TypeId} {w w1 : World} {base : Nat} {v : Value} {l : List Nn} (h : OwnN T w base v l) (hb : ∀ g cs fr, base ≤ g → w.heap[g]? = some (.cells cs T fr) → w1.heap[g]? = some (.cells cs T fr)) : OwnN T w1 base v l := by
  refine ⟨h.1, ?_⟩
  rcases h.2 with h0 | ⟨g, cap, cur, hv, hb', hh, hr⟩
  · exact .inl h0
  · exact .inr ⟨g, cap, cur, hv, hb', hb g _ _ hb' hh, hr⟩
theorem OwnN.later {T : TypeId} {w w1 : World} {base : Nat} {v : Value} {l : List Nn} (h : OwnN T w base v l) (hb : Below w.heap.size w w1) : OwnN T w1 base v l := h.kept fun g cs fr _ h0 => by rw [hb.block g (Array.getElem?_eq_some_iff.1 h0).1]; exact h0
/-- A row stays where a block of another kind changes. -/
theorem OwnN.aside {T : TypeId} {w w1 : World} {base M : Nat} {v : Value} {l : List Nn} (h : OwnN T w base v l) (hm : ∀ cs fr, w.heap[M]? ≠ some (.cells cs T fr)) (hg : w.grownBy w1 (some M)) : OwnN T w1 base v l := h.kept fun g cs fr _ h0 => by
  rw [hg.block g (Array.getElem?_eq_some_iff.1 h0).1 (fun e => by
    injection e with e
    subst e
    exact hm _ _ h0)]
  exact h0
theorem OwnN.form {T : TypeId} {w : World} {base : Nat} {v : Value} {l : List Nn} (h : OwnN T w base v l) : ∃ a cap, v = .slice a l.length cap ∧ l.length ≤ cap ∧ (a = none → cap = 0) := by
  rcases h.2 with ⟨hv, h0⟩ | ⟨g, cap, cur, hv, _, hg, hc1, hc2, hc3, hc4⟩
  · exact ⟨none, 0, by rw [h0]; exact hv, by omega, fun _ => rfl⟩
  · exact ⟨_, cap, hv, hc1, fun h => by cases h⟩
/-- A block of such a row has its type. -/
theorem OwnN.kind {T : TypeId} {w : World} {base : Nat} {v : Value} {l : List Nn} (h : OwnN T w base v l) : ∀ g, v.ownBlock = some g → ∃ cs fr, w.heap[g]? = some (.cells cs T fr) := fun g hg => by
  rcases h.2 with ⟨hv, _⟩ | ⟨g', cap, cur, hv, _, hh, _⟩
  · rw [hv] at hg; cases hg
  · rw [hv] at hg
    injection hg with hg
    subst hg
    exact ⟨_, _, hh⟩
theorem ownN_below {T : TypeId} {w w1 : World} {base : Nat} {v : Value} {l : List Nn} (h : OwnN T w base v l) (hg : w.grownBy w1 v.ownBlock) (hb : base ≤ w.heap.size) : Below base w w1 :=
  ⟨hg.os, hg.tape, hg.output, hg.size, fun i hi => hg.block i (by omega) (fun e => by have := (h.lt i e.symm).2; omega)⟩
/-- Nonces that can be read. -/
def NnsR (w : World) (v : Value) (l : List Nn) : Prop :=
  ∃ a cap, v = .slice a l.length cap ∧ l.length ≤ cap ∧ (a = none → cap = 0) ∧ (0 < l.length → ∃ g o, a = some ⟨g, o, none⟩ ∧ ∀ k, k < l.length → w.cell? ⟨g, o + k * 2, none⟩ = some (.int .i64 (l.getD k Nn.zero).b) ∧ w.cell? ⟨g, o + k * 2 + 1, none⟩ = some (.int .i64 (l.getD k Nn.zero).c))
theorem NnsR.later {w w1 : World} {v : Value} {l : List Nn} (h : NnsR w v l) (hb : Below w.heap.size w w1) : NnsR w1 v l := by
  obtain ⟨a, cap, hv, h1, h2, hr⟩ := h
  refine ⟨a, cap, hv, h1, h2, fun hp => ?_⟩
  obtain ⟨g, o, ha, hc⟩ := hr hp
  refine ⟨g, o, ha, fun k hk => ?_⟩
  obtain ⟨h1, h2⟩ := hc k hk
  exact ⟨by rw [hb.cell (World.block_lt_of_cell? _ _ h1)]; exact h1, by rw [hb.cell (World.block_lt_of_cell? _ _ h2)]; exact h2⟩
theorem NnsR.form {w : World} {v : Value} {l : List Nn} (h : NnsR w v l) : ∃ a cap, v = .slice a l.length cap := by
  obtain ⟨a, cap, hv, _⟩ := h
  exact ⟨a, cap, hv⟩
theorem NnsR.start {w : World} {v : Value} {l : List Nn} (h : NnsR w v l) (hp : 0 < l.length) : ∃ g o cap, v = .slice (some ⟨g, o, none⟩) l.length cap := by
  obtain ⟨a, cap, hv, -, -, hr⟩ := h
  obtain ⟨g, o, ha, -⟩ := hr hp
  exact ⟨g, o, cap, by rw [hv, ha]⟩
theorem NnsR.cells {w : World} {g o n cap : Nat} {l : List Nn} (h : NnsR w (.slice (some ⟨g, o, none⟩) n cap) l) (k : Nat) (hk : k < l.length) :
    w.cell? ⟨g, o + k * 2, none⟩ = some (.int .i64 (l.getD k Nn.zero).b) ∧ w.cell? ⟨g, o + k * 2 + 1, none⟩ = some (.int .i64 (l.getD k Nn.zero).c) := by
  obtain ⟨a', cap', hv, -, -, hr⟩ := h
  obtain ⟨b', o', ha, hx⟩ := hr (by omega)
  injection hv with e1 e2 e3
  rw [ha] at e1
  injection e1 with e1
  injection e1 with e4 e5
  subst e4 e5
  exact hx k hk
/-- The first ones of a row. -/
theorem NnsR.take {w : World} {a : Option Addr} {n cap : Nat} {l : List Nn} (h : NnsR w (.slice a n cap) l) (m : Nat) (hm : m ≤ n) : NnsR w (.slice a m cap) (l.take m) := by
  obtain ⟨a', cap', hv, h1, h2, hr⟩ := h
  injection hv with e1 e2 e3
  subst e1 e2 e3
  have hl : (l.take m).length = m := by rw [List.length_take]; omega
  refine ⟨a, cap, by rw [hl], by omega, h2, fun hp => ?_⟩
  obtain ⟨g, o, ha, hc⟩ := hr (by omega)
  refine ⟨g, o, ha, fun k hk => ?_⟩
  rw [hl] at hk
  have e : (l.take m).getD k Nn.zero = l.getD k Nn.zero := by
    rw [List.getD_eq_getElem?_getD, List.getD_eq_getElem?_getD, List.getElem?_take_of_lt hk]
  rw [e]
  exact hc k (by omega)
theorem OwnN.reads {T : TypeId} {w : World} {base : Nat} {v : Value} {l : List Nn} (h : OwnN T w base v l) : NnsR w v l := by
  rcases h.2 with ⟨hv, h0⟩ | ⟨g, cap, cur, hv, _, hg, hc1, hc2, hc3, hc4⟩
  · exact ⟨none, 0, by rw [h0]; exact hv, by omega, fun _ => rfl, fun hp => by omega⟩
  · refine ⟨_, cap, hv, hc1, (fun h => by cases h), fun _ => ⟨g, 0, rfl, fun k hk => ?_⟩⟩
    have hat : ∀ j u, (nnc (l.getD k Nn.zero))[j]? = some u → w.cell? ⟨g, k * 2 + j, none⟩ = some u := fun j u hj => by
      have hj4 : j < 2 := (List.getElem?_eq_some_iff.1 hj).1
      rw [cell_of_row _ _ _ _ _ _ hg, ← Array.getElem?_toList]
      have h1 : (cur.toList.take (l.length * 2))[k * 2 + j]? = (cellsN l)[k * 2 + j]? := by rw [hc4]
      rw [List.getElem?_take_of_lt (by omega)] at h1
      rw [h1]
      exact cellsN_get l k hk j u hj
    rw [Nat.zero_add]
    exact ⟨hat 0 _ rfl, hat 1 _ rfl⟩
theorem nnc_new (W : World) (e : Nn) (t : TypeId) : (W.alloc (.cells #[.int .i64 e.b, .int .i64 e.c] t)).rangeAt W.heap.size 0 (nnc e) := fun j u hj => by
  rw [cell_of_row _ _ _ _ _ _ (hnew W _ _ rfl), Nat.zero_add, ← Array.getElem?_toList]
  exact hj
theorem run_ap12W (w : World) (base : Nat) (v : Value) (l : List Nn) (hown : OwnN 24 w base v l) (g o : Nat) (e : Nn) (hr : w.rangeAt g o (nnc e)) (hn : l.length ≤ 1000) (hbase : base ≤ w.heap.size) (ty : TypeId) (cp : Nat) :
    ∃ v' w', (Builtin.append_ #[36, 36] ty #[v, .slice (some ⟨g, o, none⟩) 1 cp]).run Try.prog w = .ok v' w' ∧ OwnN 24 w' base v' (l ++ [e]) ∧ w.grownBy w' v.ownBlock := by
  have hi : Try.prog.info? 24 = some ((Try.prog.info? 24).getD default) := by kernel_rfl
  obtain ⟨v', w', hrun, h2, h3, _, _⟩ := run_append_own_at (P := Try.prog) w base 36 ty 24 _ (.agg #[.int .i64 0, .int .i64 0]) 2 16 Try.underlying36 hi (by kernel_rfl) (by kernel_rfl) (by kernel_rfl) rfl (by omega) v l.length (cellsN l) hown ⟨g, o, none⟩ 1 cp (nnc e) (by simp [nnc])
    (fun j u hu => by rw [show (⟨g, o, none⟩ : Addr).add j = ⟨g, o + j, none⟩ by unfold Addr.add; split <;> simp_all]; exact hr j u hu)
    (fun u hu => by
      unfold nnc at hu
      simp at hu
      rcases hu with rfl | rfl
      · rfl
      · rfl) (by simp only [maxLen]; omega) (by omega) hbase
  refine ⟨v', w', hrun, ?_, h3⟩
  unfold OwnN
  rw [List.length_append, cellsN_snoc]
  exact h2
theorem wpList_ap12W {w : World} {ops : Array Oper} {rest : List Oper} {o : Oper} {a : Act} {Q : Exit → Act → World → Prop} (hgd : o.guard = none) (sl x : Operand)
    (ho : o.op = .call { callee := .builtin .append, args := #[sl, x], argTypes := #[36, 36] }) (base : Nat) (v : Value) (l : List Nn) (hs : a.eval sl = v) (hown : OwnN 24 w base v l) (g of : Nat) (e : Nn) (cp : Nat) (hx : a.eval x = .slice (some ⟨g, of, none⟩) 1 cp) (hr : w.rangeAt g of (nnc e))
    (hn : l.length ≤ 1000) (hbase : base ≤ w.heap.size)
    (h : ∀ v' w', OwnN 24 w' base v' (l ++ [e]) → w.grownBy w' v.ownBlock → wpList Try.prog ops Q rest (a.put o.dst v') w') : wpList Try.prog ops Q (o :: rest) a w := by
  refine wpList_plain hgd fun K hK => ?_
  obtain ⟨v', w', hrun, h1, h2⟩ := run_ap12W w base v l hown g of e hr hn hbase o.type cp
  unfold Oper.wp
  simp [execOp, ho, resolve, invoke, builtin, hs, hx, hrun, Result.andThen]
  exact hK _ _ (h v' w' h1 h2)
/-- A word of 64 bits as the model's integer. -/
def tv (x : BitVec 64) : Int := (x.toNat : Int)
theorem tv_inj {x y : BitVec 64} (h : tv x = tv y) : x = y := by unfold tv at h; exact BitVec.eq_of_toNat_eq (by omega)
theorem tv_and (x y : BitVec 64) : bits .and .u64 (tv x) (tv y) = tv (x &&& y) := by
  unfold tv
  rw [u64_and_nat _ _ x.isLt y.isLt, BitVec.toNat_and]
theorem tv_or (x y : BitVec 64) : bits .or .u64 (tv x) (tv y) = tv (x ||| y) := by
  unfold tv
  rw [u64_or_nat _ _ x.isLt y.isLt, BitVec.toNat_or]
theorem tv_zero : tv 0#64 = 0 := rfl
theorem tv_eq (x : BitVec 64) : tv x = 0 ↔ x = 0#64 := ⟨fun h => tv_inj (h.trans tv_zero.symm), fun h => by rw [h]; rfl⟩
/-- What a window knows: the latest, and a bit a counter. -/
structure Ws where
  n : Nn
  t : BitVec 64
def Ws.zero : Ws := ⟨Nn.zero, 0#64⟩
/-- A window in its block. -/
def WinB (W : World) (q : Nat) (s : Ws) : Prop := W.heap[q]? = some (.cells #[.int .i64 s.n.b, .int .i64 s.n.c, .int .u64 (tv s.t)] 27 (0, 0))
theorem WinB.lt {W : World} {q : Nat} {s : Ws} (h : WinB W q s) : q < W.heap.size := (Array.getElem?_eq_some_iff.1 h).1
theorem WinB.later {W W1 : World} {q : Nat} {s : Ws} (h : WinB W q s) (hb : Below W.heap.size W W1) : WinB W1 q s := (hb.block q h.lt).trans h
theorem WinB.aside {W W1 : World} {q p : Nat} {s : Ws} (h : WinB W q s) (hg : W.grownBy W1 (some p)) (hne : q ≠ p) : WinB W1 q s := (hg.block q h.lt (fun e => hne (by injection e))).trans h
theorem WinB.cells {W : World} {q : Nat} {s : Ws} (h : WinB W q s) : W.cell? ⟨q, 0, none⟩ = some (.int .i64 s.n.b) ∧ W.cell? ⟨q, 1, none⟩ = some (.int .i64 s.n.c) ∧ W.cell? ⟨q, 2, none⟩ = some (.int .u64 (tv s.t)) :=
  ⟨by rw [cell_of_row _ _ _ _ _ _ h]; rfl, by rw [cell_of_row _ _ _ _ _ _ h]; rfl, by rw [cell_of_row _ _ _ _ _ _ h]; rfl⟩
theorem WinB.kind {W : World} {q : Nat} {s : Ws} (h : WinB W q s) {T : TypeId} (hT : T ≠ 27) : ∀ cs fr, W.heap[q]? ≠ some (.cells cs T fr) := fun cs fr e => by
  rw [h] at e
  injection e with e
  injection e with _ e2
  exact hT e2.symm
theorem winB_new (W : World) : WinB (W.alloc (.cells #[.int .i64 0, .int .i64 0, .int .u64 0] 27)) W.heap.size Ws.zero := hnew _ _ _ rfl
theorem grown_belowW {w w1 : World} {p : Nat} (h : w.grownBy w1 (some p)) {B : Nat} (hB : B ≤ p) (hs : B ≤ w.heap.size) : Below B w w1 := ⟨h.os, h.tape, h.output, h.size, fun i hi => h.block i (by omega) (fun e => by injection e with e; omega)⟩
end Go.Proofs.Ytoohcjdjmafliaa
namespace Go.Proofs.Ytoohcjdjmafliaa
open Go Go.RowKit
/-- Is it a boot? Is it a nonce? -/
def bootN (b : Int) : Bool := decide (1 ≤ b ∧ b ≤ 65535)
def okN (n : Nn) : Bool := bootN n.b && decide (1 ≤ n.c ∧ n.c ≤ 2147483647)
theorem okN_iff (n : Nn) : okN n = true ↔ 1 ≤ n.b ∧ n.b ≤ 65535 ∧ 1 ≤ n.c ∧ n.c ≤ 2147483647 := by
  unfold okN bootN
  rw [Bool.and_eq_true, decide_eq_true_eq, decide_eq_true_eq]
  exact ⟨fun h => ⟨h.1.1, h.1.2, h.2.1, h.2.2⟩, fun h => ⟨⟨h.1, h.2.1⟩, h.2.2.1, h.2.2.2⟩⟩
/-- Is the one ahead of the other? -/
def lessN (a b : Nn) : Bool := decide (a.b < b.b ∨ a.b = b.b ∧ a.c < b.c)
set_option maxRecDepth 100000 in
set_option maxHeartbeats 4000000 in
theorem boot_any (b : Int) (w : World) : Calls Try.prog 34 #[.int .i64 b] w fun e w' => e = .returned (.bool (bootN b)) ∧ w = w' := by
  by_cases h1 : 1 ≤ b
  · by_cases h2 : b ≤ 65535
    · have hd : decide (1 ≤ b) = true := decide_eq_true h1
      rw [show bootN b = true from decide_eq_true ⟨h1, h2⟩]
      go_enter Try.func34, Try.ntmps34
      go_wp2
      go_ret
      exact ⟨rfl, rfl⟩
    · have hd : decide (1 ≤ b) = true := decide_eq_true h1
      rw [show bootN b = false from decide_eq_false (fun h => h2 h.2)]
      go_enter Try.func34, Try.ntmps34
      go_wp2
      go_ret
      exact ⟨rfl, rfl⟩
  · rw [show bootN b = false from decide_eq_false (fun h => h1 h.1)]
    go_enter Try.func34, Try.ntmps34
    go_wp2
    go_ret
    exact ⟨rfl, rfl⟩
set_option maxRecDepth 100000 in
set_option maxHeartbeats 4000000 in
theorem check_any (n : Nn) (w : World) : Calls Try.prog 24 #[nv n] w fun e w' => e = .returned (.int .i64 (if okN n = true then 0 else 10)) ∧ Below w.heap.size w w' := by
  have HB := Bx.mk fun (W : World) => boot_any n.b W
  have HBl : Bx (Below w.heap.size w (w.alloc (.cells #[.int .i64 n.b, .int .i64 n.c] 24))) := Bx.mk (below_a _)
  obtain ⟨b, c⟩ := n
  unfold nv
  unfold okN
  simp only at HB HBl ⊢
  cases hb : bootN b with
  | false =>
    rw [hb] at HB
    rw [if_neg (by simp)]
    clear hb
    go_enter Try.func24, Try.ntmps24
    go_wp2_with fail
    refine (HB.out _).mono ?_
    rintro e w1 ⟨rfl, rfl⟩
    go_wp2
    go_ret
    exact ⟨rfl, HBl.out⟩
  | true =>
    rw [hb] at HB
    clear hb
    by_cases h1 : c < 1
    · rw [if_neg (by simp; omega)]
      have hd : decide (c < 1) = true := decide_eq_true h1
      go_enter Try.func24, Try.ntmps24
      go_wp2_with fail
      refine (HB.out _).mono ?_
      rintro e w1 ⟨rfl, rfl⟩
      go_wp2
      go_ret
      exact ⟨rfl, HBl.out⟩
    · by_cases h2 : 2147483647 < c
      · rw [if_neg (by simp; omega)]
        go_enter Try.func24, Try.ntmps24
        go_wp2_with fail
        refine (HB.out _).mono ?_
        rintro e w1 ⟨rfl, rfl⟩
        go_wp2
        go_ret
        exact ⟨rfl, HBl.out⟩
      · rw [if_pos (by simp; omega)]
        go_enter Try.func24, Try.ntmps24
        go_wp2_with fail
        refine (HB.out _).mono ?_
        rintro e w1 ⟨rfl, rfl⟩
        go_wp2
        go_ret
        exact ⟨rfl, HBl.out⟩
set_option maxRecDepth 100000 in
set_option maxHeartbeats 4000000 in
theorem wless_any (x y : Nn) (w : World) : Calls Try.prog 25 #[nv x, nv y] w fun e w' => e = .returned (.bool (lessN x y)) ∧ Below w.heap.size w w' := by
  obtain ⟨b, c⟩ := x
  obtain ⟨d, g⟩ := y
  have HBl : Bx (Below w.heap.size w ((w.alloc (.cells #[.int .i64 b, .int .i64 c] 24)).alloc (.cells #[.int .i64 d, .int .i64 g] 24))) := Bx.mk ((below_a _).trans ((below_a _).mono (by simp)))
  have hL : lessN ⟨b, c⟩ ⟨d, g⟩ = if b = d then decide (c < g) else decide (b < d) := by
    unfold lessN
    split <;> rename_i h <;> simp only [h, true_and, false_and, or_false, Int.lt_irrefl, false_or]
  rw [hL]
  clear hL
  unfold nv
  by_cases h : b = d
  · subst h
    rw [if_pos rfl]
    go_enter Try.func25, Try.ntmps25
    go_wp2
    go_ret
    exact ⟨rfl, HBl.out⟩
  · rw [if_neg h]
    go_enter Try.func25, Try.ntmps25
    go_wp2
    go_ret
    exact ⟨rfl, HBl.out⟩
end Go.Proofs.Ytoohcjdjmafliaa
namespace Go.Proofs.Ytoohcjdjmafliaa
open Go Go.RowKit
/-- Is a nonce old? -/
def forgW (s : Ws) (n : Nn) : Bool := decide (n.b < s.n.b ∨ n.b = s.n.b ∧ 64 ≤ s.n.c - n.c)
/-- A nonce's bit. -/
def bitW (s : Ws) (n : Nn) : BitVec 64 := if n.b = s.n.b ∧ n.c ≤ s.n.c then 1#64 <<< (s.n.c - n.c).toNat else 0#64
/-- A greater nonce is the latest. -/
def riseW (s : Ws) (n : Nn) : Ws := ⟨n, if n.b = s.n.b then s.t <<< (n.c - s.n.c).toNat else 0#64⟩
/-- The latest of a window is a nonce, or the zero one. -/
def Ws.ok (s : Ws) : Prop := 0 ≤ s.n.b ∧ s.n.b ≤ 65535 ∧ 0 ≤ s.n.c ∧ s.n.c ≤ 2147483647
theorem tv_shl (x : BitVec 64) (k : Nat) : IntKind.u64.wrap (tv x * 2 ^ k) = tv (x <<< k) := by
  unfold tv
  rw [IntKind.wrap_u64, BitVec.toNat_shiftLeft, Nat.shiftLeft_eq]
  simp
theorem tv_one (k : Nat) (h : k < 64) : (2 : Int) ^ k = tv (1#64 <<< k) := by
  unfold tv
  rw [BitVec.toNat_shiftLeft, Nat.shiftLeft_eq, BitVec.toNat_ofNat, Nat.mod_eq_of_lt (by decide : 1 < 2 ^ 64), Nat.one_mul, Nat.mod_eq_of_lt (Nat.pow_lt_pow_right (by decide) h)]
  simp
theorem tv_wrap (x : BitVec 64) : IntKind.u64.wrap (tv x) = tv x := by
  unfold tv
  have := x.isLt
  rw [IntKind.wrap_u64]
  omega
/-- A nonce in its own block. -/
def BoxN (T : TypeId) (X : Nat) (n : Nn) (W : World) : Prop := W.heap[X]? = some (.cells #[.int .i64 n.b, .int .i64 n.c] T (0, 0))
theorem BoxN.lt {T : TypeId} {X : Nat} {n : Nn} {W : World} (h : BoxN T X n W) : X < W.heap.size := (Array.getElem?_eq_some_iff.1 h).1
theorem BoxN.later {T : TypeId} {X : Nat} {n : Nn} {W W1 : World} (h : BoxN T X n W) (hb : Below W.heap.size W W1) : BoxN T X n W1 := (hb.block X h.lt).trans h
theorem BoxN.aside {T : TypeId} {X p : Nat} {n : Nn} {W W1 : World} (h : BoxN T X n W) (hg : W.grownBy W1 (some p)) (hne : X ≠ p) : BoxN T X n W1 := (hg.block X h.lt (fun e => hne (by injection e))).trans h
theorem BoxN.cells {T : TypeId} {X : Nat} {n : Nn} {W : World} (h : BoxN T X n W) : W.cell? ⟨X, 0, none⟩ = some (.int .i64 n.b) ∧ W.cell? ⟨X, 1, none⟩ = some (.int .i64 n.c) :=
  ⟨by rw [cell_of_row _ _ _ _ _ _ h]; rfl, by rw [cell_of_row _ _ _ _ _ _ h]; rfl⟩
theorem BoxN.range {T : TypeId} {X : Nat} {n : Nn} {W : World} (h : BoxN T X n W) : W.rangeAt X 0 [.int .i64 n.b, .int .i64 n.c] := fun j u hj => by
  rw [cell_of_row _ _ _ _ _ _ h, Nat.zero_add, ← Array.getElem?_toList]
  exact hj
theorem WinB.range {W : World} {q : Nat} {s : Ws} (h : WinB W q s) : W.rangeAt q 0 [.int .i64 s.n.b, .int .i64 s.n.c] := fun j u hj => by
  have hj2 : j < 2 := (List.getElem?_eq_some_iff.1 hj).1
  rw [cell_of_row _ _ _ _ _ _ h, Nat.zero_add, ← Array.getElem?_toList]
  match j, hj2 with
  | 0, _ => exact hj
  | 1, _ => exact hj
set_option maxRecDepth 100000 in
set_option maxHeartbeats 4000000 in
theorem forgot_any (q : Nat) (s : Ws) (n : Nn) (w : World) (h : WinB w q s) (hs : s.ok) (hn : okN n = true) : Calls Try.prog 31 #[.pointer (some ⟨q, 0, none⟩), nv n] w fun e w' => e = .returned (.bool (forgW s n)) ∧ Below w.heap.size w w' := by
  obtain ⟨c0, c1, c2⟩ := (h.later (below_a (.cells #[.int .i64 n.b, .int .i64 n.c] 24))).cells
  have HBl : Bx (Below w.heap.size w (w.alloc (.cells #[.int .i64 n.b, .int .i64 n.c] 24))) := Bx.mk (below_a _)
  obtain ⟨n1, n2, n3, n4⟩ := (okN_iff n).1 hn
  obtain ⟨s1, s2, s3, s4⟩ := hs
  have hq := h.lt
  have hne : q ≠ w.heap.size := by omega
  obtain ⟨b, c⟩ := n
  obtain ⟨⟨B, C⟩, T⟩ := s
  simp only at c0 c1 c2 n1 n2 n3 n4 s1 s2 s3 s4 HBl
  unfold forgW nv
  simp only
  have e1 : IntKind.i64.wrap (C - c) = C - c := by simp [IntKind.wrap_i64]; omega
  have e2 : wrap64 (C - c) = C - c := by unfold wrap64; omega
  clear h hn hq n1 n2 n3 n4 s1 s2 s3 s4 c2
  by_cases h1 : b < B
  · rw [decide_eq_true (.inl h1)]
    have d1 : decide (b < B) = true := decide_eq_true h1
    go_enter Try.func31, Try.ntmps31
    go_wp2
    skip -- M1
    go_quiet (fail)
    skip -- M2
    go_wp2
    go_ret
    exact ⟨rfl, below_drewN HBl.out _⟩
  · have d1 : decide (b < B) = false := decide_eq_false h1
    by_cases h2 : b = B
    · subst h2
      have d2 : decide (b = b) = true := decide_eq_true rfl
      by_cases h3 : 64 ≤ C - c
      · rw [decide_eq_true (.inr ⟨rfl, h3⟩)]
        go_enter Try.func31, Try.ntmps31
        go_wp2
        go_quiet (fail)
        go_wp2
        go_ret
        exact ⟨rfl, below_drewN HBl.out _⟩
      · rw [decide_eq_false (fun h => h3 (by omega))]
        have d3 : decide (64 ≤ C - c) = false := decide_eq_false h3
        go_enter Try.func31, Try.ntmps31
        go_wp2
        go_quiet (fail)
        go_wp2
        go_ret
        exact ⟨rfl, below_drewN HBl.out _⟩
    · have d2 : decide (b = B) = false := decide_eq_false h2
      rw [decide_eq_false (fun h => by omega)]
      go_enter Try.func31, Try.ntmps31
      go_wp2
      go_quiet (fail)
      go_wp2
      go_ret
      exact ⟨rfl, below_drewN HBl.out _⟩
set_option maxRecDepth 100000 in
set_option maxHeartbeats 4000000 in
theorem bit_any12 (q : Nat) (s : Ws) (n : Nn) (w : World) (h : WinB w q s) (hs : s.ok) (hn : okN n = true) (hk : n.b = s.n.b → s.n.c - n.c < 64) : Calls Try.prog 32 #[.pointer (some ⟨q, 0, none⟩), nv n] w fun e w' => e = .returned (.int .u64 (tv (bitW s n))) ∧ Below w.heap.size w w' := by
  obtain ⟨c0, c1, c2⟩ := (h.later (below_a (.cells #[.int .i64 n.b, .int .i64 n.c] 24))).cells
  have HBl : Bx (Below w.heap.size w (w.alloc (.cells #[.int .i64 n.b, .int .i64 n.c] 24))) := Bx.mk (below_a _)
  obtain ⟨n1, n2, n3, n4⟩ := (okN_iff n).1 hn
  obtain ⟨s1, s2, s3, s4⟩ := hs
  have hq := h.lt
  have hne : q ≠ w.heap.size := by omega
  obtain ⟨b, c⟩ := n
  obtain ⟨⟨B, C⟩, T⟩ := s
  simp only at c0 c1 c2 n1 n2 n3 n4 s1 s2 s3 s4 HBl hk
  unfold bitW nv
  simp only
  have e1 : IntKind.i64.wrap (C - c) = C - c := by simp [IntKind.wrap_i64]; omega
  clear h hn hq n1 n2 n3 n4 s1 s2 s3 s4 c2
  by_cases h1 : b = B
  · subst h1
    have d1 : decide (b = b) = true := decide_eq_true rfl
    have hk := hk rfl
    by_cases h2 : C < c
    · rw [if_neg (fun h => by omega)]
      have d2 : decide (C < c) = true := decide_eq_true h2
      clear hk
      go_enter Try.func32, Try.ntmps32
      go_wp2
      go_quiet (fail)
      go_wp2
      go_ret
      exact ⟨rfl, below_drewN HBl.out _⟩
    · rw [if_pos ⟨rfl, by omega⟩]
      have d2 : decide (C < c) = false := decide_eq_false h2
      obtain ⟨k, hkk⟩ : ∃ k : Nat, C - c = (k : Int) := ⟨(C - c).toNat, by omega⟩
      have hp := tv_one k (by omega)
      rw [hkk, Int.toNat_natCast]
      have e3 : IntKind.i64.wrap (C - c) = (k : Int) := by rw [e1, hkk]
      have e5 := tv_wrap (1#64 <<< k)
      have hk64 : (k : Int) < 64 := by omega
      have hk0 : (0 : Int) ≤ (k : Int) := by omega
      clear hk e1 h2
      go_enter Try.func32, Try.ntmps32
      go_wp2
      go_quiet (fail)
      go_wp2
      skip -- M3
      go_quiet (fail)
      skip -- M4
      go_wp2
      go_ret
      exact ⟨rfl, below_drewN (below_drewN HBl.out _) _⟩
  · rw [if_neg (fun h => h1 h.1)]
    have d1 : decide (b = B) = false := decide_eq_false h1
    go_enter Try.func32, Try.ntmps32
    go_wp2
    go_quiet (fail)
    go_wp2
    go_ret
    exact ⟨rfl, below_drewN HBl.out _⟩
theorem WinB.setT {W : World} {q : Nat} {s : Ws} (h : WinB W q s) (t : BitVec 64) : WinB (W.setCell ⟨q, 2, none⟩ (.int .u64 (tv t))) q ⟨s.n, t⟩ := by
  have := heap_setCells_same q _ [.int .u64 (tv t)] 2 W _ h
  exact this
theorem WinB.setN {W : World} {q : Nat} {s : Ws} (h : WinB W q s) (n : Nn) : WinB (W.setCells q 0 [.int .i64 n.b, .int .i64 n.c]) q ⟨n, s.t⟩ := by
  have := heap_setCells_same q _ [.int .i64 n.b, .int .i64 n.c] 0 W _ h
  exact this
theorem WinB.frozen {W : World} {q : Nat} {s : Ws} (h : WinB W q s) (i : Nat) : W.frozen? ⟨q, i, none⟩ = false := frozen_of_row _ _ _ _ _ h
theorem tv_shlm (x : BitVec 64) (k : Nat) : IntKind.u64.wrap (tv x * 2 ^ min k 64) = tv (x <<< k) := by
  rw [tv_shl]
  by_cases h : k ≤ 64
  · rw [Nat.min_eq_left h]
  · rw [Nat.min_eq_right (by omega), BitVec.shiftLeft_eq_zero (by omega), BitVec.shiftLeft_eq_zero (by omega)]
set_option maxRecDepth 100000 in
set_option maxHeartbeats 4000000 in
theorem rise_same (q : Nat) (s : Ws) (n : Nn) (w : World) (h : WinB w q s) (hs : s.ok) (hn : okN n = true) (hb : n.b = s.n.b) (hl : s.n.c < n.c) : Calls Try.prog 33 #[.pointer (some ⟨q, 0, none⟩), nv n] w fun e w' => e = .returned (.tuple #[]) ∧ WinB w' q (riseW s n) ∧ w.grownBy w' (some q) := by
  obtain ⟨c0, c1, c2⟩ := (h.later (below_a (.cells #[.int .i64 n.b, .int .i64 n.c] 24))).cells
  have HW := Bx.mk (h.later (below_a (.cells #[.int .i64 n.b, .int .i64 n.c] 24)))
  have HX : Bx (BoxN 24 w.heap.size n (w.alloc (.cells #[.int .i64 n.b, .int .i64 n.c] 24))) := Bx.mk (hnew _ _ _ rfl)
  have HG : Bx (w.grownBy (w.alloc (.cells #[.int .i64 n.b, .int .i64 n.c] 24)) (some q)) := Bx.mk (kb_below _ (below_a _))
  obtain ⟨n1, n2, n3, n4⟩ := (okN_iff n).1 hn
  obtain ⟨s1, s2, s3, s4⟩ := hs
  have hq := h.lt
  have hne : q ≠ w.heap.size := by omega
  have hne' : w.heap.size ≠ q := by omega
  clear hq h hn
  obtain ⟨b, c⟩ := n
  obtain ⟨⟨B, C⟩, T⟩ := s
  simp only at c0 c1 c2 n1 n2 n3 n4 s1 s2 s3 s4 HX HG HW hb hl
  subst hb
  unfold riseW nv
  simp only [if_true]
  obtain ⟨k, hk⟩ : ∃ k : Nat, c - C = (k : Int) := ⟨(c - C).toNat, by omega⟩
  rw [hk, Int.toNat_natCast]
  have e1 : IntKind.i64.wrap (c - C) = (k : Int) := by rw [← hk]; simp [IntKind.wrap_i64]; omega
  have e2 := tv_shlm T k
  have e3 : IntKind.u64.wrap (k : Int) = (k : Int) := by rw [IntKind.wrap_u64]; omega
  have f2 := HW.out.frozen 2
  have d1 : decide (b = b) = true := decide_eq_true rfl
  have hk0 : (0 : Int) ≤ (k : Int) := by omega
  have hk1 : (k : Int) ≤ 2147483647 := by omega
  clear hk hl n1 n2 n3 n4 s1 s2 s3 s4
  go_enter Try.func33, Try.ntmps33
  go_wp2
  go_quiet (fail)
  go_wp2
  skip -- M5
  go_region
  have HW2 : Bx (WinB (((w.alloc (.cells #[.int .i64 b, .int .i64 c] 24)).drewN (nq + 1)).setCell ⟨q, 2, none⟩ (.int .u64 (tv (T <<< k)))) q ⟨⟨b, C⟩, T <<< k⟩ ∧ BoxN 24 w.heap.size ⟨b, c⟩ (((w.alloc (.cells #[.int .i64 b, .int .i64 c] 24)).drewN (nq + 1)).setCell ⟨q, 2, none⟩ (.int .u64 (tv (T <<< k)))) ∧ w.grownBy (((w.alloc (.cells #[.int .i64 b, .int .i64 c] 24)).drewN (nq + 1)).setCell ⟨q, 2, none⟩ (.int .u64 (tv (T <<< k)))) (some q)) := Bx.mk (by
    have h1 := HW.out.later (below_drewN (Below.refl _ _) (nq + 1))
    have h2 := HX.out.later (below_drewN (Below.refl _ _) (nq + 1))
    exact ⟨h1.setT (T <<< k), h2.aside (kb_setCell _ 2 _) hne', kb_trans (kb_trans HG.out (kb_drewN _ _ _)) (kb_setCell _ 2 _)⟩)
  generalize (((w.alloc (.cells #[.int .i64 b, .int .i64 c] 24)).drewN (nq + 1)).setCell ⟨q, 2, none⟩ (.int .u64 (tv (T <<< k)))) = w2 at *
  clear c0 c1 c2 f2 HW HX HG
  have f0 := HW2.out.1.frozen 0
  have f1 := HW2.out.1.frozen 1
  obtain ⟨c0, c1, c2⟩ := HW2.out.1.cells
  obtain ⟨x0, x1⟩ := HW2.out.2.1.cells
  go_wp2
  go_end0
  exact ⟨rfl, HW2.out.1.setN ⟨b, c⟩, kb_trans HW2.out.2.2 (kb_trans (kb_setCell _ 0 _) (kb_setCell _ 1 _))⟩
set_option maxRecDepth 100000 in
set_option maxHeartbeats 4000000 in
theorem rise_other (q : Nat) (s : Ws) (n : Nn) (w : World) (h : WinB w q s) (hs : s.ok) (hn : okN n = true) (hb : n.b ≠ s.n.b) : Calls Try.prog 33 #[.pointer (some ⟨q, 0, none⟩), nv n] w fun e w' => e = .returned (.tuple #[]) ∧ WinB w' q (riseW s n) ∧ w.grownBy w' (some q) := by
  obtain ⟨c0, c1, c2⟩ := (h.later (below_a (.cells #[.int .i64 n.b, .int .i64 n.c] 24))).cells
  have HW := Bx.mk (h.later (below_a (.cells #[.int .i64 n.b, .int .i64 n.c] 24)))
  have HX : Bx (BoxN 24 w.heap.size n (w.alloc (.cells #[.int .i64 n.b, .int .i64 n.c] 24))) := Bx.mk (hnew _ _ _ rfl)
  have HG : Bx (w.grownBy (w.alloc (.cells #[.int .i64 n.b, .int .i64 n.c] 24)) (some q)) := Bx.mk (kb_below _ (below_a _))
  obtain ⟨n1, n2, n3, n4⟩ := (okN_iff n).1 hn
  obtain ⟨s1, s2, s3, s4⟩ := hs
  have hq := h.lt
  have hne : q ≠ w.heap.size := by omega
  have hne' : w.heap.size ≠ q := by omega
  clear hq h hn
  obtain ⟨b, c⟩ := n
  obtain ⟨⟨B, C⟩, T⟩ := s
  simp only at c0 c1 c2 n1 n2 n3 n4 s1 s2 s3 s4 HX HG HW hb
  unfold riseW nv
  simp only
  rw [if_neg hb]
  have d1 : decide (b = B) = false := decide_eq_false hb
  have f2 := HW.out.frozen 2
  have hb' : ¬ b = B := hb
  clear hb n1 n2 n3 n4 s1 s2 s3 s4
  go_enter Try.func33, Try.ntmps33
  go_wp2
  go_quiet (fail)
  have HW1 : Bx (WinB ((w.alloc (.cells #[.int .i64 b, .int .i64 c] 24)).drewN nq) q ⟨⟨B, C⟩, T⟩ ∧ BoxN 24 w.heap.size ⟨b, c⟩ ((w.alloc (.cells #[.int .i64 b, .int .i64 c] 24)).drewN nq) ∧ w.grownBy ((w.alloc (.cells #[.int .i64 b, .int .i64 c] 24)).drewN nq) (some q)) := Bx.mk (by
    have h1 := HW.out.later (below_drewN (Below.refl _ _) nq)
    have h2 := HX.out.later (below_drewN (Below.refl _ _) nq)
    exact ⟨h1, h2, kb_trans HG.out (kb_drewN _ _ _)⟩)
  generalize (w.alloc (.cells #[.int .i64 b, .int .i64 c] 24)).drewN nq = w1 at *
  clear c0 c1 c2 f2 HW HX HG
  have f2 := HW1.out.1.frozen 2
  obtain ⟨c0, c1, c2⟩ := HW1.out.1.cells
  go_upto_region 4 with fail
  have HW2 : Bx (WinB (w1.setCell ⟨q, 2, none⟩ (.int .u64 0)) q ⟨⟨B, C⟩, 0#64⟩ ∧ BoxN 24 w.heap.size ⟨b, c⟩ (w1.setCell ⟨q, 2, none⟩ (.int .u64 0)) ∧ w.grownBy (w1.setCell ⟨q, 2, none⟩ (.int .u64 0)) (some q)) := Bx.mk ⟨HW1.out.1.setT 0#64, HW1.out.2.1.aside (kb_setCell _ 2 _) hne', kb_trans HW1.out.2.2 (kb_setCell _ 2 _)⟩
  generalize w1.setCell ⟨q, 2, none⟩ (.int .u64 0) = w2 at *
  clear c0 c1 c2 f2 HW1
  have f0 := HW2.out.1.frozen 0
  have f1 := HW2.out.1.frozen 1
  obtain ⟨c0, c1, c2⟩ := HW2.out.1.cells
  obtain ⟨x0, x1⟩ := HW2.out.2.1.cells
  go_wp2
  go_end0
  exact ⟨rfl, HW2.out.1.setN ⟨b, c⟩, kb_trans HW2.out.2.2 (kb_trans (kb_setCell _ 0 _) (kb_setCell _ 1 _))⟩
end Go.Proofs.Ytoohcjdjmafliaa
