/-
  Parts, and what stays while a digest runs.
-/
import Derived.Test.YtmfhdhggpepbbaaDoorAd
namespace Go.Proofs.YtmfhdhggpepbbaaDoor
open Go Go.RowKit
theorem own_parts {w1 : World} {base : Nat} {v : Value} {xs : List Value} {qs : List (List UInt8)} (h : OwnP w1 base v xs) (hv : Vals w1 xs qs) : Parts w1 v qs := by
  rcases h.2 with ⟨hn, h0⟩ | ⟨g, cap, cur, hv', hb, hg, hc1, hc2, hc3, hc4⟩
  · have e : qs.length = 0 := by rw [← hv.1, h0]
    exact ⟨none, 0, by rw [hn, e], fun hp => by omega⟩
  · refine ⟨some ⟨g, 0, none⟩, cap, by rw [hv', ← hv.1], fun hp => ⟨g, 0, rfl, fun j hj => ⟨xs.getD j undef, ?_, hv.2 j (by rw [hv.1]; exact hj)⟩⟩⟩
    have hj' : j < xs.length := by rw [hv.1]; exact hj
    rw [cell_of_row _ _ _ _ _ _ hg, Nat.zero_add, ← Array.getElem?_toList]
    have h1 : (cur.toList.take (xs.length * 1))[j]? = xs[j]? := by rw [hc4]
    rw [List.getElem?_take, if_pos (by omega)] at h1
    rw [h1]
    simp [hj']
theorem one_part {w : World} {v : Value} {bs : List UInt8} (h : Bytes w v bs) : Parts (w.alloc (.cells #[v] 67)) (.slice (some ⟨w.heap.size, 0, none⟩) 1 1) [bs] := by
  refine ⟨_, 1, rfl, fun _ => ⟨w.heap.size, 0, rfl, fun j hj => ?_⟩⟩
  have hj0 : j = 0 := by simp at hj; omega
  subst hj0
  exact ⟨v, by rw [cell_of_row _ _ _ _ _ _ (hnew _ _ _ rfl)]; rfl, h.later (below_a _)⟩
theorem range_u8 {w : World} {b : Nat} {l : List UInt8} {t : TypeId} (h : w.heap[b]? = some (.cells (u8s l) t (0, 0))) : w.rangeAt b 0 (u8s l).toList := fun j v hv => by
  rw [cell_of_row _ _ _ _ _ _ h, Nat.zero_add, ← Array.getElem?_toList]
  exact hv
theorem range_below {B : Nat} {w w1 : World} {b o : Nat} {vs : List Value} (h : w.rangeAt b o vs) (hb : Below B w w1) (hB : b < B) : w1.rangeAt b o vs := fun j v hv => by
  rw [hb.cell (p := ⟨b, o + j, none⟩) hB]
  exact h j v hv
/-- What holds all through a statement: nothing that was there has changed. -/
structure Sp (w0 : World) (b : Nat) (vs : List Value) (W : World) : Prop where
  below : Below w0.heap.size w0 W
  rng : W.rangeAt b 0 vs
theorem Sp.s {w0 W : World} {b : Nat} {vs : List Value} (h : Sp w0 b vs W) : W.rangeAt b 0 vs ∧ Bx (Sp w0 b vs W) := ⟨h.rng, ⟨h⟩⟩
theorem Sp.later {w0 W W1 : World} {b : Nat} {vs : List Value} (h : Sp w0 b vs W) (hb : Below W.heap.size W W1) (hB : b < w0.heap.size) : Sp w0 b vs W1 :=
  ⟨h.below.trans (hb.mono h.below.size), range_below h.rng (hb.mono h.below.size) hB⟩
/-- Bytes as a list of cells. -/
def vs8 (l : List UInt8) : List Value := l.map fun x => Value.int .u8 (ub x)
theorem u8s_vs (l : List UInt8) : u8s l = (vs8 l).toArray := rfl
theorem vs8_length (l : List UInt8) : (vs8 l).length = l.length := by simp [vs8]
end Go.Proofs.YtmfhdhggpepbbaaDoor
namespace Go.Proofs.YtmfhdhggpepbbaaDoor
open Go Go.RowKit
/-- Behind w3 there are a running digest, of these bytes, and a copy, if there is one. -/
structure Dy (w3 : World) (bs : List UInt8) (c : Option (Nat × List UInt8)) (W : World) : Prop where
  below : Below w3.heap.size w3 W
  took : Took W w3.heap.size 102 bs W
  cp : ∀ p, c = some p → w3.heap.size < p.1 ∧ Took W p.1 102 p.2 W
theorem Took.lt {w W : World} {b : Nat} {T : TypeId} {bs : List UInt8} (h : Took w b T bs W) : b < W.heap.size := by
  obtain ⟨ws, rest, h1, _⟩ := h
  exact (Array.getElem?_eq_some_iff.1 h1).1
theorem Took.stays {w W W1 : World} {b b' : Nat} {T : TypeId} {bs : List UInt8} (h : Took w b T bs W) (hk : W.grownBy W1 (some b')) (hne : b ≠ b') : Took W1 b T bs W1 := by
  have hl := h.lt
  obtain ⟨ws, rest, h1, h2, _⟩ := h
  exact ⟨ws, rest, by rw [hk.block _ hl (by intro e; injection e with e; exact hne e)]; exact h1, h2, kb_refl _ _⟩
theorem Took.later {w W W1 : World} {b : Nat} {T : TypeId} {bs : List UInt8} (h : Took w b T bs W) (hb : Below W.heap.size W W1) : Took W1 b T bs W1 := by
  have hl := h.lt
  obtain ⟨ws, rest, h1, h2, _⟩ := h
  exact ⟨ws, rest, by rw [hb.block _ hl]; exact h1, h2, kb_refl _ _⟩
theorem Dy.later {w3 W W1 : World} {bs : List UInt8} {c : Option (Nat × List UInt8)} (h : Dy w3 bs c W) (hb : Below W.heap.size W W1) : Dy w3 bs c W1 :=
  ⟨h.below.trans (hb.mono h.below.size), h.took.later hb, fun p hp => ⟨(h.cp p hp).1, (h.cp p hp).2.later hb⟩⟩
theorem below_kb {B b : Nat} {w W W1 : World} (h : Below B w W) (hB : B ≤ W.heap.size) (hk : W.grownBy W1 (some b)) (hb : B ≤ b) : Below B w W1 :=
  ⟨hk.os.trans h.os, hk.tape.trans h.tape, hk.output.trans h.output, Nat.le_trans h.size hk.size, fun i hi => (hk.block i (by omega) (by intro e; injection e with e; omega)).trans (h.block i hi)⟩
theorem Dy.add {w3 W W1 : World} {bs bs' : List UInt8} {c : Option (Nat × List UInt8)} (h : Dy w3 bs c W) (ht : Took W w3.heap.size 102 bs' W1) : Dy w3 bs' c W1 :=
  ⟨below_kb h.below h.below.size ht.kept (Nat.le_refl _), ht.self, fun p hp => ⟨(h.cp p hp).1, (h.cp p hp).2.stays ht.kept (by have := (h.cp p hp).1; omega)⟩⟩
theorem Dy.addc {w3 W W1 : World} {bs cs cs' : List UInt8} {b : Nat} (h : Dy w3 bs (some (b, cs)) W) (ht : Took W b 102 cs' W1) : Dy w3 bs (some (b, cs')) W1 :=
  have hp := h.cp _ rfl
  ⟨below_kb h.below h.below.size ht.kept (by have := hp.1; simp only at this; omega), h.took.stays ht.kept (by have := hp.1; simp only at this; omega), fun p hq => by injection hq with hq; subst hq; exact ⟨hp.1, ht.self⟩⟩
theorem Dy.cut {w3 W : World} {bs : List UInt8} {c : Option (Nat × List UInt8)} (h : Dy w3 bs c W) : Dy w3 bs none W := ⟨h.below, h.took, fun _ hp => by cases hp⟩
/-- One part, in a slice that is made for the call. -/
theorem one_at {w W : World} {v : Value} {bs : List UInt8} (h : Bytes w v bs) (hb : Below w.heap.size w W) (b : Nat) (hB : w.heap.size ≤ b) (hB2 : b < W.heap.size) : PartsAt (W.alloc (.cells #[v] 67)) b (.slice (some ⟨W.heap.size, 0, none⟩) 1 1) [bs] := by
  refine ⟨_, 1, rfl, fun _ => ⟨W.heap.size, 0, by omega, rfl, fun j hj => ?_⟩⟩
  have hj0 : j = 0 := by simp at hj; omega
  subst hj0
  exact ⟨v, by rw [cell_of_row _ _ _ _ _ _ (hnew _ _ _ rfl)]; rfl, h.apart (hb.trans ((below_a _).mono hb.size)) b hB⟩
/-- What stays: the parts, all bytes, the program's table and the document's. -/
structure Stt (w3 : World) (Tb : Nat) (tbl : List Value) (vo va : Value) (qs : List (List UInt8)) : Prop where
  parts : Parts w3 vo qs
  all : Bytes w3 va qs.flatten
  tab : Tab w3
  g : 1 < w3.heap.size
  row : w3.heap[Tb]? = some (.cells tbl.toArray 95 (0, 0))
  lt : Tb < w3.heap.size
  is : u32s (kTab ++ hTab) = tbl.toArray
  few : qs.length ≤ 12 ∧ qs.flatten.length ≤ 1200
theorem Stt.rng {w3 W : World} {Tb : Nat} {tbl : List Value} {vo va : Value} {qs : List (List UInt8)} (h : Stt w3 Tb tbl vo va qs) (hb : Below w3.heap.size w3 W) : W.rangeAt Tb 0 tbl := fun j v hv => by
  rw [hb.cell (p := ⟨Tb, 0 + j, none⟩) h.lt, cell_of_row _ _ _ _ _ _ h.row, Nat.zero_add, ← Array.getElem?_toList]
  exact hv
theorem flat_take (qs : List (List UInt8)) (m : Nat) : qs.flatten.take (qs.take m).flatten.length = (qs.take m).flatten := by
  have h : qs.flatten = (qs.take m).flatten ++ (qs.drop m).flatten := by rw [← List.flatten_append, List.take_append_drop]
  rw [h, List.take_left']
  rfl
theorem Stt.ref {w3 : World} {Tb : Nat} {tbl : List Value} {vo va : Value} {qs : List (List UInt8)} (st : Stt w3 Tb tbl vo va qs) {W : World} (_hb : Below w3.heap.size w3 W) {x : Value} {ps : List UInt8} (hx : Bytes W x ps) (hl : ps.length ≤ 10000) : Calls Tryd.prog 74 #[.agg tbl.toArray, x] W fun e W' => e = .returned (.agg (vs8 (sha ps)).toArray) ∧ Below W.heap.size W W' := by
  rw [← st.is, ← u8s_vs]
  exact rsum_any ps x W hx (by omega)
theorem Stt.sum {w3 : World} {Tb : Nat} {tbl : List Value} {vo va : Value} {qs : List (List UInt8)} (st : Stt w3 Tb tbl vo va qs) {W : World} (hb : Below w3.heap.size w3 W) {b : Nat} {bs : List UInt8} (ht : Took W b 102 bs W) (hl : bs.length ≤ 10000) : Calls Tryd.prog 55 #[.pointer (some ⟨b, 0, none⟩)] W fun e W' => e = .returned (.agg (vs8 (sha bs)).toArray) ∧ Below W.heap.size W W' := by
  rw [← u8s_vs]
  exact sum_any b bs W ht (by omega) (st.tab.later hb st.g) (Nat.lt_of_lt_of_le st.g hb.size)
theorem Stt.add {w3 : World} {Tb : Nat} {tbl : List Value} {vo va : Value} {qs : List (List UInt8)} (st : Stt w3 Tb tbl vo va qs) {W : World} (hb : Below w3.heap.size w3 W) {b : Nat} {bs ps : List UInt8} {x : Value} (hB : w3.heap.size ≤ b) (ht : Took W b 102 bs W) (hx : Bytes w3 x ps) (hl : bs.length ≤ 10000) (hl2 : ps.length ≤ 10000) :
    Calls Tryd.prog 54 #[.pointer (some ⟨b, 0, none⟩), .slice (some ⟨W.heap.size, 0, none⟩) 1 1] (W.alloc (.cells #[x] 67)) fun e W' => e = .returned (.pointer (some ⟨b, 0, none⟩)) ∧ Took (W.alloc (.cells #[x] 67)) b 102 (bs ++ ps) W' := by
  have h := add_any b bs [ps] _ _ (ht.later (below_a (.cells #[x] 67))) (one_at hx hb b hB ht.lt) (by simp) (by rw [List.flatten_singleton]; omega) (st.tab.later (hb.trans ((below_a _).mono hb.size)) st.g) (by have := st.g; omega)
  rw [List.flatten_singleton] at h
  exact h
theorem eqv (l : List UInt8) (hl : l.length = 32) (W : World) : (Op.equalIn 10000 58 (.agg (vs8 l).toArray) (.agg (vs8 l).toArray)).run Tryd.prog W = .ok true W := by
  rw [← u8s_vs, eq32 l l hl hl]; simp
end Go.Proofs.YtmfhdhggpepbbaaDoor
