/-
  Rows of fields: owned ones, and the walks that copy them.
-/
import Derived.Test.YtgbhckoaabnblaaIh
namespace Go.Proofs.Ytgbhckoaabnblaa
open Go Go.RowKit
/-- The cells of fields. -/
def cells3 : List (Fd × Value) → List Value
  | [] => []
  | x :: r => .int .i64 x.1.s :: .int .i64 x.1.n :: x.2 :: cells3 r
theorem cells3_length (xs : List (Fd × Value)) : (cells3 xs).length = xs.length * 3 := by
  induction xs with
  | nil => rfl
  | cons x r ih => simp only [cells3, List.length_cons, ih]; omega
theorem cells3_snoc (xs : List (Fd × Value)) (x : Fd × Value) : cells3 (xs ++ [x]) = cells3 xs ++ [.int .i64 x.1.s, .int .i64 x.1.n, x.2] := by
  induction xs with
  | nil => rfl
  | cons y r ih => simp only [List.cons_append, cells3, ih]
theorem cells3_get (xs : List (Fd × Value)) (i : Nat) (hi : i < xs.length) (j : Nat) (v : Value) (hj : [Value.int .i64 (xs[i].1).s, .int .i64 (xs[i].1).n, xs[i].2][j]? = some v) : (cells3 xs)[i * 3 + j]? = some v := by
  induction xs generalizing i with
  | nil => simp at hi
  | cons x r ih =>
    rcases i with _ | i
    · rw [Nat.zero_mul, Nat.zero_add]
      match j, hj with
      | 0, hj => simpa [cells3] using hj
      | 1, hj => simpa [cells3] using hj
      | 2, hj => simpa [cells3] using hj
      | j + 3, hj => simp at hj
    · have h := ih i (by simpa using hi) (by simpa using hj)
      rw [show (i + 1) * 3 + j = (i * 3 + j) + 3 by omega]
      simpa [cells3] using h
/-- A row of fields that the call owns. -/
def OwnF (w : World) (base : Nat) (E : TypeId) (v : Value) (xs : List (Fd × Value)) : Prop := w.ownsRow base E 3 v xs.length (cells3 xs)
theorem OwnF.nil (w : World) (base : Nat) (E : TypeId) : OwnF w base E (.slice none 0 0) [] := ⟨rfl, .inl ⟨rfl, rfl⟩⟩
theorem OwnF.later {w w1 : World} {base B : Nat} {E : TypeId} {v : Value} {xs : List (Fd × Value)} (h : OwnF w base E v xs) (hb : Below B w w1) (hB : ∀ g, v.ownBlock = some g → g < B) : OwnF w1 base E v xs := by
  refine ⟨h.1, ?_⟩
  rcases h.2 with h0 | ⟨g, cap, cur, hv, hb', hg, hr⟩
  · exact .inl h0
  · refine .inr ⟨g, cap, cur, hv, hb', ?_, hr⟩
    rw [hb.block g (hB g (by rw [hv]; rfl))]
    exact hg
theorem OwnF.lt {w : World} {base : Nat} {E : TypeId} {v : Value} {xs : List (Fd × Value)} (h : OwnF w base E v xs) : ∀ g, v.ownBlock = some g → g < w.heap.size ∧ base ≤ g := by
  intro g hg
  rcases h.2 with ⟨rfl, _⟩ | ⟨g', cap, cur, rfl, hb, hh, _⟩
  · cases hg
  · injection hg with hg
    subst hg
    exact ⟨(Array.getElem?_eq_some_iff.1 hh).1, hb⟩
theorem OwnF.grown {w w1 : World} {base : Nat} {E : TypeId} {v : Value} {xs : List (Fd × Value)} {row : Option Nat} (h : OwnF w base E v xs) (hg : w.grownBy w1 row) (hne : ∀ g, row = some g → v.ownBlock ≠ some g) : OwnF w1 base E v xs := by
  refine ⟨h.1, ?_⟩
  rcases h.2 with h0 | ⟨g, cap, cur, hv, hb', hh, hr⟩
  · exact .inl h0
  · refine .inr ⟨g, cap, cur, hv, hb', ?_, hr⟩
    rw [hg.block g (Array.getElem?_eq_some_iff.1 hh).1 (fun e => hne g e.symm (by rw [hv]; rfl))]
    exact hh
theorem ownF_ne {w : World} {base base' : Nat} {E : TypeId} {v v' : Value} {xs : List (Fd × Value)} {l : List UInt8} (hE : E ≠ 5) (h : OwnF w base E v xs) (h' : OwnB w base' v' l) : ∀ g, v.ownBlock = some g → v'.ownBlock ≠ some g := by
  intro g hg hg'
  rcases h.2 with ⟨rfl, _⟩ | ⟨g1, cap, cur, rfl, _, hh, _⟩
  · cases hg
  · rcases h'.2 with ⟨rfl, _⟩ | ⟨g2, cap', cur', rfl, _, hh', _⟩
    · cases hg'
    · injection hg with hg
      injection hg' with hg'
      simp only at hg hg'
      subst hg
      subst hg'
      rw [hh] at hh'
      injection hh' with e
      injection e with _ e2
      exact hE e2
theorem ownF_below {w w1 : World} {base : Nat} {E : TypeId} {v : Value} {xs : List (Fd × Value)} (h : OwnF w base E v xs) (hg : w.grownBy w1 v.ownBlock) (hb : base ≤ w.heap.size) : Below base w w1 :=
  ⟨hg.os, hg.tape, hg.output, hg.size, fun k hk => hg.block k (by omega) (fun e => by have := (h.lt k e.symm).2; omega)⟩
/-- Fields below block B. -/
def FldsB (w : World) (B : Nat) (v : Value) (fs : List Fd) : Prop :=
  ∃ a cap, v = .slice a fs.length cap ∧ fs.length ≤ cap ∧ (0 < fs.length → ∃ g o, a = some ⟨g, o, none⟩ ∧ g < B ∧ ∀ i, i < fs.length → ∃ vb, w.rangeAt g (o + i * 3) [.int .i64 (fs.getD i Fd.zero).s, .int .i64 (fs.getD i Fd.zero).n, vb] ∧ Bytes w vb (fs.getD i Fd.zero).b ∧ (0 < (fs.getD i Fd.zero).b.length → ∃ c, vb.ownBlock = some c ∧ c < B))
theorem bytes_below {w w1 : World} {B : Nat} {v : Value} {l : List UInt8} (h : Bytes w v l) (hB : 0 < l.length → ∃ c, v.ownBlock = some c ∧ c < B) (hb : Below B w w1) : Bytes w1 v l := by
  obtain ⟨a, cap, hv, hc, hn, hr⟩ := h
  refine ⟨a, cap, hv, hc, hn, fun hp => ?_⟩
  obtain ⟨c, o, ha, hcell⟩ := hr hp
  obtain ⟨c', hc', hlt⟩ := hB hp
  refine ⟨c, o, ha, fun j hj => ?_⟩
  rw [hv, ha] at hc'
  injection hc' with e
  simp only at e
  subst e
  rw [hb.cell (p := ⟨c, o + j, none⟩) hlt]
  exact hcell j hj
theorem FldsB.later {w w1 : World} {B : Nat} {v : Value} {fs : List Fd} (h : FldsB w B v fs) (hb : Below B w w1) : FldsB w1 B v fs := by
  obtain ⟨a, cap, hv, hc, hr⟩ := h
  refine ⟨a, cap, hv, hc, fun hp => ?_⟩
  obtain ⟨g, o, ha, hlt, hf⟩ := hr hp
  refine ⟨g, o, ha, hlt, fun i hi => ?_⟩
  obtain ⟨vb, h1, h2, h3⟩ := hf i hi
  exact ⟨vb, range_later h1 hb hlt, bytes_below h2 h3 hb, h3⟩
theorem FldsB.off {w : World} {B : Nat} {v : Value} {fs : List Fd} (h : FldsB w B v fs) {p : Nat} (hp : B ≤ p) : FldsN w p v fs := by
  obtain ⟨a, cap, hv, hc, hr⟩ := h
  refine ⟨a, cap, hv, hc, fun hq => ?_⟩
  obtain ⟨g, o, ha, hlt, hf⟩ := hr hq
  refine ⟨g, o, ha, by omega, fun i hi => ?_⟩
  obtain ⟨vb, h1, h2, h3⟩ := hf i hi
  exact ⟨vb, h1, h2, fun h0 e => by obtain ⟨c, e1, e2⟩ := h3 h0; rw [e] at e1; injection e1 with e1; omega⟩
/-- Owned fields read as fields. -/
theorem OwnF.flds {w : World} {base : Nat} {E : TypeId} {v : Value} {xs : List (Fd × Value)} (h : OwnF w base E v xs) (hb : ∀ x ∈ xs, ∃ base', OwnB w base' x.2 x.1.b) : FldsB w w.heap.size v (xs.map (·.1)) := by
  rcases h.2 with ⟨rfl, h0⟩ | ⟨g, cap, cur, rfl, hbg, hg, hn, hm, hs, hc⟩
  · have : xs = [] := List.eq_nil_of_length_eq_zero h0
    subst this
    exact ⟨none, 0, rfl, Nat.le_refl _, fun h => absurd h (by simp)⟩
  · refine ⟨_, cap, by rw [List.length_map], by rw [List.length_map]; exact hn, fun _ => ⟨g, 0, rfl, (Array.getElem?_eq_some_iff.1 hg).1, fun i hi => ?_⟩⟩
    rw [List.length_map] at hi
    have e : (xs.map (·.1)).getD i Fd.zero = xs[i].1 := by rw [List.getD_eq_getElem?_getD, List.getElem?_map, List.getElem?_eq_getElem hi]; rfl
    rw [e]
    obtain ⟨base', ho⟩ := hb xs[i] (List.getElem_mem _)
    refine ⟨xs[i].2, fun j u hj => ?_, ho.bytes, fun h0 => ?_⟩
    · have hlen : i * 3 + j < xs.length * 3 := by
        have : j < 3 := by have := (List.getElem?_eq_some_iff.1 hj).1; simpa using this
        omega
      rw [Nat.zero_add, cell_of_row _ _ _ _ _ _ hg, ← Array.getElem?_toList]
      have h1 : (cur.toList.take (xs.length * 3))[i * 3 + j]? = (cells3 xs)[i * 3 + j]? := by rw [hc]
      rw [List.getElem?_take, if_pos hlen, cells3_get xs i hi j u hj] at h1
      exact h1
    · rcases ho.form with ⟨h1, h2⟩ | ⟨g', cap', h1⟩
      · rw [h2] at h0
        simp at h0
      · rw [h1]
        exact ⟨g', rfl, (ho.lt g' (by rw [h1]; rfl)).1⟩
theorem run_apW (w : World) (base : Nat) (v : Value) (xs : List (Fd × Value)) (hown : OwnF w base 40 v xs) (g : Nat) (s n : Int) (vb : Value) (b : List UInt8) (hr : w.rangeAt g 0 [.int .i64 s, .int .i64 n, vb]) (hv : vb.oneCell' = true) (hn : xs.length ≤ 10000) (hbase : base ≤ w.heap.size) (ty : TypeId) :
    ∃ v' w', (Builtin.append_ #[23, 23] ty #[v, .slice (some ⟨g, 0, none⟩) 1 1]).run Try.prog w = .ok v' w' ∧ OwnF w' base 40 v' (xs ++ [(⟨s, n, b⟩, vb)]) ∧ w.grownBy w' v.ownBlock := by
  have hi : Try.prog.info? 40 = some ((Try.prog.info? 40).getD default) := by kernel_rfl
  obtain ⟨v', w', hrun, h2, h3, _, _⟩ := run_append_own_at (P := Try.prog) w base 23 ty 40 _ (.agg #[.int .i64 0, .int .i64 0, .slice none 0 0]) 3 40 Try.underlying23 hi (by kernel_rfl) (by kernel_rfl) (by kernel_rfl) rfl (by omega) v xs.length (cells3 xs) hown ⟨g, 0, none⟩ 1 1 [.int .i64 s, .int .i64 n, vb] (by simp)
    (fun j u hu => by rw [show (⟨g, 0, none⟩ : Addr).add j = ⟨g, 0 + j, none⟩ by unfold Addr.add; split <;> simp_all]; exact hr j u hu)
    (fun u hu => by
      simp at hu
      rcases hu with rfl | rfl | rfl
      · rfl
      · rfl
      · exact hv) (by simp only [maxLen]; omega) (by omega) hbase
  refine ⟨v', w', hrun, ?_, h3⟩
  unfold OwnF
  rw [List.length_append, cells3_snoc]
  exact h2
theorem step_apW {w : World} {ops : Array Oper} {o : Oper} {a : Act} {K : Act → World → Prop} {Q : Exit → Act → World → Prop} {E : Prop} (hgd : o.guard = none) (sl x : Operand)
    (ho : o.op = .call { callee := .builtin .append, args := #[sl, x], argTypes := #[23, 23] }) (base : Nat) (v : Value) (xs : List (Fd × Value)) (hs : a.eval sl = v) (hown : OwnF w base 40 v xs) (g : Nat) (s n : Int) (vb : Value) (b : List UInt8) (hx : a.eval x = .slice (some ⟨g, 0, none⟩) 1 1) (hr : w.rangeAt g 0 [.int .i64 s, .int .i64 n, vb]) (hv : vb.oneCell' = true)
    (hn : xs.length ≤ 10000) (hbase : base ≤ w.heap.size)
    (h : ∀ v' w', OwnF w' base 40 v' (xs ++ [(⟨s, n, b⟩, vb)]) → w.grownBy w' v.ownBlock → K (a.put o.dst v') w') :
    if Region.wanted o (yielded ops a.tmps) = true then Oper.wp Try.prog o a w K Q else E := by
  have hw : Region.wanted o (yielded ops a.tmps) = true := by simp [Region.wanted, hgd]
  rw [if_pos hw]
  obtain ⟨v', w', hrun, h1, h2⟩ := run_apW w base v xs hown g s n vb b hr hv hn hbase o.type
  unfold Oper.wp
  simp [execOp, ho, resolve, invoke, builtin, hs, hx, hrun, Result.andThen]
  exact h v' w' h1 h2
theorem run_apR (w : World) (base : Nat) (v : Value) (xs : List (Fd × Value)) (hown : OwnF w base 33 v xs) (g : Nat) (s n : Int) (vb : Value) (b : List UInt8) (hr : w.rangeAt g 0 [.int .i64 s, .int .i64 n, vb]) (hv : vb.oneCell' = true) (hn : xs.length ≤ 10000) (hbase : base ≤ w.heap.size) (ty : TypeId) :
    ∃ v' w', (Builtin.append_ #[22, 22] ty #[v, .slice (some ⟨g, 0, none⟩) 1 1]).run Try.prog w = .ok v' w' ∧ OwnF w' base 33 v' (xs ++ [(⟨s, n, b⟩, vb)]) ∧ w.grownBy w' v.ownBlock := by
  have hi : Try.prog.info? 33 = some ((Try.prog.info? 33).getD default) := by kernel_rfl
  obtain ⟨v', w', hrun, h2, h3, _, _⟩ := run_append_own_at (P := Try.prog) w base 22 ty 33 _ (.agg #[.int .i64 0, .int .i64 0, .slice none 0 0]) 3 40 Try.underlying22 hi (by kernel_rfl) (by kernel_rfl) (by kernel_rfl) rfl (by omega) v xs.length (cells3 xs) hown ⟨g, 0, none⟩ 1 1 [.int .i64 s, .int .i64 n, vb] (by simp)
    (fun j u hu => by rw [show (⟨g, 0, none⟩ : Addr).add j = ⟨g, 0 + j, none⟩ by unfold Addr.add; split <;> simp_all]; exact hr j u hu)
    (fun u hu => by
      simp at hu
      rcases hu with rfl | rfl | rfl
      · rfl
      · rfl
      · exact hv) (by simp only [maxLen]; omega) (by omega) hbase
  refine ⟨v', w', hrun, ?_, h3⟩
  unfold OwnF
  rw [List.length_append, cells3_snoc]
  exact h2
theorem step_apR {w : World} {ops : Array Oper} {o : Oper} {a : Act} {K : Act → World → Prop} {Q : Exit → Act → World → Prop} {E : Prop} (hgd : o.guard = none) (sl x : Operand)
    (ho : o.op = .call { callee := .builtin .append, args := #[sl, x], argTypes := #[22, 22] }) (base : Nat) (v : Value) (xs : List (Fd × Value)) (hs : a.eval sl = v) (hown : OwnF w base 33 v xs) (g : Nat) (s n : Int) (vb : Value) (b : List UInt8) (hx : a.eval x = .slice (some ⟨g, 0, none⟩) 1 1) (hr : w.rangeAt g 0 [.int .i64 s, .int .i64 n, vb]) (hv : vb.oneCell' = true)
    (hn : xs.length ≤ 10000) (hbase : base ≤ w.heap.size)
    (h : ∀ v' w', OwnF w' base 33 v' (xs ++ [(⟨s, n, b⟩, vb)]) → w.grownBy w' v.ownBlock → K (a.put o.dst v') w') :
    if Region.wanted o (yielded ops a.tmps) = true then Oper.wp Try.prog o a w K Q else E := by
  have hw : Region.wanted o (yielded ops a.tmps) = true := by simp [Region.wanted, hgd]
  rw [if_pos hw]
  obtain ⟨v', w', hrun, h1, h2⟩ := run_apR w base v xs hown g s n vb b hr hv hn hbase o.type
  unfold Oper.wp
  simp [execOp, ho, resolve, invoke, builtin, hs, hx, hrun, Result.andThen]
  exact h v' w' h1 h2
end Go.Proofs.Ytgbhckoaabnblaa
