/-
  Slices of bytes that a call owns, and what is appended to them.
-/
import Derived.Test.YtkfgpnigeknhmaaDoorWi
import Derived.Maps.AppendAt
import Derived.Laws.AppendOwnNone
import Derived.Lib.BufferRead
import Derived.Laws.IdiomStrings
import Derived.RegionTactic
namespace Go.Proofs.YtkfgpnigeknhmaaDoor
open Go Go.RowKit
/-- Bytes behind a slice. -/
def Bytes (w : World) (v : Value) (ps : List UInt8) : Prop :=
  ∃ a cap, v = .slice a ps.length cap ∧ ps.length ≤ cap ∧ (a = none → cap = 0) ∧ (0 < ps.length → ∃ c o, a = some ⟨c, o, none⟩ ∧ ∀ j, j < ps.length → w.cell? ⟨c, o + j, none⟩ = some (.int .u8 (ub (ps.getD j 0))))
theorem Bytes.at_ {w : World} {v : Value} {ps : List UInt8} (h : Bytes w v ps) (b : Nat) (hb : w.heap.size ≤ b) : BytesAt w b v ps := by
  obtain ⟨a, cap, hv, hc, _, hr⟩ := h
  refine ⟨a, cap, hv, hc, fun hp => ?_⟩
  obtain ⟨c, o, ha, hcell⟩ := hr hp
  have := World.block_lt_of_cell? _ _ (hcell 0 hp)
  exact ⟨c, o, by simp only at this; omega, ha, hcell⟩
theorem Bytes.later {w w1 : World} {v : Value} {ps : List UInt8} (h : Bytes w v ps) (hb : Below w.heap.size w w1) : Bytes w1 v ps := by
  obtain ⟨a, cap, hv, hc, hn, hr⟩ := h
  refine ⟨a, cap, hv, hc, hn, fun hp => ?_⟩
  obtain ⟨c, o, ha, hcell⟩ := hr hp
  refine ⟨c, o, ha, fun j hj => ?_⟩
  have := World.block_lt_of_cell? _ _ (hcell j hj)
  rw [hb.cell (p := ⟨c, o + j, none⟩) this]
  exact hcell j hj
/-- Bytes in a row that the call owns. -/
def OwnB (w : World) (base : Nat) (v : Value) (l : List UInt8) : Prop := w.ownsRow base 5 1 v l.length (u8s l).toList
theorem OwnB.bytes {w : World} {base : Nat} {v : Value} {l : List UInt8} (h : OwnB w base v l) : Bytes w v l := by
  rcases h.2 with ⟨rfl, h0⟩ | ⟨g, cap, cur, rfl, hb, hg, hn, hm, hs, hc⟩
  · refine ⟨none, 0, by rw [h0], by omega, fun _ => rfl, fun hp => by omega⟩
  · refine ⟨_, cap, rfl, hn, (fun hx => by cases hx), fun _ => ⟨g, 0, rfl, fun j hj => ?_⟩⟩
    rw [cell_of_row _ _ _ _ _ _ hg, Nat.zero_add, ← Array.getElem?_toList]
    have h1 : (cur.toList.take (l.length * 1))[j]? = (u8s l).toList[j]? := by rw [hc]
    rw [List.getElem?_take, if_pos (by omega), Array.getElem?_toList (xs := u8s l), u8s_get l j hj] at h1
    exact h1
theorem OwnB.later {w w1 : World} {base B : Nat} {v : Value} {l : List UInt8} (h : OwnB w base v l) (hb : Below B w w1) (hB : ∀ g, v.ownBlock = some g → g < B) : OwnB w1 base v l := by
  refine ⟨h.1, ?_⟩
  rcases h.2 with h0 | ⟨g, cap, cur, hv, hb', hg, hr⟩
  · exact .inl h0
  · refine .inr ⟨g, cap, cur, hv, hb', ?_, hr⟩
    rw [hb.block g (hB g (by rw [hv]; rfl))]
    exact hg
theorem OwnB.lt {w : World} {base : Nat} {v : Value} {l : List UInt8} (h : OwnB w base v l) : ∀ g, v.ownBlock = some g → g < w.heap.size ∧ base ≤ g := by
  intro g hg
  rcases h.2 with ⟨rfl, _⟩ | ⟨g', cap, cur, rfl, hb, hh, _⟩
  · cases hg
  · injection hg with hg
    subst hg
    exact ⟨(Array.getElem?_eq_some_iff.1 hh).1, hb⟩
theorem OwnB.nil (w : World) (base : Nat) : OwnB w base (.slice none 0 0) [] := ⟨rfl, .inl ⟨rfl, rfl⟩⟩
theorem own_below {w w1 : World} {base : Nat} {v : Value} {l : List UInt8} (h : OwnB w base v l) (hg : w.grownBy w1 v.ownBlock) (hb : base ≤ w.heap.size) : Below base w w1 :=
  ⟨hg.os, hg.tape, hg.output, hg.size, fun i hi => hg.block i (by omega) (fun e => by have := (h.lt i e.symm).2; omega)⟩
theorem run_ap (w : World) (base : Nat) (v : Value) (l : List UInt8) (hown : OwnB w base v l) (x : Value) (ps : List UInt8) (hx : Bytes w x ps) (hn : l.length + ps.length ≤ 140737488355328) (hbase : base ≤ w.heap.size) (ty : TypeId) :
    ∃ v' w', (Builtin.append_ #[23, 23] ty #[v, x]).run Tryd.prog w = .ok v' w' ∧ OwnB w' base v' (l ++ ps) ∧ w.grownBy w' v.ownBlock ∧ (v'.ownBlock = v.ownBlock ∨ v'.ownBlock = some w.heap.size) := by
  have hi : Tryd.prog.info? 5 = some ((Tryd.prog.info? 5).getD default) := by kernel_rfl
  obtain ⟨a, cap, rfl, hc, hnone, hr⟩ := hx
  rcases a with _ | ad
  · have h0 : ps = [] := by have := hnone rfl; exact List.eq_nil_of_length_eq_zero (by omega)
    have hz := hnone rfl
    subst h0
    subst hz
    refine ⟨v, w, ?_, by rw [List.append_nil]; exact hown, World.grownBy.refl w _, .inl rfl⟩
    exact run_append_owned_none (P := Tryd.prog) (w := w) base 23 ty 5 _ 1 Tryd.underlying23 hi v l.length _ hown
  · have hnews : ∀ j u, (u8s ps).toList[j]? = some u → w.cell? (ad.add j) = some u := by
      intro j u hu
      have hj : j < ps.length := by have := (List.getElem?_eq_some_iff.1 hu).1; simpa [u8s_size] using this
      obtain ⟨c, o, ha, hcell⟩ := hr (by omega)
      injection ha with ha
      subst ha
      rw [Array.getElem?_toList, u8s_get ps j hj] at hu
      rw [show (⟨c, o, none⟩ : Addr).add j = ⟨c, o + j, none⟩ by unfold Addr.add; split <;> simp_all, hcell j hj]
      exact hu
    obtain ⟨v', w', hrun, h2, h3, _, h5⟩ := run_append_own_at (P := Tryd.prog) w base 23 ty 5 _ (.int .u8 0) 1 1 Tryd.underlying23 hi (by kernel_rfl) (by kernel_rfl) (by kernel_rfl) rfl (by omega) v l.length _ hown ad ps.length cap (u8s ps).toList (by rw [Array.length_toList, u8s_size]; omega) hnews
      (fun u hu => (Array.all_eq_true'.1 (one_u8s ps)) u (by simpa using hu)) (by simp only [maxLen]; omega) (by omega) hbase
    refine ⟨v', w', hrun, ?_, h3, h5⟩
    unfold OwnB
    rw [List.length_append]
    have e : (u8s (l ++ ps)).toList = (u8s l).toList ++ (u8s ps).toList := by simp [u8s]
    rw [e]
    exact h2
/-- At the list of a plain region's operations. -/
theorem wpList_ap {w : World} {ops : Array Oper} {rest : List Oper} {o : Oper} {a : Act} {Q : Exit → Act → World → Prop} (hgd : o.guard = none) (s x : Operand)
    (ho : o.op = .call { callee := .builtin .append, args := #[s, x], argTypes := #[23, 23] }) (base : Nat) (v : Value) (l : List UInt8) (hs : a.eval s = v) (hown : OwnB w base v l) (xv : Value) (ps : List UInt8) (hx : a.eval x = xv) (hb : Bytes w xv ps)
    (hn : l.length + ps.length ≤ 140737488355328) (hbase : base ≤ w.heap.size)
    (h : ∀ v' w', OwnB w' base v' (l ++ ps) → w.grownBy w' v.ownBlock → (v'.ownBlock = v.ownBlock ∨ v'.ownBlock = some w.heap.size) → wpList Tryd.prog ops Q rest (a.put o.dst v') w') : wpList Tryd.prog ops Q (o :: rest) a w := by
  refine wpList_plain hgd fun K hK => ?_
  obtain ⟨v', w', hrun, h1, h2, h3⟩ := run_ap w base v l hown xv ps hb hn hbase o.type
  unfold Oper.wp
  simp [execOp, ho, resolve, invoke, builtin, hs, hx, hrun, Result.andThen]
  exact hK _ _ (h v' w' h1 h2 h3)
/-- At a step of a region that draws its order. -/
theorem step_ap {w : World} {ops : Array Oper} {o : Oper} {a : Act} {K : Act → World → Prop} {Q : Exit → Act → World → Prop} {E : Prop} (hgd : o.guard = none) (s x : Operand)
    (ho : o.op = .call { callee := .builtin .append, args := #[s, x], argTypes := #[23, 23] }) (base : Nat) (v : Value) (l : List UInt8) (hs : a.eval s = v) (hown : OwnB w base v l) (xv : Value) (ps : List UInt8) (hx : a.eval x = xv) (hb : Bytes w xv ps)
    (hn : l.length + ps.length ≤ 140737488355328) (hbase : base ≤ w.heap.size)
    (h : ∀ v' w', OwnB w' base v' (l ++ ps) → w.grownBy w' v.ownBlock → (v'.ownBlock = v.ownBlock ∨ v'.ownBlock = some w.heap.size) → K (a.put o.dst v') w') :
    if Region.wanted o (yielded ops a.tmps) = true then Oper.wp Tryd.prog o a w K Q else E := by
  have hw : Region.wanted o (yielded ops a.tmps) = true := by simp [Region.wanted, hgd]
  rw [if_pos hw]
  obtain ⟨v', w', hrun, h1, h2, h3⟩ := run_ap w base v l hown xv ps hb hn hbase o.type
  unfold Oper.wp
  simp [execOp, ho, resolve, invoke, builtin, hs, hx, hrun, Result.andThen]
  exact h v' w' h1 h2 h3
/-- 'string(v)'. -/
theorem run_str (w : World) (v : Value) (ps : List UInt8) (h : Bytes w v ps) : (convert 23 9 v).run Tryd.prog w = .ok (.string ⟨ps.toArray⟩) w := by
  obtain ⟨a, cap, rfl, hc, hnone, hr⟩ := h
  rcases a with _ | ad
  · have h0 : ps = [] := by have := hnone rfl; exact List.eq_nil_of_length_eq_zero (by omega)
    subst h0
    exact Lib.run_convert_nil_bytes w _ _ 5 cap Tryd.underlying23 Tryd.underlying5 Tryd.underlying9
  · refine run_convert_bytes_back w _ _ 5 ad cap ps Tryd.underlying23 Tryd.underlying5 Tryd.underlying9 (fun j hj => ?_)
    obtain ⟨c, o, ha, hcell⟩ := hr (by omega)
    injection ha with ha
    subst ha
    rw [show (⟨c, o, none⟩ : Addr).add j = ⟨c, o + j, none⟩ by unfold Addr.add; split <;> simp_all, hcell j hj]
    simp [ub, hj]
end Go.Proofs.YtkfgpnigeknhmaaDoor
