/-
  Fields in rows, bytes copied into a writer.
-/
import Derived.Test.YtiengbmnfbbgoaaDoorIg
namespace Go.Proofs.YtiengbmnfbbgoaaDoor
open Go Go.RowKit
/-- Bytes that lie in no writer's block. -/
def BytesN (w : World) (p : Nat) (v : Value) (l : List UInt8) : Prop := Bytes w v l ∧ (0 < l.length → v.ownBlock ≠ some p)
theorem BytesN.grown {w w1 : World} {p : Nat} {v : Value} {l : List UInt8} (h : BytesN w p v l) (hg : w.grownBy w1 (some p)) : BytesN w1 p v l := by
  obtain ⟨⟨a, cap, hv, hc, hn, hr⟩, h2⟩ := h
  refine ⟨⟨a, cap, hv, hc, hn, fun hp => ?_⟩, h2⟩
  obtain ⟨c, o, ha, hcell⟩ := hr hp
  refine ⟨c, o, ha, fun j hj => ?_⟩
  have hlt := World.block_lt_of_cell? _ _ (hcell j hj)
  rw [World.cell?_of_block (hg.block c hlt (fun e => h2 hp (by rw [hv, ha]; exact e)))]
  exact hcell j hj
theorem range_grown {w w1 : World} {p b o : Nat} {cs : List Value} (h : w.rangeAt b o cs) (hg : w.grownBy w1 (some p)) (hne : b ≠ p) : w1.rangeAt b o cs := by
  intro j v hj
  have hlt := World.block_lt_of_cell? _ _ (h j v hj)
  rw [World.cell?_of_block (hg.block b hlt (fun e => hne (by injection e)))]
  exact h j v hj
/-- Nothing. -/
def Fd.zero : Fd := ⟨0, 0, []⟩
/-- A row of fields, outside a writer's block. -/
def FldsN (w : World) (p : Nat) (v : Value) (fs : List Fd) : Prop :=
  ∃ a cap, v = .slice a fs.length cap ∧ fs.length ≤ cap ∧ (0 < fs.length → ∃ g o, a = some ⟨g, o, none⟩ ∧ g ≠ p ∧ ∀ i, i < fs.length → ∃ vb, w.rangeAt g (o + i * 3) [.int .i64 (fs.getD i Fd.zero).s, .int .i64 (fs.getD i Fd.zero).n, vb] ∧ BytesN w p vb (fs.getD i Fd.zero).b)
theorem FldsN.grown {w w1 : World} {p : Nat} {v : Value} {fs : List Fd} (h : FldsN w p v fs) (hg : w.grownBy w1 (some p)) : FldsN w1 p v fs := by
  obtain ⟨a, cap, hv, hc, hr⟩ := h
  refine ⟨a, cap, hv, hc, fun hp => ?_⟩
  obtain ⟨g, o, ha, hne, hf⟩ := hr hp
  refine ⟨g, o, ha, hne, fun i hi => ?_⟩
  obtain ⟨vb, h1, h2⟩ := hf i hi
  exact ⟨vb, range_grown h1 hg hne, h2.grown hg⟩
theorem IsW.setE {w : World} {p : Nat} {l : List UInt8} {e : Int} (h : IsW w p (l, e)) (e' : Int) : IsW (w.setCell ⟨p, 1025, none⟩ (.int .i64 e')) p (l, e') := by
  obtain ⟨out, h1, h2, h3, h4⟩ := h
  exact ⟨out, h1, h2, h3, by rw [heap_setCell_same _ _ _ _ _ _ h4, wrC_setE _ _ _ _ h1]⟩
theorem IsW.thaw {w : World} {p : Nat} {l : List UInt8} {e : Int} (h : IsW w p (l, e)) (i : Nat) : w.frozen? ⟨p, i, none⟩ = false := by
  obtain ⟨out, h1, h2, h3, h4⟩ := h
  exact frozen_of_row _ _ _ _ _ h4
/-- A writer into which bytes were copied. -/
def IsC (w : World) (p : Nat) (l ps : List UInt8) (e : Int) : Prop :=
  ∃ out : List UInt8, out.length = 1024 ∧ l.length + ps.length ≤ 1024 ∧ out.take (l.length + ps.length) = l ++ ps ∧ w.heap[p]? = some (.cells (wrC out l.length e) 109 (0, 0))
theorem IsC.used {w : World} {p : Nat} {l ps : List UInt8} {e : Int} (h : IsC w p l ps e) : w.cell? ⟨p, 1024, none⟩ = some (.int .i64 (l.length : Int)) := by
  obtain ⟨out, h1, h2, h3, h4⟩ := h
  rw [cell_of_row _ _ _ _ _ _ h4, wrC_used _ _ _ h1]
theorem IsC.thaw {w : World} {p : Nat} {l ps : List UInt8} {e : Int} (h : IsC w p l ps e) (i : Nat) : w.frozen? ⟨p, i, none⟩ = false := by
  obtain ⟨out, h1, h2, h3, h4⟩ := h
  exact frozen_of_row _ _ _ _ _ h4
theorem IsC.set {w : World} {p : Nat} {l ps : List UInt8} {e : Int} (h : IsC w p l ps e) : IsW (w.setCell ⟨p, 1024, none⟩ (.int .i64 ((l.length + ps.length : Nat) : Int))) p (l ++ ps, e) := by
  obtain ⟨out, h1, h2, h3, h4⟩ := h
  refine ⟨out, h1, by rw [List.length_append]; exact h2, by rw [List.length_append]; exact h3, ?_⟩
  rw [heap_setCell_same _ _ _ _ _ _ h4, wrC_setN _ _ _ _ h1, List.length_append]
theorem wrC_mid (out ps : List UInt8) (n o : Nat) (e : Int) (h : out.length = 1024) (hl : o + ps.length ≤ 1024) :
    ((wrC out n e).toList.take o ++ (u8s ps).toList ++ (wrC out n e).toList.drop (o + ps.length)).toArray = wrC (out.take o ++ ps ++ out.drop (o + ps.length)) n e := by
  have h1 : (wrC out n e).toList = (out.map fun x => Value.int .u8 (ub x)) ++ [.int .i64 (n : Int), .int .i64 e] := by simp [wrC, u8s]
  rw [h1, List.take_append_of_le_length (by simp; omega), List.drop_append_of_le_length (by simp; omega)]
  simp [wrC, u8s, List.map_take, List.map_drop]
theorem run_copyW (w : World) (p : Nat) (l : List UInt8) (er : Int) (hW : IsW w p (l, er)) (v : Value) (ps : List UInt8) (hv : Bytes w v ps) (h0 : 0 < ps.length) (hl : l.length + ps.length ≤ 1024) (u m : Nat) (hu : l.length = u) (hm : ps.length = m) (ty : TypeId) :
    ∃ w', (Builtin.copy_ #[22, 22] ty #[.slice (some ⟨p, u, none⟩) (1024 - u) (1024 - u), v]).run Tryd.prog w = .ok (.int .i64 (m : Int)) w' ∧ IsC w' p l ps er ∧ w.grownBy w' (some p) := by
  obtain ⟨out, h1, h2, h3, h4⟩ := hW
  obtain ⟨ad, cap, rfl, hc, hz, hr⟩ := hv
  obtain ⟨c, off, rfl, hcell⟩ := hr h0
  subst hu
  subst hm
  simp only at h2 h3 h4
  have lc : (u8s ps).toList.length = ps.length := by rw [Array.length_toList, u8s_size]
  have hrun := run_copy_row (P := Tryd.prog) w 22 22 ty 5 p l.length (1024 - l.length) (1024 - l.length) ⟨c, off, none⟩ ps.length cap _ _ (u8s ps).toList Tryd.underlying22 (by kernel_rfl) h4 (by rw [lc]; exact (Nat.min_eq_left (by omega)).symm)
    (fun j x hu => by
      have hj : j < ps.length := by have := (List.getElem?_eq_some_iff.1 hu).1; omega
      rw [Array.getElem?_toList, u8s_get _ _ hj] at hu
      rw [show (⟨c, off, none⟩ : Addr).add j = ⟨c, off + j, none⟩ by simp [Addr.add], hcell j hj, ← hu])
    (by rw [lc, wrC_size _ _ _ h1]; omega)
    (fun x hx => (Array.all_eq_true'.1 (one_u8s ps)) x (by simpa using hx))
  rw [lc, wrC_mid _ _ _ _ _ h1 hl] at hrun
  refine ⟨_, hrun, ⟨out.take l.length ++ ps ++ out.drop (l.length + ps.length), by simp; omega, hl, ?_, ?_⟩, ?_⟩
  · rw [h3, List.take_append_of_le_length (by simp), List.take_of_length_le (by simp)]
  · show (w.heap.modify p _)[p]? = _; rw [Array.getElem?_modify, if_pos rfl, h4]; rfl
  · exact ⟨rfl, rfl, rfl, by simp [World.setRow], fun i _ hne => setRow_other w p i _ (fun e => hne (by rw [e]))⟩
theorem step_copyW {w : World} {ops : Array Oper} {o : Oper} {a : Act} {K : Act → World → Prop} {Q : Exit → Act → World → Prop} {E : Prop} (hgd : o.guard = none) (d s : Operand)
    (ho : o.op = .call { callee := .builtin .copy, args := #[d, s], argTypes := #[22, 22] }) (p : Nat) (l : List UInt8) (er : Int) (hW : IsW w p (l, er)) (v : Value) (ps : List UInt8) (u m : Nat) (hu : l.length = u) (hm : ps.length = m) (hd : a.eval d = .slice (some ⟨p, u, none⟩) (1024 - u) (1024 - u)) (hs : a.eval s = v) (hv : Bytes w v ps)
    (h0 : 0 < ps.length) (hl : l.length + ps.length ≤ 1024)
    (h : ∀ w', IsC w' p l ps er → w.grownBy w' (some p) → K (a.put o.dst (.int .i64 (m : Int))) w') :
    if Region.wanted o (yielded ops a.tmps) = true then Oper.wp Tryd.prog o a w K Q else E := by
  have hw : Region.wanted o (yielded ops a.tmps) = true := by simp [Region.wanted, hgd]
  rw [if_pos hw]
  obtain ⟨w', hrun, h1, h2⟩ := run_copyW w p l er hW v ps hv h0 hl u m hu hm o.type
  unfold Oper.wp
  simp [execOp, ho, resolve, invoke, builtin, hs, hd, hrun, Result.andThen]
  exact h w' h1 h2
theorem putS_rfs (l : List UInt8) (e : Int) (f : Fd) : putS (l, e) f = if rfs (l, e) f = 0 then (l ++ enc f, 0) else (l, rfs (l, e) f) := by
  unfold putS rfs
  by_cases h1 : e = 0
  · subst h1
    by_cases h2 : chk f = 0
    · by_cases h3 : 1024 < l.length + (enc f).length
      · simp [h2, h3]
      · simp [h2, h3]
    · simp [h2]
  · simp [h1]
theorem rfs_zero {l : List UInt8} {e : Int} {f : Fd} (h : rfs (l, e) f = 0) : e = 0 ∧ chk f = 0 ∧ l.length + (enc f).length ≤ 1024 := by
  unfold rfs at h
  by_cases h1 : e = 0
  · subst h1
    by_cases h2 : chk f = 0
    · by_cases h3 : 1024 < l.length + (enc f).length
      · simp [h2, h3] at h
      · exact ⟨rfl, h2, by omega⟩
    · simp [h2] at h
  · simp [h1] at h
theorem enc_pos {f : Fd} (h : chk f = 0) : 0 < (enc f).length := by
  unfold enc
  rcases chk_ok h with ⟨h4, hn, hl⟩ | ⟨h0, h3, hb, hn0, hnm⟩
  · rw [if_pos h4, List.length_append, beN_length]; omega
  · rw [if_neg (by omega), beN_length]
    have := wid_le f.s
    omega
theorem putS_stuck {st : List UInt8 × Int} (h : st.2 ≠ 0) (f : Fd) : putS st f = st := by unfold putS; rw [if_pos h]
theorem fold_stuck (fs : List Fd) {st : List UInt8 × Int} (h : st.2 ≠ 0) : fs.foldl putS st = st := by
  induction fs with
  | nil => rfl
  | cons f fs ih => rw [List.foldl_cons, putS_stuck h, ih]
theorem fold_take (fs : List Fd) (st : List UInt8 × Int) (k : Nat) (hk : k < fs.length) : (fs.take (k + 1)).foldl putS st = putS ((fs.take k).foldl putS st) (fs.getD k Fd.zero) := by
  rw [List.take_add_one, List.foldl_append, List.getElem?_eq_getElem hk, List.getD_eq_getElem?_getD, List.getElem?_eq_getElem hk]
  rfl
theorem fold_from (fs : List Fd) (st : List UInt8 × Int) (k : Nat) : fs.foldl putS st = (fs.drop k).foldl putS ((fs.take k).foldl putS st) := by
  rw [← List.foldl_append, List.take_append_drop]
end Go.Proofs.YtiengbmnfbbgoaaDoor
