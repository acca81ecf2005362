/-
  The walks of a reader: its parts.
-/
import Derived.Test.YtiengbmnfbbgoaaDoorIh
namespace Go.Proofs.YtiengbmnfbbgoaaDoor
open Go Go.RowKit
/-- A reader, at block q. -/
def IsR (w : World) (q : Nat) (l : List UInt8) (e : Int) : Prop := ∃ v, w.heap[q]? = some (.cells #[v, .int .i64 e] 147 (0, 0)) ∧ BytesN w q v l
theorem IsR.lt {w : World} {q : Nat} {l : List UInt8} {e : Int} (h : IsR w q l e) : q < w.heap.size := by
  obtain ⟨v, h, -⟩ := h
  exact (Array.getElem?_eq_some_iff.1 h).1
theorem IsR.later {w w1 : World} {q : Nat} {l : List UInt8} {e : Int} (h : IsR w q l e) (hb : Below w.heap.size w w1) : IsR w1 q l e := by
  have hq := h.lt
  obtain ⟨v, h1, h2⟩ := h
  exact ⟨v, by rw [hb.block q hq]; exact h1, h2.grown (kb_below _ hb)⟩
theorem IsR.err {w : World} {q : Nat} {l : List UInt8} {e : Int} (h : IsR w q l e) : w.cell? ⟨q, 1, none⟩ = some (.int .i64 e) := by
  obtain ⟨v, h1, h2⟩ := h
  rw [cell_of_row _ _ _ _ _ _ h1]
  rfl
theorem IsR.rest {w : World} {q : Nat} {l : List UInt8} {e : Int} (h : IsR w q l e) : ∃ a c, w.cell? ⟨q, 0, none⟩ = some (.slice a l.length c) ∧ BytesN w q (.slice a l.length c) l := by
  obtain ⟨v, h1, h2⟩ := h
  have h3 := h2
  obtain ⟨⟨a, c, rfl, -⟩, -⟩ := h2
  exact ⟨a, c, by rw [cell_of_row _ _ _ _ _ _ h1]; rfl, h3⟩
theorem IsR.thaw {w : World} {q : Nat} {l : List UInt8} {e : Int} (h : IsR w q l e) (i : Nat) : w.frozen? ⟨q, i, none⟩ = false := by
  obtain ⟨v, h1, h2⟩ := h
  exact frozen_of_row _ _ _ _ _ h1
theorem IsR.set {w : World} {q : Nat} {l l' : List UInt8} {e : Int} (h : IsR w q l e) {v' : Value} (hv : BytesN w q v' l') : IsR (w.setCell ⟨q, 0, none⟩ v') q l' e := by
  obtain ⟨v, h1, h2⟩ := h
  exact ⟨v', by rw [heap_setCell_same _ _ _ _ _ _ h1]; rfl, hv.grown (kb_set1 _ _ _ _)⟩
theorem IsR.setE {w : World} {q : Nat} {l : List UInt8} {e : Int} (h : IsR w q l e) (e' : Int) : IsR (w.setCell ⟨q, 1, none⟩ (.int .i64 e')) q l e' := by
  obtain ⟨v, h1, h2⟩ := h
  exact ⟨v, by rw [heap_setCell_same _ _ _ _ _ _ h1]; rfl, h2.grown (kb_set1 _ _ _ _)⟩
theorem rerr_any (q : Nat) (l : List UInt8) (er : Int) (w : World) (h : IsR w q l er) : Calls Tryd.prog 78 #[.pointer (some ⟨q, 0, none⟩)] w fun e w' => e = .returned (.int .i64 er) ∧ w' = w := by
  have hE := h.err
  go_enter Tryd.func78, Tryd.ntmps78
  go_wp2
  go_ret
  exact ⟨rfl, rfl⟩
theorem rerr_nil (w : World) : Calls Tryd.prog 78 #[.pointer none] w fun e w' => e = .returned (.int .i64 11) ∧ w' = w := by
  go_enter Tryd.func78, Tryd.ntmps78
  go_wp2
  go_ret
  exact ⟨rfl, rfl⟩
theorem left_any (q : Nat) (l : List UInt8) (er : Int) (w : World) (h : IsR w q l er) : Calls Tryd.prog 79 #[.pointer (some ⟨q, 0, none⟩)] w fun e w' => e = .returned (.int .i64 (l.length : Int)) ∧ w' = w := by
  obtain ⟨a, c, hc, -⟩ := h.rest
  generalize l.length = L at *
  go_enter Tryd.func79, Tryd.ntmps79
  go_wp2
  go_ret
  exact ⟨rfl, rfl⟩
theorem left_nil (w : World) : Calls Tryd.prog 79 #[.pointer none] w fun e w' => e = .returned (.int .i64 0) ∧ w' = w := by
  go_enter Tryd.func79, Tryd.ntmps79
  go_wp2
  go_ret
  exact ⟨rfl, rfl⟩
theorem end_done (q : Nat) (w : World) (h : IsR w q [] 0) : Calls Tryd.prog 61 #[.pointer (some ⟨q, 0, none⟩)] w fun e w' => e = .returned (.int .i64 0) ∧ w' = w := by
  have H := Bx.mk h
  go_enter Tryd.func61, Tryd.ntmps61
  go_wp2_with fail
  refine (rerr_any q [] 0 w H.out).mono ?_
  rintro e w1 ⟨rfl, rfl⟩
  go_wp2_with fail
  refine (left_any q [] 0 _ H.out).mono ?_
  rintro e w1 ⟨rfl, rfl⟩
  rw [List.length_nil]
  go_wp2
  go_ret
  exact ⟨rfl, rfl⟩
theorem end_nil (w : World) : Calls Tryd.prog 61 #[.pointer none] w fun e w' => e = .returned (.int .i64 11) ∧ w' = w := by
  go_enter Tryd.func61, Tryd.ntmps61
  go_wp2_with fail
  refine (rerr_nil w).mono ?_
  rintro e w1 ⟨rfl, rfl⟩
  go_wp2
  go_ret
  exact ⟨rfl, rfl⟩
theorem fail_nil (c : Int) (w : World) : Calls Tryd.prog 76 #[.pointer none, .int .i64 c] w fun e w' => (∃ v, e = .returned v) ∧ w' = w := by
  go_enter Tryd.func76, Tryd.ntmps76
  go_wp2_with fail
  refine (rerr_nil w).mono ?_
  rintro e w1 ⟨rfl, rfl⟩
  go_wp2
  go_end0
  exact ⟨⟨_, rfl⟩, rfl⟩
set_option maxRecDepth 100000 in
theorem fail_ok (q : Nat) (l : List UInt8) (c : Int) (w : World) (h : IsR w q l 0) : Calls Tryd.prog 76 #[.pointer (some ⟨q, 0, none⟩), .int .i64 c] w fun e w' => (∃ v, e = .returned v) ∧ IsR w' q [] c ∧ w.grownBy w' (some q) := by
  have H := Bx.mk h
  have hE := h.err
  have hf0 := h.thaw 0
  have hf1 := h.thaw 1
  obtain ⟨a, cc, hc, -⟩ := h.rest
  have HN : Bx (IsR ((w.setCell ⟨q, 1, none⟩ (.int .i64 c)).setCell ⟨q, 0, none⟩ (.slice none 0 0)) q [] c ∧ w.grownBy ((w.setCell ⟨q, 1, none⟩ (.int .i64 c)).setCell ⟨q, 0, none⟩ (.slice none 0 0)) (some q)) := Bx.mk ⟨(h.setE c).set ⟨Bytes.nil _, fun h => absurd h (by simp)⟩, kb_trans (kb_set1 _ _ _ _) (kb_set1 _ _ _ _)⟩
  clear h
  go_enter Tryd.func76, Tryd.ntmps76
  go_wp2_with fail
  refine (rerr_any q l 0 w H.out).mono ?_
  rintro e w1 ⟨rfl, rfl⟩
  go_wp2
  go_end0
  exact ⟨⟨_, rfl⟩, HN.out⟩
end Go.Proofs.YtiengbmnfbbgoaaDoor
