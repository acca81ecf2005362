/-
  The walks of a reader: its parts.
  The walks of bytes that are taken off, and of numbers that are read.
  The walks of a field that is got.
-/
import Derived.Test.YtaoekfomffebhaaDoorIf
import Derived.Test.YtaoekfomffebhaaDoorW2
namespace Go.Proofs.YtaoekfomffebhaaDoor
open Go Go.RowKit
/-- Bytes that lie in a block of bytes. -/
def BytesU (w : World) (v : Value) (l : List UInt8) : Prop := 0 < l.length → ∀ g, v.ownBlock = some g → ∃ cs fr, w.heap[g]? = some (.cells cs 5 fr)
theorem BytesU.nil (w : World) (v : Value) : BytesU w v [] := fun h => absurd h (by simp)
theorem BytesU.grown {w w1 : World} {p : Nat} {v : Value} {l : List UInt8} (h : BytesU w v l) (hg : w.grownBy w1 (some p)) (hn : 0 < l.length → v.ownBlock ≠ some p) : BytesU w1 v l := fun h0 g hv => by
  obtain ⟨cs, fr, hc⟩ := h h0 g hv
  exact ⟨cs, fr, by rw [hg.block g (Array.getElem?_eq_some_iff.1 hc).1 (fun e => hn h0 (by rw [hv, e]))]; exact hc⟩
/-- A reader, at block q. -/
def IsR (w : World) (q : Nat) (l : List UInt8) (e : Int) : Prop := ∃ v, w.heap[q]? = some (.cells #[v, .int .i64 e] 106 (0, 0)) ∧ BytesN w q v l ∧ BytesU w v l
theorem IsR.lt {w : World} {q : Nat} {l : List UInt8} {e : Int} (h : IsR w q l e) : q < w.heap.size := by
  obtain ⟨v, h, -⟩ := h
  exact (Array.getElem?_eq_some_iff.1 h).1
theorem IsR.later {w w1 : World} {q : Nat} {l : List UInt8} {e : Int} (h : IsR w q l e) (hb : Below w.heap.size w w1) : IsR w1 q l e := by
  have hq := h.lt
  obtain ⟨v, h1, h2⟩ := h
  exact ⟨v, by rw [hb.block q hq]; exact h1, h2.1.grown (kb_below _ hb), h2.2.grown (kb_below _ hb) h2.1.2⟩
theorem IsR.err {w : World} {q : Nat} {l : List UInt8} {e : Int} (h : IsR w q l e) : w.cell? ⟨q, 1, none⟩ = some (.int .i64 e) := by
  obtain ⟨v, h1, h2⟩ := h
  rw [cell_of_row _ _ _ _ _ _ h1]
  rfl
theorem IsR.rest {w : World} {q : Nat} {l : List UInt8} {e : Int} (h : IsR w q l e) : ∃ a c, w.cell? ⟨q, 0, none⟩ = some (.slice a l.length c) ∧ BytesN w q (.slice a l.length c) l := by
  obtain ⟨v, h1, h2, -⟩ := h
  have h3 := h2
  obtain ⟨⟨a, c, rfl, -⟩, -⟩ := h2
  exact ⟨a, c, by rw [cell_of_row _ _ _ _ _ _ h1]; rfl, h3⟩
theorem IsR.thaw {w : World} {q : Nat} {l : List UInt8} {e : Int} (h : IsR w q l e) (i : Nat) : w.frozen? ⟨q, i, none⟩ = false := by
  obtain ⟨v, h1, h2⟩ := h
  exact frozen_of_row _ _ _ _ _ h1
theorem IsR.set {w : World} {q : Nat} {l l' : List UInt8} {e : Int} (h : IsR w q l e) {v' : Value} (hv : BytesN w q v' l') (hu : BytesU w v' l') : IsR (w.setCell ⟨q, 0, none⟩ v') q l' e := by
  obtain ⟨v, h1, h2⟩ := h
  exact ⟨v', by rw [heap_setCell_same _ _ _ _ _ _ h1]; rfl, hv.grown (kb_set1 _ _ _ _), hu.grown (kb_set1 _ _ _ _) hv.2⟩
theorem IsR.setE {w : World} {q : Nat} {l : List UInt8} {e : Int} (h : IsR w q l e) (e' : Int) : IsR (w.setCell ⟨q, 1, none⟩ (.int .i64 e')) q l e' := by
  obtain ⟨v, h1, h2⟩ := h
  exact ⟨v, by rw [heap_setCell_same _ _ _ _ _ _ h1]; rfl, h2.1.grown (kb_set1 _ _ _ _), h2.2.grown (kb_set1 _ _ _ _) h2.1.2⟩
end Go.Proofs.YtaoekfomffebhaaDoor
namespace Go.Proofs.YtaoekfomffebhaaDoor
open Go Go.RowKit
theorem BytesN.take {w : World} {p : Nat} {a : Option Addr} {n cap : Nat} {l : List UInt8} (h : BytesN w p (.slice a n cap) l) (m : Nat) (hm : m ≤ n) : BytesN w p (.slice a m cap) (l.take m) := by
  refine ⟨h.1.take m hm, fun h0 => ?_⟩
  have h1 := h.2 (by simp at h0; omega)
  rcases a with _ | ad
  · intro e
    cases e
  · exact h1
theorem BytesN.drop {w : World} {p : Nat} {a : Option Addr} {n cap : Nat} {l : List UInt8} (h : BytesN w p (.slice a n cap) l) (m : Nat) (hm : m ≤ n) : BytesN w p (.slice (if cap = m then a else a.map (·.add m)) (n - m) (cap - m)) (l.drop m) := by
  have hl : l.length = n := by obtain ⟨⟨a', cap', hv, -⟩, -⟩ := h; injection hv with _ e2 _; exact e2.symm
  by_cases hlt : m < n
  · have h0 : 0 < l.length := by omega
    obtain ⟨⟨a', cap', hv, hc, hn, hr⟩, h2⟩ := h
    injection hv with e1 e2 e3
    subst e1 e3
    obtain ⟨c, o, rfl, hcell⟩ := hr h0
    have e : (if cap = m then some (⟨c, o, none⟩ : Addr) else (some (⟨c, o, none⟩ : Addr)).map (·.add m)) = some ⟨c, o + m, none⟩ := by
      rw [if_neg (by omega)]
      simp [Addr.add]
    rw [e]
    exact ⟨Bytes.drop ⟨_, _, by rw [e2], hc, hn, hr⟩ m hlt, fun _ => h2 h0⟩
  · obtain rfl : m = n := by omega
    have e : l.drop m = [] := by rw [← hl]; simp
    rw [e, Nat.sub_self]
    refine ⟨⟨_, _, rfl, Nat.zero_le _, fun hnn => ?_, fun h => absurd h (by simp)⟩, fun h => absurd h (by simp)⟩
    obtain ⟨⟨a', cap', hv, hc, hn, hr⟩, h2⟩ := h
    injection hv with e1 e2 e3
    subst e1 e3
    rcases a with _ | ad
    · have := hn rfl
      omega
    · exfalso
      split at hnn
      · cases hnn
      · cases hnn
theorem BytesN.cap {w : World} {p : Nat} {a : Option Addr} {n cap : Nat} {l : List UInt8} (h : BytesN w p (.slice a n cap) l) : n ≤ cap ∧ (a = none → cap = 0) := by
  obtain ⟨⟨a', cap', hv, hc, hn, hr⟩, h2⟩ := h
  injection hv with e1 e2 e3
  subst e1 e3
  exact ⟨by omega, hn⟩
end Go.Proofs.YtaoekfomffebhaaDoor
namespace Go.Proofs.YtaoekfomffebhaaDoor
open Go Go.RowKit
/-- Bytes lie in no field's block. -/
theorem Bytes.off {w : World} {D : Nat} {a b : Int} {c : Value} {t : TypeId} {fr : Nat × Nat} {v : Value} {l : List UInt8} (h : Bytes w v l) (hr : w.heap[D]? = some (.cells #[.int .i64 a, .int .i64 b, c] t fr)) (hc : ∀ x, c ≠ .int .u8 x) (h0 : 0 < l.length) : v.ownBlock ≠ some D := by
  obtain ⟨ad, cap, rfl, -, -, hr2⟩ := h
  obtain ⟨g, o, rfl, hcell⟩ := hr2 h0
  intro e
  injection e with e
  simp only at e
  subst e
  have h1 := hcell 0 h0
  rw [cell_of_row _ _ _ _ _ _ hr, Nat.add_zero] at h1
  match o, h1 with
  | 0, h1 => simp at h1
  | 1, h1 => simp at h1
  | 2, h1 =>
    simp at h1
    exact hc _ h1
  | o + 3, h1 => simp at h1
theorem kb_new {w w1 w2 : World} {q D : Nat} (h : w.grownBy w1 (some q)) (hg : w1.grownBy w2 (some D)) (hD : w.heap.size ≤ D) : w.grownBy w2 (some q) :=
  ⟨hg.os.trans h.os, hg.tape.trans h.tape, hg.output.trans h.output, Nat.le_trans h.size hg.size, fun k hk hne => by
    rw [hg.block k (Nat.lt_of_lt_of_le hk h.size) (fun e => by injection e with e; omega)]
    exact h.block k hk hne⟩
theorem results_pair {fn : Func} {p u : Tmp} {ty : TypeId} (h : fn.results = #[.cell p ty, .tmp u]) (tmps : Array Value) (P : Program) (w : World) (g : Nat) (cs : Array Value)
    (hp : tmps.getD p undef = .pointer (some ⟨g, 0, none⟩)) (hl : (loadVar ty ⟨g, 0, none⟩).run P w = .ok (.agg cs) w) : (results fn tmps).run P w = .ok (.tuple #[.agg cs, tmps.getD u undef]) w := by
  have hp' : tmps[p]?.getD undef = .pointer (some ⟨g, 0, none⟩) := by simpa using hp
  simp [results, h, hp', asAddr, hl]
theorem enc_four (b : List UInt8) : enc ⟨4, 0, b⟩ = beN 2 b.length ++ b := rfl
end Go.Proofs.YtaoekfomffebhaaDoor
