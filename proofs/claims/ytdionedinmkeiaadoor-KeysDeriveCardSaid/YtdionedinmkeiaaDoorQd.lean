/-
  The walks of Prove, Proves and Parse.
-/
import Derived.Test.YtdionedinmkeiaaDoorAf
import Derived.Test.YtdionedinmkeiaaDoorQa
import Derived.Test.YtdionedinmkeiaaDoorCe
namespace Go.Proofs.YtdionedinmkeiaaDoor
open Go Go.RowKit
/-- A value whose bytes stay while parts are gathered in block G. -/
def SV (w0 : World) (G : Nat) (W : World) (x : Value) (q : List UInt8) : Prop := BN w0 G x q ∨ ∃ b, OwnB W b x q
/-- Parts being gathered in the variable of block G. -/
structure GS (w0 : World) (G : Nat) (qs : List (List UInt8)) (v : Value) (xs : List Value) (W : World) : Prop where
  grown : w0.grownBy W (some G)
  lt : G < w0.heap.size
  row : W.heap[G]? = some (.cells #[v] 76 (0, 0))
  own : OwnP W w0.heap.size v xs
  len : xs.length = qs.length
  vals : ∀ j, j < xs.length → SV w0 G W (xs.getD j undef) (qs.getD j [])
theorem own_neG {w : World} {b G : Nat} {v x : Value} {l : List UInt8} (h : OwnB w b x l) (hG : w.heap[G]? = some (.cells #[v] 76 (0, 0))) : ∀ g, some G = some g → x.ownBlock ≠ some g := by
  intro g hg hx
  injection hg with hg
  subst hg
  rcases h.2 with ⟨rfl, _⟩ | ⟨g1, cap, cur, rfl, _, hh, _⟩
  · cases hx
  · injection hx with hx
    simp only at hx
    subst hx
    rw [hh] at hG
    injection hG with e
    injection e with _ e2
    exact absurd e2 (by decide)
theorem ownP_neG {w : World} {b G : Nat} {v x : Value} {xs : List Value} (h : OwnP w b x xs) (hG : w.heap[G]? = some (.cells #[v] 76 (0, 0))) : ∀ g, some G = some g → x.ownBlock ≠ some g := by
  intro g hg hx
  injection hg with hg
  subst hg
  rcases h.2 with ⟨rfl, _⟩ | ⟨g1, cap, cur, rfl, _, hh, _⟩
  · cases hx
  · injection hx with hx
    simp only at hx
    subst hx
    rw [hh] at hG
    injection hG with e
    injection e with _ e2
    exact absurd e2 (by decide)
theorem SV.grown {w0 : World} {G : Nat} {W W1 : World} {x : Value} {q : List UInt8} (h : SV w0 G W x q) {row : Option Nat} (hg : W.grownBy W1 row) (hne : ∀ b, OwnB W b x q → ∀ g, row = some g → x.ownBlock ≠ some g) : SV w0 G W1 x q := by
  rcases h with h | ⟨b, h⟩
  · exact .inl h
  · exact .inr ⟨b, h.grown hg (hne b h)⟩
theorem SV.below {w0 : World} {G : Nat} {W W1 : World} {x : Value} {q : List UInt8} (h : SV w0 G W x q) (hb : Below W.heap.size W W1) : SV w0 G W1 x q := by
  rcases h with h | ⟨b, h⟩
  · exact .inl h
  · exact .inr ⟨b, h.later hb (fun g hg => (h.lt g hg).1)⟩
theorem SV.bytes {w0 : World} {G : Nat} {W : World} {x : Value} {q : List UInt8} (h : SV w0 G W x q) (hg : w0.grownBy W (some G)) : Bytes W x q := by
  rcases h with h | ⟨b, h⟩
  · exact (h.later hg).1
  · exact h.bytes
theorem GS.later {w0 : World} {G : Nat} {qs : List (List UInt8)} {v : Value} {xs : List Value} {W W1 : World} (h : GS w0 G qs v xs W) (hb : Below W.heap.size W W1) : GS w0 G qs v xs W1 :=
  ⟨kb_trans h.grown (kb_below _ hb), h.lt, by rw [hb.block _ (Array.getElem?_eq_some_iff.1 h.row).1]; exact h.row, h.own.later hb (fun g hg => (h.own.lt g hg).1), h.len, fun j hj => (h.vals j hj).below hb⟩
/-- Two more values behind those gathered; the variable is yet to be set. -/
structure GA (w0 : World) (G : Nat) (qs : List (List UInt8)) (v v1 : Value) (xs : List Value) (W : World) : Prop where
  grown : w0.grownBy W (some G)
  lt : G < w0.heap.size
  row : W.heap[G]? = some (.cells #[v] 76 (0, 0))
  own : OwnP W w0.heap.size v1 xs
  len : xs.length = qs.length
  vals : ∀ j, j < xs.length → SV w0 G W (xs.getD j undef) (qs.getD j [])
theorem GS.more {w0 : World} {G : Nat} {qs : List (List UInt8)} {v v1 : Value} {xs : List Value} {W W1 : World} (h : GS w0 G qs v xs W) {y z : Value} {p r : List UInt8} (hy : SV w0 G W y p) (hz : SV w0 G W z r) (ho : OwnP W1 w0.heap.size v1 (xs ++ [y, z])) (hg : W.grownBy W1 v.ownBlock) : GA w0 G (qs ++ [p, r]) v v1 (xs ++ [y, z]) W1 := by
  have hk : ∀ b (x : Value) (q : List UInt8), OwnB W b x q → ∀ g, v.ownBlock = some g → x.ownBlock ≠ some g := fun b x q hx => own_ne h.own hx
  have hb : Below w0.heap.size W W1 := ⟨hg.os, hg.tape, hg.output, hg.size, fun i hi => hg.block i (Nat.lt_of_lt_of_le hi h.grown.size) (fun e => by have := (h.own.lt i e.symm).2; omega)⟩
  refine ⟨⟨by rw [hb.os]; exact h.grown.os, by rw [hb.tape]; exact h.grown.tape, by rw [hb.output]; exact h.grown.output, Nat.le_trans h.grown.size hb.size, fun i hi hne => by rw [hb.block i hi]; exact h.grown.block i hi hne⟩, h.lt, by rw [hb.block G h.lt]; exact h.row, ho, by simp [h.len], fun j hj => ?_⟩
  rw [List.length_append] at hj
  by_cases hlt : j < xs.length
  · have e1 : (xs ++ [y, z]).getD j undef = xs.getD j undef := by simp [List.getElem?_append_left hlt]
    have e2 : (qs ++ [p, r]).getD j [] = qs.getD j [] := by simp [List.getElem?_append_left (h.len ▸ hlt)]
    rw [e1, e2]
    exact (h.vals j hlt).grown hg (fun b hb => hk b _ _ hb)
  · simp only [List.length_cons, List.length_nil] at hj
    rcases (show j = xs.length ∨ j = xs.length + 1 by omega) with rfl | rfl
    · have e1 : (xs ++ [y, z]).getD xs.length undef = y := by simp
      have e2 : (qs ++ [p, r]).getD xs.length [] = p := by rw [h.len]; simp
      rw [e1, e2]
      exact hy.grown hg (fun b hb => hk b _ _ hb)
    · have e1 : (xs ++ [y, z]).getD (xs.length + 1) undef = z := by simp
      have e2 : (qs ++ [p, r]).getD (xs.length + 1) [] = r := by rw [h.len]; simp
      rw [e1, e2]
      exact hz.grown hg (fun b hb => hk b _ _ hb)
theorem GA.set {w0 : World} {G : Nat} {qs : List (List UInt8)} {v v1 : Value} {xs : List Value} {W : World} (h : GA w0 G qs v v1 xs W) : GS w0 G qs v1 xs (W.setCell ⟨G, 0, none⟩ v1) := by
  have hg : W.grownBy (W.setCell ⟨G, 0, none⟩ v1) (some G) := kb_setCell W 0 v1
  exact ⟨kb_trans h.grown hg, h.lt, by have := heap_setCell_same W G 0 _ _ v1 h.row; simpa using this, h.own.grown hg (ownP_neG h.own h.row), h.len, fun j hj => (h.vals j hj).grown hg (fun b hb => own_neG hb h.row)⟩
theorem GS.cell {w0 : World} {G : Nat} {qs : List (List UInt8)} {v : Value} {xs : List Value} {W : World} (h : GS w0 G qs v xs W) : W.cell? ⟨G, 0, none⟩ = some v := by rw [cell_of_row _ _ _ _ _ _ h.row]; rfl
theorem own_built (W : World) (l : List UInt8) (hl : l.length ≤ 1000000) : OwnB (W.alloc (.cells (u8s l) 5)) W.heap.size (.slice (some ⟨W.heap.size, 0, none⟩) l.length l.length) l := by
  refine ⟨by simp [u8s_size], .inr ⟨W.heap.size, l.length, u8s l, rfl, Nat.le_refl _, hnew _ _ _ rfl, Nat.le_refl _, by unfold maxLen; omega, by simp [u8s_size], ?_⟩⟩
  rw [List.take_of_length_le (by simp [u8s_size])]
theorem SV.one {w0 : World} {G : Nat} {W : World} {x : Value} {q : List UInt8} (h : SV w0 G W x q) : ∃ a n c, x = .slice a n c := by
  rcases h with h | ⟨b, h⟩
  · obtain ⟨a, c, hx, _⟩ := h.1
    exact ⟨a, _, c, hx⟩
  · obtain ⟨a, c, hx, _⟩ := h.bytes
    exact ⟨a, _, c, hx⟩
theorem lenB_len (n : Nat) : (lenB n).length = 4 := rfl
theorem row_two (W : World) (x y : Value) (t : TypeId) : RowP (W.alloc (.cells #[x, y] t)) (.slice (some ⟨W.heap.size, 0, none⟩) 2 2) [x, y] := by
  refine .inr ⟨W.heap.size, 0, 2, rfl, fun j hj => ?_⟩
  rw [cell_of_row _ _ _ _ _ _ (hnew W _ _ rfl)]
  match j, hj with
  | 0, _ => rfl
  | 1, _ => rfl
theorem frozen_row {W : World} {G : Nat} {cs : Array Value} {t : TypeId} (h : W.heap[G]? = some (.cells cs t (0, 0))) : W.frozen? ⟨G, 0, none⟩ = false := frozen_of_row _ _ _ _ _ h
theorem ownP_form {w : World} {b : Nat} {v : Value} {xs : List Value} (h : OwnP w b v xs) : ∃ a n c, v = .slice a n c := by
  rcases h.2 with ⟨hv, _⟩ | ⟨g, cap, cur, hv, _⟩
  · exact ⟨_, _, _, hv⟩
  · exact ⟨_, _, _, hv⟩
/-- What the closure leaves. -/
def GatQ (w0 : World) (G : Nat) (qs : List (List UInt8)) (e : Ending) (w' : World) : Prop := e = .returned (.tuple #[]) ∧ ∃ v xs, GS w0 G qs v xs w'
end Go.Proofs.YtdionedinmkeiaaDoor
namespace Go.Proofs.YtdionedinmkeiaaDoor
open Go Go.RowKit
/-- The label of proofs. -/
def prL : List UInt8 := [112, 114, 111, 111, 102]
/-- A proof by a secret. -/
def prvK (s : List UInt8) (pss : List (List UInt8)) : List UInt8 := hmac s (frame (prL :: pss))
theorem prvK_length (s : List UInt8) (pss : List (List UInt8)) : (prvK s pss).length = 32 := hmac_length _ _
theorem cell_same {w w1 : World} {p o : Nat} (h : w1.heap[p]? = w.heap[p]?) : w1.cell? ⟨p, o, none⟩ = w.cell? ⟨p, o, none⟩ := by
  unfold World.cell?
  simp only [h]
theorem framed_next (l : List UInt8) (pss : List (List UInt8)) (k : Nat) (h : k < pss.length) : framed (l :: pss.take (k + 1)) = framed (l :: pss.take k) ++ [lenB (pss.getD k []).length, pss.getD k []] := framed_succ l pss k h
theorem GS.parts {w0 : World} {G : Nat} {qs : List (List UInt8)} {v : Value} {xs : List Value} {W : World} (h : GS w0 G qs v xs W) : Parts W v qs := by
  have hb : ∀ j, j < xs.length → Bytes W (xs.getD j undef) (qs.getD j []) := fun j hj => (h.vals j hj).bytes h.grown
  rcases h.own.2 with ⟨hn, h0⟩ | ⟨g, cap, cur, hv, _, hg, hc1, hc2, hc3, hc4⟩
  · have : qs = [] := List.length_eq_zero_iff.1 (by rw [← h.len]; exact h0)
    subst this
    exact ⟨none, 0, hn, fun e => by simp at e⟩
  · refine ⟨_, cap, by rw [← h.len]; exact hv, fun _ => ⟨g, 0, rfl, fun j hj => ?_⟩⟩
    rw [← h.len] at hj
    refine ⟨xs.getD j undef, ?_, hb j hj⟩
    rw [cell_of_row _ _ _ _ _ _ hg, Nat.zero_add, ← Array.getElem?_toList]
    have h1 : (cur.toList.take (xs.length * 1))[j]? = xs[j]? := by rw [hc4]
    rw [List.getElem?_take_of_lt (by omega)] at h1
    rw [h1]
    simp [hj]
theorem GS.start {w : World} {G : Nat} (hG : w.heap[G]? = some (.cells #[.slice none 0 0] 76 (0, 0))) : GS w G [] (.slice none 0 0) [] w :=
  ⟨kb_refl _ _, (Array.getElem?_eq_some_iff.1 hG).1, hG, ⟨rfl, .inl ⟨rfl, rfl⟩⟩, rfl, fun j hj => by simp at hj⟩
theorem KS.grown {w : World} {B Y : Nat} {rs : List (Nat × Obj)} {W W1 : World} (h : KS w B rs W) (hg : W.grownBy W1 (some Y)) (hB : B ≤ Y) (hn : ∀ x ∈ rs, x.1 ≠ Y) : KS w B rs W1 :=
  ⟨fun x hx => by rw [hg.block x.1 (h.lt hx) (fun e => hn x hx (by injection e))]; exact h.rows x hx, h.below.trans (grown_below hg hB h.le), Nat.le_trans h.le hg.size⟩
end Go.Proofs.YtdionedinmkeiaaDoor
namespace Go.Proofs.YtdionedinmkeiaaDoor
open Go Go.RowKit
theorem tk_rng {W : World} {g : Nat} {i r x q : Int} {t : TypeId} (h : W.heap[g]? = some (.cells #[.int .i64 i, .int .i64 r, .int .i64 x, .int .i64 q] t (0, 0))) : W.rangeAt g 0 [.int .i64 i, .int .i64 r, .int .i64 x, .int .i64 q] := by
  intro j v hj
  show W.cell? ⟨g, 0 + j, none⟩ = some v
  rw [cell_of_row _ _ _ _ _ _ h, Nat.zero_add, ← Array.getElem?_toList]
  exact hj
end Go.Proofs.YtdionedinmkeiaaDoor
namespace Go.Proofs.YtdionedinmkeiaaDoor
open Go Go.RowKit
theorem yieldsIf_build {P : Program} {ops : Array Oper} {S : World → Prop} {o : Oper} {a : Act} (hw : Region.wanted o (yielded ops a.tmps) = true) (t : TypeId) (parts : Array (Nat × Operand)) (ho : o.op = .build t parts) (cells : Array Value)
    (hf : P.built t (parts.map fun (i, x) => (i, a.eval x)).toList = some cells) : YieldsIf P ops S o (.agg cells) a :=
  .inl ⟨hw, fun w _ => by
    unfold execOp
    simp only [ho, Sem.run_bind, run_build w t _ cells hf, Result.andThen_ok]
    rfl⟩
theorem built_tok32 (b0 b1 b2 b3 b4 b5 b6 b7 b8 b9 b10 b11 b12 b13 b14 b15 b16 b17 b18 b19 b20 b21 b22 b23 b24 b25 b26 b27 b28 b29 b30 b31 : UInt8) (i r x q : Int) : Tryd.prog.built 53 [(0, clV ⟨i, r, x, q⟩), (1, .agg (u8s [b0, b1, b2, b3, b4, b5, b6, b7, b8, b9, b10, b11, b12, b13, b14, b15, b16, b17, b18, b19, b20, b21, b22, b23, b24, b25, b26, b27, b28, b29, b30, b31]))] = some (tkC ⟨i, r, x, q⟩ [b0, b1, b2, b3, b4, b5, b6, b7, b8, b9, b10, b11, b12, b13, b14, b15, b16, b17, b18, b19, b20, b21, b22, b23, b24, b25, b26, b27, b28, b29, b30, b31]) := by kernel_rfl
theorem built_tok (c : Cl) (s : List UInt8) (h : s.length = 32) : Tryd.prog.built 53 [(0, clV c), (1, .agg (u8s s))] = some (tkC c s) := by
  obtain ⟨i, r, x, q⟩ := c
  match s, h with
  | [b0, b1, b2, b3, b4, b5, b6, b7, b8, b9, b10, b11, b12, b13, b14, b15, b16, b17, b18, b19, b20, b21, b22, b23, b24, b25, b26, b27, b28, b29, b30, b31], _ => exact built_tok32 b0 b1 b2 b3 b4 b5 b6 b7 b8 b9 b10 b11 b12 b13 b14 b15 b16 b17 b18 b19 b20 b21 b22 b23 b24 b25 b26 b27 b28 b29 b30 b31 i r x q
/-- A token out of bytes that are none. -/
def TNone (r : Int) (w : World) (e : Ending) (w' : World) : Prop := e = .returned (.tuple #[tkV c0 z32, .int .i64 r]) ∧ Below w.heap.size w w'
end Go.Proofs.YtdionedinmkeiaaDoor
