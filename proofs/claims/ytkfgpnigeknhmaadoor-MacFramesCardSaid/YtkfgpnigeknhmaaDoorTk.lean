/-
  Bytes that lie somewhere; worlds in which one block alone has changed.
-/
import Derived.Test.YtkfgpnigeknhmaaDoorWe
namespace Go.Proofs.YtkfgpnigeknhmaaDoor
open Go Go.RowKit
theorem kb_refl (b : Nat) (w : World) : w.grownBy w (some b) := ⟨rfl, rfl, rfl, Nat.le_refl _, fun _ _ _ => rfl⟩
theorem kb_trans {b : Option Nat} {w w1 w2 : World} (h : w.grownBy w1 b) (k : w1.grownBy w2 b) : w.grownBy w2 b :=
  ⟨k.os.trans h.os, k.tape.trans h.tape, k.output.trans h.output, Nat.le_trans h.size k.size, fun i hi hne => (k.block i (Nat.lt_of_lt_of_le hi h.size) hne).trans (h.block i hi hne)⟩
theorem kb_below {w w1 : World} (b : Option Nat) (h : Below w.heap.size w w1) : w.grownBy w1 b := ⟨h.os, h.tape, h.output, h.size, fun i hi _ => h.block i hi⟩
theorem kb_drewN (b : Option Nat) (w : World) (n : Nat) : w.grownBy (w.drewN n) b := ⟨rfl, rfl, rfl, Nat.le_refl _, fun _ _ _ => rfl⟩
theorem kb_setCell {b : Nat} (w : World) (o : Nat) (v : Value) : w.grownBy (w.setCell ⟨b, o, none⟩ v) (some b) :=
  ⟨rfl, rfl, rfl, by simp, fun i _ hne => heap_setCell_other w ⟨b, o, none⟩ i v (fun e => hne (by rw [e]))⟩
theorem kb_setCells {b : Nat} : ∀ (vs : List Value) (o : Nat) (w : World), w.grownBy (w.setCells b o vs) (some b)
  | [], _, w => kb_refl b w
  | v :: vs, o, w => kb_trans (kb_setCell w o v) (kb_setCells vs (o + 1) (w.setCell ⟨b, o, none⟩ v))
/-- Bytes behind a slice whose block isn't b. -/
def BytesAt (w : World) (b : Nat) (v : Value) (ps : List UInt8) : Prop :=
  ∃ a cap, v = .slice a ps.length cap ∧ ps.length ≤ cap ∧ (0 < ps.length → ∃ c o, c ≠ b ∧ a = some ⟨c, o, none⟩ ∧ ∀ j, j < ps.length → w.cell? ⟨c, o + j, none⟩ = some (.int .u8 (ub (ps.getD j 0))))
theorem BytesAt.later {w w1 : World} {b : Nat} {v : Value} {ps : List UInt8} (h : BytesAt w b v ps) (hk : w.grownBy w1 (some b)) : BytesAt w1 b v ps := by
  obtain ⟨a, cap, hv, hc, hr⟩ := h
  refine ⟨a, cap, hv, hc, fun hp => ?_⟩
  obtain ⟨c, o, hne, ha, hcell⟩ := hr hp
  refine ⟨c, o, hne, ha, fun j hj => ?_⟩
  exact hk.cell (hcell j hj) (by simpa using hne)
def lenV : Value → Nat
  | .slice _ n _ => n
  | _ => 0
theorem sl_bytes (w : World) (b c o L cap n : Nat) (ps : List UInt8) (hL : L = ps.length) (hcap : L ≤ cap) (hn : n ≤ L) (hne : c ≠ b)
    (hcell : ∀ j, j < ps.length → w.cell? ⟨c, o + j, none⟩ = some (.int .u8 (ub (ps.getD j 0)))) :
    ∃ v, (∀ W : World, (Instr.slice 23 (.slice (some ⟨c, o, none⟩) L cap) (some (.int .i64 (n : Int))) none none).run Tryd.prog W = .ok v W) ∧ BytesAt w b v (ps.drop n) ∧ lenV v = L - n := by
  subst hL
  have he : Tryd.prog.elem 23 = 5 := by kernel_rfl
  refine ⟨sliced (some ⟨c, o, none⟩) n ps.length cap 1, fun W => ?_, ?_, rfl⟩
  · have hs : ((sizeOf 5).run Tryd.prog W) = .ok 1 W := by kernel_rfl
    rw [run_slice_l W 23 (some ⟨c, o, none⟩) ps.length cap (by rw [he]; exact Tryd.underlying23) .i64 (n : Int) (by omega) (by omega), he, hs]
    rfl
  · refine ⟨_, _, by rw [List.length_drop]; rfl, by simp; omega, fun hp => ?_⟩
    rw [List.length_drop] at hp
    refine ⟨c, o + n, hne, ?_, fun j hj => ?_⟩
    · rw [if_neg (by omega)]
      simp [Addr.add]
    · rw [List.length_drop] at hj
      rw [show o + n + j = o + (n + j) by omega, hcell (n + j) (by omega)]
      simp
/-- The builtin copy into a state's places. -/
theorem wpList_copy_st {w : World} {ops : Array Oper} {rst : List Oper} {o : Oper} {a : Act} {Q : Exit → Act → World → Prop} (hgd : o.guard = none) (d s : Operand)
    (ho : o.op = .call { callee := .builtin .copy, args := #[d, s], argTypes := #[23, 23] }) (b h n c off L cap dcap : Nat) (T : TypeId) (ws : List (BitVec 32)) (rest ps : List UInt8) (t : Nat)
    (hd : a.eval d = .slice (some ⟨b, 8 + h, none⟩) (64 - h) dcap) (hs : a.eval s = .slice (some ⟨c, off, none⟩) L cap) (hL : L = ps.length)
    (hg : w.heap[b]? = some (.cells (stC ws rest t) T (0, 0))) (h8 : ws.length = 8) (h64 : rest.length = 64) (hh : h < 64) (hn : n = min L (64 - h))
    (hcell : ∀ j, j < ps.length → w.cell? ⟨c, off + j, none⟩ = some (.int .u8 (ub (ps.getD j 0))))
    (k : ∀ w2 : World, w2.heap[b]? = some (.cells (stC ws (fillR rest h (ps.take n)) t) T (0, 0)) → w.grownBy w2 (some b) → wpList Tryd.prog ops Q rst (a.put o.dst (.int .i64 (n : Int))) w2) : wpList Tryd.prog ops Q (o :: rst) a w := by
  have lq : (ps.take n).length = n := by simp; omega
  have lc : (u8s (ps.take n)).toList.length = n := by rw [Array.length_toList, u8s_size, lq]
  refine wpList_copy_own hgd d s _ _ ho 5 Tryd.underlying23 (by kernel_rfl) b (8 + h) (64 - h) dcap ⟨c, off, none⟩ L cap hd hs _ T hg (u8s (ps.take n)).toList (by rw [lc, hn]) ?_ ?_ ?_ ?_
  · intro j v hv
    have hj : j < n := by have := (List.getElem?_eq_some_iff.1 hv).1; omega
    rw [Array.getElem?_toList, u8s_get _ _ (by omega)] at hv
    rw [show (⟨c, off, none⟩ : Addr).add j = ⟨c, off + j, none⟩ by simp [Addr.add], hcell j (by omega)]
    rw [← hv]
    simp [hj]
  · rw [lc, stC_size ws rest t h8 h64]; omega
  · have := one_u8s (ps.take n)
    intro v hv
    rw [Array.all_eq_true'] at this
    exact this v (by simpa using hv)
  · have e := stC_fill ws rest t h (ps.take n) h8 h64 (by omega)
    rw [e, lc]
    refine k _ ?_ ?_
    · show (w.heap.modify b _)[b]? = _; rw [Array.getElem?_modify, if_pos rfl, hg]; rfl
    · exact ⟨rfl, rfl, rfl, by simp [World.setRow], fun i _ hne => setRow_other w b i _ (fun e => hne (by rw [e]))⟩
end Go.Proofs.YtkfgpnigeknhmaaDoor
