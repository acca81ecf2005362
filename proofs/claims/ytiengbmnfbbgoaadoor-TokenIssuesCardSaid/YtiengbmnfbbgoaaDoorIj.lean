/-
  The walks of numbers and bytes that are put.
-/
import Derived.Test.YtiengbmnfbbgoaaDoorIi
namespace Go.Proofs.YtiengbmnfbbgoaaDoor
open Go Go.RowKit
theorem put_nil (v : Value) (w : World) : Calls Tryd.prog 71 #[.pointer none, v] w fun e w' => e = .returned (.pointer none) ∧ w = w' := by
  go_enter Tryd.func71, Tryd.ntmps71
  go_wp2
  go_step3
  go_wp2
  rw [Exit.noGoto_ret]
  go_ret
  exact ⟨rfl, rfl⟩
/-- A row of numbers. -/
def IntsN (w : World) (p : Nat) (v : Value) (ns : List Int) : Prop :=
  ∃ a cap, v = .slice a ns.length cap ∧ ns.length ≤ cap ∧ (0 < ns.length → ∃ g o, a = some ⟨g, o, none⟩ ∧ g ≠ p ∧ ∀ i, i < ns.length → w.cell? ⟨g, o + i, none⟩ = some (.int .i64 (ns.getD i 0)))
theorem IntsN.grown {w w1 : World} {p : Nat} {v : Value} {ns : List Int} (h : IntsN w p v ns) (hg : w.grownBy w1 (some p)) : IntsN w1 p v ns := by
  obtain ⟨a, cap, hv, hc, hr⟩ := h
  refine ⟨a, cap, hv, hc, fun hp => ?_⟩
  obtain ⟨g, o, ha, hne, hf⟩ := hr hp
  refine ⟨g, o, ha, hne, fun i hi => ?_⟩
  rw [World.cell?_of_block (hg.block g (World.block_lt_of_cell? _ _ (hf i hi)) (fun e => hne (by injection e)))]
  exact hf i hi
/-- A row of bytes. -/
def PartsN (w : World) (p : Nat) (v : Value) (pss : List (List UInt8)) : Prop :=
  ∃ a cap, v = .slice a pss.length cap ∧ pss.length ≤ cap ∧ (0 < pss.length → ∃ g o, a = some ⟨g, o, none⟩ ∧ g ≠ p ∧ ∀ i, i < pss.length → ∃ vb, w.cell? ⟨g, o + i, none⟩ = some vb ∧ BytesN w p vb (pss.getD i []))
theorem PartsN.grown {w w1 : World} {p : Nat} {v : Value} {pss : List (List UInt8)} (h : PartsN w p v pss) (hg : w.grownBy w1 (some p)) : PartsN w1 p v pss := by
  obtain ⟨a, cap, hv, hc, hr⟩ := h
  refine ⟨a, cap, hv, hc, fun hp => ?_⟩
  obtain ⟨g, o, ha, hne, hf⟩ := hr hp
  refine ⟨g, o, ha, hne, fun i hi => ?_⟩
  obtain ⟨vb, h1, h2⟩ := hf i hi
  refine ⟨vb, ?_, h2.grown hg⟩
  rw [World.cell?_of_block (hg.block g (World.block_lt_of_cell? _ _ h1) (fun e => hne (by injection e)))]
  exact h1
/-- One field, as a row. -/
theorem one_fld (W : World) (p : Nat) (f : Fd) (vb : Value) (hb : BytesN W p vb f.b) (hp : p < W.heap.size) :
    FldsN (W.alloc (.cells #[.int .i64 f.s, .int .i64 f.n, vb] 141)) p (.slice (some ⟨W.heap.size, 0, none⟩) 1 1) [f] := by
  refine ⟨_, 1, rfl, Nat.le_refl _, fun _ => ⟨W.heap.size, 0, rfl, by omega, fun i hi => ?_⟩⟩
  obtain rfl : i = 0 := by simp at hi; omega
  exact ⟨vb, box_range _ _ _ _ _, hb.grown (kb_below _ (below_a _))⟩
theorem foldn_take (g : Int → Fd) (ns : List Int) (st : List UInt8 × Int) (k : Nat) (hk : k < ns.length) : ((ns.take (k + 1)).map g).foldl putS st = [g (ns.getD k 0)].foldl putS (((ns.take k).map g).foldl putS st) := by
  rw [List.take_add_one, List.map_append, List.foldl_append, List.getElem?_eq_getElem hk, List.getD_eq_getElem?_getD, List.getElem?_eq_getElem hk]
  rfl
theorem foldb_take (g : List UInt8 → Fd) (ns : List (List UInt8)) (st : List UInt8 × Int) (k : Nat) (hk : k < ns.length) : ((ns.take (k + 1)).map g).foldl putS st = [g (ns.getD k [])].foldl putS (((ns.take k).map g).foldl putS st) := by
  rw [List.take_add_one, List.map_append, List.foldl_append, List.getElem?_eq_getElem hk, List.getD_eq_getElem?_getD, List.getElem?_eq_getElem hk]
  rfl
theorem BytesN.nil (w : World) (p : Nat) : BytesN w p (.slice none 0 0) [] := ⟨Bytes.nil w, fun h => absurd h (by simp)⟩
/-- A field of a number. -/
def fNum (s n : Int) : Fd := ⟨s, n, []⟩
/-- A field of bytes. -/
def fByt (b : List UInt8) : Fd := ⟨4, 0, b⟩
set_option maxRecDepth 100000 in
set_option maxHeartbeats 2000000 in
theorem wnum_any (s : Int) (ns : List Int) (v : Value) (p : Nat) (st : List UInt8 × Int) (w : World) (hW : IsW w p st) (hv : IntsN w p v ns) (hr : ∀ n ∈ ns, -9223372036854775808 ≤ n ∧ n ≤ 9223372036854775807) (hl : ns.length ≤ 1000000) :
    Calls Tryd.prog 54 #[.pointer (some ⟨p, 0, none⟩), .int .i64 s, v] w fun e w' => e = .returned (.pointer (some ⟨p, 0, none⟩)) ∧ IsW w' p ((ns.map (fNum s)).foldl putS st) ∧ w.grownBy w' (some p) := by
  have HV := Bx.mk hv
  have HR := Bx.mk hr
  have H0 : Bx (IsW w p (((ns.take 0).map (fNum s)).foldl putS st) ∧ w.grownBy w (some p)) := Bx.mk ⟨hW, kb_refl _ _⟩
  obtain ⟨a, cap, rfl, -⟩ := hv
  obtain ⟨n, hn⟩ : ∃ n, ns.length = n := ⟨_, rfl⟩
  have HN := Bx.mk hn
  rw [hn] at HV hl ⊢
  have hl1 : (n : Int) ≤ 1000000 := by omega
  clear hn hr hW
  go_enter Tryd.func54, Tryd.ntmps54
  go_wp2
  go_loopw [11] (fun i wr => ∃ k : Nat, k ≤ n ∧ i = .int .i64 (k : Int) ∧ Bx (IsW wr p (((ns.take k).map (fNum s)).foldl putS st) ∧ w.grownBy wr (some p))) (fun i _ => n - (intOf i).toNat)
  case atStart => exact ⟨0, Nat.zero_le _, rfl, H0⟩
  case round =>
    clear H0
    obtain ⟨k, hk, rfl, HI⟩ := hrel
    by_cases hlt : k < n
    · have hk1 : (k : Int) < (n : Int) := by omega
      obtain ⟨a', cap', hva, hcap, hrow⟩ := HV.out.grown HI.out.2
      injection hva with e1 e2 e3
      rw [HN.out] at hrow
      obtain ⟨g, o, ha, hgp, hf⟩ := hrow (by omega)
      have hcell := hf k hlt
      have HSt := Bx.mk (foldn_take (fNum s) ns st k (by rw [HN.out]; exact hlt))
      have HRk := Bx.mk (HR.out (ns.getD k 0) (by rw [List.getD_eq_getElem?_getD, List.getElem?_eq_getElem (by rw [HN.out]; exact hlt)]; exact List.getElem_mem _))
      subst ha
      subst e1
      subst e3
      clear e2 hf hrow hcap
      generalize ns.getD k 0 = m at *
      generalize ((ns.take k).map (fNum s)).foldl putS st = sk at *
      have HA : Bx (IsW (wr.alloc (.cells #[.int .i64 s, .int .i64 m, .slice none 0 0] 141)) p sk ∧ FldsN (wr.alloc (.cells #[.int .i64 s, .int .i64 m, .slice none 0 0] 141)) p (.slice (some ⟨wr.heap.size, 0, none⟩) 1 1) [fNum s m] ∧ wr.grownBy (wr.alloc (.cells #[.int .i64 s, .int .i64 m, .slice none 0 0] 141)) (some p)) := Bx.mk ⟨HI.out.1.later (below_a _) HI.out.1.lt, one_fld wr p (fNum s m) _ (BytesN.nil _ _) HI.out.1.lt, kb_below _ (below_a _)⟩
      have HP := Bx.mk (put_any [fNum s m] _ p sk _ HA.out.1 HA.out.2.1 (fun f hf => by simp at hf; subst hf; exact HRk.out) (by simp))
      go_wp2_with fail
      refine HP.out.mono ?_
      rintro e w3 ⟨rfl, hw3, hg3⟩
      have H3 : Bx (IsW w3 p (((ns.take (k + 1)).map (fNum s)).foldl putS st) ∧ w.grownBy w3 (some p)) := Bx.mk ⟨by rw [HSt.out]; exact hw3, kb_trans HI.out.2 (kb_trans HA.out.2.2 hg3)⟩
      clear hw3 hg3 HI HA HP
      go_wp2
      go_roundw
      case rel => exact ⟨k + 1, by omega, by go_num, H3⟩
      case measure => simp [intOf]; omega
    · obtain rfl : k = n := by omega
      have HE : Bx (IsW wr p ((ns.map (fNum s)).foldl putS st) ∧ w.grownBy wr (some p)) := Bx.mk ⟨by
        have h := HI.out.1
        rw [List.take_of_length_le (by rw [HN.out]; exact Nat.le_refl _)] at h
        exact h, HI.out.2⟩
      clear HI
      go_wp2
      go_ret
      exact ⟨rfl, HE.out⟩
end Go.Proofs.YtiengbmnfbbgoaaDoor
