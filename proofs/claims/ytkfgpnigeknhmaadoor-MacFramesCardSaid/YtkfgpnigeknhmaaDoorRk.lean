/-
  The document's digest: the blocks.
-/
import Derived.Test.YtkfgpnigeknhmaaDoorRg
import Derived.Test.YtkfgpnigeknhmaaDoorRh
import Derived.Test.YtkfgpnigeknhmaaDoorRi
namespace Go.Proofs.YtkfgpnigeknhmaaDoor
open Go Go.RowKit
theorem OwnB.kept {w w1 : World} {base b : Nat} {v : Value} {l : List UInt8} (h : OwnB w base v l) (hk : w.grownBy w1 (some b)) (hne : v.ownBlock ≠ some b) : OwnB w1 base v l := by
  refine ⟨h.1, ?_⟩
  rcases h.2 with h0 | ⟨g', cap, cur, hv, hb', hg', hr⟩
  · exact .inl h0
  · refine .inr ⟨g', cap, cur, hv, hb', ?_, hr⟩
    rw [hk.block g' (Array.getElem?_eq_some_iff.1 hg').1 (fun e => hne (by rw [hv]; exact e))]
    exact hg'
theorem RS.kept {w wr w1 : World} {tb : Array Value} {l : List UInt8} {v : Value} (h : RS w tb l v wr) {b : Nat} (hk : wr.grownBy w1 (some b)) (hb : w.heap.size + 2 ≤ b) (hne : v.ownBlock ≠ some b) : RS w tb l v w1 := by
  have h2 := h.size
  have hne' : ∀ i, i < w.heap.size + 2 → some i ≠ some b := fun i hi e => by injection e with e; omega
  exact ⟨⟨hk.os.trans h.below.os, hk.tape.trans h.below.tape, hk.output.trans h.below.output, Nat.le_trans h.below.size hk.size, fun i hi => (hk.block i (by omega) (hne' i (by omega))).trans (h.below.block i hi)⟩,
    Nat.le_trans h.size hk.size, by rw [hk.block _ (by omega) (hne' _ (by omega))]; exact h.tab, by rw [hk.block _ (by omega) (hne' _ (by omega))]; exact h.res, h.own.kept hk hne⟩
theorem RE.kept {w wr w1 : World} {tb : Array Value} {m : List UInt8} {G L C Hb : Nat} {hl : List (BitVec 32)} (h : RE w tb m G L C Hb hl wr) {b : Nat} (hk : wr.grownBy w1 (some b)) (hb : w.heap.size + 2 ≤ b) (h1 : G ≠ b) (h2 : Hb ≠ b) : RE w tb m G L C Hb hl w1 :=
  ⟨h.rs.kept hk hb (by intro e; injection e with e; exact h1 e), h.hb, h.ne, Nat.lt_of_lt_of_le h.lt hk.size, by rw [hk.block _ h.lt (by intro e; injection e with e; exact h2 e)]; exact h.row⟩
theorem RE.mixed {w wr w1 : World} {tb : Array Value} {m : List UInt8} {G L C Hb : Nat} {hl hl' : List (BitVec 32)} (h : RE w tb m G L C Hb hl wr) (hk : wr.grownBy w1 (some Hb)) (hr : w1.heap[Hb]? = some (.cells (u32s hl') 30 (0, 0))) : RE w tb m G L C Hb hl' w1 :=
  ⟨h.rs.kept hk h.hb (by intro e; injection e with e; exact h.ne e), h.hb, h.ne, Nat.lt_of_lt_of_le h.lt hk.size, hr⟩
theorem tab_cell {w : World} {b : Nat} {t : TypeId} {tb : Array Value} (h : w.heap[b]? = some (.cells tb t (0, 0))) (ht : u32s (kTab ++ hTab) = tb) (i : Nat) (hi : i < 64) : w.cell? ⟨b, i, none⟩ = some (.int .u32 (uv (kTab.getD i 0))) := by
  rw [cell_of_row _ _ _ _ _ _ h, ← ht, u32s_get _ _ (by show i < 72; omega)]
  congr 3
  rw [List.getD_eq_getElem?_getD, List.getElem?_append_left (by show i < 64; omega), ← List.getD_eq_getElem?_getD]
theorem list_eight (l : List (BitVec 32)) (h : l.length = 8) : (eightOf l).list = l := by
  match l, h with
  | [a, b, c, d, e, f, g, i], _ => rfl
theorem hs_mix (k : Nat) (m : List UInt8) : hs (k + 1) m = mix (hs k m) (blk k m) := rfl
/-- What holds at the head of each block. -/
structure I3 (w : World) (tb : Array Value) (m : List UInt8) (G L C Hb : Nat) (k : Nat) (a : Act) (wr : World) : Prop where
  lv : Lv (.pointer (some ⟨w.heap.size, 0, none⟩)) (.pointer (some ⟨w.heap.size + 1, 0, none⟩)) (.slice (some ⟨G, 0, none⟩) L C) (.pointer (some ⟨Hb, 0, none⟩)) (.int .i64 ((64 * k : Nat) : Int)) a
  re : RE w tb m G L C Hb (hs k m) wr
set_option maxRecDepth 100000 in
set_option maxHeartbeats 2000000 in
theorem round3 (w : World) (tb : Array Value) (m : List UInt8) (G L C Hb : Nat) (Q : Exit → Act → World → Prop) (htb : u32s (kTab ++ hTab) = tb) (hml : m.length = L) (hL1 : L ≤ 1099511628000)
    (k : Nat) (hk : 64 * k + 64 ≤ L) (a : Act) (wr : World) (h : I3 w tb m G L C Hb k a wr) :
    Code.wp Tryd.prog (loopAt Tryd.f12.body 2) (Exit.then (fun a' w' => I3 w tb m G L C Hb (k + 1) a' w') Q) a wr := by
  have HR := Bx.mk h.re
  have HT := Bx.mk htb
  have HM := Bx.mk (And.intro hml (And.intro hL1 hk))
  obtain ⟨x, rfl, hx⟩ := open266 h.lv.fr
  have e2 := (hx 2).symm.trans h.lv.s2
  have e4 := (hx 4).symm.trans h.lv.s4
  have e5 := (hx 5).symm.trans h.lv.s5
  have e8 := (hx 8).symm.trans h.lv.s8
  have e9 := (hx 9).symm.trans h.lv.s9
  clear h hx htb hml
  rw [e2, e4, e5, e8, e9]
  clear e2 e4 e5 e8 e9
  obtain ⟨o, ho⟩ : ∃ o, 64 * k = o := ⟨_, rfl⟩
  rw [ho]
  have HO := Bx.mk ho
  have h1 : (o : Int) < (L : Int) := by omega
  have h2 : (L : Int) ≤ 1099511628000 := by omega
  clear hL1 hk ho
  have HI64 : Bx ((Tryd.prog.info? 29).map (·.size) = some (u32s (List.replicate 64 0)).size) := Bx.mk (by kernel_rfl)
  obtain ⟨wc, rfl⟩ : ∃ wc : World, wc = wr := ⟨_, rfl⟩
  have HHw : Bx (w.heap.size + 2 ≤ wc.heap.size ∧ G ≠ wc.heap.size ∧ Hb ≠ wc.heap.size) := Bx.mk (by
    have h1 := HR.out.lt
    have h2 := HR.out.rs.size
    have h3 := (HR.out.rs.own.lt G rfl).1
    exact ⟨h2, by omega, by omega⟩)
  conv => arg 2; whnf
  go_wp2_with (refine wpList_store_new rfl 29 _ _ rfl wc.heap.size (u32s (List.replicate 64 0)) _ _ (by rfl) (by rfl) (hnew _ _ _ rfl) (by kernel_rfl) HI64.out (one_u32s _) ?_; intro w5 hw5 hr5; have H5 : Bx (RE w tb m G L C Hb (hs k m) w5 ∧ w5.heap[wc.heap.size]? = some (.cells (u32s (List.replicate 64 0)) 29 (0, 0)) ∧ w5.heap.size = wc.heap.size + 1) := Bx.mk ⟨by rw [hw5]; exact RE.sets _ HHw.out.1 HHw.out.2.1 HHw.out.2.2 _ _ _ (HR.out.alloc _), hr5, by rw [hw5, size_setCells]; simp⟩; clear hw5 hr5)
  clear HI64 HR
  generalize wc.heap.size = Wb at *
  refine loop4 (.pointer (some ⟨w.heap.size, 0, none⟩)) (.pointer (some ⟨w.heap.size + 1, 0, none⟩)) (.pointer (some ⟨Hb, 0, none⟩)) G L C Wb w5 m (blk k m) o _ (fun i hi => own_cell H5.out.1.rs.own _ (by have := HM.out; have := HO.out; omega)) (fun j hj => by rw [← HO.out]; exact blk_word m k j hj) HHw.out.2.1 (by have := HM.out; have := HO.out; omega) HM.out.2.1 _ _ ⟨⟨⟨rfl, rfl⟩, rfl, rfl, rfl, rfl, rfl⟩, rfl, rfl, H5.out.2.1, kb_refl _ _⟩ ?_
  intro a' w6 h
  have H6 : Bx (RE w tb m G L C Hb (hs k m) w6 ∧ w6.heap[Wb]? = some (.cells (u32s (words (blk k m))) 29 (0, 0)) ∧ Wb < w6.heap.size) := Bx.mk ⟨H5.out.1.kept h.kept HHw.out.1 HHw.out.2.1 HHw.out.2.2, by rw [← stW_words]; exact h.row, by have := h.kept.size; have := H5.out.2.2; omega⟩
  clear H5
  obtain ⟨x, rfl, hx⟩ := open266 h.lv.fr
  have e2 := (hx 2).symm.trans h.lv.s2
  have e4 := (hx 4).symm.trans h.lv.s4
  have e5 := (hx 5).symm.trans h.lv.s5
  have e8 := (hx 8).symm.trans h.lv.s8
  have e9 := (hx 9).symm.trans h.lv.s9
  have e10 := (hx 10).symm.trans h.s10
  clear h hx 
  rw [e2, e4, e5, e8, e9, e10]
  clear e2 e4 e5 e8 e9 e10
  have HH8 : Bx ((hs k m).length = 8) := Bx.mk (hs_length k m)
  have HSM : Bx (hs (k + 1) m = mix (hs k m) (blk k m)) := Bx.mk (hs_mix k m)
  generalize hs k m = hl at *
  have HI8 : Bx ((Tryd.prog.info? 30).map (·.size) = some (u32s hl).size) := Bx.mk (by rw [u32s_size, HH8.out]; kernel_rfl)
  have HN8 : Bx ((w6.alloc (.cells #[.int .u32 0, .int .u32 0, .int .u32 0, .int .u32 0, .int .u32 0, .int .u32 0, .int .u32 0, .int .u32 0] 30)).heap[w6.heap.size]? = some (.cells (u32s (List.replicate 8 0)) 30 (0, 0))) := Bx.mk (by rw [hnew _ _ _ rfl, zero8])
  have HS8 : Bx ((u32s hl).size = (u32s (List.replicate 8 0)).size) := Bx.mk (by rw [u32s_size, u32s_size, HH8.out]; rfl)
  have HVw : Bx (w.heap.size + 2 ≤ w6.heap.size ∧ G ≠ w6.heap.size ∧ Hb ≠ w6.heap.size) := Bx.mk (by
    have h1 := H6.out.1.lt
    have h2 := H6.out.1.rs.size
    have h3 := (H6.out.1.rs.own.lt G rfl).1
    exact ⟨h2, by omega, by omega⟩)
  go_wp2_with (first | (refine wpList_load_row rfl 30 _ rfl Hb (by rfl) _ _ _ _ H6.out.1.row Tryd.underlying30 rfl HI8.out ?_) | (refine wpList_store_new rfl 30 _ _ rfl w6.heap.size (u32s hl) _ _ (by rfl) (by rfl) HN8.out HS8.out HI8.out (one_u32s _) ?_; intro w7 hw7 hr7; have H7 : Bx (RE w tb m G L C Hb hl w7 ∧ w7.heap[w6.heap.size]? = some (.cells (u32s hl) 30 (0, 0)) ∧ w7.heap[Wb]? = some (.cells (u32s (words (blk k m))) 29 (0, 0)) ∧ w7.heap.size = w6.heap.size + 1 ∧ Wb ≠ w6.heap.size) := Bx.mk ⟨by rw [hw7]; exact RE.sets _ HVw.out.1 HVw.out.2.1 HVw.out.2.2 _ _ _ (H6.out.1.alloc _), hr7, by (rw [hw7, heap_setCells_other _ _ (by have := H6.out.2.2; omega), hold _ _ _ H6.out.2.2]; exact H6.out.2.1), by rw [hw7, size_setCells]; simp, by have := H6.out.2.2; omega⟩; clear hw7 hr7))
  clear H6 HN8 HI8 HS8
  generalize w6.heap.size = Vb at *
  refine loop6 (.pointer (some ⟨w.heap.size + 1, 0, none⟩)) (.slice (some ⟨G, 0, none⟩) L C) (.pointer (some ⟨Hb, 0, none⟩)) (.int .i64 (o : Int)) w.heap.size Wb Vb w7 (blk k m) (eightOf hl) _ (tab_cell H7.out.1.rs.tab HT.out) (fun i hi => cell_u32 H7.out.2.2.1 i (by rw [words_length]; exact hi)) (by have := HVw.out.1; omega) H7.out.2.2.2.2 _ _ ⟨⟨⟨rfl, rfl⟩, rfl, rfl, rfl, rfl, rfl⟩, rfl, rfl, rfl, by rw [show rnds (blk k m) (eightOf hl) 0 = eightOf hl from rfl, list_eight hl HH8.out]; exact H7.out.2.1, kb_refl _ _⟩ ?_
  intro a' w8 h
  have H8 : Bx (RE w tb m G L C Hb hl w8 ∧ w8.heap[Vb]? = some (.cells (u32s (rnds (blk k m) (eightOf hl) 64).list) 30 (0, 0))) := Bx.mk ⟨H7.out.1.kept h.kept HVw.out.1 HVw.out.2.1 HVw.out.2.2, h.row⟩
  clear H7
  obtain ⟨x, rfl, hx⟩ := open266 h.lv.fr
  have e2 := (hx 2).symm.trans h.lv.s2
  have e4 := (hx 4).symm.trans h.lv.s4
  have e5 := (hx 5).symm.trans h.lv.s5
  have e8 := (hx 8).symm.trans h.lv.s8
  have e9 := (hx 9).symm.trans h.lv.s9
  have e10 := (hx 10).symm.trans h.s10
  have e15 := (hx 15).symm.trans h.s15
  clear h hx 
  rw [e2, e4, e5, e8, e9, e10, e15]
  clear e2 e4 e5 e8 e9 e10 e15
  go_wp2
  refine loop7 (.pointer (some ⟨w.heap.size, 0, none⟩)) (.pointer (some ⟨w.heap.size + 1, 0, none⟩)) (.slice (some ⟨G, 0, none⟩) L C) (.int .i64 (o : Int)) Hb Vb w8 hl (rnds (blk k m) (eightOf hl) 64).list _ (fun i hi => cell_u32 H8.out.2 i hi) (fun e => HVw.out.2.2 e.symm) HH8.out _ _ ⟨⟨⟨rfl, rfl⟩, rfl, rfl, rfl, rfl, rfl⟩, rfl, rfl, H8.out.1.row, kb_refl _ _⟩ ?_
  intro a' w9 h
  have H9 : Bx (RE w tb m G L C Hb (hs (k + 1) m) w9) := Bx.mk (by rw [HSM.out]; exact H8.out.1.mixed h.kept h.row)
  clear H8
  obtain ⟨x, rfl, hx⟩ := open266 h.lv.fr
  have e2 := (hx 2).symm.trans h.lv.s2
  have e4 := (hx 4).symm.trans h.lv.s4
  have e5 := (hx 5).symm.trans h.lv.s5
  have e8 := (hx 8).symm.trans h.lv.s8
  have e9 := (hx 9).symm.trans h.lv.s9
  clear h hx 
  rw [e2, e4, e5, e8, e9]
  clear e2 e4 e5 e8 e9
  go_wp2
  have HE : Bx (((64 * (k + 1) : Nat) : Int) = (o : Int) + 64) := Bx.mk (by have := HO.out; omega)
  exact ⟨⟨⟨rfl, rfl⟩, rfl, rfl, rfl, rfl, by rw [HE.out]; rfl⟩, H9.out⟩
set_option maxRecDepth 100000 in
theorem last3 (w : World) (tb : Array Value) (m : List UInt8) (G L C Hb : Nat) (Q : Exit → Act → World → Prop) (N : Act → World → Prop) (k : Nat) (hk : L = 64 * k) (hL1 : L ≤ 1099511628000)
    (hq : ∀ a' w', I3 w tb m G L C Hb k a' w' → Q (.exit 4) a' w') (a : Act) (wr : World) (h : I3 w tb m G L C Hb k a wr) :
    Code.wp Tryd.prog (loopAt Tryd.f12.body 2) (Exit.then N Q) a wr := by
  have HR := Bx.mk h.re
  have HQ := Bx.mk hq
  have HE := Bx.mk hk
  clear hq
  obtain ⟨x, rfl, hx⟩ := open266 h.lv.fr
  have e2 := (hx 2).symm.trans h.lv.s2
  have e4 := (hx 4).symm.trans h.lv.s4
  have e5 := (hx 5).symm.trans h.lv.s5
  have e8 := (hx 8).symm.trans h.lv.s8
  have e9 := (hx 9).symm.trans h.lv.s9
  clear h hx 
  rw [e2, e4, e5, e8, e9]
  clear e2 e4 e5 e8 e9
  rw [← hk]
  clear hk
  have h1 : (L : Int) ≤ 1099511628000 := by omega
  conv => arg 2; whnf
  go_wp2
  exact HQ.out _ _ ⟨⟨⟨rfl, rfl⟩, rfl, rfl, rfl, rfl, by rw [← HE.out]; rfl⟩, HR.out⟩
/-- All blocks. -/
theorem loop3 (w : World) (tb : Array Value) (m : List UInt8) (G L C Hb : Nat) (Q : Exit → Act → World → Prop) (htb : u32s (kTab ++ hTab) = tb) (hml : m.length = L) (hL1 : L ≤ 1099511628000) (h64 : L % 64 = 0)
    (a : Act) (wr : World) (h : I3 w tb m G L C Hb 0 a wr) (hq : ∀ a' w', I3 w tb m G L C Hb (L / 64) a' w' → Q (.exit 4) a' w') :
    Code.wp Tryd.prog (.loop (loopAt Tryd.f12.body 2)) Q a wr :=
  wp_count (L / 64) (fun q => I3 w tb m G L C Hb q) 0 (by omega) h (fun q a w1 hlt hI => round3 w tb m G L C Hb Q htb hml hL1 q (by omega) a w1 hI) (fun a w1 hI => last3 w tb m G L C Hb Q _ (L / 64) (by omega) hL1 hq a w1 hI)
end Go.Proofs.YtkfgpnigeknhmaaDoor
