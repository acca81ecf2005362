/-
  Delta: the document's digest of a set.
-/
import Derived.Test.YtnfgamekjbkbkaaDoorD9
import Derived.Test.YtnfgamekjbkbkaaDoorFp
namespace Go.Proofs.YtnfgamekjbkbkaaDoor
open Go Go.RowKit
theorem rng_cell {W : World} {F : Nat} {cs : List Value} (h : W.rangeAt F 0 cs) (k : Nat) (v : Value) (hk : cs[k]? = some v) : W.cell? ⟨F, k, none⟩ = some v := by
  have := h k v hk
  rw [Nat.zero_add] at this
  exact this
set_option maxRecDepth 100000 in
set_option maxHeartbeats 16000000 in
theorem rof9 (q : Nat) (l : L4) (w : World) (hs : RAt w q l) (hg : Good l) : Calls Tryd.prog 25 #[.agg (u32s (kTab ++ hTab)), .pointer (some ⟨q, 0, none⟩)] w fun e w' => e = .returned (.agg (dgC l.ver (prtL l))) ∧ Below w.heap.size w w' := by
  obtain ⟨E, hE⟩ : ∃ E, w.heap.size = E := ⟨_, rfl⟩
  have hqE : q < E := by rw [← hE]; exact hs.lt
  have HPr : Bx (∀ W, Below E w W → Calls Tryd.prog 64 #[.pointer (some ⟨q, 0, none⟩), .agg (u32s (kTab ++ hTab))] W fun e w' => e = .returned (.agg (u8s (sha (printB l)))) ∧ Below W.heap.size W w') := ⟨fun W h => rprint8 q l W (hs.later (by rw [hE]; exact h)) hg⟩
  obtain ⟨x, hx, hr⟩ := id hs
  obtain ⟨p1, q1, t1, s1, a1, b1, c1, d1, rfl⟩ := hr.forms
  have HRow : Bx (∀ W, Below E w W → W.heap[q]? = some (.cells #[.slice p1 l.a.length a1, .slice q1 l.b.length b1, .slice t1 l.c.length c1, .slice s1 l.d.length d1] 79 (0, 0))) := ⟨fun W h => by rw [h.block q hqE]; exact hx⟩
  have hs32 : (sha (printB l)).length = 32 := sha_length _
  obtain ⟨p, r, hp⟩ := list8_of (sha (printB l)) (by omega)
  have hpl : prtL l = p := by unfold prtL; rw [hp]; rfl
  rw [hpl]
  have HLn : Bx ((l.a.length : Int) ≤ 1000000 ∧ (l.b.length : Int) ≤ 1000000 ∧ (l.c.length : Int) ≤ 1000000 ∧ (l.d.length : Int) ≤ 1000000) := ⟨by have := hg.a; have := hg.b; have := hg.c; have := hg.d; omega⟩
  obtain ⟨tb, htb⟩ : ∃ z, u32s (kTab ++ hTab) = z := ⟨_, rfl⟩
  have HTI : Bx ((Tryd.prog.info? 59).map (·.size) = some tb.size) := ⟨by rw [← htb]; kernel_rfl⟩
  rw [htb] at HPr ⊢
  obtain ⟨z32, hz32⟩ : ∃ z, u8s (List.replicate 32 0) = z := ⟨_, rfl⟩
  have hz32v : ∀ W : World, (zeroValue 121).run Tryd.prog W = .ok (.agg z32) W := fun W => by rw [← hz32, zero32]; kernel_rfl
  clear htb hpl hg hs hx hr
  generalize sha (printB l) = s at *
  have HI : Bx ((Tryd.prog.info? 121).map (·.size) = some (u8s s).size) := Bx.mk (by rw [u8s_size, hs32]; kernel_rfl)
  have HZ3 : Bx ((u8s s).size = z32.size) := Bx.mk (by rw [u8s_size, hs32, ← hz32]; rfl)
  have HSp := Bx.mk hp
  clear hz32 hs32 hp
  have K0 : Bx (KR w E [(E + 1, .cells #[.int .i64 0, .int .i64 0, .int .i64 0, .int .i64 0, .int .u8 0, .int .u8 0, .int .u8 0, .int .u8 0, .int .u8 0, .int .u8 0, .int .u8 0, .int .u8 0] 50), (E, .cells tb 59)] ((w.alloc (.cells tb 59)).alloc (.cells #[.int .i64 0, .int .i64 0, .int .i64 0, .int .i64 0, .int .u8 0, .int .u8 0, .int .u8 0, .int .u8 0, .int .u8 0, .int .u8 0, .int .u8 0, .int .u8 0] 50))) := Bx.mk (by
    subst hE
    have h := ((KR.start w).new (.cells tb 59)).new (.cells #[.int .i64 0, .int .i64 0, .int .i64 0, .int .i64 0, .int .u8 0, .int .u8 0, .int .u8 0, .int .u8 0, .int .u8 0, .int .u8 0, .int .u8 0, .int .u8 0] 50)
    simpa using h)
  have hK0s : ((w.alloc (.cells tb 59)).alloc (.cells #[.int .i64 0, .int .i64 0, .int .i64 0, .int .i64 0, .int .u8 0, .int .u8 0, .int .u8 0, .int .u8 0, .int .u8 0, .int .u8 0, .int .u8 0, .int .u8 0] 50)).heap.size = E + 2 := by simp [hE]
  unfold dgC
  go_enter Tryd.func25, Tryd.ntmps25
  go_upto_region 1 with fail
  generalize ((w.alloc (.cells tb 59)).alloc (.cells #[.int .i64 0, .int .i64 0, .int .i64 0, .int .i64 0, .int .u8 0, .int .u8 0, .int .u8 0, .int .u8 0, .int .u8 0, .int .u8 0, .int .u8 0, .int .u8 0] 50)) = w0 at *
  go_upto_region 2 with (refine wpList_store_v9 rfl 50 _ _ rfl w0 (E + 2) hK0s #[.int .i64 0, .int .i64 0, .int .i64 0, .int .i64 0, .int .u8 0, .int .u8 0, .int .u8 0, .int .u8 0, .int .u8 0, .int .u8 0, .int .u8 0, .int .u8 0] 50 rfl (by rfl) #[.int .i64 0, .int .i64 0, .int .i64 0, .int .i64 0, .int .u8 0, .int .u8 0, .int .u8 0, .int .u8 0, .int .u8 0, .int .u8 0, .int .u8 0, .int .u8 0] (by rfl) rfl (by kernel_rfl) (by simp [Value.oneCell']) ?_; intro w1 hb hr _; have K1 := Bx.mk (K0.out.var9 hK0s hb hr); clear hb hr K0)
  clear hK0s
  go_wp2_with (refine wpList_load_row rfl 59 _ rfl E (by rfl) _ tb (0, 0) _ (K1.out.rows _ (.tail _ (.tail _ (.head _)))) Tryd.underlying59 rfl HTI.out ?_)
  refine (HPr.out w1 K1.out.below).mono ?_
  rintro e w2 ⟨rfl, hb⟩
  have K2 := Bx.mk (K1.out.later hb)
  clear hb K1 HPr
  obtain ⟨F, hF⟩ : ∃ F, w2.heap.size = F := ⟨_, rfl⟩
  have HF : Bx (E + 2 < F) := ⟨by rw [← hF]; exact K2.out.lt (.head _)⟩
  go_upto_region 3 with (refine wpList_store_v9 rfl 121 _ _ rfl w2 F hF z32 121 rfl (by rfl) (u8s s) (by rfl) HZ3.out HI.out (one_u8s _) ?_; intro w3 hb hr _; have K3 := Bx.mk (K2.out.var9 hF hb hr); clear hb hr K2)
  have R0 : Bx (KR w E [(E + 2, .cells #[.int .i64 0, .int .i64 0, .int .i64 0, .int .i64 0, .int .u8 0, .int .u8 0, .int .u8 0, .int .u8 0, .int .u8 0, .int .u8 0, .int .u8 0, .int .u8 0] 50), (E + 1, .cells #[.int .i64 0, .int .i64 0, .int .i64 0, .int .i64 0, .int .u8 0, .int .u8 0, .int .u8 0, .int .u8 0, .int .u8 0, .int .u8 0, .int .u8 0, .int .u8 0] 50), (F, .cells (u8s s) 121)] w3) := ⟨K3.out.sub (fun x hx => by simp at hx ⊢; rcases hx with rfl | rfl | rfl <;> simp)⟩
  clear K3 hF HI HZ3 hz32v HTI
  obtain ⟨hl1, hl2, hl3, hl4⟩ := HLn.out
  go_wp2
  refine wp_loop_rounds 5 ?_
  rw [rounds_succ]
  have m : w3.cell? ⟨q, 0, none⟩ = some (.slice p1 l.a.length a1) := by rw [cell_of_row _ _ _ _ _ _ (HRow.out _ R0.out.below)]; rfl
  go_wp2_with (refine wpList_cellI rfl _ _ rfl (E + 2) 0 (l.a.length : Int) #[.int .i64 0, .int .i64 0, .int .i64 0, .int .i64 0, .int .u8 0, .int .u8 0, .int .u8 0, .int .u8 0, .int .u8 0, .int .u8 0, .int .u8 0, .int .u8 0] #[.int .i64 (l.a.length : Int), .int .i64 0, .int .i64 0, .int .i64 0, .int .u8 0, .int .u8 0, .int .u8 0, .int .u8 0, .int .u8 0, .int .u8 0, .int .u8 0, .int .u8 0] 50 (by rfl) (by rfl) (R0.out.rows _ (.head _)) (by simp) rfl ?_; intro x0 hg hr; have R1 := Bx.mk (R0.out.set hg hr (by omega) (by intro y hy; have := HF.out; simp at hy; rcases hy with rfl | rfl <;> (simp only; omega))); clear hg hr R0 m)
  rw [rounds_succ]
  have m : x0.cell? ⟨q, 1, none⟩ = some (.slice q1 l.b.length b1) := by rw [cell_of_row _ _ _ _ _ _ (HRow.out _ R1.out.below)]; rfl
  go_wp2_with (refine wpList_cellI rfl _ _ rfl (E + 2) 1 (l.b.length : Int) #[.int .i64 (l.a.length : Int), .int .i64 0, .int .i64 0, .int .i64 0, .int .u8 0, .int .u8 0, .int .u8 0, .int .u8 0, .int .u8 0, .int .u8 0, .int .u8 0, .int .u8 0] #[.int .i64 (l.a.length : Int), .int .i64 (l.b.length : Int), .int .i64 0, .int .i64 0, .int .u8 0, .int .u8 0, .int .u8 0, .int .u8 0, .int .u8 0, .int .u8 0, .int .u8 0, .int .u8 0] 50 (by rfl) (by rfl) (R1.out.rows _ (.head _)) (by simp) rfl ?_; intro x1 hg hr; have R2 := Bx.mk (R1.out.set hg hr (by omega) (by intro y hy; have := HF.out; simp at hy; rcases hy with rfl | rfl <;> (simp only; omega))); clear hg hr R1 m)
  rw [rounds_succ]
  have m : x1.cell? ⟨q, 2, none⟩ = some (.slice t1 l.c.length c1) := by rw [cell_of_row _ _ _ _ _ _ (HRow.out _ R2.out.below)]; rfl
  go_wp2_with (refine wpList_cellI rfl _ _ rfl (E + 2) 2 (l.c.length : Int) #[.int .i64 (l.a.length : Int), .int .i64 (l.b.length : Int), .int .i64 0, .int .i64 0, .int .u8 0, .int .u8 0, .int .u8 0, .int .u8 0, .int .u8 0, .int .u8 0, .int .u8 0, .int .u8 0] #[.int .i64 (l.a.length : Int), .int .i64 (l.b.length : Int), .int .i64 (l.c.length : Int), .int .i64 0, .int .u8 0, .int .u8 0, .int .u8 0, .int .u8 0, .int .u8 0, .int .u8 0, .int .u8 0, .int .u8 0] 50 (by rfl) (by rfl) (R2.out.rows _ (.head _)) (by simp) rfl ?_; intro x2 hg hr; have R3 := Bx.mk (R2.out.set hg hr (by omega) (by intro y hy; have := HF.out; simp at hy; rcases hy with rfl | rfl <;> (simp only; omega))); clear hg hr R2 m)
  rw [rounds_succ]
  have m : x2.cell? ⟨q, 3, none⟩ = some (.slice s1 l.d.length d1) := by rw [cell_of_row _ _ _ _ _ _ (HRow.out _ R3.out.below)]; rfl
  go_wp2_with (refine wpList_cellI rfl _ _ rfl (E + 2) 3 (l.d.length : Int) #[.int .i64 (l.a.length : Int), .int .i64 (l.b.length : Int), .int .i64 (l.c.length : Int), .int .i64 0, .int .u8 0, .int .u8 0, .int .u8 0, .int .u8 0, .int .u8 0, .int .u8 0, .int .u8 0, .int .u8 0] #[.int .i64 (l.a.length : Int), .int .i64 (l.b.length : Int), .int .i64 (l.c.length : Int), .int .i64 (l.d.length : Int), .int .u8 0, .int .u8 0, .int .u8 0, .int .u8 0, .int .u8 0, .int .u8 0, .int .u8 0, .int .u8 0] 50 (by rfl) (by rfl) (R3.out.rows _ (.head _)) (by simp) rfl ?_; intro x3 hg hr; have R4 := Bx.mk (R3.out.set hg hr (by omega) (by intro y hy; have := HF.out; simp at hy; rcases hy with rfl | rfl <;> (simp only; omega))); clear hg hr R3 m)
  rw [rounds_succ]
  go_wp2
  refine wp_loop_rounds 9 ?_
  rw [rounds_succ]
  have m : x3.cell? ⟨F, 0, none⟩ = some (.int .u8 (ub p.a)) := rng_cell (rng8_p (R4.out.rows _ (.tail _ (.tail _ (.head _)))) HSp.out) 0 _ rfl
  go_wp2_with (refine wpList_cellU rfl _ _ rfl (E + 2) 4 (ub p.a) #[.int .i64 (l.a.length : Int), .int .i64 (l.b.length : Int), .int .i64 (l.c.length : Int), .int .i64 (l.d.length : Int), .int .u8 0, .int .u8 0, .int .u8 0, .int .u8 0, .int .u8 0, .int .u8 0, .int .u8 0, .int .u8 0] #[.int .i64 (l.a.length : Int), .int .i64 (l.b.length : Int), .int .i64 (l.c.length : Int), .int .i64 (l.d.length : Int), .int .u8 (ub p.a), .int .u8 0, .int .u8 0, .int .u8 0, .int .u8 0, .int .u8 0, .int .u8 0, .int .u8 0] 50 (by rfl) (by rfl) (R4.out.rows _ (.head _)) (by simp) rfl ?_; intro x4 hg hr; have R5 := Bx.mk (R4.out.set hg hr (by omega) (by intro y hy; have := HF.out; simp at hy; rcases hy with rfl | rfl <;> (simp only; omega))); clear hg hr R4 m)
  rw [rounds_succ]
  have m : x4.cell? ⟨F, 1, none⟩ = some (.int .u8 (ub p.b)) := rng_cell (rng8_p (R5.out.rows _ (.tail _ (.tail _ (.head _)))) HSp.out) 1 _ rfl
  go_wp2_with (refine wpList_cellU rfl _ _ rfl (E + 2) 5 (ub p.b) #[.int .i64 (l.a.length : Int), .int .i64 (l.b.length : Int), .int .i64 (l.c.length : Int), .int .i64 (l.d.length : Int), .int .u8 (ub p.a), .int .u8 0, .int .u8 0, .int .u8 0, .int .u8 0, .int .u8 0, .int .u8 0, .int .u8 0] #[.int .i64 (l.a.length : Int), .int .i64 (l.b.length : Int), .int .i64 (l.c.length : Int), .int .i64 (l.d.length : Int), .int .u8 (ub p.a), .int .u8 (ub p.b), .int .u8 0, .int .u8 0, .int .u8 0, .int .u8 0, .int .u8 0, .int .u8 0] 50 (by rfl) (by rfl) (R5.out.rows _ (.head _)) (by simp) rfl ?_; intro x5 hg hr; have R6 := Bx.mk (R5.out.set hg hr (by omega) (by intro y hy; have := HF.out; simp at hy; rcases hy with rfl | rfl <;> (simp only; omega))); clear hg hr R5 m)
  rw [rounds_succ]
  have m : x5.cell? ⟨F, 2, none⟩ = some (.int .u8 (ub p.c)) := rng_cell (rng8_p (R6.out.rows _ (.tail _ (.tail _ (.head _)))) HSp.out) 2 _ rfl
  go_wp2_with (refine wpList_cellU rfl _ _ rfl (E + 2) 6 (ub p.c) #[.int .i64 (l.a.length : Int), .int .i64 (l.b.length : Int), .int .i64 (l.c.length : Int), .int .i64 (l.d.length : Int), .int .u8 (ub p.a), .int .u8 (ub p.b), .int .u8 0, .int .u8 0, .int .u8 0, .int .u8 0, .int .u8 0, .int .u8 0] #[.int .i64 (l.a.length : Int), .int .i64 (l.b.length : Int), .int .i64 (l.c.length : Int), .int .i64 (l.d.length : Int), .int .u8 (ub p.a), .int .u8 (ub p.b), .int .u8 (ub p.c), .int .u8 0, .int .u8 0, .int .u8 0, .int .u8 0, .int .u8 0] 50 (by rfl) (by rfl) (R6.out.rows _ (.head _)) (by simp) rfl ?_; intro x6 hg hr; have R7 := Bx.mk (R6.out.set hg hr (by omega) (by intro y hy; have := HF.out; simp at hy; rcases hy with rfl | rfl <;> (simp only; omega))); clear hg hr R6 m)
  rw [rounds_succ]
  have m : x6.cell? ⟨F, 3, none⟩ = some (.int .u8 (ub p.d)) := rng_cell (rng8_p (R7.out.rows _ (.tail _ (.tail _ (.head _)))) HSp.out) 3 _ rfl
  go_wp2_with (refine wpList_cellU rfl _ _ rfl (E + 2) 7 (ub p.d) #[.int .i64 (l.a.length : Int), .int .i64 (l.b.length : Int), .int .i64 (l.c.length : Int), .int .i64 (l.d.length : Int), .int .u8 (ub p.a), .int .u8 (ub p.b), .int .u8 (ub p.c), .int .u8 0, .int .u8 0, .int .u8 0, .int .u8 0, .int .u8 0] #[.int .i64 (l.a.length : Int), .int .i64 (l.b.length : Int), .int .i64 (l.c.length : Int), .int .i64 (l.d.length : Int), .int .u8 (ub p.a), .int .u8 (ub p.b), .int .u8 (ub p.c), .int .u8 (ub p.d), .int .u8 0, .int .u8 0, .int .u8 0, .int .u8 0] 50 (by rfl) (by rfl) (R7.out.rows _ (.head _)) (by simp) rfl ?_; intro x7 hg hr; have R8 := Bx.mk (R7.out.set hg hr (by omega) (by intro y hy; have := HF.out; simp at hy; rcases hy with rfl | rfl <;> (simp only; omega))); clear hg hr R7 m)
  rw [rounds_succ]
  have m : x7.cell? ⟨F, 4, none⟩ = some (.int .u8 (ub p.e)) := rng_cell (rng8_p (R8.out.rows _ (.tail _ (.tail _ (.head _)))) HSp.out) 4 _ rfl
  go_wp2_with (refine wpList_cellU rfl _ _ rfl (E + 2) 8 (ub p.e) #[.int .i64 (l.a.length : Int), .int .i64 (l.b.length : Int), .int .i64 (l.c.length : Int), .int .i64 (l.d.length : Int), .int .u8 (ub p.a), .int .u8 (ub p.b), .int .u8 (ub p.c), .int .u8 (ub p.d), .int .u8 0, .int .u8 0, .int .u8 0, .int .u8 0] #[.int .i64 (l.a.length : Int), .int .i64 (l.b.length : Int), .int .i64 (l.c.length : Int), .int .i64 (l.d.length : Int), .int .u8 (ub p.a), .int .u8 (ub p.b), .int .u8 (ub p.c), .int .u8 (ub p.d), .int .u8 (ub p.e), .int .u8 0, .int .u8 0, .int .u8 0] 50 (by rfl) (by rfl) (R8.out.rows _ (.head _)) (by simp) rfl ?_; intro x8 hg hr; have R9 := Bx.mk (R8.out.set hg hr (by omega) (by intro y hy; have := HF.out; simp at hy; rcases hy with rfl | rfl <;> (simp only; omega))); clear hg hr R8 m)
  rw [rounds_succ]
  have m : x8.cell? ⟨F, 5, none⟩ = some (.int .u8 (ub p.f)) := rng_cell (rng8_p (R9.out.rows _ (.tail _ (.tail _ (.head _)))) HSp.out) 5 _ rfl
  go_wp2_with (refine wpList_cellU rfl _ _ rfl (E + 2) 9 (ub p.f) #[.int .i64 (l.a.length : Int), .int .i64 (l.b.length : Int), .int .i64 (l.c.length : Int), .int .i64 (l.d.length : Int), .int .u8 (ub p.a), .int .u8 (ub p.b), .int .u8 (ub p.c), .int .u8 (ub p.d), .int .u8 (ub p.e), .int .u8 0, .int .u8 0, .int .u8 0] #[.int .i64 (l.a.length : Int), .int .i64 (l.b.length : Int), .int .i64 (l.c.length : Int), .int .i64 (l.d.length : Int), .int .u8 (ub p.a), .int .u8 (ub p.b), .int .u8 (ub p.c), .int .u8 (ub p.d), .int .u8 (ub p.e), .int .u8 (ub p.f), .int .u8 0, .int .u8 0] 50 (by rfl) (by rfl) (R9.out.rows _ (.head _)) (by simp) rfl ?_; intro x9 hg hr; have R10 := Bx.mk (R9.out.set hg hr (by omega) (by intro y hy; have := HF.out; simp at hy; rcases hy with rfl | rfl <;> (simp only; omega))); clear hg hr R9 m)
  rw [rounds_succ]
  have m : x9.cell? ⟨F, 6, none⟩ = some (.int .u8 (ub p.g)) := rng_cell (rng8_p (R10.out.rows _ (.tail _ (.tail _ (.head _)))) HSp.out) 6 _ rfl
  go_wp2_with (refine wpList_cellU rfl _ _ rfl (E + 2) 10 (ub p.g) #[.int .i64 (l.a.length : Int), .int .i64 (l.b.length : Int), .int .i64 (l.c.length : Int), .int .i64 (l.d.length : Int), .int .u8 (ub p.a), .int .u8 (ub p.b), .int .u8 (ub p.c), .int .u8 (ub p.d), .int .u8 (ub p.e), .int .u8 (ub p.f), .int .u8 0, .int .u8 0] #[.int .i64 (l.a.length : Int), .int .i64 (l.b.length : Int), .int .i64 (l.c.length : Int), .int .i64 (l.d.length : Int), .int .u8 (ub p.a), .int .u8 (ub p.b), .int .u8 (ub p.c), .int .u8 (ub p.d), .int .u8 (ub p.e), .int .u8 (ub p.f), .int .u8 (ub p.g), .int .u8 0] 50 (by rfl) (by rfl) (R10.out.rows _ (.head _)) (by simp) rfl ?_; intro x10 hg hr; have R11 := Bx.mk (R10.out.set hg hr (by omega) (by intro y hy; have := HF.out; simp at hy; rcases hy with rfl | rfl <;> (simp only; omega))); clear hg hr R10 m)
  rw [rounds_succ]
  have m : x10.cell? ⟨F, 7, none⟩ = some (.int .u8 (ub p.h)) := rng_cell (rng8_p (R11.out.rows _ (.tail _ (.tail _ (.head _)))) HSp.out) 7 _ rfl
  go_wp2_with (refine wpList_cellU rfl _ _ rfl (E + 2) 11 (ub p.h) #[.int .i64 (l.a.length : Int), .int .i64 (l.b.length : Int), .int .i64 (l.c.length : Int), .int .i64 (l.d.length : Int), .int .u8 (ub p.a), .int .u8 (ub p.b), .int .u8 (ub p.c), .int .u8 (ub p.d), .int .u8 (ub p.e), .int .u8 (ub p.f), .int .u8 (ub p.g), .int .u8 0] #[.int .i64 (l.a.length : Int), .int .i64 (l.b.length : Int), .int .i64 (l.c.length : Int), .int .i64 (l.d.length : Int), .int .u8 (ub p.a), .int .u8 (ub p.b), .int .u8 (ub p.c), .int .u8 (ub p.d), .int .u8 (ub p.e), .int .u8 (ub p.f), .int .u8 (ub p.g), .int .u8 (ub p.h)] 50 (by rfl) (by rfl) (R11.out.rows _ (.head _)) (by simp) rfl ?_; intro x11 hg hr; have R12 := Bx.mk (R11.out.set hg hr (by omega) (by intro y hy; have := HF.out; simp at hy; rcases hy with rfl | rfl <;> (simp only; omega))); clear hg hr R11 m)
  rw [rounds_succ]
  go_wp2_with (first | (refine wpList_load_row rfl 50 _ rfl (E + 2) (by rfl) _ #[.int .i64 (l.a.length : Int), .int .i64 (l.b.length : Int), .int .i64 (l.c.length : Int), .int .i64 (l.d.length : Int), .int .u8 (ub p.a), .int .u8 (ub p.b), .int .u8 (ub p.c), .int .u8 (ub p.d), .int .u8 (ub p.e), .int .u8 (ub p.f), .int .u8 (ub p.g), .int .u8 (ub p.h)] (0, 0) _ (R12.out.rows _ (.head _)) Tryd.underlying50 rfl (by kernel_rfl) ?_) | (refine wpList_store_new rfl 50 _ _ rfl (E + 1) #[.int .i64 (l.a.length : Int), .int .i64 (l.b.length : Int), .int .i64 (l.c.length : Int), .int .i64 (l.d.length : Int), .int .u8 (ub p.a), .int .u8 (ub p.b), .int .u8 (ub p.c), .int .u8 (ub p.d), .int .u8 (ub p.e), .int .u8 (ub p.f), .int .u8 (ub p.g), .int .u8 (ub p.h)] _ _ (by rfl) (by rfl) (R12.out.rows _ (.tail _ (.head _))) rfl (by kernel_rfl) (by simp [Value.oneCell']) ?_; intro w14 hw hr; have HR := Bx.mk hr; have HG := Bx.mk (kb_of9 hw); clear hw hr))
  refine bodyPost_ret (results_cell_row rfl _ _ (E + 1) _ _ _ _ rfl HR.out Tryd.underlying50 rfl (by kernel_rfl)) rfl ?_
  exact ⟨rfl, by rw [hE]; exact R12.out.below.trans (grown_below HG.out (by omega) R12.out.le)⟩
end Go.Proofs.YtnfgamekjbkbkaaDoor
