/-
  DeltaMeets: two deltas merged one behind the other; the loops, joined.
-/
import Derived.Test.YtnfgamekjbkbkaaDoorNp
import Derived.Test.YtnfgamekjbkbkaaDoorD3
import Derived.Test.YtnfgamekjbkbkaaDoorEt
import Derived.Test.YtnfgamekjbkbkaaDoorD4
namespace Go.Proofs.YtnfgamekjbkbkaaDoor
open Go Go.RowKit
theorem rng_two {W : World} {g : Nat} {l : List Value} {T : TypeId} (h : W.heap[g]? = some (.cells (l ++ l).toArray T (0, 0))) : W.rangeAt g 0 l ∧ W.rangeAt g l.length l :=
  ⟨fun j v hv => row_rng8 h j v (by rw [List.getElem?_append_left (List.getElem?_eq_some_iff.1 hv).1]; exact hv),
   fun j v hv => by
    rw [cell_of_row _ _ _ _ _ _ h, List.getElem?_toArray, List.getElem?_append_right (by omega), Nat.add_sub_cancel_left]
    exact hv⟩
theorem ints_two {W : World} {b : Option Addr} {n c : Nat} {x y : Int} (h : Ints W (.slice b n c) [x, y]) : ∃ g o, b = some ⟨g, o, none⟩ ∧ W.cell? ⟨g, o, none⟩ = some (.int .i64 x) ∧ W.cell? ⟨g, o + 1, none⟩ = some (.int .i64 y) ∧ n = 2 := by
  obtain ⟨a, cap, h1, -, -, h2⟩ := h
  obtain ⟨c1, o, h3, h4⟩ := h2 (by simp)
  cases h1
  refine ⟨c1, o, h3, ?_, ?_, rfl⟩
  · simpa using h4 0 (by simp)
  · simpa using h4 1 (by simp)
theorem meet_none {L : L4} (hg : Good L) (hd : NoDup L) (i j : N4) (n : Nat) (hi : i.Le L.len) (hj : j.Le L.len) (h0 : gapN i j = 0) :
    applyL (L.pre i) (lowV i.v j.v) (ansL (L.pre j) i.v n) = (0, 0, L.pre i) := by
  obtain ⟨k, h1, h2, h3, h4, h5, h6⟩ := ans_gain L i j n hi hj
  have hm : (i.min j).Le i := ⟨Nat.min_le_left _ _, Nat.min_le_left _ _, Nat.min_le_left _ _, Nat.min_le_left _ _⟩
  have hk : i.max k = i := by
    obtain ⟨k1, k2, k3, k4⟩ := h1
    unfold gapN at h0
    have M : ∀ a b : Nat, b ≤ a → Nat.max a b = a := fun a b h => Nat.max_eq_left h
    unfold N4.max
    rw [M _ _ (by omega), M _ _ (by omega), M _ _ (by omega), M _ _ (by omega)]
  rw [low_min, h4, applyL_pre hg hd i k (i.min j) hi ⟨Nat.le_trans h1.a hj.a, Nat.le_trans h1.b hj.b, Nat.le_trans h1.c hj.c, Nat.le_trans h1.d hj.d⟩ hm h2, hk]
  congr 1
  omega
theorem OwnR9.aside9 {w w1 : World} {base p : Nat} {v : Value} {ns : List Int} (h : OwnR9 w base v ns) (hg : w.grownBy w1 (some p)) (hp : p < base) : OwnR9 w1 base v ns := by
  obtain ⟨hl, hr⟩ := h
  refine ⟨hl, ?_⟩
  rcases hr with h | ⟨g, cap, cur, hv, hc, h1, h2, h3, h4⟩
  · exact .inl h
  · refine .inr ⟨g, cap, cur, hv, hc, ?_, h2, h3, h4⟩
    rw [hg.block g (Array.getElem?_eq_some_iff.1 h1).1 (fun e => by injection e with e; omega)]
    exact h1
theorem grown_then9 {w W W1 : World} {b : Option Nat} (h : w.grownBy W b) (hb : Below w.heap.size W W1) : w.grownBy W1 b := by
  have h0 : Below 0 w W := ⟨h.os, h.tape, h.output, h.size, fun i hi => absurd hi (Nat.not_lt_zero _)⟩
  have h1 := h0.trans (hb.mono (Nat.zero_le _))
  exact ⟨h1.os, h1.tape, h1.output, h1.size, fun i hi hne => (hb.block i hi).trans (h.block i hi hne)⟩
set_option maxRecDepth 100000 in
set_option maxHeartbeats 4000000 in
theorem merge_two (u : Value) (c0 c1 c2 c3 c4 c5 c6 c7 : Value) (n e n2 e2 : Int) (g p : Nat) (J J2 : World → Prop) (w : World) (hrow : w.heap[g]? = some (.cells #[c0, c1, c2, c3, c4, c5, c6, c7, c0, c1, c2, c3, c4, c5, c6, c7] 30 (0, 0))) (hone : (#[c0, c1, c2, c3, c4, c5, c6, c7] : Array Value).all (·.oneCell') = true)
    (hn0 : 0 ≤ n) (hn1 : n ≤ 100000) (hm0 : 0 ≤ n2) (hm1 : n2 ≤ 100000) (hp : p < w.heap.size) (hgp : g ≠ p) (hJ : ∀ W W1, J W → Below W.heap.size W W1 → J W1) (hJ2 : ∀ W W1, J2 W → Below W.heap.size W W1 → J2 W1)
    (hJE : ∀ W W1 D cs fr, J2 W → W.heap[D]? = some (.cells cs 33 fr) → D ≠ p → W.grownBy W1 (some D) → J2 W1)
    (hA : ∀ W, Below w.heap.size w W → Calls Tryd.prog 73 #[u, .agg #[c0, c1, c2, c3, c4, c5, c6, c7]] W fun e' w' => e' = .returned (.tuple #[.int .i64 n, .int .i64 e]) ∧ J w' ∧ W.grownBy w' (some p))
    (hA2 : ∀ W, J W → w.grownBy W (some p) → Calls Tryd.prog 73 #[u, .agg #[c0, c1, c2, c3, c4, c5, c6, c7]] W fun e' w' => e' = .returned (.tuple #[.int .i64 n2, .int .i64 e2]) ∧ J2 w' ∧ W.grownBy w' (some p)) :
    Calls Tryd.prog 42 #[u, .slice (some ⟨g, 0, none⟩) 2 2] w fun e' w' => ∃ v, e' = .returned (.tuple #[.int .i64 (n + n2), v]) ∧ OwnR9 w' w.heap.size v [e, e2] ∧ J2 w' ∧ w.grownBy w' (some p) := by
  obtain ⟨E, hE⟩ : ∃ E, w.heap.size = E := ⟨_, rfl⟩
  rw [hE] at hA hp ⊢
  have HA := Bx.mk hA
  have HA2 := Bx.mk hA2
  have HJ := Bx.mk hJ
  have HJ2 := Bx.mk hJ2
  have HJE := Bx.mk hJE
  have HP := Bx.mk (And.intro hp hgp)
  have HO := Bx.mk hone
  have HRow := Bx.mk hrow
  have HR := Bx.mk (rng_two (l := [c0, c1, c2, c3, c4, c5, c6, c7]) hrow).1
  have HE := Bx.mk hE
  have hz : ∀ W : World, (zeroValue 30).run Tryd.prog W = .ok (.agg #[.int .i64 0, .int .i64 0, .int .i64 0, .int .i64 0, .slice none 0 0, .slice none 0 0, .slice none 0 0, .slice none 0 0]) W := fun W => by kernel_rfl
  clear hA hA2 hJ hJ2 hJE hrow hp hgp hone
  go_enter Tryd.func42, Tryd.ntmps42
  go_wp2
  refine wp_loop_rounds 3 ?_
  rw [rounds_succ]
  go_wp2_with (first | (refine wpList_load_mid rfl 30 _ rfl g 0 (by rfl) [c0, c1, c2, c3, c4, c5, c6, c7] _ HR.out Tryd.underlying30 rfl (by kernel_rfl) ?_) | (refine wpList_load_row rfl 30 _ rfl E (by rfl) _ #[c0, c1, c2, c3, c4, c5, c6, c7] (0, 0) _ (R1.out.rows _ (.head _)) Tryd.underlying30 rfl (by kernel_rfl) ?_) | (refine wpList_store_v9 rfl 30 _ _ rfl w E hE #[.int .i64 0, .int .i64 0, .int .i64 0, .int .i64 0, .slice none 0 0, .slice none 0 0, .slice none 0 0, .slice none 0 0] 30 rfl (by rfl) #[c0, c1, c2, c3, c4, c5, c6, c7] (by rfl) rfl (by kernel_rfl) HO.out ?_; intro w1 hb hr _; have R1 := Bx.mk (KR.var9 (E := E) (by subst hE; exact KR.start w) hE hb hr); clear hb hr))
  refine (HA.out w1 R1.out.below).mono ?_
  rintro e' w2 ⟨rfl, hj, hg⟩
  have Hj := Bx.mk hj
  have Hs := Bx.mk (Nat.le_trans R1.out.le hg.size)
  have Hg : Bx (w.grownBy w2 (some p)) := ⟨kb_trans (below_grown9 R1.out.below (by omega) (some p)) hg⟩
  clear hj hg R1 HA HR
  have HI : Bx (OwnR9 (w2.alloc (.cells #[.int .i64 e] 33)) E (.slice none 0 0) [] ∧ Ints (w2.alloc (.cells #[.int .i64 e] 33)) (.slice (some ⟨w2.heap.size, 0, none⟩) 1 1) [e] ∧ E ≤ (w2.alloc (.cells #[.int .i64 e] 33)).heap.size) := ⟨OwnR9.nil _ _, ints1 _ _ _, by have := Hs.out; simp; omega⟩
  go_wp2_with (refine wpList_apR9 rfl _ _ rfl E _ _ rfl HI.out.1 _ _ rfl HI.out.2.1 (by simp) HI.out.2.2 ?_; intro v' w3 ho hg')
  have HB3 := Bx.mk ((below_a (W := w2) (.cells #[.int .i64 e] 33)).trans ((ownR9_below' hg' (fun g h => by cases h)).mono (by simp)))
  obtain ⟨a3, c3', rfl⟩ := ho.form
  have Ho := Bx.mk ho
  have Hj3 := Bx.mk (HJ.out _ _ Hj.out HB3.out)
  have Hg3 : Bx (w.grownBy w3 (some p)) := ⟨kb_trans Hg.out (below_grown9 HB3.out (Nat.le_refl _) _)⟩
  have HR3 := Bx.mk (rng_two (W := w3) (g := g) (T := 30) (l := [c0, c1, c2, c3, c4, c5, c6, c7]) (by rw [Hg3.out.block g (Array.getElem?_eq_some_iff.1 HRow.out).1 (fun e => HP.out.2 (Option.some.inj e))]; exact HRow.out)).2
  have Hs3 := Bx.mk (Nat.le_trans Hs.out HB3.out.size)
  clear hg' ho HI HB3 Hj Hs Hg
  obtain ⟨D, hD⟩ : ∃ D, w3.heap.size = D := ⟨_, rfl⟩
  simp only [List.nil_append, List.length_cons, List.length_nil, Nat.zero_add] at Ho ⊢
  rw [rounds_succ]
  go_wp2_with (first | (refine wpList_load_mid rfl 30 _ rfl g 8 (by rfl) [c0, c1, c2, c3, c4, c5, c6, c7] _ HR3.out Tryd.underlying30 rfl (by kernel_rfl) ?_) | (refine wpList_load_row rfl 30 _ rfl D (by rfl) _ #[c0, c1, c2, c3, c4, c5, c6, c7] (0, 0) _ (R4.out.rows _ (.head _)) Tryd.underlying30 rfl (by kernel_rfl) ?_) | (refine wpList_store_v9 rfl 30 _ _ rfl w3 D hD #[.int .i64 0, .int .i64 0, .int .i64 0, .int .i64 0, .slice none 0 0, .slice none 0 0, .slice none 0 0, .slice none 0 0] 30 rfl (by rfl) #[c0, c1, c2, c3, c4, c5, c6, c7] (by rfl) rfl (by kernel_rfl) HO.out ?_; intro w4 hb hr _; have R4 := Bx.mk (KR.var9 (E := D) (by subst hD; exact KR.start w3) hD hb hr); have HB4 := Bx.mk hb; clear hb hr))
  have Hj4 := Bx.mk (HJ.out _ _ Hj3.out HB4.out)
  have Hg4 : Bx (w.grownBy w4 (some p)) := ⟨kb_trans Hg3.out (below_grown9 HB4.out (Nat.le_refl _) _)⟩
  have Ho4 := Bx.mk (Ho.out.later HB4.out (fun g h => (Ho.out.lt g h).1))
  have Hs4 := Bx.mk (Nat.le_trans Hs3.out HB4.out.size)
  clear Ho Hj3 Hg3 HR3 Hs3 HB4 R4 hD HJ
  refine (HA2.out w4 Hj4.out Hg4.out).mono ?_
  rintro e' w5 ⟨rfl, hj, hg⟩
  have Hj5 := Bx.mk (HJ2.out _ _ hj (below_a (.cells #[.int .i64 e2] 33)))
  have Hg5 : Bx (w.grownBy (w5.alloc (.cells #[.int .i64 e2] 33)) (some p)) := ⟨kb_trans (kb_trans Hg4.out hg) (below_grown9 (below_a _) (Nat.le_refl _) _)⟩
  have Ho5 := Bx.mk (ownR9_a (Ho4.out.aside9 hg HP.out.1) (.cells #[.int .i64 e2] 33))
  have Hs5 : Bx (E ≤ (w5.alloc (.cells #[.int .i64 e2] 33)).heap.size) := ⟨by have := Nat.le_trans Hs4.out hg.size; simp; omega⟩
  have HI5 := Bx.mk (ints1 w5 e2 33)
  clear hj hg Ho4 Hj4 Hg4 Hs4 HA2
  go_wp2_with (refine wpList_apR9 rfl _ _ rfl E _ _ rfl Ho5.out _ _ rfl HI5.out (by simp) Hs5.out ?_; intro v6 w6 ho hg')
  have Hj6 : Bx (J2 w6) := ⟨by
    obtain ⟨-, hr⟩ := Ho5.out
    rcases hr with ⟨hx, hy⟩ | ⟨g6, cap6, cur6, hv6, hc6, hb6, -⟩
    · cases hy
    · refine HJE.out _ _ g6 _ _ Hj5.out hb6 (by have := HP.out.1; omega) ?_
      rw [hv6] at hg'
      exact hg'⟩
  have Hg6 : Bx (w.grownBy w6 (some p)) := ⟨grown_then9 Hg5.out (by rw [HE.out]; exact ownR9_below Ho5.out hg' Hs5.out)⟩
  obtain ⟨a6, c6', rfl⟩ := ho.form
  have Ho6 := Bx.mk ho
  clear hg' ho HI5 Ho5 Hg5 Hj5 Hs5
  rw [rounds_succ]
  go_wp2
  go_ret2
  exact ⟨_, rfl, Ho6.out, Hj6.out, Hg6.out⟩
end Go.Proofs.YtnfgamekjbkbkaaDoor
