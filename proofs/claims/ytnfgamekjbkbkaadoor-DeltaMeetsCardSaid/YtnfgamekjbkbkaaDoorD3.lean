/-
  Delta: a delta's size, errors in a row, a delta that is merged.
-/
import Derived.Test.YtnfgamekjbkbkaaDoorD1
import Derived.Test.YtnfgamekjbkbkaaDoorEn
namespace Go.Proofs.YtnfgamekjbkbkaaDoor
open Go Go.RowKit
set_option maxRecDepth 100000 in
theorem size_any9 (v : V4) (x : VV) (l : L4) (w : World) (hx : Rows4 w x l) (hm : Most l 1000) : Calls Tryd.prog 39 #[.agg (dC v x)] w fun e w' => e = .returned (.int .i64 ((16 + 2 * (l.a.length + l.b.length + l.c.length + l.d.length) : Nat) : Int)) ∧ Below w.heap.size w w' := by
  obtain ⟨E, hE⟩ : ∃ E, w.heap.size = E := ⟨_, rfl⟩
  obtain ⟨p1, q1, t1, s1, a1, b1, c1, d1, rfl⟩ := hx.forms
  have m1 : (l.a.length : Int) ≤ 1000 := by have := hm.a; omega
  have m2 : (l.b.length : Int) ≤ 1000 := by have := hm.b; omega
  have m3 : (l.c.length : Int) ≤ 1000 := by have := hm.c; omega
  have m4 : (l.d.length : Int) ≤ 1000 := by have := hm.d; omega
  have z1 : (0 : Int) ≤ (l.a.length : Int) := by omega
  have z2 : (0 : Int) ≤ (l.b.length : Int) := by omega
  have z3 : (0 : Int) ≤ (l.c.length : Int) := by omega
  have z4 : (0 : Int) ≤ (l.d.length : Int) := by omega
  obtain ⟨m, hmm⟩ : ∃ m, 16 + 2 * (l.a.length + l.b.length + l.c.length + l.d.length) = m := ⟨_, rfl⟩
  rw [hmm]
  have HM := Bx.mk hmm
  clear hx hm hmm
  generalize l.a.length = n1 at *
  generalize l.b.length = n2 at *
  generalize l.c.length = n3 at *
  generalize l.d.length = n4 at *
  unfold dC
  simp only
  have HB := Bx.mk (below_a (W := w) (.cells #[.int .i64 v.a, .int .i64 v.b, .int .i64 v.c, .int .i64 v.d, .slice p1 n1 a1, .slice q1 n2 b1, .slice t1 n3 c1, .slice s1 n4 d1] 30))
  have hr : (w.alloc (.cells #[.int .i64 v.a, .int .i64 v.b, .int .i64 v.c, .int .i64 v.d, .slice p1 n1 a1, .slice q1 n2 b1, .slice t1 n3 c1, .slice s1 n4 d1] 30)).heap[E]? = some (.cells #[.int .i64 v.a, .int .i64 v.b, .int .i64 v.c, .int .i64 v.d, .slice p1 n1 a1, .slice q1 n2 b1, .slice t1 n3 c1, .slice s1 n4 d1] 30 (0, 0)) := by
    subst hE
    exact hnew _ _ _ rfl
  have hc : ∀ i u, (#[.int .i64 v.a, .int .i64 v.b, .int .i64 v.c, .int .i64 v.d, .slice p1 n1 a1, .slice q1 n2 b1, .slice t1 n3 c1, .slice s1 n4 d1] : Array Value)[i]? = some u → (w.alloc (.cells #[.int .i64 v.a, .int .i64 v.b, .int .i64 v.c, .int .i64 v.d, .slice p1 n1 a1, .slice q1 n2 b1, .slice t1 n3 c1, .slice s1 n4 d1] 30)).cell? ⟨E, i, none⟩ = some u := fun i u h => by
    rw [cell_of_row _ _ _ _ _ _ hr]
    exact h
  have k4 := hc 4 _ rfl
  have k5 := hc 5 _ rfl
  have k6 := hc 6 _ rfl
  have k7 := hc 7 _ rfl
  have i0 := idxL0 (.slice p1 n1 a1) (.slice q1 n2 b1) (.slice t1 n3 c1) (.slice s1 n4 d1)
  have i1 := idxL1 (.slice p1 n1 a1) (.slice q1 n2 b1) (.slice t1 n3 c1) (.slice s1 n4 d1)
  have i2 := idxL2 (.slice p1 n1 a1) (.slice q1 n2 b1) (.slice t1 n3 c1) (.slice s1 n4 d1)
  have i3 := idxL3 (.slice p1 n1 a1) (.slice q1 n2 b1) (.slice t1 n3 c1) (.slice s1 n4 d1)
  clear hc hr
  rw [hE] at HB ⊢
  go_enter Tryd.func39, Tryd.ntmps39
  go_wp2
  refine wp_loop_rounds 5 ?_
  rw [rounds_succ]
  go_wp2
  rw [rounds_succ]
  go_wp2
  rw [rounds_succ]
  go_wp2
  rw [rounds_succ]
  go_wp2
  rw [rounds_succ]
  go_wp2
  go_ret
  refine ⟨?_, HB.out⟩
  have h := HM.out
  show Ending.returned (Value.int .i64 _) = _
  congr 2
  omega
def OwnR9 (w : World) (base : Nat) (v : Value) (ns : List Int) : Prop := w.ownsRow base 33 1 v ns.length (i64s ns)
theorem OwnR9.nil (w : World) (base : Nat) : OwnR9 w base (.slice none 0 0) [] := ⟨rfl, .inl ⟨rfl, rfl⟩⟩
theorem OwnR9.later {w w1 : World} {base B : Nat} {v : Value} {ns : List Int} (h : OwnR9 w base v ns) (hb : Below B w w1) (hB : ∀ g, v.ownBlock = some g → g < B) : OwnR9 w1 base v ns := by
  obtain ⟨hl, hr⟩ := h
  refine ⟨hl, ?_⟩
  rcases hr with h | ⟨g, cap, cur, hv, hc, h1, h2, h3, h4⟩
  · exact .inl h
  · refine .inr ⟨g, cap, cur, hv, hc, ?_, h2, h3, h4⟩
    rw [hb.block g (hB g (by rw [hv]; rfl))]
    exact h1
theorem OwnR9.lt {w : World} {base : Nat} {v : Value} {ns : List Int} (h : OwnR9 w base v ns) : ∀ g, v.ownBlock = some g → g < w.heap.size ∧ base ≤ g := by
  intro g hg
  rcases h.2 with ⟨rfl, _⟩ | ⟨g', cap, cur, rfl, hb, hh, _⟩
  · cases hg
  · injection hg with hg
    subst hg
    exact ⟨(Array.getElem?_eq_some_iff.1 hh).1, hb⟩
theorem OwnR9.ints {w : World} {base : Nat} {v : Value} {ns : List Int} (h : OwnR9 w base v ns) : Ints w v ns := by
  rcases h.2 with ⟨rfl, h0⟩ | ⟨g, cap, cur, rfl, hb, hg, hn, hm, hs, hc⟩
  · refine ⟨none, 0, by rw [h0], by omega, fun _ => rfl, fun hp => by omega⟩
  · refine ⟨_, cap, rfl, hn, (fun hx => by cases hx), fun _ => ⟨g, 0, rfl, fun j hj => ?_⟩⟩
    rw [cell_of_row _ _ _ _ _ _ hg, Nat.zero_add, ← Array.getElem?_toList]
    have h1 : (cur.toList.take (ns.length * 1))[j]? = (i64s ns)[j]? := by rw [hc]
    rw [List.getElem?_take, if_pos (by omega), i64s_get ns j hj] at h1
    exact h1
theorem OwnR9.form {w : World} {base : Nat} {v : Value} {ns : List Int} (h : OwnR9 w base v ns) : ∃ a cap, v = .slice a ns.length cap := by
  obtain ⟨a, cap, hv, -⟩ := h.ints
  exact ⟨a, cap, hv⟩
theorem ownR9_below {w w1 : World} {base : Nat} {v : Value} {ns : List Int} (h : OwnR9 w base v ns) (hg : w.grownBy w1 v.ownBlock) (hb : base ≤ w.heap.size) : Below base w w1 :=
  ⟨hg.os, hg.tape, hg.output, hg.size, fun i hi => hg.block i (by omega) (fun e => by have := (h.lt i e.symm).2; omega)⟩
theorem ownR9_a {W : World} {base : Nat} {v : Value} {ns : List Int} (h : OwnR9 W base v ns) (o : Obj) : OwnR9 (W.alloc o) base v ns := h.later (below_a _) (fun g hg => (h.lt g hg).1)
theorem OwnR9.weak {w : World} {base base' : Nat} {v : Value} {l : List Int} (h : OwnR9 w base v l) (hb : base' ≤ base) : OwnR9 w base' v l := by
  refine ⟨h.1, ?_⟩
  rcases h.2 with h0 | ⟨g, cap, cur, hv, hb', hr⟩
  · exact .inl h0
  · exact .inr ⟨g, cap, cur, hv, by omega, hr⟩
set_option maxRecDepth 100000 in
theorem run_apR9 (w : World) (base : Nat) (v : Value) (l : List Int) (hown : OwnR9 w base v l) (x : Value) (ps : List Int) (hx : Ints w x ps) (hn : l.length + ps.length ≤ 10000) (hbase : base ≤ w.heap.size) (ty : TypeId) :
    ∃ v' w', (Builtin.append_ #[88, 88] ty #[v, x]).run Tryd.prog w = .ok v' w' ∧ OwnR9 w' base v' (l ++ ps) ∧ w.grownBy w' v.ownBlock := by
  have hi : Tryd.prog.info? 33 = some ((Tryd.prog.info? 33).getD default) := by kernel_rfl
  obtain ⟨a, cap, rfl, hc, hnone, hr⟩ := hx
  rcases a with _ | ad
  · have h0 : ps = [] := by have := hnone rfl; exact List.eq_nil_of_length_eq_zero (by omega)
    have hz := hnone rfl
    subst h0
    subst hz
    refine ⟨v, w, ?_, by rw [List.append_nil]; exact hown, World.grownBy.refl w _⟩
    exact run_append_owned_none (P := Tryd.prog) (w := w) base 88 ty 33 _ 1 Tryd.underlying88 hi v l.length _ hown
  · have hnews : ∀ j u, (i64s ps)[j]? = some u → w.cell? (ad.add j) = some u := by
      intro j u hu
      have hj : j < ps.length := by have := (List.getElem?_eq_some_iff.1 hu).1; simpa [i64s] using this
      obtain ⟨c, o, ha, hcell⟩ := hr (by omega)
      injection ha with ha
      subst ha
      rw [i64s_get ps j hj] at hu
      rw [show (⟨c, o, none⟩ : Addr).add j = ⟨c, o + j, none⟩ by unfold Addr.add; split <;> simp_all, hcell j hj]
      exact hu
    obtain ⟨v', w', hrun, h2, h3, _, h5⟩ := run_append_own_at (P := Tryd.prog) w base 88 ty 33 _ (.int .i64 0) 1 8 Tryd.underlying88 hi (by kernel_rfl) (by kernel_rfl) (by kernel_rfl) rfl (by omega) v l.length _ hown ad ps.length cap (i64s ps) (by simp [i64s]) hnews
      (fun u hu => by unfold i64s at hu; simp at hu; obtain ⟨n, -, rfl⟩ := hu; rfl) (by simp only [maxLen]; omega) (by omega) hbase
    refine ⟨v', w', hrun, ?_, h3⟩
    unfold OwnR9
    rw [List.length_append]
    have e : i64s (l ++ ps) = i64s l ++ i64s ps := by simp [i64s]
    rw [e]
    exact h2
theorem wpList_apR9 {w : World} {ops : Array Oper} {rest : List Oper} {o : Oper} {a : Act} {Q : Exit → Act → World → Prop} (hgd : o.guard = none) (s x : Operand)
    (ho : o.op = .call { callee := .builtin .append, args := #[s, x], argTypes := #[88, 88] }) (base : Nat) (v : Value) (l : List Int) (hs : a.eval s = v) (hown : OwnR9 w base v l) (xv : Value) (ps : List Int) (hx : a.eval x = xv) (hb : Ints w xv ps)
    (hn : l.length + ps.length ≤ 10000) (hbase : base ≤ w.heap.size)
    (h : ∀ v' w', OwnR9 w' base v' (l ++ ps) → w.grownBy w' v.ownBlock → wpList Tryd.prog ops Q rest (a.put o.dst v') w') : wpList Tryd.prog ops Q (o :: rest) a w := by
  refine wpList_plain hgd fun K hK => ?_
  obtain ⟨v', w', hrun, h1, h2⟩ := run_apR9 w base v l hown xv ps hb hn hbase o.type
  unfold Oper.wp
  simp [execOp, ho, resolve, invoke, builtin, hs, hx, hrun, Result.andThen]
  exact hK _ _ (h v' w' h1 h2)
theorem below_grown9 {B : Nat} {w W : World} (h : Below B w W) (hB : w.heap.size ≤ B) (b : Option Nat) : w.grownBy W b := ⟨h.os, h.tape, h.output, h.size, fun i hi _ => h.block i (by omega)⟩
theorem ownR9_below' {w W : World} {v : Value} (hg : W.grownBy w v.ownBlock) (hv : ∀ g, v.ownBlock = some g → False) : Below W.heap.size W w := ⟨hg.os, hg.tape, hg.output, hg.size, fun i hi => hg.block i hi (fun e => hv i e.symm)⟩
set_option maxRecDepth 100000 in
set_option maxHeartbeats 4000000 in
theorem merge_one (u : Value) (c0 c1 c2 c3 c4 c5 c6 c7 : Value) (n e : Int) (g p : Nat) (J : World → Prop) (w : World) (hrow : w.heap[g]? = some (.cells #[c0, c1, c2, c3, c4, c5, c6, c7] 30 (0, 0))) (hone : (#[c0, c1, c2, c3, c4, c5, c6, c7] : Array Value).all (·.oneCell') = true)
    (hn0 : 0 ≤ n) (hn1 : n ≤ 100000) (hp : p < w.heap.size) (hgp : g ≠ p) (hJ : ∀ W W1, J W → Below W.heap.size W W1 → J W1)
    (hA : ∀ W, Below w.heap.size w W → Calls Tryd.prog 73 #[u, .agg #[c0, c1, c2, c3, c4, c5, c6, c7]] W fun e' w' => e' = .returned (.tuple #[.int .i64 n, .int .i64 e]) ∧ J w' ∧ W.grownBy w' (some p)) :
    Calls Tryd.prog 42 #[u, .slice (some ⟨g, 0, none⟩) 1 1] w fun e' w' => ∃ v, e' = .returned (.tuple #[.int .i64 n, v]) ∧ OwnR9 w' w.heap.size v [e] ∧ J w' ∧ w.grownBy w' (some p) := by
  obtain ⟨E, hE⟩ : ∃ E, w.heap.size = E := ⟨_, rfl⟩
  rw [hE] at hA hp ⊢
  have HA := Bx.mk hA
  have HJ := Bx.mk hJ
  have HP := Bx.mk (And.intro hp hgp)
  have HO := Bx.mk hone
  have HR := Bx.mk (row_rng8 (l := [c0, c1, c2, c3, c4, c5, c6, c7]) hrow)
  have HE := Bx.mk hE
  have hz : ∀ W : World, (zeroValue 30).run Tryd.prog W = .ok (.agg #[.int .i64 0, .int .i64 0, .int .i64 0, .int .i64 0, .slice none 0 0, .slice none 0 0, .slice none 0 0, .slice none 0 0]) W := fun W => by kernel_rfl
  clear hA hJ hrow hp hgp hone
  go_enter Tryd.func42, Tryd.ntmps42
  go_wp2
  refine wp_loop_rounds 2 ?_
  rw [rounds_succ]
  go_wp2_with (first | (refine wpList_load_mid rfl 30 _ rfl g 0 (by rfl) [c0, c1, c2, c3, c4, c5, c6, c7] _ HR.out Tryd.underlying30 rfl (by kernel_rfl) ?_) | (refine wpList_load_row rfl 30 _ rfl E (by rfl) _ #[c0, c1, c2, c3, c4, c5, c6, c7] (0, 0) _ (R1.out.rows _ (.head _)) Tryd.underlying30 rfl (by kernel_rfl) ?_) | (refine wpList_store_v9 rfl 30 _ _ rfl w E hE #[.int .i64 0, .int .i64 0, .int .i64 0, .int .i64 0, .slice none 0 0, .slice none 0 0, .slice none 0 0, .slice none 0 0] 30 rfl (by rfl) #[c0, c1, c2, c3, c4, c5, c6, c7] (by rfl) rfl (by kernel_rfl) HO.out ?_; intro w1 hb hr _; have R1 := Bx.mk (KR.var9 (E := E) (by subst hE; exact KR.start w) hE hb hr); clear hb hr))
  refine (HA.out w1 R1.out.below).mono ?_
  rintro e' w2 ⟨rfl, hj, hg⟩
  have Hj := Bx.mk hj
  have Hs := Bx.mk (Nat.le_trans R1.out.le hg.size)
  have Hg : Bx (w.grownBy w2 (some p)) := ⟨kb_trans (below_grown9 R1.out.below (by omega) (some p)) hg⟩
  clear hj hg R1 HA HR
  have HI : Bx (OwnR9 (w2.alloc (.cells #[.int .i64 e] 33)) E (.slice none 0 0) [] ∧ Ints (w2.alloc (.cells #[.int .i64 e] 33)) (.slice (some ⟨w2.heap.size, 0, none⟩) 1 1) [e] ∧ E ≤ (w2.alloc (.cells #[.int .i64 e] 33)).heap.size) := ⟨OwnR9.nil _ _, ints1 _ _ _, by have := Hs.out; simp; omega⟩
  go_wp2_with (refine wpList_apR9 rfl _ _ rfl E _ _ rfl HI.out.1 _ _ rfl HI.out.2.1 (by simp) HI.out.2.2 ?_; intro v' w3 ho hg')
  have HB3 := Bx.mk ((below_a (W := w2) (.cells #[.int .i64 e] 33)).trans ((ownR9_below' hg' (fun g h => by cases h)).mono (by simp)))
  obtain ⟨a3, c3, rfl⟩ := ho.form
  have Ho := Bx.mk ho
  clear hg' ho HI
  rw [rounds_succ]
  go_wp2
  go_ret2
  refine ⟨_, rfl, Ho.out, HJ.out _ _ Hj.out HB3.out, kb_trans Hg.out (below_grown9 HB3.out (Nat.le_refl _) _)⟩
end Go.Proofs.YtnfgamekjbkbkaaDoor
