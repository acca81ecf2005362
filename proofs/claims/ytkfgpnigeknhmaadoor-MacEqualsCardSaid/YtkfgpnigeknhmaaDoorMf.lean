/-
  The walk of the statement on bytes that are the same.
-/
import Derived.Test.YtkfgpnigeknhmaaDoorMe
namespace Go.Proofs.YtkfgpnigeknhmaaDoor
open Go Go.RowKit
/-- append, where its guard is decided. -/
theorem wpList_apw {w : World} {ops : Array Oper} {rest : List Oper} {o : Oper} {a : Act} {Q : Exit → Act → World → Prop} (hw : Region.wanted o (yielded ops a.tmps) = true) (s x : Operand)
    (ho : o.op = .call { callee := .builtin .append, args := #[s, x], argTypes := #[23, 23] }) (base : Nat) (v : Value) (l : List UInt8) (hs : a.eval s = v) (hown : OwnB w base v l) (xv : Value) (ps : List UInt8) (hx : a.eval x = xv) (hb : Bytes w xv ps)
    (hn : l.length + ps.length ≤ 140737488355328) (hbase : base ≤ w.heap.size)
    (h : ∀ v' w', OwnB w' base v' (l ++ ps) → w.grownBy w' v.ownBlock → wpList Tryd.prog ops Q rest (a.put o.dst v') w') : wpList Tryd.prog ops Q (o :: rest) a w := by
  refine wpList_step fun K hK => ?_
  rw [if_pos hw]
  obtain ⟨v', w', hrun, h1, h2, h3⟩ := run_ap w base v l hown xv ps hb hn hbase o.type
  unfold Oper.wp
  simp [execOp, ho, resolve, invoke, builtin, hs, hx, hrun, Result.andThen]
  exact hK _ _ (h v' w' h1 h2)
theorem nil_bytes (W : World) : Bytes W (.slice none 0 0) [] := ⟨none, 0, rfl, Nat.le_refl _, fun _ => rfl, fun h => by simp at h⟩
theorem own_empty' (W : World) (base : Nat) (hb : base ≤ W.heap.size) : OwnB (W.alloc (.cells #[] 5)) base (.slice (some ⟨W.heap.size, 0, none⟩) 0 0) [] := own_empty W base hb
set_option maxRecDepth 100000 in
set_option maxHeartbeats 1000000 in
theorem equals_any (xs bs : List UInt8) (va vb : Value) (w : World) (ha : Bytes w va xs) (hb : Bytes w vb bs) (hl : xs.length ≤ 9223372036854775807) (hl2 : bs.length ≤ 9223372036854775807) (hTab : Tab w) (hg : 0 < w.heap.size) :
    Calls Tryd.prog 9 #[va, vb] w fun e w' => e = .returned (.bool true) ∧ Below w.heap.size w w' := by
  have HV := Bx.mk ha
  have HU := Bx.mk hb
  have HA := Bx.mk hTab
  obtain ⟨a, cap, rfl, hc, hnone, -⟩ := ha
  obtain ⟨a2, cap2, rfl, hc2, hnone2, -⟩ := hb
  obtain ⟨n, hnn⟩ : ∃ n, xs.length = n := ⟨_, rfl⟩
  obtain ⟨k, hkk⟩ : ∃ k, bs.length = k := ⟨_, rfl⟩
  obtain ⟨m, hm⟩ : ∃ m, m = min n 100 := ⟨_, rfl⟩
  obtain ⟨q, hq⟩ : ∃ q, q = min k 100 := ⟨_, rfl⟩
  have m1 : (if (100 : Int) < (n : Int) then (100 : Int) else (n : Int)) = (m : Int) := by split <;> omega
  have q1 : (if (100 : Int) < (k : Int) then (100 : Int) else (k : Int)) = (q : Int) := by split <;> omega
  have s1 := fun W => cut_bytes a n cap m (by omega) (by omega) hnone W
  have s2 := fun W => cut_bytes a2 k cap2 q (by omega) (by omega) hnone2 W
  rw [hnn] at hl hc HV ⊢
  rw [hkk] at hl2 hc2 HU ⊢
  have HB : Bx (Bytes w (.slice a m cap) (xs.take m) ∧ Bytes w (.slice a2 q cap2) (bs.take q)) := Bx.mk ⟨HV.out.take m (by omega), HU.out.take q (by omega)⟩
  have HBL : Bx ((xs.take m).length ≤ 100 ∧ (bs.take q).length ≤ 100) := Bx.mk (by rw [List.length_take, List.length_take]; omega)
  generalize xs.take m = x at *
  generalize bs.take q = y at *
  have hn1 : (n : Int) ≤ 9223372036854775807 := by omega
  have hk1 : (k : Int) ≤ 9223372036854775807 := by omega
  clear hnn hkk hTab hnone hnone2 hm hq hl hl2 hc hc2 HV HU
  go_enter Tryd.func9, Tryd.ntmps9
  go_wp2
  go_big_quiet (fail)
  clear s1 s2 m1 q1 hn1 hk1
  have H0 : Bx (Bytes (w.drewN nq) (.slice a m cap) x ∧ Bytes (w.drewN nq) (.slice a2 q cap2) y ∧ Tab (w.drewN nq) ∧ Below w.heap.size w (w.drewN nq)) := Bx.mk ⟨HB.out.1, HB.out.2, HA.out, below_drewN (Below.refl _ _) _⟩
  clear HB HA
  go_wp2_with fail
  generalize w.drewN nq = w0 at *
  refine (known2_any w0 H0.out.2.2.1 (Nat.lt_of_lt_of_le hg H0.out.2.2.2.size)).mono ?_
  rintro e w1 ⟨rfl, hb1⟩
  have H1 : Bx (Bytes w1 (.slice a m cap) x ∧ Bytes w1 (.slice a2 q cap2) y ∧ Below w.heap.size w w1) := Bx.mk ⟨H0.out.1.later hb1, H0.out.2.1.later hb1, H0.out.2.2.2.trans (hb1.mono H0.out.2.2.2.size)⟩
  clear hb1 H0
  go_wp2_with fail
  refine (equal_any x y _ _ w1 H1.out.1 H1.out.2.1 (by have := HBL.out; omega) (by have := HBL.out; omega)).mono ?_
  rintro e w2 ⟨rfl, n2, rfl⟩
  obtain ⟨d, hd⟩ : ∃ d, decide (x = y) = d := ⟨_, rfl⟩
  have HD := Bx.mk hd
  rw [hd]
  clear hd
  have H2 : Bx (Bytes (w1.drewN n2) (.slice a m cap) x ∧ Bytes (w1.drewN n2) (.slice a2 q cap2) y ∧ Below w.heap.size w (w1.drewN n2)) := Bx.mk ⟨H1.out.1, H1.out.2.1, below_drewN H1.out.2.2 _⟩
  clear H1
  go_wp2_with fail
  generalize w1.drewN n2 = w2 at *
  refine (same_any x y _ _ w2 H2.out.1 H2.out.2.1 (by have := HBL.out; omega) (by have := HBL.out; omega)).mono ?_
  rintro e w3 ⟨rfl, n3, rfl⟩
  rw [HD.out]
  have H3 : Bx (Bytes (w2.drewN n3) (.slice a m cap) x ∧ Below w.heap.size w (w2.drewN n3)) := Bx.mk ⟨H2.out.1, below_drewN H2.out.2.2 _⟩
  clear H2 HD
  generalize w2.drewN n3 = w3 at *
  have td : (d == d) = true := by simp
  go_wp2_with (refine wpList_apw (by rfl) _ _ rfl w.heap.size _ [] (by rfl) (own_empty' w3 w.heap.size H3.out.2.size) _ x (by rfl) (H3.out.1.later (below_a _)) (by have := HBL.out; simp only [List.length_nil]; omega) (Nat.le_trans H3.out.2.size (below_a _).size) ?_; intro v4 w4 ho4 hg4; have H4 : Bx (Bytes w4 (.slice a m cap) x ∧ Bytes w4 v4 x ∧ Below w.heap.size w w4) := Bx.mk (by have h := own_below (own_empty' w3 w3.heap.size (Nat.le_refl _)) hg4 (by simp); have hb : Below w3.heap.size w3 w4 := (below_a _).trans h; exact ⟨H3.out.1.later hb, ho4.bytes, H3.out.2.trans (hb.mono H3.out.2.size)⟩); clear ho4 hg4)
  refine (equal_any x x _ _ w4 H4.out.1 H4.out.2.1 (by have := HBL.out; omega) (by have := HBL.out; omega)).mono ?_
  rintro e w5 ⟨rfl, n5, rfl⟩
  rw [decide_eq_true (rfl : x = x)]
  have H5 : Bx (Below w.heap.size w (w4.drewN n5)) := Bx.mk (below_drewN H4.out.2.2 _)
  clear H4 H3
  go_wp2_with fail
  generalize w4.drewN n5 = w5 at *
  refine (equal_any [] [] _ _ w5 (nil_bytes _) (nil_bytes _) (by simp) (by simp)).mono ?_
  rintro e w6 ⟨rfl, n6, rfl⟩
  rw [decide_eq_true (rfl : ([] : List UInt8) = [])]
  have H6 : Bx (Below w.heap.size w (w5.drewN n6)) := Bx.mk (below_drewN H5.out _)
  clear H5
  go_wp2
  go_ret
  exact ⟨rfl, H6.out⟩
end Go.Proofs.YtkfgpnigeknhmaaDoor
