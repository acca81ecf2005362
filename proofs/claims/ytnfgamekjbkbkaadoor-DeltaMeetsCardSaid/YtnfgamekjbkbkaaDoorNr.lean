/-
  DeltaMeets: round by round.
-/
import Derived.Test.YtnfgamekjbkbkaaDoorNq
import Derived.Test.YtnfgamekjbkbkaaDoorD3
import Derived.Test.YtnfgamekjbkbkaaDoorD2
namespace Go.Proofs.YtnfgamekjbkbkaaDoor
open Go Go.RowKit
/-- The frame of the second loop. -/
structure PN (v3 v8 v11 v12 v17 : Value) (a : Act) : Prop where
  fr : Fr 181 a
  s3 : a.eval (.tmp 3) = v3
  s8 : a.eval (.tmp 8) = v8
  s11 : a.eval (.tmp 11) = v11
  s12 : a.eval (.tmp 12) = v12
  s17 : a.eval (.tmp 17) = v17
theorem ints_one9 {W : World} {b : Option Addr} {n c : Nat} {x : Int} (h : Ints W (.slice b n c) [x]) : ∃ g o, b = some ⟨g, o, none⟩ ∧ W.cell? ⟨g, o, none⟩ = some (.int .i64 x) ∧ n = 1 := by
  obtain ⟨a, cap, h1, -, -, h2⟩ := h
  obtain ⟨c1, o, h3, h4⟩ := h2 (by simp)
  cases h1
  refine ⟨c1, o, h3, ?_, rfl⟩
  simpa using h4 0 (by simp)
/-- What holds ahead of a round. -/
def IM2 (w : World) (E X Y qq : Nat) (va vb : V4) (l : L4) (J : N4) (rm : Nat) (r : Nat) (a : Act) (W : World) : Prop :=
  ∃ N : N4, N.Le l.len ∧ gapN N J + r ≤ 160 ∧ PN (.int .i64 (rm : Int)) (.bool false) (.pointer (some ⟨X, 0, none⟩)) (.pointer (some ⟨Y, 0, none⟩)) (.int .i64 (r : Int)) a ∧ DM w E X Y qq va vb l (l.pre N) (l.pre J) W
/-- What is known of the whole. -/
structure MW (w : World) (E : Nat) (l : L4) (J : N4) (rm : Nat) : Prop where
  e : w.heap.size = E
  g : Good l
  nd : NoDup l
  j : J.Le l.len
  r1 : 18 ≤ rm
  r2 : rm ≤ 57
  F : Full w
  f : 0 < w.heap.size
  T : Tab w
  t : 1 < w.heap.size
theorem pre_ok {l : L4} (hg : Good l) {N : N4} (hN : N.Le l.len) : okV N.v = true := by
  rw [okV_iff]
  obtain ⟨h1, h2, h3, h4⟩ := hN
  have := hg.a
  have := hg.b
  have := hg.c
  have := hg.d
  unfold L4.len at *
  simp only at h1 h2 h3 h4
  unfold N4.v
  simp only
  omega
set_option maxRecDepth 100000 in
set_option maxHeartbeats 16000000 in
theorem meetB (w : World) (E X Y qq : Nat) (va vb : V4) (l : L4) (J : N4) (rm : Nat) (hM : MW w E l J rm) (Q : Exit → Act → World → Prop) (r : Nat) (a : Act) (wr : World) (hr : r < 200) (N : N4) (hN : N.Le l.len) (hgap : gapN N J = 0) (h : PN (.int .i64 (rm : Int)) (.bool false) (.pointer (some ⟨X, 0, none⟩)) (.pointer (some ⟨Y, 0, none⟩)) (.int .i64 (r : Int)) a) (hD : DM w E X Y qq va vb l (l.pre N) (l.pre J) wr)
    (hq : ∀ r' a' w', PN (.int .i64 (rm : Int)) (.bool false) (.pointer (some ⟨X, 0, none⟩)) (.pointer (some ⟨Y, 0, none⟩)) (.int .i64 r') a' → DM w E X Y qq va vb l (l.pre N) (l.pre J) w' → Q (.exit 2) a' w') :
    Code.wp Tryd.prog (loopAt Tryd.f6.body 1) (Exit.then (fun a' w' => IM2 w E X Y qq va vb l J rm (r + 1) a' w') Q) a wr := by
  have hcv : covV N.v J.v = true := gap_cov.2 hgap
  have HB : ∀ W, Below E w W → Below w.heap.size w W := fun W h => by rw [hM.e]; exact h
  have HOf := Bx.mk (fun W (hb : Below E w W) (hs : SetAt W Y (l.pre J)) => by
    have h := dof_any (.pointer (some ⟨Y, 0, none⟩)) (l.pre J) W (.inr ⟨Y, rfl, hs⟩) (hM.g.pre J) (hM.T.later (HB W hb) hM.t) (Nat.lt_of_lt_of_le hM.t (HB W hb).size)
    rw [L4.pre_len hM.j] at h
    exact h)
  have HAsk := Bx.mk (fun W (hs : SetAt W X (l.pre N)) => by
    have h := ask_any (.pointer (some ⟨X, 0, none⟩)) (l.pre N) J.v (prtL (l.pre J)) W (.inr ⟨X, rfl, hs⟩)
    rw [L4.pre_len hN, askV, hcv] at h
    exact h)
  have HQ := Bx.mk hq
  have S0 := Bx.mk hD
  have hr1 : (r : Int) < 200 := by omega
  clear hM hN hgap hcv hD hq HB
  obtain ⟨y, rfl, hy⟩ := open181 h.fr
  have e3 := (hy 3).symm.trans h.s3
  have e8 := (hy 8).symm.trans h.s8
  have e11 := (hy 11).symm.trans h.s11
  have e12 := (hy 12).symm.trans h.s12
  have e17 := (hy 17).symm.trans h.s17
  clear h hy
  rw [e3, e8, e11, e12, e17]
  clear e3 e8 e11 e12 e17
  conv => arg 2; whnf
  go_wp2_with fail
  refine (HOf.out wr S0.out.k.below S0.out.y).mono ?_
  rintro e w1 ⟨rfl, hb⟩
  have S1 := Bx.mk (S0.out.later hb)
  clear hb S0 HOf
  go_wp2_with fail
  refine (HAsk.out w1 S1.out.x).mono ?_
  rintro e w2 ⟨rfl, hb⟩
  have S2 := Bx.mk (S1.out.later hb)
  clear hb S1 HAsk
  obtain ⟨M, hM⟩ : ∃ Z, w2.heap.size = Z := ⟨_, rfl⟩
  simp only [if_true, V4.zero, V4.v, Bool.not_true]
  go_wp2_with (refine wpList_store_v9 rfl 28 _ _ rfl w2 M hM #[.int .i64 0, .int .i64 0, .int .i64 0, .int .i64 0] 28 rfl (by rfl) #[.int .i64 0, .int .i64 0, .int .i64 0, .int .i64 0] (by rfl) rfl (by kernel_rfl) (by simp [Value.oneCell']) ?_; intro w3 hb _ _; have S3 := Bx.mk (S2.out.later hb); clear hb S2)
  exact HQ.out _ _ _ ⟨⟨rfl, rfl⟩, rfl, rfl, rfl, rfl, rfl⟩ S3.out
set_option maxRecDepth 100000 in
set_option maxHeartbeats 16000000 in
theorem meetR (w : World) (E X Y qq : Nat) (va vb : V4) (l : L4) (J : N4) (rm : Nat) (hM : MW w E l J rm) (Q : Exit → Act → World → Prop) (r : Nat) (a : Act) (wr : World) (hr : r < 200) (N : N4) (hN : N.Le l.len) (hgap : gapN N J ≠ 0) (hsum : gapN N J + r ≤ 160) (h : PN (.int .i64 (rm : Int)) (.bool false) (.pointer (some ⟨X, 0, none⟩)) (.pointer (some ⟨Y, 0, none⟩)) (.int .i64 (r : Int)) a) (hD : DM w E X Y qq va vb l (l.pre N) (l.pre J) wr) :
    Code.wp Tryd.prog (loopAt Tryd.f6.body 1) (Exit.then (fun a' w' => IM2 w E X Y qq va vb l J rm (r + 1) a' w') Q) a wr := by
  have hcv : covV N.v J.v = false := by
    cases h : covV N.v J.v with
    | false => rfl
    | true => exact absurd (gap_cov.1 h) hgap
  have HB : ∀ W, Below E w W → Below w.heap.size w W := fun W h => by rw [hM.e]; exact h
  have HOf := Bx.mk (fun W (hb : Below E w W) (hs : SetAt W Y (l.pre J)) => by
    have h := dof_any (.pointer (some ⟨Y, 0, none⟩)) (l.pre J) W (.inr ⟨Y, rfl, hs⟩) (hM.g.pre J) (hM.T.later (HB W hb) hM.t) (Nat.lt_of_lt_of_le hM.t (HB W hb).size)
    rw [L4.pre_len hM.j] at h
    exact h)
  have HAsk := Bx.mk (fun W (hs : SetAt W X (l.pre N)) => by
    have h := ask_any (.pointer (some ⟨X, 0, none⟩)) (l.pre N) J.v (prtL (l.pre J)) W (.inr ⟨X, rfl, hs⟩)
    rw [L4.pre_len hN, askV, hcv] at h
    exact h)
  obtain ⟨nn, hnn⟩ : ∃ nn, (rm - 16) / 2 = nn := ⟨_, rfl⟩
  have hnn1 : 1 ≤ nn := by have := hM.r1; omega
  obtain ⟨k, hk, hap, hkg⟩ := meet_step hM.g hM.nd N J nn hN hM.j
  obtain ⟨g1, hg1⟩ : ∃ g1, min nn (gapN N J) = g1 := ⟨_, rfl⟩
  rw [hg1] at hap hkg
  have hg2 : 1 ≤ g1 ∧ g1 ≤ 160 := by omega
  have HEnd := Bx.mk (show k.Le l.len ∧ gapN k J + (r + 1) ≤ 160 from ⟨hk, by omega⟩)
  have HAn := Bx.mk (fun W (hs : SetAt W Y (l.pre J)) => by
    have h := answer_ok N.v Y (l.pre J) (rm : Int) W hs (hM.g.pre J) (pre_ok hM.g hN) (by have := hM.r1; omega) (fun f x m W hx hm => by
      have h := cut9 f x m rm W hx hm (by have := hM.r1; omega) (by have := hM.r2; omega)
      rw [show ((((rm : Int) - 16) / 2).toNat) = (rm - 16) / 2 by omega]
      exact h)
    rw [show ((((rm : Int) - 16) / 2).toNat) = nn by omega, L4.pre_len hM.j] at h
    exact h)
  have hmo : Most (ansL (l.pre J) N.v nn) 1000 := by
    have h1 := hM.g.a
    have h2 := hM.g.b
    have h3 := hM.g.c
    have h4 := hM.g.d
    unfold ansL L4.pre
    constructor <;> (simp only [List.length_take, List.length_drop]; omega)
  have HAp := Bx.mk (fun W u (hu : Rows4 W u (ansL (l.pre J) N.v nn)) (hs : SetAt W X (l.pre N)) (hb : Below E w W) => by
    have h := apply_any (lowV N.v J.v) u (ansL (l.pre J) N.v nn) (l.pre N) X W hu hmo hs (hM.F.later (HB W hb) hM.f) (Nat.lt_of_lt_of_le hM.f (HB W hb).size) (hM.g.pre N)
    rw [hap] at h
    exact h)
  have S0 := Bx.mk hD
  have hr1 : (r : Int) < 200 := by omega
  have hr3 : IntKind.i64.wrap ((r : Int) + 1) = ((r + 1 : Nat) : Int) := by rw [IntKind.wrap_i64]; omega
  generalize lowV N.v J.v = lo at *
  generalize ansL (l.pre J) N.v nn = an at *
  obtain ⟨nv, hnv⟩ : ∃ nv, N.v = nv := ⟨_, rfl⟩
  rw [hnv] at HAsk HAn
  clear hM hN hgap hcv hD HB hmo hap hk hkg hnn hnn1 hsum hnv
  obtain ⟨y, rfl, hy⟩ := open181 h.fr
  have e3 := (hy 3).symm.trans h.s3
  have e8 := (hy 8).symm.trans h.s8
  have e11 := (hy 11).symm.trans h.s11
  have e12 := (hy 12).symm.trans h.s12
  have e17 := (hy 17).symm.trans h.s17
  clear h hy
  rw [e3, e8, e11, e12, e17]
  clear e3 e8 e11 e12 e17
  conv => arg 2; whnf
  go_wp2_with fail
  refine (HOf.out wr S0.out.k.below S0.out.y).mono ?_
  rintro e w1 ⟨rfl, hb⟩
  have S1 := Bx.mk (S0.out.later hb)
  clear hb S0 HOf
  go_wp2_with fail
  refine (HAsk.out w1 S1.out.x).mono ?_
  rintro e w2 ⟨rfl, hb⟩
  have S2 := Bx.mk (S1.out.later hb)
  clear hb S1 HAsk
  obtain ⟨M, hM⟩ : ∃ Z, w2.heap.size = Z := ⟨_, rfl⟩
  have K2 : Bx (KR w2 M [] w2) := ⟨by rw [← hM]; exact KR.start w2⟩
  simp only [Bool.false_eq_true, if_false, V4.v, Bool.not_false]
  go_wp2_with (first | (refine wpList_store_v9 rfl 28 _ _ rfl w2 M hM #[.int .i64 0, .int .i64 0, .int .i64 0, .int .i64 0] 28 rfl (by rfl) #[.int .i64 nv.a, .int .i64 nv.b, .int .i64 nv.c, .int .i64 nv.d] (by rfl) rfl (by kernel_rfl) (by simp [Value.oneCell']) ?_; intro w3 hb hr _; have S3 := Bx.mk (S2.out.later hb); have K3 := Bx.mk (K2.out.var9 hM hb hr); clear hb hr S2 K2) | (refine wpList_load_row rfl 28 _ rfl M (by rfl) _ #[.int .i64 nv.a, .int .i64 nv.b, .int .i64 nv.c, .int .i64 nv.d] (0, 0) _ (K3.out.rows _ (.head _)) Tryd.underlying28 rfl (by kernel_rfl) ?_))
  refine (HAn.out w3 S3.out.y).mono ?_
  rintro e w4 ⟨u, rfl, hu, hb⟩
  obtain ⟨u1, u2, u3, u4, b1, b2, b3, b4, rfl⟩ := hu.forms
  have S4 := Bx.mk (And.intro (S3.out.later hb) hu)
  have K4 := Bx.mk (K3.out.later hb)
  clear hb hu S3 K3 HAn hM
  obtain ⟨D, hD⟩ : ∃ Z, w4.heap.size = Z := ⟨_, rfl⟩
  unfold dC
  simp only
  go_wp2_with (first | (refine wpList_store_v9 rfl 30 _ _ rfl w4 D hD #[.int .i64 0, .int .i64 0, .int .i64 0, .int .i64 0, .slice none 0 0, .slice none 0 0, .slice none 0 0, .slice none 0 0] 30 rfl (by rfl) #[.int .i64 lo.a, .int .i64 lo.b, .int .i64 lo.c, .int .i64 lo.d, .slice u1 an.a.length b1, .slice u2 an.b.length b2, .slice u3 an.c.length b3, .slice u4 an.d.length b4] (by rfl) rfl (by kernel_rfl) (by simp [Value.oneCell']) ?_; intro w5 hb hr _; have S5 := Bx.mk (And.intro (S4.out.1.later hb) (S4.out.2.later hb)); have K5 := Bx.mk (K4.out.var9 hD hb hr); clear hb hr S4 K4) | (refine wpList_load_row rfl 30 _ rfl D (by rfl) _ #[.int .i64 lo.a, .int .i64 lo.b, .int .i64 lo.c, .int .i64 lo.d, .slice u1 an.a.length b1, .slice u2 an.b.length b2, .slice u3 an.c.length b3, .slice u4 an.d.length b4] (0, 0) _ (K5.out.rows _ (.head _)) Tryd.underlying30 rfl (by kernel_rfl) ?_))
  have S6 := Bx.mk (And.intro (S5.out.1.later (below_a (.cells #[.int .i64 lo.a, .int .i64 lo.b, .int .i64 lo.c, .int .i64 lo.d, .slice u1 an.a.length b1, .slice u2 an.b.length b2, .slice u3 an.c.length b3, .slice u4 an.d.length b4] 30))) (S5.out.2.later (below_a (.cells #[.int .i64 lo.a, .int .i64 lo.b, .int .i64 lo.c, .int .i64 lo.d, .slice u1 an.a.length b1, .slice u2 an.b.length b2, .slice u3 an.c.length b3, .slice u4 an.d.length b4] 30))))
  have HXl := Bx.mk (show X < w5.heap.size from S5.out.1.x.lt)
  have hrow : (w5.alloc (.cells #[.int .i64 lo.a, .int .i64 lo.b, .int .i64 lo.c, .int .i64 lo.d, .slice u1 an.a.length b1, .slice u2 an.b.length b2, .slice u3 an.c.length b3, .slice u4 an.d.length b4] 30)).heap[w5.heap.size]? = some (.cells #[.int .i64 lo.a, .int .i64 lo.b, .int .i64 lo.c, .int .i64 lo.d, .slice u1 an.a.length b1, .slice u2 an.b.length b2, .slice u3 an.c.length b3, .slice u4 an.d.length b4] 30 (0, 0)) := hnew _ _ _ rfl
  generalize hw6 : w5.alloc (.cells #[.int .i64 lo.a, .int .i64 lo.b, .int .i64 lo.c, .int .i64 lo.d, .slice u1 an.a.length b1, .slice u2 an.b.length b2, .slice u3 an.c.length b3, .slice u4 an.d.length b4] 30) = w6 at *
  have HAp2 : ∀ W, Below w6.heap.size w6 W → Calls Tryd.prog 73 #[.pointer (some ⟨X, 0, none⟩), .agg #[.int .i64 lo.a, .int .i64 lo.b, .int .i64 lo.c, .int .i64 lo.d, .slice u1 an.a.length b1, .slice u2 an.b.length b2, .slice u3 an.c.length b3, .slice u4 an.d.length b4]] W fun e' w' => e' = .returned (.tuple #[.int .i64 (g1 : Int), .int .i64 0]) ∧ SetAt w' X (l.pre k) ∧ W.grownBy w' (some X) := fun W hW => by
    have h := HAp.out W ⟨.slice u1 an.a.length b1, .slice u2 an.b.length b2, .slice u3 an.c.length b3, .slice u4 an.d.length b4⟩ (S6.out.2.later hW) (S6.out.1.x.later hW) (S6.out.1.k.below.trans (hW.mono S6.out.1.k.le))
    unfold dC at h
    exact h
  have hM1 := merge_one (.pointer (some ⟨X, 0, none⟩)) (.int .i64 lo.a) (.int .i64 lo.b) (.int .i64 lo.c) (.int .i64 lo.d) (.slice u1 an.a.length b1) (.slice u2 an.b.length b2) (.slice u3 an.c.length b3) (.slice u4 an.d.length b4) (g1 : Int) 0 w5.heap.size X (fun W => SetAt W X (l.pre k)) w6 hrow (by simp [Value.oneCell']) (by omega) (by omega) (S6.out.1.x.lt) (by have := HXl.out; omega) (fun W W1 h hb => h.later hb) HAp2
  refine hM1.mono ?_
  rintro e w7 ⟨v, rfl, ho, hs, hg⟩
  obtain ⟨av, cv, rfl⟩ := ho.form
  obtain ⟨gv, ov, rfl, c9, -⟩ := ints_one9 ho.ints
  have S7 := Bx.mk (S6.out.1.onX hg hs)
  have hg3 : ¬ (g1 : Int) < 1 := by omega
  have hg4 : (1 : Int) ≤ (g1 : Int) := by omega
  clear ho hs hg S6 S5 K5 hrow hw6 HAp
  simp only [List.length_cons, List.length_nil, Nat.zero_add] at c9 ⊢
  go_wp2
  exact ⟨k, HEnd.out.1, HEnd.out.2, ⟨⟨rfl, rfl⟩, rfl, rfl, rfl, rfl, rfl⟩, S7.out⟩
end Go.Proofs.YtnfgamekjbkbkaaDoor
