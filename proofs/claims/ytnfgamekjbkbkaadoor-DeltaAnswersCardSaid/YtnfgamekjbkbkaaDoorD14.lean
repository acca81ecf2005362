/-
  Delta: the document's answer: a log's serials, as long as there is room.
-/
import Derived.Test.YtnfgamekjbkbkaaDoorD5
namespace Go.Proofs.YtnfgamekjbkbkaaDoor
open Go Go.RowKit
set_option maxRecDepth 100000 in
theorem open73 {a : Act} (h : Fr 73 a) : ∃ x : Nat → Value, a = ⟨List.toArray (x 0 :: x 1 :: x 2 :: x 3 :: x 4 :: x 5 :: x 6 :: x 7 :: x 8 :: x 9 :: x 10 :: x 11 :: x 12 :: x 13 :: x 14 :: x 15 :: x 16 :: x 17 :: x 18 :: x 19 :: x 20 :: x 21 :: x 22 :: x 23 :: x 24 :: x 25 :: x 26 :: x 27 :: x 28 :: x 29 :: x 30 :: x 31 :: x 32 :: x 33 :: x 34 :: x 35 :: x 36 :: x 37 :: x 38 :: x 39 :: x 40 :: x 41 :: x 42 :: x 43 :: x 44 :: x 45 :: x 46 :: x 47 :: x 48 :: x 49 :: x 50 :: x 51 :: x 52 :: x 53 :: x 54 :: x 55 :: x 56 :: x 57 :: x 58 :: x 59 :: x 60 :: x 61 :: x 62 :: x 63 :: x 64 :: x 65 :: x 66 :: x 67 :: x 68 :: x 69 :: x 70 :: x 71 :: x 72 :: []), []⟩ ∧ ∀ i, a.eval (.tmp i) = x i := ⟨fun i => a.tmps.getD i undef, h.form, fun _ => rfl⟩
/-- What stays while a log's serials are put, against the world at its start. -/
structure AI (W2 : World) (D : Nat) (cs : Array Value) (u : Value) (l : List Int) (W : World) : Prop where
  kb : W2.grownBy W (some D)
  row : W.heap[D]? = some (.cells cs 26 (0, 0))
  own : OwnI W W2.heap.size u l
theorem AI.later {W2 : World} {D : Nat} {cs : Array Value} {u : Value} {l : List Int} {W W1 : World} (h : AI W2 D cs u l W) (hb : Below W.heap.size W W1) : AI W2 D cs u l W1 :=
  ⟨kb_trans h.kb (kb_below _ hb), by rw [hb.block D (Array.getElem?_eq_some_iff.1 h.row).1]; exact h.row, h.own.later hb (fun g hg => (h.own.lt g hg).1)⟩
theorem AI.ap {W2 : World} {D : Nat} {cs : Array Value} {u u1 : Value} {l l1 : List Int} {W W1 : World} (h : AI W2 D cs u l W) (hD : D < W2.heap.size) (ho : OwnI W1 W2.heap.size u1 l1) (hg : W.grownBy W1 u.ownBlock) : AI W2 D cs u1 l1 W1 :=
  ⟨⟨hg.os.trans h.kb.os, hg.tape.trans h.kb.tape, hg.output.trans h.kb.output, Nat.le_trans h.kb.size hg.size, fun g hgl hn => (hg.block g (Nat.lt_of_lt_of_le hgl h.kb.size) (fun e => by have := (h.own.lt g e.symm).2; omega)).trans (h.kb.block g hgl hn)⟩, by rw [hg.block D (Array.getElem?_eq_some_iff.1 h.row).1 (fun e => by have := (h.own.lt D e.symm).2; omega)]; exact h.row, ho⟩
theorem ownI_off9 {W W1 : World} {base D : Nat} {u : Value} {l : List Int} (h : OwnI W base u l) (hD : D < base) (hg : W.grownBy W1 (some D)) : OwnI W1 base u l := by
  rcases h.2 with ⟨hn, h0⟩ | ⟨g, cap, cur, hv, hb, hr, h3⟩
  · exact ⟨h.1, .inl ⟨hn, h0⟩⟩
  · exact ⟨h.1, .inr ⟨g, cap, cur, hv, hb, by rw [hg.block g (Array.getElem?_eq_some_iff.1 hr).1 (fun e => by have := Option.some.inj e; omega)]; exact hr, h3⟩⟩
theorem AI.put {W2 : World} {D : Nat} {cs ds : Array Value} {u : Value} {l : List Int} {W W1 : World} (h : AI W2 D cs u l W) (hD : D < W2.heap.size) (hg : W.grownBy W1 (some D)) (hr : W1.heap[D]? = some (.cells ds 26 (0, 0))) : AI W2 D ds u l W1 :=
  ⟨kb_trans h.kb hg, hr, ownI_off9 h.own hD hg⟩
theorem step_cellS9 {ops : Array Oper} {o : Oper} {a : Act} {w : World} {K : Act → World → Prop} {Q : Exit → Act → World → Prop} {F : Prop} (hgd : o.guard = none) (x y : Operand) (ho : o.op = .store 23 x y)
    (b i : Nat) (a1 : Option Addr) (n1 c1 : Nat) (cs ds : Array Value) (t : TypeId) (hx : a.eval x = .pointer (some ⟨b, i, none⟩)) (hy : a.eval y = .slice a1 n1 c1) (hrow : w.heap[b]? = some (.cells cs t (0, 0))) (hi : i < cs.size) (hd : cs.setIfInBounds i (.slice a1 n1 c1) = ds)
    (h : ∀ w', w.grownBy w' (some b) → w'.heap[b]? = some (.cells ds t (0, 0)) → K (a.put o.dst undef) w') : if Region.wanted o (yielded ops a.tmps) = true then Oper.wp Tryd.prog o a w K Q else F := by
  have hw : Region.wanted o (yielded ops a.tmps) = true := by simp [Region.wanted, hgd]
  rw [if_pos hw]
  have hrun := run_cellS w b i a1 n1 c1 cs[i] (by rw [cell_of_row _ _ _ _ _ _ hrow]; exact Array.getElem?_eq_getElem hi) (frozen_of_row _ _ _ _ _ hrow)
  unfold Oper.wp execOp
  simp only [ho, hx, hy, hrun, Sem.run_bind, Sem.run_pure, Result.andThen_ok]
  exact h _ (kb_set1 _ _ _ _) (by rw [← hd]; exact heap_setCell_same _ _ _ _ _ _ hrow)
theorem take_drop_snoc (L : List Int) (f m : Nat) (h : f + m < L.length) : (L.drop f).take (m + 1) = (L.drop f).take m ++ [L.getD (f + m) 0] := by
  rw [List.take_add_one, List.getElem?_drop, List.getElem?_eq_getElem h, List.getD_eq_getElem?_getD, List.getElem?_eq_getElem h]
  rfl
/-- What the inner loop leaves alone. -/
structure PA (v0 v4 v6 v7 v9 : Value) (a : Act) : Prop where
  fr : Fr 73 a
  s0 : a.eval (.tmp 0) = v0
  s4 : a.eval (.tmp 4) = v4
  s6 : a.eval (.tmp 6) = v6
  s7 : a.eval (.tmp 7) = v7
  s9 : a.eval (.tmp 9) = v9
/-- Between two rounds of the inner loop. -/
structure IQ (W2 : World) (D i : Nat) (xs : Array Value) (L : List Int) (f n : Nat) (v0 v4 v6 : Value) (m : Nat) (a : Act) (W : World) : Prop where
  fr : PA v0 v4 v6 (.pointer (some ⟨D, 0, none⟩)) (.int .i64 (i : Int)) a
  s8 : a.eval (.tmp 8) = .int .i64 ((n - m : Nat) : Int)
  s10 : a.eval (.tmp 10) = .int .i64 ((f + m : Nat) : Int)
  ai : ∃ oa ol oc, AI W2 D (xs.setIfInBounds (4 + i) (.slice oa ol oc)) (.slice oa ol oc) ((L.drop f).take m) W
set_option maxRecDepth 100000 in
set_option maxHeartbeats 16000000 in
theorem rndA0 (W2 : World) (D q c o cap : Nat) (sa : Option Addr) (x0 x1 x2 x3 x4 x5 x6 x7 : Value) (L : List Int) (f n tot : Nat) (v4 v6 : Value) (htot : min (L.length - f) n = tot) (hf : f ≤ L.length) (hL : L.length ≤ 1000) (hn : (n : Int) ≤ 4611686018427387904) (hD : D < W2.heap.size)
    (hsa : 0 < L.length → sa = some ⟨c, o, none⟩) (HC0 : ∀ W, W2.grownBy W (some D) → W.cell? ⟨q, 0, none⟩ = some (.slice sa L.length cap) ∧ ∀ j, j < L.length → W.cell? ⟨c, o + j, none⟩ = some (.int .i64 (L.getD j 0)))
    (Q : Exit → Act → World → Prop) (m : Nat) (a : Act) (wr : World) (h : IQ W2 D 0 #[x0, x1, x2, x3, x4, x5, x6, x7] L f n (.pointer (some ⟨q, 0, none⟩)) v4 v6 m a wr) (hm : m ≤ tot)
    (hq : ∀ a' w', IQ W2 D 0 #[x0, x1, x2, x3, x4, x5, x6, x7] L f n (.pointer (some ⟨q, 0, none⟩)) v4 v6 tot a' w' → Q (.exit 2) a' w') :
    Code.wp Tryd.prog (loopAt (Tryd.f38.body) 1) (Exit.then (fun a' w' => m < tot ∧ IQ W2 D 0 #[x0, x1, x2, x3, x4, x5, x6, x7] L f n (.pointer (some ⟨q, 0, none⟩)) v4 v6 (m + 1) a' w') Q) a wr := by
  obtain ⟨oa, ol, oc, hai⟩ := h.ai
  have R0 : Bx (AI W2 D #[x0, x1, x2, x3, .slice oa ol oc, x5, x6, x7] (.slice oa ol oc) ((L.drop f).take m) wr) := ⟨hai⟩
  have HD := Bx.mk hD
  have HC1 := Bx.mk HC0
  have HQ := Bx.mk hq
  have HT : Bx (((L.drop f).take m).length ≤ 1000) := ⟨by rw [List.length_take, List.length_drop]; omega⟩
  have kcell : wr.cell? ⟨q, 0, none⟩ = some (.slice sa L.length cap) := (HC0 wr hai.kb).1
  obtain ⟨y, rfl, hy⟩ := open73 h.fr.fr
  have e0' := (hy 0).symm.trans h.fr.s0
  have e4 := (hy 4).symm.trans h.fr.s4
  have e6 := (hy 6).symm.trans h.fr.s6
  have e7 := (hy 7).symm.trans h.fr.s7
  have e9 := (hy 9).symm.trans h.fr.s9
  have e8 := (hy 8).symm.trans h.s8
  have e10 := (hy 10).symm.trans h.s10
  have hIQ := Bx.mk h
  by_cases hlt : m < tot
  · obtain ⟨r1, hr1⟩ : ∃ r, n - m = r := ⟨_, rfl⟩
    obtain ⟨r2, hr2⟩ : ∃ r, n - (m + 1) = r := ⟨_, rfl⟩
    obtain ⟨k, hk⟩ : ∃ k, f + m = k := ⟨_, rfl⟩
    obtain ⟨k2, hk2⟩ : ∃ k, f + (m + 1) = k := ⟨_, rfl⟩
    have HR2 := Bx.mk (And.intro hr2 hk2)
    have hlm : k < L.length := by omega
    obtain rfl := hsa (by omega)
    obtain ⟨e0, he0⟩ : ∃ e, L.getD k 0 = e := ⟨_, rfl⟩
    have HC : Bx (∀ W, W2.grownBy W (some D) → W.cell? ⟨q, 0, none⟩ = some (.slice (some ⟨c, o, none⟩) L.length cap) ∧ W.cell? ⟨c, o + k, none⟩ = some (.int .i64 e0)) := ⟨fun W hW => ⟨(HC0 W hW).1, by rw [← he0]; exact (HC0 W hW).2 _ hlm⟩⟩
    have HSn := Bx.mk (take_drop_snoc L f m (by omega))
    rw [hk, he0] at HSn
    have HLT := Bx.mk hlt
    have b1 : (k : Int) < (L.length : Int) := by omega
    have b2 : (0 : Int) < (r1 : Int) := by omega
    have b3 : IntKind.i64.wrap ((r1 : Int) - 1) = (r2 : Int) := by rw [show (r1 : Int) - 1 = (r2 : Int) by omega]; exact IntWalk.i64_in _ (by omega)
    have b4 : IntKind.i64.wrap ((k : Int) + 1) = (k2 : Int) := by rw [show (k : Int) + 1 = (k2 : Int) by omega]; exact IntWalk.i64_in _ (by omega)
    have b5 : 0 < r1 := by omega
    rw [hr1] at e8
    rw [hk] at e10
    clear h hai hy hq hIQ HC0 HC1 HQ htot hf hL hn hD hm hlt he0 hsa hr1 hr2 hk hk2
    rw [e0', e4, e6, e7, e8, e9, e10]
    clear e0' e4 e6 e7 e8 e9 e10
    generalize L.length = LL at *
    conv => arg 2; whnf
    go_upto_region 10 with fail
    have Z0 := Bx.mk (R0.out.later (Below.refl _ _).drew)
    clear R0 kcell
    refine wp_region_noPanic ?_
    refine wp_region_held_drew (S := fun W => W.cell? ⟨q, 0, none⟩ = some (.slice (some ⟨c, o, none⟩) LL cap) ∧ W.cell? ⟨c, o + k, none⟩ = some (.int .i64 e0)) (by kernel_rfl) (HC.out _ Z0.out.kb) (fun hHeld => ?_)
    generalize wr.drew = W0 at *
    refine takeL 0 (v := ?_) rfl (by kernel_rfl) (by kernel_rfl) (by kernel_rfl) (fun _ _ _ h => h) (Or.inl ⟨by rfl, ?_⟩) hHeld ?_
    rotate_left 1
    · (intro w hSw; go_simp; try with_reducible rfl)
    try simp only [Act.put, List.setIfInBounds_toArray, List.set_cons_zero, List.set_cons_succ]
    refine takeL 1 (v := ?_) rfl (by kernel_rfl) (by kernel_rfl) (by kernel_rfl) (fun _ _ _ h => h) (Or.inl ⟨by rfl, ?_⟩) hHeld ?_
    rotate_left 1
    · (intro w hSw; go_simp; try with_reducible rfl)
    try simp only [Act.put, List.setIfInBounds_toArray, List.set_cons_zero, List.set_cons_succ]
    refine takeL 2 (v := ?_) rfl (by kernel_rfl) (by kernel_rfl) (by kernel_rfl) (fun _ _ _ h => h) (Or.inl ⟨by rfl, ?_⟩) hHeld ?_
    rotate_left 1
    · (intro w hSw; go_simp; try with_reducible rfl)
    try simp only [Act.put, List.setIfInBounds_toArray, List.set_cons_zero, List.set_cons_succ]
    refine takeL 3 (v := ?_) rfl (by kernel_rfl) (by kernel_rfl) (by kernel_rfl) (fun _ _ _ h => h) (Or.inl ⟨by rfl, ?_⟩) hHeld ?_
    rotate_left 1
    · (intro w hSw; go_simp; try with_reducible rfl)
    try simp only [Act.put, List.setIfInBounds_toArray, List.set_cons_zero, List.set_cons_succ]
    refine takeL 5 (v := ?_) rfl (by kernel_rfl) (by kernel_rfl) (by kernel_rfl) (fun _ _ _ h => h) (Or.inl ⟨by rfl, ?_⟩) hHeld ?_
    rotate_left 1
    · (intro w hSw; go_simp; try with_reducible rfl)
    try simp only [Act.put, List.setIfInBounds_toArray, List.set_cons_zero, List.set_cons_succ]
    refine takeL 6 (v := ?_) rfl (by kernel_rfl) (by kernel_rfl) (by kernel_rfl) (fun _ _ _ h => h) (Or.inl ⟨by rfl, ?_⟩) hHeld ?_
    rotate_left 1
    · (intro w hSw; go_simp; try with_reducible rfl)
    try simp only [Act.put, List.setIfInBounds_toArray, List.set_cons_zero, List.set_cons_succ]
    refine takeL 7 (v := ?_) rfl (by kernel_rfl) (by kernel_rfl) (by kernel_rfl) (fun _ _ _ h => h) (Or.inl ⟨by rfl, ?_⟩) hHeld ?_
    rotate_left 1
    · (intro w hSw; go_simp; try with_reducible rfl)
    try simp only [Act.put, List.setIfInBounds_toArray, List.set_cons_zero, List.set_cons_succ]
    refine takeL 8 (v := ?_) rfl (by kernel_rfl) (by kernel_rfl) (by kernel_rfl) (fun _ _ _ h => h) (Or.inl ⟨by rfl, ?_⟩) hHeld ?_
    rotate_left 1
    · (intro w hSw; go_simp; try with_reducible rfl)
    try simp only [Act.put, List.setIfInBounds_toArray, List.set_cons_zero, List.set_cons_succ]
    refine takeL 9 (v := ?_) rfl (by kernel_rfl) (by kernel_rfl) (by kernel_rfl) (fun _ _ _ h => h) (Or.inl ⟨by rfl, ?_⟩) hHeld ?_
    rotate_left 1
    · (intro w hSw; go_simp; try with_reducible rfl)
    try simp only [Act.put, List.setIfInBounds_toArray, List.set_cons_zero, List.set_cons_succ]
    refine takeL 10 (v := ?_) rfl (by kernel_rfl) (by kernel_rfl) (by kernel_rfl) (fun _ _ _ h => h) (Or.inl ⟨by rfl, ?_⟩) hHeld ?_
    rotate_left 1
    · (intro w hSw; obtain ⟨q1, q2⟩ := hSw; go_simp; try with_reducible rfl)
    try simp only [Act.put, List.setIfInBounds_toArray, List.set_cons_zero, List.set_cons_succ]
    refine takeL 11 (v := ?_) rfl (by kernel_rfl) (by kernel_rfl) (by kernel_rfl) (fun _ _ _ h => h) (Or.inl ⟨by rfl, ?_⟩) hHeld ?_
    rotate_left 1
    · (intro w hSw; go_simp; try with_reducible rfl)
    try simp only [Act.put, List.setIfInBounds_toArray, List.set_cons_zero, List.set_cons_succ]
    refine takeL 12 (v := ?_) rfl (by kernel_rfl) (by kernel_rfl) (by kernel_rfl) (fun _ _ _ h => h) (Or.inl ⟨by rfl, ?_⟩) hHeld ?_
    rotate_left 1
    · (intro w hSw; obtain ⟨q1, q2⟩ := hSw; go_simp; try with_reducible rfl)
    try simp only [Act.put, List.setIfInBounds_toArray, List.set_cons_zero, List.set_cons_succ]
    refine takeL 13 (v := ?_) rfl (by kernel_rfl) (by kernel_rfl) (by kernel_rfl) (fun _ _ _ h => h) (Or.inl ⟨by rfl, ?_⟩) hHeld ?_
    rotate_left 1
    · (intro w hSw; obtain ⟨q1, q2⟩ := hSw; go_simp; try with_reducible rfl)
    try simp only [Act.put, List.setIfInBounds_toArray, List.set_cons_zero, List.set_cons_succ]
    refine takeL 16 (v := ?_) rfl (by kernel_rfl) (by kernel_rfl) (by kernel_rfl) (fun _ _ _ h => h) (Or.inl ⟨by rfl, ?_⟩) hHeld ?_
    rotate_left 1
    · (intro w hSw; go_simp; try with_reducible rfl)
    try simp only [Act.put, List.setIfInBounds_toArray, List.set_cons_zero, List.set_cons_succ]
    refine wpAnyH_ready (rs := [4, 14]) (by kernel_rfl) (by simp) ?_
    refine consM 4 rfl (fun K hK => ?_) (consM 14 rfl (fun K hK => ?_) AllReadyH.nil)
    · have cu : W0.cell? ⟨D, 4, none⟩ = some (.slice oa ol oc) := by rw [cell_of_row _ _ _ _ _ _ Z0.out.row]; rfl
      go_simp
      clear cu
      refine hK.out _ _ (HC.out _ Z0.out.kb) (fun hHeld => ?_)
      clear hK K
      try simp only [Act.put, List.setIfInBounds_toArray, List.set_cons_zero, List.set_cons_succ]
      refine stepL 14 (by kernel_rfl) rfl (fun K hK => ?_)
      go_simp
      show K _ _
      have HO := Bx.mk (ints1 W0 e0 3)
      have R1 := Bx.mk (Z0.out.later (below_a (.cells #[.int .i64 e0] 3)))
      clear Z0
      generalize W0.heap.size = G at *
      generalize W0.alloc (.cells #[.int .i64 e0] 3) = W1 at *
      refine hK.out _ _ (HC.out _ R1.out.kb) (fun hHeld => ?_)
      clear hK K
      try simp only [Act.put, List.setIfInBounds_toArray, List.set_cons_zero, List.set_cons_succ]
      refine stepL 15 (by kernel_rfl) rfl (fun K hK => ?_)
      refine step_apI9 rfl _ _ rfl W2.heap.size _ _ (by rfl) R1.out.own _ [e0] (by rfl) HO.out (by have := HT.out; simp only [List.length_cons, List.length_nil]; omega) R1.out.kb.size ?_
      intro v' W2 ho hg
      obtain ⟨ba, bc, hv⟩ := ho.form
      obtain ⟨bn, hbn⟩ : ∃ n, ((L.drop f).take m ++ [e0]).length = n := ⟨_, rfl⟩
      rw [hbn] at hv
      subst hv
      have R2 := Bx.mk (R1.out.ap HD.out ho hg)
      clear ho hg hbn R1 HO
      refine hK.out _ _ (HC.out _ R2.out.kb) (fun hHeld => ?_)
      clear hK K
      try simp only [Act.put, List.setIfInBounds_toArray, List.set_cons_zero, List.set_cons_succ]
      refine takeL 17 (v := ?_) rfl (by kernel_rfl) (by kernel_rfl) (by kernel_rfl) (fun _ _ _ h => h) (Or.inl ⟨by rfl, ?_⟩) hHeld ?_
      rotate_left 1
      · (intro w hSw; go_simp; try with_reducible rfl)
      try simp only [Act.put, List.setIfInBounds_toArray, List.set_cons_zero, List.set_cons_succ]
      refine stepL 18 (by kernel_rfl) rfl (fun K hK => ?_)
      refine step_cellS9 rfl _ _ rfl D 4 ba bn bc #[x0, x1, x2, x3, .slice oa ol oc, x5, x6, x7] #[x0, x1, x2, x3, .slice ba bn bc, x5, x6, x7] 26 (by rfl) (by rfl) R2.out.row (by simp) rfl ?_
      intro W3 hg hr
      have R3 := Bx.mk (R2.out.put HD.out hg hr)
      clear hg hr R2
      refine hK.out _ _ (HC.out _ R3.out.kb) (fun hHeld => ?_)
      clear hK K
      try simp only [Act.put]
      refine wpAnyH_done (by kernel_rfl) ?_ _
      refine NoPanic.normal ?_
      clear hHeld
      go_wp2
      exact ⟨HLT.out, ⟨⟨⟨rfl, rfl⟩, rfl, rfl, rfl, rfl, rfl⟩, by rw [HR2.out.1]; rfl, by rw [HR2.out.2]; rfl, _, _, _, by rw [HSn.out]; exact R3.out⟩⟩
    · go_simp
      show K _ _
      have HO := Bx.mk (ints1 W0 e0 3)
      have R1 := Bx.mk (Z0.out.later (below_a (.cells #[.int .i64 e0] 3)))
      clear Z0
      generalize W0.heap.size = G at *
      generalize W0.alloc (.cells #[.int .i64 e0] 3) = W1 at *
      refine hK.out _ _ (HC.out _ R1.out.kb) (fun hHeld => ?_)
      clear hK K
      try simp only [Act.put, List.setIfInBounds_toArray, List.set_cons_zero, List.set_cons_succ]
      refine stepL 4 (by kernel_rfl) rfl (fun K hK => ?_)
      have cu : W1.cell? ⟨D, 4, none⟩ = some (.slice oa ol oc) := by rw [cell_of_row _ _ _ _ _ _ R1.out.row]; rfl
      go_simp
      clear cu
      refine hK.out _ _ (HC.out _ R1.out.kb) (fun hHeld => ?_)
      clear hK K
      try simp only [Act.put, List.setIfInBounds_toArray, List.set_cons_zero, List.set_cons_succ]
      refine stepL 15 (by kernel_rfl) rfl (fun K hK => ?_)
      refine step_apI9 rfl _ _ rfl W2.heap.size _ _ (by rfl) R1.out.own _ [e0] (by rfl) HO.out (by have := HT.out; simp only [List.length_cons, List.length_nil]; omega) R1.out.kb.size ?_
      intro v' W2 ho hg
      obtain ⟨ba, bc, hv⟩ := ho.form
      obtain ⟨bn, hbn⟩ : ∃ n, ((L.drop f).take m ++ [e0]).length = n := ⟨_, rfl⟩
      rw [hbn] at hv
      subst hv
      have R2 := Bx.mk (R1.out.ap HD.out ho hg)
      clear ho hg hbn R1 HO
      refine hK.out _ _ (HC.out _ R2.out.kb) (fun hHeld => ?_)
      clear hK K
      try simp only [Act.put, List.setIfInBounds_toArray, List.set_cons_zero, List.set_cons_succ]
      refine takeL 17 (v := ?_) rfl (by kernel_rfl) (by kernel_rfl) (by kernel_rfl) (fun _ _ _ h => h) (Or.inl ⟨by rfl, ?_⟩) hHeld ?_
      rotate_left 1
      · (intro w hSw; go_simp; try with_reducible rfl)
      try simp only [Act.put, List.setIfInBounds_toArray, List.set_cons_zero, List.set_cons_succ]
      refine stepL 18 (by kernel_rfl) rfl (fun K hK => ?_)
      refine step_cellS9 rfl _ _ rfl D 4 ba bn bc #[x0, x1, x2, x3, .slice oa ol oc, x5, x6, x7] #[x0, x1, x2, x3, .slice ba bn bc, x5, x6, x7] 26 (by rfl) (by rfl) R2.out.row (by simp) rfl ?_
      intro W3 hg hr
      have R3 := Bx.mk (R2.out.put HD.out hg hr)
      clear hg hr R2
      refine hK.out _ _ (HC.out _ R3.out.kb) (fun hHeld => ?_)
      clear hK K
      try simp only [Act.put]
      refine wpAnyH_done (by kernel_rfl) ?_ _
      refine NoPanic.normal ?_
      clear hHeld
      go_wp2
      exact ⟨HLT.out, ⟨⟨⟨rfl, rfl⟩, rfl, rfl, rfl, rfl, rfl⟩, by rw [HR2.out.1]; rfl, by rw [HR2.out.2]; rfl, _, _, _, by rw [HSn.out]; exact R3.out⟩⟩
  · have he : m = tot := by omega
    subst he
    obtain ⟨r1, hr1⟩ : ∃ r, n - m = r := ⟨_, rfl⟩
    obtain ⟨k, hk⟩ : ∃ k, f + m = k := ⟨_, rfl⟩
    have HR2 := Bx.mk (And.intro hr1 hk)
    have HQ2 : Bx (AI W2 D #[x0, x1, x2, x3, .slice oa ol oc, x5, x6, x7] (.slice oa ol oc) ((L.drop f).take m) wr) := ⟨R0.out⟩
    rw [hr1] at e8
    rw [hk] at e10
    by_cases hk1 : k < L.length
    · have b1 : (k : Int) < (L.length : Int) := by omega
      have b2 : ¬ (0 : Int) < (r1 : Int) := by omega
      have b3 : ¬ 0 < r1 := by omega
      clear h hai hy hq hIQ HC0 HC1 htot hf hL hn hD hm hlt hr1 hk hsa
      rw [e0', e4, e6, e7, e8, e9, e10]
      clear e0' e4 e6 e7 e8 e9 e10
      generalize L.length = LL at *
      conv => arg 2; whnf
      go_wp2
      exact HQ.out _ _ ⟨⟨⟨rfl, rfl⟩, rfl, rfl, rfl, rfl, rfl⟩, by rw [HR2.out.1]; rfl, by rw [HR2.out.2]; rfl, _, _, _, HQ2.out⟩
    · have b1 : ¬ (k : Int) < (L.length : Int) := by omega
      clear h hai hy hq hIQ HC0 HC1 htot hf hL hn hD hm hlt hr1 hk hsa
      rw [e0', e4, e6, e7, e8, e9, e10]
      clear e0' e4 e6 e7 e8 e9 e10
      generalize L.length = LL at *
      conv => arg 2; whnf
      go_wp2
      exact HQ.out _ _ ⟨⟨⟨rfl, rfl⟩, rfl, rfl, rfl, rfl, rfl⟩, by rw [HR2.out.1]; rfl, by rw [HR2.out.2]; rfl, _, _, _, HQ2.out⟩
theorem innerA0 (W2 : World) (D q c o cap : Nat) (sa : Option Addr) (x0 x1 x2 x3 x4 x5 x6 x7 : Value) (L : List Int) (f n tot : Nat) (v4 v6 : Value) (htot : min (L.length - f) n = tot) (hf : f ≤ L.length) (hL : L.length ≤ 1000) (hn : (n : Int) ≤ 4611686018427387904) (hD : D < W2.heap.size)
    (hsa : 0 < L.length → sa = some ⟨c, o, none⟩) (HC0 : ∀ W, W2.grownBy W (some D) → W.cell? ⟨q, 0, none⟩ = some (.slice sa L.length cap) ∧ ∀ j, j < L.length → W.cell? ⟨c, o + j, none⟩ = some (.int .i64 (L.getD j 0)))
    (Q : Exit → Act → World → Prop) (a : Act) (wr : World) (h : IQ W2 D 0 #[x0, x1, x2, x3, x4, x5, x6, x7] L f n (.pointer (some ⟨q, 0, none⟩)) v4 v6 0 a wr) (hq : ∀ a' w', IQ W2 D 0 #[x0, x1, x2, x3, x4, x5, x6, x7] L f n (.pointer (some ⟨q, 0, none⟩)) v4 v6 tot a' w' → Q (.exit 2) a' w') :
    Code.wp Tryd.prog (.loop (loopAt (Tryd.f38.body) 1)) Q a wr := by
  refine wp_loop_ghost (fun r a w => ∃ m, m ≤ tot ∧ r = tot - m ∧ IQ W2 D 0 #[x0, x1, x2, x3, x4, x5, x6, x7] L f n (.pointer (some ⟨q, 0, none⟩)) v4 v6 m a w) (tot - 0) ⟨0, Nat.zero_le _, rfl, h⟩ ?_
  rintro r a w ⟨m, hm, rfl, hI⟩
  refine wp_mono (rndA0 W2 D q c o cap sa x0 x1 x2 x3 x4 x5 x6 x7 L f n tot v4 v6 htot hf hL hn hD hsa HC0 Q m a w hI hm hq) ?_
  rintro (_ | _ | _ | _ | _ | _) a' w' hq'
  case normal => exact ⟨tot - (m + 1), by have := hq'.1; omega, m + 1, by have := hq'.1; omega, rfl, hq'.2⟩
  all_goals exact hq'
set_option maxRecDepth 100000 in
set_option maxHeartbeats 16000000 in
theorem rndA1 (W2 : World) (D q c o cap : Nat) (sa : Option Addr) (x0 x1 x2 x3 x4 x5 x6 x7 : Value) (L : List Int) (f n tot : Nat) (v4 v6 : Value) (htot : min (L.length - f) n = tot) (hf : f ≤ L.length) (hL : L.length ≤ 1000) (hn : (n : Int) ≤ 4611686018427387904) (hD : D < W2.heap.size)
    (hsa : 0 < L.length → sa = some ⟨c, o, none⟩) (HC0 : ∀ W, W2.grownBy W (some D) → W.cell? ⟨q, 1, none⟩ = some (.slice sa L.length cap) ∧ ∀ j, j < L.length → W.cell? ⟨c, o + j, none⟩ = some (.int .i64 (L.getD j 0)))
    (Q : Exit → Act → World → Prop) (m : Nat) (a : Act) (wr : World) (h : IQ W2 D 1 #[x0, x1, x2, x3, x4, x5, x6, x7] L f n (.pointer (some ⟨q, 0, none⟩)) v4 v6 m a wr) (hm : m ≤ tot)
    (hq : ∀ a' w', IQ W2 D 1 #[x0, x1, x2, x3, x4, x5, x6, x7] L f n (.pointer (some ⟨q, 0, none⟩)) v4 v6 tot a' w' → Q (.exit 2) a' w') :
    Code.wp Tryd.prog (loopAt (Tryd.f38.body) 1) (Exit.then (fun a' w' => m < tot ∧ IQ W2 D 1 #[x0, x1, x2, x3, x4, x5, x6, x7] L f n (.pointer (some ⟨q, 0, none⟩)) v4 v6 (m + 1) a' w') Q) a wr := by
  obtain ⟨oa, ol, oc, hai⟩ := h.ai
  have R0 : Bx (AI W2 D #[x0, x1, x2, x3, x4, .slice oa ol oc, x6, x7] (.slice oa ol oc) ((L.drop f).take m) wr) := ⟨hai⟩
  have HD := Bx.mk hD
  have HC1 := Bx.mk HC0
  have HQ := Bx.mk hq
  have HT : Bx (((L.drop f).take m).length ≤ 1000) := ⟨by rw [List.length_take, List.length_drop]; omega⟩
  have kcell : wr.cell? ⟨q, 1, none⟩ = some (.slice sa L.length cap) := (HC0 wr hai.kb).1
  obtain ⟨y, rfl, hy⟩ := open73 h.fr.fr
  have e0' := (hy 0).symm.trans h.fr.s0
  have e4 := (hy 4).symm.trans h.fr.s4
  have e6 := (hy 6).symm.trans h.fr.s6
  have e7 := (hy 7).symm.trans h.fr.s7
  have e9 := (hy 9).symm.trans h.fr.s9
  have e8 := (hy 8).symm.trans h.s8
  have e10 := (hy 10).symm.trans h.s10
  have hIQ := Bx.mk h
  by_cases hlt : m < tot
  · obtain ⟨r1, hr1⟩ : ∃ r, n - m = r := ⟨_, rfl⟩
    obtain ⟨r2, hr2⟩ : ∃ r, n - (m + 1) = r := ⟨_, rfl⟩
    obtain ⟨k, hk⟩ : ∃ k, f + m = k := ⟨_, rfl⟩
    obtain ⟨k2, hk2⟩ : ∃ k, f + (m + 1) = k := ⟨_, rfl⟩
    have HR2 := Bx.mk (And.intro hr2 hk2)
    have hlm : k < L.length := by omega
    obtain rfl := hsa (by omega)
    obtain ⟨e0, he0⟩ : ∃ e, L.getD k 0 = e := ⟨_, rfl⟩
    have HC : Bx (∀ W, W2.grownBy W (some D) → W.cell? ⟨q, 1, none⟩ = some (.slice (some ⟨c, o, none⟩) L.length cap) ∧ W.cell? ⟨c, o + k, none⟩ = some (.int .i64 e0)) := ⟨fun W hW => ⟨(HC0 W hW).1, by rw [← he0]; exact (HC0 W hW).2 _ hlm⟩⟩
    have HSn := Bx.mk (take_drop_snoc L f m (by omega))
    rw [hk, he0] at HSn
    have HLT := Bx.mk hlt
    have b1 : (k : Int) < (L.length : Int) := by omega
    have b2 : (0 : Int) < (r1 : Int) := by omega
    have b3 : IntKind.i64.wrap ((r1 : Int) - 1) = (r2 : Int) := by rw [show (r1 : Int) - 1 = (r2 : Int) by omega]; exact IntWalk.i64_in _ (by omega)
    have b4 : IntKind.i64.wrap ((k : Int) + 1) = (k2 : Int) := by rw [show (k : Int) + 1 = (k2 : Int) by omega]; exact IntWalk.i64_in _ (by omega)
    have b5 : 0 < r1 := by omega
    rw [hr1] at e8
    rw [hk] at e10
    clear h hai hy hq hIQ HC0 HC1 HQ htot hf hL hn hD hm hlt he0 hsa hr1 hr2 hk hk2
    rw [e0', e4, e6, e7, e8, e9, e10]
    clear e0' e4 e6 e7 e8 e9 e10
    generalize L.length = LL at *
    conv => arg 2; whnf
    go_upto_region 10 with fail
    have Z0 := Bx.mk (R0.out.later (Below.refl _ _).drew)
    clear R0 kcell
    refine wp_region_noPanic ?_
    refine wp_region_held_drew (S := fun W => W.cell? ⟨q, 1, none⟩ = some (.slice (some ⟨c, o, none⟩) LL cap) ∧ W.cell? ⟨c, o + k, none⟩ = some (.int .i64 e0)) (by kernel_rfl) (HC.out _ Z0.out.kb) (fun hHeld => ?_)
    generalize wr.drew = W0 at *
    refine takeL 0 (v := ?_) rfl (by kernel_rfl) (by kernel_rfl) (by kernel_rfl) (fun _ _ _ h => h) (Or.inl ⟨by rfl, ?_⟩) hHeld ?_
    rotate_left 1
    · (intro w hSw; go_simp; try with_reducible rfl)
    try simp only [Act.put, List.setIfInBounds_toArray, List.set_cons_zero, List.set_cons_succ]
    refine takeL 1 (v := ?_) rfl (by kernel_rfl) (by kernel_rfl) (by kernel_rfl) (fun _ _ _ h => h) (Or.inl ⟨by rfl, ?_⟩) hHeld ?_
    rotate_left 1
    · (intro w hSw; go_simp; try with_reducible rfl)
    try simp only [Act.put, List.setIfInBounds_toArray, List.set_cons_zero, List.set_cons_succ]
    refine takeL 2 (v := ?_) rfl (by kernel_rfl) (by kernel_rfl) (by kernel_rfl) (fun _ _ _ h => h) (Or.inl ⟨by rfl, ?_⟩) hHeld ?_
    rotate_left 1
    · (intro w hSw; go_simp; try with_reducible rfl)
    try simp only [Act.put, List.setIfInBounds_toArray, List.set_cons_zero, List.set_cons_succ]
    refine takeL 3 (v := ?_) rfl (by kernel_rfl) (by kernel_rfl) (by kernel_rfl) (fun _ _ _ h => h) (Or.inl ⟨by rfl, ?_⟩) hHeld ?_
    rotate_left 1
    · (intro w hSw; go_simp; try with_reducible rfl)
    try simp only [Act.put, List.setIfInBounds_toArray, List.set_cons_zero, List.set_cons_succ]
    refine takeL 5 (v := ?_) rfl (by kernel_rfl) (by kernel_rfl) (by kernel_rfl) (fun _ _ _ h => h) (Or.inl ⟨by rfl, ?_⟩) hHeld ?_
    rotate_left 1
    · (intro w hSw; go_simp; try with_reducible rfl)
    try simp only [Act.put, List.setIfInBounds_toArray, List.set_cons_zero, List.set_cons_succ]
    refine takeL 6 (v := ?_) rfl (by kernel_rfl) (by kernel_rfl) (by kernel_rfl) (fun _ _ _ h => h) (Or.inl ⟨by rfl, ?_⟩) hHeld ?_
    rotate_left 1
    · (intro w hSw; go_simp; try with_reducible rfl)
    try simp only [Act.put, List.setIfInBounds_toArray, List.set_cons_zero, List.set_cons_succ]
    refine takeL 7 (v := ?_) rfl (by kernel_rfl) (by kernel_rfl) (by kernel_rfl) (fun _ _ _ h => h) (Or.inl ⟨by rfl, ?_⟩) hHeld ?_
    rotate_left 1
    · (intro w hSw; go_simp; try with_reducible rfl)
    try simp only [Act.put, List.setIfInBounds_toArray, List.set_cons_zero, List.set_cons_succ]
    refine takeL 8 (v := ?_) rfl (by kernel_rfl) (by kernel_rfl) (by kernel_rfl) (fun _ _ _ h => h) (Or.inl ⟨by rfl, ?_⟩) hHeld ?_
    rotate_left 1
    · (intro w hSw; go_simp; try with_reducible rfl)
    try simp only [Act.put, List.setIfInBounds_toArray, List.set_cons_zero, List.set_cons_succ]
    refine takeL 9 (v := ?_) rfl (by kernel_rfl) (by kernel_rfl) (by kernel_rfl) (fun _ _ _ h => h) (Or.inl ⟨by rfl, ?_⟩) hHeld ?_
    rotate_left 1
    · (intro w hSw; go_simp; try with_reducible rfl)
    try simp only [Act.put, List.setIfInBounds_toArray, List.set_cons_zero, List.set_cons_succ]
    refine takeL 10 (v := ?_) rfl (by kernel_rfl) (by kernel_rfl) (by kernel_rfl) (fun _ _ _ h => h) (Or.inl ⟨by rfl, ?_⟩) hHeld ?_
    rotate_left 1
    · (intro w hSw; obtain ⟨q1, q2⟩ := hSw; go_simp; try with_reducible rfl)
    try simp only [Act.put, List.setIfInBounds_toArray, List.set_cons_zero, List.set_cons_succ]
    refine takeL 11 (v := ?_) rfl (by kernel_rfl) (by kernel_rfl) (by kernel_rfl) (fun _ _ _ h => h) (Or.inl ⟨by rfl, ?_⟩) hHeld ?_
    rotate_left 1
    · (intro w hSw; go_simp; try with_reducible rfl)
    try simp only [Act.put, List.setIfInBounds_toArray, List.set_cons_zero, List.set_cons_succ]
    refine takeL 12 (v := ?_) rfl (by kernel_rfl) (by kernel_rfl) (by kernel_rfl) (fun _ _ _ h => h) (Or.inl ⟨by rfl, ?_⟩) hHeld ?_
    rotate_left 1
    · (intro w hSw; obtain ⟨q1, q2⟩ := hSw; go_simp; try with_reducible rfl)
    try simp only [Act.put, List.setIfInBounds_toArray, List.set_cons_zero, List.set_cons_succ]
    refine takeL 13 (v := ?_) rfl (by kernel_rfl) (by kernel_rfl) (by kernel_rfl) (fun _ _ _ h => h) (Or.inl ⟨by rfl, ?_⟩) hHeld ?_
    rotate_left 1
    · (intro w hSw; obtain ⟨q1, q2⟩ := hSw; go_simp; try with_reducible rfl)
    try simp only [Act.put, List.setIfInBounds_toArray, List.set_cons_zero, List.set_cons_succ]
    refine takeL 16 (v := ?_) rfl (by kernel_rfl) (by kernel_rfl) (by kernel_rfl) (fun _ _ _ h => h) (Or.inl ⟨by rfl, ?_⟩) hHeld ?_
    rotate_left 1
    · (intro w hSw; go_simp; try with_reducible rfl)
    try simp only [Act.put, List.setIfInBounds_toArray, List.set_cons_zero, List.set_cons_succ]
    refine wpAnyH_ready (rs := [4, 14]) (by kernel_rfl) (by simp) ?_
    refine consM 4 rfl (fun K hK => ?_) (consM 14 rfl (fun K hK => ?_) AllReadyH.nil)
    · have cu : W0.cell? ⟨D, 5, none⟩ = some (.slice oa ol oc) := by rw [cell_of_row _ _ _ _ _ _ Z0.out.row]; rfl
      go_simp
      clear cu
      refine hK.out _ _ (HC.out _ Z0.out.kb) (fun hHeld => ?_)
      clear hK K
      try simp only [Act.put, List.setIfInBounds_toArray, List.set_cons_zero, List.set_cons_succ]
      refine stepL 14 (by kernel_rfl) rfl (fun K hK => ?_)
      go_simp
      show K _ _
      have HO := Bx.mk (ints1 W0 e0 3)
      have R1 := Bx.mk (Z0.out.later (below_a (.cells #[.int .i64 e0] 3)))
      clear Z0
      generalize W0.heap.size = G at *
      generalize W0.alloc (.cells #[.int .i64 e0] 3) = W1 at *
      refine hK.out _ _ (HC.out _ R1.out.kb) (fun hHeld => ?_)
      clear hK K
      try simp only [Act.put, List.setIfInBounds_toArray, List.set_cons_zero, List.set_cons_succ]
      refine stepL 15 (by kernel_rfl) rfl (fun K hK => ?_)
      refine step_apI9 rfl _ _ rfl W2.heap.size _ _ (by rfl) R1.out.own _ [e0] (by rfl) HO.out (by have := HT.out; simp only [List.length_cons, List.length_nil]; omega) R1.out.kb.size ?_
      intro v' W2 ho hg
      obtain ⟨ba, bc, hv⟩ := ho.form
      obtain ⟨bn, hbn⟩ : ∃ n, ((L.drop f).take m ++ [e0]).length = n := ⟨_, rfl⟩
      rw [hbn] at hv
      subst hv
      have R2 := Bx.mk (R1.out.ap HD.out ho hg)
      clear ho hg hbn R1 HO
      refine hK.out _ _ (HC.out _ R2.out.kb) (fun hHeld => ?_)
      clear hK K
      try simp only [Act.put, List.setIfInBounds_toArray, List.set_cons_zero, List.set_cons_succ]
      refine takeL 17 (v := ?_) rfl (by kernel_rfl) (by kernel_rfl) (by kernel_rfl) (fun _ _ _ h => h) (Or.inl ⟨by rfl, ?_⟩) hHeld ?_
      rotate_left 1
      · (intro w hSw; go_simp; try with_reducible rfl)
      try simp only [Act.put, List.setIfInBounds_toArray, List.set_cons_zero, List.set_cons_succ]
      refine stepL 18 (by kernel_rfl) rfl (fun K hK => ?_)
      refine step_cellS9 rfl _ _ rfl D 5 ba bn bc #[x0, x1, x2, x3, x4, .slice oa ol oc, x6, x7] #[x0, x1, x2, x3, x4, .slice ba bn bc, x6, x7] 26 (by rfl) (by rfl) R2.out.row (by simp) rfl ?_
      intro W3 hg hr
      have R3 := Bx.mk (R2.out.put HD.out hg hr)
      clear hg hr R2
      refine hK.out _ _ (HC.out _ R3.out.kb) (fun hHeld => ?_)
      clear hK K
      try simp only [Act.put]
      refine wpAnyH_done (by kernel_rfl) ?_ _
      refine NoPanic.normal ?_
      clear hHeld
      go_wp2
      exact ⟨HLT.out, ⟨⟨⟨rfl, rfl⟩, rfl, rfl, rfl, rfl, rfl⟩, by rw [HR2.out.1]; rfl, by rw [HR2.out.2]; rfl, _, _, _, by rw [HSn.out]; exact R3.out⟩⟩
    · go_simp
      show K _ _
      have HO := Bx.mk (ints1 W0 e0 3)
      have R1 := Bx.mk (Z0.out.later (below_a (.cells #[.int .i64 e0] 3)))
      clear Z0
      generalize W0.heap.size = G at *
      generalize W0.alloc (.cells #[.int .i64 e0] 3) = W1 at *
      refine hK.out _ _ (HC.out _ R1.out.kb) (fun hHeld => ?_)
      clear hK K
      try simp only [Act.put, List.setIfInBounds_toArray, List.set_cons_zero, List.set_cons_succ]
      refine stepL 4 (by kernel_rfl) rfl (fun K hK => ?_)
      have cu : W1.cell? ⟨D, 5, none⟩ = some (.slice oa ol oc) := by rw [cell_of_row _ _ _ _ _ _ R1.out.row]; rfl
      go_simp
      clear cu
      refine hK.out _ _ (HC.out _ R1.out.kb) (fun hHeld => ?_)
      clear hK K
      try simp only [Act.put, List.setIfInBounds_toArray, List.set_cons_zero, List.set_cons_succ]
      refine stepL 15 (by kernel_rfl) rfl (fun K hK => ?_)
      refine step_apI9 rfl _ _ rfl W2.heap.size _ _ (by rfl) R1.out.own _ [e0] (by rfl) HO.out (by have := HT.out; simp only [List.length_cons, List.length_nil]; omega) R1.out.kb.size ?_
      intro v' W2 ho hg
      obtain ⟨ba, bc, hv⟩ := ho.form
      obtain ⟨bn, hbn⟩ : ∃ n, ((L.drop f).take m ++ [e0]).length = n := ⟨_, rfl⟩
      rw [hbn] at hv
      subst hv
      have R2 := Bx.mk (R1.out.ap HD.out ho hg)
      clear ho hg hbn R1 HO
      refine hK.out _ _ (HC.out _ R2.out.kb) (fun hHeld => ?_)
      clear hK K
      try simp only [Act.put, List.setIfInBounds_toArray, List.set_cons_zero, List.set_cons_succ]
      refine takeL 17 (v := ?_) rfl (by kernel_rfl) (by kernel_rfl) (by kernel_rfl) (fun _ _ _ h => h) (Or.inl ⟨by rfl, ?_⟩) hHeld ?_
      rotate_left 1
      · (intro w hSw; go_simp; try with_reducible rfl)
      try simp only [Act.put, List.setIfInBounds_toArray, List.set_cons_zero, List.set_cons_succ]
      refine stepL 18 (by kernel_rfl) rfl (fun K hK => ?_)
      refine step_cellS9 rfl _ _ rfl D 5 ba bn bc #[x0, x1, x2, x3, x4, .slice oa ol oc, x6, x7] #[x0, x1, x2, x3, x4, .slice ba bn bc, x6, x7] 26 (by rfl) (by rfl) R2.out.row (by simp) rfl ?_
      intro W3 hg hr
      have R3 := Bx.mk (R2.out.put HD.out hg hr)
      clear hg hr R2
      refine hK.out _ _ (HC.out _ R3.out.kb) (fun hHeld => ?_)
      clear hK K
      try simp only [Act.put]
      refine wpAnyH_done (by kernel_rfl) ?_ _
      refine NoPanic.normal ?_
      clear hHeld
      go_wp2
      exact ⟨HLT.out, ⟨⟨⟨rfl, rfl⟩, rfl, rfl, rfl, rfl, rfl⟩, by rw [HR2.out.1]; rfl, by rw [HR2.out.2]; rfl, _, _, _, by rw [HSn.out]; exact R3.out⟩⟩
  · have he : m = tot := by omega
    subst he
    obtain ⟨r1, hr1⟩ : ∃ r, n - m = r := ⟨_, rfl⟩
    obtain ⟨k, hk⟩ : ∃ k, f + m = k := ⟨_, rfl⟩
    have HR2 := Bx.mk (And.intro hr1 hk)
    have HQ2 : Bx (AI W2 D #[x0, x1, x2, x3, x4, .slice oa ol oc, x6, x7] (.slice oa ol oc) ((L.drop f).take m) wr) := ⟨R0.out⟩
    rw [hr1] at e8
    rw [hk] at e10
    by_cases hk1 : k < L.length
    · have b1 : (k : Int) < (L.length : Int) := by omega
      have b2 : ¬ (0 : Int) < (r1 : Int) := by omega
      have b3 : ¬ 0 < r1 := by omega
      clear h hai hy hq hIQ HC0 HC1 htot hf hL hn hD hm hlt hr1 hk hsa
      rw [e0', e4, e6, e7, e8, e9, e10]
      clear e0' e4 e6 e7 e8 e9 e10
      generalize L.length = LL at *
      conv => arg 2; whnf
      go_wp2
      exact HQ.out _ _ ⟨⟨⟨rfl, rfl⟩, rfl, rfl, rfl, rfl, rfl⟩, by rw [HR2.out.1]; rfl, by rw [HR2.out.2]; rfl, _, _, _, HQ2.out⟩
    · have b1 : ¬ (k : Int) < (L.length : Int) := by omega
      clear h hai hy hq hIQ HC0 HC1 htot hf hL hn hD hm hlt hr1 hk hsa
      rw [e0', e4, e6, e7, e8, e9, e10]
      clear e0' e4 e6 e7 e8 e9 e10
      generalize L.length = LL at *
      conv => arg 2; whnf
      go_wp2
      exact HQ.out _ _ ⟨⟨⟨rfl, rfl⟩, rfl, rfl, rfl, rfl, rfl⟩, by rw [HR2.out.1]; rfl, by rw [HR2.out.2]; rfl, _, _, _, HQ2.out⟩
theorem innerA1 (W2 : World) (D q c o cap : Nat) (sa : Option Addr) (x0 x1 x2 x3 x4 x5 x6 x7 : Value) (L : List Int) (f n tot : Nat) (v4 v6 : Value) (htot : min (L.length - f) n = tot) (hf : f ≤ L.length) (hL : L.length ≤ 1000) (hn : (n : Int) ≤ 4611686018427387904) (hD : D < W2.heap.size)
    (hsa : 0 < L.length → sa = some ⟨c, o, none⟩) (HC0 : ∀ W, W2.grownBy W (some D) → W.cell? ⟨q, 1, none⟩ = some (.slice sa L.length cap) ∧ ∀ j, j < L.length → W.cell? ⟨c, o + j, none⟩ = some (.int .i64 (L.getD j 0)))
    (Q : Exit → Act → World → Prop) (a : Act) (wr : World) (h : IQ W2 D 1 #[x0, x1, x2, x3, x4, x5, x6, x7] L f n (.pointer (some ⟨q, 0, none⟩)) v4 v6 0 a wr) (hq : ∀ a' w', IQ W2 D 1 #[x0, x1, x2, x3, x4, x5, x6, x7] L f n (.pointer (some ⟨q, 0, none⟩)) v4 v6 tot a' w' → Q (.exit 2) a' w') :
    Code.wp Tryd.prog (.loop (loopAt (Tryd.f38.body) 1)) Q a wr := by
  refine wp_loop_ghost (fun r a w => ∃ m, m ≤ tot ∧ r = tot - m ∧ IQ W2 D 1 #[x0, x1, x2, x3, x4, x5, x6, x7] L f n (.pointer (some ⟨q, 0, none⟩)) v4 v6 m a w) (tot - 0) ⟨0, Nat.zero_le _, rfl, h⟩ ?_
  rintro r a w ⟨m, hm, rfl, hI⟩
  refine wp_mono (rndA1 W2 D q c o cap sa x0 x1 x2 x3 x4 x5 x6 x7 L f n tot v4 v6 htot hf hL hn hD hsa HC0 Q m a w hI hm hq) ?_
  rintro (_ | _ | _ | _ | _ | _) a' w' hq'
  case normal => exact ⟨tot - (m + 1), by have := hq'.1; omega, m + 1, by have := hq'.1; omega, rfl, hq'.2⟩
  all_goals exact hq'
set_option maxRecDepth 100000 in
set_option maxHeartbeats 16000000 in
theorem rndA2 (W2 : World) (D q c o cap : Nat) (sa : Option Addr) (x0 x1 x2 x3 x4 x5 x6 x7 : Value) (L : List Int) (f n tot : Nat) (v4 v6 : Value) (htot : min (L.length - f) n = tot) (hf : f ≤ L.length) (hL : L.length ≤ 1000) (hn : (n : Int) ≤ 4611686018427387904) (hD : D < W2.heap.size)
    (hsa : 0 < L.length → sa = some ⟨c, o, none⟩) (HC0 : ∀ W, W2.grownBy W (some D) → W.cell? ⟨q, 2, none⟩ = some (.slice sa L.length cap) ∧ ∀ j, j < L.length → W.cell? ⟨c, o + j, none⟩ = some (.int .i64 (L.getD j 0)))
    (Q : Exit → Act → World → Prop) (m : Nat) (a : Act) (wr : World) (h : IQ W2 D 2 #[x0, x1, x2, x3, x4, x5, x6, x7] L f n (.pointer (some ⟨q, 0, none⟩)) v4 v6 m a wr) (hm : m ≤ tot)
    (hq : ∀ a' w', IQ W2 D 2 #[x0, x1, x2, x3, x4, x5, x6, x7] L f n (.pointer (some ⟨q, 0, none⟩)) v4 v6 tot a' w' → Q (.exit 2) a' w') :
    Code.wp Tryd.prog (loopAt (Tryd.f38.body) 1) (Exit.then (fun a' w' => m < tot ∧ IQ W2 D 2 #[x0, x1, x2, x3, x4, x5, x6, x7] L f n (.pointer (some ⟨q, 0, none⟩)) v4 v6 (m + 1) a' w') Q) a wr := by
  obtain ⟨oa, ol, oc, hai⟩ := h.ai
  have R0 : Bx (AI W2 D #[x0, x1, x2, x3, x4, x5, .slice oa ol oc, x7] (.slice oa ol oc) ((L.drop f).take m) wr) := ⟨hai⟩
  have HD := Bx.mk hD
  have HC1 := Bx.mk HC0
  have HQ := Bx.mk hq
  have HT : Bx (((L.drop f).take m).length ≤ 1000) := ⟨by rw [List.length_take, List.length_drop]; omega⟩
  have kcell : wr.cell? ⟨q, 2, none⟩ = some (.slice sa L.length cap) := (HC0 wr hai.kb).1
  obtain ⟨y, rfl, hy⟩ := open73 h.fr.fr
  have e0' := (hy 0).symm.trans h.fr.s0
  have e4 := (hy 4).symm.trans h.fr.s4
  have e6 := (hy 6).symm.trans h.fr.s6
  have e7 := (hy 7).symm.trans h.fr.s7
  have e9 := (hy 9).symm.trans h.fr.s9
  have e8 := (hy 8).symm.trans h.s8
  have e10 := (hy 10).symm.trans h.s10
  have hIQ := Bx.mk h
  by_cases hlt : m < tot
  · obtain ⟨r1, hr1⟩ : ∃ r, n - m = r := ⟨_, rfl⟩
    obtain ⟨r2, hr2⟩ : ∃ r, n - (m + 1) = r := ⟨_, rfl⟩
    obtain ⟨k, hk⟩ : ∃ k, f + m = k := ⟨_, rfl⟩
    obtain ⟨k2, hk2⟩ : ∃ k, f + (m + 1) = k := ⟨_, rfl⟩
    have HR2 := Bx.mk (And.intro hr2 hk2)
    have hlm : k < L.length := by omega
    obtain rfl := hsa (by omega)
    obtain ⟨e0, he0⟩ : ∃ e, L.getD k 0 = e := ⟨_, rfl⟩
    have HC : Bx (∀ W, W2.grownBy W (some D) → W.cell? ⟨q, 2, none⟩ = some (.slice (some ⟨c, o, none⟩) L.length cap) ∧ W.cell? ⟨c, o + k, none⟩ = some (.int .i64 e0)) := ⟨fun W hW => ⟨(HC0 W hW).1, by rw [← he0]; exact (HC0 W hW).2 _ hlm⟩⟩
    have HSn := Bx.mk (take_drop_snoc L f m (by omega))
    rw [hk, he0] at HSn
    have HLT := Bx.mk hlt
    have b1 : (k : Int) < (L.length : Int) := by omega
    have b2 : (0 : Int) < (r1 : Int) := by omega
    have b3 : IntKind.i64.wrap ((r1 : Int) - 1) = (r2 : Int) := by rw [show (r1 : Int) - 1 = (r2 : Int) by omega]; exact IntWalk.i64_in _ (by omega)
    have b4 : IntKind.i64.wrap ((k : Int) + 1) = (k2 : Int) := by rw [show (k : Int) + 1 = (k2 : Int) by omega]; exact IntWalk.i64_in _ (by omega)
    have b5 : 0 < r1 := by omega
    rw [hr1] at e8
    rw [hk] at e10
    clear h hai hy hq hIQ HC0 HC1 HQ htot hf hL hn hD hm hlt he0 hsa hr1 hr2 hk hk2
    rw [e0', e4, e6, e7, e8, e9, e10]
    clear e0' e4 e6 e7 e8 e9 e10
    generalize L.length = LL at *
    conv => arg 2; whnf
    go_upto_region 10 with fail
    have Z0 := Bx.mk (R0.out.later (Below.refl _ _).drew)
    clear R0 kcell
    refine wp_region_noPanic ?_
    refine wp_region_held_drew (S := fun W => W.cell? ⟨q, 2, none⟩ = some (.slice (some ⟨c, o, none⟩) LL cap) ∧ W.cell? ⟨c, o + k, none⟩ = some (.int .i64 e0)) (by kernel_rfl) (HC.out _ Z0.out.kb) (fun hHeld => ?_)
    generalize wr.drew = W0 at *
    refine takeL 0 (v := ?_) rfl (by kernel_rfl) (by kernel_rfl) (by kernel_rfl) (fun _ _ _ h => h) (Or.inl ⟨by rfl, ?_⟩) hHeld ?_
    rotate_left 1
    · (intro w hSw; go_simp; try with_reducible rfl)
    try simp only [Act.put, List.setIfInBounds_toArray, List.set_cons_zero, List.set_cons_succ]
    refine takeL 1 (v := ?_) rfl (by kernel_rfl) (by kernel_rfl) (by kernel_rfl) (fun _ _ _ h => h) (Or.inl ⟨by rfl, ?_⟩) hHeld ?_
    rotate_left 1
    · (intro w hSw; go_simp; try with_reducible rfl)
    try simp only [Act.put, List.setIfInBounds_toArray, List.set_cons_zero, List.set_cons_succ]
    refine takeL 2 (v := ?_) rfl (by kernel_rfl) (by kernel_rfl) (by kernel_rfl) (fun _ _ _ h => h) (Or.inl ⟨by rfl, ?_⟩) hHeld ?_
    rotate_left 1
    · (intro w hSw; go_simp; try with_reducible rfl)
    try simp only [Act.put, List.setIfInBounds_toArray, List.set_cons_zero, List.set_cons_succ]
    refine takeL 3 (v := ?_) rfl (by kernel_rfl) (by kernel_rfl) (by kernel_rfl) (fun _ _ _ h => h) (Or.inl ⟨by rfl, ?_⟩) hHeld ?_
    rotate_left 1
    · (intro w hSw; go_simp; try with_reducible rfl)
    try simp only [Act.put, List.setIfInBounds_toArray, List.set_cons_zero, List.set_cons_succ]
    refine takeL 5 (v := ?_) rfl (by kernel_rfl) (by kernel_rfl) (by kernel_rfl) (fun _ _ _ h => h) (Or.inl ⟨by rfl, ?_⟩) hHeld ?_
    rotate_left 1
    · (intro w hSw; go_simp; try with_reducible rfl)
    try simp only [Act.put, List.setIfInBounds_toArray, List.set_cons_zero, List.set_cons_succ]
    refine takeL 6 (v := ?_) rfl (by kernel_rfl) (by kernel_rfl) (by kernel_rfl) (fun _ _ _ h => h) (Or.inl ⟨by rfl, ?_⟩) hHeld ?_
    rotate_left 1
    · (intro w hSw; go_simp; try with_reducible rfl)
    try simp only [Act.put, List.setIfInBounds_toArray, List.set_cons_zero, List.set_cons_succ]
    refine takeL 7 (v := ?_) rfl (by kernel_rfl) (by kernel_rfl) (by kernel_rfl) (fun _ _ _ h => h) (Or.inl ⟨by rfl, ?_⟩) hHeld ?_
    rotate_left 1
    · (intro w hSw; go_simp; try with_reducible rfl)
    try simp only [Act.put, List.setIfInBounds_toArray, List.set_cons_zero, List.set_cons_succ]
    refine takeL 8 (v := ?_) rfl (by kernel_rfl) (by kernel_rfl) (by kernel_rfl) (fun _ _ _ h => h) (Or.inl ⟨by rfl, ?_⟩) hHeld ?_
    rotate_left 1
    · (intro w hSw; go_simp; try with_reducible rfl)
    try simp only [Act.put, List.setIfInBounds_toArray, List.set_cons_zero, List.set_cons_succ]
    refine takeL 9 (v := ?_) rfl (by kernel_rfl) (by kernel_rfl) (by kernel_rfl) (fun _ _ _ h => h) (Or.inl ⟨by rfl, ?_⟩) hHeld ?_
    rotate_left 1
    · (intro w hSw; go_simp; try with_reducible rfl)
    try simp only [Act.put, List.setIfInBounds_toArray, List.set_cons_zero, List.set_cons_succ]
    refine takeL 10 (v := ?_) rfl (by kernel_rfl) (by kernel_rfl) (by kernel_rfl) (fun _ _ _ h => h) (Or.inl ⟨by rfl, ?_⟩) hHeld ?_
    rotate_left 1
    · (intro w hSw; obtain ⟨q1, q2⟩ := hSw; go_simp; try with_reducible rfl)
    try simp only [Act.put, List.setIfInBounds_toArray, List.set_cons_zero, List.set_cons_succ]
    refine takeL 11 (v := ?_) rfl (by kernel_rfl) (by kernel_rfl) (by kernel_rfl) (fun _ _ _ h => h) (Or.inl ⟨by rfl, ?_⟩) hHeld ?_
    rotate_left 1
    · (intro w hSw; go_simp; try with_reducible rfl)
    try simp only [Act.put, List.setIfInBounds_toArray, List.set_cons_zero, List.set_cons_succ]
    refine takeL 12 (v := ?_) rfl (by kernel_rfl) (by kernel_rfl) (by kernel_rfl) (fun _ _ _ h => h) (Or.inl ⟨by rfl, ?_⟩) hHeld ?_
    rotate_left 1
    · (intro w hSw; obtain ⟨q1, q2⟩ := hSw; go_simp; try with_reducible rfl)
    try simp only [Act.put, List.setIfInBounds_toArray, List.set_cons_zero, List.set_cons_succ]
    refine takeL 13 (v := ?_) rfl (by kernel_rfl) (by kernel_rfl) (by kernel_rfl) (fun _ _ _ h => h) (Or.inl ⟨by rfl, ?_⟩) hHeld ?_
    rotate_left 1
    · (intro w hSw; obtain ⟨q1, q2⟩ := hSw; go_simp; try with_reducible rfl)
    try simp only [Act.put, List.setIfInBounds_toArray, List.set_cons_zero, List.set_cons_succ]
    refine takeL 16 (v := ?_) rfl (by kernel_rfl) (by kernel_rfl) (by kernel_rfl) (fun _ _ _ h => h) (Or.inl ⟨by rfl, ?_⟩) hHeld ?_
    rotate_left 1
    · (intro w hSw; go_simp; try with_reducible rfl)
    try simp only [Act.put, List.setIfInBounds_toArray, List.set_cons_zero, List.set_cons_succ]
    refine wpAnyH_ready (rs := [4, 14]) (by kernel_rfl) (by simp) ?_
    refine consM 4 rfl (fun K hK => ?_) (consM 14 rfl (fun K hK => ?_) AllReadyH.nil)
    · have cu : W0.cell? ⟨D, 6, none⟩ = some (.slice oa ol oc) := by rw [cell_of_row _ _ _ _ _ _ Z0.out.row]; rfl
      go_simp
      clear cu
      refine hK.out _ _ (HC.out _ Z0.out.kb) (fun hHeld => ?_)
      clear hK K
      try simp only [Act.put, List.setIfInBounds_toArray, List.set_cons_zero, List.set_cons_succ]
      refine stepL 14 (by kernel_rfl) rfl (fun K hK => ?_)
      go_simp
      show K _ _
      have HO := Bx.mk (ints1 W0 e0 3)
      have R1 := Bx.mk (Z0.out.later (below_a (.cells #[.int .i64 e0] 3)))
      clear Z0
      generalize W0.heap.size = G at *
      generalize W0.alloc (.cells #[.int .i64 e0] 3) = W1 at *
      refine hK.out _ _ (HC.out _ R1.out.kb) (fun hHeld => ?_)
      clear hK K
      try simp only [Act.put, List.setIfInBounds_toArray, List.set_cons_zero, List.set_cons_succ]
      refine stepL 15 (by kernel_rfl) rfl (fun K hK => ?_)
      refine step_apI9 rfl _ _ rfl W2.heap.size _ _ (by rfl) R1.out.own _ [e0] (by rfl) HO.out (by have := HT.out; simp only [List.length_cons, List.length_nil]; omega) R1.out.kb.size ?_
      intro v' W2 ho hg
      obtain ⟨ba, bc, hv⟩ := ho.form
      obtain ⟨bn, hbn⟩ : ∃ n, ((L.drop f).take m ++ [e0]).length = n := ⟨_, rfl⟩
      rw [hbn] at hv
      subst hv
      have R2 := Bx.mk (R1.out.ap HD.out ho hg)
      clear ho hg hbn R1 HO
      refine hK.out _ _ (HC.out _ R2.out.kb) (fun hHeld => ?_)
      clear hK K
      try simp only [Act.put, List.setIfInBounds_toArray, List.set_cons_zero, List.set_cons_succ]
      refine takeL 17 (v := ?_) rfl (by kernel_rfl) (by kernel_rfl) (by kernel_rfl) (fun _ _ _ h => h) (Or.inl ⟨by rfl, ?_⟩) hHeld ?_
      rotate_left 1
      · (intro w hSw; go_simp; try with_reducible rfl)
      try simp only [Act.put, List.setIfInBounds_toArray, List.set_cons_zero, List.set_cons_succ]
      refine stepL 18 (by kernel_rfl) rfl (fun K hK => ?_)
      refine step_cellS9 rfl _ _ rfl D 6 ba bn bc #[x0, x1, x2, x3, x4, x5, .slice oa ol oc, x7] #[x0, x1, x2, x3, x4, x5, .slice ba bn bc, x7] 26 (by rfl) (by rfl) R2.out.row (by simp) rfl ?_
      intro W3 hg hr
      have R3 := Bx.mk (R2.out.put HD.out hg hr)
      clear hg hr R2
      refine hK.out _ _ (HC.out _ R3.out.kb) (fun hHeld => ?_)
      clear hK K
      try simp only [Act.put]
      refine wpAnyH_done (by kernel_rfl) ?_ _
      refine NoPanic.normal ?_
      clear hHeld
      go_wp2
      exact ⟨HLT.out, ⟨⟨⟨rfl, rfl⟩, rfl, rfl, rfl, rfl, rfl⟩, by rw [HR2.out.1]; rfl, by rw [HR2.out.2]; rfl, _, _, _, by rw [HSn.out]; exact R3.out⟩⟩
    · go_simp
      show K _ _
      have HO := Bx.mk (ints1 W0 e0 3)
      have R1 := Bx.mk (Z0.out.later (below_a (.cells #[.int .i64 e0] 3)))
      clear Z0
      generalize W0.heap.size = G at *
      generalize W0.alloc (.cells #[.int .i64 e0] 3) = W1 at *
      refine hK.out _ _ (HC.out _ R1.out.kb) (fun hHeld => ?_)
      clear hK K
      try simp only [Act.put, List.setIfInBounds_toArray, List.set_cons_zero, List.set_cons_succ]
      refine stepL 4 (by kernel_rfl) rfl (fun K hK => ?_)
      have cu : W1.cell? ⟨D, 6, none⟩ = some (.slice oa ol oc) := by rw [cell_of_row _ _ _ _ _ _ R1.out.row]; rfl
      go_simp
      clear cu
      refine hK.out _ _ (HC.out _ R1.out.kb) (fun hHeld => ?_)
      clear hK K
      try simp only [Act.put, List.setIfInBounds_toArray, List.set_cons_zero, List.set_cons_succ]
      refine stepL 15 (by kernel_rfl) rfl (fun K hK => ?_)
      refine step_apI9 rfl _ _ rfl W2.heap.size _ _ (by rfl) R1.out.own _ [e0] (by rfl) HO.out (by have := HT.out; simp only [List.length_cons, List.length_nil]; omega) R1.out.kb.size ?_
      intro v' W2 ho hg
      obtain ⟨ba, bc, hv⟩ := ho.form
      obtain ⟨bn, hbn⟩ : ∃ n, ((L.drop f).take m ++ [e0]).length = n := ⟨_, rfl⟩
      rw [hbn] at hv
      subst hv
      have R2 := Bx.mk (R1.out.ap HD.out ho hg)
      clear ho hg hbn R1 HO
      refine hK.out _ _ (HC.out _ R2.out.kb) (fun hHeld => ?_)
      clear hK K
      try simp only [Act.put, List.setIfInBounds_toArray, List.set_cons_zero, List.set_cons_succ]
      refine takeL 17 (v := ?_) rfl (by kernel_rfl) (by kernel_rfl) (by kernel_rfl) (fun _ _ _ h => h) (Or.inl ⟨by rfl, ?_⟩) hHeld ?_
      rotate_left 1
      · (intro w hSw; go_simp; try with_reducible rfl)
      try simp only [Act.put, List.setIfInBounds_toArray, List.set_cons_zero, List.set_cons_succ]
      refine stepL 18 (by kernel_rfl) rfl (fun K hK => ?_)
      refine step_cellS9 rfl _ _ rfl D 6 ba bn bc #[x0, x1, x2, x3, x4, x5, .slice oa ol oc, x7] #[x0, x1, x2, x3, x4, x5, .slice ba bn bc, x7] 26 (by rfl) (by rfl) R2.out.row (by simp) rfl ?_
      intro W3 hg hr
      have R3 := Bx.mk (R2.out.put HD.out hg hr)
      clear hg hr R2
      refine hK.out _ _ (HC.out _ R3.out.kb) (fun hHeld => ?_)
      clear hK K
      try simp only [Act.put]
      refine wpAnyH_done (by kernel_rfl) ?_ _
      refine NoPanic.normal ?_
      clear hHeld
      go_wp2
      exact ⟨HLT.out, ⟨⟨⟨rfl, rfl⟩, rfl, rfl, rfl, rfl, rfl⟩, by rw [HR2.out.1]; rfl, by rw [HR2.out.2]; rfl, _, _, _, by rw [HSn.out]; exact R3.out⟩⟩
  · have he : m = tot := by omega
    subst he
    obtain ⟨r1, hr1⟩ : ∃ r, n - m = r := ⟨_, rfl⟩
    obtain ⟨k, hk⟩ : ∃ k, f + m = k := ⟨_, rfl⟩
    have HR2 := Bx.mk (And.intro hr1 hk)
    have HQ2 : Bx (AI W2 D #[x0, x1, x2, x3, x4, x5, .slice oa ol oc, x7] (.slice oa ol oc) ((L.drop f).take m) wr) := ⟨R0.out⟩
    rw [hr1] at e8
    rw [hk] at e10
    by_cases hk1 : k < L.length
    · have b1 : (k : Int) < (L.length : Int) := by omega
      have b2 : ¬ (0 : Int) < (r1 : Int) := by omega
      have b3 : ¬ 0 < r1 := by omega
      clear h hai hy hq hIQ HC0 HC1 htot hf hL hn hD hm hlt hr1 hk hsa
      rw [e0', e4, e6, e7, e8, e9, e10]
      clear e0' e4 e6 e7 e8 e9 e10
      generalize L.length = LL at *
      conv => arg 2; whnf
      go_wp2
      exact HQ.out _ _ ⟨⟨⟨rfl, rfl⟩, rfl, rfl, rfl, rfl, rfl⟩, by rw [HR2.out.1]; rfl, by rw [HR2.out.2]; rfl, _, _, _, HQ2.out⟩
    · have b1 : ¬ (k : Int) < (L.length : Int) := by omega
      clear h hai hy hq hIQ HC0 HC1 htot hf hL hn hD hm hlt hr1 hk hsa
      rw [e0', e4, e6, e7, e8, e9, e10]
      clear e0' e4 e6 e7 e8 e9 e10
      generalize L.length = LL at *
      conv => arg 2; whnf
      go_wp2
      exact HQ.out _ _ ⟨⟨⟨rfl, rfl⟩, rfl, rfl, rfl, rfl, rfl⟩, by rw [HR2.out.1]; rfl, by rw [HR2.out.2]; rfl, _, _, _, HQ2.out⟩
theorem innerA2 (W2 : World) (D q c o cap : Nat) (sa : Option Addr) (x0 x1 x2 x3 x4 x5 x6 x7 : Value) (L : List Int) (f n tot : Nat) (v4 v6 : Value) (htot : min (L.length - f) n = tot) (hf : f ≤ L.length) (hL : L.length ≤ 1000) (hn : (n : Int) ≤ 4611686018427387904) (hD : D < W2.heap.size)
    (hsa : 0 < L.length → sa = some ⟨c, o, none⟩) (HC0 : ∀ W, W2.grownBy W (some D) → W.cell? ⟨q, 2, none⟩ = some (.slice sa L.length cap) ∧ ∀ j, j < L.length → W.cell? ⟨c, o + j, none⟩ = some (.int .i64 (L.getD j 0)))
    (Q : Exit → Act → World → Prop) (a : Act) (wr : World) (h : IQ W2 D 2 #[x0, x1, x2, x3, x4, x5, x6, x7] L f n (.pointer (some ⟨q, 0, none⟩)) v4 v6 0 a wr) (hq : ∀ a' w', IQ W2 D 2 #[x0, x1, x2, x3, x4, x5, x6, x7] L f n (.pointer (some ⟨q, 0, none⟩)) v4 v6 tot a' w' → Q (.exit 2) a' w') :
    Code.wp Tryd.prog (.loop (loopAt (Tryd.f38.body) 1)) Q a wr := by
  refine wp_loop_ghost (fun r a w => ∃ m, m ≤ tot ∧ r = tot - m ∧ IQ W2 D 2 #[x0, x1, x2, x3, x4, x5, x6, x7] L f n (.pointer (some ⟨q, 0, none⟩)) v4 v6 m a w) (tot - 0) ⟨0, Nat.zero_le _, rfl, h⟩ ?_
  rintro r a w ⟨m, hm, rfl, hI⟩
  refine wp_mono (rndA2 W2 D q c o cap sa x0 x1 x2 x3 x4 x5 x6 x7 L f n tot v4 v6 htot hf hL hn hD hsa HC0 Q m a w hI hm hq) ?_
  rintro (_ | _ | _ | _ | _ | _) a' w' hq'
  case normal => exact ⟨tot - (m + 1), by have := hq'.1; omega, m + 1, by have := hq'.1; omega, rfl, hq'.2⟩
  all_goals exact hq'
set_option maxRecDepth 100000 in
set_option maxHeartbeats 16000000 in
theorem rndA3 (W2 : World) (D q c o cap : Nat) (sa : Option Addr) (x0 x1 x2 x3 x4 x5 x6 x7 : Value) (L : List Int) (f n tot : Nat) (v4 v6 : Value) (htot : min (L.length - f) n = tot) (hf : f ≤ L.length) (hL : L.length ≤ 1000) (hn : (n : Int) ≤ 4611686018427387904) (hD : D < W2.heap.size)
    (hsa : 0 < L.length → sa = some ⟨c, o, none⟩) (HC0 : ∀ W, W2.grownBy W (some D) → W.cell? ⟨q, 3, none⟩ = some (.slice sa L.length cap) ∧ ∀ j, j < L.length → W.cell? ⟨c, o + j, none⟩ = some (.int .i64 (L.getD j 0)))
    (Q : Exit → Act → World → Prop) (m : Nat) (a : Act) (wr : World) (h : IQ W2 D 3 #[x0, x1, x2, x3, x4, x5, x6, x7] L f n (.pointer (some ⟨q, 0, none⟩)) v4 v6 m a wr) (hm : m ≤ tot)
    (hq : ∀ a' w', IQ W2 D 3 #[x0, x1, x2, x3, x4, x5, x6, x7] L f n (.pointer (some ⟨q, 0, none⟩)) v4 v6 tot a' w' → Q (.exit 2) a' w') :
    Code.wp Tryd.prog (loopAt (Tryd.f38.body) 1) (Exit.then (fun a' w' => m < tot ∧ IQ W2 D 3 #[x0, x1, x2, x3, x4, x5, x6, x7] L f n (.pointer (some ⟨q, 0, none⟩)) v4 v6 (m + 1) a' w') Q) a wr := by
  obtain ⟨oa, ol, oc, hai⟩ := h.ai
  have R0 : Bx (AI W2 D #[x0, x1, x2, x3, x4, x5, x6, .slice oa ol oc] (.slice oa ol oc) ((L.drop f).take m) wr) := ⟨hai⟩
  have HD := Bx.mk hD
  have HC1 := Bx.mk HC0
  have HQ := Bx.mk hq
  have HT : Bx (((L.drop f).take m).length ≤ 1000) := ⟨by rw [List.length_take, List.length_drop]; omega⟩
  have kcell : wr.cell? ⟨q, 3, none⟩ = some (.slice sa L.length cap) := (HC0 wr hai.kb).1
  obtain ⟨y, rfl, hy⟩ := open73 h.fr.fr
  have e0' := (hy 0).symm.trans h.fr.s0
  have e4 := (hy 4).symm.trans h.fr.s4
  have e6 := (hy 6).symm.trans h.fr.s6
  have e7 := (hy 7).symm.trans h.fr.s7
  have e9 := (hy 9).symm.trans h.fr.s9
  have e8 := (hy 8).symm.trans h.s8
  have e10 := (hy 10).symm.trans h.s10
  have hIQ := Bx.mk h
  by_cases hlt : m < tot
  · obtain ⟨r1, hr1⟩ : ∃ r, n - m = r := ⟨_, rfl⟩
    obtain ⟨r2, hr2⟩ : ∃ r, n - (m + 1) = r := ⟨_, rfl⟩
    obtain ⟨k, hk⟩ : ∃ k, f + m = k := ⟨_, rfl⟩
    obtain ⟨k2, hk2⟩ : ∃ k, f + (m + 1) = k := ⟨_, rfl⟩
    have HR2 := Bx.mk (And.intro hr2 hk2)
    have hlm : k < L.length := by omega
    obtain rfl := hsa (by omega)
    obtain ⟨e0, he0⟩ : ∃ e, L.getD k 0 = e := ⟨_, rfl⟩
    have HC : Bx (∀ W, W2.grownBy W (some D) → W.cell? ⟨q, 3, none⟩ = some (.slice (some ⟨c, o, none⟩) L.length cap) ∧ W.cell? ⟨c, o + k, none⟩ = some (.int .i64 e0)) := ⟨fun W hW => ⟨(HC0 W hW).1, by rw [← he0]; exact (HC0 W hW).2 _ hlm⟩⟩
    have HSn := Bx.mk (take_drop_snoc L f m (by omega))
    rw [hk, he0] at HSn
    have HLT := Bx.mk hlt
    have b1 : (k : Int) < (L.length : Int) := by omega
    have b2 : (0 : Int) < (r1 : Int) := by omega
    have b3 : IntKind.i64.wrap ((r1 : Int) - 1) = (r2 : Int) := by rw [show (r1 : Int) - 1 = (r2 : Int) by omega]; exact IntWalk.i64_in _ (by omega)
    have b4 : IntKind.i64.wrap ((k : Int) + 1) = (k2 : Int) := by rw [show (k : Int) + 1 = (k2 : Int) by omega]; exact IntWalk.i64_in _ (by omega)
    have b5 : 0 < r1 := by omega
    rw [hr1] at e8
    rw [hk] at e10
    clear h hai hy hq hIQ HC0 HC1 HQ htot hf hL hn hD hm hlt he0 hsa hr1 hr2 hk hk2
    rw [e0', e4, e6, e7, e8, e9, e10]
    clear e0' e4 e6 e7 e8 e9 e10
    generalize L.length = LL at *
    conv => arg 2; whnf
    go_upto_region 10 with fail
    have Z0 := Bx.mk (R0.out.later (Below.refl _ _).drew)
    clear R0 kcell
    refine wp_region_noPanic ?_
    refine wp_region_held_drew (S := fun W => W.cell? ⟨q, 3, none⟩ = some (.slice (some ⟨c, o, none⟩) LL cap) ∧ W.cell? ⟨c, o + k, none⟩ = some (.int .i64 e0)) (by kernel_rfl) (HC.out _ Z0.out.kb) (fun hHeld => ?_)
    generalize wr.drew = W0 at *
    refine takeL 0 (v := ?_) rfl (by kernel_rfl) (by kernel_rfl) (by kernel_rfl) (fun _ _ _ h => h) (Or.inl ⟨by rfl, ?_⟩) hHeld ?_
    rotate_left 1
    · (intro w hSw; go_simp; try with_reducible rfl)
    try simp only [Act.put, List.setIfInBounds_toArray, List.set_cons_zero, List.set_cons_succ]
    refine takeL 1 (v := ?_) rfl (by kernel_rfl) (by kernel_rfl) (by kernel_rfl) (fun _ _ _ h => h) (Or.inl ⟨by rfl, ?_⟩) hHeld ?_
    rotate_left 1
    · (intro w hSw; go_simp; try with_reducible rfl)
    try simp only [Act.put, List.setIfInBounds_toArray, List.set_cons_zero, List.set_cons_succ]
    refine takeL 2 (v := ?_) rfl (by kernel_rfl) (by kernel_rfl) (by kernel_rfl) (fun _ _ _ h => h) (Or.inl ⟨by rfl, ?_⟩) hHeld ?_
    rotate_left 1
    · (intro w hSw; go_simp; try with_reducible rfl)
    try simp only [Act.put, List.setIfInBounds_toArray, List.set_cons_zero, List.set_cons_succ]
    refine takeL 3 (v := ?_) rfl (by kernel_rfl) (by kernel_rfl) (by kernel_rfl) (fun _ _ _ h => h) (Or.inl ⟨by rfl, ?_⟩) hHeld ?_
    rotate_left 1
    · (intro w hSw; go_simp; try with_reducible rfl)
    try simp only [Act.put, List.setIfInBounds_toArray, List.set_cons_zero, List.set_cons_succ]
    refine takeL 5 (v := ?_) rfl (by kernel_rfl) (by kernel_rfl) (by kernel_rfl) (fun _ _ _ h => h) (Or.inl ⟨by rfl, ?_⟩) hHeld ?_
    rotate_left 1
    · (intro w hSw; go_simp; try with_reducible rfl)
    try simp only [Act.put, List.setIfInBounds_toArray, List.set_cons_zero, List.set_cons_succ]
    refine takeL 6 (v := ?_) rfl (by kernel_rfl) (by kernel_rfl) (by kernel_rfl) (fun _ _ _ h => h) (Or.inl ⟨by rfl, ?_⟩) hHeld ?_
    rotate_left 1
    · (intro w hSw; go_simp; try with_reducible rfl)
    try simp only [Act.put, List.setIfInBounds_toArray, List.set_cons_zero, List.set_cons_succ]
    refine takeL 7 (v := ?_) rfl (by kernel_rfl) (by kernel_rfl) (by kernel_rfl) (fun _ _ _ h => h) (Or.inl ⟨by rfl, ?_⟩) hHeld ?_
    rotate_left 1
    · (intro w hSw; go_simp; try with_reducible rfl)
    try simp only [Act.put, List.setIfInBounds_toArray, List.set_cons_zero, List.set_cons_succ]
    refine takeL 8 (v := ?_) rfl (by kernel_rfl) (by kernel_rfl) (by kernel_rfl) (fun _ _ _ h => h) (Or.inl ⟨by rfl, ?_⟩) hHeld ?_
    rotate_left 1
    · (intro w hSw; go_simp; try with_reducible rfl)
    try simp only [Act.put, List.setIfInBounds_toArray, List.set_cons_zero, List.set_cons_succ]
    refine takeL 9 (v := ?_) rfl (by kernel_rfl) (by kernel_rfl) (by kernel_rfl) (fun _ _ _ h => h) (Or.inl ⟨by rfl, ?_⟩) hHeld ?_
    rotate_left 1
    · (intro w hSw; go_simp; try with_reducible rfl)
    try simp only [Act.put, List.setIfInBounds_toArray, List.set_cons_zero, List.set_cons_succ]
    refine takeL 10 (v := ?_) rfl (by kernel_rfl) (by kernel_rfl) (by kernel_rfl) (fun _ _ _ h => h) (Or.inl ⟨by rfl, ?_⟩) hHeld ?_
    rotate_left 1
    · (intro w hSw; obtain ⟨q1, q2⟩ := hSw; go_simp; try with_reducible rfl)
    try simp only [Act.put, List.setIfInBounds_toArray, List.set_cons_zero, List.set_cons_succ]
    refine takeL 11 (v := ?_) rfl (by kernel_rfl) (by kernel_rfl) (by kernel_rfl) (fun _ _ _ h => h) (Or.inl ⟨by rfl, ?_⟩) hHeld ?_
    rotate_left 1
    · (intro w hSw; go_simp; try with_reducible rfl)
    try simp only [Act.put, List.setIfInBounds_toArray, List.set_cons_zero, List.set_cons_succ]
    refine takeL 12 (v := ?_) rfl (by kernel_rfl) (by kernel_rfl) (by kernel_rfl) (fun _ _ _ h => h) (Or.inl ⟨by rfl, ?_⟩) hHeld ?_
    rotate_left 1
    · (intro w hSw; obtain ⟨q1, q2⟩ := hSw; go_simp; try with_reducible rfl)
    try simp only [Act.put, List.setIfInBounds_toArray, List.set_cons_zero, List.set_cons_succ]
    refine takeL 13 (v := ?_) rfl (by kernel_rfl) (by kernel_rfl) (by kernel_rfl) (fun _ _ _ h => h) (Or.inl ⟨by rfl, ?_⟩) hHeld ?_
    rotate_left 1
    · (intro w hSw; obtain ⟨q1, q2⟩ := hSw; go_simp; try with_reducible rfl)
    try simp only [Act.put, List.setIfInBounds_toArray, List.set_cons_zero, List.set_cons_succ]
    refine takeL 16 (v := ?_) rfl (by kernel_rfl) (by kernel_rfl) (by kernel_rfl) (fun _ _ _ h => h) (Or.inl ⟨by rfl, ?_⟩) hHeld ?_
    rotate_left 1
    · (intro w hSw; go_simp; try with_reducible rfl)
    try simp only [Act.put, List.setIfInBounds_toArray, List.set_cons_zero, List.set_cons_succ]
    refine wpAnyH_ready (rs := [4, 14]) (by kernel_rfl) (by simp) ?_
    refine consM 4 rfl (fun K hK => ?_) (consM 14 rfl (fun K hK => ?_) AllReadyH.nil)
    · have cu : W0.cell? ⟨D, 7, none⟩ = some (.slice oa ol oc) := by rw [cell_of_row _ _ _ _ _ _ Z0.out.row]; rfl
      go_simp
      clear cu
      refine hK.out _ _ (HC.out _ Z0.out.kb) (fun hHeld => ?_)
      clear hK K
      try simp only [Act.put, List.setIfInBounds_toArray, List.set_cons_zero, List.set_cons_succ]
      refine stepL 14 (by kernel_rfl) rfl (fun K hK => ?_)
      go_simp
      show K _ _
      have HO := Bx.mk (ints1 W0 e0 3)
      have R1 := Bx.mk (Z0.out.later (below_a (.cells #[.int .i64 e0] 3)))
      clear Z0
      generalize W0.heap.size = G at *
      generalize W0.alloc (.cells #[.int .i64 e0] 3) = W1 at *
      refine hK.out _ _ (HC.out _ R1.out.kb) (fun hHeld => ?_)
      clear hK K
      try simp only [Act.put, List.setIfInBounds_toArray, List.set_cons_zero, List.set_cons_succ]
      refine stepL 15 (by kernel_rfl) rfl (fun K hK => ?_)
      refine step_apI9 rfl _ _ rfl W2.heap.size _ _ (by rfl) R1.out.own _ [e0] (by rfl) HO.out (by have := HT.out; simp only [List.length_cons, List.length_nil]; omega) R1.out.kb.size ?_
      intro v' W2 ho hg
      obtain ⟨ba, bc, hv⟩ := ho.form
      obtain ⟨bn, hbn⟩ : ∃ n, ((L.drop f).take m ++ [e0]).length = n := ⟨_, rfl⟩
      rw [hbn] at hv
      subst hv
      have R2 := Bx.mk (R1.out.ap HD.out ho hg)
      clear ho hg hbn R1 HO
      refine hK.out _ _ (HC.out _ R2.out.kb) (fun hHeld => ?_)
      clear hK K
      try simp only [Act.put, List.setIfInBounds_toArray, List.set_cons_zero, List.set_cons_succ]
      refine takeL 17 (v := ?_) rfl (by kernel_rfl) (by kernel_rfl) (by kernel_rfl) (fun _ _ _ h => h) (Or.inl ⟨by rfl, ?_⟩) hHeld ?_
      rotate_left 1
      · (intro w hSw; go_simp; try with_reducible rfl)
      try simp only [Act.put, List.setIfInBounds_toArray, List.set_cons_zero, List.set_cons_succ]
      refine stepL 18 (by kernel_rfl) rfl (fun K hK => ?_)
      refine step_cellS9 rfl _ _ rfl D 7 ba bn bc #[x0, x1, x2, x3, x4, x5, x6, .slice oa ol oc] #[x0, x1, x2, x3, x4, x5, x6, .slice ba bn bc] 26 (by rfl) (by rfl) R2.out.row (by simp) rfl ?_
      intro W3 hg hr
      have R3 := Bx.mk (R2.out.put HD.out hg hr)
      clear hg hr R2
      refine hK.out _ _ (HC.out _ R3.out.kb) (fun hHeld => ?_)
      clear hK K
      try simp only [Act.put]
      refine wpAnyH_done (by kernel_rfl) ?_ _
      refine NoPanic.normal ?_
      clear hHeld
      go_wp2
      exact ⟨HLT.out, ⟨⟨⟨rfl, rfl⟩, rfl, rfl, rfl, rfl, rfl⟩, by rw [HR2.out.1]; rfl, by rw [HR2.out.2]; rfl, _, _, _, by rw [HSn.out]; exact R3.out⟩⟩
    · go_simp
      show K _ _
      have HO := Bx.mk (ints1 W0 e0 3)
      have R1 := Bx.mk (Z0.out.later (below_a (.cells #[.int .i64 e0] 3)))
      clear Z0
      generalize W0.heap.size = G at *
      generalize W0.alloc (.cells #[.int .i64 e0] 3) = W1 at *
      refine hK.out _ _ (HC.out _ R1.out.kb) (fun hHeld => ?_)
      clear hK K
      try simp only [Act.put, List.setIfInBounds_toArray, List.set_cons_zero, List.set_cons_succ]
      refine stepL 4 (by kernel_rfl) rfl (fun K hK => ?_)
      have cu : W1.cell? ⟨D, 7, none⟩ = some (.slice oa ol oc) := by rw [cell_of_row _ _ _ _ _ _ R1.out.row]; rfl
      go_simp
      clear cu
      refine hK.out _ _ (HC.out _ R1.out.kb) (fun hHeld => ?_)
      clear hK K
      try simp only [Act.put, List.setIfInBounds_toArray, List.set_cons_zero, List.set_cons_succ]
      refine stepL 15 (by kernel_rfl) rfl (fun K hK => ?_)
      refine step_apI9 rfl _ _ rfl W2.heap.size _ _ (by rfl) R1.out.own _ [e0] (by rfl) HO.out (by have := HT.out; simp only [List.length_cons, List.length_nil]; omega) R1.out.kb.size ?_
      intro v' W2 ho hg
      obtain ⟨ba, bc, hv⟩ := ho.form
      obtain ⟨bn, hbn⟩ : ∃ n, ((L.drop f).take m ++ [e0]).length = n := ⟨_, rfl⟩
      rw [hbn] at hv
      subst hv
      have R2 := Bx.mk (R1.out.ap HD.out ho hg)
      clear ho hg hbn R1 HO
      refine hK.out _ _ (HC.out _ R2.out.kb) (fun hHeld => ?_)
      clear hK K
      try simp only [Act.put, List.setIfInBounds_toArray, List.set_cons_zero, List.set_cons_succ]
      refine takeL 17 (v := ?_) rfl (by kernel_rfl) (by kernel_rfl) (by kernel_rfl) (fun _ _ _ h => h) (Or.inl ⟨by rfl, ?_⟩) hHeld ?_
      rotate_left 1
      · (intro w hSw; go_simp; try with_reducible rfl)
      try simp only [Act.put, List.setIfInBounds_toArray, List.set_cons_zero, List.set_cons_succ]
      refine stepL 18 (by kernel_rfl) rfl (fun K hK => ?_)
      refine step_cellS9 rfl _ _ rfl D 7 ba bn bc #[x0, x1, x2, x3, x4, x5, x6, .slice oa ol oc] #[x0, x1, x2, x3, x4, x5, x6, .slice ba bn bc] 26 (by rfl) (by rfl) R2.out.row (by simp) rfl ?_
      intro W3 hg hr
      have R3 := Bx.mk (R2.out.put HD.out hg hr)
      clear hg hr R2
      refine hK.out _ _ (HC.out _ R3.out.kb) (fun hHeld => ?_)
      clear hK K
      try simp only [Act.put]
      refine wpAnyH_done (by kernel_rfl) ?_ _
      refine NoPanic.normal ?_
      clear hHeld
      go_wp2
      exact ⟨HLT.out, ⟨⟨⟨rfl, rfl⟩, rfl, rfl, rfl, rfl, rfl⟩, by rw [HR2.out.1]; rfl, by rw [HR2.out.2]; rfl, _, _, _, by rw [HSn.out]; exact R3.out⟩⟩
  · have he : m = tot := by omega
    subst he
    obtain ⟨r1, hr1⟩ : ∃ r, n - m = r := ⟨_, rfl⟩
    obtain ⟨k, hk⟩ : ∃ k, f + m = k := ⟨_, rfl⟩
    have HR2 := Bx.mk (And.intro hr1 hk)
    have HQ2 : Bx (AI W2 D #[x0, x1, x2, x3, x4, x5, x6, .slice oa ol oc] (.slice oa ol oc) ((L.drop f).take m) wr) := ⟨R0.out⟩
    rw [hr1] at e8
    rw [hk] at e10
    by_cases hk1 : k < L.length
    · have b1 : (k : Int) < (L.length : Int) := by omega
      have b2 : ¬ (0 : Int) < (r1 : Int) := by omega
      have b3 : ¬ 0 < r1 := by omega
      clear h hai hy hq hIQ HC0 HC1 htot hf hL hn hD hm hlt hr1 hk hsa
      rw [e0', e4, e6, e7, e8, e9, e10]
      clear e0' e4 e6 e7 e8 e9 e10
      generalize L.length = LL at *
      conv => arg 2; whnf
      go_wp2
      exact HQ.out _ _ ⟨⟨⟨rfl, rfl⟩, rfl, rfl, rfl, rfl, rfl⟩, by rw [HR2.out.1]; rfl, by rw [HR2.out.2]; rfl, _, _, _, HQ2.out⟩
    · have b1 : ¬ (k : Int) < (L.length : Int) := by omega
      clear h hai hy hq hIQ HC0 HC1 htot hf hL hn hD hm hlt hr1 hk hsa
      rw [e0', e4, e6, e7, e8, e9, e10]
      clear e0' e4 e6 e7 e8 e9 e10
      generalize L.length = LL at *
      conv => arg 2; whnf
      go_wp2
      exact HQ.out _ _ ⟨⟨⟨rfl, rfl⟩, rfl, rfl, rfl, rfl, rfl⟩, by rw [HR2.out.1]; rfl, by rw [HR2.out.2]; rfl, _, _, _, HQ2.out⟩
theorem innerA3 (W2 : World) (D q c o cap : Nat) (sa : Option Addr) (x0 x1 x2 x3 x4 x5 x6 x7 : Value) (L : List Int) (f n tot : Nat) (v4 v6 : Value) (htot : min (L.length - f) n = tot) (hf : f ≤ L.length) (hL : L.length ≤ 1000) (hn : (n : Int) ≤ 4611686018427387904) (hD : D < W2.heap.size)
    (hsa : 0 < L.length → sa = some ⟨c, o, none⟩) (HC0 : ∀ W, W2.grownBy W (some D) → W.cell? ⟨q, 3, none⟩ = some (.slice sa L.length cap) ∧ ∀ j, j < L.length → W.cell? ⟨c, o + j, none⟩ = some (.int .i64 (L.getD j 0)))
    (Q : Exit → Act → World → Prop) (a : Act) (wr : World) (h : IQ W2 D 3 #[x0, x1, x2, x3, x4, x5, x6, x7] L f n (.pointer (some ⟨q, 0, none⟩)) v4 v6 0 a wr) (hq : ∀ a' w', IQ W2 D 3 #[x0, x1, x2, x3, x4, x5, x6, x7] L f n (.pointer (some ⟨q, 0, none⟩)) v4 v6 tot a' w' → Q (.exit 2) a' w') :
    Code.wp Tryd.prog (.loop (loopAt (Tryd.f38.body) 1)) Q a wr := by
  refine wp_loop_ghost (fun r a w => ∃ m, m ≤ tot ∧ r = tot - m ∧ IQ W2 D 3 #[x0, x1, x2, x3, x4, x5, x6, x7] L f n (.pointer (some ⟨q, 0, none⟩)) v4 v6 m a w) (tot - 0) ⟨0, Nat.zero_le _, rfl, h⟩ ?_
  rintro r a w ⟨m, hm, rfl, hI⟩
  refine wp_mono (rndA3 W2 D q c o cap sa x0 x1 x2 x3 x4 x5 x6 x7 L f n tot v4 v6 htot hf hL hn hD hsa HC0 Q m a w hI hm hq) ?_
  rintro (_ | _ | _ | _ | _ | _) a' w' hq'
  case normal => exact ⟨tot - (m + 1), by have := hq'.1; omega, m + 1, by have := hq'.1; omega, rfl, hq'.2⟩
  all_goals exact hq'
end Go.Proofs.YtnfgamekjbkbkaaDoor
