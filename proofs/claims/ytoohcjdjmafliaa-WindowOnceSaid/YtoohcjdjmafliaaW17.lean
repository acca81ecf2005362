/-
  WindowOnce: what it carries; a round of its outer loop.
-/
import Derived.Test.YtoohcjdjmafliaaW16
import Derived.Deep.RegionHeld3
namespace Go.Proofs.Ytoohcjdjmafliaa
open Go Go.RowKit
theorem kindRW2 : 29 ≠ 27 := by decide
/-- Two windows, a nonce in its block, a row of what was taken behind it. -/
structure BO (w : World) (q1 q2 L : Nat) (s1 s2 : Ws) (vt : Value) (m m2 : List Nn) (y : Nn) (W : World) : Prop where
  a : WP w q1 s1 W
  b : WP w q2 s2 W
  bx : BoxN 29 L y W
  own : OwnN 29 W (L + 1) vt m
  ge : w.heap.size ≤ L
  n1 : q1 ≠ q2
  n2 : L ≠ q1
  n3 : L ≠ q2
  ra : RelW m s1
  rb : RelW m2 s2
  lat : latN m2 = y
theorem BO.later {w : World} {q1 q2 L : Nat} {s1 s2 : Ws} {vt : Value} {m m2 : List Nn} {y : Nn} {W W1 : World} (h : BO w q1 q2 L s1 s2 vt m m2 y W) (hb : Below W.heap.size W W1) : BO w q1 q2 L s1 s2 vt m m2 y W1 :=
  ⟨h.a.later hb, h.b.later hb, h.bx.later hb, h.own.later hb, h.ge, h.n1, h.n2, h.n3, h.ra, h.rb, h.lat⟩
/-- Between a Take and an append. -/
structure BM (w : World) (q1 q2 L : Nat) (s1 s2 : Ws) (vt : Value) (m : List Nn) (m2 : List Nn) (y : Nn) (W : World) : Prop where
  a : WP w q1 s1 W
  b : WP w q2 s2 W
  bx : BoxN 29 L y W
  own : OwnN 29 W (L + 1) vt m
  ge : w.heap.size ≤ L
  n1 : q1 ≠ q2
  n2 : L ≠ q1
  n3 : L ≠ q2
  rb : RelW m2 s2
  lat : latN m2 = y
theorem BM.later {w : World} {q1 q2 L : Nat} {s1 s2 : Ws} {vt : Value} {m m2 : List Nn} {y : Nn} {W W1 : World} (h : BM w q1 q2 L s1 s2 vt m m2 y W) (hb : Below W.heap.size W W1) : BM w q1 q2 L s1 s2 vt m m2 y W1 :=
  ⟨h.a.later hb, h.b.later hb, h.bx.later hb, h.own.later hb, h.ge, h.n1, h.n2, h.n3, h.rb, h.lat⟩
theorem BO.takeA {w : World} {q1 q2 L : Nat} {s1 s2 t1 : Ws} {vt : Value} {m m2 : List Nn} {y : Nn} {W W1 : World} (h : BO w q1 q2 L s1 s2 vt m m2 y W) (hw : WP w q1 t1 W1) (hg : W.grownBy W1 (some q1)) : BM w q1 q2 L t1 s2 vt m m2 y W1 :=
  ⟨hw, h.b.aside hg h.a.ge (fun e => h.n1 e.symm), h.bx.aside hg h.n2, h.own.aside (h.a.win.kind kindRW2) hg, h.ge, h.n1, h.n2, h.n3, h.rb, h.lat⟩
theorem BM.keep {w : World} {q1 q2 L : Nat} {s1 s2 : Ws} {vt : Value} {m m2 : List Nn} {y : Nn} {W : World} (h : BM w q1 q2 L s1 s2 vt m m2 y W) (hr : RelW m s1) : BO w q1 q2 L s1 s2 vt m m2 y W :=
  ⟨h.a, h.b, h.bx, h.own, h.ge, h.n1, h.n2, h.n3, hr, h.rb, h.lat⟩
theorem BM.app {w : World} {q1 q2 L : Nat} {s1 s2 : Ws} {vt v' : Value} {m m' m2 : List Nn} {y : Nn} {W W1 : World} (h : BM w q1 q2 L s1 s2 vt m m2 y W) (ho : OwnN 29 W1 (L + 1) v' m') (hg : W.grownBy W1 vt.ownBlock) (hr : RelW m' s1) : BO w q1 q2 L s1 s2 v' m' m2 y W1 := by
  have hge := h.ge
  have hw := h.own.weak (show w.heap.size ≤ L + 1 by omega)
  refine ⟨h.a.row kindRW2 hw hg, h.b.row kindRW2 hw hg, (hg.block L h.bx.lt (fun e => ?_)).trans h.bx, ho, h.ge, h.n1, h.n2, h.n3, hr, h.rb, h.lat⟩
  have := (h.own.lt L e.symm).2
  omega
theorem BO.set {w : World} {q1 q2 L : Nat} {s1 s2 : Ws} {vt : Value} {m m2 : List Nn} {y : Nn} {W : World} (h : BO w q1 q2 L s1 s2 vt m m2 y W) (b c : Int) :
    WP w q1 s1 ((W.setCell ⟨L, 0, none⟩ (.int .i64 b)).setCell ⟨L, 1, none⟩ (.int .i64 c)) ∧ WP w q2 s2 ((W.setCell ⟨L, 0, none⟩ (.int .i64 b)).setCell ⟨L, 1, none⟩ (.int .i64 c)) ∧ BoxN 29 L ⟨b, c⟩ ((W.setCell ⟨L, 0, none⟩ (.int .i64 b)).setCell ⟨L, 1, none⟩ (.int .i64 c)) ∧ OwnN 29 ((W.setCell ⟨L, 0, none⟩ (.int .i64 b)).setCell ⟨L, 1, none⟩ (.int .i64 c)) (L + 1) vt m := by
  have hg := grown_set2 L W (.int .i64 b) (.int .i64 c)
  refine ⟨h.a.aside hg h.ge (fun e => h.n2 e.symm), h.b.aside hg h.ge (fun e => h.n3 e.symm), h.bx.store b c, h.own.kept fun g cs fr hge h0 => ?_⟩
  rw [hg.block g (Array.getElem?_eq_some_iff.1 h0).1 (fun e => by injection e with e; omega)]
  exact h0
/-- What stays in the frame of the outer loop. -/
structure FOo (v0 : Value) (q1 q2 L : Nat) (a : Act) : Prop where
  fr : Fr 89 a
  s0 : a.eval (.tmp 0) = v0
  s3 : a.eval (.tmp 3) = .pointer (some ⟨q1, 0, none⟩)
  s4 : a.eval (.tmp 4) = .pointer (some ⟨q2, 0, none⟩)
  s6 : a.eval (.tmp 6) = .pointer (some ⟨L, 0, none⟩)
/-- Between two rounds of the outer loop. -/
structure IOo (w : World) (q1 q2 L : Nat) (v0 : Value) (k : Nat) (a : Act) (W : World) : Prop where
  fo : FOo v0 q1 q2 L a
  s7 : a.eval (.tmp 7) = .int .i64 (k : Int)
  st : ∃ vt s1 s2 m m2 y, a.eval (.tmp 5) = vt ∧ BO w q1 q2 L s1 s2 vt m m2 y W ∧ m.length ≤ k
theorem BO.next {w : World} {q1 q2 L : Nat} {s1 s2 : Ws} {vt : Value} {m m2 : List Nn} {x y : Nn} {W : World} (h : BO w q1 q2 L s1 s2 vt m m2 y W) (hok : okN x = true) (hl : lessN y x = true) : lookW s2 x = 0 ∧ RelW (m2 ++ [x]) (takeW s2 x) ∧ latN (m2 ++ [x]) = x ∧ (takeW s2 x).n = x := by
  have h0 := h.rb.up hok (by rw [h.rb.lat, h.lat]; exact hl)
  have hr := h.rb.take h0
  have hx : latN (m2 ++ [x]) = x := by rw [latN_snoc, h.lat, hl, if_pos rfl]
  exact ⟨h0, hr, hx, hr.lat.trans hx⟩
set_option maxRecDepth 100000 in
set_option maxHeartbeats 4000000 in
theorem roundO_yes (w : World) (l : List Nn) (q1 q2 L : Nat) (v0 : Value) (hv : NnsF w v0 l) (hn : l.length ≤ 9223372036854775807)
    (Q : Exit → Act → World → Prop) (k : Nat) (a : Act) (wr : World) (hk : k < l.length) (hk6 : k < 60) (hf : FOo v0 q1 q2 L a) (s7 : a.eval (.tmp 7) = .int .i64 (k : Int)) (vt : Value) (s1 s2 : Ws) (m m2 : List Nn) (yl : Nn) (s5 : a.eval (.tmp 5) = vt) (hB : BO w q1 q2 L s1 s2 vt m m2 yl wr) (hm : m.length ≤ k) (hz : lookW s1 (l.getD k Nn.zero) = 0) :
    Code.wp Try.prog (loopAt (Try.f4.body) 0) (Exit.then (fun a' w' => IOo w q1 q2 L v0 (k + 1) a' w') Q) a wr := by
  obtain ⟨b, o, cap, rfl⟩ := hv.1.start (by omega)
  have HD := Bx.mk (hv.1.cells k hk)
  obtain ⟨na, hna⟩ : ∃ na, l.length = na := ⟨_, rfl⟩
  rw [hna] at hk hn hf ⊢
  generalize l.getD k Nn.zero = x at *
  have hm60 : m.length ≤ 1000 := by omega
  have HTo := Bx.mk fun (W : World) => to12_any x W
  have HTk := Bx.mk fun (W : World) (h : BO w q1 q2 L s1 s2 vt m m2 yl W) => h.a.take x
  have HT2 := Bx.mk fun (s : Ws) (W : World) (h : WP w q2 s W) => h.take x
  have HRi := Bx.mk fun (W : World) => rright12_any x W
  have HLs := Bx.mk fun (W : World) => rless_any yl x W
  have HLa := Bx.mk fun (s : Ws) (W : World) (h : WP w q2 s W) => latest_any q2 s W h.win
  have hrel := hB.ra.look x
  have HRn := Bx.mk (hB.ra.take hz)
  have HIn : Bx ((0 : Int) = 0 → x ∉ m) := Bx.mk fun _ hx => by
    rw [hrel] at hz
    unfold dlookN at hz
    rw [if_pos hx] at hz
    split at hz
    · omega
    · split at hz <;> omega
  rw [hz] at HTk
  have HLn : Bx ((m ++ [x]).length ≤ k + 1) := Bx.mk (by rw [List.length_append, List.length_singleton]; omega)
  clear hz hrel
  have HNx := Bx.mk fun (W : World) (vt : Value) (s1 : Ws) (m : List Nn) (h : BO w q1 q2 L s1 s2 vt m m2 yl W) => h.next (x := x)
  have HL10 := Bx.mk hm60
  have HLo := Bx.mk fun (wf : World) (v3 v4 v6 : Value) (h : NnsR wf vt m) (c0 : wf.cell? ⟨b, o + k * 2, none⟩ = some (.int .i64 x.b)) (c1 : wf.cell? ⟨b, o + k * 2 + 1, none⟩ = some (.int .i64 x.c)) (Q : Exit → Act → World → Prop) (a : Act) (wr : World) => loopJn wf v3 v4 vt v6 b o na cap k 0 x m h hm60 c0 c1 hk hk6 HIn.out Q a wr
  have R0 := Bx.mk hB
  have HK := Bx.mk hk6
  have k1 : (k : Int) < 60 := by omega
  have k2 : (k : Int) < (na : Int) := by omega
  have k0 : (0 : Int) ≤ (k : Int) := by omega
  have m1 : (na : Int) ≤ 9223372036854775807 := by omega
  have hwk : IntKind.i64.wrap ((k : Int) + 1) = (k : Int) + 1 := by simp [IntKind.wrap_i64]; omega
  obtain ⟨ma, mc, hvm, -, -⟩ := hB.own.form
  obtain ⟨mn, hmn⟩ : ∃ mn, m.length = mn := ⟨_, rfl⟩
  rw [hmn] at hvm
  subst hvm
  obtain ⟨y, rfl, hy⟩ := open89 hf.fr
  have e0 := (hy 0).symm.trans hf.s0
  have e3 := (hy 3).symm.trans hf.s3
  have e4 := (hy 4).symm.trans hf.s4
  have e5 := (hy 5).symm.trans s5
  have e6 := (hy 6).symm.trans hf.s6
  have e7 := (hy 7).symm.trans s7
  clear hf hy s5 s7 hk hk6 hn hna hB hm hm60 hv hmn
  rw [e0, e3, e4, e5, e6, e7]
  clear e0 e3 e4 e5 e6 e7
  have c0 := (R0.out.a.below.cell (p := ⟨b, o + k * 2, none⟩) (World.block_lt_of_cell? _ _ HD.out.1)).trans HD.out.1
  have c1 := (R0.out.a.below.cell (p := ⟨b, o + k * 2 + 1, none⟩) (World.block_lt_of_cell? _ _ HD.out.2)).trans HD.out.2
  conv => arg 2; whnf
  obtain ⟨xb, xc⟩ := x
  obtain ⟨yb, yc⟩ := yl
  unfold nv at HTo HTk HT2 HRi HLs HLa
  simp only at HLo HD c0 c1
  go_wp2_with fail
  refine (HTo.out _).mono ?_
  rintro e w1 ⟨rfl, hb⟩
  have R1 := Bx.mk (R0.out.later hb)
  clear hb R0 c0 c1
  have c0 := (R1.out.a.below.cell (p := ⟨b, o + k * 2, none⟩) (World.block_lt_of_cell? _ _ HD.out.1)).trans HD.out.1
  have c1 := (R1.out.a.below.cell (p := ⟨b, o + k * 2 + 1, none⟩) (World.block_lt_of_cell? _ _ HD.out.2)).trans HD.out.2
  go_wp2_with fail
  refine (HTk.out _ R1.out).mono ?_
  rintro e w2 ⟨rfl, hw, hg⟩
  have RM : Bx (BM w q1 q2 L (takeW s1 ⟨xb, xc⟩) s2 (.slice ma mn mc) m m2 ⟨yb, yc⟩ w2) := Bx.mk (R1.out.takeA hw hg)
  clear hw hg R1 c0 c1
  have c0 := (RM.out.a.below.cell (p := ⟨b, o + k * 2, none⟩) (World.block_lt_of_cell? _ _ HD.out.1)).trans HD.out.1
  have c1 := (RM.out.a.below.cell (p := ⟨b, o + k * 2 + 1, none⟩) (World.block_lt_of_cell? _ _ HD.out.2)).trans HD.out.2
  go_wp2
  skip -- M1
  refine HLo.out w2 _ _ _ RM.out.own.reads c0 c1 _ _ _ ⟨⟨⟨rfl, rfl⟩, rfl, rfl, rfl, rfl, rfl, rfl, rfl⟩, rfl, Below.refl _ _⟩ ?_
  intro a6 w6 hf hb
  obtain ⟨y, rfl, hx⟩ := open89 hf.fr
  have e0 := (hx 0).symm.trans hf.s0
  have e3 := (hx 3).symm.trans hf.s3
  have e4 := (hx 4).symm.trans hf.s4
  have e5 := (hx 5).symm.trans hf.s5
  have e6 := (hx 6).symm.trans hf.s6
  have e7 := (hx 7).symm.trans hf.s7
  have e8 := (hx 8).symm.trans hf.s8
  have RI := Bx.mk (RM.out.later hb)
  clear hf hx hb RM c0 c1 HLo HIn
  rw [e0, e3, e4, e5, e6, e7, e8]
  clear e0 e3 e4 e5 e6 e7 e8
  have c0 := (RI.out.a.below.cell (p := ⟨b, o + k * 2, none⟩) (World.block_lt_of_cell? _ _ HD.out.1)).trans HD.out.1
  have c1 := (RI.out.a.below.cell (p := ⟨b, o + k * 2 + 1, none⟩) (World.block_lt_of_cell? _ _ HD.out.2)).trans HD.out.2
  have RN : Bx (BM w q1 q2 L (takeW s1 ⟨xb, xc⟩) s2 (.slice ma mn mc) m m2 ⟨yb, yc⟩ (w6.alloc (.cells #[.int .i64 xb, .int .i64 xc] 29)) ∧ (w6.alloc (.cells #[.int .i64 xb, .int .i64 xc] 29)).rangeAt w6.heap.size 0 (nnc ⟨xb, xc⟩)) := Bx.mk ⟨RI.out.later (below_a _), nnc_new w6 ⟨xb, xc⟩ _⟩
  clear RI
  skip -- M2
  go_upto_region 15 with (refine wpList_ap12R rfl _ _ rfl (L + 1) _ m (by rfl) RN.out.1.own w6.heap.size 0 ⟨xb, xc⟩ 1 (by rfl) RN.out.2 HL10.out RN.out.1.bx.lt ?_; intro v7 w7 ho hg; have RP := Bx.mk (RN.out.1.app ho hg HRn.out); clear ho hg RN)
  skip -- M3
  obtain ⟨va, vc, hv7, -, -⟩ := RP.out.own.form
  obtain ⟨vn, hvn⟩ : ∃ vn, (m ++ [(⟨xb, xc⟩ : Nn)]).length = vn := ⟨_, rfl⟩
  rw [hvn] at hv7
  subst hv7
  clear hvn
  cases hok : okN ⟨xb, xc⟩ with
  | false =>
    rw [hok] at HRi
    clear hok
    go_upto_region 15 with fail
    clear c0 c1
    have RD : Bx (BO w q1 q2 L (takeW s1 ⟨xb, xc⟩) s2 (.slice va vn vc) (m ++ [⟨xb, xc⟩]) m2 ⟨yb, yc⟩ w7.drew) := Bx.mk (RP.out.later (Below.refl _ _).drew)
    refine wp_region_noPanic ?_
    refine wp_region_held_drew (S := fun W => W.rangeAt b (o + k * 2) [.int .i64 xb, .int .i64 xc] ∧ W.rangeAt L 0 [.int .i64 yb, .int .i64 yc]) (by kernel_rfl) (⟨two_range (((RD.out.a.below).cell (p := ⟨b, o + k * 2, none⟩) (World.block_lt_of_cell? _ _ HD.out.1)).trans HD.out.1) (((RD.out.a.below).cell (p := ⟨b, o + k * 2 + 1, none⟩) (World.block_lt_of_cell? _ _ HD.out.2)).trans HD.out.2), RD.out.bx.range⟩) (fun hHeld => ?_)
    have R0 := RD
    clear RD RP
    generalize w7.drew = W0 at *
    refine takeL 0 (v := ?_) rfl (by kernel_rfl) (by kernel_rfl) (by kernel_rfl) (fun _ _ _ h => h) (Or.inl ⟨by rfl, ?_⟩) hHeld ?_
    rotate_left 1
    · (intro w hSw; go_simp; try with_reducible rfl)
    try simp only [Act.put, List.setIfInBounds_toArray, List.set_cons_zero, List.set_cons_succ]
    refine takeL 1 (v := ?_) rfl (by kernel_rfl) (by kernel_rfl) (by kernel_rfl) (fun _ _ _ h => h) (Or.inl ⟨by rfl, ?_⟩) hHeld ?_
    rotate_left 1
    · (intro w hSw; go_simp; try with_reducible rfl)
    try simp only [Act.put, List.setIfInBounds_toArray, List.set_cons_zero, List.set_cons_succ]
    refine takeL 2 (v := ?_) rfl (by kernel_rfl) (by kernel_rfl) (by kernel_rfl) (fun _ _ _ h => h) (Or.inl ⟨by rfl, ?_⟩) hHeld ?_
    rotate_left 1
    · (intro w hSw; go_simp; try with_reducible rfl)
    try simp only [Act.put, List.setIfInBounds_toArray, List.set_cons_zero, List.set_cons_succ]
    refine takeL 3 rfl (by kernel_rfl) (by kernel_rfl) (by kernel_rfl) (fun _ _ _ h => h) (yieldsIf_load_mid (by rfl) _ _ rfl _ _ rfl _ _ (fun w hSw => hSw.1) Try.underlying29 rfl (by kernel_rfl)) hHeld ?_
    try simp only [Act.put, List.setIfInBounds_toArray, List.set_cons_zero, List.set_cons_succ]
    refine stepL 4 (by kernel_rfl) rfl (fun K hK => ?_)
    go_simp
    refine (HRi.out W0).mono ?_
    rintro e W1 ⟨rfl, hb⟩
    show K _ _
    have R1 := Bx.mk (R0.out.later hb)
    clear hb R0
    refine hK.out _ _ (⟨two_range (((R1.out.a.below).cell (p := ⟨b, o + k * 2, none⟩) (World.block_lt_of_cell? _ _ HD.out.1)).trans HD.out.1) (((R1.out.a.below).cell (p := ⟨b, o + k * 2 + 1, none⟩) (World.block_lt_of_cell? _ _ HD.out.2)).trans HD.out.2), R1.out.bx.range⟩) (fun hHeld => ?_)
    clear hK K
    try simp only [Act.put, List.setIfInBounds_toArray, List.set_cons_zero, List.set_cons_succ]
    refine takeL 5 (v := ?_) rfl (by kernel_rfl) (by kernel_rfl) (by kernel_rfl) (fun _ _ _ h => h) (Or.inl ⟨by rfl, ?_⟩) hHeld ?_
    rotate_left 1
    · (intro w hSw; go_simp; try with_reducible rfl)
    try simp only [Act.put, List.setIfInBounds_toArray, List.set_cons_zero, List.set_cons_succ]
    refine takeL 6 (v := undef) rfl (by kernel_rfl) (by kernel_rfl) (by kernel_rfl) (fun _ _ _ h => h) (Or.inr ⟨by rfl, rfl⟩) hHeld ?_
    try simp only [Act.put, List.setIfInBounds_toArray, List.set_cons_zero, List.set_cons_succ]
    refine takeL 7 (v := undef) rfl (by kernel_rfl) (by kernel_rfl) (by kernel_rfl) (fun _ _ _ h => h) (Or.inr ⟨by rfl, rfl⟩) hHeld ?_
    try simp only [Act.put, List.setIfInBounds_toArray, List.set_cons_zero, List.set_cons_succ]
    refine takeL 8 (v := undef) rfl (by kernel_rfl) (by kernel_rfl) (by kernel_rfl) (fun _ _ _ h => h) (Or.inr ⟨by rfl, rfl⟩) hHeld ?_
    try simp only [Act.put, List.setIfInBounds_toArray, List.set_cons_zero, List.set_cons_succ]
    refine takeL 9 (v := undef) rfl (by kernel_rfl) (by kernel_rfl) (by kernel_rfl) (fun _ _ _ h => h) (Or.inr ⟨by rfl, rfl⟩) hHeld ?_
    try simp only [Act.put, List.setIfInBounds_toArray, List.set_cons_zero, List.set_cons_succ]
    refine takeL 10 (v := undef) rfl (by kernel_rfl) (by kernel_rfl) (by kernel_rfl) (fun _ _ _ h => h) (Or.inr ⟨by rfl, rfl⟩) hHeld ?_
    try simp only [Act.put, List.setIfInBounds_toArray, List.set_cons_zero, List.set_cons_succ]
    refine takeL 11 (v := undef) rfl (by kernel_rfl) (by kernel_rfl) (by kernel_rfl) (fun _ _ _ h => h) (Or.inr ⟨by rfl, rfl⟩) hHeld ?_
    try simp only [Act.put, List.setIfInBounds_toArray, List.set_cons_zero, List.set_cons_succ]
    refine takeL 12 (v := ?_) rfl (by kernel_rfl) (by kernel_rfl) (by kernel_rfl) (fun _ _ _ h => h) (Or.inl ⟨by rfl, ?_⟩) hHeld ?_
    rotate_left 1
    · (intro w hSw; go_simp; try with_reducible rfl)
    try simp only [Act.put, List.setIfInBounds_toArray, List.set_cons_zero, List.set_cons_succ]
    refine wpAnyH_done (by kernel_rfl) ?_ _
    refine NoPanic.normal ?_
    clear hHeld
    go_wp2
    exact ⟨⟨⟨rfl, rfl⟩, rfl, rfl, rfl, rfl⟩, by first | rfl | go_num, (.slice va vn vc), (takeW s1 ⟨xb, xc⟩), s2, (m ++ [⟨xb, xc⟩]), m2, ⟨yb, yc⟩, rfl, R1.out, HLn.out⟩
  | true =>
    rw [hok] at HRi
    have HOk := Bx.mk hok
    clear hok
    cases hle : lessN ⟨yb, yc⟩ ⟨xb, xc⟩ with
    | false =>
      rw [hle] at HLs
      clear hle
      go_upto_region 15 with fail
      clear c0 c1
      have RD : Bx (BO w q1 q2 L (takeW s1 ⟨xb, xc⟩) s2 (.slice va vn vc) (m ++ [⟨xb, xc⟩]) m2 ⟨yb, yc⟩ w7.drew) := Bx.mk (RP.out.later (Below.refl _ _).drew)
      refine wp_region_noPanic ?_
      refine wp_region_held_drew (S := fun W => W.rangeAt b (o + k * 2) [.int .i64 xb, .int .i64 xc] ∧ W.rangeAt L 0 [.int .i64 yb, .int .i64 yc]) (by kernel_rfl) (⟨two_range (((RD.out.a.below).cell (p := ⟨b, o + k * 2, none⟩) (World.block_lt_of_cell? _ _ HD.out.1)).trans HD.out.1) (((RD.out.a.below).cell (p := ⟨b, o + k * 2 + 1, none⟩) (World.block_lt_of_cell? _ _ HD.out.2)).trans HD.out.2), RD.out.bx.range⟩) (fun hHeld => ?_)
      have R0 := RD
      clear RD RP
      generalize w7.drew = W0 at *
      refine takeL 0 (v := ?_) rfl (by kernel_rfl) (by kernel_rfl) (by kernel_rfl) (fun _ _ _ h => h) (Or.inl ⟨by rfl, ?_⟩) hHeld ?_
      rotate_left 1
      · (intro w hSw; go_simp; try with_reducible rfl)
      try simp only [Act.put, List.setIfInBounds_toArray, List.set_cons_zero, List.set_cons_succ]
      refine takeL 1 (v := ?_) rfl (by kernel_rfl) (by kernel_rfl) (by kernel_rfl) (fun _ _ _ h => h) (Or.inl ⟨by rfl, ?_⟩) hHeld ?_
      rotate_left 1
      · (intro w hSw; go_simp; try with_reducible rfl)
      try simp only [Act.put, List.setIfInBounds_toArray, List.set_cons_zero, List.set_cons_succ]
      refine takeL 2 (v := ?_) rfl (by kernel_rfl) (by kernel_rfl) (by kernel_rfl) (fun _ _ _ h => h) (Or.inl ⟨by rfl, ?_⟩) hHeld ?_
      rotate_left 1
      · (intro w hSw; go_simp; try with_reducible rfl)
      try simp only [Act.put, List.setIfInBounds_toArray, List.set_cons_zero, List.set_cons_succ]
      refine takeL 3 rfl (by kernel_rfl) (by kernel_rfl) (by kernel_rfl) (fun _ _ _ h => h) (yieldsIf_load_mid (by rfl) _ _ rfl _ _ rfl _ _ (fun w hSw => hSw.1) Try.underlying29 rfl (by kernel_rfl)) hHeld ?_
      try simp only [Act.put, List.setIfInBounds_toArray, List.set_cons_zero, List.set_cons_succ]
      refine stepL 4 (by kernel_rfl) rfl (fun K hK => ?_)
      go_simp
      refine (HRi.out W0).mono ?_
      rintro e W1 ⟨rfl, hb⟩
      show K _ _
      have R1 := Bx.mk (R0.out.later hb)
      clear hb R0
      refine hK.out _ _ (⟨two_range (((R1.out.a.below).cell (p := ⟨b, o + k * 2, none⟩) (World.block_lt_of_cell? _ _ HD.out.1)).trans HD.out.1) (((R1.out.a.below).cell (p := ⟨b, o + k * 2 + 1, none⟩) (World.block_lt_of_cell? _ _ HD.out.2)).trans HD.out.2), R1.out.bx.range⟩) (fun hHeld => ?_)
      clear hK K
      try simp only [Act.put, List.setIfInBounds_toArray, List.set_cons_zero, List.set_cons_succ]
      refine takeL 5 (v := ?_) rfl (by kernel_rfl) (by kernel_rfl) (by kernel_rfl) (fun _ _ _ h => h) (Or.inl ⟨by rfl, ?_⟩) hHeld ?_
      rotate_left 1
      · (intro w hSw; go_simp; try with_reducible rfl)
      try simp only [Act.put, List.setIfInBounds_toArray, List.set_cons_zero, List.set_cons_succ]
      refine takeL 6 rfl (by kernel_rfl) (by kernel_rfl) (by kernel_rfl) (fun _ _ _ h => h) (yieldsIf_load_mid (by rfl) _ _ rfl _ _ rfl _ _ (fun w hSw => hSw.2) Try.underlying29 rfl (by kernel_rfl)) hHeld ?_
      try simp only [Act.put, List.setIfInBounds_toArray, List.set_cons_zero, List.set_cons_succ]
      refine takeL 7 (v := ?_) rfl (by kernel_rfl) (by kernel_rfl) (by kernel_rfl) (fun _ _ _ h => h) (Or.inl ⟨by rfl, ?_⟩) hHeld ?_
      rotate_left 1
      · (intro w hSw; go_simp; try with_reducible rfl)
      try simp only [Act.put, List.setIfInBounds_toArray, List.set_cons_zero, List.set_cons_succ]
      refine takeL 8 (v := ?_) rfl (by kernel_rfl) (by kernel_rfl) (by kernel_rfl) (fun _ _ _ h => h) (Or.inl ⟨by rfl, ?_⟩) hHeld ?_
      rotate_left 1
      · (intro w hSw; go_simp; try with_reducible rfl)
      try simp only [Act.put, List.setIfInBounds_toArray, List.set_cons_zero, List.set_cons_succ]
      refine takeL 9 (v := ?_) rfl (by kernel_rfl) (by kernel_rfl) (by kernel_rfl) (fun _ _ _ h => h) (Or.inl ⟨by rfl, ?_⟩) hHeld ?_
      rotate_left 1
      · (intro w hSw; go_simp; try with_reducible rfl)
      try simp only [Act.put, List.setIfInBounds_toArray, List.set_cons_zero, List.set_cons_succ]
      refine takeL 10 rfl (by kernel_rfl) (by kernel_rfl) (by kernel_rfl) (fun _ _ _ h => h) (yieldsIf_load_mid (by rfl) _ _ rfl _ _ rfl _ _ (fun w hSw => hSw.1) Try.underlying29 rfl (by kernel_rfl)) hHeld ?_
      try simp only [Act.put, List.setIfInBounds_toArray, List.set_cons_zero, List.set_cons_succ]
      refine stepL 11 (by kernel_rfl) rfl (fun K hK => ?_)
      go_simp
      refine (HLs.out W1).mono ?_
      rintro e W2 ⟨rfl, hb⟩
      show K _ _
      have R2 := Bx.mk (R1.out.later hb)
      clear hb R1
      refine hK.out _ _ (⟨two_range (((R2.out.a.below).cell (p := ⟨b, o + k * 2, none⟩) (World.block_lt_of_cell? _ _ HD.out.1)).trans HD.out.1) (((R2.out.a.below).cell (p := ⟨b, o + k * 2 + 1, none⟩) (World.block_lt_of_cell? _ _ HD.out.2)).trans HD.out.2), R2.out.bx.range⟩) (fun hHeld => ?_)
      clear hK K
      try simp only [Act.put, List.setIfInBounds_toArray, List.set_cons_zero, List.set_cons_succ]
      refine takeL 12 (v := ?_) rfl (by kernel_rfl) (by kernel_rfl) (by kernel_rfl) (fun _ _ _ h => h) (Or.inl ⟨by rfl, ?_⟩) hHeld ?_
      rotate_left 1
      · (intro w hSw; go_simp; try with_reducible rfl)
      try simp only [Act.put, List.setIfInBounds_toArray, List.set_cons_zero, List.set_cons_succ]
      refine wpAnyH_done (by kernel_rfl) ?_ _
      refine NoPanic.normal ?_
      clear hHeld
      go_wp2
      exact ⟨⟨⟨rfl, rfl⟩, rfl, rfl, rfl, rfl⟩, by first | rfl | go_num, (.slice va vn vc), (takeW s1 ⟨xb, xc⟩), s2, (m ++ [⟨xb, xc⟩]), m2, ⟨yb, yc⟩, rfl, R2.out, HLn.out⟩
    | true =>
      rw [hle] at HLs
      have HLe := Bx.mk hle
      clear hle
      go_upto_region 15 with fail
      clear c0 c1
      have RD : Bx (BO w q1 q2 L (takeW s1 ⟨xb, xc⟩) s2 (.slice va vn vc) (m ++ [⟨xb, xc⟩]) m2 ⟨yb, yc⟩ w7.drew) := Bx.mk (RP.out.later (Below.refl _ _).drew)
      refine wp_region_noPanic ?_
      refine wp_region_held_drew (S := fun W => W.rangeAt b (o + k * 2) [.int .i64 xb, .int .i64 xc] ∧ W.rangeAt L 0 [.int .i64 yb, .int .i64 yc]) (by kernel_rfl) (⟨two_range (((RD.out.a.below).cell (p := ⟨b, o + k * 2, none⟩) (World.block_lt_of_cell? _ _ HD.out.1)).trans HD.out.1) (((RD.out.a.below).cell (p := ⟨b, o + k * 2 + 1, none⟩) (World.block_lt_of_cell? _ _ HD.out.2)).trans HD.out.2), RD.out.bx.range⟩) (fun hHeld => ?_)
      have R0 := RD
      clear RD RP
      generalize w7.drew = W0 at *
      refine takeL 0 (v := ?_) rfl (by kernel_rfl) (by kernel_rfl) (by kernel_rfl) (fun _ _ _ h => h) (Or.inl ⟨by rfl, ?_⟩) hHeld ?_
      rotate_left 1
      · (intro w hSw; go_simp; try with_reducible rfl)
      try simp only [Act.put, List.setIfInBounds_toArray, List.set_cons_zero, List.set_cons_succ]
      refine takeL 1 (v := ?_) rfl (by kernel_rfl) (by kernel_rfl) (by kernel_rfl) (fun _ _ _ h => h) (Or.inl ⟨by rfl, ?_⟩) hHeld ?_
      rotate_left 1
      · (intro w hSw; go_simp; try with_reducible rfl)
      try simp only [Act.put, List.setIfInBounds_toArray, List.set_cons_zero, List.set_cons_succ]
      refine takeL 2 (v := ?_) rfl (by kernel_rfl) (by kernel_rfl) (by kernel_rfl) (fun _ _ _ h => h) (Or.inl ⟨by rfl, ?_⟩) hHeld ?_
      rotate_left 1
      · (intro w hSw; go_simp; try with_reducible rfl)
      try simp only [Act.put, List.setIfInBounds_toArray, List.set_cons_zero, List.set_cons_succ]
      refine takeL 3 rfl (by kernel_rfl) (by kernel_rfl) (by kernel_rfl) (fun _ _ _ h => h) (yieldsIf_load_mid (by rfl) _ _ rfl _ _ rfl _ _ (fun w hSw => hSw.1) Try.underlying29 rfl (by kernel_rfl)) hHeld ?_
      try simp only [Act.put, List.setIfInBounds_toArray, List.set_cons_zero, List.set_cons_succ]
      refine stepL 4 (by kernel_rfl) rfl (fun K hK => ?_)
      go_simp
      refine (HRi.out W0).mono ?_
      rintro e W1 ⟨rfl, hb⟩
      show K _ _
      have R1 := Bx.mk (R0.out.later hb)
      clear hb R0
      refine hK.out _ _ (⟨two_range (((R1.out.a.below).cell (p := ⟨b, o + k * 2, none⟩) (World.block_lt_of_cell? _ _ HD.out.1)).trans HD.out.1) (((R1.out.a.below).cell (p := ⟨b, o + k * 2 + 1, none⟩) (World.block_lt_of_cell? _ _ HD.out.2)).trans HD.out.2), R1.out.bx.range⟩) (fun hHeld => ?_)
      clear hK K
      try simp only [Act.put, List.setIfInBounds_toArray, List.set_cons_zero, List.set_cons_succ]
      refine takeL 5 (v := ?_) rfl (by kernel_rfl) (by kernel_rfl) (by kernel_rfl) (fun _ _ _ h => h) (Or.inl ⟨by rfl, ?_⟩) hHeld ?_
      rotate_left 1
      · (intro w hSw; go_simp; try with_reducible rfl)
      try simp only [Act.put, List.setIfInBounds_toArray, List.set_cons_zero, List.set_cons_succ]
      refine takeL 6 rfl (by kernel_rfl) (by kernel_rfl) (by kernel_rfl) (fun _ _ _ h => h) (yieldsIf_load_mid (by rfl) _ _ rfl _ _ rfl _ _ (fun w hSw => hSw.2) Try.underlying29 rfl (by kernel_rfl)) hHeld ?_
      try simp only [Act.put, List.setIfInBounds_toArray, List.set_cons_zero, List.set_cons_succ]
      refine takeL 7 (v := ?_) rfl (by kernel_rfl) (by kernel_rfl) (by kernel_rfl) (fun _ _ _ h => h) (Or.inl ⟨by rfl, ?_⟩) hHeld ?_
      rotate_left 1
      · (intro w hSw; go_simp; try with_reducible rfl)
      try simp only [Act.put, List.setIfInBounds_toArray, List.set_cons_zero, List.set_cons_succ]
      refine takeL 8 (v := ?_) rfl (by kernel_rfl) (by kernel_rfl) (by kernel_rfl) (fun _ _ _ h => h) (Or.inl ⟨by rfl, ?_⟩) hHeld ?_
      rotate_left 1
      · (intro w hSw; go_simp; try with_reducible rfl)
      try simp only [Act.put, List.setIfInBounds_toArray, List.set_cons_zero, List.set_cons_succ]
      refine takeL 9 (v := ?_) rfl (by kernel_rfl) (by kernel_rfl) (by kernel_rfl) (fun _ _ _ h => h) (Or.inl ⟨by rfl, ?_⟩) hHeld ?_
      rotate_left 1
      · (intro w hSw; go_simp; try with_reducible rfl)
      try simp only [Act.put, List.setIfInBounds_toArray, List.set_cons_zero, List.set_cons_succ]
      refine takeL 10 rfl (by kernel_rfl) (by kernel_rfl) (by kernel_rfl) (fun _ _ _ h => h) (yieldsIf_load_mid (by rfl) _ _ rfl _ _ rfl _ _ (fun w hSw => hSw.1) Try.underlying29 rfl (by kernel_rfl)) hHeld ?_
      try simp only [Act.put, List.setIfInBounds_toArray, List.set_cons_zero, List.set_cons_succ]
      refine stepL 11 (by kernel_rfl) rfl (fun K hK => ?_)
      go_simp
      refine (HLs.out W1).mono ?_
      rintro e W2 ⟨rfl, hb⟩
      show K _ _
      have R2 := Bx.mk (R1.out.later hb)
      clear hb R1
      refine hK.out _ _ (⟨two_range (((R2.out.a.below).cell (p := ⟨b, o + k * 2, none⟩) (World.block_lt_of_cell? _ _ HD.out.1)).trans HD.out.1) (((R2.out.a.below).cell (p := ⟨b, o + k * 2 + 1, none⟩) (World.block_lt_of_cell? _ _ HD.out.2)).trans HD.out.2), R2.out.bx.range⟩) (fun hHeld => ?_)
      clear hK K
      try simp only [Act.put, List.setIfInBounds_toArray, List.set_cons_zero, List.set_cons_succ]
      refine takeL 12 (v := ?_) rfl (by kernel_rfl) (by kernel_rfl) (by kernel_rfl) (fun _ _ _ h => h) (Or.inl ⟨by rfl, ?_⟩) hHeld ?_
      rotate_left 1
      · (intro w hSw; go_simp; try with_reducible rfl)
      try simp only [Act.put, List.setIfInBounds_toArray, List.set_cons_zero, List.set_cons_succ]
      refine wpAnyH_done (by kernel_rfl) ?_ _
      refine NoPanic.normal ?_
      clear hHeld
      have c0 := (R2.out.a.below.cell (p := ⟨b, o + k * 2, none⟩) (World.block_lt_of_cell? _ _ HD.out.1)).trans HD.out.1
      have c1 := (R2.out.a.below.cell (p := ⟨b, o + k * 2 + 1, none⟩) (World.block_lt_of_cell? _ _ HD.out.2)).trans HD.out.2
      obtain ⟨l0, l1⟩ := R2.out.bx.cells
      have f0 := R2.out.bx.frozen 0
      have f1 := R2.out.bx.frozen 1
      go_upto_region 17 with fail
      have HX := Bx.mk (HNx.out _ _ _ _ R2.out HOk.out HLe.out)
      have HTz := HT2.out s2
      rw [HX.out.1] at HTz
      have HLy := HLa.out (takeW s2 ⟨xb, xc⟩)
      rw [HX.out.2.2.2] at HLy
      have HT2 := Bx.mk HTz
      have HLa := Bx.mk HLy
      clear HTz HLy l0 l1 f0 f1 c0 c1
      have HNE := Bx.mk (And.intro R2.out.n1 (And.intro (And.intro R2.out.n2 R2.out.ge) R2.out.n3))
      have HRA := Bx.mk R2.out.ra
      have RS : Bx (WP w q1 (takeW s1 ⟨xb, xc⟩) ((W2.setCell ⟨L, 0, none⟩ (.int .i64 xb)).setCell ⟨L, 1, none⟩ (.int .i64 xc)) ∧ WP w q2 s2 ((W2.setCell ⟨L, 0, none⟩ (.int .i64 xb)).setCell ⟨L, 1, none⟩ (.int .i64 xc)) ∧ BoxN 29 L ⟨xb, xc⟩ ((W2.setCell ⟨L, 0, none⟩ (.int .i64 xb)).setCell ⟨L, 1, none⟩ (.int .i64 xc)) ∧ OwnN 29 ((W2.setCell ⟨L, 0, none⟩ (.int .i64 xb)).setCell ⟨L, 1, none⟩ (.int .i64 xc)) (L + 1) (.slice va vn vc) (m ++ [⟨xb, xc⟩])) := Bx.mk (R2.out.set xb xc)
      generalize ((W2.setCell ⟨L, 0, none⟩ (.int .i64 xb)).setCell ⟨L, 1, none⟩ (.int .i64 xc)) = WS at *
      clear R2
      have RD : Bx (WP w q1 (takeW s1 ⟨xb, xc⟩) WS.drew ∧ WP w q2 s2 WS.drew ∧ BoxN 29 L ⟨xb, xc⟩ WS.drew ∧ OwnN 29 WS.drew (L + 1) (.slice va vn vc) (m ++ [⟨xb, xc⟩])) := Bx.mk ⟨RS.out.1.later (Below.refl _ _).drew, RS.out.2.1.later (Below.refl _ _).drew, RS.out.2.2.1.later (Below.refl _ _).drew, RS.out.2.2.2.later (Below.refl _ _).drew⟩
      refine wp_region_noPanic ?_
      refine wp_region_held_drew (S := fun W => W.rangeAt b (o + k * 2) [.int .i64 xb, .int .i64 xc]) (by kernel_rfl) ((two_range (((RD.out.1.below).cell (p := ⟨b, o + k * 2, none⟩) (World.block_lt_of_cell? _ _ HD.out.1)).trans HD.out.1) (((RD.out.1.below).cell (p := ⟨b, o + k * 2 + 1, none⟩) (World.block_lt_of_cell? _ _ HD.out.2)).trans HD.out.2))) (fun hHeld => ?_)
      have R0 := RD
      clear RD RS
      generalize WS.drew = W0 at *
      refine takeL 0 (v := ?_) rfl (by kernel_rfl) (by kernel_rfl) (by kernel_rfl) (fun _ _ _ h => h) (Or.inl ⟨by rfl, ?_⟩) hHeld ?_
      rotate_left 1
      · (intro w hSw; go_simp; try with_reducible rfl)
      try simp only [Act.put, List.setIfInBounds_toArray, List.set_cons_zero, List.set_cons_succ]
      refine takeL 1 (v := ?_) rfl (by kernel_rfl) (by kernel_rfl) (by kernel_rfl) (fun _ _ _ h => h) (Or.inl ⟨by rfl, ?_⟩) hHeld ?_
      rotate_left 1
      · (intro w hSw; go_simp; try with_reducible rfl)
      try simp only [Act.put, List.setIfInBounds_toArray, List.set_cons_zero, List.set_cons_succ]
      refine takeL 2 (v := ?_) rfl (by kernel_rfl) (by kernel_rfl) (by kernel_rfl) (fun _ _ _ h => h) (Or.inl ⟨by rfl, ?_⟩) hHeld ?_
      rotate_left 1
      · (intro w hSw; go_simp; try with_reducible rfl)
      try simp only [Act.put, List.setIfInBounds_toArray, List.set_cons_zero, List.set_cons_succ]
      refine takeL 3 rfl (by kernel_rfl) (by kernel_rfl) (by kernel_rfl) (fun _ _ _ h => h) (yieldsIf_load_mid (by rfl) _ _ rfl _ _ rfl _ _ (fun w hSw => hSw) Try.underlying29 rfl (by kernel_rfl)) hHeld ?_
      try simp only [Act.put, List.setIfInBounds_toArray, List.set_cons_zero, List.set_cons_succ]
      refine stepL 4 (by kernel_rfl) rfl (fun K hK => ?_)
      go_simp
      refine (HTo.out W0).mono ?_
      rintro e W1 ⟨rfl, hb⟩
      show K _ _
      have R1 : Bx (WP w q1 (takeW s1 ⟨xb, xc⟩) W1 ∧ WP w q2 s2 W1 ∧ BoxN 29 L ⟨xb, xc⟩ W1 ∧ OwnN 29 W1 (L + 1) (.slice va vn vc) (m ++ [⟨xb, xc⟩])) := Bx.mk ⟨R0.out.1.later hb, R0.out.2.1.later hb, R0.out.2.2.1.later hb, R0.out.2.2.2.later hb⟩
      clear hb R0
      refine hK.out _ _ ((two_range (((R1.out.1.below).cell (p := ⟨b, o + k * 2, none⟩) (World.block_lt_of_cell? _ _ HD.out.1)).trans HD.out.1) (((R1.out.1.below).cell (p := ⟨b, o + k * 2 + 1, none⟩) (World.block_lt_of_cell? _ _ HD.out.2)).trans HD.out.2))) (fun hHeld => ?_)
      clear hK K
      try simp only [Act.put, List.setIfInBounds_toArray, List.set_cons_zero, List.set_cons_succ]
      refine stepL 5 (by kernel_rfl) rfl (fun K hK => ?_)
      go_simp
      refine (HT2.out W1 R1.out.2.1).mono ?_
      rintro e W2 ⟨rfl, hw, hg⟩
      show K _ _
      have R2 : Bx (WP w q1 (takeW s1 ⟨xb, xc⟩) W2 ∧ WP w q2 (takeW s2 ⟨xb, xc⟩) W2 ∧ BoxN 29 L ⟨xb, xc⟩ W2 ∧ OwnN 29 W2 (L + 1) (.slice va vn vc) (m ++ [⟨xb, xc⟩])) := Bx.mk ⟨R1.out.1.aside hg R1.out.2.1.ge HNE.out.1, hw, R1.out.2.2.1.aside hg HNE.out.2.2, R1.out.2.2.2.aside (R1.out.2.1.win.kind kindRW2) hg⟩
      clear hw hg R1
      refine hK.out _ _ ((two_range (((R2.out.1.below).cell (p := ⟨b, o + k * 2, none⟩) (World.block_lt_of_cell? _ _ HD.out.1)).trans HD.out.1) (((R2.out.1.below).cell (p := ⟨b, o + k * 2 + 1, none⟩) (World.block_lt_of_cell? _ _ HD.out.2)).trans HD.out.2))) (fun hHeld => ?_)
      clear hK K
      try simp only [Act.put, List.setIfInBounds_toArray, List.set_cons_zero, List.set_cons_succ]
      refine takeL 6 (v := ?_) rfl (by kernel_rfl) (by kernel_rfl) (by kernel_rfl) (fun _ _ _ h => h) (Or.inl ⟨by rfl, ?_⟩) hHeld ?_
      rotate_left 1
      · (intro w hSw; go_simp; try with_reducible rfl)
      try simp only [Act.put, List.setIfInBounds_toArray, List.set_cons_zero, List.set_cons_succ]
      refine takeL 7 (v := ?_) rfl (by kernel_rfl) (by kernel_rfl) (by kernel_rfl) (fun _ _ _ h => h) (Or.inl ⟨by rfl, ?_⟩) hHeld ?_
      rotate_left 1
      · (intro w hSw; go_simp; try with_reducible rfl)
      try simp only [Act.put, List.setIfInBounds_toArray, List.set_cons_zero, List.set_cons_succ]
      refine takeL 9 (v := ?_) rfl (by kernel_rfl) (by kernel_rfl) (by kernel_rfl) (fun _ _ _ h => h) (Or.inl ⟨by rfl, ?_⟩) hHeld ?_
      rotate_left 1
      · (intro w hSw; go_simp; try with_reducible rfl)
      try simp only [Act.put, List.setIfInBounds_toArray, List.set_cons_zero, List.set_cons_succ]
      refine takeL 10 (v := ?_) rfl (by kernel_rfl) (by kernel_rfl) (by kernel_rfl) (fun _ _ _ h => h) (Or.inl ⟨by rfl, ?_⟩) hHeld ?_
      rotate_left 1
      · (intro w hSw; go_simp; try with_reducible rfl)
      try simp only [Act.put, List.setIfInBounds_toArray, List.set_cons_zero, List.set_cons_succ]
      refine takeL 11 (v := ?_) rfl (by kernel_rfl) (by kernel_rfl) (by kernel_rfl) (fun _ _ _ h => h) (Or.inl ⟨by rfl, ?_⟩) hHeld ?_
      rotate_left 1
      · (intro w hSw; go_simp; try with_reducible rfl)
      try simp only [Act.put, List.setIfInBounds_toArray, List.set_cons_zero, List.set_cons_succ]
      refine takeL 12 rfl (by kernel_rfl) (by kernel_rfl) (by kernel_rfl) (fun _ _ _ h => h) (yieldsIf_load_mid (by rfl) _ _ rfl _ _ rfl _ _ (fun w hSw => hSw) Try.underlying29 rfl (by kernel_rfl)) hHeld ?_
      try simp only [Act.put, List.setIfInBounds_toArray, List.set_cons_zero, List.set_cons_succ]
      refine stepL 8 (by kernel_rfl) rfl (fun K hK => ?_)
      go_simp
      refine (HLa.out W2 R2.out.2.1).mono ?_
      rintro e W3 ⟨rfl, hb⟩
      show K _ _
      have R3 : Bx (WP w q1 (takeW s1 ⟨xb, xc⟩) W3 ∧ WP w q2 (takeW s2 ⟨xb, xc⟩) W3 ∧ BoxN 29 L ⟨xb, xc⟩ W3 ∧ OwnN 29 W3 (L + 1) (.slice va vn vc) (m ++ [⟨xb, xc⟩])) := Bx.mk ⟨R2.out.1.later hb, R2.out.2.1.later hb, R2.out.2.2.1.later hb, R2.out.2.2.2.later hb⟩
      clear hb R2
      refine hK.out _ _ ((two_range (((R3.out.1.below).cell (p := ⟨b, o + k * 2, none⟩) (World.block_lt_of_cell? _ _ HD.out.1)).trans HD.out.1) (((R3.out.1.below).cell (p := ⟨b, o + k * 2 + 1, none⟩) (World.block_lt_of_cell? _ _ HD.out.2)).trans HD.out.2))) (fun hHeld => ?_)
      clear hK K
      try simp only [Act.put, List.setIfInBounds_toArray, List.set_cons_zero, List.set_cons_succ]
      refine stepL 13 (by kernel_rfl) rfl (fun K hK => ?_)
      go_simp
      refine (HTo.out W3).mono ?_
      rintro e W4 ⟨rfl, hb⟩
      show K _ _
      have R4 : Bx (WP w q1 (takeW s1 ⟨xb, xc⟩) W4 ∧ WP w q2 (takeW s2 ⟨xb, xc⟩) W4 ∧ BoxN 29 L ⟨xb, xc⟩ W4 ∧ OwnN 29 W4 (L + 1) (.slice va vn vc) (m ++ [⟨xb, xc⟩])) := Bx.mk ⟨R3.out.1.later hb, R3.out.2.1.later hb, R3.out.2.2.1.later hb, R3.out.2.2.2.later hb⟩
      clear hb R3
      refine hK.out _ _ ((two_range (((R4.out.1.below).cell (p := ⟨b, o + k * 2, none⟩) (World.block_lt_of_cell? _ _ HD.out.1)).trans HD.out.1) (((R4.out.1.below).cell (p := ⟨b, o + k * 2 + 1, none⟩) (World.block_lt_of_cell? _ _ HD.out.2)).trans HD.out.2))) (fun hHeld => ?_)
      clear hK K
      try simp only [Act.put, List.setIfInBounds_toArray, List.set_cons_zero, List.set_cons_succ]
      refine takeL 14 (v := ?_) rfl (by kernel_rfl) (by kernel_rfl) (by kernel_rfl) (fun _ _ _ h => h) (Or.inl ⟨by rfl, ?_⟩) hHeld ?_
      rotate_left 1
      · (intro w hSw; go_simp; try with_reducible rfl)
      try simp only [Act.put, List.setIfInBounds_toArray, List.set_cons_zero, List.set_cons_succ]
      refine takeL 15 (v := ?_) rfl (by kernel_rfl) (by kernel_rfl) (by kernel_rfl) (fun _ _ _ h => h) (Or.inl ⟨by rfl, ?_⟩) hHeld ?_
      rotate_left 1
      · (intro w hSw; go_simp; try with_reducible rfl)
      try simp only [Act.put, List.setIfInBounds_toArray, List.set_cons_zero, List.set_cons_succ]
      refine wpAnyH_done (by kernel_rfl) ?_ _
      refine NoPanic.normal ?_
      clear hHeld
      go_wp2
      exact ⟨⟨⟨rfl, rfl⟩, rfl, rfl, rfl, rfl⟩, by first | rfl | go_num, (.slice va vn vc), (takeW s1 ⟨xb, xc⟩), takeW s2 ⟨xb, xc⟩, (m ++ [⟨xb, xc⟩]), m2 ++ [⟨xb, xc⟩], ⟨xb, xc⟩, rfl, ⟨R4.out.1, R4.out.2.1, R4.out.2.2.1, R4.out.2.2.2, HNE.out.2.1.2, HNE.out.1, HNE.out.2.1.1, HNE.out.2.2, HRA.out, HX.out.2.1, HX.out.2.2.1⟩, HLn.out⟩
set_option maxRecDepth 100000 in
set_option maxHeartbeats 4000000 in
theorem roundO_no (w : World) (l : List Nn) (q1 q2 L : Nat) (v0 : Value) (hv : NnsF w v0 l) (hn : l.length ≤ 9223372036854775807)
    (Q : Exit → Act → World → Prop) (k : Nat) (a : Act) (wr : World) (hk : k < l.length) (hk6 : k < 60) (hf : FOo v0 q1 q2 L a) (s7 : a.eval (.tmp 7) = .int .i64 (k : Int)) (vt : Value) (s1 s2 : Ws) (m m2 : List Nn) (yl : Nn) (s5 : a.eval (.tmp 5) = vt) (hB : BO w q1 q2 L s1 s2 vt m m2 yl wr) (hm : m.length ≤ k) (hz : lookW s1 (l.getD k Nn.zero) ≠ 0) :
    Code.wp Try.prog (loopAt (Try.f4.body) 0) (Exit.then (fun a' w' => IOo w q1 q2 L v0 (k + 1) a' w') Q) a wr := by
  obtain ⟨b, o, cap, rfl⟩ := hv.1.start (by omega)
  have HD := Bx.mk (hv.1.cells k hk)
  obtain ⟨na, hna⟩ : ∃ na, l.length = na := ⟨_, rfl⟩
  rw [hna] at hk hn hf ⊢
  generalize l.getD k Nn.zero = x at *
  have hm60 : m.length ≤ 1000 := by omega
  have HTo := Bx.mk fun (W : World) => to12_any x W
  have HTk := Bx.mk fun (W : World) (h : BO w q1 q2 L s1 s2 vt m m2 yl W) => h.a.take x
  have HT2 := Bx.mk fun (s : Ws) (W : World) (h : WP w q2 s W) => h.take x
  have HRi := Bx.mk fun (W : World) => rright12_any x W
  have HLs := Bx.mk fun (W : World) => rless_any yl x W
  have HLa := Bx.mk fun (s : Ws) (W : World) (h : WP w q2 s W) => latest_any q2 s W h.win
  have hrel := hB.ra.look x
  have HKp : Bx (takeW s1 x = s1) := Bx.mk (hB.ra.keep hz)
  obtain ⟨z, hzz⟩ : ∃ z, lookW s1 x = z := ⟨_, rfl⟩
  rw [hzz] at HTk hz
  have HIn : Bx (z = 0 → x ∉ m) := Bx.mk fun h => absurd h hz
  have HLn : Bx (m.length ≤ k + 1) := Bx.mk (by omega)
  clear hrel hzz
  have HNx := Bx.mk fun (W : World) (vt : Value) (s1 : Ws) (m : List Nn) (h : BO w q1 q2 L s1 s2 vt m m2 yl W) => h.next (x := x)
  have HL10 := Bx.mk hm60
  have HLo := Bx.mk fun (wf : World) (v3 v4 v6 : Value) (h : NnsR wf vt m) (c0 : wf.cell? ⟨b, o + k * 2, none⟩ = some (.int .i64 x.b)) (c1 : wf.cell? ⟨b, o + k * 2 + 1, none⟩ = some (.int .i64 x.c)) (Q : Exit → Act → World → Prop) (a : Act) (wr : World) => loopJn wf v3 v4 vt v6 b o na cap k z x m h hm60 c0 c1 hk hk6 HIn.out Q a wr
  have R0 := Bx.mk hB
  have HK := Bx.mk hk6
  have k1 : (k : Int) < 60 := by omega
  have k2 : (k : Int) < (na : Int) := by omega
  have k0 : (0 : Int) ≤ (k : Int) := by omega
  have m1 : (na : Int) ≤ 9223372036854775807 := by omega
  have hwk : IntKind.i64.wrap ((k : Int) + 1) = (k : Int) + 1 := by simp [IntKind.wrap_i64]; omega
  obtain ⟨ma, mc, hvm, -, -⟩ := hB.own.form
  obtain ⟨mn, hmn⟩ : ∃ mn, m.length = mn := ⟨_, rfl⟩
  rw [hmn] at hvm
  subst hvm
  obtain ⟨y, rfl, hy⟩ := open89 hf.fr
  have e0 := (hy 0).symm.trans hf.s0
  have e3 := (hy 3).symm.trans hf.s3
  have e4 := (hy 4).symm.trans hf.s4
  have e5 := (hy 5).symm.trans s5
  have e6 := (hy 6).symm.trans hf.s6
  have e7 := (hy 7).symm.trans s7
  clear hf hy s5 s7 hk hk6 hn hna hB hm hm60 hv hmn
  rw [e0, e3, e4, e5, e6, e7]
  clear e0 e3 e4 e5 e6 e7
  have c0 := (R0.out.a.below.cell (p := ⟨b, o + k * 2, none⟩) (World.block_lt_of_cell? _ _ HD.out.1)).trans HD.out.1
  have c1 := (R0.out.a.below.cell (p := ⟨b, o + k * 2 + 1, none⟩) (World.block_lt_of_cell? _ _ HD.out.2)).trans HD.out.2
  conv => arg 2; whnf
  obtain ⟨xb, xc⟩ := x
  obtain ⟨yb, yc⟩ := yl
  unfold nv at HTo HTk HT2 HRi HLs HLa
  simp only at HLo HD c0 c1
  go_wp2_with fail
  refine (HTo.out _).mono ?_
  rintro e w1 ⟨rfl, hb⟩
  have R1 := Bx.mk (R0.out.later hb)
  clear hb R0 c0 c1
  have c0 := (R1.out.a.below.cell (p := ⟨b, o + k * 2, none⟩) (World.block_lt_of_cell? _ _ HD.out.1)).trans HD.out.1
  have c1 := (R1.out.a.below.cell (p := ⟨b, o + k * 2 + 1, none⟩) (World.block_lt_of_cell? _ _ HD.out.2)).trans HD.out.2
  go_wp2_with fail
  refine (HTk.out _ R1.out).mono ?_
  rintro e w2 ⟨rfl, hw, hg⟩
  rw [HKp.out] at hw
  have RM : Bx (BM w q1 q2 L s1 s2 (.slice ma mn mc) m m2 ⟨yb, yc⟩ w2) := Bx.mk (R1.out.takeA hw hg)
  have HRa := Bx.mk R1.out.ra
  clear hw hg R1 c0 c1
  have c0 := (RM.out.a.below.cell (p := ⟨b, o + k * 2, none⟩) (World.block_lt_of_cell? _ _ HD.out.1)).trans HD.out.1
  have c1 := (RM.out.a.below.cell (p := ⟨b, o + k * 2 + 1, none⟩) (World.block_lt_of_cell? _ _ HD.out.2)).trans HD.out.2
  go_wp2
  skip -- M1
  refine HLo.out w2 _ _ _ RM.out.own.reads c0 c1 _ _ _ ⟨⟨⟨rfl, rfl⟩, rfl, rfl, rfl, rfl, rfl, rfl, rfl⟩, rfl, Below.refl _ _⟩ ?_
  intro a6 w6 hf hb
  obtain ⟨y, rfl, hx⟩ := open89 hf.fr
  have e0 := (hx 0).symm.trans hf.s0
  have e3 := (hx 3).symm.trans hf.s3
  have e4 := (hx 4).symm.trans hf.s4
  have e5 := (hx 5).symm.trans hf.s5
  have e6 := (hx 6).symm.trans hf.s6
  have e7 := (hx 7).symm.trans hf.s7
  have e8 := (hx 8).symm.trans hf.s8
  have RI := Bx.mk (RM.out.later hb)
  clear hf hx hb RM c0 c1 HLo HIn
  rw [e0, e3, e4, e5, e6, e7, e8]
  clear e0 e3 e4 e5 e6 e7 e8
  have c0 := (RI.out.a.below.cell (p := ⟨b, o + k * 2, none⟩) (World.block_lt_of_cell? _ _ HD.out.1)).trans HD.out.1
  have c1 := (RI.out.a.below.cell (p := ⟨b, o + k * 2 + 1, none⟩) (World.block_lt_of_cell? _ _ HD.out.2)).trans HD.out.2
  have RP := Bx.mk (RI.out.keep HRa.out)
  clear RI
  cases hok : okN ⟨xb, xc⟩ with
  | false =>
    rw [hok] at HRi
    clear hok
    go_upto_region 15 with fail
    clear c0 c1
    have RD : Bx (BO w q1 q2 L s1 s2 (.slice ma mn mc) m m2 ⟨yb, yc⟩ w6.drew) := Bx.mk (RP.out.later (Below.refl _ _).drew)
    refine wp_region_noPanic ?_
    refine wp_region_held_drew (S := fun W => W.rangeAt b (o + k * 2) [.int .i64 xb, .int .i64 xc] ∧ W.rangeAt L 0 [.int .i64 yb, .int .i64 yc]) (by kernel_rfl) (⟨two_range (((RD.out.a.below).cell (p := ⟨b, o + k * 2, none⟩) (World.block_lt_of_cell? _ _ HD.out.1)).trans HD.out.1) (((RD.out.a.below).cell (p := ⟨b, o + k * 2 + 1, none⟩) (World.block_lt_of_cell? _ _ HD.out.2)).trans HD.out.2), RD.out.bx.range⟩) (fun hHeld => ?_)
    have R0 := RD
    clear RD RP
    generalize w6.drew = W0 at *
    refine takeL 0 (v := ?_) rfl (by kernel_rfl) (by kernel_rfl) (by kernel_rfl) (fun _ _ _ h => h) (Or.inl ⟨by rfl, ?_⟩) hHeld ?_
    rotate_left 1
    · (intro w hSw; go_simp; try with_reducible rfl)
    try simp only [Act.put, List.setIfInBounds_toArray, List.set_cons_zero, List.set_cons_succ]
    refine takeL 1 (v := ?_) rfl (by kernel_rfl) (by kernel_rfl) (by kernel_rfl) (fun _ _ _ h => h) (Or.inl ⟨by rfl, ?_⟩) hHeld ?_
    rotate_left 1
    · (intro w hSw; go_simp; try with_reducible rfl)
    try simp only [Act.put, List.setIfInBounds_toArray, List.set_cons_zero, List.set_cons_succ]
    refine takeL 2 (v := ?_) rfl (by kernel_rfl) (by kernel_rfl) (by kernel_rfl) (fun _ _ _ h => h) (Or.inl ⟨by rfl, ?_⟩) hHeld ?_
    rotate_left 1
    · (intro w hSw; go_simp; try with_reducible rfl)
    try simp only [Act.put, List.setIfInBounds_toArray, List.set_cons_zero, List.set_cons_succ]
    refine takeL 3 rfl (by kernel_rfl) (by kernel_rfl) (by kernel_rfl) (fun _ _ _ h => h) (yieldsIf_load_mid (by rfl) _ _ rfl _ _ rfl _ _ (fun w hSw => hSw.1) Try.underlying29 rfl (by kernel_rfl)) hHeld ?_
    try simp only [Act.put, List.setIfInBounds_toArray, List.set_cons_zero, List.set_cons_succ]
    refine stepL 4 (by kernel_rfl) rfl (fun K hK => ?_)
    go_simp
    refine (HRi.out W0).mono ?_
    rintro e W1 ⟨rfl, hb⟩
    show K _ _
    have R1 := Bx.mk (R0.out.later hb)
    clear hb R0
    refine hK.out _ _ (⟨two_range (((R1.out.a.below).cell (p := ⟨b, o + k * 2, none⟩) (World.block_lt_of_cell? _ _ HD.out.1)).trans HD.out.1) (((R1.out.a.below).cell (p := ⟨b, o + k * 2 + 1, none⟩) (World.block_lt_of_cell? _ _ HD.out.2)).trans HD.out.2), R1.out.bx.range⟩) (fun hHeld => ?_)
    clear hK K
    try simp only [Act.put, List.setIfInBounds_toArray, List.set_cons_zero, List.set_cons_succ]
    refine takeL 5 (v := ?_) rfl (by kernel_rfl) (by kernel_rfl) (by kernel_rfl) (fun _ _ _ h => h) (Or.inl ⟨by rfl, ?_⟩) hHeld ?_
    rotate_left 1
    · (intro w hSw; go_simp; try with_reducible rfl)
    try simp only [Act.put, List.setIfInBounds_toArray, List.set_cons_zero, List.set_cons_succ]
    refine takeL 6 (v := undef) rfl (by kernel_rfl) (by kernel_rfl) (by kernel_rfl) (fun _ _ _ h => h) (Or.inr ⟨by rfl, rfl⟩) hHeld ?_
    try simp only [Act.put, List.setIfInBounds_toArray, List.set_cons_zero, List.set_cons_succ]
    refine takeL 7 (v := undef) rfl (by kernel_rfl) (by kernel_rfl) (by kernel_rfl) (fun _ _ _ h => h) (Or.inr ⟨by rfl, rfl⟩) hHeld ?_
    try simp only [Act.put, List.setIfInBounds_toArray, List.set_cons_zero, List.set_cons_succ]
    refine takeL 8 (v := undef) rfl (by kernel_rfl) (by kernel_rfl) (by kernel_rfl) (fun _ _ _ h => h) (Or.inr ⟨by rfl, rfl⟩) hHeld ?_
    try simp only [Act.put, List.setIfInBounds_toArray, List.set_cons_zero, List.set_cons_succ]
    refine takeL 9 (v := undef) rfl (by kernel_rfl) (by kernel_rfl) (by kernel_rfl) (fun _ _ _ h => h) (Or.inr ⟨by rfl, rfl⟩) hHeld ?_
    try simp only [Act.put, List.setIfInBounds_toArray, List.set_cons_zero, List.set_cons_succ]
    refine takeL 10 (v := undef) rfl (by kernel_rfl) (by kernel_rfl) (by kernel_rfl) (fun _ _ _ h => h) (Or.inr ⟨by rfl, rfl⟩) hHeld ?_
    try simp only [Act.put, List.setIfInBounds_toArray, List.set_cons_zero, List.set_cons_succ]
    refine takeL 11 (v := undef) rfl (by kernel_rfl) (by kernel_rfl) (by kernel_rfl) (fun _ _ _ h => h) (Or.inr ⟨by rfl, rfl⟩) hHeld ?_
    try simp only [Act.put, List.setIfInBounds_toArray, List.set_cons_zero, List.set_cons_succ]
    refine takeL 12 (v := ?_) rfl (by kernel_rfl) (by kernel_rfl) (by kernel_rfl) (fun _ _ _ h => h) (Or.inl ⟨by rfl, ?_⟩) hHeld ?_
    rotate_left 1
    · (intro w hSw; go_simp; try with_reducible rfl)
    try simp only [Act.put, List.setIfInBounds_toArray, List.set_cons_zero, List.set_cons_succ]
    refine wpAnyH_done (by kernel_rfl) ?_ _
    refine NoPanic.normal ?_
    clear hHeld
    go_wp2
    exact ⟨⟨⟨rfl, rfl⟩, rfl, rfl, rfl, rfl⟩, by first | rfl | go_num, (.slice ma mn mc), s1, s2, m, m2, ⟨yb, yc⟩, rfl, R1.out, HLn.out⟩
  | true =>
    rw [hok] at HRi
    have HOk := Bx.mk hok
    clear hok
    cases hle : lessN ⟨yb, yc⟩ ⟨xb, xc⟩ with
    | false =>
      rw [hle] at HLs
      clear hle
      go_upto_region 15 with fail
      clear c0 c1
      have RD : Bx (BO w q1 q2 L s1 s2 (.slice ma mn mc) m m2 ⟨yb, yc⟩ w6.drew) := Bx.mk (RP.out.later (Below.refl _ _).drew)
      refine wp_region_noPanic ?_
      refine wp_region_held_drew (S := fun W => W.rangeAt b (o + k * 2) [.int .i64 xb, .int .i64 xc] ∧ W.rangeAt L 0 [.int .i64 yb, .int .i64 yc]) (by kernel_rfl) (⟨two_range (((RD.out.a.below).cell (p := ⟨b, o + k * 2, none⟩) (World.block_lt_of_cell? _ _ HD.out.1)).trans HD.out.1) (((RD.out.a.below).cell (p := ⟨b, o + k * 2 + 1, none⟩) (World.block_lt_of_cell? _ _ HD.out.2)).trans HD.out.2), RD.out.bx.range⟩) (fun hHeld => ?_)
      have R0 := RD
      clear RD RP
      generalize w6.drew = W0 at *
      refine takeL 0 (v := ?_) rfl (by kernel_rfl) (by kernel_rfl) (by kernel_rfl) (fun _ _ _ h => h) (Or.inl ⟨by rfl, ?_⟩) hHeld ?_
      rotate_left 1
      · (intro w hSw; go_simp; try with_reducible rfl)
      try simp only [Act.put, List.setIfInBounds_toArray, List.set_cons_zero, List.set_cons_succ]
      refine takeL 1 (v := ?_) rfl (by kernel_rfl) (by kernel_rfl) (by kernel_rfl) (fun _ _ _ h => h) (Or.inl ⟨by rfl, ?_⟩) hHeld ?_
      rotate_left 1
      · (intro w hSw; go_simp; try with_reducible rfl)
      try simp only [Act.put, List.setIfInBounds_toArray, List.set_cons_zero, List.set_cons_succ]
      refine takeL 2 (v := ?_) rfl (by kernel_rfl) (by kernel_rfl) (by kernel_rfl) (fun _ _ _ h => h) (Or.inl ⟨by rfl, ?_⟩) hHeld ?_
      rotate_left 1
      · (intro w hSw; go_simp; try with_reducible rfl)
      try simp only [Act.put, List.setIfInBounds_toArray, List.set_cons_zero, List.set_cons_succ]
      refine takeL 3 rfl (by kernel_rfl) (by kernel_rfl) (by kernel_rfl) (fun _ _ _ h => h) (yieldsIf_load_mid (by rfl) _ _ rfl _ _ rfl _ _ (fun w hSw => hSw.1) Try.underlying29 rfl (by kernel_rfl)) hHeld ?_
      try simp only [Act.put, List.setIfInBounds_toArray, List.set_cons_zero, List.set_cons_succ]
      refine stepL 4 (by kernel_rfl) rfl (fun K hK => ?_)
      go_simp
      refine (HRi.out W0).mono ?_
      rintro e W1 ⟨rfl, hb⟩
      show K _ _
      have R1 := Bx.mk (R0.out.later hb)
      clear hb R0
      refine hK.out _ _ (⟨two_range (((R1.out.a.below).cell (p := ⟨b, o + k * 2, none⟩) (World.block_lt_of_cell? _ _ HD.out.1)).trans HD.out.1) (((R1.out.a.below).cell (p := ⟨b, o + k * 2 + 1, none⟩) (World.block_lt_of_cell? _ _ HD.out.2)).trans HD.out.2), R1.out.bx.range⟩) (fun hHeld => ?_)
      clear hK K
      try simp only [Act.put, List.setIfInBounds_toArray, List.set_cons_zero, List.set_cons_succ]
      refine takeL 5 (v := ?_) rfl (by kernel_rfl) (by kernel_rfl) (by kernel_rfl) (fun _ _ _ h => h) (Or.inl ⟨by rfl, ?_⟩) hHeld ?_
      rotate_left 1
      · (intro w hSw; go_simp; try with_reducible rfl)
      try simp only [Act.put, List.setIfInBounds_toArray, List.set_cons_zero, List.set_cons_succ]
      refine takeL 6 rfl (by kernel_rfl) (by kernel_rfl) (by kernel_rfl) (fun _ _ _ h => h) (yieldsIf_load_mid (by rfl) _ _ rfl _ _ rfl _ _ (fun w hSw => hSw.2) Try.underlying29 rfl (by kernel_rfl)) hHeld ?_
      try simp only [Act.put, List.setIfInBounds_toArray, List.set_cons_zero, List.set_cons_succ]
      refine takeL 7 (v := ?_) rfl (by kernel_rfl) (by kernel_rfl) (by kernel_rfl) (fun _ _ _ h => h) (Or.inl ⟨by rfl, ?_⟩) hHeld ?_
      rotate_left 1
      · (intro w hSw; go_simp; try with_reducible rfl)
      try simp only [Act.put, List.setIfInBounds_toArray, List.set_cons_zero, List.set_cons_succ]
      refine takeL 8 (v := ?_) rfl (by kernel_rfl) (by kernel_rfl) (by kernel_rfl) (fun _ _ _ h => h) (Or.inl ⟨by rfl, ?_⟩) hHeld ?_
      rotate_left 1
      · (intro w hSw; go_simp; try with_reducible rfl)
      try simp only [Act.put, List.setIfInBounds_toArray, List.set_cons_zero, List.set_cons_succ]
      refine takeL 9 (v := ?_) rfl (by kernel_rfl) (by kernel_rfl) (by kernel_rfl) (fun _ _ _ h => h) (Or.inl ⟨by rfl, ?_⟩) hHeld ?_
      rotate_left 1
      · (intro w hSw; go_simp; try with_reducible rfl)
      try simp only [Act.put, List.setIfInBounds_toArray, List.set_cons_zero, List.set_cons_succ]
      refine takeL 10 rfl (by kernel_rfl) (by kernel_rfl) (by kernel_rfl) (fun _ _ _ h => h) (yieldsIf_load_mid (by rfl) _ _ rfl _ _ rfl _ _ (fun w hSw => hSw.1) Try.underlying29 rfl (by kernel_rfl)) hHeld ?_
      try simp only [Act.put, List.setIfInBounds_toArray, List.set_cons_zero, List.set_cons_succ]
      refine stepL 11 (by kernel_rfl) rfl (fun K hK => ?_)
      go_simp
      refine (HLs.out W1).mono ?_
      rintro e W2 ⟨rfl, hb⟩
      show K _ _
      have R2 := Bx.mk (R1.out.later hb)
      clear hb R1
      refine hK.out _ _ (⟨two_range (((R2.out.a.below).cell (p := ⟨b, o + k * 2, none⟩) (World.block_lt_of_cell? _ _ HD.out.1)).trans HD.out.1) (((R2.out.a.below).cell (p := ⟨b, o + k * 2 + 1, none⟩) (World.block_lt_of_cell? _ _ HD.out.2)).trans HD.out.2), R2.out.bx.range⟩) (fun hHeld => ?_)
      clear hK K
      try simp only [Act.put, List.setIfInBounds_toArray, List.set_cons_zero, List.set_cons_succ]
      refine takeL 12 (v := ?_) rfl (by kernel_rfl) (by kernel_rfl) (by kernel_rfl) (fun _ _ _ h => h) (Or.inl ⟨by rfl, ?_⟩) hHeld ?_
      rotate_left 1
      · (intro w hSw; go_simp; try with_reducible rfl)
      try simp only [Act.put, List.setIfInBounds_toArray, List.set_cons_zero, List.set_cons_succ]
      refine wpAnyH_done (by kernel_rfl) ?_ _
      refine NoPanic.normal ?_
      clear hHeld
      go_wp2
      exact ⟨⟨⟨rfl, rfl⟩, rfl, rfl, rfl, rfl⟩, by first | rfl | go_num, (.slice ma mn mc), s1, s2, m, m2, ⟨yb, yc⟩, rfl, R2.out, HLn.out⟩
    | true =>
      rw [hle] at HLs
      have HLe := Bx.mk hle
      clear hle
      go_upto_region 15 with fail
      clear c0 c1
      have RD : Bx (BO w q1 q2 L s1 s2 (.slice ma mn mc) m m2 ⟨yb, yc⟩ w6.drew) := Bx.mk (RP.out.later (Below.refl _ _).drew)
      refine wp_region_noPanic ?_
      refine wp_region_held_drew (S := fun W => W.rangeAt b (o + k * 2) [.int .i64 xb, .int .i64 xc] ∧ W.rangeAt L 0 [.int .i64 yb, .int .i64 yc]) (by kernel_rfl) (⟨two_range (((RD.out.a.below).cell (p := ⟨b, o + k * 2, none⟩) (World.block_lt_of_cell? _ _ HD.out.1)).trans HD.out.1) (((RD.out.a.below).cell (p := ⟨b, o + k * 2 + 1, none⟩) (World.block_lt_of_cell? _ _ HD.out.2)).trans HD.out.2), RD.out.bx.range⟩) (fun hHeld => ?_)
      have R0 := RD
      clear RD RP
      generalize w6.drew = W0 at *
      refine takeL 0 (v := ?_) rfl (by kernel_rfl) (by kernel_rfl) (by kernel_rfl) (fun _ _ _ h => h) (Or.inl ⟨by rfl, ?_⟩) hHeld ?_
      rotate_left 1
      · (intro w hSw; go_simp; try with_reducible rfl)
      try simp only [Act.put, List.setIfInBounds_toArray, List.set_cons_zero, List.set_cons_succ]
      refine takeL 1 (v := ?_) rfl (by kernel_rfl) (by kernel_rfl) (by kernel_rfl) (fun _ _ _ h => h) (Or.inl ⟨by rfl, ?_⟩) hHeld ?_
      rotate_left 1
      · (intro w hSw; go_simp; try with_reducible rfl)
      try simp only [Act.put, List.setIfInBounds_toArray, List.set_cons_zero, List.set_cons_succ]
      refine takeL 2 (v := ?_) rfl (by kernel_rfl) (by kernel_rfl) (by kernel_rfl) (fun _ _ _ h => h) (Or.inl ⟨by rfl, ?_⟩) hHeld ?_
      rotate_left 1
      · (intro w hSw; go_simp; try with_reducible rfl)
      try simp only [Act.put, List.setIfInBounds_toArray, List.set_cons_zero, List.set_cons_succ]
      refine takeL 3 rfl (by kernel_rfl) (by kernel_rfl) (by kernel_rfl) (fun _ _ _ h => h) (yieldsIf_load_mid (by rfl) _ _ rfl _ _ rfl _ _ (fun w hSw => hSw.1) Try.underlying29 rfl (by kernel_rfl)) hHeld ?_
      try simp only [Act.put, List.setIfInBounds_toArray, List.set_cons_zero, List.set_cons_succ]
      refine stepL 4 (by kernel_rfl) rfl (fun K hK => ?_)
      go_simp
      refine (HRi.out W0).mono ?_
      rintro e W1 ⟨rfl, hb⟩
      show K _ _
      have R1 := Bx.mk (R0.out.later hb)
      clear hb R0
      refine hK.out _ _ (⟨two_range (((R1.out.a.below).cell (p := ⟨b, o + k * 2, none⟩) (World.block_lt_of_cell? _ _ HD.out.1)).trans HD.out.1) (((R1.out.a.below).cell (p := ⟨b, o + k * 2 + 1, none⟩) (World.block_lt_of_cell? _ _ HD.out.2)).trans HD.out.2), R1.out.bx.range⟩) (fun hHeld => ?_)
      clear hK K
      try simp only [Act.put, List.setIfInBounds_toArray, List.set_cons_zero, List.set_cons_succ]
      refine takeL 5 (v := ?_) rfl (by kernel_rfl) (by kernel_rfl) (by kernel_rfl) (fun _ _ _ h => h) (Or.inl ⟨by rfl, ?_⟩) hHeld ?_
      rotate_left 1
      · (intro w hSw; go_simp; try with_reducible rfl)
      try simp only [Act.put, List.setIfInBounds_toArray, List.set_cons_zero, List.set_cons_succ]
      refine takeL 6 rfl (by kernel_rfl) (by kernel_rfl) (by kernel_rfl) (fun _ _ _ h => h) (yieldsIf_load_mid (by rfl) _ _ rfl _ _ rfl _ _ (fun w hSw => hSw.2) Try.underlying29 rfl (by kernel_rfl)) hHeld ?_
      try simp only [Act.put, List.setIfInBounds_toArray, List.set_cons_zero, List.set_cons_succ]
      refine takeL 7 (v := ?_) rfl (by kernel_rfl) (by kernel_rfl) (by kernel_rfl) (fun _ _ _ h => h) (Or.inl ⟨by rfl, ?_⟩) hHeld ?_
      rotate_left 1
      · (intro w hSw; go_simp; try with_reducible rfl)
      try simp only [Act.put, List.setIfInBounds_toArray, List.set_cons_zero, List.set_cons_succ]
      refine takeL 8 (v := ?_) rfl (by kernel_rfl) (by kernel_rfl) (by kernel_rfl) (fun _ _ _ h => h) (Or.inl ⟨by rfl, ?_⟩) hHeld ?_
      rotate_left 1
      · (intro w hSw; go_simp; try with_reducible rfl)
      try simp only [Act.put, List.setIfInBounds_toArray, List.set_cons_zero, List.set_cons_succ]
      refine takeL 9 (v := ?_) rfl (by kernel_rfl) (by kernel_rfl) (by kernel_rfl) (fun _ _ _ h => h) (Or.inl ⟨by rfl, ?_⟩) hHeld ?_
      rotate_left 1
      · (intro w hSw; go_simp; try with_reducible rfl)
      try simp only [Act.put, List.setIfInBounds_toArray, List.set_cons_zero, List.set_cons_succ]
      refine takeL 10 rfl (by kernel_rfl) (by kernel_rfl) (by kernel_rfl) (fun _ _ _ h => h) (yieldsIf_load_mid (by rfl) _ _ rfl _ _ rfl _ _ (fun w hSw => hSw.1) Try.underlying29 rfl (by kernel_rfl)) hHeld ?_
      try simp only [Act.put, List.setIfInBounds_toArray, List.set_cons_zero, List.set_cons_succ]
      refine stepL 11 (by kernel_rfl) rfl (fun K hK => ?_)
      go_simp
      refine (HLs.out W1).mono ?_
      rintro e W2 ⟨rfl, hb⟩
      show K _ _
      have R2 := Bx.mk (R1.out.later hb)
      clear hb R1
      refine hK.out _ _ (⟨two_range (((R2.out.a.below).cell (p := ⟨b, o + k * 2, none⟩) (World.block_lt_of_cell? _ _ HD.out.1)).trans HD.out.1) (((R2.out.a.below).cell (p := ⟨b, o + k * 2 + 1, none⟩) (World.block_lt_of_cell? _ _ HD.out.2)).trans HD.out.2), R2.out.bx.range⟩) (fun hHeld => ?_)
      clear hK K
      try simp only [Act.put, List.setIfInBounds_toArray, List.set_cons_zero, List.set_cons_succ]
      refine takeL 12 (v := ?_) rfl (by kernel_rfl) (by kernel_rfl) (by kernel_rfl) (fun _ _ _ h => h) (Or.inl ⟨by rfl, ?_⟩) hHeld ?_
      rotate_left 1
      · (intro w hSw; go_simp; try with_reducible rfl)
      try simp only [Act.put, List.setIfInBounds_toArray, List.set_cons_zero, List.set_cons_succ]
      refine wpAnyH_done (by kernel_rfl) ?_ _
      refine NoPanic.normal ?_
      clear hHeld
      have c0 := (R2.out.a.below.cell (p := ⟨b, o + k * 2, none⟩) (World.block_lt_of_cell? _ _ HD.out.1)).trans HD.out.1
      have c1 := (R2.out.a.below.cell (p := ⟨b, o + k * 2 + 1, none⟩) (World.block_lt_of_cell? _ _ HD.out.2)).trans HD.out.2
      obtain ⟨l0, l1⟩ := R2.out.bx.cells
      have f0 := R2.out.bx.frozen 0
      have f1 := R2.out.bx.frozen 1
      go_upto_region 17 with fail
      have HX := Bx.mk (HNx.out _ _ _ _ R2.out HOk.out HLe.out)
      have HTz := HT2.out s2
      rw [HX.out.1] at HTz
      have HLy := HLa.out (takeW s2 ⟨xb, xc⟩)
      rw [HX.out.2.2.2] at HLy
      have HT2 := Bx.mk HTz
      have HLa := Bx.mk HLy
      clear HTz HLy l0 l1 f0 f1 c0 c1
      have HNE := Bx.mk (And.intro R2.out.n1 (And.intro (And.intro R2.out.n2 R2.out.ge) R2.out.n3))
      have HRA := Bx.mk R2.out.ra
      have RS : Bx (WP w q1 s1 ((W2.setCell ⟨L, 0, none⟩ (.int .i64 xb)).setCell ⟨L, 1, none⟩ (.int .i64 xc)) ∧ WP w q2 s2 ((W2.setCell ⟨L, 0, none⟩ (.int .i64 xb)).setCell ⟨L, 1, none⟩ (.int .i64 xc)) ∧ BoxN 29 L ⟨xb, xc⟩ ((W2.setCell ⟨L, 0, none⟩ (.int .i64 xb)).setCell ⟨L, 1, none⟩ (.int .i64 xc)) ∧ OwnN 29 ((W2.setCell ⟨L, 0, none⟩ (.int .i64 xb)).setCell ⟨L, 1, none⟩ (.int .i64 xc)) (L + 1) (.slice ma mn mc) m) := Bx.mk (R2.out.set xb xc)
      generalize ((W2.setCell ⟨L, 0, none⟩ (.int .i64 xb)).setCell ⟨L, 1, none⟩ (.int .i64 xc)) = WS at *
      clear R2
      have RD : Bx (WP w q1 s1 WS.drew ∧ WP w q2 s2 WS.drew ∧ BoxN 29 L ⟨xb, xc⟩ WS.drew ∧ OwnN 29 WS.drew (L + 1) (.slice ma mn mc) m) := Bx.mk ⟨RS.out.1.later (Below.refl _ _).drew, RS.out.2.1.later (Below.refl _ _).drew, RS.out.2.2.1.later (Below.refl _ _).drew, RS.out.2.2.2.later (Below.refl _ _).drew⟩
      refine wp_region_noPanic ?_
      refine wp_region_held_drew (S := fun W => W.rangeAt b (o + k * 2) [.int .i64 xb, .int .i64 xc]) (by kernel_rfl) ((two_range (((RD.out.1.below).cell (p := ⟨b, o + k * 2, none⟩) (World.block_lt_of_cell? _ _ HD.out.1)).trans HD.out.1) (((RD.out.1.below).cell (p := ⟨b, o + k * 2 + 1, none⟩) (World.block_lt_of_cell? _ _ HD.out.2)).trans HD.out.2))) (fun hHeld => ?_)
      have R0 := RD
      clear RD RS
      generalize WS.drew = W0 at *
      refine takeL 0 (v := ?_) rfl (by kernel_rfl) (by kernel_rfl) (by kernel_rfl) (fun _ _ _ h => h) (Or.inl ⟨by rfl, ?_⟩) hHeld ?_
      rotate_left 1
      · (intro w hSw; go_simp; try with_reducible rfl)
      try simp only [Act.put, List.setIfInBounds_toArray, List.set_cons_zero, List.set_cons_succ]
      refine takeL 1 (v := ?_) rfl (by kernel_rfl) (by kernel_rfl) (by kernel_rfl) (fun _ _ _ h => h) (Or.inl ⟨by rfl, ?_⟩) hHeld ?_
      rotate_left 1
      · (intro w hSw; go_simp; try with_reducible rfl)
      try simp only [Act.put, List.setIfInBounds_toArray, List.set_cons_zero, List.set_cons_succ]
      refine takeL 2 (v := ?_) rfl (by kernel_rfl) (by kernel_rfl) (by kernel_rfl) (fun _ _ _ h => h) (Or.inl ⟨by rfl, ?_⟩) hHeld ?_
      rotate_left 1
      · (intro w hSw; go_simp; try with_reducible rfl)
      try simp only [Act.put, List.setIfInBounds_toArray, List.set_cons_zero, List.set_cons_succ]
      refine takeL 3 rfl (by kernel_rfl) (by kernel_rfl) (by kernel_rfl) (fun _ _ _ h => h) (yieldsIf_load_mid (by rfl) _ _ rfl _ _ rfl _ _ (fun w hSw => hSw) Try.underlying29 rfl (by kernel_rfl)) hHeld ?_
      try simp only [Act.put, List.setIfInBounds_toArray, List.set_cons_zero, List.set_cons_succ]
      refine stepL 4 (by kernel_rfl) rfl (fun K hK => ?_)
      go_simp
      refine (HTo.out W0).mono ?_
      rintro e W1 ⟨rfl, hb⟩
      show K _ _
      have R1 : Bx (WP w q1 s1 W1 ∧ WP w q2 s2 W1 ∧ BoxN 29 L ⟨xb, xc⟩ W1 ∧ OwnN 29 W1 (L + 1) (.slice ma mn mc) m) := Bx.mk ⟨R0.out.1.later hb, R0.out.2.1.later hb, R0.out.2.2.1.later hb, R0.out.2.2.2.later hb⟩
      clear hb R0
      refine hK.out _ _ ((two_range (((R1.out.1.below).cell (p := ⟨b, o + k * 2, none⟩) (World.block_lt_of_cell? _ _ HD.out.1)).trans HD.out.1) (((R1.out.1.below).cell (p := ⟨b, o + k * 2 + 1, none⟩) (World.block_lt_of_cell? _ _ HD.out.2)).trans HD.out.2))) (fun hHeld => ?_)
      clear hK K
      try simp only [Act.put, List.setIfInBounds_toArray, List.set_cons_zero, List.set_cons_succ]
      refine stepL 5 (by kernel_rfl) rfl (fun K hK => ?_)
      go_simp
      refine (HT2.out W1 R1.out.2.1).mono ?_
      rintro e W2 ⟨rfl, hw, hg⟩
      show K _ _
      have R2 : Bx (WP w q1 s1 W2 ∧ WP w q2 (takeW s2 ⟨xb, xc⟩) W2 ∧ BoxN 29 L ⟨xb, xc⟩ W2 ∧ OwnN 29 W2 (L + 1) (.slice ma mn mc) m) := Bx.mk ⟨R1.out.1.aside hg R1.out.2.1.ge HNE.out.1, hw, R1.out.2.2.1.aside hg HNE.out.2.2, R1.out.2.2.2.aside (R1.out.2.1.win.kind kindRW2) hg⟩
      clear hw hg R1
      refine hK.out _ _ ((two_range (((R2.out.1.below).cell (p := ⟨b, o + k * 2, none⟩) (World.block_lt_of_cell? _ _ HD.out.1)).trans HD.out.1) (((R2.out.1.below).cell (p := ⟨b, o + k * 2 + 1, none⟩) (World.block_lt_of_cell? _ _ HD.out.2)).trans HD.out.2))) (fun hHeld => ?_)
      clear hK K
      try simp only [Act.put, List.setIfInBounds_toArray, List.set_cons_zero, List.set_cons_succ]
      refine takeL 6 (v := ?_) rfl (by kernel_rfl) (by kernel_rfl) (by kernel_rfl) (fun _ _ _ h => h) (Or.inl ⟨by rfl, ?_⟩) hHeld ?_
      rotate_left 1
      · (intro w hSw; go_simp; try with_reducible rfl)
      try simp only [Act.put, List.setIfInBounds_toArray, List.set_cons_zero, List.set_cons_succ]
      refine takeL 7 (v := ?_) rfl (by kernel_rfl) (by kernel_rfl) (by kernel_rfl) (fun _ _ _ h => h) (Or.inl ⟨by rfl, ?_⟩) hHeld ?_
      rotate_left 1
      · (intro w hSw; go_simp; try with_reducible rfl)
      try simp only [Act.put, List.setIfInBounds_toArray, List.set_cons_zero, List.set_cons_succ]
      refine takeL 9 (v := ?_) rfl (by kernel_rfl) (by kernel_rfl) (by kernel_rfl) (fun _ _ _ h => h) (Or.inl ⟨by rfl, ?_⟩) hHeld ?_
      rotate_left 1
      · (intro w hSw; go_simp; try with_reducible rfl)
      try simp only [Act.put, List.setIfInBounds_toArray, List.set_cons_zero, List.set_cons_succ]
      refine takeL 10 (v := ?_) rfl (by kernel_rfl) (by kernel_rfl) (by kernel_rfl) (fun _ _ _ h => h) (Or.inl ⟨by rfl, ?_⟩) hHeld ?_
      rotate_left 1
      · (intro w hSw; go_simp; try with_reducible rfl)
      try simp only [Act.put, List.setIfInBounds_toArray, List.set_cons_zero, List.set_cons_succ]
      refine takeL 11 (v := ?_) rfl (by kernel_rfl) (by kernel_rfl) (by kernel_rfl) (fun _ _ _ h => h) (Or.inl ⟨by rfl, ?_⟩) hHeld ?_
      rotate_left 1
      · (intro w hSw; go_simp; try with_reducible rfl)
      try simp only [Act.put, List.setIfInBounds_toArray, List.set_cons_zero, List.set_cons_succ]
      refine takeL 12 rfl (by kernel_rfl) (by kernel_rfl) (by kernel_rfl) (fun _ _ _ h => h) (yieldsIf_load_mid (by rfl) _ _ rfl _ _ rfl _ _ (fun w hSw => hSw) Try.underlying29 rfl (by kernel_rfl)) hHeld ?_
      try simp only [Act.put, List.setIfInBounds_toArray, List.set_cons_zero, List.set_cons_succ]
      refine stepL 8 (by kernel_rfl) rfl (fun K hK => ?_)
      go_simp
      refine (HLa.out W2 R2.out.2.1).mono ?_
      rintro e W3 ⟨rfl, hb⟩
      show K _ _
      have R3 : Bx (WP w q1 s1 W3 ∧ WP w q2 (takeW s2 ⟨xb, xc⟩) W3 ∧ BoxN 29 L ⟨xb, xc⟩ W3 ∧ OwnN 29 W3 (L + 1) (.slice ma mn mc) m) := Bx.mk ⟨R2.out.1.later hb, R2.out.2.1.later hb, R2.out.2.2.1.later hb, R2.out.2.2.2.later hb⟩
      clear hb R2
      refine hK.out _ _ ((two_range (((R3.out.1.below).cell (p := ⟨b, o + k * 2, none⟩) (World.block_lt_of_cell? _ _ HD.out.1)).trans HD.out.1) (((R3.out.1.below).cell (p := ⟨b, o + k * 2 + 1, none⟩) (World.block_lt_of_cell? _ _ HD.out.2)).trans HD.out.2))) (fun hHeld => ?_)
      clear hK K
      try simp only [Act.put, List.setIfInBounds_toArray, List.set_cons_zero, List.set_cons_succ]
      refine stepL 13 (by kernel_rfl) rfl (fun K hK => ?_)
      go_simp
      refine (HTo.out W3).mono ?_
      rintro e W4 ⟨rfl, hb⟩
      show K _ _
      have R4 : Bx (WP w q1 s1 W4 ∧ WP w q2 (takeW s2 ⟨xb, xc⟩) W4 ∧ BoxN 29 L ⟨xb, xc⟩ W4 ∧ OwnN 29 W4 (L + 1) (.slice ma mn mc) m) := Bx.mk ⟨R3.out.1.later hb, R3.out.2.1.later hb, R3.out.2.2.1.later hb, R3.out.2.2.2.later hb⟩
      clear hb R3
      refine hK.out _ _ ((two_range (((R4.out.1.below).cell (p := ⟨b, o + k * 2, none⟩) (World.block_lt_of_cell? _ _ HD.out.1)).trans HD.out.1) (((R4.out.1.below).cell (p := ⟨b, o + k * 2 + 1, none⟩) (World.block_lt_of_cell? _ _ HD.out.2)).trans HD.out.2))) (fun hHeld => ?_)
      clear hK K
      try simp only [Act.put, List.setIfInBounds_toArray, List.set_cons_zero, List.set_cons_succ]
      refine takeL 14 (v := ?_) rfl (by kernel_rfl) (by kernel_rfl) (by kernel_rfl) (fun _ _ _ h => h) (Or.inl ⟨by rfl, ?_⟩) hHeld ?_
      rotate_left 1
      · (intro w hSw; go_simp; try with_reducible rfl)
      try simp only [Act.put, List.setIfInBounds_toArray, List.set_cons_zero, List.set_cons_succ]
      refine takeL 15 (v := ?_) rfl (by kernel_rfl) (by kernel_rfl) (by kernel_rfl) (fun _ _ _ h => h) (Or.inl ⟨by rfl, ?_⟩) hHeld ?_
      rotate_left 1
      · (intro w hSw; go_simp; try with_reducible rfl)
      try simp only [Act.put, List.setIfInBounds_toArray, List.set_cons_zero, List.set_cons_succ]
      refine wpAnyH_done (by kernel_rfl) ?_ _
      refine NoPanic.normal ?_
      clear hHeld
      go_wp2
      exact ⟨⟨⟨rfl, rfl⟩, rfl, rfl, rfl, rfl⟩, by first | rfl | go_num, (.slice ma mn mc), s1, takeW s2 ⟨xb, xc⟩, m, m2 ++ [⟨xb, xc⟩], ⟨xb, xc⟩, rfl, ⟨R4.out.1, R4.out.2.1, R4.out.2.2.1, R4.out.2.2.2, HNE.out.2.1.2, HNE.out.1, HNE.out.2.1.1, HNE.out.2.2, HRA.out, HX.out.2.1, HX.out.2.2.1⟩, HLn.out⟩
end Go.Proofs.Ytoohcjdjmafliaa
