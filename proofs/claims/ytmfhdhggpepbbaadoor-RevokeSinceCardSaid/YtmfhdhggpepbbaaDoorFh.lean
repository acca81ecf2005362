/-
  RevokeGrows' rounds.
-/
import Derived.Test.YtmfhdhggpepbbaaDoorFg
namespace Go.Proofs.YtmfhdhggpepbbaaDoor
open Go Go.RowKit
theorem range_drop8 {W : World} {b o : Nat} {x y z : Value} {l : List Value} (h : W.rangeAt b o (x :: y :: z :: l)) : W.rangeAt b (o + 3) l := fun j u hj => by
  have := h (j + 3) u (by simpa using hj)
  rw [show o + 3 + j = o + (j + 3) by omega]
  exact this
/-- What holds between two rounds. -/
structure GS (w : World) (P : Nat) (v0 : Value) (k : Nat) (a : Act) (W : World) : Prop where
  fr : GO v0 (.pointer (some ⟨P, 0, none⟩)) (.int .i64 (k : Int)) a
  below : Below w.heap.size w W
  set : ∃ l, SetAt W P l ∧ Good l
/-- A set, what it told ahead, and the versions that it had. -/
structure GR (w : World) (E D P : Nat) (y : V4) (l : L4) (v : Value) (lw : List Int) (W : World) : Prop where
  k : KR w E [(D, .cells #[.int .i64 y.a, .int .i64 y.b, .int .i64 y.c, .int .i64 y.d] 39)] W
  s : SetAt W P l
  r : IsL W v lw
theorem GR.later {w : World} {E D P : Nat} {y : V4} {l : L4} {v : Value} {lw : List Int} {W W1 : World} (h : GR w E D P y l v lw W) (hb : Below W.heap.size W W1) : GR w E D P y l v lw W1 := ⟨h.k.later hb, h.s.later hb, h.r.later hb⟩
theorem GR.beside {w : World} {E D P : Nat} {y : V4} {l l1 : L4} {v : Value} {lw : List Int} {W W1 : World} (h : GR w E D P y l v lw W) (hg : W.grownBy W1 (some P)) (hs : SetAt W1 P l1) (hE : E ≤ P) (hD : P < D) : GR w E D P y l1 v lw W1 :=
  ⟨h.k.grown hg hE (fun x hx => by rcases List.mem_cons.1 hx with rfl | hx; exact Nat.ne_of_gt hD; cases hx), hs, h.r.beside h.s hg⟩
set_option maxRecDepth 100000 in
set_option maxHeartbeats 4000000 in
theorem roundH_rev (w : World) (E P : Nat) (acs : List Ac8) (al : Option Addr) (nl cl : Nat) (hA : Acts8 w (.slice al nl cl) acs) (hnl : acs.length = nl) (hE : w.heap.size = E) (hP : E ≤ P) (hF : Full w) (hf : 0 < E) (hn9 : nl ≤ 9223372036854775807)
    (Q : Exit → Act → World → Prop) (k : Nat) (a : Act) (wr : World) (hk : k < nl) (hk8 : k < 12) (hkd : bits .and .i64 (acs.getD k Ac8.zero).kd 1 = 0) (h : GS w P (.slice al nl cl) k a wr) :
    Code.wp Tryd.prog (loopAt (Tryd.f8.body) 0) (Exit.then (fun a' w' => GS w P (.slice al nl cl) (k + 1) a' w') Q) a wr := by
  obtain ⟨l, hs, hg⟩ := h.set
  have hPw := hs.lt
  have hbel := h.below
  rw [hE] at hbel
  obtain ⟨_, _, hv, _, _, hr⟩ := hA
  injection hv with p1 p2 p3
  subst p1
  clear p2 p3
  obtain ⟨b, o, rfl, hi⟩ := hr (by omega)
  obtain ⟨vl, u, hrg, hin, hru, hfit⟩ := hi k (by omega)
  generalize acs.getD k Ac8.zero = ac at *
  obtain ⟨kd, n, ls, v, m⟩ := ac
  have hll := hfit.l
  have hmm := hfit.m
  simp only at hrg hin hru hll hmm hkd
  clear hi hr hfit
  obtain ⟨ar, cr, rfl, -⟩ := id hin
  have hbl : b < E := by have h0 : b < w.heap.size := World.block_lt_of_cell? _ _ (hrg 0 _ rfl); omega
  have HRg : Bx (∀ W, Below E w W → W.rangeAt b (o + k * 11) [.int .i64 kd, .int .i64 n, .slice ar ls.length cr, .int .i64 v.a, .int .i64 v.b, .int .i64 v.c, .int .i64 v.d, u.a, u.b, u.c, u.d]) := ⟨fun W h => range_later hrg h hbl⟩
  have HIn : Bx (∀ W, Below E w W → Ints W (.slice ar ls.length cr) ls) := ⟨fun W h => hin.later (by rw [hE]; exact h)⟩
  have HRu : Bx (∀ W, Below E w W → RowsI W u m) := ⟨fun W h => hru.later (by rw [hE]; exact h)⟩
  have HFu : Bx (∀ W, Below E w W → Full W ∧ 0 < W.heap.size) := ⟨fun W h => ⟨hF.later h hf, Nat.lt_of_lt_of_le hf (by have := h.size; rw [hE] at this; exact this)⟩⟩
  have HLm := Bx.mk (And.intro hll hmm)
  obtain ⟨nr, hnr⟩ : ∃ n, ls.length = n := ⟨_, rfl⟩
  rw [hnr] at HRg HIn
  have HAl := Bx.mk (all8 (.pointer (some ⟨P, 0, none⟩)) l wr (.inr ⟨P, rfl, hs⟩) hg)
  have HAm : Bx (∀ y ∈ allL l, hasL4 l y = true) := ⟨fun y hy => mem_allL hy⟩
  have HAn : Bx ((allL l).length ≤ 5000) := ⟨Nat.le_trans (length_allL l) (by have := hg.a; have := hg.b; have := hg.c; have := hg.d; omega)⟩
  have HG := Bx.mk hg
  have S0 := Bx.mk hs
  have B0 := Bx.mk hbel
  have HPE := Bx.mk (And.intro hP hPw)
  generalize allL l = lw at *
  obtain ⟨nw, hnw⟩ : ∃ n, lw.length = n := ⟨_, rfl⟩
  rw [hnw] at HAl HAn
  have HNw := Bx.mk hnw
  have HSz : Bx (∀ W, Below E w W → E ≤ W.heap.size) := ⟨fun W h => by have := h.size; rw [hE] at this; exact this⟩
  have HEw := Bx.mk hE
  have hk1 : (k : Int) < (nl : Int) := by omega
  have hk0 : (0 : Int) ≤ (k : Int) := by omega
  have hk2 : (k : Int) < 12 := by omega
  have hn1 : (nl : Int) ≤ 9223372036854775807 := by omega
  obtain ⟨x, rfl, hx⟩ := open70 h.fr.fr
  have e0 := (hx 0).symm.trans h.fr.s0
  have e3 := (hx 3).symm.trans h.fr.s3
  have e4 := (hx 4).symm.trans h.fr.s4
  clear h hx hs hg hrg hin hru hll hmm hnr hnl hnw hPw hbel hP hbl hF hf hE
  rw [e0, e3, e4]
  clear e0 e3 e4
  conv => arg 2; whnf
  go_wp2_with fail
  refine HAl.out.mono ?_
  rintro e w1 ⟨aw, cw, rfl, hl, hb⟩
  have S1 := Bx.mk (S0.out.later hb)
  have B1 := Bx.mk (B0.out.trans (hb.mono (HSz.out _ B0.out)))
  have L1 := Bx.mk hl
  have HP1 : Bx (P < w1.heap.size) := ⟨Nat.lt_of_lt_of_le HPE.out.2 hb.size⟩
  clear hl hb HAl S0 B0
  go_wp2_with fail
  refine (versions_any (.pointer (some ⟨P, 0, none⟩)) l w1 (.inr ⟨P, rfl, S1.out⟩)).mono ?_
  rintro e w2 ⟨rfl, hb⟩
  have HCo : Bx (∀ l1, Ext l l1 → covV l1.ver l.ver = true) := ⟨fun l1 h => h.cov⟩
  generalize l.ver = y at *
  have G2 : Bx (GR w E w2.heap.size P y l (.slice aw nw cw) lw (w2.alloc (.cells #[.int .i64 y.a, .int .i64 y.b, .int .i64 y.c, .int .i64 y.d] 39)) ∧ P < w2.heap.size) := ⟨⟨KR.new ⟨(fun x hx => by cases hx), B1.out.trans (hb.mono (HSz.out _ B1.out)), HSz.out _ (B1.out.trans (hb.mono (HSz.out _ B1.out)))⟩ _, (S1.out.later hb).later (below_a _), (L1.out.later hb).later (below_a _)⟩, Nat.lt_of_lt_of_le HP1.out hb.size⟩
  unfold V4.v
  obtain ⟨D, hD⟩ : ∃ D, w2.heap.size = D := ⟨_, rfl⟩
  rw [hD] at G2
  have c0 : (w2.alloc (.cells #[.int .i64 y.a, .int .i64 y.b, .int .i64 y.c, .int .i64 y.d] 39)).cell? ⟨b, o + k * 11, none⟩ = some (.int .i64 kd) := HRg.out _ G2.out.1.k.below 0 _ rfl
  clear hb S1 B1 L1 HP1
  go_upto_region 7 with fail
  generalize w2.alloc _ = w3 at *
  have R0 := Bx.mk (G2.out.1.later (Below.refl _ _).drew)
  have HPD := Bx.mk G2.out.2
  clear G2 c0
  refine wp_region_noPanic ?_
  refine wp_region_held_drew (S := fun W => W.rangeAt b (o + k * 11) [.int .i64 kd, .int .i64 n, .slice ar nr cr, .int .i64 v.a, .int .i64 v.b, .int .i64 v.c, .int .i64 v.d, u.a, u.b, u.c, u.d]) (by kernel_rfl) (HRg.out _ R0.out.k.below) (fun hHeld => ?_)
  generalize w3.drew = W0 at *
  refine takeL 0 (v := ?_) rfl (by kernel_rfl) (by kernel_rfl) (by kernel_rfl) (fun _ _ _ h => h) (Or.inl ⟨by rfl, ?_⟩) hHeld ?_
  rotate_left 1
  · (intro w hSw; go_simp; try with_reducible rfl)
  try simp only [Act.put, List.setIfInBounds_toArray, List.set_cons_zero, List.set_cons_succ]
  refine takeL 1 (v := ?_) rfl (by kernel_rfl) (by kernel_rfl) (by kernel_rfl) (fun _ _ _ h => h) (Or.inl ⟨by rfl, ?_⟩) hHeld ?_
  rotate_left 1
  · (intro w hSw; go_simp; try with_reducible rfl)
  try simp only [Act.put, List.setIfInBounds_toArray, List.set_cons_zero, List.set_cons_succ]
  refine takeL 2 (v := ?_) rfl (by kernel_rfl) (by kernel_rfl) (by kernel_rfl) (fun _ _ _ h => h) (Or.inl ⟨by rfl, ?_⟩) hHeld ?_
  rotate_left 1
  · (intro w hSw; go_simp; try with_reducible rfl)
  try simp only [Act.put, List.setIfInBounds_toArray, List.set_cons_zero, List.set_cons_succ]
  refine takeL 3 (v := ?_) rfl (by kernel_rfl) (by kernel_rfl) (by kernel_rfl) (fun _ _ _ h => h) (Or.inl ⟨by rfl, ?_⟩) hHeld ?_
  rotate_left 1
  · (intro w hSw; go_simp; try with_reducible rfl)
  try simp only [Act.put, List.setIfInBounds_toArray, List.set_cons_zero, List.set_cons_succ]
  refine takeL 4 (v := ?_) rfl (by kernel_rfl) (by kernel_rfl) (by kernel_rfl) (fun _ _ _ h => h) (Or.inl ⟨by rfl, ?_⟩) hHeld ?_
  rotate_left 1
  · (intro w hSw; go_simp; try with_reducible rfl)
  try simp only [Act.put, List.setIfInBounds_toArray, List.set_cons_zero, List.set_cons_succ]
  refine takeL 5 (v := ?_) rfl (by kernel_rfl) (by kernel_rfl) (by kernel_rfl) (fun _ _ _ h => h) (Or.inl ⟨by rfl, ?_⟩) hHeld ?_
  rotate_left 1
  · (intro w hSw; have c1 : w.cell? ⟨b, o + k * 11 + 1, none⟩ = some _ := hSw 1 _ rfl; go_simp; try with_reducible rfl)
  try simp only [Act.put, List.setIfInBounds_toArray, List.set_cons_zero, List.set_cons_succ]
  refine takeL 6 (v := ?_) rfl (by kernel_rfl) (by kernel_rfl) (by kernel_rfl) (fun _ _ _ h => h) (Or.inl ⟨by rfl, ?_⟩) hHeld ?_
  rotate_left 1
  · (intro w hSw; go_simp; try with_reducible rfl)
  try simp only [Act.put, List.setIfInBounds_toArray, List.set_cons_zero, List.set_cons_succ]
  refine takeL 7 (v := ?_) rfl (by kernel_rfl) (by kernel_rfl) (by kernel_rfl) (fun _ _ _ h => h) (Or.inl ⟨by rfl, ?_⟩) hHeld ?_
  rotate_left 1
  · (intro w hSw; go_simp; try with_reducible rfl)
  try simp only [Act.put, List.setIfInBounds_toArray, List.set_cons_zero, List.set_cons_succ]
  refine takeL 8 (v := ?_) rfl (by kernel_rfl) (by kernel_rfl) (by kernel_rfl) (fun _ _ _ h => h) (Or.inl ⟨by rfl, ?_⟩) hHeld ?_
  rotate_left 1
  · (intro w hSw; go_simp; try with_reducible rfl)
  try simp only [Act.put, List.setIfInBounds_toArray, List.set_cons_zero, List.set_cons_succ]
  refine takeL 9 (v := ?_) rfl (by kernel_rfl) (by kernel_rfl) (by kernel_rfl) (fun _ _ _ h => h) (Or.inl ⟨by rfl, ?_⟩) hHeld ?_
  rotate_left 1
  · (intro w hSw; go_simp; try with_reducible rfl)
  try simp only [Act.put, List.setIfInBounds_toArray, List.set_cons_zero, List.set_cons_succ]
  refine takeL 10 (v := ?_) rfl (by kernel_rfl) (by kernel_rfl) (by kernel_rfl) (fun _ _ _ h => h) (Or.inl ⟨by rfl, ?_⟩) hHeld ?_
  rotate_left 1
  · (intro w hSw; have c1 : w.cell? ⟨b, o + k * 11 + 2, none⟩ = some _ := hSw 2 _ rfl; go_simp; try with_reducible rfl)
  try simp only [Act.put, List.setIfInBounds_toArray, List.set_cons_zero, List.set_cons_succ]
  refine stepL 11 (by kernel_rfl) rfl (fun K hK => ?_)
  go_simp
  refine (few8 ls _ 20 W0 (HIn.out _ R0.out.k.below) HLm.out.1 (by omega)).mono ?_
  rintro e W1 ⟨q, rfl, hq, hb⟩
  show K _ _
  have R1 := Bx.mk (R0.out.later hb)
  have HQ := Bx.mk hq
  obtain ⟨aq, cq, hqv⟩ := hq.form
  subst hqv
  clear hb R0 hq
  have HQn : Bx ((ls.take 20).length ≤ 1000) := ⟨by rw [List.length_take]; omega⟩
  generalize ls.take 20 = ms at *
  refine hK.out _ _ (HRg.out _ R1.out.k.below) (fun hHeld => ?_)
  clear hK K
  try simp only [Act.put, List.setIfInBounds_toArray, List.set_cons_zero, List.set_cons_succ]
  refine stepL 12 (by kernel_rfl) rfl (fun K hK => ?_)
  go_simp
  refine (revoke_any n _ ms P l W1 R1.out.s HG.out HQ.out HQn.out).mono ?_
  rintro e W2 ⟨rfl, hs2, hg2⟩
  show K _ _
  have G4 := Bx.mk (R1.out.beside hg2 hs2 HPE.out.1 HPD.out)
  clear hs2 hg2 R1 HQ
  refine hK.out _ _ (HRg.out _ G4.out.k.below) (fun hHeld => ?_)
  clear hK K
  try simp only [Act.put, List.setIfInBounds_toArray, List.set_cons_zero, List.set_cons_succ]
  refine wpAnyH_done (by kernel_rfl) ?_ _
  refine NoPanic.normal ?_
  clear hHeld
  have HX3 := Bx.mk (revL_ext l n ms)
  have HG3 := Bx.mk (revL_good HG.out n ms)
  go_wp2_with fail
  refine loopG P (revL l n ms).2 lw aw nw cw (.slice (some ⟨b, o, none⟩) nl cl) (.int .i64 (k : Int)) (.pointer (some ⟨D, 0, none⟩)) W2 G4.out.s HG3.out G4.out.r HNw.out HAn.out (fun y hy => HX3.out.has (HAm.out y hy)) _ _ ⟨⟨rfl, rfl⟩, rfl, rfl, rfl, rfl, rfl⟩ rfl ?_
  intro a5 w5 hF5 hb5
  have G5 := Bx.mk (G4.out.later hb5)
  clear hb5 G4
  obtain ⟨z, rfl, hz⟩ := open70 hF5.fr
  have f0 := (hz 0).symm.trans hF5.s0
  have f3 := (hz 3).symm.trans hF5.s3
  have f4 := (hz 4).symm.trans hF5.s4
  have f5 := (hz 5).symm.trans hF5.s5
  have f6 := (hz 6).symm.trans hF5.s6
  clear hF5 hz
  rw [f0, f3, f4, f5, f6]
  clear f0 f3 f4 f5 f6
  go_upto_region 14 with fail
  have R0 := Bx.mk (G5.out.later (Below.refl _ _).drew)
  clear G5
  refine wp_region_noPanic ?_
  refine wp_region_held_drew (S := fun W => W.rangeAt D 0 [.int .i64 y.a, .int .i64 y.b, .int .i64 y.c, .int .i64 y.d]) (by kernel_rfl) (row_rng8 (l := [.int .i64 y.a, .int .i64 y.b, .int .i64 y.c, .int .i64 y.d]) (R0.out.k.rows _ (.head _))) (fun hHeld => ?_)
  generalize w5.drew = y0 at *
  refine takeL 0 (v := ?_) rfl (by kernel_rfl) (by kernel_rfl) (by kernel_rfl) (fun _ _ _ h => h) (Or.inl ⟨by rfl, ?_⟩) hHeld ?_
  rotate_left 1
  · (intro w hSw; go_simp; try with_reducible rfl)
  try simp only [Act.put, List.setIfInBounds_toArray, List.set_cons_zero, List.set_cons_succ]
  refine takeL 2 rfl (by kernel_rfl) (by kernel_rfl) (by kernel_rfl) (fun _ _ _ h => h) (yieldsIf_load_mid (by rfl) _ _ rfl _ _ rfl _ _ (fun w hSw => hSw) Tryd.underlying39 rfl (by kernel_rfl)) hHeld ?_
  try simp only [Act.put, List.setIfInBounds_toArray, List.set_cons_zero, List.set_cons_succ]
  refine stepL 1 (by kernel_rfl) rfl (fun K hK => ?_)
  go_simp
  refine (versions_any (.pointer (some ⟨P, 0, none⟩)) (revL l n ms).2 y0 (.inr ⟨P, rfl, R0.out.s⟩)).mono ?_
  rintro e y1 ⟨rfl, hb⟩
  show K _ _
  have R1 := Bx.mk (R0.out.later hb)
  clear hb R0
  refine hK.out _ _ (row_rng8 (l := [.int .i64 y.a, .int .i64 y.b, .int .i64 y.c, .int .i64 y.d]) (R1.out.k.rows _ (.head _))) (fun hHeld => ?_)
  clear hK K
  try simp only [Act.put, List.setIfInBounds_toArray, List.set_cons_zero, List.set_cons_succ]
  refine stepL 3 (by kernel_rfl) rfl (fun K hK => ?_)
  go_simp
  refine (covers_any8 ((revL l n ms).2).ver y y1).mono ?_
  rintro e y2 ⟨rfl, hb⟩
  rw [HCo.out _ HX3.out]
  show K _ _
  have R2 := Bx.mk (R1.out.later hb)
  clear hb R1
  refine hK.out _ _ (row_rng8 (l := [.int .i64 y.a, .int .i64 y.b, .int .i64 y.c, .int .i64 y.d]) (R2.out.k.rows _ (.head _))) (fun hHeld => ?_)
  clear hK K
  try simp only [Act.put, List.setIfInBounds_toArray, List.set_cons_zero, List.set_cons_succ]
  refine takeL 4 (v := ?_) rfl (by kernel_rfl) (by kernel_rfl) (by kernel_rfl) (fun _ _ _ h => h) (Or.inl ⟨by rfl, ?_⟩) hHeld ?_
  rotate_left 1
  · (intro w hSw; go_simp; try with_reducible rfl)
  try simp only [Act.put, List.setIfInBounds_toArray, List.set_cons_zero, List.set_cons_succ]
  refine wpAnyH_done (by kernel_rfl) ?_ _
  refine NoPanic.normal ?_
  clear hHeld
  go_wp2
  exact ⟨⟨⟨rfl, rfl⟩, rfl, rfl, rfl⟩, by rw [HEw.out]; exact R2.out.k.below, _, R2.out.s, HG3.out⟩
theorem Most.mono {l : L4} {n m : Nat} (h : Most l n) (hn : n ≤ m) : Most l m := ⟨Nat.le_trans h.a hn, Nat.le_trans h.b hn, Nat.le_trans h.c hn, Nat.le_trans h.d hn⟩
set_option maxRecDepth 100000 in
set_option maxHeartbeats 4000000 in
theorem roundH_app (w : World) (E P : Nat) (acs : List Ac8) (al : Option Addr) (nl cl : Nat) (hA : Acts8 w (.slice al nl cl) acs) (hnl : acs.length = nl) (hE : w.heap.size = E) (hP : E ≤ P) (hF : Full w) (hf : 0 < E) (hn9 : nl ≤ 9223372036854775807)
    (Q : Exit → Act → World → Prop) (k : Nat) (a : Act) (wr : World) (hk : k < nl) (hk8 : k < 12) (hkd : ¬ bits .and .i64 (acs.getD k Ac8.zero).kd 1 = 0) (h : GS w P (.slice al nl cl) k a wr) :
    Code.wp Tryd.prog (loopAt (Tryd.f8.body) 0) (Exit.then (fun a' w' => GS w P (.slice al nl cl) (k + 1) a' w') Q) a wr := by
  obtain ⟨l, hs, hg⟩ := h.set
  have hPw := hs.lt
  have hbel := h.below
  rw [hE] at hbel
  obtain ⟨_, _, hv, _, _, hr⟩ := hA
  injection hv with p1 p2 p3
  subst p1
  clear p2 p3
  obtain ⟨b, o, rfl, hi⟩ := hr (by omega)
  obtain ⟨vl, u, hrg, hin, hru, hfit⟩ := hi k (by omega)
  generalize acs.getD k Ac8.zero = ac at *
  obtain ⟨kd, n, ls, v, m⟩ := ac
  have hll := hfit.l
  have hmm := hfit.m
  simp only at hrg hin hru hll hmm hkd
  clear hi hr hfit
  obtain ⟨ar, cr, rfl, -⟩ := id hin
  have hbl : b < E := by have h0 : b < w.heap.size := World.block_lt_of_cell? _ _ (hrg 0 _ rfl); omega
  have HRg : Bx (∀ W, Below E w W → W.rangeAt b (o + k * 11) [.int .i64 kd, .int .i64 n, .slice ar ls.length cr, .int .i64 v.a, .int .i64 v.b, .int .i64 v.c, .int .i64 v.d, u.a, u.b, u.c, u.d]) := ⟨fun W h => range_later hrg h hbl⟩
  have HIn : Bx (∀ W, Below E w W → Ints W (.slice ar ls.length cr) ls) := ⟨fun W h => hin.later (by rw [hE]; exact h)⟩
  have HRu : Bx (∀ W, Below E w W → RowsI W u m) := ⟨fun W h => hru.later (by rw [hE]; exact h)⟩
  have HFu : Bx (∀ W, Below E w W → Full W ∧ 0 < W.heap.size) := ⟨fun W h => ⟨hF.later h hf, Nat.lt_of_lt_of_le hf (by have := h.size; rw [hE] at this; exact this)⟩⟩
  have HLm := Bx.mk (And.intro hll hmm)
  obtain ⟨nr, hnr⟩ : ∃ n, ls.length = n := ⟨_, rfl⟩
  rw [hnr] at HRg HIn
  have HAl := Bx.mk (all8 (.pointer (some ⟨P, 0, none⟩)) l wr (.inr ⟨P, rfl, hs⟩) hg)
  have HAm : Bx (∀ y ∈ allL l, hasL4 l y = true) := ⟨fun y hy => mem_allL hy⟩
  have HAn : Bx ((allL l).length ≤ 5000) := ⟨Nat.le_trans (length_allL l) (by have := hg.a; have := hg.b; have := hg.c; have := hg.d; omega)⟩
  have HG := Bx.mk hg
  have S0 := Bx.mk hs
  have B0 := Bx.mk hbel
  have HPE := Bx.mk (And.intro hP hPw)
  generalize allL l = lw at *
  obtain ⟨nw, hnw⟩ : ∃ n, lw.length = n := ⟨_, rfl⟩
  rw [hnw] at HAl HAn
  have HNw := Bx.mk hnw
  have HSz : Bx (∀ W, Below E w W → E ≤ W.heap.size) := ⟨fun W h => by have := h.size; rw [hE] at this; exact this⟩
  have HEw := Bx.mk hE
  have hk1 : (k : Int) < (nl : Int) := by omega
  have hk0 : (0 : Int) ≤ (k : Int) := by omega
  have hk2 : (k : Int) < 12 := by omega
  have hn1 : (nl : Int) ≤ 9223372036854775807 := by omega
  obtain ⟨x, rfl, hx⟩ := open70 h.fr.fr
  have e0 := (hx 0).symm.trans h.fr.s0
  have e3 := (hx 3).symm.trans h.fr.s3
  have e4 := (hx 4).symm.trans h.fr.s4
  clear h hx hs hg hrg hin hru hll hmm hnr hnl hnw hPw hbel hP hbl hF hf hE
  rw [e0, e3, e4]
  clear e0 e3 e4
  conv => arg 2; whnf
  go_wp2_with fail
  refine HAl.out.mono ?_
  rintro e w1 ⟨aw, cw, rfl, hl, hb⟩
  have S1 := Bx.mk (S0.out.later hb)
  have B1 := Bx.mk (B0.out.trans (hb.mono (HSz.out _ B0.out)))
  have L1 := Bx.mk hl
  have HP1 : Bx (P < w1.heap.size) := ⟨Nat.lt_of_lt_of_le HPE.out.2 hb.size⟩
  clear hl hb HAl S0 B0
  go_wp2_with fail
  refine (versions_any (.pointer (some ⟨P, 0, none⟩)) l w1 (.inr ⟨P, rfl, S1.out⟩)).mono ?_
  rintro e w2 ⟨rfl, hb⟩
  have HCo : Bx (∀ l1, Ext l l1 → covV l1.ver l.ver = true) := ⟨fun l1 h => h.cov⟩
  generalize l.ver = y at *
  have G2 : Bx (GR w E w2.heap.size P y l (.slice aw nw cw) lw (w2.alloc (.cells #[.int .i64 y.a, .int .i64 y.b, .int .i64 y.c, .int .i64 y.d] 39)) ∧ P < w2.heap.size) := ⟨⟨KR.new ⟨(fun x hx => by cases hx), B1.out.trans (hb.mono (HSz.out _ B1.out)), HSz.out _ (B1.out.trans (hb.mono (HSz.out _ B1.out)))⟩ _, (S1.out.later hb).later (below_a _), (L1.out.later hb).later (below_a _)⟩, Nat.lt_of_lt_of_le HP1.out hb.size⟩
  unfold V4.v
  obtain ⟨D, hD⟩ : ∃ D, w2.heap.size = D := ⟨_, rfl⟩
  rw [hD] at G2
  have c0 : (w2.alloc (.cells #[.int .i64 y.a, .int .i64 y.b, .int .i64 y.c, .int .i64 y.d] 39)).cell? ⟨b, o + k * 11, none⟩ = some (.int .i64 kd) := HRg.out _ G2.out.1.k.below 0 _ rfl
  clear hb S1 B1 L1 HP1
  have HR3 : Bx (∀ W, Below E w W → W.rangeAt b (o + k * 11 + 3) [.int .i64 v.a, .int .i64 v.b, .int .i64 v.c, .int .i64 v.d, u.a, u.b, u.c, u.d]) := ⟨fun W h => range_drop8 (HRg.out W h)⟩
  go_wp2_with (refine wpList_load_mid rfl 33 _ rfl b (o + k * 11 + 3) (by rfl) _ _ (HR3.out _ G2.out.1.k.below) Tryd.underlying33 rfl (by kernel_rfl) ?_)
  generalize w2.alloc _ = w3 at *
  have HPD := Bx.mk G2.out.2
  refine (to8 v u m w3 (HRu.out _ G2.out.1.k.below) HLm.out.2).mono ?_
  rintro e w4 ⟨q, rfl, hq, hb⟩
  have G3 := Bx.mk (G2.out.1.later hb)
  have HQ := Bx.mk hq
  clear hb hq c0 G2
  unfold dC
  go_wp2_with fail
  refine (apply_any v q (m.take 40) l P w4 HQ.out (Most.mono (Most.take m 40) (by omega)) G3.out.s (HFu.out _ G3.out.k.below).1 (HFu.out _ G3.out.k.below).2 HG.out).mono ?_
  rintro e w5 ⟨rfl, hs2, hg2⟩
  have G4 := Bx.mk (G3.out.beside hg2 hs2 HPE.out.1 HPD.out)
  clear hs2 hg2 G3 HQ
  have HX3 := Bx.mk (applyL_ext l v (m.take 40))
  have HG3 := Bx.mk (applyL_good HG.out v (m.take 40))
  go_wp2_with fail
  refine loopG P (applyL l v (m.take 40)).2.2 lw aw nw cw (.slice (some ⟨b, o, none⟩) nl cl) (.int .i64 (k : Int)) (.pointer (some ⟨D, 0, none⟩)) w5 G4.out.s HG3.out G4.out.r HNw.out HAn.out (fun y hy => HX3.out.has (HAm.out y hy)) _ _ ⟨⟨rfl, rfl⟩, rfl, rfl, rfl, rfl, rfl⟩ rfl ?_
  intro a5 w6 hF5 hb5
  have G5 := Bx.mk (G4.out.later hb5)
  clear hb5 G4
  obtain ⟨z, rfl, hz⟩ := open70 hF5.fr
  have f0 := (hz 0).symm.trans hF5.s0
  have f3 := (hz 3).symm.trans hF5.s3
  have f4 := (hz 4).symm.trans hF5.s4
  have f5 := (hz 5).symm.trans hF5.s5
  have f6 := (hz 6).symm.trans hF5.s6
  clear hF5 hz
  rw [f0, f3, f4, f5, f6]
  clear f0 f3 f4 f5 f6
  go_upto_region 14 with fail
  have R0 := Bx.mk (G5.out.later (Below.refl _ _).drew)
  clear G5
  refine wp_region_noPanic ?_
  refine wp_region_held_drew (S := fun W => W.rangeAt D 0 [.int .i64 y.a, .int .i64 y.b, .int .i64 y.c, .int .i64 y.d]) (by kernel_rfl) (row_rng8 (l := [.int .i64 y.a, .int .i64 y.b, .int .i64 y.c, .int .i64 y.d]) (R0.out.k.rows _ (.head _))) (fun hHeld => ?_)
  generalize w6.drew = y0 at *
  refine takeL 0 (v := ?_) rfl (by kernel_rfl) (by kernel_rfl) (by kernel_rfl) (fun _ _ _ h => h) (Or.inl ⟨by rfl, ?_⟩) hHeld ?_
  rotate_left 1
  · (intro w hSw; go_simp; try with_reducible rfl)
  try simp only [Act.put, List.setIfInBounds_toArray, List.set_cons_zero, List.set_cons_succ]
  refine takeL 2 rfl (by kernel_rfl) (by kernel_rfl) (by kernel_rfl) (fun _ _ _ h => h) (yieldsIf_load_mid (by rfl) _ _ rfl _ _ rfl _ _ (fun w hSw => hSw) Tryd.underlying39 rfl (by kernel_rfl)) hHeld ?_
  try simp only [Act.put, List.setIfInBounds_toArray, List.set_cons_zero, List.set_cons_succ]
  refine stepL 1 (by kernel_rfl) rfl (fun K hK => ?_)
  go_simp
  refine (versions_any (.pointer (some ⟨P, 0, none⟩)) (applyL l v (m.take 40)).2.2 y0 (.inr ⟨P, rfl, R0.out.s⟩)).mono ?_
  rintro e y1 ⟨rfl, hb⟩
  show K _ _
  have R1 := Bx.mk (R0.out.later hb)
  clear hb R0
  refine hK.out _ _ (row_rng8 (l := [.int .i64 y.a, .int .i64 y.b, .int .i64 y.c, .int .i64 y.d]) (R1.out.k.rows _ (.head _))) (fun hHeld => ?_)
  clear hK K
  try simp only [Act.put, List.setIfInBounds_toArray, List.set_cons_zero, List.set_cons_succ]
  refine stepL 3 (by kernel_rfl) rfl (fun K hK => ?_)
  go_simp
  refine (covers_any8 ((applyL l v (m.take 40)).2.2).ver y y1).mono ?_
  rintro e y2 ⟨rfl, hb⟩
  rw [HCo.out _ HX3.out]
  show K _ _
  have R2 := Bx.mk (R1.out.later hb)
  clear hb R1
  refine hK.out _ _ (row_rng8 (l := [.int .i64 y.a, .int .i64 y.b, .int .i64 y.c, .int .i64 y.d]) (R2.out.k.rows _ (.head _))) (fun hHeld => ?_)
  clear hK K
  try simp only [Act.put, List.setIfInBounds_toArray, List.set_cons_zero, List.set_cons_succ]
  refine takeL 4 (v := ?_) rfl (by kernel_rfl) (by kernel_rfl) (by kernel_rfl) (fun _ _ _ h => h) (Or.inl ⟨by rfl, ?_⟩) hHeld ?_
  rotate_left 1
  · (intro w hSw; go_simp; try with_reducible rfl)
  try simp only [Act.put, List.setIfInBounds_toArray, List.set_cons_zero, List.set_cons_succ]
  refine wpAnyH_done (by kernel_rfl) ?_ _
  refine NoPanic.normal ?_
  clear hHeld
  go_wp2
  exact ⟨⟨⟨rfl, rfl⟩, rfl, rfl, rfl⟩, by rw [HEw.out]; exact R2.out.k.below, _, R2.out.s, HG3.out⟩
end Go.Proofs.YtmfhdhggpepbbaaDoor
