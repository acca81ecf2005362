/-
  RevokePlays' walk: whatever is revoked and applied, all that is told is the document's.
-/
import Derived.Test.YtmfhdhggpepbbaaDoorFx
import Derived.Test.YtmfhdhggpepbbaaDoorHp
import Derived.Test.YtmfhdhggpepbbaaDoorJb
import Derived.Test.YtmfhdhggpepbbaaDoorEq
namespace Go.Proofs.YtmfhdhggpepbbaaDoor
open Go Go.RowKit
theorem range_drop9 {W : World} {b o : Nat} {x y z : Value} {l : List Value} (h : W.rangeAt b o (x :: y :: z :: l)) : W.rangeAt b (o + 3) l := fun j u hj => by
  have := h (j + 3) u (by simpa using hj)
  rw [show o + 3 + j = o + (j + 3) by omega]
  exact this
theorem Most.mono9 {l : L4} {n m : Nat} (h : Most l n) (hn : n ≤ m) : Most l m := ⟨Nat.le_trans h.a hn, Nat.le_trans h.b hn, Nat.le_trans h.c hn, Nat.le_trans h.d hn⟩
set_option maxRecDepth 100000 in
theorem open104 {a : Act} (h : Fr 104 a) : ∃ x : Nat → Value, a = ⟨List.toArray (x 0 :: x 1 :: x 2 :: x 3 :: x 4 :: x 5 :: x 6 :: x 7 :: x 8 :: x 9 :: x 10 :: x 11 :: x 12 :: x 13 :: x 14 :: x 15 :: x 16 :: x 17 :: x 18 :: x 19 :: x 20 :: x 21 :: x 22 :: x 23 :: x 24 :: x 25 :: x 26 :: x 27 :: x 28 :: x 29 :: x 30 :: x 31 :: x 32 :: x 33 :: x 34 :: x 35 :: x 36 :: x 37 :: x 38 :: x 39 :: x 40 :: x 41 :: x 42 :: x 43 :: x 44 :: x 45 :: x 46 :: x 47 :: x 48 :: x 49 :: x 50 :: x 51 :: x 52 :: x 53 :: x 54 :: x 55 :: x 56 :: x 57 :: x 58 :: x 59 :: x 60 :: x 61 :: x 62 :: x 63 :: x 64 :: x 65 :: x 66 :: x 67 :: x 68 :: x 69 :: x 70 :: x 71 :: x 72 :: x 73 :: x 74 :: x 75 :: x 76 :: x 77 :: x 78 :: x 79 :: x 80 :: x 81 :: x 82 :: x 83 :: x 84 :: x 85 :: x 86 :: x 87 :: x 88 :: x 89 :: x 90 :: x 91 :: x 92 :: x 93 :: x 94 :: x 95 :: x 96 :: x 97 :: x 98 :: x 99 :: x 100 :: x 101 :: x 102 :: x 103 :: []), []⟩ ∧ ∀ i, a.eval (.tmp i) = x i := ⟨fun i => a.tmps.getD i undef, h.form, fun _ => rfl⟩
/-- What a round leaves alone. -/
structure PA (v0 v1 v5 v6 v7 v8 v9 : Value) (a : Act) : Prop where
  fr : Fr 104 a
  s0 : a.eval (.tmp 0) = v0
  s1 : a.eval (.tmp 1) = v1
  s5 : a.eval (.tmp 5) = v5
  s6 : a.eval (.tmp 6) = v6
  s7 : a.eval (.tmp 7) = v7
  s8 : a.eval (.tmp 8) = v8
  s9 : a.eval (.tmp 9) = v9
/-- The set, the document's, and the copy with its own. -/
structure PL (w : World) (P R C O : Nat) (lp lr : L4) (W : World) : Prop where
  b : Below w.heap.size w W
  p : SetAt W P lp
  r : RAt W R lr
  c : SetAt W C L4.nil
  o : RAt W O L4.nil
/-- Four blocks. -/
structure Dis (E P R C O : Nat) : Prop where
  p : E ≤ P
  r : E ≤ R
  pr : P ≠ R
  pc : C ≠ P
  po : O ≠ P
  rc : C ≠ R
  ro : O ≠ R
theorem PL.later {w : World} {P R C O : Nat} {lp lr : L4} {W W1 : World} (h : PL w P R C O lp lr W) (hb : Below W.heap.size W W1) : PL w P R C O lp lr W1 := ⟨h.b.trans (hb.mono h.b.size), h.p.later hb, h.r.later hb, h.c.later hb, h.o.later hb⟩
theorem PL.onP {w : World} {E P R C O : Nat} {lp lr l1 : L4} {W W1 : World} (h : PL w P R C O lp lr W) (hE : w.heap.size = E) (hd : Dis E P R C O) (hg : W.grownBy W1 (some P)) (hs : SetAt W1 P l1) : PL w P R C O l1 lr W1 := by
  obtain ⟨x, hx, -⟩ := id h.p
  exact ⟨h.b.trans (grown_below hg (by rw [hE]; exact hd.p) h.b.size), hs, h.r.far hg hx set_int hd.pr.symm, h.c.beside h.p hg hd.pc, h.o.far hg hx set_int hd.po⟩
theorem PL.onR {w : World} {E P R C O : Nat} {lp lr l1 : L4} {W W1 : World} (h : PL w P R C O lp lr W) (hE : w.heap.size = E) (hd : Dis E P R C O) (hg : W.grownBy W1 (some R)) (hs : RAt W1 R l1) : PL w P R C O lp l1 W1 := by
  obtain ⟨x, hx, -⟩ := id h.r
  exact ⟨h.b.trans (grown_below hg (by rw [hE]; exact hd.r) h.b.size), h.p.far hg hx rs_int hd.pr, hs, h.c.far hg hx rs_int hd.rc, h.o.far hg hx rs_int hd.ro⟩
/-- What holds between two rounds. -/
structure PT (w : World) (P R C O : Nat) (v0 v1 : Value) (k : Nat) (a : Act) (W : World) : Prop where
  fr : PA v0 v1 (.pointer (some ⟨P, 0, none⟩)) (.pointer (some ⟨R, 0, none⟩)) (.pointer (some ⟨C, 0, none⟩)) (.pointer (some ⟨O, 0, none⟩)) (.int .i64 (k : Int)) a
  st : ∃ l, PL w P R C O l l W ∧ Good l
set_option maxRecDepth 100000 in
set_option maxHeartbeats 4000000 in
theorem roundP_rev (w : World) (E P R C O : Nat) (sv : Int) (acs : List Ac8) (al : Option Addr) (nl cl : Nat) (hA : Acts8 w (.slice al nl cl) acs) (hnl : acs.length = nl) (hE : w.heap.size = E) (hD : Dis E P R C O) (hF : Full w) (hf : 0 < E) (hT : Tab w) (hG : 1 < E) (hn9 : nl ≤ 9223372036854775807)
    (Q : Exit → Act → World → Prop) (k : Nat) (a : Act) (wr : World) (hk : k < nl) (hk8 : k < 12) (hkd : bits .and .i64 (acs.getD k Ac8.zero).kd 1 = 0) (h : PT w P R C O (.slice al nl cl) (.int .i64 sv) k a wr) :
    Code.wp Tryd.prog (loopAt (Tryd.f3.body) 0) (Exit.then (fun a' w' => PT w P R C O (.slice al nl cl) (.int .i64 sv) (k + 1) a' w') Q) a wr := by
  obtain ⟨l, hs, hg⟩ := h.st
  obtain ⟨_, _, hv, _, _, hr⟩ := hA
  injection hv with p1 p2 p3
  subst p1
  clear p2 p3
  obtain ⟨b, o, rfl, hi⟩ := hr (by omega)
  obtain ⟨vl, u, hrg, hin, hru, hfit⟩ := hi k (by omega)
  generalize acs.getD k Ac8.zero = ac at *
  obtain ⟨kd, n, ls, v, m⟩ := ac
  have hll := hfit.l
  have hmm := hfit.m
  simp only at hrg hin hru hll hmm hkd
  clear hi hr hfit
  obtain ⟨ar, cr, rfl, -⟩ := id hin
  have hbl : b < E := by have h0 : b < w.heap.size := World.block_lt_of_cell? _ _ (hrg 0 _ rfl); omega
  have HRg : Bx (∀ W, Below w.heap.size w W → W.rangeAt b (o + k * 11) [.int .i64 kd, .int .i64 n, .slice ar ls.length cr, .int .i64 v.a, .int .i64 v.b, .int .i64 v.c, .int .i64 v.d, u.a, u.b, u.c, u.d]) := ⟨fun W h => range_later hrg (by rw [hE] at h; exact h) hbl⟩
  have HIn : Bx (∀ W, Below w.heap.size w W → Ints W (.slice ar ls.length cr) ls) := ⟨fun W h => hin.later h⟩
  have HRu : Bx (∀ W, Below w.heap.size w W → RowsI W u m) := ⟨fun W h => hru.later h⟩
  have HFu : Bx (∀ W, Below w.heap.size w W → Full W ∧ 0 < W.heap.size) := ⟨fun W h => ⟨hF.later h (by omega), Nat.lt_of_lt_of_le hf (by have := h.size; rw [hE] at this; exact this)⟩⟩
  have HTb : Bx (∀ W, Below w.heap.size w W → Tab W ∧ 1 < W.heap.size) := ⟨fun W h => ⟨hT.later h (by omega), Nat.lt_of_lt_of_le hG (by have := h.size; rw [hE] at this; exact this)⟩⟩
  have HLm := Bx.mk (And.intro hll hmm)
  obtain ⟨nr, hnr⟩ : ∃ n, ls.length = n := ⟨_, rfl⟩
  rw [hnr] at HRg HIn
  have HG := Bx.mk hg
  have S0 := Bx.mk hs
  have HD := Bx.mk (And.intro hE hD)
  have hk1 : (k : Int) < (nl : Int) := by omega
  have hk0 : (0 : Int) ≤ (k : Int) := by omega
  have hk2 : (k : Int) < 12 := by omega
  have hn1 : (nl : Int) ≤ 9223372036854775807 := by omega
  obtain ⟨g, rfl, hg⟩ := open104 h.fr.fr
  have e0 := (hg 0).symm.trans h.fr.s0
  have e1 := (hg 1).symm.trans h.fr.s1
  have e5 := (hg 5).symm.trans h.fr.s5
  have e6 := (hg 6).symm.trans h.fr.s6
  have e7 := (hg 7).symm.trans h.fr.s7
  have e8 := (hg 8).symm.trans h.fr.s8
  have e9 := (hg 9).symm.trans h.fr.s9
  clear h hs hrg hin hru hll hmm hnr hnl hbl hF hf hE hD hT hG
  rw [e0, e1, e5, e6, e7, e8, e9]
  clear e0 e1 e5 e6 e7 e8 e9
  have c2 : wr.cell? ⟨b, o + k * 11 + 2, none⟩ = some (.slice ar nr cr) := HRg.out _ S0.out.b 2 _ rfl
  conv => arg 2; whnf
  go_wp2_with fail
  refine (few8 ls _ 20 wr (HIn.out _ S0.out.b) HLm.out.1 (by omega)).mono ?_
  rintro e w1 ⟨q, rfl, hq, hb⟩
  obtain ⟨aq, cq, hqv⟩ := hq.form
  subst hqv
  have S1 := Bx.mk (S0.out.later hb)
  have HQ := Bx.mk hq
  have HQn : Bx ((ls.take 20).length ≤ 1000) := ⟨by rw [List.length_take]; omega⟩
  clear hb hq c2 S0
  generalize ls.take 20 = ms at *
  obtain ⟨nm, hnm⟩ : ∃ n, ms.length = n := ⟨_, rfl⟩
  rw [hnm] at HQ ⊢
  clear hnm
  have c0 : w1.cell? ⟨b, o + k * 11, none⟩ = some (.int .i64 kd) := HRg.out _ S1.out.b 0 _ rfl
  go_upto_region 11 with fail
  have R0 := Bx.mk (And.intro (S1.out.later (Below.refl _ _).drew) (HQ.out.later (Below.refl _ _).drew))
  clear S1 c0 HQ
  refine wp_region_noPanic ?_
  refine wp_region_held_drew (S := fun W => W.rangeAt b (o + k * 11) [.int .i64 kd, .int .i64 n, .slice ar nr cr, .int .i64 v.a, .int .i64 v.b, .int .i64 v.c, .int .i64 v.d, u.a, u.b, u.c, u.d]) (by kernel_rfl) (HRg.out _ R0.out.1.b) (fun hHeld => ?_)
  generalize w1.drew = W0 at *
  refine takeL 0 (v := ?_) rfl (by kernel_rfl) (by kernel_rfl) (by kernel_rfl) (fun _ _ _ h => h) (Or.inl ⟨by rfl, ?_⟩) hHeld ?_
  rotate_left 1
  · (intro w hSw; go_simp; try with_reducible rfl)
  try simp only [Act.put, List.setIfInBounds_toArray, List.set_cons_zero, List.set_cons_succ]
  refine takeL 1 (v := ?_) rfl (by kernel_rfl) (by kernel_rfl) (by kernel_rfl) (fun _ _ _ h => h) (Or.inl ⟨by rfl, ?_⟩) hHeld ?_
  rotate_left 1
  · (intro w hSw; go_simp; try with_reducible rfl)
  try simp only [Act.put, List.setIfInBounds_toArray, List.set_cons_zero, List.set_cons_succ]
  refine takeL 2 (v := ?_) rfl (by kernel_rfl) (by kernel_rfl) (by kernel_rfl) (fun _ _ _ h => h) (Or.inl ⟨by rfl, ?_⟩) hHeld ?_
  rotate_left 1
  · (intro w hSw; go_simp; try with_reducible rfl)
  try simp only [Act.put, List.setIfInBounds_toArray, List.set_cons_zero, List.set_cons_succ]
  refine takeL 3 (v := ?_) rfl (by kernel_rfl) (by kernel_rfl) (by kernel_rfl) (fun _ _ _ h => h) (Or.inl ⟨by rfl, ?_⟩) hHeld ?_
  rotate_left 1
  · (intro w hSw; go_simp; try with_reducible rfl)
  try simp only [Act.put, List.setIfInBounds_toArray, List.set_cons_zero, List.set_cons_succ]
  refine takeL 4 (v := ?_) rfl (by kernel_rfl) (by kernel_rfl) (by kernel_rfl) (fun _ _ _ h => h) (Or.inl ⟨by rfl, ?_⟩) hHeld ?_
  rotate_left 1
  · (intro w hSw; go_simp; try with_reducible rfl)
  try simp only [Act.put, List.setIfInBounds_toArray, List.set_cons_zero, List.set_cons_succ]
  refine takeL 5 (v := ?_) rfl (by kernel_rfl) (by kernel_rfl) (by kernel_rfl) (fun _ _ _ h => h) (Or.inl ⟨by rfl, ?_⟩) hHeld ?_
  rotate_left 1
  · (intro w hSw; have c1 : w.cell? ⟨b, o + k * 11 + 1, none⟩ = some _ := hSw 1 _ rfl; go_simp; try with_reducible rfl)
  try simp only [Act.put, List.setIfInBounds_toArray, List.set_cons_zero, List.set_cons_succ]
  refine takeL 6 (v := ?_) rfl (by kernel_rfl) (by kernel_rfl) (by kernel_rfl) (fun _ _ _ h => h) (Or.inl ⟨by rfl, ?_⟩) hHeld ?_
  rotate_left 1
  · (intro w hSw; go_simp; try with_reducible rfl)
  try simp only [Act.put, List.setIfInBounds_toArray, List.set_cons_zero, List.set_cons_succ]
  refine takeL 8 (v := ?_) rfl (by kernel_rfl) (by kernel_rfl) (by kernel_rfl) (fun _ _ _ h => h) (Or.inl ⟨by rfl, ?_⟩) hHeld ?_
  rotate_left 1
  · (intro w hSw; go_simp; try with_reducible rfl)
  try simp only [Act.put, List.setIfInBounds_toArray, List.set_cons_zero, List.set_cons_succ]
  refine takeL 9 (v := ?_) rfl (by kernel_rfl) (by kernel_rfl) (by kernel_rfl) (fun _ _ _ h => h) (Or.inl ⟨by rfl, ?_⟩) hHeld ?_
  rotate_left 1
  · (intro w hSw; go_simp; try with_reducible rfl)
  try simp only [Act.put, List.setIfInBounds_toArray, List.set_cons_zero, List.set_cons_succ]
  refine takeL 10 (v := ?_) rfl (by kernel_rfl) (by kernel_rfl) (by kernel_rfl) (fun _ _ _ h => h) (Or.inl ⟨by rfl, ?_⟩) hHeld ?_
  rotate_left 1
  · (intro w hSw; go_simp; try with_reducible rfl)
  try simp only [Act.put, List.setIfInBounds_toArray, List.set_cons_zero, List.set_cons_succ]
  refine takeL 11 (v := ?_) rfl (by kernel_rfl) (by kernel_rfl) (by kernel_rfl) (fun _ _ _ h => h) (Or.inl ⟨by rfl, ?_⟩) hHeld ?_
  rotate_left 1
  · (intro w hSw; go_simp; try with_reducible rfl)
  try simp only [Act.put, List.setIfInBounds_toArray, List.set_cons_zero, List.set_cons_succ]
  refine takeL 12 (v := ?_) rfl (by kernel_rfl) (by kernel_rfl) (by kernel_rfl) (fun _ _ _ h => h) (Or.inl ⟨by rfl, ?_⟩) hHeld ?_
  rotate_left 1
  · (intro w hSw; go_simp; try with_reducible rfl)
  try simp only [Act.put, List.setIfInBounds_toArray, List.set_cons_zero, List.set_cons_succ]
  refine takeL 13 (v := ?_) rfl (by kernel_rfl) (by kernel_rfl) (by kernel_rfl) (fun _ _ _ h => h) (Or.inl ⟨by rfl, ?_⟩) hHeld ?_
  rotate_left 1
  · (intro w hSw; have c1 : w.cell? ⟨b, o + k * 11 + 1, none⟩ = some _ := hSw 1 _ rfl; go_simp; try with_reducible rfl)
  try simp only [Act.put, List.setIfInBounds_toArray, List.set_cons_zero, List.set_cons_succ]
  refine takeL 14 (v := ?_) rfl (by kernel_rfl) (by kernel_rfl) (by kernel_rfl) (fun _ _ _ h => h) (Or.inl ⟨by rfl, ?_⟩) hHeld ?_
  rotate_left 1
  · (intro w hSw; go_simp; try with_reducible rfl)
  try simp only [Act.put, List.setIfInBounds_toArray, List.set_cons_zero, List.set_cons_succ]
  refine stepL 7 (by kernel_rfl) rfl (fun K hK => ?_)
  go_simp
  refine (revoke_any n _ ms P l W0 R0.out.1.p HG.out R0.out.2 HQn.out).mono ?_
  rintro e W1 ⟨rfl, hs2, hg2⟩
  show K _ _
  have R1 := Bx.mk (And.intro (R0.out.1.onP HD.out.1 HD.out.2 hg2 hs2) (R0.out.2.beside R0.out.1.p hg2))
  clear hs2 hg2 R0
  refine hK.out _ _ (HRg.out _ R1.out.1.b) (fun hHeld => ?_)
  clear hK K
  try simp only [Act.put, List.setIfInBounds_toArray, List.set_cons_zero, List.set_cons_succ]
  refine stepL 15 (by kernel_rfl) rfl (fun K hK => ?_)
  go_simp
  refine (rrev8 n _ ms R l W1 R1.out.1.r HG.out R1.out.2 HQn.out).mono ?_
  rintro e W2 ⟨rfl, hs2, hg2⟩
  show K _ _
  have S2 := Bx.mk (R1.out.1.onR HD.out.1 HD.out.2 hg2 hs2)
  clear hs2 hg2 R1
  refine hK.out _ _ (HRg.out _ S2.out.b) (fun hHeld => ?_)
  clear hK K
  try simp only [Act.put, List.setIfInBounds_toArray, List.set_cons_zero, List.set_cons_succ]
  refine takeL 16 (v := ?_) rfl (by kernel_rfl) (by kernel_rfl) (by kernel_rfl) (fun _ _ _ h => h) (Or.inl ⟨by rfl, ?_⟩) hHeld ?_
  rotate_left 1
  · (intro w hSw; go_simp; try with_reducible rfl)
  try simp only [Act.put, List.setIfInBounds_toArray, List.set_cons_zero, List.set_cons_succ]
  refine wpAnyH_done (by kernel_rfl) ?_ _
  refine NoPanic.normal ?_
  clear hHeld
  go_wp2_with fail
  refine (tells8 P R sv ((revL l n ms).2) W2 S2.out.p S2.out.r (revL_good HG.out n ms) (HTb.out _ S2.out.b).1 (HTb.out _ S2.out.b).2).mono ?_
  rintro e w9 ⟨rfl, hb⟩
  have S9 := Bx.mk (S2.out.later hb)
  have HG9 := Bx.mk (revL_good HG.out n ms)
  clear hb S2
  go_wp2
  exact ⟨⟨⟨rfl, rfl⟩, rfl, rfl, rfl, rfl, rfl, rfl, rfl⟩, _, S9.out, HG9.out⟩
set_option maxRecDepth 100000 in
set_option maxHeartbeats 4000000 in
theorem roundP_app (w : World) (E P R C O : Nat) (sv : Int) (acs : List Ac8) (al : Option Addr) (nl cl : Nat) (hA : Acts8 w (.slice al nl cl) acs) (hnl : acs.length = nl) (hE : w.heap.size = E) (hD : Dis E P R C O) (hF : Full w) (hf : 0 < E) (hT : Tab w) (hG : 1 < E) (hn9 : nl ≤ 9223372036854775807)
    (Q : Exit → Act → World → Prop) (k : Nat) (a : Act) (wr : World) (hk : k < nl) (hk8 : k < 12) (hkd : ¬ bits .and .i64 (acs.getD k Ac8.zero).kd 1 = 0) (h : PT w P R C O (.slice al nl cl) (.int .i64 sv) k a wr) :
    Code.wp Tryd.prog (loopAt (Tryd.f3.body) 0) (Exit.then (fun a' w' => PT w P R C O (.slice al nl cl) (.int .i64 sv) (k + 1) a' w') Q) a wr := by
  obtain ⟨l, hs, hg⟩ := h.st
  obtain ⟨_, _, hv, _, _, hr⟩ := hA
  injection hv with p1 p2 p3
  subst p1
  clear p2 p3
  obtain ⟨b, o, rfl, hi⟩ := hr (by omega)
  obtain ⟨vl, u, hrg, hin, hru, hfit⟩ := hi k (by omega)
  generalize acs.getD k Ac8.zero = ac at *
  obtain ⟨kd, n, ls, v, m⟩ := ac
  have hll := hfit.l
  have hmm := hfit.m
  simp only at hrg hin hru hll hmm hkd
  clear hi hr hfit
  obtain ⟨ar, cr, rfl, -⟩ := id hin
  have hbl : b < E := by have h0 : b < w.heap.size := World.block_lt_of_cell? _ _ (hrg 0 _ rfl); omega
  have HRg : Bx (∀ W, Below w.heap.size w W → W.rangeAt b (o + k * 11) [.int .i64 kd, .int .i64 n, .slice ar ls.length cr, .int .i64 v.a, .int .i64 v.b, .int .i64 v.c, .int .i64 v.d, u.a, u.b, u.c, u.d]) := ⟨fun W h => range_later hrg (by rw [hE] at h; exact h) hbl⟩
  have HIn : Bx (∀ W, Below w.heap.size w W → Ints W (.slice ar ls.length cr) ls) := ⟨fun W h => hin.later h⟩
  have HRu : Bx (∀ W, Below w.heap.size w W → RowsI W u m) := ⟨fun W h => hru.later h⟩
  have HFu : Bx (∀ W, Below w.heap.size w W → Full W ∧ 0 < W.heap.size) := ⟨fun W h => ⟨hF.later h (by omega), Nat.lt_of_lt_of_le hf (by have := h.size; rw [hE] at this; exact this)⟩⟩
  have HTb : Bx (∀ W, Below w.heap.size w W → Tab W ∧ 1 < W.heap.size) := ⟨fun W h => ⟨hT.later h (by omega), Nat.lt_of_lt_of_le hG (by have := h.size; rw [hE] at this; exact this)⟩⟩
  have HLm := Bx.mk (And.intro hll hmm)
  obtain ⟨nr, hnr⟩ : ∃ n, ls.length = n := ⟨_, rfl⟩
  rw [hnr] at HRg HIn
  have HG := Bx.mk hg
  have S0 := Bx.mk hs
  have HD := Bx.mk (And.intro hE hD)
  have hk1 : (k : Int) < (nl : Int) := by omega
  have hk0 : (0 : Int) ≤ (k : Int) := by omega
  have hk2 : (k : Int) < 12 := by omega
  have hn1 : (nl : Int) ≤ 9223372036854775807 := by omega
  obtain ⟨g, rfl, hg⟩ := open104 h.fr.fr
  have e0 := (hg 0).symm.trans h.fr.s0
  have e1 := (hg 1).symm.trans h.fr.s1
  have e5 := (hg 5).symm.trans h.fr.s5
  have e6 := (hg 6).symm.trans h.fr.s6
  have e7 := (hg 7).symm.trans h.fr.s7
  have e8 := (hg 8).symm.trans h.fr.s8
  have e9 := (hg 9).symm.trans h.fr.s9
  clear h hs hrg hin hru hll hmm hnr hnl hbl hF hf hE hD hT hG
  rw [e0, e1, e5, e6, e7, e8, e9]
  clear e0 e1 e5 e6 e7 e8 e9
  have c2 : wr.cell? ⟨b, o + k * 11 + 2, none⟩ = some (.slice ar nr cr) := HRg.out _ S0.out.b 2 _ rfl
  conv => arg 2; whnf
  go_wp2_with fail
  refine (few8 ls _ 20 wr (HIn.out _ S0.out.b) HLm.out.1 (by omega)).mono ?_
  rintro e w1 ⟨q, rfl, hq, hb⟩
  obtain ⟨aq, cq, hqv⟩ := hq.form
  subst hqv
  have S1 := Bx.mk (S0.out.later hb)
  have HQ := Bx.mk hq
  have HQn : Bx ((ls.take 20).length ≤ 1000) := ⟨by rw [List.length_take]; omega⟩
  clear hb hq c2 S0
  generalize ls.take 20 = ms at *
  obtain ⟨nm, hnm⟩ : ∃ n, ms.length = n := ⟨_, rfl⟩
  rw [hnm] at HQ ⊢
  clear hnm
  have c0 : w1.cell? ⟨b, o + k * 11, none⟩ = some (.int .i64 kd) := HRg.out _ S1.out.b 0 _ rfl
  have HR3 : Bx (∀ W, Below w.heap.size w W → W.rangeAt b (o + k * 11 + 3) [.int .i64 v.a, .int .i64 v.b, .int .i64 v.c, .int .i64 v.d, u.a, u.b, u.c, u.d]) := ⟨fun W h => range_drop9 (HRg.out W h)⟩
  go_wp2_with (refine wpList_load_mid rfl 33 _ rfl b (o + k * 11 + 3) (by rfl) _ _ (HR3.out _ S1.out.b) Tryd.underlying33 rfl (by kernel_rfl) ?_)
  refine (to8 v u m w1 (HRu.out _ S1.out.b) HLm.out.2).mono ?_
  rintro e w2 ⟨uu, rfl, hu, hb⟩
  have HM1 : Bx (Most (m.take 40) 1000) := ⟨Most.mono9 (Most.take m 40) (by omega)⟩
  have HM2 : Bx (Most (m.take 40) 256) := ⟨Most.mono9 (Most.take m 40) (by omega)⟩
  generalize m.take 40 = d at *
  obtain ⟨xp, xq, xt, xs, ca, cb, cc, cd, rfl⟩ := hu.forms
  obtain ⟨X, hX⟩ : ∃ X, w2.heap.size = X := ⟨_, rfl⟩
  have S3 : Bx (PL w P R C O l l (w2.alloc (.cells #[.int .i64 v.a, .int .i64 v.b, .int .i64 v.c, .int .i64 v.d, .slice xp d.a.length ca, .slice xq d.b.length cb, .slice xt d.c.length cc, .slice xs d.d.length cd] 41)) ∧ Rows4 (w2.alloc (.cells #[.int .i64 v.a, .int .i64 v.b, .int .i64 v.c, .int .i64 v.d, .slice xp d.a.length ca, .slice xq d.b.length cb, .slice xt d.c.length cc, .slice xs d.d.length cd] 41)) (VV.mk (.slice xp d.a.length ca) (.slice xq d.b.length cb) (.slice xt d.c.length cc) (.slice xs d.d.length cd)) d ∧ (w2.alloc (.cells #[.int .i64 v.a, .int .i64 v.b, .int .i64 v.c, .int .i64 v.d, .slice xp d.a.length ca, .slice xq d.b.length cb, .slice xt d.c.length cc, .slice xs d.d.length cd] 41)).heap[X]? = some (.cells #[.int .i64 v.a, .int .i64 v.b, .int .i64 v.c, .int .i64 v.d, .slice xp d.a.length ca, .slice xq d.b.length cb, .slice xt d.c.length cc, .slice xs d.d.length cd] 41 (0, 0)) ∧ P < X ∧ R < X) := ⟨by
    have h0 := S1.out.later hb
    refine ⟨h0.later (below_a _), hu.later (below_a _), hnew _ _ _ hX.symm, ?_, ?_⟩
    · rw [← hX]; exact h0.p.lt
    · rw [← hX]; exact h0.r.lt⟩
  clear hb hu S1 c0 HQ
  unfold dC
  simp only
  go_wp2_with (refine wpList_load_row rfl 41 _ rfl X (by rfl) _ #[.int .i64 v.a, .int .i64 v.b, .int .i64 v.c, .int .i64 v.d, .slice xp d.a.length ca, .slice xq d.b.length cb, .slice xt d.c.length cc, .slice xs d.d.length cd] (0, 0) _ S3.out.2.2.1 Tryd.underlying41 rfl (by kernel_rfl) ?_)
  generalize w2.alloc _ = w3 at *
  refine (apply_any v (VV.mk (.slice xp d.a.length ca) (.slice xq d.b.length cb) (.slice xt d.c.length cc) (.slice xs d.d.length cd)) d l P w3 S3.out.2.1 HM1.out S3.out.1.p (HFu.out _ S3.out.1.b).1 (HFu.out _ S3.out.1.b).2 HG.out).mono ?_
  rintro e w4 ⟨rfl, hs2, hg2⟩
  have S4 : Bx (PL w P R C O (applyL l v d).2.2 l w4 ∧ Rows4 w4 (VV.mk (.slice xp d.a.length ca) (.slice xq d.b.length cb) (.slice xt d.c.length cc) (.slice xs d.d.length cd)) d ∧ w4.heap[X]? = some (.cells #[.int .i64 v.a, .int .i64 v.b, .int .i64 v.c, .int .i64 v.d, .slice xp d.a.length ca, .slice xq d.b.length cb, .slice xt d.c.length cc, .slice xs d.d.length cd] 41 (0, 0))) := ⟨S3.out.1.onP HD.out.1 HD.out.2 hg2 hs2, S3.out.2.1.beside S3.out.1.p hg2, by rw [hg2.block X (Array.getElem?_eq_some_iff.1 S3.out.2.2.1).1 (fun e => by injection e with e; have := S3.out.2.2.2.1; omega)]; exact S3.out.2.2.1⟩
  clear hs2 hg2 S3
  go_wp2_with (refine wpList_load_row rfl 41 _ rfl X (by rfl) _ #[.int .i64 v.a, .int .i64 v.b, .int .i64 v.c, .int .i64 v.d, .slice xp d.a.length ca, .slice xq d.b.length cb, .slice xt d.c.length cc, .slice xs d.d.length cd] (0, 0) _ S4.out.2.2 Tryd.underlying41 rfl (by kernel_rfl) ?_)
  refine (of8 v (VV.mk (.slice xp d.a.length ca) (.slice xq d.b.length cb) (.slice xt d.c.length cc) (.slice xs d.d.length cd)) d w4 S4.out.2.1).mono ?_
  rintro e w5 ⟨rfl, hb⟩
  have S5 := Bx.mk (And.intro (S4.out.1.later hb) (S4.out.2.1.later hb))
  clear hb S4
  unfold dC
  simp only
  go_wp2_with fail
  refine (rapply8 v (VV.mk (.slice xp d.a.length ca) (.slice xq d.b.length cb) (.slice xt d.c.length cc) (.slice xs d.d.length cd)) d l R w5 S5.out.2 HM2.out S5.out.1.r HG.out).mono ?_
  rintro e w6 ⟨rfl, hs2, hg2⟩
  have S6 := Bx.mk (S5.out.1.onR HD.out.1 HD.out.2 hg2 hs2)
  clear hs2 hg2 S5
  go_wp2_with fail
  refine (tells8 P R sv ((applyL l v d).2.2) w6 S6.out.p S6.out.r (applyL_good HG.out v d) (HTb.out _ S6.out.b).1 (HTb.out _ S6.out.b).2).mono ?_
  rintro e w9 ⟨rfl, hb⟩
  have S9 := Bx.mk (S6.out.later hb)
  have HG9 := Bx.mk (applyL_good HG.out v d)
  clear hb S6
  go_wp2
  exact ⟨⟨⟨rfl, rfl⟩, rfl, rfl, rfl, rfl, rfl, rfl, rfl⟩, _, S9.out, HG9.out⟩
set_option maxRecDepth 100000 in
set_option maxHeartbeats 1000000 in
theorem lastP (w : World) (P R C O : Nat) (va v1 : Value) (al : Option Addr) (nl cl : Nat) (hva : va = .slice al nl cl) (hn9 : nl ≤ 9223372036854775807)
    (Q : Exit → Act → World → Prop) (N : Act → World → Prop) (k : Nat) (a : Act) (wr : World) (hk : ¬ (k < nl ∧ k < 12)) (hk8 : k ≤ 12) (h : PT w P R C O va v1 k a wr)
    (hq : ∀ a' w', PT w P R C O va v1 k a' w' → Q (.exit 0) a' w') : Code.wp Tryd.prog (loopAt (Tryd.f3.body) 0) (Exit.then N Q) a wr := by
  subst hva
  have HQ := Bx.mk hq
  have HS := Bx.mk h.st
  have hn1 : (nl : Int) ≤ 9223372036854775807 := by omega
  have hk1 : (k : Int) ≤ 12 := by omega
  obtain ⟨g, rfl, hg⟩ := open104 h.fr.fr
  have e0 := (hg 0).symm.trans h.fr.s0
  have e1 := (hg 1).symm.trans h.fr.s1
  have e5 := (hg 5).symm.trans h.fr.s5
  have e6 := (hg 6).symm.trans h.fr.s6
  have e7 := (hg 7).symm.trans h.fr.s7
  have e8 := (hg 8).symm.trans h.fr.s8
  have e9 := (hg 9).symm.trans h.fr.s9
  clear h hg hq
  rw [e0, e1, e5, e6, e7, e8, e9]
  clear e0 e1 e5 e6 e7 e8 e9
  by_cases hlt : k < nl
  · have t1 : (k : Int) < (nl : Int) := by omega
    have t2 : ¬ (k : Int) < 12 := by omega
    conv => arg 2; whnf
    go_wp2
    exact HQ.out _ _ ⟨⟨⟨rfl, rfl⟩, rfl, rfl, rfl, rfl, rfl, rfl, rfl⟩, HS.out⟩
  · have t1 : ¬ (k : Int) < (nl : Int) := by omega
    conv => arg 2; whnf
    go_wp2
    exact HQ.out _ _ ⟨⟨⟨rfl, rfl⟩, rfl, rfl, rfl, rfl, rfl, rfl, rfl⟩, HS.out⟩
theorem loopP (w : World) (E P R C O : Nat) (sv : Int) (acs : List Ac8) (al : Option Addr) (nl cl : Nat) (hA : Acts8 w (.slice al nl cl) acs) (hnl : acs.length = nl) (hE : w.heap.size = E) (hD : Dis E P R C O) (hF : Full w) (hf : 0 < E) (hT : Tab w) (hG : 1 < E) (hn9 : nl ≤ 9223372036854775807)
    (Q : Exit → Act → World → Prop) (a : Act) (wr : World) (h : PT w P R C O (.slice al nl cl) (.int .i64 sv) 0 a wr) (hq : ∀ k a' w', PT w P R C O (.slice al nl cl) (.int .i64 sv) k a' w' → Q (.exit 0) a' w') : Code.wp Tryd.prog (.loop (loopAt (Tryd.f3.body) 0)) Q a wr :=
  wp_count (min nl 12) (fun k a w' => PT w P R C O (.slice al nl cl) (.int .i64 sv) k a w') 0 (Nat.zero_le _) h (fun k a w' hk hI => by
    by_cases hc : bits .and .i64 (acs.getD k Ac8.zero).kd 1 = 0
    · exact roundP_rev w E P R C O sv acs al nl cl hA hnl hE hD hF hf hT hG hn9 Q k a w' (by omega) (by omega) hc hI
    · exact roundP_app w E P R C O sv acs al nl cl hA hnl hE hD hF hf hT hG hn9 Q k a w' (by omega) (by omega) hc hI) (fun a w' hI => lastP w P R C O _ _ al nl cl rfl hn9 Q _ (min nl 12) a w' (by omega) (by omega) hI (fun a' w'' h1 => hq _ a' w'' h1))
set_option maxRecDepth 100000 in
set_option maxHeartbeats 4000000 in
theorem plays_walk (acs : List Ac8) (v : Value) (sv : Int) (w : World) (hA : Acts8 w v acs) (hn : acs.length ≤ 9223372036854775807) (hF : Full w) (hf : 0 < w.heap.size) (hT : Tab w) (hG : 1 < w.heap.size) :
    Calls Tryd.prog 3 #[v, .int .i64 sv] w fun e w' => e = .returned (.bool true) ∧ Below w.heap.size w w' := by
  obtain ⟨al, cl, rfl, -⟩ := id hA
  obtain ⟨nl, hnl⟩ : ∃ n, acs.length = n := ⟨_, rfl⟩
  rw [hnl] at hA hn ⊢
  have HTb : Bx (∀ W, Below w.heap.size w W → Tab W ∧ 1 < W.heap.size) := ⟨fun W h => ⟨hT.later h hG, Nat.lt_of_lt_of_le hG h.size⟩⟩
  obtain ⟨E, hE⟩ : ∃ E, w.heap.size = E := ⟨_, rfl⟩
  have hf' := hf
  have hG' := hG
  rw [hE] at hf' hG'
  have HL := Bx.mk (fun P R C O hD => loopP w E P R C O sv acs al nl cl hA hnl hE hD hF hf' hT hG' hn)
  have hN := Bx.mk (new_any8 w)
  have hbs := build_rs0
  have HE := Bx.mk hE
  clear hA hF hf hT hG hf' hG' hnl
  go_enter Tryd.func3, Tryd.ntmps3
  go_wp2_with fail
  refine hN.out.mono ?_
  rintro e w1 ⟨rfl, hs, hb, hz⟩
  have R1 : Bx (SetAt (w1.alloc (.cells #[.slice none 0 0, .slice none 0 0, .slice none 0 0, .slice none 0 0] 29)) E L4.nil ∧ RAt (w1.alloc (.cells #[.slice none 0 0, .slice none 0 0, .slice none 0 0, .slice none 0 0] 29)) (E + 1) L4.nil ∧ Below w.heap.size w (w1.alloc (.cells #[.slice none 0 0, .slice none 0 0, .slice none 0 0, .slice none 0 0] 29)) ∧ (w1.alloc (.cells #[.slice none 0 0, .slice none 0 0, .slice none 0 0, .slice none 0 0] 29)).heap.size = E + 2) := ⟨by
    rw [hE] at hs hz
    refine ⟨hs.later (below_a _), ⟨VV.nil, hnew _ _ _ (by omega), Rows4.nil _⟩, hb.trans ((below_a _).mono hb.size), by simp; omega⟩⟩
  rw [hE] at hz ⊢
  clear hs hb hN
  go_wp2_with fail
  generalize hw2 : w1.alloc _ = w2 at *
  clear hz hw2
  have hz2 := R1.out.2.2.2
  refine (copy_any E L4.nil w2 R1.out.1 Good.nil).mono ?_
  rw [hz2]
  rintro e w3 ⟨rfl, hs, hb⟩
  rw [← hz2] at hb
  obtain ⟨O, hO⟩ : ∃ O, w3.heap.size = O := ⟨_, rfl⟩
  have hCO : E + 2 < O := by rw [← hO]; exact hs.lt
  have R3 : Bx (PL w E (E + 1) (E + 2) O L4.nil L4.nil (w3.alloc (.cells #[.slice none 0 0, .slice none 0 0, .slice none 0 0, .slice none 0 0] 29))) := ⟨⟨(R1.out.2.2.1.trans (hb.mono R1.out.2.2.1.size)).trans ((below_a _).mono ((R1.out.2.2.1.trans (hb.mono R1.out.2.2.1.size)).size)), (R1.out.1.later hb).later (below_a _), (R1.out.2.1.later hb).later (below_a _), hs.later (below_a _), ⟨VV.nil, hnew _ _ _ hO.symm, Rows4.nil _⟩⟩⟩
  have HD : Bx (Dis E E (E + 1) (E + 2) O) := ⟨⟨Nat.le_refl _, by omega, by omega, by omega, by omega, by omega, by omega⟩⟩
  clear hs hb R1 hz2 hCO
  go_wp2_with fail
  generalize w3.alloc _ = w4 at *
  clear hO
  refine (HL.out E (E + 1) (E + 2) O HD.out) _ _ w4 ⟨⟨⟨rfl, rfl⟩, rfl, rfl, rfl, rfl, rfl, rfl, rfl⟩, _, R3.out, Good.nil⟩ ?_
  intro k a5 w5 h5
  obtain ⟨l, h5l, -⟩ := h5.st
  have R5 := Bx.mk h5l
  obtain ⟨z, rfl, hz⟩ := open104 h5.fr.fr
  have f0 := (hz 0).symm.trans h5.fr.s0
  have f1 := (hz 1).symm.trans h5.fr.s1
  have f5 := (hz 5).symm.trans h5.fr.s5
  have f6 := (hz 6).symm.trans h5.fr.s6
  have f7 := (hz 7).symm.trans h5.fr.s7
  have f8 := (hz 8).symm.trans h5.fr.s8
  have f9 := (hz 9).symm.trans h5.fr.s9
  clear h5 hz h5l R3 HL
  rw [f0, f1, f5, f6, f7, f8, f9]
  clear f0 f1 f5 f6 f7 f8 f9
  go_wp2_with fail
  refine (known8_any w5).mono ?_
  rintro e w6 ⟨rfl, hb⟩
  have R6 := Bx.mk (R5.out.later hb)
  clear hb R5
  go_wp2_with fail
  refine (tells8 (E + 2) O sv L4.nil w6 R6.out.c R6.out.o Good.nil (HTb.out _ R6.out.b).1 (HTb.out _ R6.out.b).2).mono ?_
  rintro e w7 ⟨rfl, hb⟩
  have R7 := Bx.mk (R6.out.later hb)
  clear hb R6
  go_wp2
  go_ret
  exact ⟨rfl, R7.out.b⟩
end Go.Proofs.YtmfhdhggpepbbaaDoor
