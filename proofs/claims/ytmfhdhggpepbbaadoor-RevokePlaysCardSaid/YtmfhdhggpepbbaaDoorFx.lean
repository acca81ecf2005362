/-
  RevokePlays: what a set tells is the document's.
-/
import Derived.Test.YtmfhdhggpepbbaaDoorFq
namespace Go.Proofs.YtmfhdhggpepbbaaDoor
open Go Go.RowKit
set_option maxRecDepth 100000 in
set_option maxHeartbeats 2000000 in
theorem roundTC (w : World) (p q : Nat) (sv : Int) (l : L4) (hg : Good l) (Q : Exit → Act → World → Prop) (i : Nat) (a : Act) (wr : World) (hi : i < 4)
    (h : TB (.pointer (some ⟨p, 0, none⟩)) (.pointer (some ⟨q, 0, none⟩)) (.int .i64 sv) (.int .i64 (i : Int)) a) (ht : TW w p q l wr) :
    Code.wp Tryd.prog (loopAt (Tryd.f18.body) 2) (Exit.then (fun a' w' => TB (.pointer (some ⟨p, 0, none⟩)) (.pointer (some ⟨q, 0, none⟩)) (.int .i64 sv) (.int .i64 ((i + 1 : Nat) : Int)) a' ∧ TW w p q l w') Q) a wr := by
  have HL := Bx.mk (fun Q a wr h1 h2 h3 h4 => loopTB w p q sv l hg Q i a wr hi h1 h2 h3 h4)
  have HT := Bx.mk ht
  have hi0 : (0 : Int) ≤ (i : Int) := by omega
  have hi1 : (i : Int) < 4 := by omega
  obtain ⟨y, rfl, hy⟩ := open128 h.fr
  have e0 := (hy 0).symm.trans h.s0
  have e1 := (hy 1).symm.trans h.s1
  have e2 := (hy 2).symm.trans h.s2
  have e11 := (hy 11).symm.trans h.s11
  clear h ht hy hg
  rw [e0, e1, e2, e11]
  clear e0 e1 e2 e11
  conv => arg 2; whnf
  go_wp2_with fail
  refine HL.out _ _ wr ⟨⟨rfl, rfl⟩, rfl, rfl, rfl, rfl⟩ (by first | rfl | go_num) HT.out ?_
  intro a5 w5 h5 ht5
  have HT5 := Bx.mk ht5
  obtain ⟨z, rfl, hz⟩ := open128 h5.fr
  have f0 := (hz 0).symm.trans h5.s0
  have f1 := (hz 1).symm.trans h5.s1
  have f2 := (hz 2).symm.trans h5.s2
  have f11 := (hz 11).symm.trans h5.s11
  clear h5 hz ht5 HT HL
  rw [f0, f1, f2, f11]
  clear f0 f1 f2 f11
  go_wp2
  exact ⟨⟨⟨rfl, rfl⟩, rfl, rfl, rfl, by first | rfl | go_num⟩, HT5.out⟩
set_option maxRecDepth 100000 in
theorem lastTC (w : World) (p q : Nat) (sv : Int) (l : L4) (Q : Exit → Act → World → Prop) (N : Act → World → Prop) (a : Act) (wr : World)
    (h : TB (.pointer (some ⟨p, 0, none⟩)) (.pointer (some ⟨q, 0, none⟩)) (.int .i64 sv) (.int .i64 ((4 : Nat) : Int)) a) (ht : TW w p q l wr) (hq : ∀ a' w', TB (.pointer (some ⟨p, 0, none⟩)) (.pointer (some ⟨q, 0, none⟩)) (.int .i64 sv) (.int .i64 ((4 : Nat) : Int)) a' → TW w p q l w' → Q (.exit 4) a' w') :
    Code.wp Tryd.prog (loopAt (Tryd.f18.body) 2) (Exit.then N Q) a wr := by
  have HQ := Bx.mk hq
  have HT := Bx.mk ht
  obtain ⟨y, rfl, hy⟩ := open128 h.fr
  have e0 := (hy 0).symm.trans h.s0
  have e1 := (hy 1).symm.trans h.s1
  have e2 := (hy 2).symm.trans h.s2
  have e11 := (hy 11).symm.trans h.s11
  clear h ht hy hq
  rw [e0, e1, e2, e11]
  clear e0 e1 e2 e11
  conv => arg 2; whnf
  go_wp2
  exact HQ.out _ _ ⟨⟨rfl, rfl⟩, rfl, rfl, rfl, rfl⟩ HT.out
theorem loopTC (w : World) (p q : Nat) (sv : Int) (l : L4) (hg : Good l) (Q : Exit → Act → World → Prop) (a : Act) (wr : World)
    (h : TB (.pointer (some ⟨p, 0, none⟩)) (.pointer (some ⟨q, 0, none⟩)) (.int .i64 sv) (.int .i64 0) a) (ht : TW w p q l wr) (hq : ∀ a' w', TB (.pointer (some ⟨p, 0, none⟩)) (.pointer (some ⟨q, 0, none⟩)) (.int .i64 sv) (.int .i64 ((4 : Nat) : Int)) a' → TW w p q l w' → Q (.exit 4) a' w') : Code.wp Tryd.prog (.loop (loopAt (Tryd.f18.body) 2)) Q a wr :=
  wp_count 4 (fun i a' w' => TB (.pointer (some ⟨p, 0, none⟩)) (.pointer (some ⟨q, 0, none⟩)) (.int .i64 sv) (.int .i64 (i : Int)) a' ∧ TW w p q l w') 0 (Nat.zero_le _) ⟨h, ht⟩
    (fun i a' w' hi hI => roundTC w p q sv l hg Q i a' w' hi hI.1 hI.2) (fun a' w' hI => lastTC w p q sv l Q _ a' w' hI.1 hI.2 hq)
set_option maxRecDepth 100000 in
set_option maxHeartbeats 8000000 in
theorem tells8 (p q : Nat) (sv : Int) (l : L4) (w : World) (hs : SetAt w p l) (hr : RAt w q l) (hg : Good l) (hTb : Tab w) (hG : 1 < w.heap.size) :
    Calls Tryd.prog 18 #[.pointer (some ⟨p, 0, none⟩), .pointer (some ⟨q, 0, none⟩), .int .i64 sv] w fun e w' => e = .returned (.bool true) ∧ Below w.heap.size w w' := by
  have HTab : Bx (∀ W, Below w.heap.size w W → Tab W ∧ 1 < W.heap.size) := ⟨fun W h => ⟨hTb.later h hG, Nat.lt_of_lt_of_le hG h.size⟩⟩
  have T0 : Bx (TW w p q l w) := ⟨Below.refl _ _, hs, hr⟩
  have HG := Bx.mk hg
  have HLA := Bx.mk (fun Q a wr aw cw h1 h2 h3 h4 h5 => loopTA w p q sv l hg aw (allL l).length cw (allL l) (fun x hx => mem_allL hx) (allL_rising l) rfl (Nat.le_trans (length_allL l) (by have := hg.a; have := hg.b; have := hg.c; have := hg.d; omega)) Q a wr h1 h2 h3 h4 h5)
  have HAll := Bx.mk (fun (W : World) (h : SetAt W p l) => all8 (.pointer (some ⟨p, 0, none⟩)) l W (.inr ⟨p, rfl, h⟩) hg)
  generalize allL l = al at *
  obtain ⟨n, hn⟩ : ∃ n, al.length = n := ⟨_, rfl⟩
  rw [hn] at HLA HAll
  have HLC := Bx.mk (loopTC w p q sv l hg)
  obtain ⟨la, hla⟩ : ∃ n, l.a.length = n := ⟨_, rfl⟩
  obtain ⟨lb, hlb⟩ : ∃ n, l.b.length = n := ⟨_, rfl⟩
  obtain ⟨lc, hlc⟩ : ∃ n, l.c.length = n := ⟨_, rfl⟩
  obtain ⟨ld, hld⟩ : ∃ n, l.d.length = n := ⟨_, rfl⟩
  have HV : Bx (∀ W, SetAt W p l → Calls Tryd.prog 21 #[(.pointer (some ⟨p, 0, none⟩))] W fun e w' => e = .returned (.agg #[.int .i64 (la : Int), .int .i64 (lb : Int), .int .i64 (lc : Int), .int .i64 (ld : Int)]) ∧ Below W.heap.size W w') := ⟨fun W h => by
    have h1 := versions_any (.pointer (some ⟨p, 0, none⟩)) l W (.inr ⟨_, rfl, h⟩)
    unfold L4.ver V4.v at h1
    simp only [hla, hlb, hlc, hld] at h1
    exact h1⟩
  have HRw : Bx (∀ W, RAt W q l → ∃ p1 q1 t1 s1 a1 b1 c1 d1, W.heap[q]? = some (.cells #[.slice p1 la a1, .slice q1 lb b1, .slice t1 lc c1, .slice s1 ld d1] 29 (0, 0)) ∧ Rows4 W ⟨.slice p1 la a1, .slice q1 lb b1, .slice t1 lc c1, .slice s1 ld d1⟩ l) := ⟨fun W h => by
    obtain ⟨x, hx, hrr⟩ := h
    obtain ⟨p1, q1, t1, s1, a1, b1, c1, d1, rfl⟩ := hrr.forms
    rw [hla, hlb, hlc, hld] at hx hrr
    exact ⟨p1, q1, t1, s1, a1, b1, c1, d1, hx, hrr⟩⟩
  have HNl := Bx.mk (And.intro hla (And.intro hlb (And.intro hlc hld)))
  obtain ⟨sb2, hsb⟩ : ∃ sb, sha (printB l) = sb := ⟨_, rfl⟩
  have hl32 : sb2.length = 32 := by rw [← hsb]; exact sha_length _
  have heq := eq32 sb2 sb2 hl32 hl32
  have HP : Bx (∀ W, Below w.heap.size w W → SetAt W p l → Calls Tryd.prog 25 #[(.pointer (some ⟨p, 0, none⟩))] W fun e w' => e = .returned (.agg (u8s sb2)) ∧ Below W.heap.size W w') := ⟨fun W h hu => by rw [← hsb]; exact print_any8 _ l W (.inr ⟨p, rfl, hu⟩) hg (HTab.out W h).1 (HTab.out W h).2⟩
  have HRp := Bx.mk (fun (W : World) (hu : RAt W q l) => rprint8 q l W hu hg)
  rw [hsb] at HRp
  have HMk := Bx.mk (fun W => make_any W)
  obtain ⟨tb, htb⟩ : ∃ t, u32s (kTab ++ hTab) = t := ⟨_, rfl⟩
  rw [htb] at HRp HMk
  generalize u8s sb2 = sbd at *
  simp only [beq_self_eq_true] at heq
  obtain ⟨zh, hzh⟩ : ∃ z, hasL4 l sv = z := ⟨_, rfl⟩
  have HH1 := Bx.mk (fun (W : World) (h : SetAt W p l) => has_any8 sv (.pointer (some ⟨p, 0, none⟩)) l W (.inr ⟨p, rfl, h⟩) hg)
  have HH2 := Bx.mk (fun (W : World) (h : RAt W q l) => rhas8 sv q l W h hg)
  rw [hzh] at HH1 HH2
  have HLo : Bx (∀ W (n : Int), SetAt W p l → (n = -1 ∨ n = 4) → Calls Tryd.prog 24 #[(.pointer (some ⟨p, 0, none⟩)), .int .i64 n] W fun e w' => e = .returned (.slice none 0 0) ∧ w' = W) := ⟨fun W n h hn => log_out n _ W (by omega)⟩
  have i0 := Nat.le_refl 0
  have HLg0 : Bx (∀ W, SetAt W p l → Calls Tryd.prog 24 #[(.pointer (some ⟨p, 0, none⟩)), .int .i64 0] W fun e w' => ∃ u, e = .returned u ∧ IsL w' u l.a ∧ Below W.heap.size W w') := ⟨fun W h => log_0 _ l W (.inr ⟨_, rfl, h⟩) (by have := hg.a; omega)⟩
  have ga := hg.a
  rw [hla] at ga
  have ga' : (la : Int) ≤ 256 := by omega
  have HLg1 : Bx (∀ W, SetAt W p l → Calls Tryd.prog 24 #[(.pointer (some ⟨p, 0, none⟩)), .int .i64 1] W fun e w' => ∃ u, e = .returned u ∧ IsL w' u l.b ∧ Below W.heap.size W w') := ⟨fun W h => log_1 _ l W (.inr ⟨_, rfl, h⟩) (by have := hg.b; omega)⟩
  have gb := hg.b
  rw [hlb] at gb
  have gb' : (lb : Int) ≤ 256 := by omega
  have HLg2 : Bx (∀ W, SetAt W p l → Calls Tryd.prog 24 #[(.pointer (some ⟨p, 0, none⟩)), .int .i64 2] W fun e w' => ∃ u, e = .returned u ∧ IsL w' u l.c ∧ Below W.heap.size W w') := ⟨fun W h => log_2 _ l W (.inr ⟨_, rfl, h⟩) (by have := hg.c; omega)⟩
  have gc := hg.c
  rw [hlc] at gc
  have gc' : (lc : Int) ≤ 256 := by omega
  have HLg3 : Bx (∀ W, SetAt W p l → Calls Tryd.prog 24 #[(.pointer (some ⟨p, 0, none⟩)), .int .i64 3] W fun e w' => ∃ u, e = .returned u ∧ IsL w' u l.d ∧ Below W.heap.size W w') := ⟨fun W h => log_3 _ l W (.inr ⟨_, rfl, h⟩) (by have := hg.d; omega)⟩
  have gd := hg.d
  rw [hld] at gd
  have gd' : (ld : Int) ≤ 256 := by omega
  obtain ⟨E, hE⟩ : ∃ E, w.heap.size = E := ⟨_, rfl⟩
  clear hs hr hg hTb hG hn hla hlb hlc hld hsb hl32 htb hzh i0 ga gb gc gd
  go_enter Tryd.func18, Tryd.ntmps18
  go_wp2_with fail
  refine (HV.out w T0.out.s).mono ?_
  rintro e w1 ⟨rfl, hb⟩
  obtain ⟨D, hD⟩ : ∃ D, w1.heap.size = D := ⟨_, rfl⟩
  have R0 : Bx (TW w p q l (w1.alloc (.cells #[.int .i64 (la : Int), .int .i64 (lb : Int), .int .i64 (lc : Int), .int .i64 (ld : Int)] 39)) ∧ (w1.alloc (.cells #[.int .i64 (la : Int), .int .i64 (lb : Int), .int .i64 (lc : Int), .int .i64 (ld : Int)] 39)).heap[D]? = some (.cells #[.int .i64 (la : Int), .int .i64 (lb : Int), .int .i64 (lc : Int), .int .i64 (ld : Int)] 39 (0, 0))) := ⟨by
    subst hD
    exact ⟨(T0.out.later hb).later (below_a _), hnew _ _ _ rfl⟩⟩
  clear hb T0
  go_wp2
  generalize w1.alloc (.cells #[.int .i64 (la : Int), .int .i64 (lb : Int), .int .i64 (lc : Int), .int .i64 (ld : Int)] 39) = w2 at *
  clear hD
  refine wp_loop_rounds 5 ?_
  rw [rounds_succ]
  go_upto_region 5 with fail
  have V0 := Bx.mk (And.intro (R0.out.1.later (Below.refl _ _).drew) (show w2.drew.heap[D]? = some (.cells #[.int .i64 (la : Int), .int .i64 (lb : Int), .int .i64 (lc : Int), .int .i64 (ld : Int)] 39 (0, 0)) from R0.out.2))
  clear R0
  obtain ⟨p1, q1, t1, s1, a1, b1, c1, d1, hx1, hx2⟩ := HRw.out _ V0.out.1.r
  have HK : Bx (∀ W, Below w2.drew.heap.size w2.drew W → (W.cell? ⟨D, 0, none⟩ = some (.int .i64 (la : Int)) ∧ W.cell? ⟨q, 0, none⟩ = some (.slice p1 la a1)) ∧ IsL W (.slice p1 la a1) l.a ∧ W.heap[D]? = some (.cells #[.int .i64 (la : Int), .int .i64 (lb : Int), .int .i64 (lc : Int), .int .i64 (ld : Int)] 39 (0, 0))) := ⟨fun W hb => by
    have hD := V0.out.2
    have hd1 := hb.block D (Array.getElem?_eq_some_iff.1 hD).1
    have hd2 := hb.block q (Array.getElem?_eq_some_iff.1 hx1).1
    rw [← hd1] at hD
    rw [← hd2] at hx1
    exact ⟨⟨by rw [cell_of_row _ _ _ _ _ _ hD]; rfl, by rw [cell_of_row _ _ _ _ _ _ hx1]; rfl⟩, hx2.a.later hb, hD⟩⟩
  clear hx1 hx2
  have B0 := Bx.mk (Below.refl w2.drew.heap.size w2.drew)
  refine wp_region_noPanic ?_
  refine wp_region_held_drew (S := fun W => W.cell? ⟨D, 0, none⟩ = some (.int .i64 (la : Int)) ∧ W.cell? ⟨q, 0, none⟩ = some (.slice p1 la a1)) (by kernel_rfl) ((HK.out _ B0.out).1) (fun hHeld => ?_)
  generalize w2.drew = Y0 at *
  refine takeL 0 (v := ?_) rfl (by kernel_rfl) (by kernel_rfl) (by kernel_rfl) (fun _ _ _ h => h) (Or.inl ⟨by rfl, ?_⟩) hHeld ?_
  rotate_left 1
  · (intro w hSw; go_simp; try with_reducible rfl)
  try simp only [Act.put, List.setIfInBounds_toArray, List.set_cons_zero, List.set_cons_succ]
  refine takeL 1 (v := ?_) rfl (by kernel_rfl) (by kernel_rfl) (by kernel_rfl) (fun _ _ _ h => h) (Or.inl ⟨by rfl, ?_⟩) hHeld ?_
  rotate_left 1
  · (intro w hSw; go_simp; try with_reducible rfl)
  try simp only [Act.put, List.setIfInBounds_toArray, List.set_cons_zero, List.set_cons_succ]
  refine takeL 2 (v := ?_) rfl (by kernel_rfl) (by kernel_rfl) (by kernel_rfl) (fun _ _ _ h => h) (Or.inl ⟨by rfl, ?_⟩) hHeld ?_
  rotate_left 1
  · (intro w hSw; have c1 := hSw.1; go_simp; try with_reducible rfl)
  try simp only [Act.put, List.setIfInBounds_toArray, List.set_cons_zero, List.set_cons_succ]
  refine takeL 3 (v := ?_) rfl (by kernel_rfl) (by kernel_rfl) (by kernel_rfl) (fun _ _ _ h => h) (Or.inl ⟨by rfl, ?_⟩) hHeld ?_
  rotate_left 1
  · (intro w hSw; go_simp; try with_reducible rfl)
  try simp only [Act.put, List.setIfInBounds_toArray, List.set_cons_zero, List.set_cons_succ]
  refine takeL 4 (v := ?_) rfl (by kernel_rfl) (by kernel_rfl) (by kernel_rfl) (fun _ _ _ h => h) (Or.inl ⟨by rfl, ?_⟩) hHeld ?_
  rotate_left 1
  · (intro w hSw; go_simp; try with_reducible rfl)
  try simp only [Act.put, List.setIfInBounds_toArray, List.set_cons_zero, List.set_cons_succ]
  refine takeL 5 (v := ?_) rfl (by kernel_rfl) (by kernel_rfl) (by kernel_rfl) (fun _ _ _ h => h) (Or.inl ⟨by rfl, ?_⟩) hHeld ?_
  rotate_left 1
  · (intro w hSw; go_simp; try with_reducible rfl)
  try simp only [Act.put, List.setIfInBounds_toArray, List.set_cons_zero, List.set_cons_succ]
  refine takeL 6 (v := ?_) rfl (by kernel_rfl) (by kernel_rfl) (by kernel_rfl) (fun _ _ _ h => h) (Or.inl ⟨by rfl, ?_⟩) hHeld ?_
  rotate_left 1
  · (intro w hSw; go_simp; try with_reducible rfl)
  try simp only [Act.put, List.setIfInBounds_toArray, List.set_cons_zero, List.set_cons_succ]
  refine takeL 7 (v := ?_) rfl (by kernel_rfl) (by kernel_rfl) (by kernel_rfl) (fun _ _ _ h => h) (Or.inl ⟨by rfl, ?_⟩) hHeld ?_
  rotate_left 1
  · (intro w hSw; go_simp; try with_reducible rfl)
  try simp only [Act.put, List.setIfInBounds_toArray, List.set_cons_zero, List.set_cons_succ]
  refine takeL 8 (v := ?_) rfl (by kernel_rfl) (by kernel_rfl) (by kernel_rfl) (fun _ _ _ h => h) (Or.inl ⟨by rfl, ?_⟩) hHeld ?_
  rotate_left 1
  · (intro w hSw; have c1 := hSw.2; go_simp; try with_reducible rfl)
  try simp only [Act.put, List.setIfInBounds_toArray, List.set_cons_zero, List.set_cons_succ]
  refine takeL 9 (v := ?_) rfl (by kernel_rfl) (by kernel_rfl) (by kernel_rfl) (fun _ _ _ h => h) (Or.inl ⟨by rfl, ?_⟩) hHeld ?_
  rotate_left 1
  · (intro w hSw; go_simp; try with_reducible rfl)
  try simp only [Act.put, List.setIfInBounds_toArray, List.set_cons_zero, List.set_cons_succ]
  refine takeL 10 (v := ?_) rfl (by kernel_rfl) (by kernel_rfl) (by kernel_rfl) (fun _ _ _ h => h) (Or.inl ⟨by rfl, ?_⟩) hHeld ?_
  rotate_left 1
  · (intro w hSw; go_simp; try with_reducible rfl)
  try simp only [Act.put, List.setIfInBounds_toArray, List.set_cons_zero, List.set_cons_succ]
  refine takeL 11 (v := ?_) rfl (by kernel_rfl) (by kernel_rfl) (by kernel_rfl) (fun _ _ _ h => h) (Or.inl ⟨by rfl, ?_⟩) hHeld ?_
  rotate_left 1
  · (intro w hSw; go_simp; try with_reducible rfl)
  try simp only [Act.put, List.setIfInBounds_toArray, List.set_cons_zero, List.set_cons_succ]
  refine takeL 12 (v := ?_) rfl (by kernel_rfl) (by kernel_rfl) (by kernel_rfl) (fun _ _ _ h => h) (Or.inl ⟨by rfl, ?_⟩) hHeld ?_
  rotate_left 1
  · (intro w hSw; go_simp; try with_reducible rfl)
  try simp only [Act.put, List.setIfInBounds_toArray, List.set_cons_zero, List.set_cons_succ]
  refine takeL 13 (v := ?_) rfl (by kernel_rfl) (by kernel_rfl) (by kernel_rfl) (fun _ _ _ h => h) (Or.inl ⟨by rfl, ?_⟩) hHeld ?_
  rotate_left 1
  · (intro w hSw; go_simp; try with_reducible rfl)
  try simp only [Act.put, List.setIfInBounds_toArray, List.set_cons_zero, List.set_cons_succ]
  refine takeL 15 (v := ?_) rfl (by kernel_rfl) (by kernel_rfl) (by kernel_rfl) (fun _ _ _ h => h) (Or.inl ⟨by rfl, ?_⟩) hHeld ?_
  rotate_left 1
  · (intro w hSw; go_simp; try with_reducible rfl)
  try simp only [Act.put, List.setIfInBounds_toArray, List.set_cons_zero, List.set_cons_succ]
  refine takeL 16 (v := ?_) rfl (by kernel_rfl) (by kernel_rfl) (by kernel_rfl) (fun _ _ _ h => h) (Or.inl ⟨by rfl, ?_⟩) hHeld ?_
  rotate_left 1
  · (intro w hSw; go_simp; try with_reducible rfl)
  try simp only [Act.put, List.setIfInBounds_toArray, List.set_cons_zero, List.set_cons_succ]
  refine takeL 17 (v := ?_) rfl (by kernel_rfl) (by kernel_rfl) (by kernel_rfl) (fun _ _ _ h => h) (Or.inl ⟨by rfl, ?_⟩) hHeld ?_
  rotate_left 1
  · (intro w hSw; go_simp; try with_reducible rfl)
  try simp only [Act.put, List.setIfInBounds_toArray, List.set_cons_zero, List.set_cons_succ]
  refine takeL 18 (v := ?_) rfl (by kernel_rfl) (by kernel_rfl) (by kernel_rfl) (fun _ _ _ h => h) (Or.inl ⟨by rfl, ?_⟩) hHeld ?_
  rotate_left 1
  · (intro w hSw; go_simp; try with_reducible rfl)
  try simp only [Act.put, List.setIfInBounds_toArray, List.set_cons_zero, List.set_cons_succ]
  refine takeL 19 (v := ?_) rfl (by kernel_rfl) (by kernel_rfl) (by kernel_rfl) (fun _ _ _ h => h) (Or.inl ⟨by rfl, ?_⟩) hHeld ?_
  rotate_left 1
  · (intro w hSw; go_simp; try with_reducible rfl)
  try simp only [Act.put, List.setIfInBounds_toArray, List.set_cons_zero, List.set_cons_succ]
  refine takeL 20 (v := ?_) rfl (by kernel_rfl) (by kernel_rfl) (by kernel_rfl) (fun _ _ _ h => h) (Or.inl ⟨by rfl, ?_⟩) hHeld ?_
  rotate_left 1
  · (intro w hSw; have c1 := hSw.2; go_simp; try with_reducible rfl)
  try simp only [Act.put, List.setIfInBounds_toArray, List.set_cons_zero, List.set_cons_succ]
  refine stepL 14 (by kernel_rfl) rfl (fun K hK => ?_)
  go_simp
  refine (HLg0.out Y0 V0.out.1.s).mono ?_
  rintro e Z0 ⟨u, rfl, hu, hb⟩
  show K _ _
  have V1 := Bx.mk (And.intro (V0.out.1.later hb) (And.intro hb hu))
  clear hb hu V0 B0
  refine hK.out _ _ (HK.out _ V1.out.2.1).1 (fun hHeld => ?_)
  clear hK K
  try simp only [Act.put, List.setIfInBounds_toArray, List.set_cons_zero, List.set_cons_succ]
  refine stepL 21 (by kernel_rfl) rfl (fun K hK => ?_)
  go_simp
  refine (rsame8 l.a l.a _ _ Z0 V1.out.2.2 (HK.out _ V1.out.2.1).2.1 (by have := HNl.out; have := HG.out.a; omega) (by have := HG.out.a; omega)).mono ?_
  rw [decide_eq_true (rfl : l.a = l.a)]
  rintro e X0 ⟨rfl, hb⟩
  show K _ _
  have V2 := Bx.mk (And.intro (V1.out.1.later hb) (V1.out.2.1.trans (hb.mono V1.out.2.1.size)))
  clear hb V1
  refine hK.out _ _ (HK.out _ V2.out.2).1 (fun hHeld => ?_)
  clear hK K
  try simp only [Act.put, List.setIfInBounds_toArray, List.set_cons_zero, List.set_cons_succ]
  refine takeL 22 (v := ?_) rfl (by kernel_rfl) (by kernel_rfl) (by kernel_rfl) (fun _ _ _ h => h) (Or.inl ⟨by rfl, ?_⟩) hHeld ?_
  rotate_left 1
  · (intro w hSw; go_simp; try with_reducible rfl)
  try simp only [Act.put, List.setIfInBounds_toArray, List.set_cons_zero, List.set_cons_succ]
  refine takeL 23 (v := ?_) rfl (by kernel_rfl) (by kernel_rfl) (by kernel_rfl) (fun _ _ _ h => h) (Or.inl ⟨by rfl, ?_⟩) hHeld ?_
  rotate_left 1
  · (intro w hSw; go_simp; try with_reducible rfl)
  try simp only [Act.put, List.setIfInBounds_toArray, List.set_cons_zero, List.set_cons_succ]
  refine wpAnyH_done (by kernel_rfl) ?_ _
  refine NoPanic.normal ?_
  clear hHeld
  have R1 := Bx.mk (And.intro V2.out.1 (HK.out _ V2.out.2).2.2)
  clear V2 HK
  go_wp2
  rw [rounds_succ]
  go_upto_region 5 with fail
  have V0 := Bx.mk (And.intro (R1.out.1.later (Below.refl _ _).drew) (show X0.drew.heap[D]? = some (.cells #[.int .i64 (la : Int), .int .i64 (lb : Int), .int .i64 (lc : Int), .int .i64 (ld : Int)] 39 (0, 0)) from R1.out.2))
  clear R1
  obtain ⟨p1, q1, t1, s1, a1, b1, c1, d1, hx1, hx2⟩ := HRw.out _ V0.out.1.r
  have HK : Bx (∀ W, Below X0.drew.heap.size X0.drew W → (W.cell? ⟨D, 1, none⟩ = some (.int .i64 (lb : Int)) ∧ W.cell? ⟨q, 1, none⟩ = some (.slice q1 lb b1)) ∧ IsL W (.slice q1 lb b1) l.b ∧ W.heap[D]? = some (.cells #[.int .i64 (la : Int), .int .i64 (lb : Int), .int .i64 (lc : Int), .int .i64 (ld : Int)] 39 (0, 0))) := ⟨fun W hb => by
    have hD := V0.out.2
    have hd1 := hb.block D (Array.getElem?_eq_some_iff.1 hD).1
    have hd2 := hb.block q (Array.getElem?_eq_some_iff.1 hx1).1
    rw [← hd1] at hD
    rw [← hd2] at hx1
    exact ⟨⟨by rw [cell_of_row _ _ _ _ _ _ hD]; rfl, by rw [cell_of_row _ _ _ _ _ _ hx1]; rfl⟩, hx2.b.later hb, hD⟩⟩
  clear hx1 hx2
  have B0 := Bx.mk (Below.refl X0.drew.heap.size X0.drew)
  refine wp_region_noPanic ?_
  refine wp_region_held_drew (S := fun W => W.cell? ⟨D, 1, none⟩ = some (.int .i64 (lb : Int)) ∧ W.cell? ⟨q, 1, none⟩ = some (.slice q1 lb b1)) (by kernel_rfl) ((HK.out _ B0.out).1) (fun hHeld => ?_)
  generalize X0.drew = Y1 at *
  refine takeL 0 (v := ?_) rfl (by kernel_rfl) (by kernel_rfl) (by kernel_rfl) (fun _ _ _ h => h) (Or.inl ⟨by rfl, ?_⟩) hHeld ?_
  rotate_left 1
  · (intro w hSw; go_simp; try with_reducible rfl)
  try simp only [Act.put, List.setIfInBounds_toArray, List.set_cons_zero, List.set_cons_succ]
  refine takeL 1 (v := ?_) rfl (by kernel_rfl) (by kernel_rfl) (by kernel_rfl) (fun _ _ _ h => h) (Or.inl ⟨by rfl, ?_⟩) hHeld ?_
  rotate_left 1
  · (intro w hSw; go_simp; try with_reducible rfl)
  try simp only [Act.put, List.setIfInBounds_toArray, List.set_cons_zero, List.set_cons_succ]
  refine takeL 2 (v := ?_) rfl (by kernel_rfl) (by kernel_rfl) (by kernel_rfl) (fun _ _ _ h => h) (Or.inl ⟨by rfl, ?_⟩) hHeld ?_
  rotate_left 1
  · (intro w hSw; have c1 := hSw.1; go_simp; try with_reducible rfl)
  try simp only [Act.put, List.setIfInBounds_toArray, List.set_cons_zero, List.set_cons_succ]
  refine takeL 3 (v := ?_) rfl (by kernel_rfl) (by kernel_rfl) (by kernel_rfl) (fun _ _ _ h => h) (Or.inl ⟨by rfl, ?_⟩) hHeld ?_
  rotate_left 1
  · (intro w hSw; go_simp; try with_reducible rfl)
  try simp only [Act.put, List.setIfInBounds_toArray, List.set_cons_zero, List.set_cons_succ]
  refine takeL 4 (v := ?_) rfl (by kernel_rfl) (by kernel_rfl) (by kernel_rfl) (fun _ _ _ h => h) (Or.inl ⟨by rfl, ?_⟩) hHeld ?_
  rotate_left 1
  · (intro w hSw; go_simp; try with_reducible rfl)
  try simp only [Act.put, List.setIfInBounds_toArray, List.set_cons_zero, List.set_cons_succ]
  refine takeL 5 (v := ?_) rfl (by kernel_rfl) (by kernel_rfl) (by kernel_rfl) (fun _ _ _ h => h) (Or.inl ⟨by rfl, ?_⟩) hHeld ?_
  rotate_left 1
  · (intro w hSw; go_simp; try with_reducible rfl)
  try simp only [Act.put, List.setIfInBounds_toArray, List.set_cons_zero, List.set_cons_succ]
  refine takeL 6 (v := ?_) rfl (by kernel_rfl) (by kernel_rfl) (by kernel_rfl) (fun _ _ _ h => h) (Or.inl ⟨by rfl, ?_⟩) hHeld ?_
  rotate_left 1
  · (intro w hSw; go_simp; try with_reducible rfl)
  try simp only [Act.put, List.setIfInBounds_toArray, List.set_cons_zero, List.set_cons_succ]
  refine takeL 7 (v := ?_) rfl (by kernel_rfl) (by kernel_rfl) (by kernel_rfl) (fun _ _ _ h => h) (Or.inl ⟨by rfl, ?_⟩) hHeld ?_
  rotate_left 1
  · (intro w hSw; go_simp; try with_reducible rfl)
  try simp only [Act.put, List.setIfInBounds_toArray, List.set_cons_zero, List.set_cons_succ]
  refine takeL 8 (v := ?_) rfl (by kernel_rfl) (by kernel_rfl) (by kernel_rfl) (fun _ _ _ h => h) (Or.inl ⟨by rfl, ?_⟩) hHeld ?_
  rotate_left 1
  · (intro w hSw; have c1 := hSw.2; go_simp; try with_reducible rfl)
  try simp only [Act.put, List.setIfInBounds_toArray, List.set_cons_zero, List.set_cons_succ]
  refine takeL 9 (v := ?_) rfl (by kernel_rfl) (by kernel_rfl) (by kernel_rfl) (fun _ _ _ h => h) (Or.inl ⟨by rfl, ?_⟩) hHeld ?_
  rotate_left 1
  · (intro w hSw; go_simp; try with_reducible rfl)
  try simp only [Act.put, List.setIfInBounds_toArray, List.set_cons_zero, List.set_cons_succ]
  refine takeL 10 (v := ?_) rfl (by kernel_rfl) (by kernel_rfl) (by kernel_rfl) (fun _ _ _ h => h) (Or.inl ⟨by rfl, ?_⟩) hHeld ?_
  rotate_left 1
  · (intro w hSw; go_simp; try with_reducible rfl)
  try simp only [Act.put, List.setIfInBounds_toArray, List.set_cons_zero, List.set_cons_succ]
  refine takeL 11 (v := ?_) rfl (by kernel_rfl) (by kernel_rfl) (by kernel_rfl) (fun _ _ _ h => h) (Or.inl ⟨by rfl, ?_⟩) hHeld ?_
  rotate_left 1
  · (intro w hSw; go_simp; try with_reducible rfl)
  try simp only [Act.put, List.setIfInBounds_toArray, List.set_cons_zero, List.set_cons_succ]
  refine takeL 12 (v := ?_) rfl (by kernel_rfl) (by kernel_rfl) (by kernel_rfl) (fun _ _ _ h => h) (Or.inl ⟨by rfl, ?_⟩) hHeld ?_
  rotate_left 1
  · (intro w hSw; go_simp; try with_reducible rfl)
  try simp only [Act.put, List.setIfInBounds_toArray, List.set_cons_zero, List.set_cons_succ]
  refine takeL 13 (v := ?_) rfl (by kernel_rfl) (by kernel_rfl) (by kernel_rfl) (fun _ _ _ h => h) (Or.inl ⟨by rfl, ?_⟩) hHeld ?_
  rotate_left 1
  · (intro w hSw; go_simp; try with_reducible rfl)
  try simp only [Act.put, List.setIfInBounds_toArray, List.set_cons_zero, List.set_cons_succ]
  refine takeL 15 (v := ?_) rfl (by kernel_rfl) (by kernel_rfl) (by kernel_rfl) (fun _ _ _ h => h) (Or.inl ⟨by rfl, ?_⟩) hHeld ?_
  rotate_left 1
  · (intro w hSw; go_simp; try with_reducible rfl)
  try simp only [Act.put, List.setIfInBounds_toArray, List.set_cons_zero, List.set_cons_succ]
  refine takeL 16 (v := ?_) rfl (by kernel_rfl) (by kernel_rfl) (by kernel_rfl) (fun _ _ _ h => h) (Or.inl ⟨by rfl, ?_⟩) hHeld ?_
  rotate_left 1
  · (intro w hSw; go_simp; try with_reducible rfl)
  try simp only [Act.put, List.setIfInBounds_toArray, List.set_cons_zero, List.set_cons_succ]
  refine takeL 17 (v := ?_) rfl (by kernel_rfl) (by kernel_rfl) (by kernel_rfl) (fun _ _ _ h => h) (Or.inl ⟨by rfl, ?_⟩) hHeld ?_
  rotate_left 1
  · (intro w hSw; go_simp; try with_reducible rfl)
  try simp only [Act.put, List.setIfInBounds_toArray, List.set_cons_zero, List.set_cons_succ]
  refine takeL 18 (v := ?_) rfl (by kernel_rfl) (by kernel_rfl) (by kernel_rfl) (fun _ _ _ h => h) (Or.inl ⟨by rfl, ?_⟩) hHeld ?_
  rotate_left 1
  · (intro w hSw; go_simp; try with_reducible rfl)
  try simp only [Act.put, List.setIfInBounds_toArray, List.set_cons_zero, List.set_cons_succ]
  refine takeL 19 (v := ?_) rfl (by kernel_rfl) (by kernel_rfl) (by kernel_rfl) (fun _ _ _ h => h) (Or.inl ⟨by rfl, ?_⟩) hHeld ?_
  rotate_left 1
  · (intro w hSw; go_simp; try with_reducible rfl)
  try simp only [Act.put, List.setIfInBounds_toArray, List.set_cons_zero, List.set_cons_succ]
  refine takeL 20 (v := ?_) rfl (by kernel_rfl) (by kernel_rfl) (by kernel_rfl) (fun _ _ _ h => h) (Or.inl ⟨by rfl, ?_⟩) hHeld ?_
  rotate_left 1
  · (intro w hSw; have c1 := hSw.2; go_simp; try with_reducible rfl)
  try simp only [Act.put, List.setIfInBounds_toArray, List.set_cons_zero, List.set_cons_succ]
  refine stepL 14 (by kernel_rfl) rfl (fun K hK => ?_)
  go_simp
  refine (HLg1.out Y1 V0.out.1.s).mono ?_
  rintro e Z1 ⟨u, rfl, hu, hb⟩
  show K _ _
  have V1 := Bx.mk (And.intro (V0.out.1.later hb) (And.intro hb hu))
  clear hb hu V0 B0
  refine hK.out _ _ (HK.out _ V1.out.2.1).1 (fun hHeld => ?_)
  clear hK K
  try simp only [Act.put, List.setIfInBounds_toArray, List.set_cons_zero, List.set_cons_succ]
  refine stepL 21 (by kernel_rfl) rfl (fun K hK => ?_)
  go_simp
  refine (rsame8 l.b l.b _ _ Z1 V1.out.2.2 (HK.out _ V1.out.2.1).2.1 (by have := HNl.out; have := HG.out.b; omega) (by have := HG.out.b; omega)).mono ?_
  rw [decide_eq_true (rfl : l.b = l.b)]
  rintro e X1 ⟨rfl, hb⟩
  show K _ _
  have V2 := Bx.mk (And.intro (V1.out.1.later hb) (V1.out.2.1.trans (hb.mono V1.out.2.1.size)))
  clear hb V1
  refine hK.out _ _ (HK.out _ V2.out.2).1 (fun hHeld => ?_)
  clear hK K
  try simp only [Act.put, List.setIfInBounds_toArray, List.set_cons_zero, List.set_cons_succ]
  refine takeL 22 (v := ?_) rfl (by kernel_rfl) (by kernel_rfl) (by kernel_rfl) (fun _ _ _ h => h) (Or.inl ⟨by rfl, ?_⟩) hHeld ?_
  rotate_left 1
  · (intro w hSw; go_simp; try with_reducible rfl)
  try simp only [Act.put, List.setIfInBounds_toArray, List.set_cons_zero, List.set_cons_succ]
  refine takeL 23 (v := ?_) rfl (by kernel_rfl) (by kernel_rfl) (by kernel_rfl) (fun _ _ _ h => h) (Or.inl ⟨by rfl, ?_⟩) hHeld ?_
  rotate_left 1
  · (intro w hSw; go_simp; try with_reducible rfl)
  try simp only [Act.put, List.setIfInBounds_toArray, List.set_cons_zero, List.set_cons_succ]
  refine wpAnyH_done (by kernel_rfl) ?_ _
  refine NoPanic.normal ?_
  clear hHeld
  have R2 := Bx.mk (And.intro V2.out.1 (HK.out _ V2.out.2).2.2)
  clear V2 HK
  go_wp2
  rw [rounds_succ]
  go_upto_region 5 with fail
  have V0 := Bx.mk (And.intro (R2.out.1.later (Below.refl _ _).drew) (show X1.drew.heap[D]? = some (.cells #[.int .i64 (la : Int), .int .i64 (lb : Int), .int .i64 (lc : Int), .int .i64 (ld : Int)] 39 (0, 0)) from R2.out.2))
  clear R2
  obtain ⟨p1, q1, t1, s1, a1, b1, c1, d1, hx1, hx2⟩ := HRw.out _ V0.out.1.r
  have HK : Bx (∀ W, Below X1.drew.heap.size X1.drew W → (W.cell? ⟨D, 2, none⟩ = some (.int .i64 (lc : Int)) ∧ W.cell? ⟨q, 2, none⟩ = some (.slice t1 lc c1)) ∧ IsL W (.slice t1 lc c1) l.c ∧ W.heap[D]? = some (.cells #[.int .i64 (la : Int), .int .i64 (lb : Int), .int .i64 (lc : Int), .int .i64 (ld : Int)] 39 (0, 0))) := ⟨fun W hb => by
    have hD := V0.out.2
    have hd1 := hb.block D (Array.getElem?_eq_some_iff.1 hD).1
    have hd2 := hb.block q (Array.getElem?_eq_some_iff.1 hx1).1
    rw [← hd1] at hD
    rw [← hd2] at hx1
    exact ⟨⟨by rw [cell_of_row _ _ _ _ _ _ hD]; rfl, by rw [cell_of_row _ _ _ _ _ _ hx1]; rfl⟩, hx2.c.later hb, hD⟩⟩
  clear hx1 hx2
  have B0 := Bx.mk (Below.refl X1.drew.heap.size X1.drew)
  refine wp_region_noPanic ?_
  refine wp_region_held_drew (S := fun W => W.cell? ⟨D, 2, none⟩ = some (.int .i64 (lc : Int)) ∧ W.cell? ⟨q, 2, none⟩ = some (.slice t1 lc c1)) (by kernel_rfl) ((HK.out _ B0.out).1) (fun hHeld => ?_)
  generalize X1.drew = Y2 at *
  refine takeL 0 (v := ?_) rfl (by kernel_rfl) (by kernel_rfl) (by kernel_rfl) (fun _ _ _ h => h) (Or.inl ⟨by rfl, ?_⟩) hHeld ?_
  rotate_left 1
  · (intro w hSw; go_simp; try with_reducible rfl)
  try simp only [Act.put, List.setIfInBounds_toArray, List.set_cons_zero, List.set_cons_succ]
  refine takeL 1 (v := ?_) rfl (by kernel_rfl) (by kernel_rfl) (by kernel_rfl) (fun _ _ _ h => h) (Or.inl ⟨by rfl, ?_⟩) hHeld ?_
  rotate_left 1
  · (intro w hSw; go_simp; try with_reducible rfl)
  try simp only [Act.put, List.setIfInBounds_toArray, List.set_cons_zero, List.set_cons_succ]
  refine takeL 2 (v := ?_) rfl (by kernel_rfl) (by kernel_rfl) (by kernel_rfl) (fun _ _ _ h => h) (Or.inl ⟨by rfl, ?_⟩) hHeld ?_
  rotate_left 1
  · (intro w hSw; have c1 := hSw.1; go_simp; try with_reducible rfl)
  try simp only [Act.put, List.setIfInBounds_toArray, List.set_cons_zero, List.set_cons_succ]
  refine takeL 3 (v := ?_) rfl (by kernel_rfl) (by kernel_rfl) (by kernel_rfl) (fun _ _ _ h => h) (Or.inl ⟨by rfl, ?_⟩) hHeld ?_
  rotate_left 1
  · (intro w hSw; go_simp; try with_reducible rfl)
  try simp only [Act.put, List.setIfInBounds_toArray, List.set_cons_zero, List.set_cons_succ]
  refine takeL 4 (v := ?_) rfl (by kernel_rfl) (by kernel_rfl) (by kernel_rfl) (fun _ _ _ h => h) (Or.inl ⟨by rfl, ?_⟩) hHeld ?_
  rotate_left 1
  · (intro w hSw; go_simp; try with_reducible rfl)
  try simp only [Act.put, List.setIfInBounds_toArray, List.set_cons_zero, List.set_cons_succ]
  refine takeL 5 (v := ?_) rfl (by kernel_rfl) (by kernel_rfl) (by kernel_rfl) (fun _ _ _ h => h) (Or.inl ⟨by rfl, ?_⟩) hHeld ?_
  rotate_left 1
  · (intro w hSw; go_simp; try with_reducible rfl)
  try simp only [Act.put, List.setIfInBounds_toArray, List.set_cons_zero, List.set_cons_succ]
  refine takeL 6 (v := ?_) rfl (by kernel_rfl) (by kernel_rfl) (by kernel_rfl) (fun _ _ _ h => h) (Or.inl ⟨by rfl, ?_⟩) hHeld ?_
  rotate_left 1
  · (intro w hSw; go_simp; try with_reducible rfl)
  try simp only [Act.put, List.setIfInBounds_toArray, List.set_cons_zero, List.set_cons_succ]
  refine takeL 7 (v := ?_) rfl (by kernel_rfl) (by kernel_rfl) (by kernel_rfl) (fun _ _ _ h => h) (Or.inl ⟨by rfl, ?_⟩) hHeld ?_
  rotate_left 1
  · (intro w hSw; go_simp; try with_reducible rfl)
  try simp only [Act.put, List.setIfInBounds_toArray, List.set_cons_zero, List.set_cons_succ]
  refine takeL 8 (v := ?_) rfl (by kernel_rfl) (by kernel_rfl) (by kernel_rfl) (fun _ _ _ h => h) (Or.inl ⟨by rfl, ?_⟩) hHeld ?_
  rotate_left 1
  · (intro w hSw; have c1 := hSw.2; go_simp; try with_reducible rfl)
  try simp only [Act.put, List.setIfInBounds_toArray, List.set_cons_zero, List.set_cons_succ]
  refine takeL 9 (v := ?_) rfl (by kernel_rfl) (by kernel_rfl) (by kernel_rfl) (fun _ _ _ h => h) (Or.inl ⟨by rfl, ?_⟩) hHeld ?_
  rotate_left 1
  · (intro w hSw; go_simp; try with_reducible rfl)
  try simp only [Act.put, List.setIfInBounds_toArray, List.set_cons_zero, List.set_cons_succ]
  refine takeL 10 (v := ?_) rfl (by kernel_rfl) (by kernel_rfl) (by kernel_rfl) (fun _ _ _ h => h) (Or.inl ⟨by rfl, ?_⟩) hHeld ?_
  rotate_left 1
  · (intro w hSw; go_simp; try with_reducible rfl)
  try simp only [Act.put, List.setIfInBounds_toArray, List.set_cons_zero, List.set_cons_succ]
  refine takeL 11 (v := ?_) rfl (by kernel_rfl) (by kernel_rfl) (by kernel_rfl) (fun _ _ _ h => h) (Or.inl ⟨by rfl, ?_⟩) hHeld ?_
  rotate_left 1
  · (intro w hSw; go_simp; try with_reducible rfl)
  try simp only [Act.put, List.setIfInBounds_toArray, List.set_cons_zero, List.set_cons_succ]
  refine takeL 12 (v := ?_) rfl (by kernel_rfl) (by kernel_rfl) (by kernel_rfl) (fun _ _ _ h => h) (Or.inl ⟨by rfl, ?_⟩) hHeld ?_
  rotate_left 1
  · (intro w hSw; go_simp; try with_reducible rfl)
  try simp only [Act.put, List.setIfInBounds_toArray, List.set_cons_zero, List.set_cons_succ]
  refine takeL 13 (v := ?_) rfl (by kernel_rfl) (by kernel_rfl) (by kernel_rfl) (fun _ _ _ h => h) (Or.inl ⟨by rfl, ?_⟩) hHeld ?_
  rotate_left 1
  · (intro w hSw; go_simp; try with_reducible rfl)
  try simp only [Act.put, List.setIfInBounds_toArray, List.set_cons_zero, List.set_cons_succ]
  refine takeL 15 (v := ?_) rfl (by kernel_rfl) (by kernel_rfl) (by kernel_rfl) (fun _ _ _ h => h) (Or.inl ⟨by rfl, ?_⟩) hHeld ?_
  rotate_left 1
  · (intro w hSw; go_simp; try with_reducible rfl)
  try simp only [Act.put, List.setIfInBounds_toArray, List.set_cons_zero, List.set_cons_succ]
  refine takeL 16 (v := ?_) rfl (by kernel_rfl) (by kernel_rfl) (by kernel_rfl) (fun _ _ _ h => h) (Or.inl ⟨by rfl, ?_⟩) hHeld ?_
  rotate_left 1
  · (intro w hSw; go_simp; try with_reducible rfl)
  try simp only [Act.put, List.setIfInBounds_toArray, List.set_cons_zero, List.set_cons_succ]
  refine takeL 17 (v := ?_) rfl (by kernel_rfl) (by kernel_rfl) (by kernel_rfl) (fun _ _ _ h => h) (Or.inl ⟨by rfl, ?_⟩) hHeld ?_
  rotate_left 1
  · (intro w hSw; go_simp; try with_reducible rfl)
  try simp only [Act.put, List.setIfInBounds_toArray, List.set_cons_zero, List.set_cons_succ]
  refine takeL 18 (v := ?_) rfl (by kernel_rfl) (by kernel_rfl) (by kernel_rfl) (fun _ _ _ h => h) (Or.inl ⟨by rfl, ?_⟩) hHeld ?_
  rotate_left 1
  · (intro w hSw; go_simp; try with_reducible rfl)
  try simp only [Act.put, List.setIfInBounds_toArray, List.set_cons_zero, List.set_cons_succ]
  refine takeL 19 (v := ?_) rfl (by kernel_rfl) (by kernel_rfl) (by kernel_rfl) (fun _ _ _ h => h) (Or.inl ⟨by rfl, ?_⟩) hHeld ?_
  rotate_left 1
  · (intro w hSw; go_simp; try with_reducible rfl)
  try simp only [Act.put, List.setIfInBounds_toArray, List.set_cons_zero, List.set_cons_succ]
  refine takeL 20 (v := ?_) rfl (by kernel_rfl) (by kernel_rfl) (by kernel_rfl) (fun _ _ _ h => h) (Or.inl ⟨by rfl, ?_⟩) hHeld ?_
  rotate_left 1
  · (intro w hSw; have c1 := hSw.2; go_simp; try with_reducible rfl)
  try simp only [Act.put, List.setIfInBounds_toArray, List.set_cons_zero, List.set_cons_succ]
  refine stepL 14 (by kernel_rfl) rfl (fun K hK => ?_)
  go_simp
  refine (HLg2.out Y2 V0.out.1.s).mono ?_
  rintro e Z2 ⟨u, rfl, hu, hb⟩
  show K _ _
  have V1 := Bx.mk (And.intro (V0.out.1.later hb) (And.intro hb hu))
  clear hb hu V0 B0
  refine hK.out _ _ (HK.out _ V1.out.2.1).1 (fun hHeld => ?_)
  clear hK K
  try simp only [Act.put, List.setIfInBounds_toArray, List.set_cons_zero, List.set_cons_succ]
  refine stepL 21 (by kernel_rfl) rfl (fun K hK => ?_)
  go_simp
  refine (rsame8 l.c l.c _ _ Z2 V1.out.2.2 (HK.out _ V1.out.2.1).2.1 (by have := HNl.out; have := HG.out.c; omega) (by have := HG.out.c; omega)).mono ?_
  rw [decide_eq_true (rfl : l.c = l.c)]
  rintro e X2 ⟨rfl, hb⟩
  show K _ _
  have V2 := Bx.mk (And.intro (V1.out.1.later hb) (V1.out.2.1.trans (hb.mono V1.out.2.1.size)))
  clear hb V1
  refine hK.out _ _ (HK.out _ V2.out.2).1 (fun hHeld => ?_)
  clear hK K
  try simp only [Act.put, List.setIfInBounds_toArray, List.set_cons_zero, List.set_cons_succ]
  refine takeL 22 (v := ?_) rfl (by kernel_rfl) (by kernel_rfl) (by kernel_rfl) (fun _ _ _ h => h) (Or.inl ⟨by rfl, ?_⟩) hHeld ?_
  rotate_left 1
  · (intro w hSw; go_simp; try with_reducible rfl)
  try simp only [Act.put, List.setIfInBounds_toArray, List.set_cons_zero, List.set_cons_succ]
  refine takeL 23 (v := ?_) rfl (by kernel_rfl) (by kernel_rfl) (by kernel_rfl) (fun _ _ _ h => h) (Or.inl ⟨by rfl, ?_⟩) hHeld ?_
  rotate_left 1
  · (intro w hSw; go_simp; try with_reducible rfl)
  try simp only [Act.put, List.setIfInBounds_toArray, List.set_cons_zero, List.set_cons_succ]
  refine wpAnyH_done (by kernel_rfl) ?_ _
  refine NoPanic.normal ?_
  clear hHeld
  have R3 := Bx.mk (And.intro V2.out.1 (HK.out _ V2.out.2).2.2)
  clear V2 HK
  go_wp2
  rw [rounds_succ]
  go_upto_region 5 with fail
  have V0 := Bx.mk (And.intro (R3.out.1.later (Below.refl _ _).drew) (show X2.drew.heap[D]? = some (.cells #[.int .i64 (la : Int), .int .i64 (lb : Int), .int .i64 (lc : Int), .int .i64 (ld : Int)] 39 (0, 0)) from R3.out.2))
  clear R3
  obtain ⟨p1, q1, t1, s1, a1, b1, c1, d1, hx1, hx2⟩ := HRw.out _ V0.out.1.r
  have HK : Bx (∀ W, Below X2.drew.heap.size X2.drew W → (W.cell? ⟨D, 3, none⟩ = some (.int .i64 (ld : Int)) ∧ W.cell? ⟨q, 3, none⟩ = some (.slice s1 ld d1)) ∧ IsL W (.slice s1 ld d1) l.d ∧ W.heap[D]? = some (.cells #[.int .i64 (la : Int), .int .i64 (lb : Int), .int .i64 (lc : Int), .int .i64 (ld : Int)] 39 (0, 0))) := ⟨fun W hb => by
    have hD := V0.out.2
    have hd1 := hb.block D (Array.getElem?_eq_some_iff.1 hD).1
    have hd2 := hb.block q (Array.getElem?_eq_some_iff.1 hx1).1
    rw [← hd1] at hD
    rw [← hd2] at hx1
    exact ⟨⟨by rw [cell_of_row _ _ _ _ _ _ hD]; rfl, by rw [cell_of_row _ _ _ _ _ _ hx1]; rfl⟩, hx2.d.later hb, hD⟩⟩
  clear hx1 hx2
  have B0 := Bx.mk (Below.refl X2.drew.heap.size X2.drew)
  refine wp_region_noPanic ?_
  refine wp_region_held_drew (S := fun W => W.cell? ⟨D, 3, none⟩ = some (.int .i64 (ld : Int)) ∧ W.cell? ⟨q, 3, none⟩ = some (.slice s1 ld d1)) (by kernel_rfl) ((HK.out _ B0.out).1) (fun hHeld => ?_)
  generalize X2.drew = Y3 at *
  refine takeL 0 (v := ?_) rfl (by kernel_rfl) (by kernel_rfl) (by kernel_rfl) (fun _ _ _ h => h) (Or.inl ⟨by rfl, ?_⟩) hHeld ?_
  rotate_left 1
  · (intro w hSw; go_simp; try with_reducible rfl)
  try simp only [Act.put, List.setIfInBounds_toArray, List.set_cons_zero, List.set_cons_succ]
  refine takeL 1 (v := ?_) rfl (by kernel_rfl) (by kernel_rfl) (by kernel_rfl) (fun _ _ _ h => h) (Or.inl ⟨by rfl, ?_⟩) hHeld ?_
  rotate_left 1
  · (intro w hSw; go_simp; try with_reducible rfl)
  try simp only [Act.put, List.setIfInBounds_toArray, List.set_cons_zero, List.set_cons_succ]
  refine takeL 2 (v := ?_) rfl (by kernel_rfl) (by kernel_rfl) (by kernel_rfl) (fun _ _ _ h => h) (Or.inl ⟨by rfl, ?_⟩) hHeld ?_
  rotate_left 1
  · (intro w hSw; have c1 := hSw.1; go_simp; try with_reducible rfl)
  try simp only [Act.put, List.setIfInBounds_toArray, List.set_cons_zero, List.set_cons_succ]
  refine takeL 3 (v := ?_) rfl (by kernel_rfl) (by kernel_rfl) (by kernel_rfl) (fun _ _ _ h => h) (Or.inl ⟨by rfl, ?_⟩) hHeld ?_
  rotate_left 1
  · (intro w hSw; go_simp; try with_reducible rfl)
  try simp only [Act.put, List.setIfInBounds_toArray, List.set_cons_zero, List.set_cons_succ]
  refine takeL 4 (v := ?_) rfl (by kernel_rfl) (by kernel_rfl) (by kernel_rfl) (fun _ _ _ h => h) (Or.inl ⟨by rfl, ?_⟩) hHeld ?_
  rotate_left 1
  · (intro w hSw; go_simp; try with_reducible rfl)
  try simp only [Act.put, List.setIfInBounds_toArray, List.set_cons_zero, List.set_cons_succ]
  refine takeL 5 (v := ?_) rfl (by kernel_rfl) (by kernel_rfl) (by kernel_rfl) (fun _ _ _ h => h) (Or.inl ⟨by rfl, ?_⟩) hHeld ?_
  rotate_left 1
  · (intro w hSw; go_simp; try with_reducible rfl)
  try simp only [Act.put, List.setIfInBounds_toArray, List.set_cons_zero, List.set_cons_succ]
  refine takeL 6 (v := ?_) rfl (by kernel_rfl) (by kernel_rfl) (by kernel_rfl) (fun _ _ _ h => h) (Or.inl ⟨by rfl, ?_⟩) hHeld ?_
  rotate_left 1
  · (intro w hSw; go_simp; try with_reducible rfl)
  try simp only [Act.put, List.setIfInBounds_toArray, List.set_cons_zero, List.set_cons_succ]
  refine takeL 7 (v := ?_) rfl (by kernel_rfl) (by kernel_rfl) (by kernel_rfl) (fun _ _ _ h => h) (Or.inl ⟨by rfl, ?_⟩) hHeld ?_
  rotate_left 1
  · (intro w hSw; go_simp; try with_reducible rfl)
  try simp only [Act.put, List.setIfInBounds_toArray, List.set_cons_zero, List.set_cons_succ]
  refine takeL 8 (v := ?_) rfl (by kernel_rfl) (by kernel_rfl) (by kernel_rfl) (fun _ _ _ h => h) (Or.inl ⟨by rfl, ?_⟩) hHeld ?_
  rotate_left 1
  · (intro w hSw; have c1 := hSw.2; go_simp; try with_reducible rfl)
  try simp only [Act.put, List.setIfInBounds_toArray, List.set_cons_zero, List.set_cons_succ]
  refine takeL 9 (v := ?_) rfl (by kernel_rfl) (by kernel_rfl) (by kernel_rfl) (fun _ _ _ h => h) (Or.inl ⟨by rfl, ?_⟩) hHeld ?_
  rotate_left 1
  · (intro w hSw; go_simp; try with_reducible rfl)
  try simp only [Act.put, List.setIfInBounds_toArray, List.set_cons_zero, List.set_cons_succ]
  refine takeL 10 (v := ?_) rfl (by kernel_rfl) (by kernel_rfl) (by kernel_rfl) (fun _ _ _ h => h) (Or.inl ⟨by rfl, ?_⟩) hHeld ?_
  rotate_left 1
  · (intro w hSw; go_simp; try with_reducible rfl)
  try simp only [Act.put, List.setIfInBounds_toArray, List.set_cons_zero, List.set_cons_succ]
  refine takeL 11 (v := ?_) rfl (by kernel_rfl) (by kernel_rfl) (by kernel_rfl) (fun _ _ _ h => h) (Or.inl ⟨by rfl, ?_⟩) hHeld ?_
  rotate_left 1
  · (intro w hSw; go_simp; try with_reducible rfl)
  try simp only [Act.put, List.setIfInBounds_toArray, List.set_cons_zero, List.set_cons_succ]
  refine takeL 12 (v := ?_) rfl (by kernel_rfl) (by kernel_rfl) (by kernel_rfl) (fun _ _ _ h => h) (Or.inl ⟨by rfl, ?_⟩) hHeld ?_
  rotate_left 1
  · (intro w hSw; go_simp; try with_reducible rfl)
  try simp only [Act.put, List.setIfInBounds_toArray, List.set_cons_zero, List.set_cons_succ]
  refine takeL 13 (v := ?_) rfl (by kernel_rfl) (by kernel_rfl) (by kernel_rfl) (fun _ _ _ h => h) (Or.inl ⟨by rfl, ?_⟩) hHeld ?_
  rotate_left 1
  · (intro w hSw; go_simp; try with_reducible rfl)
  try simp only [Act.put, List.setIfInBounds_toArray, List.set_cons_zero, List.set_cons_succ]
  refine takeL 15 (v := ?_) rfl (by kernel_rfl) (by kernel_rfl) (by kernel_rfl) (fun _ _ _ h => h) (Or.inl ⟨by rfl, ?_⟩) hHeld ?_
  rotate_left 1
  · (intro w hSw; go_simp; try with_reducible rfl)
  try simp only [Act.put, List.setIfInBounds_toArray, List.set_cons_zero, List.set_cons_succ]
  refine takeL 16 (v := ?_) rfl (by kernel_rfl) (by kernel_rfl) (by kernel_rfl) (fun _ _ _ h => h) (Or.inl ⟨by rfl, ?_⟩) hHeld ?_
  rotate_left 1
  · (intro w hSw; go_simp; try with_reducible rfl)
  try simp only [Act.put, List.setIfInBounds_toArray, List.set_cons_zero, List.set_cons_succ]
  refine takeL 17 (v := ?_) rfl (by kernel_rfl) (by kernel_rfl) (by kernel_rfl) (fun _ _ _ h => h) (Or.inl ⟨by rfl, ?_⟩) hHeld ?_
  rotate_left 1
  · (intro w hSw; go_simp; try with_reducible rfl)
  try simp only [Act.put, List.setIfInBounds_toArray, List.set_cons_zero, List.set_cons_succ]
  refine takeL 18 (v := ?_) rfl (by kernel_rfl) (by kernel_rfl) (by kernel_rfl) (fun _ _ _ h => h) (Or.inl ⟨by rfl, ?_⟩) hHeld ?_
  rotate_left 1
  · (intro w hSw; go_simp; try with_reducible rfl)
  try simp only [Act.put, List.setIfInBounds_toArray, List.set_cons_zero, List.set_cons_succ]
  refine takeL 19 (v := ?_) rfl (by kernel_rfl) (by kernel_rfl) (by kernel_rfl) (fun _ _ _ h => h) (Or.inl ⟨by rfl, ?_⟩) hHeld ?_
  rotate_left 1
  · (intro w hSw; go_simp; try with_reducible rfl)
  try simp only [Act.put, List.setIfInBounds_toArray, List.set_cons_zero, List.set_cons_succ]
  refine takeL 20 (v := ?_) rfl (by kernel_rfl) (by kernel_rfl) (by kernel_rfl) (fun _ _ _ h => h) (Or.inl ⟨by rfl, ?_⟩) hHeld ?_
  rotate_left 1
  · (intro w hSw; have c1 := hSw.2; go_simp; try with_reducible rfl)
  try simp only [Act.put, List.setIfInBounds_toArray, List.set_cons_zero, List.set_cons_succ]
  refine stepL 14 (by kernel_rfl) rfl (fun K hK => ?_)
  go_simp
  refine (HLg3.out Y3 V0.out.1.s).mono ?_
  rintro e Z3 ⟨u, rfl, hu, hb⟩
  show K _ _
  have V1 := Bx.mk (And.intro (V0.out.1.later hb) (And.intro hb hu))
  clear hb hu V0 B0
  refine hK.out _ _ (HK.out _ V1.out.2.1).1 (fun hHeld => ?_)
  clear hK K
  try simp only [Act.put, List.setIfInBounds_toArray, List.set_cons_zero, List.set_cons_succ]
  refine stepL 21 (by kernel_rfl) rfl (fun K hK => ?_)
  go_simp
  refine (rsame8 l.d l.d _ _ Z3 V1.out.2.2 (HK.out _ V1.out.2.1).2.1 (by have := HNl.out; have := HG.out.d; omega) (by have := HG.out.d; omega)).mono ?_
  rw [decide_eq_true (rfl : l.d = l.d)]
  rintro e X3 ⟨rfl, hb⟩
  show K _ _
  have V2 := Bx.mk (And.intro (V1.out.1.later hb) (V1.out.2.1.trans (hb.mono V1.out.2.1.size)))
  clear hb V1
  refine hK.out _ _ (HK.out _ V2.out.2).1 (fun hHeld => ?_)
  clear hK K
  try simp only [Act.put, List.setIfInBounds_toArray, List.set_cons_zero, List.set_cons_succ]
  refine takeL 22 (v := ?_) rfl (by kernel_rfl) (by kernel_rfl) (by kernel_rfl) (fun _ _ _ h => h) (Or.inl ⟨by rfl, ?_⟩) hHeld ?_
  rotate_left 1
  · (intro w hSw; go_simp; try with_reducible rfl)
  try simp only [Act.put, List.setIfInBounds_toArray, List.set_cons_zero, List.set_cons_succ]
  refine takeL 23 (v := ?_) rfl (by kernel_rfl) (by kernel_rfl) (by kernel_rfl) (fun _ _ _ h => h) (Or.inl ⟨by rfl, ?_⟩) hHeld ?_
  rotate_left 1
  · (intro w hSw; go_simp; try with_reducible rfl)
  try simp only [Act.put, List.setIfInBounds_toArray, List.set_cons_zero, List.set_cons_succ]
  refine wpAnyH_done (by kernel_rfl) ?_ _
  refine NoPanic.normal ?_
  clear hHeld
  have R4 := Bx.mk (And.intro V2.out.1 (HK.out _ V2.out.2).2.2)
  clear V2 HK
  go_wp2
  rw [rounds_succ]
  go_wp2_with fail
  refine (HAll.out X3 R4.out.1.s).mono ?_
  rintro e w3 ⟨aw, cw, rfl, hl, hb⟩
  have T1 := Bx.mk (And.intro (R4.out.1.later hb) hl)
  clear hb hl R4 HAll
  go_wp2_with fail
  refine HLA.out _ _ w3 aw cw ⟨⟨rfl, rfl⟩, rfl, rfl, rfl, rfl⟩ rfl T1.out.1 T1.out.2 ?_
  intro a5 w5 h5 ht5
  have T5 := Bx.mk ht5
  obtain ⟨z, rfl, hz⟩ := open128 h5.fr
  have f0 := (hz 0).symm.trans h5.s0
  have f1 := (hz 1).symm.trans h5.s1
  have f2 := (hz 2).symm.trans h5.s2
  have f9 := (hz 9).symm.trans h5.s9
  clear h5 hz ht5 T1 HLA
  rw [f0, f1, f2, f9]
  clear f0 f1 f2 f9
  go_wp2_with fail
  refine HLC.out _ _ w5 ⟨⟨rfl, rfl⟩, rfl, rfl, rfl, rfl⟩ T5.out ?_
  intro a6 w6 h6 ht6
  have T6 := Bx.mk ht6
  obtain ⟨g, rfl, hg⟩ := open128 h6.fr
  have j0 := (hg 0).symm.trans h6.s0
  have j1 := (hg 1).symm.trans h6.s1
  have j2 := (hg 2).symm.trans h6.s2
  have j11 := (hg 11).symm.trans h6.s11
  clear h6 hg ht6 T5 HLC
  rw [j0, j1, j2, j11]
  clear j0 j1 j2 j11
  have U0 := T6
  clear T6
  go_wp2_with fail
  refine (HH1.out w6 U0.out.s).mono ?_
  rintro e u1 ⟨rfl, hb⟩
  have U1 := Bx.mk (U0.out.later hb)
  clear hb U0
  go_wp2_with fail
  refine (HH2.out u1 U1.out.r).mono ?_
  rintro e u2 ⟨rfl, hw⟩
  have U2 : Bx (TW w p q l u2) := ⟨by rw [hw]; exact U1.out⟩
  clear hw U1
  go_wp2_with fail
  refine (HLo.out u2 (-1) U2.out.s (.inl rfl)).mono ?_
  rintro e u3 ⟨rfl, hw⟩
  have U3 : Bx (TW w p q l u3) := ⟨by rw [hw]; exact U2.out⟩
  clear hw U2
  go_wp2_with fail
  refine (HLo.out u3 4 U3.out.s (.inr rfl)).mono ?_
  rintro e u4 ⟨rfl, hw⟩
  have U4 : Bx (TW w p q l u4) := ⟨by rw [hw]; exact U3.out⟩
  clear hw U3
  go_wp2_with fail
  refine (HP.out u4 U4.out.b U4.out.s).mono ?_
  rintro e u5 ⟨rfl, hb⟩
  have U5 := Bx.mk (U4.out.later hb)
  clear hb U4
  go_wp2_with fail
  refine (HMk.out u5).mono ?_
  rintro e u6 ⟨rfl, hb⟩
  have U6 := Bx.mk (U5.out.later hb)
  clear hb U5
  go_wp2_with fail
  refine (HRp.out u6 U6.out.r).mono ?_
  rintro e u7 ⟨rfl, hb⟩
  have U7 := Bx.mk (U6.out.later hb)
  clear hb U6
  go_wp2
  go_ret
  exact ⟨rfl, U7.out.b⟩
end Go.Proofs.YtmfhdhggpepbbaaDoor
