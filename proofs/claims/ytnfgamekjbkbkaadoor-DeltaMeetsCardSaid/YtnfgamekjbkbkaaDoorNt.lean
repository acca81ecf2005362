/-
  DeltaMeets: the loops joined, and the whole walk.
-/
import Derived.Test.YtnfgamekjbkbkaaDoorNr
import Derived.Test.YtnfgamekjbkbkaaDoorNs
import Derived.Test.YtnfgamekjbkbkaaDoorNk
namespace Go.Proofs.YtnfgamekjbkbkaaDoor
open Go Go.RowKit
set_option maxRecDepth 100000 in
theorem mlast (w : World) (E X Y qq : Nat) (va vb : V4) (l : L4) (room : Int) (Q : Exit → Act → World → Prop) (a : Act) (wr : World) (hI : IM1 w E X Y qq va vb l room 4 a wr) (hq : ∀ a' w', IM1 w E X Y qq va vb l room 4 a' w' → Q (.exit 0) a' w') :
    Code.wp Tryd.prog (loopAt Tryd.f6.body 0) (Exit.then (fun _ _ => False) Q) a wr := by
  obtain ⟨N, K, hN, hK, h, hD⟩ := hI
  have S0 := Bx.mk hD
  have HQ := Bx.mk hq
  have HE := Bx.mk (And.intro hN hK)
  clear hD hq hN hK
  obtain ⟨y, rfl, hy⟩ := open181 h.fr
  have e3 := (hy 3).symm.trans h.s3
  have e5 := (hy 5).symm.trans h.s5
  have e6 := (hy 6).symm.trans h.s6
  have e8 := (hy 8).symm.trans h.s8
  have e10 := (hy 10).symm.trans h.s10
  have e11 := (hy 11).symm.trans h.s11
  have e12 := (hy 12).symm.trans h.s12
  have e13 := (hy 13).symm.trans h.s13
  clear h hy
  rw [e3, e5, e6, e8, e10, e11, e12, e13]
  clear e3 e5 e6 e8 e10 e11 e12 e13
  conv => arg 2; whnf
  go_wp2
  exact HQ.out _ _ ⟨N, K, HE.out.1, HE.out.2, ⟨⟨rfl, rfl⟩, rfl, rfl, rfl, rfl, rfl, rfl, rfl, rfl⟩, S0.out⟩
theorem loopM0 (w : World) (E X Y qq : Nat) (va vb : V4) (l : L4) (room : Int) (hg : Good l) (hnd : NoDup l) (h40 : Most l 40) (Q : Exit → Act → World → Prop) (a : Act) (wr : World) (h : IM1 w E X Y qq va vb l room 0 a wr) (hq : ∀ a' w', IM1 w E X Y qq va vb l room 4 a' w' → Q (.exit 0) a' w') :
    Code.wp Tryd.prog (.loop (loopAt Tryd.f6.body 0)) Q a wr :=
  wp_count 4 (fun k a w' => IM1 w E X Y qq va vb l room k a w') 0 (Nat.zero_le _) h (fun k a w' hk hI => by
    obtain ⟨k1, hk1⟩ : ∃ k1, k + 1 = k1 := ⟨_, rfl⟩
    rw [hk1]
    have h4 : k = 0 ∨ k = 1 ∨ k = 2 ∨ k = 3 := by omega
    rcases h4 with rfl | rfl | rfl | rfl
    · obtain rfl : k1 = 1 := by omega
      exact mround0 w E X Y qq va vb l room hg hnd h40 Q a w' hI
    · obtain rfl : k1 = 2 := by omega
      exact mround1 w E X Y qq va vb l room hg hnd h40 Q a w' hI
    · obtain rfl : k1 = 3 := by omega
      exact mround2 w E X Y qq va vb l room hg hnd h40 Q a w' hI
    · obtain rfl : k1 = 4 := by omega
      exact mround3 w E X Y qq va vb l room hg hnd h40 Q a w' hI) (fun a w' hI => mlast w E X Y qq va vb l room Q a w' hI hq)
theorem loopM1 (w : World) (E X Y qq : Nat) (va vb : V4) (l : L4) (J : N4) (rm : Nat) (hM : MW w E l J rm) (Q : Exit → Act → World → Prop) (a : Act) (wr : World) (h : IM2 w E X Y qq va vb l J rm 0 a wr)
    (hq : ∀ (N : N4) r' a' w', N.Le l.len → gapN N J = 0 → PN (.int .i64 (rm : Int)) (.bool false) (.pointer (some ⟨X, 0, none⟩)) (.pointer (some ⟨Y, 0, none⟩)) (.int .i64 r') a' → DM w E X Y qq va vb l (l.pre N) (l.pre J) w' → Q (.exit 2) a' w') :
    Code.wp Tryd.prog (.loop (loopAt Tryd.f6.body 1)) Q a wr :=
  wp_count 200 (fun k a w' => IM2 w E X Y qq va vb l J rm k a w') 0 (Nat.zero_le _) h (fun k a w' hk hI => by
    obtain ⟨N, hN, hs, hp, hd⟩ := hI
    by_cases h0 : gapN N J = 0
    · exact meetB w E X Y qq va vb l J rm hM Q k a w' hk N hN h0 hp hd (fun r' a' w'' h1 h2 => hq N r' a' w'' hN h0 h1 h2)
    · exact meetR w E X Y qq va vb l J rm hM Q k a w' hk N hN h0 hs hp hd) (fun a w' hI => by
    obtain ⟨N, hN, hs, hp, hd⟩ := hI
    exact absurd hs (by omega))
theorem set_beside_errs {W W1 : World} {p D : Nat} {l : L4} {cs : Array Value} {fr : Nat × Nat} (h : SetAt W p l) (hD : W.heap[D]? = some (.cells cs 33 fr)) (hne : D ≠ p) (hg : W.grownBy W1 (some D)) : SetAt W1 p l := by
  obtain ⟨x, hx, hr⟩ := h
  exact ⟨x, by rw [hg.block p (Array.getElem?_eq_some_iff.1 hx).1 (fun e => hne (Option.some.inj e).symm)]; exact hx, hr.grown hg hD (by decide)⟩
set_option maxRecDepth 100000 in
set_option maxHeartbeats 16000000 in
theorem meets_walk (x : VV) (m : L4) (va vb : V4) (room : Int) (w : World) (hx : RowsI w x m) (hm : Most m 9223372036854775807) (hF : Full w) (hf : 0 < w.heap.size) (hTab : Tab w) (hG : 1 < w.heap.size) :
    Calls Tryd.prog 6 #[.agg #[x.a, x.b, x.c, x.d], .agg #[.int .i64 va.a, .int .i64 va.b, .int .i64 va.c, .int .i64 va.d], .agg #[.int .i64 vb.a, .int .i64 vb.b, .int .i64 vb.c, .int .i64 vb.d], .int .i64 room] w fun e w' => e = .returned (.bool true) ∧ Below w.heap.size w w' := by
  obtain ⟨E, hE⟩ : ∃ E, w.heap.size = E := ⟨_, rfl⟩
  have hgl := mkL_good m 4
  have hml := mkL_40 m
  have hnd := mkL_nodup m
  have HMk := Bx.mk (fun W (h : Below E w W) => make9 x m W (hx.later (by rw [hE]; exact h)) hm)
  obtain ⟨l, hl⟩ : ∃ l, mkL m 4 = l := ⟨_, rfl⟩
  rw [hl] at HMk hgl hml hnd
  obtain ⟨c, hc, hc1, hc2⟩ := rem_facts room 39 (by decide)
  have hc1 : (IntKind.u64.wrap room).tmod 40 = (c : Int) := hc1
  obtain ⟨rm, hrm⟩ : ∃ rm : Nat, 18 + c = rm := ⟨_, rfl⟩
  have hc3 : IntKind.i64.wrap (18 + (c : Int)) = (rm : Int) := by rw [IntKind.wrap_i64]; omega
  have hc4 : (18 : Int) + (c : Int) = (rm : Int) := by omega
  have hr0 : (0 : Int) ≤ (rm : Int) := by omega
  have hr1 : (rm : Int) ≤ 57 := by omega
  have HKn : Bx (∀ W, Below w.heap.size w W → Calls Tryd.prog 33 #[] W fun e w' => e = .returned (.bool true) ∧ Below W.heap.size W w') := ⟨fun W h => known9_any W (hTab.later h hG) (by have := h.size; omega)⟩
  rw [hE] at HKn
  have HL0 := Bx.mk (fun X Y qq => loopM0 w E X Y qq va vb l room hgl hnd hml)
  have HL1 := Bx.mk (fun X Y qq J hj => loopM1 w E X Y qq va vb l J rm ⟨hE, hgl, hnd, hj, by omega, by omega, hF, hf, hTab, hG⟩)
  have HFu : Bx (∀ W, Below E w W → Full W ∧ 0 < W.heap.size) := ⟨fun W h => ⟨hF.later (by rw [hE]; exact h) hf, Nat.lt_of_lt_of_le (by rw [← hE]; exact hf) (Nat.le_trans (Nat.le_of_eq hE.symm) h.size)⟩⟩
  have K0 : Bx (KR w E [(E + 1, .cells #[.int .i64 va.a, .int .i64 va.b, .int .i64 va.c, .int .i64 va.d] 22), (E + 2, .cells #[.int .i64 vb.a, .int .i64 vb.b, .int .i64 vb.c, .int .i64 vb.d] 22), (E, .cells #[x.a, x.b, x.c, x.d] 24)] (((w.alloc (.cells #[x.a, x.b, x.c, x.d] 24)).alloc (.cells #[.int .i64 va.a, .int .i64 va.b, .int .i64 va.c, .int .i64 va.d] 22)).alloc (.cells #[.int .i64 vb.a, .int .i64 vb.b, .int .i64 vb.c, .int .i64 vb.d] 22))) := Bx.mk (by
    subst hE
    have h := (((KR.start w).new (.cells #[x.a, x.b, x.c, x.d] 24)).new (.cells #[.int .i64 va.a, .int .i64 va.b, .int .i64 va.c, .int .i64 va.d] 22)).new (.cells #[.int .i64 vb.a, .int .i64 vb.b, .int .i64 vb.c, .int .i64 vb.d] 22)
    refine KR.sub (by simpa using h) ?_
    intro z hz
    simp at hz ⊢
    rcases hz with rfl | rfl | rfl <;> simp)
  have HZ0 : Bx ((((w.alloc (.cells #[x.a, x.b, x.c, x.d] 24)).alloc (.cells #[.int .i64 va.a, .int .i64 va.b, .int .i64 va.c, .int .i64 va.d] 22)).alloc (.cells #[.int .i64 vb.a, .int .i64 vb.b, .int .i64 vb.c, .int .i64 vb.d] 22)).heap.size = E + 3) := ⟨by simp; omega⟩
  have HGap : Bx (∀ N J : N4, J.Le l.len → gapN N J + 0 ≤ 160) := ⟨fun N J h => by
    obtain ⟨j1, j2, j3, j4⟩ := h
    have g1 := hml.a
    have g2 := hml.b
    have g3 := hml.c
    have g4 := hml.d
    unfold L4.len at *
    simp only at j1 j2 j3 j4
    unfold gapN
    omega⟩
  have HVer : Bx (∀ (N : N4) (p : Nat) (W : World), N.Le l.len → SetAt W p (l.pre N) → Calls Tryd.prog 36 #[.pointer (some ⟨p, 0, none⟩)] W fun e w' => e = .returned (.agg #[.int .i64 N.v.a, .int .i64 N.v.b, .int .i64 N.v.c, .int .i64 N.v.d]) ∧ Below W.heap.size W w') := ⟨fun N p W hN hs => by
    have h := versions_any (.pointer (some ⟨p, 0, none⟩)) (l.pre N) W (.inr ⟨p, rfl, hs⟩)
    rw [L4.pre_len hN] at h
    exact h⟩
  have HAn : Bx (∀ (N J : N4) (p : Nat) (W : World), N.Le l.len → J.Le l.len → SetAt W p (l.pre J) → Calls Tryd.prog 34 #[.pointer (some ⟨p, 0, none⟩), .agg #[.int .i64 N.v.a, .int .i64 N.v.b, .int .i64 N.v.c, .int .i64 N.v.d], .int .i64 1000] W fun e w' => ∃ u, e = .returned (.tuple #[.agg (dC (lowV N.v J.v) u), .int .i64 0]) ∧ Rows4 w' u (ansL (l.pre J) N.v 492) ∧ Below W.heap.size W w') := ⟨fun N J p W hN hJ hs => by
    have h := answer_ok N.v p (l.pre J) 1000 W hs (hgl.pre J) (pre_ok hgl hN) (by omega) (fun f x m W hx hm => cut9 f x m 1000 W hx hm (by omega) (by omega))
    rw [L4.pre_len hJ] at h
    exact h⟩
  have HAp : Bx (∀ (N J : N4) (p : Nat) (W : World) (u : VV), N.Le l.len → J.Le l.len → gapN N J = 0 → Rows4 W u (ansL (l.pre J) N.v 492) → SetAt W p (l.pre N) → Below E w W → Calls Tryd.prog 73 #[.pointer (some ⟨p, 0, none⟩), .agg (dC (lowV N.v J.v) u)] W fun e w' => e = .returned (.tuple #[.int .i64 0, .int .i64 0]) ∧ SetAt w' p (l.pre N) ∧ W.grownBy w' (some p)) := ⟨fun N J p W u hN hJ h0 hu hs hb => by
    have hb' : Below w.heap.size w W := by rw [hE]; exact hb
    have hmo : Most (ansL (l.pre J) N.v 492) 1000 := by
      have h1 := hml.a
      have h2 := hml.b
      have h3 := hml.c
      have h4 := hml.d
      unfold ansL L4.pre
      constructor <;> (simp only [List.length_take, List.length_drop]; omega)
    have h := apply_any (lowV N.v J.v) u (ansL (l.pre J) N.v 492) (l.pre N) p W hu hmo hs (hF.later hb' hf) (Nat.lt_of_lt_of_le hf hb'.size) (hgl.pre N)
    rw [meet_none hgl hnd N J 492 hN hJ h0] at h
    exact h⟩
  have HGd : Bx (∀ N : N4, Good (l.pre N)) := ⟨fun N => hgl.pre N⟩
  have HRM := Bx.mk hrm
  clear hx hm hl hF hf hTab hG hgl hml hnd hc hrm
  rw [hE]
  go_enter Tryd.func6, Tryd.ntmps6
  go_wp2_with (refine wpList_load_row rfl 24 _ rfl E (by rfl) _ #[x.a, x.b, x.c, x.d] (0, 0) _ (K0.out.rows _ (.tail _ (.tail _ (.head _)))) Tryd.underlying24 rfl (by kernel_rfl) ?_)
  generalize ((w.alloc (.cells #[x.a, x.b, x.c, x.d] 24)).alloc (.cells #[.int .i64 va.a, .int .i64 va.b, .int .i64 va.c, .int .i64 va.d] 22)).alloc (.cells #[.int .i64 vb.a, .int .i64 vb.b, .int .i64 vb.c, .int .i64 vb.d] 22) = w0 at *
  refine (HMk.out w0 K0.out.below).mono ?_
  rintro e w1 ⟨pp, qq, rfl, hs, hr, hp1, hp2, hb⟩
  have HO1 : Bx (E + 2 < qq ∧ qq < w1.heap.size) := ⟨by have := HZ0.out; omega, hr.lt⟩
  have K1 := Bx.mk ((K0.out.later hb).sub (rs' := [(E + 1, .cells #[.int .i64 va.a, .int .i64 va.b, .int .i64 va.c, .int .i64 va.d] 22), (E + 2, .cells #[.int .i64 vb.a, .int .i64 vb.b, .int .i64 vb.c, .int .i64 vb.d] 22)]) (fun z hz => by simp at hz ⊢; rcases hz with rfl | rfl <;> simp))
  have S1 := Bx.mk hr
  clear hs hr hb K0 HMk hp1 hp2 HZ0
  go_wp2_with fail
  obtain ⟨X, hX⟩ : ∃ X, w1.heap.size = X := ⟨_, rfl⟩
  refine (new_any8 w1).mono ?_
  rintro e w2 ⟨rfl, hs, hb, hz⟩
  rw [hX] at hs hz ⊢
  have K2 := Bx.mk (K1.out.later hb)
  have S2 := Bx.mk (And.intro (S1.out.later hb) hs)
  have HO2 : Bx (E + 2 < qq ∧ qq < X) := ⟨by have := HO1.out; omega⟩
  clear hs hb K1 S1 HO1 hX
  go_wp2_with fail
  obtain ⟨Y, hY⟩ : ∃ Y, w2.heap.size = Y := ⟨_, rfl⟩
  refine (new_any8 w2).mono ?_
  rintro e w3 ⟨rfl, hs, hb, -⟩
  rw [hY] at hs ⊢
  have HI3 : Bx (DM w E X Y qq va vb l (maskL (l.pre ⟨0, 0, 0, 0⟩) 0) (maskL (l.pre ⟨0, 0, 0, 0⟩) 0) w3) := ⟨⟨K2.out.later hb, S2.out.1.later hb, S2.out.2.later hb, hs, by have := HO2.out; omega⟩⟩
  clear hs hb K2 S2 HO2 hz hY
  go_wp2_with fail
  refine (HL0.out X Y qq) _ _ w3 ⟨⟨0, 0, 0, 0⟩, ⟨0, 0, 0, 0⟩, ⟨Nat.zero_le _, Nat.zero_le _, Nat.zero_le _, Nat.zero_le _⟩, ⟨Nat.zero_le _, Nat.zero_le _, Nat.zero_le _, Nat.zero_le _⟩, ⟨⟨rfl, rfl⟩, rfl, rfl, rfl, rfl, rfl, rfl, rfl, rfl⟩, HI3.out⟩ ?_
  rintro a4 w4 ⟨N, J, hN, hJ, h4, hD⟩
  have hD : DM w E X Y qq va vb l (l.pre N) (l.pre J) w4 := hD
  have S4 := Bx.mk hD
  have HNJ := Bx.mk (And.intro hN hJ)
  clear hD hN hJ HL0 HI3
  obtain ⟨y, rfl, hy⟩ := open181 h4.fr
  have e3 := (hy 3).symm.trans h4.s3
  have e8 := (hy 8).symm.trans h4.s8
  have e11 := (hy 11).symm.trans h4.s11
  have e12 := (hy 12).symm.trans h4.s12
  clear h4 hy
  rw [e3, e8, e11, e12]
  clear e3 e8 e11 e12
  go_wp2_with fail
  refine (HL1.out X Y qq J HNJ.out.2) _ _ w4 ⟨N, HNJ.out.1, HGap.out N J HNJ.out.2, ⟨⟨rfl, rfl⟩, rfl, rfl, rfl, rfl, rfl⟩, S4.out⟩ ?_
  rintro N1 r1 a5 w5 hN1 hgap h5 hD
  have S5 := Bx.mk hD
  have HJ := Bx.mk HNJ.out.2
  have HN := Bx.mk (And.intro hN1 hgap)
  clear hD hN1 hgap S4 HNJ HL1 HGap
  obtain ⟨z, rfl, hy⟩ := open181 h5.fr
  have e3 := (hy 3).symm.trans h5.s3
  have e8 := (hy 8).symm.trans h5.s8
  have e11 := (hy 11).symm.trans h5.s11
  have e12 := (hy 12).symm.trans h5.s12
  have e17 := (hy 17).symm.trans h5.s17
  clear h5 hy
  rw [e3, e8, e11, e12, e17]
  clear e3 e8 e11 e12 e17
  go_wp2_with fail
  obtain ⟨C, hC⟩ : ∃ C, w5.heap.size = C := ⟨_, rfl⟩
  have hcp := copy_any X (l.pre N1) w5 S5.out.x (HGd.out N1)
  rw [hC] at hcp
  refine hcp.mono ?_
  rintro e w6 ⟨rfl, hs, hb⟩
  have HYC : Bx (Y < C ∧ X < C ∧ E ≤ C) := ⟨by have h1 := S5.out.y.lt; have h2 := S5.out.o; omega⟩
  have S6 := Bx.mk (And.intro (S5.out.later (by rw [hC]; exact hb)) hs)
  clear hs hb S5 hcp hC
  go_wp2_with fail
  refine (HVer.out N1 X w6 HN.out.1 S6.out.1.x).mono ?_
  rintro e w7 ⟨rfl, hb⟩
  have S7 := Bx.mk (And.intro (S6.out.1.later hb) (S6.out.2.later hb))
  clear hb S6
  go_wp2_with fail
  refine (HAn.out N1 J Y w7 HN.out.1 HJ.out S7.out.1.y).mono ?_
  rintro e w8 ⟨u, rfl, hu, hb⟩
  obtain ⟨u1, u2, u3, u4, b1, b2, b3, b4, rfl⟩ := hu.forms
  have S8 := Bx.mk (And.intro (S7.out.1.later hb) (And.intro (S7.out.2.later hb) hu))
  have HAp1 : Bx (∀ (W : World), Rows4 W ⟨.slice u1 (ansL (l.pre J) N1.v 492).a.length b1, .slice u2 (ansL (l.pre J) N1.v 492).b.length b2, .slice u3 (ansL (l.pre J) N1.v 492).c.length b3, .slice u4 (ansL (l.pre J) N1.v 492).d.length b4⟩ (ansL (l.pre J) N1.v 492) → SetAt W C (l.pre N1) → Below E w W → Calls Tryd.prog 73 #[.pointer (some ⟨C, 0, none⟩), .agg #[.int .i64 (lowV N1.v J.v).a, .int .i64 (lowV N1.v J.v).b, .int .i64 (lowV N1.v J.v).c, .int .i64 (lowV N1.v J.v).d, .slice u1 (ansL (l.pre J) N1.v 492).a.length b1, .slice u2 (ansL (l.pre J) N1.v 492).b.length b2, .slice u3 (ansL (l.pre J) N1.v 492).c.length b3, .slice u4 (ansL (l.pre J) N1.v 492).d.length b4]] W fun e w' => e = .returned (.tuple #[.int .i64 0, .int .i64 0]) ∧ SetAt w' C (l.pre N1) ∧ W.grownBy w' (some C)) := ⟨fun W h1 h2 h3 => by
    have h := HAp.out N1 J C W _ HN.out.1 HJ.out HN.out.2 h1 h2 h3
    unfold dC at h
    exact h⟩
  have HCov : Bx (covV N1.v J.v = true) := ⟨gap_cov.2 HN.out.2⟩
  clear hb hu S7 HAn HAp HGd
  generalize lowV N1.v J.v = lo at *
  generalize ansL (l.pre J) N1.v 492 = an at *
  obtain ⟨D, hD⟩ : ∃ Z, w8.heap.size = Z := ⟨_, rfl⟩
  have K8 : Bx (KR w8 D [] w8) := ⟨by rw [← hD]; exact KR.start w8⟩
  unfold dC
  simp only
  go_wp2_with (first | (refine wpList_store_v9 rfl 30 _ _ rfl w8 D hD #[.int .i64 0, .int .i64 0, .int .i64 0, .int .i64 0, .slice none 0 0, .slice none 0 0, .slice none 0 0, .slice none 0 0] 30 rfl (by rfl) #[.int .i64 lo.a, .int .i64 lo.b, .int .i64 lo.c, .int .i64 lo.d, .slice u1 an.a.length b1, .slice u2 an.b.length b2, .slice u3 an.c.length b3, .slice u4 an.d.length b4] (by rfl) rfl (by kernel_rfl) (by simp [Value.oneCell']) ?_; intro w9 hb hr _; have S9 := Bx.mk (And.intro (S8.out.1.later hb) (And.intro (S8.out.2.1.later hb) (S8.out.2.2.later hb))); have K9 := Bx.mk (K8.out.var9 hD hb hr); clear hb hr S8 K8) | (refine wpList_load_row rfl 30 _ rfl D (by rfl) _ #[.int .i64 lo.a, .int .i64 lo.b, .int .i64 lo.c, .int .i64 lo.d, .slice u1 an.a.length b1, .slice u2 an.b.length b2, .slice u3 an.c.length b3, .slice u4 an.d.length b4] (0, 0) _ (K9.out.rows _ (.head _)) Tryd.underlying30 rfl (by kernel_rfl) ?_))
  have hba := below_a (W := w9) (.cells #[.int .i64 lo.a, .int .i64 lo.b, .int .i64 lo.c, .int .i64 lo.d, .slice u1 an.a.length b1, .slice u2 an.b.length b2, .slice u3 an.c.length b3, .slice u4 an.d.length b4, .int .i64 lo.a, .int .i64 lo.b, .int .i64 lo.c, .int .i64 lo.d, .slice u1 an.a.length b1, .slice u2 an.b.length b2, .slice u3 an.c.length b3, .slice u4 an.d.length b4] 30)
  have hrow : (w9.alloc (.cells #[.int .i64 lo.a, .int .i64 lo.b, .int .i64 lo.c, .int .i64 lo.d, .slice u1 an.a.length b1, .slice u2 an.b.length b2, .slice u3 an.c.length b3, .slice u4 an.d.length b4, .int .i64 lo.a, .int .i64 lo.b, .int .i64 lo.c, .int .i64 lo.d, .slice u1 an.a.length b1, .slice u2 an.b.length b2, .slice u3 an.c.length b3, .slice u4 an.d.length b4] 30)).heap[w9.heap.size]? = some (.cells #[.int .i64 lo.a, .int .i64 lo.b, .int .i64 lo.c, .int .i64 lo.d, .slice u1 an.a.length b1, .slice u2 an.b.length b2, .slice u3 an.c.length b3, .slice u4 an.d.length b4, .int .i64 lo.a, .int .i64 lo.b, .int .i64 lo.c, .int .i64 lo.d, .slice u1 an.a.length b1, .slice u2 an.b.length b2, .slice u3 an.c.length b3, .slice u4 an.d.length b4] 30 (0, 0)) := hnew _ _ _ rfl
  have S10 := Bx.mk (And.intro (S9.out.1.later hba) (And.intro (S9.out.2.1.later hba) (S9.out.2.2.later hba)))
  have HCl := Bx.mk S9.out.2.1.lt
  clear hba S9 K9 hD
  generalize w9.alloc (.cells #[.int .i64 lo.a, .int .i64 lo.b, .int .i64 lo.c, .int .i64 lo.d, .slice u1 an.a.length b1, .slice u2 an.b.length b2, .slice u3 an.c.length b3, .slice u4 an.d.length b4, .int .i64 lo.a, .int .i64 lo.b, .int .i64 lo.c, .int .i64 lo.d, .slice u1 an.a.length b1, .slice u2 an.b.length b2, .slice u3 an.c.length b3, .slice u4 an.d.length b4] 30) = w10 at *
  have hA1 : ∀ W, Below w10.heap.size w10 W → Calls Tryd.prog 73 #[.pointer (some ⟨C, 0, none⟩), .agg #[.int .i64 lo.a, .int .i64 lo.b, .int .i64 lo.c, .int .i64 lo.d, .slice u1 an.a.length b1, .slice u2 an.b.length b2, .slice u3 an.c.length b3, .slice u4 an.d.length b4]] W fun e' w' => e' = .returned (.tuple #[.int .i64 0, .int .i64 0]) ∧ SetAt w' C (l.pre N1) ∧ W.grownBy w' (some C) := fun W hW => HAp1.out W (S10.out.2.2.later hW) (S10.out.2.1.later hW) (S10.out.1.k.below.trans (hW.mono S10.out.1.k.le))
  have hA2 : ∀ W, SetAt W C (l.pre N1) → w10.grownBy W (some C) → Calls Tryd.prog 73 #[.pointer (some ⟨C, 0, none⟩), .agg #[.int .i64 lo.a, .int .i64 lo.b, .int .i64 lo.c, .int .i64 lo.d, .slice u1 an.a.length b1, .slice u2 an.b.length b2, .slice u3 an.c.length b3, .slice u4 an.d.length b4]] W fun e' w' => e' = .returned (.tuple #[.int .i64 0, .int .i64 0]) ∧ SetAt w' C (l.pre N1) ∧ W.grownBy w' (some C) := fun W hs hg => HAp1.out W (S10.out.2.2.beside S10.out.2.1 hg) hs (S10.out.1.k.below.trans (grown_below hg HYC.out.2.2 S10.out.1.k.le))
  have hM2 := merge_two (.pointer (some ⟨C, 0, none⟩)) (.int .i64 lo.a) (.int .i64 lo.b) (.int .i64 lo.c) (.int .i64 lo.d) (.slice u1 an.a.length b1) (.slice u2 an.b.length b2) (.slice u3 an.c.length b3) (.slice u4 an.d.length b4) 0 0 0 0 w9.heap.size C (fun W => SetAt W C (l.pre N1)) (fun W => SetAt W C (l.pre N1)) w10 hrow (by simp [Value.oneCell']) (by omega) (by omega) (by omega) (by omega) S10.out.2.1.lt (by have := HCl.out; omega) (fun W W1 h hb => h.later hb) (fun W W1 h hb => h.later hb) (fun W W1 D cs fr h hD hne hg => set_beside_errs h hD hne hg) hA1 hA2
  refine hM2.mono ?_
  rintro e w11 ⟨v, rfl, ho, hs, hg⟩
  obtain ⟨av, cv, rfl⟩ := ho.form
  have hgl := fun g hg => (ho.lt g hg).1
  obtain ⟨gv, ov, rfl, c9, c10, -⟩ := ints_two ho.ints
  have S11 : Bx (KR w E [] w11 ∧ SetAt w11 X (l.pre N1) ∧ SetAt w11 Y (l.pre J) ∧ gv < w11.heap.size ∧ w11.cell? ⟨gv, ov, none⟩ = some (.int .i64 0) ∧ w11.cell? ⟨gv, ov + 1, none⟩ = some (.int .i64 0)) := ⟨⟨(S10.out.1.k.sub (fun z hz => (List.not_mem_nil hz).elim)).grown hg HYC.out.2.2 (fun z hz => (List.not_mem_nil hz).elim), S10.out.1.x.beside S10.out.2.1 hg (by have := HYC.out; omega), S10.out.1.y.beside S10.out.2.1 hg (by have := HYC.out; omega), hgl gv rfl, c9, c10⟩⟩
  clear hA1 hA2 hM2 hrow S10 HCl HAp1 hgl ho hs hg c9 c10 HYC
  simp only [List.length_cons, List.length_nil, Nat.zero_add, Int.add_zero]
  go_wp2_with fail
  have later11 : ∀ W W1 : World, (KR w E [] W ∧ SetAt W X (l.pre N1) ∧ SetAt W Y (l.pre J) ∧ gv < W.heap.size ∧ W.cell? ⟨gv, ov, none⟩ = some (.int .i64 0) ∧ W.cell? ⟨gv, ov + 1, none⟩ = some (.int .i64 0)) → Below W.heap.size W W1 → (KR w E [] W1 ∧ SetAt W1 X (l.pre N1) ∧ SetAt W1 Y (l.pre J) ∧ gv < W1.heap.size ∧ W1.cell? ⟨gv, ov, none⟩ = some (.int .i64 0) ∧ W1.cell? ⟨gv, ov + 1, none⟩ = some (.int .i64 0)) := fun W W1 h hb => ⟨h.1.later hb, h.2.1.later hb, h.2.2.1.later hb, Nat.lt_of_lt_of_le h.2.2.2.1 hb.size, (hb.cell (p := ⟨gv, ov, none⟩) h.2.2.2.1).trans h.2.2.2.2.1, (hb.cell (p := ⟨gv, ov + 1, none⟩) h.2.2.2.1).trans h.2.2.2.2.2⟩
  have HL := Bx.mk later11
  clear later11
  refine (HKn.out w11 S11.out.1.below).mono ?_
  rintro e w12 ⟨rfl, hb⟩
  have S12 := Bx.mk (HL.out _ _ S11.out hb)
  clear hb S11 HKn
  go_wp2_with fail
  refine (HVer.out N1 X w12 HN.out.1 S12.out.2.1).mono ?_
  rintro e w13 ⟨rfl, hb⟩
  have S13 := Bx.mk (HL.out _ _ S12.out hb)
  clear hb S12
  go_wp2_with fail
  refine (HVer.out J Y w13 HJ.out S13.out.2.2.1).mono ?_
  rintro e w14 ⟨rfl, hb⟩
  have S14 := Bx.mk (HL.out _ _ S13.out hb)
  clear hb S13 HVer
  have hcv := covers_any8 N1.v J.v w14
  unfold V4.v at hcv
  rw [HCov.out] at hcv
  go_wp2_with fail
  refine hcv.mono ?_
  rintro e w15 ⟨rfl, hb⟩
  have S15 := Bx.mk (HL.out _ _ S14.out hb)
  clear hb S14 hcv
  have c9 := S15.out.2.2.2.2.1
  have c10 := S15.out.2.2.2.2.2
  go_wp2
  go_ret
  exact ⟨rfl, S15.out.1.below⟩
end Go.Proofs.YtnfgamekjbkbkaaDoor
