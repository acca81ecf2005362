/-
  RevokeMerges: the outer loop.
-/
import Derived.Test.YtmfhdhggpepbbaaDoorFk
namespace Go.Proofs.YtmfhdhggpepbbaaDoor
open Go Go.RowKit
set_option maxRecDepth 100000 in
set_option maxHeartbeats 4000000 in
theorem roundMO (w : World) (E : Nat) (u : VV) (m : L4) (hE : w.heap.size = E) (hx : RowsI w u m) (hm : Most m 9223372036854775807)
    (Q : Exit → Act → World → Prop) (hret : ∀ a' w', Fr 194 a' → a'.eval (.tmp 8) = .bool true → Below E w w' → Q .ret a' w') (k : Nat) (a : Act) (wr : World) (hk : k < 3) (h : MO w E u (m.take 40) k a wr) :
    Code.wp Tryd.prog (loopAt (Tryd.f5.body) 0) (Exit.then (fun a' w' => MO w E u (m.take 40) (k + 1) a' w') Q) a wr := by
  obtain ⟨P, M, hMM, hJ⟩ := h.st
  have HL := Bx.mk (fun Q hr a wr h hq => loopMI w E u m hE hx hm Q hr k a wr hk h hq)
  have HRet := Bx.mk hret
  have HMM := Bx.mk hMM
  have HJ := Bx.mk hJ
  have HChk := Bx.mk h.chk
  have HN := Bx.mk (new_any8 wr)
  obtain ⟨p, hp⟩ : ∃ p, wr.heap.size = p := ⟨_, rfl⟩
  have HP : Bx (E + 5 < p ∧ ∀ j, j < k → P j < p) := ⟨by have := (Array.getElem?_eq_some_iff.1 hMM.set).1; omega, fun j hj => by have := (hMM.at_ j hj).lt; omega⟩
  rw [hp] at HN
  have HPw := Bx.mk hp
  have hk0 : (0 : Int) ≤ (k : Int) := by omega
  have hk1 : (k : Int) < 3 := by omega
  obtain ⟨x, rfl, hx⟩ := open194 h.fr.fr
  have e4 := (hx 4).symm.trans h.fr.s4
  have e9 := (hx 9).symm.trans h.fr.s9
  have e10 := (hx 10).symm.trans h.fr.s10
  have e11 := (hx 11).symm.trans h.fr.s11
  clear h hx hret hm hE hMM hJ hp
  rw [e4, e9, e10, e11]
  clear e4 e9 e10 e11
  conv => arg 2; whnf
  go_wp2_with fail
  refine HN.out.mono ?_
  rintro e w1 ⟨rfl, hs, hb, -⟩
  have M1 := Bx.mk (And.intro (HMM.out.later (by rw [HPw.out]; exact hb)) hs)
  clear hs hb HMM HN
  go_wp2_with (refine wpList_cellP rfl _ _ rfl (E + 5) k p (ptrC P k) (ptrC (fun j => if j = k then p else P j) (k + 1)) 63 (by rfl) (by rfl) M1.out.1.set (by unfold ptrC; simpa using hk) (ptrC_set P k p) ?_; intro w2 hg hc; have M2 := Bx.mk (M1.out.1.more M1.out.2 HP.out.1 HP.out.2 hg hc); clear hg hc M1)
  refine HL.out _ ?_ _ w2 ?_ ?_
  · intro a' w' h1 h2 h3
    exact HRet.out a' w' h1 h2 h3
  · exact ⟨⟨⟨rfl, rfl⟩, rfl, rfl, rfl, rfl⟩, by first | rfl | go_num, ⟨_, _, M2.out, by simp only [if_pos]; exact HalfOf.nil _, by simp only [if_pos]; exact Good.nil, fun j hj => by simp only [if_neg (show ¬ j = k by omega)]; exact HJ.out j hj⟩, fun t ht => absurd ht (Nat.not_lt_zero _)⟩
  intro a5 w5 h5
  have HS5 := Bx.mk (And.intro h5.st h5.chk)
  obtain ⟨z, rfl, hz⟩ := open194 h5.fr.fr
  have f4 := (hz 4).symm.trans h5.fr.s4
  have f9 := (hz 9).symm.trans h5.fr.s9
  have f10 := (hz 10).symm.trans h5.fr.s10
  have f11 := (hz 11).symm.trans h5.fr.s11
  clear h5 hz M2 HL HRet
  rw [f4, f9, f10, f11]
  clear f4 f9 f10 f11
  go_wp2
  obtain ⟨⟨P', M', h1, h2, h3, h4⟩, h5⟩ := HS5.out
  refine ⟨⟨⟨rfl, rfl⟩, rfl, rfl, rfl, by first | rfl | go_num⟩, ⟨P', M', h1, fun j hj => ?_⟩, fun _ t ht => h5 t ht⟩
  by_cases e : j = k
  · subst e
    exact h2.whole
  · exact h4 j (by omega)
set_option maxRecDepth 100000 in
set_option maxHeartbeats 1000000 in
theorem lastMO (w : World) (E : Nat) (u : VV) (L : L4) (Q : Exit → Act → World → Prop) (N : Act → World → Prop) (a : Act) (wr : World) (h : MO w E u L 3 a wr)
    (hq : ∀ a' w', MO w E u L 3 a' w' → Q (.exit 0) a' w') : Code.wp Tryd.prog (loopAt (Tryd.f5.body) 0) (Exit.then N Q) a wr := by
  have HQ := Bx.mk hq
  have HS := Bx.mk (And.intro h.st h.chk)
  obtain ⟨x, rfl, hx⟩ := open194 h.fr.fr
  have e4 := (hx 4).symm.trans h.fr.s4
  have e9 := (hx 9).symm.trans h.fr.s9
  have e10 := (hx 10).symm.trans h.fr.s10
  have e11 := (hx 11).symm.trans h.fr.s11
  clear h hx hq
  rw [e4, e9, e10, e11]
  clear e4 e9 e10 e11
  conv => arg 2; whnf
  go_wp2
  exact HQ.out _ _ ⟨⟨⟨rfl, rfl⟩, rfl, rfl, rfl, rfl⟩, HS.out.1, HS.out.2⟩
theorem loopMO (w : World) (E : Nat) (u : VV) (m : L4) (hE : w.heap.size = E) (hx : RowsI w u m) (hm : Most m 9223372036854775807)
    (Q : Exit → Act → World → Prop) (hret : ∀ a' w', Fr 194 a' → a'.eval (.tmp 8) = .bool true → Below E w w' → Q .ret a' w') (a : Act) (wr : World) (h : MO w E u (m.take 40) 0 a wr)
    (hq : ∀ a' w', MO w E u (m.take 40) 3 a' w' → Q (.exit 0) a' w') : Code.wp Tryd.prog (.loop (loopAt (Tryd.f5.body) 0)) Q a wr :=
  wp_count 3 (fun k a w' => MO w E u (m.take 40) k a w') 0 (Nat.zero_le _) h (fun k a w' hk hI => roundMO w E u m hE hx hm Q hret k a w' hk hI) (fun a w' hI => lastMO w E u (m.take 40) Q _ a w' hI hq)
/-- What is known behind the loops. -/
theorem chk_good {m : L4} (h : ∀ t, t < 4 → allS (lN (m.take 40) t) = true ∧ dupB (lN (m.take 40) t) = false) : Good (m.take 40) ∧ NoDup (m.take 40) := by
  have h0 := h 0 (by omega)
  have h1 := h 1 (by omega)
  have h2 := h 2 (by omega)
  have h3 := h 3 (by omega)
  have hl := Most.take m 40
  have la := hl.a
  have lb := hl.b
  have lc := hl.c
  have ld := hl.d
  refine ⟨⟨fun x hx => ?_, by omega, by omega, by omega, by omega⟩, ⟨h0.2, h1.2, h2.2, h3.2⟩⟩
  rcases hx with hx | hx | hx | hx
  · exact allS_in h0.1 x hx
  · exact allS_in h1.1 x hx
  · exact allS_in h2.1 x hx
  · exact allS_in h3.1 x hx
theorem N4.max_swap (a b c : N4) : (a.max b).max c = (a.max c).max b := by
  unfold N4.max
  simp only [Nat.max_assoc, Nat.max_comm b.a c.a, Nat.max_comm b.b c.b, Nat.max_comm b.c c.c, Nat.max_comm b.d c.d]
theorem N4.max_le {a b c : N4} (h1 : a.Le c) (h2 : b.Le c) : (a.max b).Le c := ⟨Nat.max_le.2 ⟨h1.a, h2.a⟩, Nat.max_le.2 ⟨h1.b, h2.b⟩, Nat.max_le.2 ⟨h1.c, h2.c⟩, Nat.max_le.2 ⟨h1.d, h2.d⟩⟩
theorem N4.join (a b : N4) : joinV a.v b.v = (a.max b).v := by
  unfold joinV N4.v N4.max
  have e : ∀ x y : Nat, Nat.max x y = Max.max x y := fun _ _ => rfl
  simp only [V4.mk.injEq, e]
  omega
theorem apply_beg {L : L4} (hg : Good L) (hd : NoDup L) (i j : N4) (hi : i.Le L.len) (hj : j.Le L.len) : applyL (L.pre i) V4.zero ((L.pre j).from_ ⟨0, 0, 0, 0⟩) = ((cntL (L.pre (i.max j)) : Int) - (cntL (L.pre i) : Int), 0, L.pre (i.max j)) :=
  applyL_pre hg hd i j ⟨0, 0, 0, 0⟩ hi hj ⟨Nat.zero_le _, Nat.zero_le _, Nat.zero_le _, Nat.zero_le _⟩ ⟨Nat.zero_le _, Nat.zero_le _, Nat.zero_le _, Nat.zero_le _⟩
end Go.Proofs.YtmfhdhggpepbbaaDoor
