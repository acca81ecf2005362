/-
  Revocations: a delta's bytes.
  Revocations: the document's bytes of a delta.
-/
import Derived.Test.YtnfgamekjbkbkaaDoorMa
import Derived.Test.YtnfgamekjbkbkaaDoorJe
namespace Go.Proofs.YtnfgamekjbkbkaaDoor
open Go Go.RowKit
/-- A delta's bytes. -/
def dlB (v : V4) (l : L4) : List UInt8 := (((beN 2 v.a.toNat ++ logB l.a) ++ (beN 2 v.b.toNat ++ logB l.b)) ++ (beN 2 v.c.toNat ++ logB l.c)) ++ (beN 2 v.d.toNat ++ logB l.d)
/-- What stays while a delta is written. -/
structure BW (w : World) (E q : Nat) (x : VV) (l : L4) (cs : Array Value) (bs : List UInt8) (W : World) : Prop where
  kr : KR w E [(E, (.cells cs 30))] W
  rows : Rows4 W x l
  wr : IsW W q (bs, 0)
  lt : E < q
theorem BW.later {w : World} {E q : Nat} {x : VV} {l : L4} {cs : Array Value} {bs : List UInt8} {W W1 : World} (h : BW w E q x l cs bs W) (hb : Below W.heap.size W W1) : BW w E q x l cs bs W1 := ⟨h.kr.later hb, h.rows.later hb, h.wr.later hb h.wr.lt, h.lt⟩
theorem BW.put {w : World} {E q : Nat} {x : VV} {l : L4} {cs : Array Value} {bs bs' : List UInt8} {W W1 : World} (h : BW w E q x l cs bs W) (hg : W.grownBy W1 (some q)) (hw : IsW W1 q (bs', 0)) : BW w E q x l cs bs' W1 := by
  obtain ⟨cs', hc⟩ := h.wr.typed
  exact ⟨h.kr.grown hg (by have := h.lt; omega) (by intro y hy; have := h.lt; simp at hy; subst hy; simp; omega), h.rows.grown hg hc wr_int, hw, h.lt⟩
theorem dlB_length (v : V4) (l : L4) : (dlB v l).length = 16 + 2 * (l.a.length + l.b.length + l.c.length + l.d.length) := by
  unfold dlB
  simp only [List.length_append, logB_length, beN_length]
  omega
theorem BW.num {w : World} {E q : Nat} {x : VV} {l : L4} {cs : Array Value} {bs : List UInt8} {W : World} (h : BW w E q x l cs bs W) (n : Int) (h0 : 0 ≤ n) (h1 : n ≤ 256) (hl : bs.length + 2 ≤ 1024) (T : TypeId) :
    Calls Tryd.prog 49 #[.pointer (some ⟨q, 0, none⟩), .int .i64 1, .slice (some ⟨W.heap.size, 0, none⟩) 1 1] (W.alloc (.cells #[.int .i64 n] T)) fun e w' => e = .returned (.pointer (some ⟨q, 0, none⟩)) ∧ BW w E q x l cs (bs ++ beN 2 n.toNat) w' := by
  have h' := h.later (below_a (.cells #[.int .i64 n] T))
  refine (wnum_any 1 [n] _ q (bs, 0) _ h'.wr (ints_one W q n T h.wr.lt) (by intro m hm; simp at hm; subst hm; omega) (by simp)).mono ?_
  rintro e w' ⟨rfl, hw, hg⟩
  rw [show ([n].map (fNum 1)).foldl putS (bs, 0) = putS (bs, 0) (fNum 1 n) from rfl, put_one2 bs n h0 (by omega) hl] at hw
  exact ⟨rfl, h'.put hg hw⟩
set_option maxRecDepth 100000 in
theorem bytes8_bad (v : V4) (x : VV) (l : L4) (w : World) (hx : Rows4 w x l) (hm : Most l 1000) (hF : Full w) (hg : 0 < w.heap.size) (hw : withinB v l = false) : Calls Tryd.prog 10 #[.agg (dC v x)] w fun e w' => e = .returned (.tuple #[.slice none 0 0, .int .i64 10]) ∧ Below w.heap.size w w' := by
  obtain ⟨E, hE⟩ : ∃ E, w.heap.size = E := ⟨_, rfl⟩
  obtain ⟨p1, q1, t1, s1, a1, b1, c1, d1, rfl⟩ := hx.forms
  have K0 : Bx (KR w E [(E, (.cells #[.int .i64 v.a, .int .i64 v.b, .int .i64 v.c, .int .i64 v.d, .slice p1 l.a.length a1, .slice q1 l.b.length b1, .slice t1 l.c.length c1, .slice s1 l.d.length d1] 30))] (w.alloc (.cells #[.int .i64 v.a, .int .i64 v.b, .int .i64 v.c, .int .i64 v.d, .slice p1 l.a.length a1, .slice q1 l.b.length b1, .slice t1 l.c.length c1, .slice s1 l.d.length d1] 30))) := Bx.mk (by
    subst hE
    exact (KR.start w).new (.cells #[.int .i64 v.a, .int .i64 v.b, .int .i64 v.c, .int .i64 v.d, .slice p1 l.a.length a1, .slice q1 l.b.length b1, .slice t1 l.c.length c1, .slice s1 l.d.length d1] 30))
  have hb0 : Below w.heap.size w (w.alloc (.cells #[.int .i64 v.a, .int .i64 v.b, .int .i64 v.c, .int .i64 v.d, .slice p1 l.a.length a1, .slice q1 l.b.length b1, .slice t1 l.c.length c1, .slice s1 l.d.length d1] 30)) := below_a _
  have HW := Bx.mk (within_any v ⟨.slice p1 l.a.length a1, .slice q1 l.b.length b1, .slice t1 l.c.length c1, .slice s1 l.d.length d1⟩ l (w.alloc (.cells #[.int .i64 v.a, .int .i64 v.b, .int .i64 v.c, .int .i64 v.d, .slice p1 l.a.length a1, .slice q1 l.b.length b1, .slice t1 l.c.length c1, .slice s1 l.d.length d1] 30)) (hx.later hb0) hm (hF.later hb0 hg) (Nat.lt_of_lt_of_le hg hb0.size))
  rw [hw] at HW
  unfold dC at HW ⊢
  simp only at HW ⊢
  clear hx hm hF hg hw hb0
  rw [hE]
  go_enter Tryd.func10, Tryd.ntmps10
  go_wp2_with (refine wpList_load_row rfl 30 _ rfl E (by rfl) _ #[.int .i64 v.a, .int .i64 v.b, .int .i64 v.c, .int .i64 v.d, .slice p1 l.a.length a1, .slice q1 l.b.length b1, .slice t1 l.c.length c1, .slice s1 l.d.length d1] (0, 0) _ (K0.out.rows _ (.head _)) Tryd.underlying30 rfl (by kernel_rfl) ?_)
  generalize w.alloc (.cells #[.int .i64 v.a, .int .i64 v.b, .int .i64 v.c, .int .i64 v.d, .slice p1 l.a.length a1, .slice q1 l.b.length b1, .slice t1 l.c.length c1, .slice s1 l.d.length d1] 30) = w0 at *
  refine HW.out.mono ?_
  rintro e w1 ⟨rfl, hb⟩
  have K1 := Bx.mk (K0.out.later hb)
  clear hb K0 HW
  go_wp2
  go_ret2
  exact ⟨rfl, K1.out.below⟩
set_option maxRecDepth 100000 in
set_option maxHeartbeats 4000000 in
theorem bytes8_ok (v : V4) (x : VV) (l : L4) (w : World) (hx : Rows4 w x l) (hm : Most l 40) (hF : Full w) (hg : 0 < w.heap.size) (hw : withinB v l = true) : Calls Tryd.prog 10 #[.agg (dC v x)] w fun e w' => ∃ u, e = .returned (.tuple #[u, .int .i64 0]) ∧ OwnB w' w.heap.size u (dlB v l) ∧ Below w.heap.size w w' := by
  have hi := (within_iff v l).1 hw
  have hm' : Most l 1000 := ⟨by have := hm.a; omega, by have := hm.b; omega, by have := hm.c; omega, by have := hm.d; omega⟩
  obtain ⟨zw, hzwv, hzw⟩ := zero_wr
  obtain ⟨E, hE⟩ : ∃ E, w.heap.size = E := ⟨_, rfl⟩
  obtain ⟨p1, q1, t1, s1, a1, b1, c1, d1, rfl⟩ := hx.forms
  have K0 : Bx (KR w E [(E, (.cells #[.int .i64 v.a, .int .i64 v.b, .int .i64 v.c, .int .i64 v.d, .slice p1 l.a.length a1, .slice q1 l.b.length b1, .slice t1 l.c.length c1, .slice s1 l.d.length d1] 30))] (w.alloc (.cells #[.int .i64 v.a, .int .i64 v.b, .int .i64 v.c, .int .i64 v.d, .slice p1 l.a.length a1, .slice q1 l.b.length b1, .slice t1 l.c.length c1, .slice s1 l.d.length d1] 30))) := Bx.mk (by
    subst hE
    exact (KR.start w).new (.cells #[.int .i64 v.a, .int .i64 v.b, .int .i64 v.c, .int .i64 v.d, .slice p1 l.a.length a1, .slice q1 l.b.length b1, .slice t1 l.c.length c1, .slice s1 l.d.length d1] 30))
  have hb0 : Below w.heap.size w (w.alloc (.cells #[.int .i64 v.a, .int .i64 v.b, .int .i64 v.c, .int .i64 v.d, .slice p1 l.a.length a1, .slice q1 l.b.length b1, .slice t1 l.c.length c1, .slice s1 l.d.length d1] 30)) := below_a _
  have HW := Bx.mk (within_any v ⟨.slice p1 l.a.length a1, .slice q1 l.b.length b1, .slice t1 l.c.length c1, .slice s1 l.d.length d1⟩ l (w.alloc (.cells #[.int .i64 v.a, .int .i64 v.b, .int .i64 v.c, .int .i64 v.d, .slice p1 l.a.length a1, .slice q1 l.b.length b1, .slice t1 l.c.length c1, .slice s1 l.d.length d1] 30)) (hx.later hb0) hm' (hF.later hb0 hg) (Nat.lt_of_lt_of_le hg hb0.size))
  have HS := Bx.mk (fun W h => size_any8 v ⟨.slice p1 l.a.length a1, .slice q1 l.b.length b1, .slice t1 l.c.length c1, .slice s1 l.d.length d1⟩ l W h hm')
  have HX := Bx.mk (hx.later hb0)
  have HM := Bx.mk hm
  have HI := Bx.mk hi
  have HZ := Bx.mk hzw
  rw [hw] at HW
  unfold dC at HW HS ⊢
  simp only at HW HS ⊢
  have HA0 : Bx (∀ n ∈ l.a, okS n = true) := ⟨List.all_eq_true.1 hi.2.1⟩
  have HA1 : Bx (∀ n ∈ l.b, okS n = true) := ⟨List.all_eq_true.1 hi.2.2.1⟩
  have HA2 : Bx (∀ n ∈ l.c, okS n = true) := ⟨List.all_eq_true.1 hi.2.2.2.1⟩
  have HA3 : Bx (∀ n ∈ l.d, okS n = true) := ⟨List.all_eq_true.1 hi.2.2.2.2⟩
  obtain ⟨sz, hsz⟩ : ∃ sz, 16 + 2 * (l.a.length + l.b.length + l.c.length + l.d.length) = sz := ⟨_, rfl⟩
  have hsz2 : (sz : Int) ≤ 1024 := by have := hm.a; have := hm.b; have := hm.c; have := hm.d; omega
  rw [hsz] at HS
  clear hx hm hm' hF hg hw hb0 hi hsz hzw
  rw [hE]
  have i0 := idxL0 (.slice p1 l.a.length a1) (.slice q1 l.b.length b1) (.slice t1 l.c.length c1) (.slice s1 l.d.length d1)
  have i1 := idxL1 (.slice p1 l.a.length a1) (.slice q1 l.b.length b1) (.slice t1 l.c.length c1) (.slice s1 l.d.length d1)
  have i2 := idxL2 (.slice p1 l.a.length a1) (.slice q1 l.b.length b1) (.slice t1 l.c.length c1) (.slice s1 l.d.length d1)
  have i3 := idxL3 (.slice p1 l.a.length a1) (.slice q1 l.b.length b1) (.slice t1 l.c.length c1) (.slice s1 l.d.length d1)
  go_enter Tryd.func10, Tryd.ntmps10
  go_wp2_with (refine wpList_load_row rfl 30 _ rfl E (by rfl) _ #[.int .i64 v.a, .int .i64 v.b, .int .i64 v.c, .int .i64 v.d, .slice p1 l.a.length a1, .slice q1 l.b.length b1, .slice t1 l.c.length c1, .slice s1 l.d.length d1] (0, 0) _ (K0.out.rows _ (.head _)) Tryd.underlying30 rfl (by kernel_rfl) ?_)
  generalize w.alloc (.cells #[.int .i64 v.a, .int .i64 v.b, .int .i64 v.c, .int .i64 v.d, .slice p1 l.a.length a1, .slice q1 l.b.length b1, .slice t1 l.c.length c1, .slice s1 l.d.length d1] 30) = w0 at *
  refine HW.out.mono ?_
  rintro e w1 ⟨rfl, hb⟩
  have K1 := Bx.mk (K0.out.later hb)
  have X1 := Bx.mk (HX.out.later hb)
  clear hb K0 HW HX
  go_wp2_with (refine wpList_load_row rfl 30 _ rfl E (by rfl) _ #[.int .i64 v.a, .int .i64 v.b, .int .i64 v.c, .int .i64 v.d, .slice p1 l.a.length a1, .slice q1 l.b.length b1, .slice t1 l.c.length c1, .slice s1 l.d.length d1] (0, 0) _ (K1.out.rows _ (.head _)) Tryd.underlying30 rfl (by kernel_rfl) ?_)
  refine (HS.out w1 X1.out).mono ?_
  rintro e w2 ⟨rfl, hb⟩
  have R0 : Bx (BW w E w2.heap.size ⟨.slice p1 l.a.length a1, .slice q1 l.b.length b1, .slice t1 l.c.length c1, .slice s1 l.d.length d1⟩ l #[.int .i64 v.a, .int .i64 v.b, .int .i64 v.c, .int .i64 v.d, .slice p1 l.a.length a1, .slice q1 l.b.length b1, .slice t1 l.c.length c1, .slice s1 l.d.length d1] [] (w2.alloc (.cells zw 98))) := ⟨⟨(K1.out.later hb).later (below_a _), (X1.out.later hb).later (below_a _), new_wr w2 zw HZ.out, (K1.out.later hb).lt (.head _)⟩⟩
  clear hb K1 X1 HS
  have hc : ∀ W i u, (KR w E [(E, (.cells #[.int .i64 v.a, .int .i64 v.b, .int .i64 v.c, .int .i64 v.d, .slice p1 l.a.length a1, .slice q1 l.b.length b1, .slice t1 l.c.length c1, .slice s1 l.d.length d1] 30))] W) → (#[.int .i64 v.a, .int .i64 v.b, .int .i64 v.c, .int .i64 v.d, .slice p1 l.a.length a1, .slice q1 l.b.length b1, .slice t1 l.c.length c1, .slice s1 l.d.length d1] : Array Value)[i]? = some u → W.cell? ⟨E, i, none⟩ = some u := fun W i u hk h => by
    rw [cell_of_row _ _ _ _ _ _ (hk.rows _ (.head _))]
    exact h
  have HC := Bx.mk hc
  clear hc
  have m4 := HC.out _ 4 _ R0.out.kr rfl
  have m5 := HC.out _ 5 _ R0.out.kr rfl
  have m6 := HC.out _ 6 _ R0.out.kr rfl
  have m7 := HC.out _ 7 _ R0.out.kr rfl
  go_wp2_with fail
  clear m4 m5 m6 m7
  generalize w2.alloc (.cells zw 98) = w3 at *
  generalize w2.heap.size = q at *
  refine wp_loop_rounds 5 ?_
  rw [rounds_succ]
  have m0 := HC.out _ 0 _ R0.out.kr rfl
  have HNu := Bx.mk (R0.out.num v.a HI.out.1.1.1 HI.out.1.1.2 (by have := HM.out.a; have := HM.out.b; have := HM.out.c; have := HM.out.d; simp only [List.length_nil]; omega) 3)
  go_wp2_with fail
  refine HNu.out.mono ?_
  clear m0
  rintro e w4 ⟨rfl, hr⟩
  have R1 := Bx.mk hr
  clear hr HNu R0
  go_wp2_with fail
  refine (putLog_any l.a (.slice p1 l.a.length a1) q _ w4 R1.out.wr R1.out.rows.a HA0.out (by have := HM.out.a; have := HM.out.b; have := HM.out.c; have := HM.out.d; simp only [List.length_append, List.length_nil, beN_length]; omega)).mono ?_
  rintro e w5 ⟨rfl, hw, hg⟩
  have R2 := Bx.mk (R1.out.put hg hw)
  clear hw hg R1
  go_wp2_with fail
  rw [rounds_succ]
  have m1 := HC.out _ 1 _ R2.out.kr rfl
  have HNu := Bx.mk (R2.out.num v.b HI.out.1.2.1.1 HI.out.1.2.1.2 (by have := HM.out.a; have := HM.out.b; have := HM.out.c; have := HM.out.d; simp only [List.length_append, List.length_nil, logB_length, beN_length]; omega) 3)
  go_wp2_with fail
  refine HNu.out.mono ?_
  clear m1
  rintro e w6 ⟨rfl, hr⟩
  have R3 := Bx.mk hr
  clear hr HNu R2
  go_wp2_with fail
  refine (putLog_any l.b (.slice q1 l.b.length b1) q _ w6 R3.out.wr R3.out.rows.b HA1.out (by have := HM.out.a; have := HM.out.b; have := HM.out.c; have := HM.out.d; simp only [List.length_append, List.length_nil, logB_length, beN_length]; omega)).mono ?_
  rintro e w7 ⟨rfl, hw, hg⟩
  have R4 := Bx.mk (R3.out.put hg hw)
  clear hw hg R3
  go_wp2_with fail
  rw [rounds_succ]
  have m2 := HC.out _ 2 _ R4.out.kr rfl
  have HNu := Bx.mk (R4.out.num v.c HI.out.1.2.2.1.1 HI.out.1.2.2.1.2 (by have := HM.out.a; have := HM.out.b; have := HM.out.c; have := HM.out.d; simp only [List.length_append, List.length_nil, logB_length, beN_length]; omega) 3)
  go_wp2_with fail
  refine HNu.out.mono ?_
  clear m2
  rintro e w8 ⟨rfl, hr⟩
  have R5 := Bx.mk hr
  clear hr HNu R4
  go_wp2_with fail
  refine (putLog_any l.c (.slice t1 l.c.length c1) q _ w8 R5.out.wr R5.out.rows.c HA2.out (by have := HM.out.a; have := HM.out.b; have := HM.out.c; have := HM.out.d; simp only [List.length_append, List.length_nil, logB_length, beN_length]; omega)).mono ?_
  rintro e w9 ⟨rfl, hw, hg⟩
  have R6 := Bx.mk (R5.out.put hg hw)
  clear hw hg R5
  go_wp2_with fail
  rw [rounds_succ]
  have m3 := HC.out _ 3 _ R6.out.kr rfl
  have HNu := Bx.mk (R6.out.num v.d HI.out.1.2.2.2.1 HI.out.1.2.2.2.2 (by have := HM.out.a; have := HM.out.b; have := HM.out.c; have := HM.out.d; simp only [List.length_append, List.length_nil, logB_length, beN_length]; omega) 3)
  go_wp2_with fail
  refine HNu.out.mono ?_
  clear m3
  rintro e w10 ⟨rfl, hr⟩
  have R7 := Bx.mk hr
  clear hr HNu R6
  go_wp2_with fail
  refine (putLog_any l.d (.slice s1 l.d.length d1) q _ w10 R7.out.wr R7.out.rows.d HA3.out (by have := HM.out.a; have := HM.out.b; have := HM.out.c; have := HM.out.d; simp only [List.length_append, List.length_nil, logB_length, beN_length]; omega)).mono ?_
  rintro e w11 ⟨rfl, hw, hg⟩
  have R8 := Bx.mk (R7.out.put hg hw)
  clear hw hg R7
  go_wp2_with fail
  rw [rounds_succ]
  go_wp2_with fail
  refine (wout_ok q _ w11 R8.out.wr).mono ?_
  rintro e w12 ⟨u, rfl, ho, hb⟩
  have HO := Bx.mk ho
  have KL := Bx.mk (R8.out.kr.later hb)
  have HLe := Bx.mk R8.out.kr.le
  clear ho hb R8
  go_wp2
  go_ret2
  refine ⟨u, rfl, ?_, KL.out.below⟩
  have h := HO.out.weak HLe.out
  have he : (((((((((((([]) ++ beN 2 v.a.toNat) ++ logB l.a)) ++ beN 2 v.b.toNat) ++ logB l.b)) ++ beN 2 v.c.toNat) ++ logB l.c)) ++ beN 2 v.d.toNat) ++ logB l.d) = dlB v l := by unfold dlB; simp only [List.nil_append, List.append_assoc]
  rw [he] at h
  exact h
end Go.Proofs.YtnfgamekjbkbkaaDoor
namespace Go.Proofs.YtnfgamekjbkbkaaDoor
open Go Go.RowKit
theorem out8 (n : Int) (h0 : 0 ≤ n) (h1 : n ≤ 65535) (W : World) : Calls Tryd.prog 55 #[.agg #[.int .i64 1, .int .i64 n, .slice none 0 0]] W fun e w' => ∃ a c, e = .returned (.slice a 2 c) ∧ Bytes w' (.slice a 2 c) (beN 2 n.toNat) ∧ Below W.heap.size W w' := by
  have hc : chk (fNum 1 n) = 0 := by
    unfold chk fNum
    have hm : most 1 = 65535 := by decide
    rw [if_neg (by simp), if_neg (by simp)]
    simp only [hm, List.length_nil]
    rw [if_neg (by omega)]
  refine (rout_any (fNum 1 n) _ W ⟨_, rfl, Bytes.nil _⟩ hc).mono ?_
  rintro e w' ⟨u, rfl, ho, hb⟩
  have he : enc (fNum 1 n) = beN 2 n.toNat := enc_num (s := 1) (by omega) (by omega) []
  rw [he] at ho
  obtain ⟨a, c, rfl⟩ := own_form ho
  have hl : (beN 2 n.toNat).length = 2 := beN_length _ _
  rw [hl] at ho
  exact ⟨a, c, by rw [hl], ho.bytes, hb⟩
theorem own_form2 {w : World} {base : Nat} {v : Value} {l : List UInt8} (h : OwnB w base v l) : ∃ a n c, v = .slice a n c := by
  obtain ⟨a, c, hv⟩ := own_form h
  exact ⟨a, _, c, hv⟩
theorem build_fd (n : Int) (W : World) : (Instr.build 109 #[(0, .int .i64 1), (1, .int .i64 n)]).run Tryd.prog W = .ok (.agg #[.int .i64 1, .int .i64 n, .slice none 0 0]) W := by kernel_rfl
/-- What stays while the document's bytes are laid. -/
structure RB8 (w : World) (E : Nat) (cs : Array Value) (bs : List UInt8) (v : Value) (W : World) : Prop where
  kr : KR w E [(E, (.cells cs 26))] W
  o : OwnB W (E + 1) v bs
theorem RB8.later {w : World} {E : Nat} {cs : Array Value} {bs : List UInt8} {v : Value} {W W1 : World} (h : RB8 w E cs bs v W) (hb : Below W.heap.size W W1) : RB8 w E cs bs v W1 := ⟨h.kr.later hb, h.o.later hb (fun g hg => (h.o.lt g hg).1)⟩
theorem RB8.ap {w : World} {E : Nat} {cs : Array Value} {bs bs' : List UInt8} {v v1 : Value} {W W1 : World} (h : RB8 w E cs bs v W) (ho : OwnB W1 (E + 1) v1 bs') (hg : W.grownBy W1 v.ownBlock) : RB8 w E cs bs' v1 W1 := by
  have hlt := fun g hg => (h.o.lt g hg).2
  refine ⟨?_, ho⟩
  cases hv : v.ownBlock with
  | none =>
    rw [hv] at hg
    exact ⟨fun x hx => by rw [hg.block _ (h.kr.lt hx) (by simp)]; exact h.kr.rows x hx, h.kr.below.trans ⟨hg.os, hg.tape, hg.output, hg.size, fun c hc => hg.block c (by have := h.kr.le; omega) (by simp)⟩, Nat.le_trans h.kr.le hg.size⟩
  | some g =>
    have hg0 := hlt g hv
    rw [hv] at hg
    refine h.kr.grown hg (by omega) (fun x hx => ?_)
    simp only [List.mem_cons, List.not_mem_nil, or_false] at hx
    subst hx
    show E ≠ g
    omega
theorem RB8.cell {w : World} {E : Nat} {cs : Array Value} {bs : List UInt8} {v : Value} {W : World} (h : RB8 w E cs bs v W) (i : Nat) {u : Value} (hu : cs[i]? = some u) : W.cell? ⟨E, i, none⟩ = some u := by
  rw [cell_of_row _ _ _ _ _ _ (h.kr.rows _ (.head _))]
  exact hu
theorem RB8.le {w : World} {E : Nat} {cs : Array Value} {bs : List UInt8} {v : Value} {W : World} (h : RB8 w E cs bs v W) : E + 1 ≤ W.heap.size := h.kr.lt (.head _)
theorem be2s_snoc9 (l : List Int) (k : Nat) (h : k < l.length) : be2s (l.take (k + 1)) = be2s (l.take k) ++ beN 2 (l.getD k 0).toNat := by
  rw [take_snoc l k h]
  unfold be2s
  simp
theorem okS_at {l : List Int} (h : ∀ n ∈ l, okS n = true) {k : Nat} (hk : k < l.length) : 0 ≤ l.getD k 0 ∧ l.getD k 0 ≤ 65535 := by
  have := h (l.getD k 0) (by rw [List.getD_eq_getElem?_getD, List.getElem?_eq_getElem hk]; exact List.getElem_mem hk)
  unfold okS at this
  rw [Bool.and_eq_true, decide_eq_true_iff, decide_eq_true_iff] at this
  omega
set_option maxRecDepth 100000 in
set_option maxHeartbeats 8000000 in
theorem rbytes8 (v : V4) (x : VV) (l : L4) (w : World) (hx : Rows4 w x l) (hm : Most l 40) (hw : withinB v l = true) : Calls Tryd.prog 14 #[.agg (dC v x)] w fun e w' => ∃ u, e = .returned u ∧ OwnB w' w.heap.size u (dlB v l) ∧ Below w.heap.size w w' := by
  have hi := (within_iff v l).1 hw
  obtain ⟨E, hE⟩ : ∃ E, w.heap.size = E := ⟨_, rfl⟩
  have HX : Bx (∀ W, Below E w W → Rows4 W x l) := ⟨fun W h => hx.later (by rw [hE]; exact h)⟩
  obtain ⟨p1, q1, t1, s1, a1, b1, c1, d1, rfl⟩ := hx.forms
  have R0 : Bx (RB8 w E #[.int .i64 v.a, .int .i64 v.b, .int .i64 v.c, .int .i64 v.d, .slice p1 l.a.length a1, .slice q1 l.b.length b1, .slice t1 l.c.length c1, .slice s1 l.d.length d1] [] (.slice none 0 0) (w.alloc (.cells #[.int .i64 v.a, .int .i64 v.b, .int .i64 v.c, .int .i64 v.d, .slice p1 l.a.length a1, .slice q1 l.b.length b1, .slice t1 l.c.length c1, .slice s1 l.d.length d1] 26))) := Bx.mk (by
    subst hE
    exact ⟨(KR.start w).new (.cells #[.int .i64 v.a, .int .i64 v.b, .int .i64 v.c, .int .i64 v.d, .slice p1 l.a.length a1, .slice q1 l.b.length b1, .slice t1 l.c.length c1, .slice s1 l.d.length d1] 26), OwnB.nil _ _⟩)
  have HM := Bx.mk hm
  have HI := Bx.mk hi
  have HA0 : Bx (∀ n ∈ l.a, okS n = true) := ⟨List.all_eq_true.1 hi.2.1⟩
  have ln0 : (l.a.length : Int) ≤ 40 := by have := hm.a; omega
  have lz0 : (0 : Int) ≤ (l.a.length : Int) := by omega
  have HA1 : Bx (∀ n ∈ l.b, okS n = true) := ⟨List.all_eq_true.1 hi.2.2.1⟩
  have ln1 : (l.b.length : Int) ≤ 40 := by have := hm.b; omega
  have lz1 : (0 : Int) ≤ (l.b.length : Int) := by omega
  have HA2 : Bx (∀ n ∈ l.c, okS n = true) := ⟨List.all_eq_true.1 hi.2.2.2.1⟩
  have ln2 : (l.c.length : Int) ≤ 40 := by have := hm.c; omega
  have lz2 : (0 : Int) ≤ (l.c.length : Int) := by omega
  have HA3 : Bx (∀ n ∈ l.d, okS n = true) := ⟨List.all_eq_true.1 hi.2.2.2.2⟩
  have ln3 : (l.d.length : Int) ≤ 40 := by have := hm.d; omega
  have lz3 : (0 : Int) ≤ (l.d.length : Int) := by omega
  have hbf := build_fd
  unfold dC
  simp only
  rw [hE]
  clear hx hm hw hi
  go_enter Tryd.func14, Tryd.ntmps14
  go_wp2_with fail
  generalize w.alloc (.cells #[.int .i64 v.a, .int .i64 v.b, .int .i64 v.c, .int .i64 v.d, .slice p1 l.a.length a1, .slice q1 l.b.length b1, .slice t1 l.c.length c1, .slice s1 l.d.length d1] 26) = w0 at *
  refine wp_loop_rounds 5 ?_
  rw [rounds_succ]
  have m := R0.out.cell 0 rfl
  go_wp2_with fail
  clear m
  refine (out8 v.a HI.out.1.1.1 (by have := HI.out.1.1.2; omega) w0).mono ?_
  rintro e w1 ⟨ya, yc, rfl, hy, hb⟩
  have R1 := Bx.mk (R0.out.later hb)
  have HY := Bx.mk hy
  clear hy hb R0
  go_upto_region 6 with (refine wpList_ap rfl _ _ rfl (E + 1) _ _ (by rfl) R1.out.o _ _ (by rfl) HY.out (by have := HM.out.a; have := HM.out.b; have := HM.out.c; have := HM.out.d; simp only [List.length_nil, beN_length]; omega) R1.out.le ?_; intro y w2 ho hg _; have R2 := Bx.mk (R1.out.ap ho hg); clear ho hg R1 HY)
  obtain ⟨za, zn, zc, rfl⟩ := own_form2 R2.out.o
  have m := R2.out.cell 4 rfl
  go_wp2_with fail
  clear m
  refine (out8 (l.a.length : Int) lz0 (by omega) w2).mono ?_
  rintro e w3 ⟨ya, yc, rfl, hy, hb⟩
  have R3 := Bx.mk (R2.out.later hb)
  have HY := Bx.mk hy
  clear hy hb R2
  go_upto_region 7 with (refine wpList_ap rfl _ _ rfl (E + 1) _ _ (by rfl) R3.out.o _ _ (by rfl) HY.out (by have := HM.out.a; have := HM.out.b; have := HM.out.c; have := HM.out.d; simp only [List.length_append, List.length_nil, beN_length]; omega) R3.out.le ?_; intro y w4 ho hg _; have R4 := Bx.mk (R3.out.ap ho hg); clear ho hg R3 HY)
  obtain ⟨za, zn, zc, rfl⟩ := own_form2 R4.out.o
  go_wp2_with fail
  go_loopw [5, 3] (fun j o wr => ∃ m : Nat, m ≤ l.a.length ∧ j = .int .i64 (m : Int) ∧ Bx (RB8 w E #[.int .i64 v.a, .int .i64 v.b, .int .i64 v.c, .int .i64 v.d, .slice p1 l.a.length a1, .slice q1 l.b.length b1, .slice t1 l.c.length c1, .slice s1 l.d.length d1] (((([]) ++ beN 2 v.a.toNat) ++ beN 2 (l.a.length : Int).toNat) ++ be2s (l.a.take m)) o wr)) (fun j _ _ => l.a.length - (intOf j).toNat)
  case atStart => exact ⟨0, Nat.zero_le _, rfl, ⟨by simpa [be2s] using R4.out⟩⟩
  case round =>
    clear R4
    obtain ⟨m, hm, rfl, HR⟩ := hrel
    obtain ⟨oa, om, oc, ho⟩ := own_form2 HR.out.o
    subst ho
    by_cases hlt : m < l.a.length
    · obtain ⟨n, hn⟩ : ∃ n, l.a.getD m 0 = n := ⟨_, rfl⟩
      have hok := okS_at HA0.out hlt
      rw [hn] at hok
      have HOK := Bx.mk hok
      have HSn := Bx.mk (be2s_snoc9 l.a m hlt)
      rw [hn] at HSn
      have HLT := Bx.mk hlt
      have hl1 : (m : Int) < (l.a.length : Int) := by omega
      have hl0 : (0 : Int) ≤ (m : Int) := by omega
      have hrow := (HX.out wr HR.out.kr.below).a.ints
      obtain ⟨_, _, hv, _, _, hf⟩ := hrow
      injection hv with v1 v2 v3
      subst v1
      obtain ⟨cb, co, hc, hcell⟩ := hf (by omega)
      have me := hcell m hlt
      rw [hn] at me
      subst hc
      have ms := HR.out.cell 4 rfl
      clear hcell hf v2 v3 hok hn hlt hm
      go_wp2_with fail
      clear ms me
      refine (out8 n HOK.out.1 HOK.out.2 wr).mono ?_
      rintro e x1 ⟨ya, yc, rfl, hy, hb⟩
      have HR1 := Bx.mk (HR.out.later hb)
      have HY := Bx.mk hy
      clear hy hb HR
      go_wp2_with (refine wpList_ap rfl _ _ rfl (E + 1) _ _ (by rfl) HR1.out.o _ _ (by rfl) HY.out (by have := HM.out.a; have := HM.out.b; have := HM.out.c; have := HM.out.d; have := HLT.out; simp only [List.length_append, List.length_nil, beN_length, be2s_length, List.length_take]; omega) HR1.out.le ?_; intro y x2 ho hg _; have HR2 := Bx.mk (HR1.out.ap ho hg); clear ho hg HR1 HY)
      go_roundw
      case rel => exact ⟨m + 1, by have := HLT.out; omega, by go_num, ⟨by rw [HSn.out, ← List.append_assoc]; exact HR2.out⟩⟩
      case measure => have := HLT.out; simp [intOf]; omega
    · obtain rfl : m = l.a.length := by omega
      have ms := HR.out.cell 4 rfl
      rw [List.take_length] at HR
      go_wp2_with fail
      clear ms
      obtain ⟨wx0, hwx⟩ : ∃ wx, wr = wx := ⟨_, rfl⟩
      rw [hwx] at HR ⊢
      have T0 := HR
      clear HR hlt
      clear hwx
      rw [rounds_succ]
      have m := T0.out.cell 1 rfl
      go_wp2_with fail
      clear m
      refine (out8 v.b HI.out.1.2.1.1 (by have := HI.out.1.2.1.2; omega) wx0).mono ?_
      rintro e w5 ⟨ya, yc, rfl, hy, hb⟩
      have R5 := Bx.mk (T0.out.later hb)
      have HY := Bx.mk hy
      clear hy hb T0
      go_upto_region 6 with (refine wpList_ap rfl _ _ rfl (E + 1) _ _ (by rfl) R5.out.o _ _ (by rfl) HY.out (by have := HM.out.a; have := HM.out.b; have := HM.out.c; have := HM.out.d; simp only [List.length_append, List.length_nil, beN_length, be2s_length]; omega) R5.out.le ?_; intro y w6 ho hg _; have R6 := Bx.mk (R5.out.ap ho hg); clear ho hg R5 HY)
      obtain ⟨za, zn, zc, rfl⟩ := own_form2 R6.out.o
      have m := R6.out.cell 5 rfl
      go_wp2_with fail
      clear m
      refine (out8 (l.b.length : Int) lz1 (by omega) w6).mono ?_
      rintro e w7 ⟨ya, yc, rfl, hy, hb⟩
      have R7 := Bx.mk (R6.out.later hb)
      have HY := Bx.mk hy
      clear hy hb R6
      go_upto_region 7 with (refine wpList_ap rfl _ _ rfl (E + 1) _ _ (by rfl) R7.out.o _ _ (by rfl) HY.out (by have := HM.out.a; have := HM.out.b; have := HM.out.c; have := HM.out.d; simp only [List.length_append, List.length_nil, beN_length, be2s_length]; omega) R7.out.le ?_; intro y w8 ho hg _; have R8 := Bx.mk (R7.out.ap ho hg); clear ho hg R7 HY)
      obtain ⟨za, zn, zc, rfl⟩ := own_form2 R8.out.o
      go_wp2_with fail
      go_loopw [5, 3] (fun j o wr => ∃ m : Nat, m ≤ l.b.length ∧ j = .int .i64 (m : Int) ∧ Bx (RB8 w E #[.int .i64 v.a, .int .i64 v.b, .int .i64 v.c, .int .i64 v.d, .slice p1 l.a.length a1, .slice q1 l.b.length b1, .slice t1 l.c.length c1, .slice s1 l.d.length d1] (((((((([]) ++ beN 2 v.a.toNat) ++ beN 2 (l.a.length : Int).toNat) ++ be2s l.a)) ++ beN 2 v.b.toNat) ++ beN 2 (l.b.length : Int).toNat) ++ be2s (l.b.take m)) o wr)) (fun j _ _ => l.b.length - (intOf j).toNat)
      case atStart => exact ⟨0, Nat.zero_le _, rfl, ⟨by simpa [be2s] using R8.out⟩⟩
      case round =>
        clear R8
        obtain ⟨m, hm, rfl, HR⟩ := hrel
        obtain ⟨oa, om, oc, ho⟩ := own_form2 HR.out.o
        subst ho
        by_cases hlt : m < l.b.length
        · obtain ⟨n, hn⟩ : ∃ n, l.b.getD m 0 = n := ⟨_, rfl⟩
          have hok := okS_at HA1.out hlt
          rw [hn] at hok
          have HOK := Bx.mk hok
          have HSn := Bx.mk (be2s_snoc9 l.b m hlt)
          rw [hn] at HSn
          have HLT := Bx.mk hlt
          have hl1 : (m : Int) < (l.b.length : Int) := by omega
          have hl0 : (0 : Int) ≤ (m : Int) := by omega
          have hrow := (HX.out wr HR.out.kr.below).b.ints
          obtain ⟨_, _, hv, _, _, hf⟩ := hrow
          injection hv with v1 v2 v3
          subst v1
          obtain ⟨cb, co, hc, hcell⟩ := hf (by omega)
          have me := hcell m hlt
          rw [hn] at me
          subst hc
          have ms := HR.out.cell 5 rfl
          clear hcell hf v2 v3 hok hn hlt hm
          go_wp2_with fail
          clear ms me
          refine (out8 n HOK.out.1 HOK.out.2 wr).mono ?_
          rintro e x1 ⟨ya, yc, rfl, hy, hb⟩
          have HR1 := Bx.mk (HR.out.later hb)
          have HY := Bx.mk hy
          clear hy hb HR
          go_wp2_with (refine wpList_ap rfl _ _ rfl (E + 1) _ _ (by rfl) HR1.out.o _ _ (by rfl) HY.out (by have := HM.out.a; have := HM.out.b; have := HM.out.c; have := HM.out.d; have := HLT.out; simp only [List.length_append, List.length_nil, beN_length, be2s_length, List.length_take]; omega) HR1.out.le ?_; intro y x2 ho hg _; have HR2 := Bx.mk (HR1.out.ap ho hg); clear ho hg HR1 HY)
          go_roundw
          case rel => exact ⟨m + 1, by have := HLT.out; omega, by go_num, ⟨by rw [HSn.out, ← List.append_assoc]; exact HR2.out⟩⟩
          case measure => have := HLT.out; simp [intOf]; omega
        · obtain rfl : m = l.b.length := by omega
          have ms := HR.out.cell 5 rfl
          rw [List.take_length] at HR
          go_wp2_with fail
          clear ms
          obtain ⟨wx1, hwx⟩ : ∃ wx, wr = wx := ⟨_, rfl⟩
          rw [hwx] at HR ⊢
          have T1 := HR
          clear HR hlt
          clear hwx
          rw [rounds_succ]
          have m := T1.out.cell 2 rfl
          go_wp2_with fail
          clear m
          refine (out8 v.c HI.out.1.2.2.1.1 (by have := HI.out.1.2.2.1.2; omega) wx1).mono ?_
          rintro e w9 ⟨ya, yc, rfl, hy, hb⟩
          have R9 := Bx.mk (T1.out.later hb)
          have HY := Bx.mk hy
          clear hy hb T1
          go_upto_region 6 with (refine wpList_ap rfl _ _ rfl (E + 1) _ _ (by rfl) R9.out.o _ _ (by rfl) HY.out (by have := HM.out.a; have := HM.out.b; have := HM.out.c; have := HM.out.d; simp only [List.length_append, List.length_nil, beN_length, be2s_length]; omega) R9.out.le ?_; intro y w10 ho hg _; have R10 := Bx.mk (R9.out.ap ho hg); clear ho hg R9 HY)
          obtain ⟨za, zn, zc, rfl⟩ := own_form2 R10.out.o
          have m := R10.out.cell 6 rfl
          go_wp2_with fail
          clear m
          refine (out8 (l.c.length : Int) lz2 (by omega) w10).mono ?_
          rintro e w11 ⟨ya, yc, rfl, hy, hb⟩
          have R11 := Bx.mk (R10.out.later hb)
          have HY := Bx.mk hy
          clear hy hb R10
          go_upto_region 7 with (refine wpList_ap rfl _ _ rfl (E + 1) _ _ (by rfl) R11.out.o _ _ (by rfl) HY.out (by have := HM.out.a; have := HM.out.b; have := HM.out.c; have := HM.out.d; simp only [List.length_append, List.length_nil, beN_length, be2s_length]; omega) R11.out.le ?_; intro y w12 ho hg _; have R12 := Bx.mk (R11.out.ap ho hg); clear ho hg R11 HY)
          obtain ⟨za, zn, zc, rfl⟩ := own_form2 R12.out.o
          go_wp2_with fail
          go_loopw [5, 3] (fun j o wr => ∃ m : Nat, m ≤ l.c.length ∧ j = .int .i64 (m : Int) ∧ Bx (RB8 w E #[.int .i64 v.a, .int .i64 v.b, .int .i64 v.c, .int .i64 v.d, .slice p1 l.a.length a1, .slice q1 l.b.length b1, .slice t1 l.c.length c1, .slice s1 l.d.length d1] (((((((((((([]) ++ beN 2 v.a.toNat) ++ beN 2 (l.a.length : Int).toNat) ++ be2s l.a)) ++ beN 2 v.b.toNat) ++ beN 2 (l.b.length : Int).toNat) ++ be2s l.b)) ++ beN 2 v.c.toNat) ++ beN 2 (l.c.length : Int).toNat) ++ be2s (l.c.take m)) o wr)) (fun j _ _ => l.c.length - (intOf j).toNat)
          case atStart => exact ⟨0, Nat.zero_le _, rfl, ⟨by simpa [be2s] using R12.out⟩⟩
          case round =>
            clear R12
            obtain ⟨m, hm, rfl, HR⟩ := hrel
            obtain ⟨oa, om, oc, ho⟩ := own_form2 HR.out.o
            subst ho
            by_cases hlt : m < l.c.length
            · obtain ⟨n, hn⟩ : ∃ n, l.c.getD m 0 = n := ⟨_, rfl⟩
              have hok := okS_at HA2.out hlt
              rw [hn] at hok
              have HOK := Bx.mk hok
              have HSn := Bx.mk (be2s_snoc9 l.c m hlt)
              rw [hn] at HSn
              have HLT := Bx.mk hlt
              have hl1 : (m : Int) < (l.c.length : Int) := by omega
              have hl0 : (0 : Int) ≤ (m : Int) := by omega
              have hrow := (HX.out wr HR.out.kr.below).c.ints
              obtain ⟨_, _, hv, _, _, hf⟩ := hrow
              injection hv with v1 v2 v3
              subst v1
              obtain ⟨cb, co, hc, hcell⟩ := hf (by omega)
              have me := hcell m hlt
              rw [hn] at me
              subst hc
              have ms := HR.out.cell 6 rfl
              clear hcell hf v2 v3 hok hn hlt hm
              go_wp2_with fail
              clear ms me
              refine (out8 n HOK.out.1 HOK.out.2 wr).mono ?_
              rintro e x1 ⟨ya, yc, rfl, hy, hb⟩
              have HR1 := Bx.mk (HR.out.later hb)
              have HY := Bx.mk hy
              clear hy hb HR
              go_wp2_with (refine wpList_ap rfl _ _ rfl (E + 1) _ _ (by rfl) HR1.out.o _ _ (by rfl) HY.out (by have := HM.out.a; have := HM.out.b; have := HM.out.c; have := HM.out.d; have := HLT.out; simp only [List.length_append, List.length_nil, beN_length, be2s_length, List.length_take]; omega) HR1.out.le ?_; intro y x2 ho hg _; have HR2 := Bx.mk (HR1.out.ap ho hg); clear ho hg HR1 HY)
              go_roundw
              case rel => exact ⟨m + 1, by have := HLT.out; omega, by go_num, ⟨by rw [HSn.out, ← List.append_assoc]; exact HR2.out⟩⟩
              case measure => have := HLT.out; simp [intOf]; omega
            · obtain rfl : m = l.c.length := by omega
              have ms := HR.out.cell 6 rfl
              rw [List.take_length] at HR
              go_wp2_with fail
              clear ms
              obtain ⟨wx2, hwx⟩ : ∃ wx, wr = wx := ⟨_, rfl⟩
              rw [hwx] at HR ⊢
              have T2 := HR
              clear HR hlt
              clear hwx
              rw [rounds_succ]
              have m := T2.out.cell 3 rfl
              go_wp2_with fail
              clear m
              refine (out8 v.d HI.out.1.2.2.2.1 (by have := HI.out.1.2.2.2.2; omega) wx2).mono ?_
              rintro e w13 ⟨ya, yc, rfl, hy, hb⟩
              have R13 := Bx.mk (T2.out.later hb)
              have HY := Bx.mk hy
              clear hy hb T2
              go_upto_region 6 with (refine wpList_ap rfl _ _ rfl (E + 1) _ _ (by rfl) R13.out.o _ _ (by rfl) HY.out (by have := HM.out.a; have := HM.out.b; have := HM.out.c; have := HM.out.d; simp only [List.length_append, List.length_nil, beN_length, be2s_length]; omega) R13.out.le ?_; intro y w14 ho hg _; have R14 := Bx.mk (R13.out.ap ho hg); clear ho hg R13 HY)
              obtain ⟨za, zn, zc, rfl⟩ := own_form2 R14.out.o
              have m := R14.out.cell 7 rfl
              go_wp2_with fail
              clear m
              refine (out8 (l.d.length : Int) lz3 (by omega) w14).mono ?_
              rintro e w15 ⟨ya, yc, rfl, hy, hb⟩
              have R15 := Bx.mk (R14.out.later hb)
              have HY := Bx.mk hy
              clear hy hb R14
              go_upto_region 7 with (refine wpList_ap rfl _ _ rfl (E + 1) _ _ (by rfl) R15.out.o _ _ (by rfl) HY.out (by have := HM.out.a; have := HM.out.b; have := HM.out.c; have := HM.out.d; simp only [List.length_append, List.length_nil, beN_length, be2s_length]; omega) R15.out.le ?_; intro y w16 ho hg _; have R16 := Bx.mk (R15.out.ap ho hg); clear ho hg R15 HY)
              obtain ⟨za, zn, zc, rfl⟩ := own_form2 R16.out.o
              go_wp2_with fail
              go_loopw [5, 3] (fun j o wr => ∃ m : Nat, m ≤ l.d.length ∧ j = .int .i64 (m : Int) ∧ Bx (RB8 w E #[.int .i64 v.a, .int .i64 v.b, .int .i64 v.c, .int .i64 v.d, .slice p1 l.a.length a1, .slice q1 l.b.length b1, .slice t1 l.c.length c1, .slice s1 l.d.length d1] (((((((((((((((([]) ++ beN 2 v.a.toNat) ++ beN 2 (l.a.length : Int).toNat) ++ be2s l.a)) ++ beN 2 v.b.toNat) ++ beN 2 (l.b.length : Int).toNat) ++ be2s l.b)) ++ beN 2 v.c.toNat) ++ beN 2 (l.c.length : Int).toNat) ++ be2s l.c)) ++ beN 2 v.d.toNat) ++ beN 2 (l.d.length : Int).toNat) ++ be2s (l.d.take m)) o wr)) (fun j _ _ => l.d.length - (intOf j).toNat)
              case atStart => exact ⟨0, Nat.zero_le _, rfl, ⟨by simpa [be2s] using R16.out⟩⟩
              case round =>
                clear R16
                obtain ⟨m, hm, rfl, HR⟩ := hrel
                obtain ⟨oa, om, oc, ho⟩ := own_form2 HR.out.o
                subst ho
                by_cases hlt : m < l.d.length
                · obtain ⟨n, hn⟩ : ∃ n, l.d.getD m 0 = n := ⟨_, rfl⟩
                  have hok := okS_at HA3.out hlt
                  rw [hn] at hok
                  have HOK := Bx.mk hok
                  have HSn := Bx.mk (be2s_snoc9 l.d m hlt)
                  rw [hn] at HSn
                  have HLT := Bx.mk hlt
                  have hl1 : (m : Int) < (l.d.length : Int) := by omega
                  have hl0 : (0 : Int) ≤ (m : Int) := by omega
                  have hrow := (HX.out wr HR.out.kr.below).d.ints
                  obtain ⟨_, _, hv, _, _, hf⟩ := hrow
                  injection hv with v1 v2 v3
                  subst v1
                  obtain ⟨cb, co, hc, hcell⟩ := hf (by omega)
                  have me := hcell m hlt
                  rw [hn] at me
                  subst hc
                  have ms := HR.out.cell 7 rfl
                  clear hcell hf v2 v3 hok hn hlt hm
                  go_wp2_with fail
                  clear ms me
                  refine (out8 n HOK.out.1 HOK.out.2 wr).mono ?_
                  rintro e x1 ⟨ya, yc, rfl, hy, hb⟩
                  have HR1 := Bx.mk (HR.out.later hb)
                  have HY := Bx.mk hy
                  clear hy hb HR
                  go_wp2_with (refine wpList_ap rfl _ _ rfl (E + 1) _ _ (by rfl) HR1.out.o _ _ (by rfl) HY.out (by have := HM.out.a; have := HM.out.b; have := HM.out.c; have := HM.out.d; have := HLT.out; simp only [List.length_append, List.length_nil, beN_length, be2s_length, List.length_take]; omega) HR1.out.le ?_; intro y x2 ho hg _; have HR2 := Bx.mk (HR1.out.ap ho hg); clear ho hg HR1 HY)
                  go_roundw
                  case rel => exact ⟨m + 1, by have := HLT.out; omega, by go_num, ⟨by rw [HSn.out, ← List.append_assoc]; exact HR2.out⟩⟩
                  case measure => have := HLT.out; simp [intOf]; omega
                · obtain rfl : m = l.d.length := by omega
                  have ms := HR.out.cell 7 rfl
                  rw [List.take_length] at HR
                  go_wp2_with fail
                  clear ms
                  obtain ⟨wx3, hwx⟩ : ∃ wx, wr = wx := ⟨_, rfl⟩
                  rw [hwx] at HR ⊢
                  have T3 := HR
                  clear HR hlt
                  clear hwx
                  rw [rounds_succ]
                  go_wp2_with fail
                  go_ret
                  refine ⟨_, rfl, ?_, T3.out.kr.below⟩
                  have h := T3.out.o.weak (Nat.le_succ E)
                  have he : (((((((((((((((([]) ++ beN 2 v.a.toNat) ++ beN 2 (l.a.length : Int).toNat) ++ be2s l.a)) ++ beN 2 v.b.toNat) ++ beN 2 (l.b.length : Int).toNat) ++ be2s l.b)) ++ beN 2 v.c.toNat) ++ beN 2 (l.c.length : Int).toNat) ++ be2s l.c)) ++ beN 2 v.d.toNat) ++ beN 2 (l.d.length : Int).toNat) ++ be2s l.d) = dlB v l := by unfold dlB logB; simp only [List.nil_append, List.append_assoc, Int.toNat_natCast]
                  rw [he] at h
                  exact h
end Go.Proofs.YtnfgamekjbkbkaaDoor
