/-
  Revocations: a delta's bytes.
  Revocations: the document's bytes of a delta.
-/
import Derived.Test.YtnfgamekjbkbkaaDoorMa
import Derived.Test.YtnfgamekjbkbkaaDoorJe
namespace Go.Proofs.YtnfgamekjbkbkaaDoor
open Go Go.RowKit
/-- A delta's bytes. -/
def dlB (v : V4) (l : L4) : List UInt8 := (((beN 2 v.a.toNat ++ logB l.a) ++ (beN 2 v.b.toNat ++ logB l.b)) ++ (beN 2 v.c.toNat ++ logB l.c)) ++ (beN 2 v.d.toNat ++ logB l.d)
/-- What stays while a delta is written. -/
structure BW (w : World) (E q : Nat) (x : VV) (l : L4) (cs : Array Value) (bs : List UInt8) (W : World) : Prop where
  kr : KR w E [(E, (.cells cs 30))] W
  rows : Rows4 W x l
  wr : IsW W q (bs, 0)
  lt : E < q
theorem BW.later {w : World} {E q : Nat} {x : VV} {l : L4} {cs : Array Value} {bs : List UInt8} {W W1 : World} (h : BW w E q x l cs bs W) (hb : Below W.heap.size W W1) : BW w E q x l cs bs W1 := ⟨h.kr.later hb, h.rows.later hb, h.wr.later hb h.wr.lt, h.lt⟩
theorem BW.put {w : World} {E q : Nat} {x : VV} {l : L4} {cs : Array Value} {bs bs' : List UInt8} {W W1 : World} (h : BW w E q x l cs bs W) (hg : W.grownBy W1 (some q)) (hw : IsW W1 q (bs', 0)) : BW w E q x l cs bs' W1 := by
  obtain ⟨cs', hc⟩ := h.wr.typed
  exact ⟨h.kr.grown hg (by have := h.lt; omega) (by intro y hy; have := h.lt; simp at hy; subst hy; simp; omega), h.rows.grown hg hc wr_int, hw, h.lt⟩
theorem dlB_length (v : V4) (l : L4) : (dlB v l).length = 16 + 2 * (l.a.length + l.b.length + l.c.length + l.d.length) := by
  unfold dlB
  simp only [List.length_append, logB_length, beN_length]
  omega
theorem BW.num {w : World} {E q : Nat} {x : VV} {l : L4} {cs : Array Value} {bs : List UInt8} {W : World} (h : BW w E q x l cs bs W) (n : Int) (h0 : 0 ≤ n) (h1 : n ≤ 256) (hl : bs.length + 2 ≤ 1024) (T : TypeId) :
    Calls Tryd.prog 49 #[.pointer (some ⟨q, 0, none⟩), .int .i64 1, .slice (some ⟨W.heap.size, 0, none⟩) 1 1] (W.alloc (.cells #[.int .i64 n] T)) fun e w' => e = .returned (.pointer (some ⟨q, 0, none⟩)) ∧ BW w E q x l cs (bs ++ beN 2 n.toNat) w' := by
  have h' := h.later (below_a (.cells #[.int .i64 n] T))
  refine (wnum_any 1 [n] _ q (bs, 0) _ h'.wr (ints_one W q n T h.wr.lt) (by intro m hm; simp at hm; subst hm; omega) (by simp)).mono ?_
  rintro e w' ⟨rfl, hw, hg⟩
  rw [show ([n].map (fNum 1)).foldl putS (bs, 0) = putS (bs, 0) (fNum 1 n) from rfl, put_one2 bs n h0 (by omega) hl] at hw
  exact ⟨rfl, h'.put hg hw⟩
set_option maxRecDepth 100000 in
set_option maxHeartbeats 4000000 in
theorem bytes8_ok (v : V4) (x : VV) (l : L4) (w : World) (hx : Rows4 w x l) (hm : Most l 40) (hF : Full w) (hg : 0 < w.heap.size) (hw : withinB v l = true) : Calls Tryd.prog 10 #[.agg (dC v x)] w fun e w' => ∃ u, e = .returned (.tuple #[u, .int .i64 0]) ∧ OwnB w' w.heap.size u (dlB v l) ∧ Below w.heap.size w w' := by
  have hi := (within_iff v l).1 hw
  have hm' : Most l 1000 := ⟨by have := hm.a; omega, by have := hm.b; omega, by have := hm.c; omega, by have := hm.d; omega⟩
  obtain ⟨zw, hzwv, hzw⟩ := zero_wr
  obtain ⟨E, hE⟩ : ∃ E, w.heap.size = E := ⟨_, rfl⟩
  obtain ⟨p1, q1, t1, s1, a1, b1, c1, d1, rfl⟩ := hx.forms
  have K0 : Bx (KR w E [(E, (.cells #[.int .i64 v.a, .int .i64 v.b, .int .i64 v.c, .int .i64 v.d, .slice p1 l.a.length a1, .slice q1 l.b.length b1, .slice t1 l.c.length c1, .slice s1 l.d.length d1] 30))] (w.alloc (.cells #[.int .i64 v.a, .int .i64 v.b, .int .i64 v.c, .int .i64 v.d, .slice p1 l.a.length a1, .slice q1 l.b.length b1, .slice t1 l.c.length c1, .slice s1 l.d.length d1] 30))) := Bx.mk (by
    subst hE
    exact (KR.start w).new (.cells #[.int .i64 v.a, .int .i64 v.b, .int .i64 v.c, .int .i64 v.d, .slice p1 l.a.length a1, .slice q1 l.b.length b1, .slice t1 l.c.length c1, .slice s1 l.d.length d1] 30))
  have hb0 : Below w.heap.size w (w.alloc (.cells #[.int .i64 v.a, .int .i64 v.b, .int .i64 v.c, .int .i64 v.d, .slice p1 l.a.length a1, .slice q1 l.b.length b1, .slice t1 l.c.length c1, .slice s1 l.d.length d1] 30)) := below_a _
  have HW := Bx.mk (within_any v ⟨.slice p1 l.a.length a1, .slice q1 l.b.length b1, .slice t1 l.c.length c1, .slice s1 l.d.length d1⟩ l (w.alloc (.cells #[.int .i64 v.a, .int .i64 v.b, .int .i64 v.c, .int .i64 v.d, .slice p1 l.a.length a1, .slice q1 l.b.length b1, .slice t1 l.c.length c1, .slice s1 l.d.length d1] 30)) (hx.later hb0) hm' (hF.later hb0 hg) (Nat.lt_of_lt_of_le hg hb0.size))
  have HS := Bx.mk (fun W h => size_any8 v ⟨.slice p1 l.a.length a1, .slice q1 l.b.length b1, .slice t1 l.c.length c1, .slice s1 l.d.length d1⟩ l W h hm')
  have HX := Bx.mk (hx.later hb0)
  have HM := Bx.mk hm
  have HI := Bx.mk hi
  have HZ := Bx.mk hzw
  rw [hw] at HW
  unfold dC at HW HS ⊢
  simp only at HW HS ⊢
  have HA0 : Bx (∀ n ∈ l.a, okS n = true) := ⟨List.all_eq_true.1 hi.2.1⟩
  have HA1 : Bx (∀ n ∈ l.b, okS n = true) := ⟨List.all_eq_true.1 hi.2.2.1⟩
  have HA2 : Bx (∀ n ∈ l.c, okS n = true) := ⟨List.all_eq_true.1 hi.2.2.2.1⟩
  have HA3 : Bx (∀ n ∈ l.d, okS n = true) := ⟨List.all_eq_true.1 hi.2.2.2.2⟩
  obtain ⟨sz, hsz⟩ : ∃ sz, 16 + 2 * (l.a.length + l.b.length + l.c.length + l.d.length) = sz := ⟨_, rfl⟩
  have hsz2 : (sz : Int) ≤ 1024 := by have := hm.a; have := hm.b; have := hm.c; have := hm.d; omega
  rw [hsz] at HS
  clear hx hm hm' hF hg hw hb0 hi hsz hzw
  rw [hE]
  have i0 := idxL0 (.slice p1 l.a.length a1) (.slice q1 l.b.length b1) (.slice t1 l.c.length c1) (.slice s1 l.d.length d1)
  have i1 := idxL1 (.slice p1 l.a.length a1) (.slice q1 l.b.length b1) (.slice t1 l.c.length c1) (.slice s1 l.d.length d1)
  have i2 := idxL2 (.slice p1 l.a.length a1) (.slice q1 l.b.length b1) (.slice t1 l.c.length c1) (.slice s1 l.d.length d1)
  have i3 := idxL3 (.slice p1 l.a.length a1) (.slice q1 l.b.length b1) (.slice t1 l.c.length c1) (.slice s1 l.d.length d1)
  go_enter Tryd.func10, Tryd.ntmps10
  go_wp2_with (refine wpList_load_row rfl 30 _ rfl E (by rfl) _ #[.int .i64 v.a, .int .i64 v.b, .int .i64 v.c, .int .i64 v.d, .slice p1 l.a.length a1, .slice q1 l.b.length b1, .slice t1 l.c.length c1, .slice s1 l.d.length d1] (0, 0) _ (K0.out.rows _ (.head _)) Tryd.underlying30 rfl (by kernel_rfl) ?_)
  generalize w.alloc (.cells #[.int .i64 v.a, .int .i64 v.b, .int .i64 v.c, .int .i64 v.d, .slice p1 l.a.length a1, .slice q1 l.b.length b1, .slice t1 l.c.length c1, .slice s1 l.d.length d1] 30) = w0 at *
  refine HW.out.mono ?_
  rintro e w1 ⟨rfl, hb⟩
  have K1 := Bx.mk (K0.out.later hb)
  have X1 := Bx.mk (HX.out.later hb)
  clear hb K0 HW HX
  go_wp2_with (refine wpList_load_row rfl 30 _ rfl E (by rfl) _ #[.int .i64 v.a, .int .i64 v.b, .int .i64 v.c, .int .i64 v.d, .slice p1 l.a.length a1, .slice q1 l.b.length b1, .slice t1 l.c.length c1, .slice s1 l.d.length d1] (0, 0) _ (K1.out.rows _ (.head _)) Tryd.underlying30 rfl (by kernel_rfl) ?_)
  refine (HS.out w1 X1.out).mono ?_
  rintro e w2 ⟨rfl, hb⟩
  have R0 : Bx (BW w E w2.heap.size ⟨.slice p1 l.a.length a1, .slice q1 l.b.length b1, .slice t1 l.c.length c1, .slice s1 l.d.length d1⟩ l #[.int .i64 v.a, .int .i64 v.b, .int .i64 v.c, .int .i64 v.d, .slice p1 l.a.length a1, .slice q1 l.b.length b1, .slice t1 l.c.length c1, .slice s1 l.d.length d1] [] (w2.alloc (.cells zw 98))) := ⟨⟨(K1.out.later hb).later (below_a _), (X1.out.later hb).later (below_a _), new_wr w2 zw HZ.out, (K1.out.later hb).lt (.head _)⟩⟩
  clear hb K1 X1 HS
  have hc : ∀ W i u, (KR w E [(E, (.cells #[.int .i64 v.a, .int .i64 v.b, .int .i64 v.c, .int .i64 v.d, .slice p1 l.a.length a1, .slice q1 l.b.length b1, .slice t1 l.c.length c1, .slice s1 l.d.length d1] 30))] W) → (#[.int .i64 v.a, .int .i64 v.b, .int .i64 v.c, .int .i64 v.d, .slice p1 l.a.length a1, .slice q1 l.b.length b1, .slice t1 l.c.length c1, .slice s1 l.d.length d1] : Array Value)[i]? = some u → W.cell? ⟨E, i, none⟩ = some u := fun W i u hk h => by
    rw [cell_of_row _ _ _ _ _ _ (hk.rows _ (.head _))]
    exact h
  have HC := Bx.mk hc
  clear hc
  have m4 := HC.out _ 4 _ R0.out.kr rfl
  have m5 := HC.out _ 5 _ R0.out.kr rfl
  have m6 := HC.out _ 6 _ R0.out.kr rfl
  have m7 := HC.out _ 7 _ R0.out.kr rfl
  go_wp2_with fail
  clear m4 m5 m6 m7
  generalize w2.alloc (.cells zw 98) = w3 at *
  generalize w2.heap.size = q at *
  refine wp_loop_rounds 5 ?_
  rw [rounds_succ]
  have m0 := HC.out _ 0 _ R0.out.kr rfl
  have HNu := Bx.mk (R0.out.num v.a HI.out.1.1.1 HI.out.1.1.2 (by have := HM.out.a; have := HM.out.b; have := HM.out.c; have := HM.out.d; simp only [List.length_nil]; omega) 3)
  go_wp2_with fail
  refine HNu.out.mono ?_
  clear m0
  rintro e w4 ⟨rfl, hr⟩
  have R1 := Bx.mk hr
  clear hr HNu R0
  go_wp2_with fail
  refine (putLog_any l.a (.slice p1 l.a.length a1) q _ w4 R1.out.wr R1.out.rows.a HA0.out (by have := HM.out.a; have := HM.out.b; have := HM.out.c; have := HM.out.d; simp only [List.length_append, List.length_nil, beN_length]; omega)).mono ?_
  rintro e w5 ⟨rfl, hw, hg⟩
  have R2 := Bx.mk (R1.out.put hg hw)
  clear hw hg R1
  go_wp2_with fail
  rw [rounds_succ]
  have m1 := HC.out _ 1 _ R2.out.kr rfl
  have HNu := Bx.mk (R2.out.num v.b HI.out.1.2.1.1 HI.out.1.2.1.2 (by have := HM.out.a; have := HM.out.b; have := HM.out.c; have := HM.out.d; simp only [List.length_append, List.length_nil, logB_length, beN_length]; omega) 3)
  go_wp2_with fail
  refine HNu.out.mono ?_
  clear m1
  rintro e w6 ⟨rfl, hr⟩
  have R3 := Bx.mk hr
  clear hr HNu R2
  go_wp2_with fail
  refine (putLog_any l.b (.slice q1 l.b.length b1) q _ w6 R3.out.wr R3.out.rows.b HA1.out (by have := HM.out.a; have := HM.out.b; have := HM.out.c; have := HM.out.d; simp only [List.length_append, List.length_nil, logB_length, beN_length]; omega)).mono ?_
  rintro e w7 ⟨rfl, hw, hg⟩
  have R4 := Bx.mk (R3.out.put hg hw)
  clear hw hg R3
  go_wp2_with fail
  rw [rounds_succ]
  have m2 := HC.out _ 2 _ R4.out.kr rfl
  have HNu := Bx.mk (R4.out.num v.c HI.out.1.2.2.1.1 HI.out.1.2.2.1.2 (by have := HM.out.a; have := HM.out.b; have := HM.out.c; have := HM.out.d; simp only [List.length_append, List.length_nil, logB_length, beN_length]; omega) 3)
  go_wp2_with fail
  refine HNu.out.mono ?_
  clear m2
  rintro e w8 ⟨rfl, hr⟩
  have R5 := Bx.mk hr
  clear hr HNu R4
  go_wp2_with fail
  refine (putLog_any l.c (.slice t1 l.c.length c1) q _ w8 R5.out.wr R5.out.rows.c HA2.out (by have := HM.out.a; have := HM.out.b; have := HM.out.c; have := HM.out.d; simp only [List.length_append, List.length_nil, logB_length, beN_length]; omega)).mono ?_
  rintro e w9 ⟨rfl, hw, hg⟩
  have R6 := Bx.mk (R5.out.put hg hw)
  clear hw hg R5
  go_wp2_with fail
  rw [rounds_succ]
  have m3 := HC.out _ 3 _ R6.out.kr rfl
  have HNu := Bx.mk (R6.out.num v.d HI.out.1.2.2.2.1 HI.out.1.2.2.2.2 (by have := HM.out.a; have := HM.out.b; have := HM.out.c; have := HM.out.d; simp only [List.length_append, List.length_nil, logB_length, beN_length]; omega) 3)
  go_wp2_with fail
  refine HNu.out.mono ?_
  clear m3
  rintro e w10 ⟨rfl, hr⟩
  have R7 := Bx.mk hr
  clear hr HNu R6
  go_wp2_with fail
  refine (putLog_any l.d (.slice s1 l.d.length d1) q _ w10 R7.out.wr R7.out.rows.d HA3.out (by have := HM.out.a; have := HM.out.b; have := HM.out.c; have := HM.out.d; simp only [List.length_append, List.length_nil, logB_length, beN_length]; omega)).mono ?_
  rintro e w11 ⟨rfl, hw, hg⟩
  have R8 := Bx.mk (R7.out.put hg hw)
  clear hw hg R7
  go_wp2_with fail
  rw [rounds_succ]
  go_wp2_with fail
  refine (wout_ok q _ w11 R8.out.wr).mono ?_
  rintro e w12 ⟨u, rfl, ho, hb⟩
  have HO := Bx.mk ho
  have KL := Bx.mk (R8.out.kr.later hb)
  have HLe := Bx.mk R8.out.kr.le
  clear ho hb R8
  go_wp2
  go_ret2
  refine ⟨u, rfl, ?_, KL.out.below⟩
  have h := HO.out.weak HLe.out
  have he : (((((((((((([]) ++ beN 2 v.a.toNat) ++ logB l.a)) ++ beN 2 v.b.toNat) ++ logB l.b)) ++ beN 2 v.c.toNat) ++ logB l.c)) ++ beN 2 v.d.toNat) ++ logB l.d) = dlB v l := by unfold dlB; simp only [List.nil_append, List.append_assoc]
  rw [he] at h
  exact h
end Go.Proofs.YtnfgamekjbkbkaaDoor
namespace Go.Proofs.YtnfgamekjbkbkaaDoor
open Go Go.RowKit
/-- What stays while the document's bytes are laid. -/
structure RB8 (w : World) (E : Nat) (cs : Array Value) (bs : List UInt8) (v : Value) (W : World) : Prop where
  kr : KR w E [(E, (.cells cs 26))] W
  o : OwnB W (E + 1) v bs
theorem RB8.later {w : World} {E : Nat} {cs : Array Value} {bs : List UInt8} {v : Value} {W W1 : World} (h : RB8 w E cs bs v W) (hb : Below W.heap.size W W1) : RB8 w E cs bs v W1 := ⟨h.kr.later hb, h.o.later hb (fun g hg => (h.o.lt g hg).1)⟩
theorem RB8.ap {w : World} {E : Nat} {cs : Array Value} {bs bs' : List UInt8} {v v1 : Value} {W W1 : World} (h : RB8 w E cs bs v W) (ho : OwnB W1 (E + 1) v1 bs') (hg : W.grownBy W1 v.ownBlock) : RB8 w E cs bs' v1 W1 := by
  have hlt := fun g hg => (h.o.lt g hg).2
  refine ⟨?_, ho⟩
  cases hv : v.ownBlock with
  | none =>
    rw [hv] at hg
    exact ⟨fun x hx => by rw [hg.block _ (h.kr.lt hx) (by simp)]; exact h.kr.rows x hx, h.kr.below.trans ⟨hg.os, hg.tape, hg.output, hg.size, fun c hc => hg.block c (by have := h.kr.le; omega) (by simp)⟩, Nat.le_trans h.kr.le hg.size⟩
  | some g =>
    have hg0 := hlt g hv
    rw [hv] at hg
    refine h.kr.grown hg (by omega) (fun x hx => ?_)
    simp only [List.mem_cons, List.not_mem_nil, or_false] at hx
    subst hx
    show E ≠ g
    omega
theorem RB8.cell {w : World} {E : Nat} {cs : Array Value} {bs : List UInt8} {v : Value} {W : World} (h : RB8 w E cs bs v W) (i : Nat) {u : Value} (hu : cs[i]? = some u) : W.cell? ⟨E, i, none⟩ = some u := by
  rw [cell_of_row _ _ _ _ _ _ (h.kr.rows _ (.head _))]
  exact hu
theorem RB8.le {w : World} {E : Nat} {cs : Array Value} {bs : List UInt8} {v : Value} {W : World} (h : RB8 w E cs bs v W) : E + 1 ≤ W.heap.size := h.kr.lt (.head _)
end Go.Proofs.YtnfgamekjbkbkaaDoor
