/-
  Delta: a digest's bytes.
-/
import Derived.Test.YtnfgamekjbkbkaaDoorD6
import Derived.Test.YtnfgamekjbkbkaaDoorJb
namespace Go.Proofs.YtnfgamekjbkbkaaDoor
open Go Go.RowKit
/-- A digest's bytes. -/
def dgB (v : V4) (p : B8) : List UInt8 := (((beN 2 v.a.toNat ++ beN 2 v.b.toNat) ++ beN 2 v.c.toNat) ++ beN 2 v.d.toNat) ++ p.list
theorem dgB_length (v : V4) (p : B8) : (dgB v p).length = 16 := by
  unfold dgB
  simp only [List.length_append, beN_length]
  rfl
theorem ub_range (x : UInt8) : 0 ≤ ub x ∧ ub x ≤ 255 := by
  unfold ub
  have := x.toNat_lt
  omega
theorem beN_byte (x : UInt8) : beN 1 (ub x).toNat = [x] := by
  unfold beN ub
  simp [beN]
theorem put_one1 (l : List UInt8) (x : UInt8) (hl : l.length + 1 ≤ 1024) : putS (l, 0) (fNum 0 (ub x)) = (l ++ [x], 0) := by
  have h := ub_range x
  have hc : chk (fNum 0 (ub x)) = 0 := by
    unfold chk fNum most
    simp only
    rw [if_neg (by omega), if_neg (by omega), if_neg (by simp; omega)]
  have he : enc (fNum 0 (ub x)) = [x] := by
    unfold enc fNum
    simp only
    rw [if_neg (by omega)]
    exact beN_byte x
  unfold putS
  simp only
  rw [if_neg (by simp), if_neg (by rw [hc]; simp), if_neg (by rw [he]; simp; omega), he]
/-- What stays while a digest is written. -/
structure DW (w : World) (E q : Nat) (v : V4) (p : B8) (bs : List UInt8) (W : World) : Prop where
  kr : KR w E [(E, .cells #[.int .i64 v.a, .int .i64 v.b, .int .i64 v.c, .int .i64 v.d, .int .u8 (ub p.a), .int .u8 (ub p.b), .int .u8 (ub p.c), .int .u8 (ub p.d), .int .u8 (ub p.e), .int .u8 (ub p.f), .int .u8 (ub p.g), .int .u8 (ub p.h)] 62)] W
  wr : IsW W q (bs, 0)
  lt : E < q
theorem DW.put {w : World} {E q : Nat} {v : V4} {p : B8} {bs bs' : List UInt8} {W W1 : World} (h : DW w E q v p bs W) (hg : W.grownBy W1 (some q)) (hw : IsW W1 q (bs', 0)) : DW w E q v p bs' W1 :=
  ⟨h.kr.grown hg (by have := h.lt; omega) (by intro y hy; have := h.lt; simp at hy; subst hy; simp; omega), hw, h.lt⟩
theorem DW.later {w : World} {E q : Nat} {v : V4} {p : B8} {bs : List UInt8} {W W1 : World} (h : DW w E q v p bs W) (hb : Below W.heap.size W W1) : DW w E q v p bs W1 := ⟨h.kr.later hb, h.wr.later hb h.wr.lt, h.lt⟩
theorem DW.one {w : World} {E q : Nat} {v : V4} {p : B8} {bs : List UInt8} {W : World} (h : DW w E q v p bs W) (x : UInt8) (hl : bs.length + 1 ≤ 1024) (T : TypeId) :
    Calls Tryd.prog 49 #[.pointer (some ⟨q, 0, none⟩), .int .i64 0, .slice (some ⟨W.heap.size, 0, none⟩) 1 1] (W.alloc (.cells #[.int .i64 (ub x)] T)) fun e w' => e = .returned (.pointer (some ⟨q, 0, none⟩)) ∧ DW w E q v p (bs ++ [x]) w' := by
  have h' := h.later (below_a (.cells #[.int .i64 (ub x)] T))
  have hx := ub_range x
  refine (wnum_any 0 [ub x] _ q (bs, 0) _ h'.wr (ints_one W q (ub x) T h.wr.lt) (by intro m hm; simp at hm; subst hm; omega) (by simp)).mono ?_
  rintro e w' ⟨rfl, hw, hg⟩
  rw [show ([ub x].map (fNum 0)).foldl putS (bs, 0) = putS (bs, 0) (fNum 0 (ub x)) from rfl, put_one1 bs x hl] at hw
  exact ⟨rfl, h'.put hg hw⟩
theorem DW.four {w : World} {E q : Nat} {v : V4} {p : B8} {W : World} (h : DW w E q v p [] W) (hv : okV v = true) :
    Calls Tryd.prog 49 #[.pointer (some ⟨q, 0, none⟩), .int .i64 1, .slice (some ⟨E, 0, none⟩) 4 4] W fun e w' => e = .returned (.pointer (some ⟨q, 0, none⟩)) ∧ DW w E q v p (((beN 2 v.a.toNat ++ beN 2 v.b.toNat) ++ beN 2 v.c.toNat) ++ beN 2 v.d.toNat) w' := by
  obtain ⟨⟨a1, a2⟩, ⟨b1, b2⟩, ⟨c1, c2⟩, d1, d2⟩ := (okV_iff v).1 hv
  have hN : IntsN W q (.slice (some ⟨E, 0, none⟩) 4 4) [v.a, v.b, v.c, v.d] := ⟨_, _, rfl, Nat.le_refl _, fun _ => ⟨E, 0, rfl, by have := h.lt; omega, fun i hi => by
    rw [cell_of_row _ _ _ _ _ _ (h.kr.rows _ (.head _))]
    rcases four_nat hi with rfl | rfl | rfl | rfl <;> rfl⟩⟩
  refine (wnum_any 1 [v.a, v.b, v.c, v.d] _ q ([], 0) _ h.wr hN (by intro m hm; simp at hm; rcases hm with rfl | rfl | rfl | rfl <;> omega) (by simp)).mono ?_
  rintro e w' ⟨rfl, hw, hg⟩
  rw [show ([v.a, v.b, v.c, v.d].map (fNum 1)).foldl putS ([], 0) = putS (putS (putS (putS ([], 0) (fNum 1 v.a)) (fNum 1 v.b)) (fNum 1 v.c)) (fNum 1 v.d) from rfl, put_one2 [] v.a a1 (by omega) (by simp), put_one2 _ v.b b1 (by omega) (by simp [beN_length]), put_one2 _ v.c c1 (by omega) (by simp [beN_length]), put_one2 _ v.d d1 (by omega) (by simp [beN_length]), List.nil_append] at hw
  exact ⟨rfl, h.put hg hw⟩
theorem u8_wrap (x : UInt8) : IntKind.i64.wrap (ub x) = ub x := by
  have := ub_range x
  rw [IntKind.wrap_i64]
  omega
theorem idxP0 (p : B8) (W : World) : (Instr.index 48 (.agg #[.int .u8 (ub p.a), .int .u8 (ub p.b), .int .u8 (ub p.c), .int .u8 (ub p.d), .int .u8 (ub p.e), .int .u8 (ub p.f), .int .u8 (ub p.g), .int .u8 (ub p.h)]) (.int .i64 0)).run Tryd.prog W = .ok (.int .u8 (ub p.a)) W := by kernel_rfl
theorem idxP1 (p : B8) (W : World) : (Instr.index 48 (.agg #[.int .u8 (ub p.a), .int .u8 (ub p.b), .int .u8 (ub p.c), .int .u8 (ub p.d), .int .u8 (ub p.e), .int .u8 (ub p.f), .int .u8 (ub p.g), .int .u8 (ub p.h)]) (.int .i64 1)).run Tryd.prog W = .ok (.int .u8 (ub p.b)) W := by kernel_rfl
theorem idxP2 (p : B8) (W : World) : (Instr.index 48 (.agg #[.int .u8 (ub p.a), .int .u8 (ub p.b), .int .u8 (ub p.c), .int .u8 (ub p.d), .int .u8 (ub p.e), .int .u8 (ub p.f), .int .u8 (ub p.g), .int .u8 (ub p.h)]) (.int .i64 2)).run Tryd.prog W = .ok (.int .u8 (ub p.c)) W := by kernel_rfl
theorem idxP3 (p : B8) (W : World) : (Instr.index 48 (.agg #[.int .u8 (ub p.a), .int .u8 (ub p.b), .int .u8 (ub p.c), .int .u8 (ub p.d), .int .u8 (ub p.e), .int .u8 (ub p.f), .int .u8 (ub p.g), .int .u8 (ub p.h)]) (.int .i64 3)).run Tryd.prog W = .ok (.int .u8 (ub p.d)) W := by kernel_rfl
theorem idxP4 (p : B8) (W : World) : (Instr.index 48 (.agg #[.int .u8 (ub p.a), .int .u8 (ub p.b), .int .u8 (ub p.c), .int .u8 (ub p.d), .int .u8 (ub p.e), .int .u8 (ub p.f), .int .u8 (ub p.g), .int .u8 (ub p.h)]) (.int .i64 4)).run Tryd.prog W = .ok (.int .u8 (ub p.e)) W := by kernel_rfl
theorem idxP5 (p : B8) (W : World) : (Instr.index 48 (.agg #[.int .u8 (ub p.a), .int .u8 (ub p.b), .int .u8 (ub p.c), .int .u8 (ub p.d), .int .u8 (ub p.e), .int .u8 (ub p.f), .int .u8 (ub p.g), .int .u8 (ub p.h)]) (.int .i64 5)).run Tryd.prog W = .ok (.int .u8 (ub p.f)) W := by kernel_rfl
theorem idxP6 (p : B8) (W : World) : (Instr.index 48 (.agg #[.int .u8 (ub p.a), .int .u8 (ub p.b), .int .u8 (ub p.c), .int .u8 (ub p.d), .int .u8 (ub p.e), .int .u8 (ub p.f), .int .u8 (ub p.g), .int .u8 (ub p.h)]) (.int .i64 6)).run Tryd.prog W = .ok (.int .u8 (ub p.g)) W := by kernel_rfl
theorem idxP7 (p : B8) (W : World) : (Instr.index 48 (.agg #[.int .u8 (ub p.a), .int .u8 (ub p.b), .int .u8 (ub p.c), .int .u8 (ub p.d), .int .u8 (ub p.e), .int .u8 (ub p.f), .int .u8 (ub p.g), .int .u8 (ub p.h)]) (.int .i64 7)).run Tryd.prog W = .ok (.int .u8 (ub p.h)) W := by kernel_rfl
theorem rng_dg9 {W : World} {E : Nat} {v : V4} {p : B8} {t : TypeId} (h : W.heap[E]? = some (.cells #[.int .i64 v.a, .int .i64 v.b, .int .i64 v.c, .int .i64 v.d, .int .u8 (ub p.a), .int .u8 (ub p.b), .int .u8 (ub p.c), .int .u8 (ub p.d), .int .u8 (ub p.e), .int .u8 (ub p.f), .int .u8 (ub p.g), .int .u8 (ub p.h)] t (0, 0))) : W.rangeAt E 0 [.int .i64 v.a, .int .i64 v.b, .int .i64 v.c, .int .i64 v.d] ∧ W.rangeAt E 4 [.int .u8 (ub p.a), .int .u8 (ub p.b), .int .u8 (ub p.c), .int .u8 (ub p.d), .int .u8 (ub p.e), .int .u8 (ub p.f), .int .u8 (ub p.g), .int .u8 (ub p.h)] :=
  ⟨range_to8 (m := [.int .u8 (ub p.a), .int .u8 (ub p.b), .int .u8 (ub p.c), .int .u8 (ub p.d), .int .u8 (ub p.e), .int .u8 (ub p.f), .int .u8 (ub p.g), .int .u8 (ub p.h)]) (row_rng8 (l := [.int .i64 v.a, .int .i64 v.b, .int .i64 v.c, .int .i64 v.d, .int .u8 (ub p.a), .int .u8 (ub p.b), .int .u8 (ub p.c), .int .u8 (ub p.d), .int .u8 (ub p.e), .int .u8 (ub p.f), .int .u8 (ub p.g), .int .u8 (ub p.h)]) h), range_from8 (l := [.int .i64 v.a, .int .i64 v.b, .int .i64 v.c, .int .i64 v.d]) (row_rng8 (l := [.int .i64 v.a, .int .i64 v.b, .int .i64 v.c, .int .i64 v.d, .int .u8 (ub p.a), .int .u8 (ub p.b), .int .u8 (ub p.c), .int .u8 (ub p.d), .int .u8 (ub p.e), .int .u8 (ub p.f), .int .u8 (ub p.g), .int .u8 (ub p.h)]) h) rfl⟩
set_option maxRecDepth 100000 in
set_option maxHeartbeats 4000000 in
theorem dbytes_bad (v : V4) (p : B8) (w : World) (hw : okV v = false) : Calls Tryd.prog 28 #[.agg (dgC v p)] w fun e w' => e = .returned (.tuple #[.slice none 0 0, .int .i64 10]) ∧ Below w.heap.size w w' := by
  obtain ⟨E, hE⟩ : ∃ E, w.heap.size = E := ⟨_, rfl⟩
  have K0 : Bx (KR w E [(E, .cells #[.int .i64 v.a, .int .i64 v.b, .int .i64 v.c, .int .i64 v.d, .int .u8 (ub p.a), .int .u8 (ub p.b), .int .u8 (ub p.c), .int .u8 (ub p.d), .int .u8 (ub p.e), .int .u8 (ub p.f), .int .u8 (ub p.g), .int .u8 (ub p.h)] 62)] (w.alloc (.cells #[.int .i64 v.a, .int .i64 v.b, .int .i64 v.c, .int .i64 v.d, .int .u8 (ub p.a), .int .u8 (ub p.b), .int .u8 (ub p.c), .int .u8 (ub p.d), .int .u8 (ub p.e), .int .u8 (ub p.f), .int .u8 (ub p.g), .int .u8 (ub p.h)] 62))) := ⟨by
    subst hE
    exact (KR.start w).new _⟩
  have HW := Bx.mk (fun W => within9_any v W)
  rw [hw] at HW
  obtain ⟨zw, hzwv, hzw⟩ := zero_wr
  have HZ := Bx.mk hzw
  have HOk := Bx.mk hw
  clear hzw hw
  unfold dgC
  rw [hE]
  go_enter Tryd.func28, Tryd.ntmps28
  go_wp2_with (refine wpList_load_mid rfl 28 _ rfl E 0 (by rfl) _ _ (rng_dg9 (K0.out.rows _ (.head _))).1 Tryd.underlying28 rfl (by kernel_rfl) ?_)
  generalize w.alloc (.cells #[.int .i64 v.a, .int .i64 v.b, .int .i64 v.c, .int .i64 v.d, .int .u8 (ub p.a), .int .u8 (ub p.b), .int .u8 (ub p.c), .int .u8 (ub p.d), .int .u8 (ub p.e), .int .u8 (ub p.f), .int .u8 (ub p.g), .int .u8 (ub p.h)] 62) = w0 at *
  refine (HW.out w0).mono ?_
  rintro e w1 ⟨rfl, hb⟩
  have K1 := Bx.mk (K0.out.later hb)
  clear hb K0 HW
  go_wp2
  go_ret2
  exact ⟨rfl, K1.out.below⟩
set_option maxRecDepth 100000 in
set_option maxHeartbeats 4000000 in
theorem dbytes_ok (v : V4) (p : B8) (w : World) (hw : okV v = true) : Calls Tryd.prog 28 #[.agg (dgC v p)] w fun e w' => ∃ u, e = .returned (.tuple #[u, .int .i64 0]) ∧ OwnB w' w.heap.size u (dgB v p) ∧ Below w.heap.size w w' := by
  obtain ⟨E, hE⟩ : ∃ E, w.heap.size = E := ⟨_, rfl⟩
  have K0 : Bx (KR w E [(E, .cells #[.int .i64 v.a, .int .i64 v.b, .int .i64 v.c, .int .i64 v.d, .int .u8 (ub p.a), .int .u8 (ub p.b), .int .u8 (ub p.c), .int .u8 (ub p.d), .int .u8 (ub p.e), .int .u8 (ub p.f), .int .u8 (ub p.g), .int .u8 (ub p.h)] 62)] (w.alloc (.cells #[.int .i64 v.a, .int .i64 v.b, .int .i64 v.c, .int .i64 v.d, .int .u8 (ub p.a), .int .u8 (ub p.b), .int .u8 (ub p.c), .int .u8 (ub p.d), .int .u8 (ub p.e), .int .u8 (ub p.f), .int .u8 (ub p.g), .int .u8 (ub p.h)] 62))) := ⟨by
    subst hE
    exact (KR.start w).new _⟩
  have HW := Bx.mk (fun W => within9_any v W)
  rw [hw] at HW
  obtain ⟨zw, hzwv, hzw⟩ := zero_wr
  have HZ := Bx.mk hzw
  have HOk := Bx.mk hw
  clear hzw hw
  unfold dgC
  rw [hE]
  go_enter Tryd.func28, Tryd.ntmps28
  go_wp2_with (refine wpList_load_mid rfl 28 _ rfl E 0 (by rfl) _ _ (rng_dg9 (K0.out.rows _ (.head _))).1 Tryd.underlying28 rfl (by kernel_rfl) ?_)
  generalize w.alloc (.cells #[.int .i64 v.a, .int .i64 v.b, .int .i64 v.c, .int .i64 v.d, .int .u8 (ub p.a), .int .u8 (ub p.b), .int .u8 (ub p.c), .int .u8 (ub p.d), .int .u8 (ub p.e), .int .u8 (ub p.f), .int .u8 (ub p.g), .int .u8 (ub p.h)] 62) = w0 at *
  refine (HW.out w0).mono ?_
  rintro e w1 ⟨rfl, hb⟩
  have K1 := Bx.mk (K0.out.later hb)
  clear hb K0 HW
  have R0 : Bx (DW w E w1.heap.size v p [] (w1.alloc (.cells zw 98))) := ⟨⟨K1.out.later (below_a _), new_wr w1 zw HZ.out, K1.out.lt (.head _)⟩⟩
  clear K1 HZ
  go_wp2_with fail
  generalize w1.alloc (.cells zw 98) = w2 at *
  generalize w1.heap.size = q at *
  refine (R0.out.four HOk.out).mono ?_
  rintro e w3 ⟨rfl, hr⟩
  have Y0 := Bx.mk hr
  clear hr R0 HOk
  obtain ⟨l0, hl0⟩ : ∃ l, (((beN 2 v.a.toNat ++ beN 2 v.b.toNat) ++ beN 2 v.c.toNat) ++ beN 2 v.d.toNat) = l := ⟨_, rfl⟩
  rw [hl0] at Y0
  have HL0 : Bx (l0.length = 8 ∧ dgB v p = l0 ++ p.list) := ⟨by rw [← hl0]; simp only [List.length_append, beN_length], by rw [← hl0]; rfl⟩
  clear hl0
  go_wp2_with (refine wpList_load_mid rfl 48 _ rfl E 4 (by rfl) _ _ (rng_dg9 (Y0.out.kr.rows _ (.head _))).2 Tryd.underlying48 rfl (by kernel_rfl) ?_)
  have i0 := idxP0 p
  have i1 := idxP1 p
  have i2 := idxP2 p
  have i3 := idxP3 p
  have i4 := idxP4 p
  have i5 := idxP5 p
  have i6 := idxP6 p
  have i7 := idxP7 p
  have u0 := u8_wrap p.a
  have u1 := u8_wrap p.b
  have u2 := u8_wrap p.c
  have u3 := u8_wrap p.d
  have u4 := u8_wrap p.e
  have u5 := u8_wrap p.f
  have u6 := u8_wrap p.g
  have u7 := u8_wrap p.h
  refine wp_loop_rounds 9 ?_
  rw [rounds_succ]
  have HN := Bx.mk (Y0.out.one p.a (by have := HL0.out.1; simp [this]) 3)
  go_wp2_with fail

  refine HN.out.mono ?_
  rintro e z1 ⟨rfl, hr⟩
  have Y1 := Bx.mk hr
  clear hr HN Y0
  go_wp2_with fail
  rw [rounds_succ]
  have HN := Bx.mk (Y1.out.one p.b (by have := HL0.out.1; simp [this]) 3)
  go_wp2_with fail

  refine HN.out.mono ?_
  rintro e z2 ⟨rfl, hr⟩
  have Y2 := Bx.mk hr
  clear hr HN Y1
  go_wp2_with fail
  rw [rounds_succ]
  have HN := Bx.mk (Y2.out.one p.c (by have := HL0.out.1; simp [this]) 3)
  go_wp2_with fail

  refine HN.out.mono ?_
  rintro e z3 ⟨rfl, hr⟩
  have Y3 := Bx.mk hr
  clear hr HN Y2
  go_wp2_with fail
  rw [rounds_succ]
  have HN := Bx.mk (Y3.out.one p.d (by have := HL0.out.1; simp [this]) 3)
  go_wp2_with fail

  refine HN.out.mono ?_
  rintro e z4 ⟨rfl, hr⟩
  have Y4 := Bx.mk hr
  clear hr HN Y3
  go_wp2_with fail
  rw [rounds_succ]
  have HN := Bx.mk (Y4.out.one p.e (by have := HL0.out.1; simp [this]) 3)
  go_wp2_with fail

  refine HN.out.mono ?_
  rintro e z5 ⟨rfl, hr⟩
  have Y5 := Bx.mk hr
  clear hr HN Y4
  go_wp2_with fail
  rw [rounds_succ]
  have HN := Bx.mk (Y5.out.one p.f (by have := HL0.out.1; simp [this]) 3)
  go_wp2_with fail

  refine HN.out.mono ?_
  rintro e z6 ⟨rfl, hr⟩
  have Y6 := Bx.mk hr
  clear hr HN Y5
  go_wp2_with fail
  rw [rounds_succ]
  have HN := Bx.mk (Y6.out.one p.g (by have := HL0.out.1; simp [this]) 3)
  go_wp2_with fail

  refine HN.out.mono ?_
  rintro e z7 ⟨rfl, hr⟩
  have Y7 := Bx.mk hr
  clear hr HN Y6
  go_wp2_with fail
  rw [rounds_succ]
  have HN := Bx.mk (Y7.out.one p.h (by have := HL0.out.1; simp [this]) 3)
  go_wp2_with fail

  refine HN.out.mono ?_
  rintro e z8 ⟨rfl, hr⟩
  have Y8 := Bx.mk hr
  clear hr HN Y7
  go_wp2_with fail
  rw [rounds_succ]
  go_wp2_with fail
  refine (wout_ok q _ z8 Y8.out.wr).mono ?_
  rintro e z9 ⟨u, rfl, ho, hb⟩
  have HO := Bx.mk ho
  have KL := Bx.mk (Y8.out.kr.later hb)
  have HLe := Bx.mk Y8.out.kr.le
  clear ho hb Y8
  go_wp2
  go_ret2
  refine ⟨u, rfl, ?_, KL.out.below⟩
  have h := HO.out.weak HLe.out
  rw [HL0.out.2]
  simpa [B8.list] using h
end Go.Proofs.YtnfgamekjbkbkaaDoor
