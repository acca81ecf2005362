/-
  The walk of KeysNil.
-/
import Derived.Test.YtdionedinmkeiaaDoorYd
namespace Go.Proofs.YtdionedinmkeiaaDoor
open Go Go.RowKit
theorem wpList_load_midw {P : Program} {ops : Array Oper} {rest : List Oper} {op : Oper} {a : Act} {w : World} {Q : Exit → Act → World → Prop} (hw : Region.wanted op (yielded ops a.tmps) = true) (ty : TypeId) (x : Operand) (ho : op.op = .load ty x)
    (b o : Nat) (hx : a.eval x = .pointer (some ⟨b, o, none⟩)) (cs : List Value) (d : TypeDesc) (hr : w.rangeAt b o cs)
    (hu : P.underlying ty = some d) (hd : d.isRow = true) (hi : (P.info? ty).map (·.size) = some cs.length)
    (h : wpList P ops Q rest (a.put op.dst (.agg cs.toArray)) w) : wpList P ops Q (op :: rest) a w := by
  refine wpList_step fun K hK => ?_
  rw [if_pos hw]
  unfold Oper.wp execOp
  simp only [ho, hx, Instr.loadAt, Instr.sureAddr, Sem.run_bind, Sem.run_pure, Result.andThen_ok, run_loadVar_mid w b o ty cs d hr hu hd hi]
  exact hK _ _ h
set_option maxRecDepth 100000 in
set_option maxHeartbeats 4000000 in
theorem keysnil_any (c : Cl) (n : Int) (w : World) (hTab : Tab w) (hg : 0 < w.heap.size) :
    Calls Tryd.prog 4 #[clV c, .int .i64 n] w fun e w' => e = .returned (.bool true) ∧ Below w.heap.size w w' := by
  have HT : Bx (∀ W, Below w.heap.size w W → Tab W ∧ 0 < W.heap.size) := Bx.mk fun W hb => ⟨hTab.later hb hg, Nat.lt_of_lt_of_le hg hb.size⟩
  clear hTab hg
  obtain ⟨zc, hzc⟩ : ∃ zc, tkC c0 z32 = zc := ⟨_, rfl⟩
  have hbz : Tryd.prog.built 53 [] = some zc := by rw [← hzc]; exact tk_none
  have hself := fun W : World => self_tk_eql c0 z32 rfl W
  obtain ⟨tb, htb⟩ : ∃ tb, tkC c z32 = tb := ⟨_, rfl⟩
  have hbc : Bx (Tryd.prog.built 53 [(0, clV c)] = some tb) := Bx.mk (by rw [← htb]; exact tk_built c)
  have HTo := Bx.mk fun (W : World) => cto_any c W
  have HRi := Bx.mk fun (W : World) => cright_any c W
  have HFr := Bx.mk fun (W : World) => ring_from_nil c W
  have HAd := Bx.mk fun (W : World) => ring_add_nil c (.pointer none) W
  have HGr := Bx.mk fun (W : World) => gra_nil c n W
  have HOw := Bx.mk fun (W : World) => own_nil W
  obtain ⟨er, vx, her⟩ : ∃ (er : Int) (vx : Bool), er = (if okC c = true then 0 else 10) ∧ vx = okC c := ⟨_, _, rfl, rfl⟩
  have HNw : Bx (∀ W : World, Calls Tryd.prog 23 #[.agg tb] W fun e w' => ∃ v, e = .returned (.tuple #[v, .int .i64 er]) ∧ (v = .pointer none ∧ er = 10 ∧ vx = false ∨ ∃ R, v = .pointer (some ⟨R, 0, none⟩) ∧ er = 0 ∧ vx = true) ∧ Below W.heap.size W w') := Bx.mk fun W => by
    rw [← htb]
    refine (ring_new c z32 W rfl).mono ?_
    rintro e w' ⟨h1, h2, h3⟩
    cases hc : okC c
    · exact ⟨_, by rw [her.1, hc, if_neg (by decide)]; exact h1 hc, .inl ⟨rfl, by rw [her.1, hc, if_neg (by decide)], by rw [her.2, hc]⟩, h3⟩
    · obtain ⟨R, h4, -, -⟩ := h2 hc
      exact ⟨_, by rw [her.1, hc, if_pos rfl]; exact h4, .inr ⟨R, rfl, by rw [her.1, hc, if_pos rfl], by rw [her.2, hc]⟩, h3⟩
  rw [← her.2] at HRi
  unfold tkV at HOw
  rw [hzc] at HOw hself
  clear hzc htb her
  obtain ⟨i, r, x, q⟩ := c
  unfold clV at *
  simp only at HTo HRi HFr HAd HGr hbc ⊢
  obtain ⟨B, hB⟩ : ∃ B, w.heap.size = B := ⟨_, rfl⟩
  have H0 := Bx.mk ((KS.start w B hB).new (.cells #[.int .i64 i, .int .i64 r, .int .i64 x, .int .i64 q] 24))
  rw [hB] at H0 HT ⊢
  go_enter Tryd.func4, Tryd.ntmps4
  go_upto_region 2 with fail
  generalize w.alloc (.cells #[.int .i64 i, .int .i64 r, .int .i64 x, .int .i64 q] 24) = w0 at *
  have Y0 := H0
  go_wp2_with (refine wpList_load_mid rfl 24 _ rfl B 0 (by rfl) [.int .i64 i, .int .i64 r, .int .i64 x, .int .i64 q] _ (row_rng (l := [.int .i64 i, .int .i64 r, .int .i64 x, .int .i64 q]) (Y0.out.rows _ (.head _))) Tryd.underlying24 rfl (by kernel_rfl) ?_)
  refine (HTo.out w0).mono ?_
  rintro e w1 ⟨rfl, hb⟩
  have Y1 := Bx.mk (Y0.out.later hb)
  clear hb Y0
  go_wp2_with (first | (refine wpList_load_mid rfl 24 _ rfl B 0 (by rfl) [.int .i64 i, .int .i64 r, .int .i64 x, .int .i64 q] _ (row_rng (l := [.int .i64 i, .int .i64 r, .int .i64 x, .int .i64 q]) (Y1.out.rows _ (.head _))) Tryd.underlying24 rfl (by kernel_rfl) ?_) | (refine wpList_buildTo rfl 53 _ rfl _ rfl tb (by simp only [List.map_toArray, List.map_cons, List.map_nil]; exact hbc.out) ?_))
  refine (HNw.out w1).mono ?_
  rintro e w2 ⟨vr, rfl, hvr, hb⟩
  have Y2 := Bx.mk (Y1.out.later hb)
  clear hb Y1
  have HVR := Bx.mk hvr
  clear hvr
  go_wp2_with fail
  refine (to_nil n w2).mono ?_
  rintro e w9 ⟨rfl, rfl⟩
  go_wp2_with fail
  refine (rseed_nil n w2).mono ?_
  rintro e w9 ⟨rfl, rfl⟩
  go_wp2_with (refine wpList_load_mid rfl 24 _ rfl B 0 (by rfl) [.int .i64 i, .int .i64 r, .int .i64 x, .int .i64 q] _ (row_rng (l := [.int .i64 i, .int .i64 r, .int .i64 x, .int .i64 q]) (Y2.out.rows _ (.head _))) Tryd.underlying24 rfl (by kernel_rfl) ?_)
  refine (HTo.out w2).mono ?_
  rintro e w3 ⟨rfl, hb⟩
  have Y3 := Bx.mk (Y2.out.later hb)
  clear hb Y2
  go_wp2_with fail
  refine (HFr.out w3).mono ?_
  rintro e w4 ⟨rfl, hb⟩
  have Y4 := Bx.mk (Y3.out.later hb)
  clear hb Y3
  go_wp2_with fail
  refine (ring_label_nil n w4).mono ?_
  rintro e w5 ⟨rfl, hb⟩
  have Y5 := Bx.mk (Y4.out.later hb)
  clear hb Y4
  go_wp2_with fail
  refine (sen_nil n w5).mono ?_
  rintro e w9 ⟨rfl, rfl⟩
  go_wp2_with (refine wpList_load_mid rfl 24 _ rfl B 0 (by rfl) [.int .i64 i, .int .i64 r, .int .i64 x, .int .i64 q] _ (row_rng (l := [.int .i64 i, .int .i64 r, .int .i64 x, .int .i64 q]) (Y5.out.rows _ (.head _))) Tryd.underlying24 rfl (by kernel_rfl) ?_)
  refine (HTo.out w5).mono ?_
  rintro e w6 ⟨rfl, hb⟩
  have Y6 := Bx.mk (Y5.out.later hb)
  clear hb Y5
  go_wp2_with fail
  refine (HGr.out w6).mono ?_
  rintro e w7 ⟨rfl, hb⟩
  have Y7 := Bx.mk (Y6.out.later hb)
  clear hb Y6
  have R0 := Bx.mk Y7.out
  clear Y7
  generalize w7 = W0 at *
  have HVR1 := HVR.out
  clear HVR
  rcases HVR1 with ⟨rfl, rfl, rfl⟩ | ⟨RR, rfl, rfl, rfl⟩
  · skip
    go_wp2_with fail
    refine (known7_any W0 (HT.out W0 R0.out.below).1 (HT.out W0 R0.out.below).2).mono ?_
    rintro e W1 ⟨rfl, hb⟩
    have R1 := Bx.mk (R0.out.later hb)
    clear hb R0
    obtain ⟨k0, k1, k2, k3⟩ := cells4 (R1.out.rows _ (.head _))
    go_wp2_with fail
    clear k0 k1 k2 k3
    refine (HRi.out W1).mono ?_
    rintro e W2 ⟨rfl, hb⟩
    have R2 := Bx.mk (R1.out.later hb)
    clear hb R1
    obtain ⟨k0, k1, k2, k3⟩ := cells4 (R2.out.rows _ (.head _))
    go_wp2_with fail
    clear k0 k1 k2 k3
    refine (HTo.out W2).mono ?_
    rintro e W3 ⟨rfl, hb⟩
    have R3 := Bx.mk (R2.out.later hb)
    clear hb R2
    go_wp2_with fail
    refine (HAd.out W3).mono ?_
    rintro e W4 ⟨rfl, hb⟩
    have R4 := Bx.mk (R3.out.later hb)
    clear hb R3
    go_wp2_with fail
    refine (ring_learn_nil n (.pointer none) W4).mono ?_
    rintro e W5 ⟨rfl, hb⟩
    have R5 := Bx.mk (R4.out.later hb)
    clear hb R4
    obtain ⟨k0, k1, k2, k3⟩ := cells4 (R5.out.rows _ (.head _))
    go_wp2_with fail
    clear k0 k1 k2 k3
    refine (HTo.out W5).mono ?_
    rintro e W6 ⟨rfl, hb⟩
    have R6 := Bx.mk (R5.out.later hb)
    clear hb R5
    have R6b := Bx.mk (R6.out.alloc (.cells #[.int .i64 i, .int .i64 r, .int .i64 x, .int .i64 q] 37))
    have hdr := fun (W : World) => ring_drop_nil (.slice (some ⟨W6.heap.size, 0, none⟩) 1 1) W
    go_wp2_with fail
    generalize W6.alloc (.cells #[.int .i64 i, .int .i64 r, .int .i64 x, .int .i64 q] 37) = W6b at *
    refine (hdr W6b).mono ?_
    rintro e W7 ⟨rfl, hb⟩
    have R7 := Bx.mk (R6b.out.later hb)
    clear hb R6 R6b hdr
    go_wp2_with fail
    refine (ring_known_nil W7).mono ?_
    rintro e W8 ⟨rfl, hb⟩
    have R8 := Bx.mk (R7.out.later hb)
    clear hb R7
    go_wp2_with fail
    refine (HOw.out W8).mono ?_
    rintro e W9 ⟨rfl, hb⟩
    have R9 := Bx.mk (R8.out.later hb)
    clear hb R8
    go_wp2_with (refine wpList_buildw (by rfl) 53 _ rfl zc (by simp only [List.map_toArray, List.map_nil]; exact hbz) ?_)
    go_ret
    exact ⟨rfl, R9.out.below⟩
  · skip
    go_wp2_with fail
    refine (known7_any W0 (HT.out W0 R0.out.below).1 (HT.out W0 R0.out.below).2).mono ?_
    rintro e W1 ⟨rfl, hb⟩
    have R1 := Bx.mk (R0.out.later hb)
    clear hb R0
    obtain ⟨k0, k1, k2, k3⟩ := cells4 (R1.out.rows _ (.head _))
    go_wp2_with fail
    clear k0 k1 k2 k3
    refine (HRi.out W1).mono ?_
    rintro e W2 ⟨rfl, hb⟩
    have R2 := Bx.mk (R1.out.later hb)
    clear hb R1
    obtain ⟨k0, k1, k2, k3⟩ := cells4 (R2.out.rows _ (.head _))
    go_wp2_with fail
    clear k0 k1 k2 k3
    refine (HTo.out W2).mono ?_
    rintro e W3 ⟨rfl, hb⟩
    have R3 := Bx.mk (R2.out.later hb)
    clear hb R2
    go_wp2_with fail
    refine (HAd.out W3).mono ?_
    rintro e W4 ⟨rfl, hb⟩
    have R4 := Bx.mk (R3.out.later hb)
    clear hb R3
    go_wp2_with fail
    refine (ring_learn_nil n (.pointer none) W4).mono ?_
    rintro e W5 ⟨rfl, hb⟩
    have R5 := Bx.mk (R4.out.later hb)
    clear hb R4
    obtain ⟨k0, k1, k2, k3⟩ := cells4 (R5.out.rows _ (.head _))
    go_wp2_with fail
    clear k0 k1 k2 k3
    refine (HTo.out W5).mono ?_
    rintro e W6 ⟨rfl, hb⟩
    have R6 := Bx.mk (R5.out.later hb)
    clear hb R5
    have R6b := Bx.mk (R6.out.alloc (.cells #[.int .i64 i, .int .i64 r, .int .i64 x, .int .i64 q] 37))
    have hdr := fun (W : World) => ring_drop_nil (.slice (some ⟨W6.heap.size, 0, none⟩) 1 1) W
    go_wp2_with fail
    generalize W6.alloc (.cells #[.int .i64 i, .int .i64 r, .int .i64 x, .int .i64 q] 37) = W6b at *
    refine (hdr W6b).mono ?_
    rintro e W7 ⟨rfl, hb⟩
    have R7 := Bx.mk (R6b.out.later hb)
    clear hb R6 R6b hdr
    go_wp2_with fail
    refine (ring_known_nil W7).mono ?_
    rintro e W8 ⟨rfl, hb⟩
    have R8 := Bx.mk (R7.out.later hb)
    clear hb R7
    go_wp2_with fail
    refine (HOw.out W8).mono ?_
    rintro e W9 ⟨rfl, hb⟩
    have R9 := Bx.mk (R8.out.later hb)
    clear hb R8
    go_wp2_with (refine wpList_buildw (by rfl) 53 _ rfl zc (by simp only [List.map_toArray, List.map_nil]; exact hbz) ?_)
    go_ret
    exact ⟨rfl, R9.out.below⟩
end Go.Proofs.YtdionedinmkeiaaDoor
