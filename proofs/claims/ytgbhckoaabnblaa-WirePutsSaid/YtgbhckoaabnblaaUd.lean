/-
  The walk of the statement on what is put.
-/
import Derived.Test.YtgbhckoaabnblaaUc
import Derived.LaidEqlPtr
namespace Go.Proofs.Ytgbhckoaabnblaa
open Go Go.RowKit
theorem neq_w (a : Addr) (w : World) : (binOp .neq 35 (.pointer (some a)) (.pointer (some a))).run Try.prog w = .ok (.bool false) w := by
  have hs : (Try.prog.info? 29).isSome = true := by kernel_rfl
  obtain ⟨j, hte⟩ := Option.isSome_iff_exists.1 hs
  have h : ∀ d : Nat, (Op.equalIn (d + 1) 35 (.pointer (some a)) (.pointer (some a))).run Try.prog w = .ok true w := fun d => by
    simp [Op.equalIn, run_underlying Try.underlying35, sizeOf, typeInfo, hte, run_sameAddr_same]
  simp only [binOp]
  simp [Op.equal, Op.maxDepth, h 9999]
theorem FldsB.mono {w : World} {B B' : Nat} {v : Value} {fs : List Fd} (h : FldsB w B v fs) (hB : B ≤ B') : FldsB w B' v fs := by
  obtain ⟨a, cap, hv, hc, hr⟩ := h
  refine ⟨a, cap, hv, hc, fun hp => ?_⟩
  obtain ⟨g, o, ha, hlt, hf⟩ := hr hp
  refine ⟨g, o, ha, by omega, fun i hi => ?_⟩
  obtain ⟨vb, h1, h2, h3⟩ := hf i hi
  exact ⟨vb, h1, h2, fun h0 => by obtain ⟨c, e1, e2⟩ := h3 h0; exact ⟨c, e1, by omega⟩⟩
theorem same_same4 (l : List UInt8) (va vb : Value) (w : World) (ha : Bytes w va l) (hb : Bytes w vb l) (hl : l.length ≤ 140737488355328) : Calls Try.prog 15 #[va, vb] w fun e w' => e = .returned (.bool true) ∧ Below w.heap.size w w' :=
  (same_any l l va vb w ha hb hl hl).mono fun _ _ ⟨he, n, hw⟩ => ⟨by rw [he, decide_eq_true rfl], by rw [hw]; exact below_drewN (Below.refl _ _) _⟩
theorem cut_n {fs : List Fd} (h : ∀ f ∈ fs, -9223372036854775808 ≤ f.n ∧ f.n ≤ 9223372036854775807) : ∀ f ∈ (fs.take 12).map cutF, -9223372036854775808 ≤ f.n ∧ f.n ≤ 9223372036854775807 := by
  intro f hf
  obtain ⟨g, hg, rfl⟩ := List.mem_map.1 hf
  exact h g (List.mem_of_mem_take hg)
set_option maxRecDepth 100000 in
set_option maxHeartbeats 8000000 in
theorem wputs_any (fs : List Fd) (v : Value) (w : World) (hv : FldsB w w.heap.size v fs) (hl : fs.length ≤ 9223372036854775807) (hr : ∀ f ∈ fs, f.b.length ≤ 9223372036854775807 ∧ -9223372036854775808 ≤ f.n ∧ f.n ≤ 9223372036854775807) :
    Calls Try.prog 3 #[v] w fun e w' => e = .returned (.bool true) ∧ Below w.heap.size w w' := by
  have HV := Bx.mk hv
  have HTo := Bx.mk (to_any fs v w hv hl (fun f hf => (hr f hf).1))
  have HGn := Bx.mk (cut_n (fun f hf => (hr f hf).2))
  obtain ⟨a0, c0, hv0, -⟩ := id hv
  subst hv0
  generalize fs.length = n0 at *
  obtain ⟨z, hz, hzz⟩ := zero_wr
  have HZ := Bx.mk hzz
  clear hv hl hr hzz
  go_enter Try.func3, Try.ntmps3
  go_wp2_with fail
  refine HTo.out.mono ?_
  rintro e w1 ⟨v1, xs, rfl, hxs, ht1⟩
  have hf1 := ht1.own.flds ht1.byt
  have hgl : (xs.map (·.1)).length ≤ 12 := by rw [hxs, List.length_map, List.length_take]; omega
  rw [hxs] at hf1 hgl
  have H1 : Bx (FldsB w1 w1.heap.size v1 ((fs.take 12).map cutF) ∧ Below w.heap.size w w1) := Bx.mk ⟨hf1, ht1.bel⟩
  clear ht1 hxs HTo HV
  generalize (fs.take 12).map cutF = gs at *
  obtain ⟨ax, cx, hv1, -⟩ := id hf1
  subst hv1
  have HOf := Bx.mk (of_any gs _ w1 hf1 (by omega))
  obtain ⟨m, hm⟩ : ∃ m, gs.length = m := ⟨_, rfl⟩
  rw [hm] at H1 HOf hgl ⊢
  clear hf1
  go_wp2_with fail
  refine HOf.out.mono ?_
  rintro e w2 ⟨v2, rfl, hf2, hb2⟩
  obtain ⟨ay, cy, hv2, -⟩ := id hf2
  rw [hm] at hv2
  subst hv2
  obtain ⟨p5, hp5⟩ : ∃ p, w2.heap.size = p := ⟨_, rfl⟩
  have H2 : Bx (FldsB w2 p5 (.slice ax m cx) gs ∧ FldsB w2 p5 (.slice ay m cy) gs ∧ Below w.heap.size w w2 ∧ w.heap.size ≤ p5) := Bx.mk ⟨by
    have h := (H1.out.1.later hb2).mono hb2.size
    rw [hp5] at h
    exact h, by rw [← hp5]; exact hf2, H1.out.2.trans (hb2.mono H1.out.2.size), by rw [← hp5]; exact Nat.le_trans H1.out.2.size hb2.size⟩
  clear hf2 hb2 H1 HOf hm
  obtain ⟨p6, hp6⟩ : ∃ p, p = p5 + 1 := ⟨_, rfl⟩
  have H3 : Bx (MP w p5 (.slice ax m cx) (.slice ay m cy) gs p5 p6 ([], 0) ([], 0) ((w2.alloc (.cells z 29)).alloc (.cells z 29))) := Bx.mk (by
    have hb : Below w2.heap.size w2 ((w2.alloc (.cells z 29)).alloc (.cells z 29)) := (below_a _).trans ((below_a _).mono (by simp))
    have h5 := new_wr w2 z HZ.out
    have h6 := new_wr (w2.alloc (.cells z 29)) z HZ.out
    have e6 : (w2.alloc (.cells z 29)).heap.size = p6 := by rw [hp6, ← hp5]; simp
    rw [e6] at h6
    rw [hp5] at h5
    exact ⟨H2.out.2.2.1.trans (hb.mono H2.out.2.2.1.size), H2.out.2.2.2, H2.out.1.later (by rw [hp5] at hb; exact hb), H2.out.2.1.later (by rw [hp5] at hb; exact hb), h5.later (below_a _) (by rw [e6, hp6]; omega), h6, Nat.le_refl _, by omega⟩)
  have HP : Bx (w2.heap.size = p5 ∧ w2.heap.size + 1 = p6) := Bx.mk ⟨hp5, by rw [hp5, hp6]⟩
  clear hp5 hp6
  go_wp2
  rw [HP.out.2, HP.out.1]
  generalize (w2.alloc (.cells z 29)).alloc (.cells z 29) = w3 at *
  clear H2 hz HZ HP
  refine loop1 w p5 ax ay m cx cy p5 p6 gs ([], 0) ([], 0) hgl HGn.out _ _ _ ⟨⟨_, ⟨⟨rfl, rfl⟩, rfl, rfl, rfl, rfl, rfl, rfl⟩, rfl, OwnB.nil _ _⟩, H3.out⟩ ?_
  intro a' w4 v7 hF ho4 hm4
  obtain ⟨⟨l, er⟩, hst⟩ : ∃ st, gs.foldl putS ([], 0) = st := ⟨_, rfl⟩
  have HSt := Bx.mk hst
  have HLe : Bx (l.length ≤ 1024) := Bx.mk (by have h := fold_le gs (st := ([], 0)) (by simp); rw [hst] at h; exact h)
  rw [hst] at hF ho4
  simp only at hF ho4
  obtain ⟨a7, c7, hv7, -⟩ := ho4.bytes
  subst hv7
  have H4 : Bx (MP w p5 (.slice ax m cx) (.slice ay m cy) gs p5 p6 ([], 0) ([], 0) w4 ∧ OwnB w4 (p6 + 1) (.slice a7 l.length c7) l) := Bx.mk ⟨hm4, ho4⟩
  have HPut := Bx.mk (put_any gs _ p5 ([], 0) w4 hm4.w5 (hm4.fx.off hm4.b5) HGn.out (by rw [hm4.fx.len]; omega))
  rw [hst] at HPut
  have hp56 := hm4.b6
  obtain ⟨u, hu⟩ : ∃ n, l.length = n := ⟨_, rfl⟩
  have HU := Bx.mk hu
  rw [hu] at hF H4 HLe
  have hul := HLe.out
  have hu1 : (u : Int) ≤ 1024 := by omega
  obtain ⟨x, rfl, hx⟩ := open204 hF.fr
  have e3 := (hx 3).symm.trans hF.s3
  have e4 := (hx 4).symm.trans hF.s4
  have e5 := (hx 5).symm.trans hF.s5
  have e6 := (hx 6).symm.trans hF.s6
  have e7 := (hx 7).symm.trans hF.s7
  have e8 := (hx 8).symm.trans hF.s8
  clear hF hx hm4 ho4 hst hu H3
  rw [e3, e4, e5, e6, e7, e8]
  clear e3 e4 e5 e6 e7 e8
  have np := fun W => neq_w ⟨p5, 0, none⟩ W
  go_wp2_with fail
  refine HPut.out.mono ?_
  rintro e w5 ⟨rfl, hw5, hg5⟩
  have H5 : Bx (MP w p5 (.slice ax m cx) (.slice ay m cy) gs p5 p6 (l, er) ([], 0) w5 ∧ OwnB w5 (p6 + 1) (.slice a7 u c7) l) := Bx.mk ⟨H4.out.1.put5 hg5 hw5, H4.out.2.off hg5 (by omega)⟩
  clear hw5 hg5 H4 HPut
  by_cases he : er = 0
  · subst he
    have HFo := Bx.mk (fold_ok gs [] l HSt.out)
    go_wp2_with fail
    refine (wout_ok p5 l w5 H5.out.1.w5).mono ?_
    rintro e w6 ⟨v10, rfl, ho6, hb6⟩
    obtain ⟨a10, c10, hv10, -⟩ := ho6.bytes
    rw [HU.out] at hv10
    subst hv10
    have H6 : Bx (MP w p5 (.slice ax m cx) (.slice ay m cy) gs p5 p6 (l, 0) ([], 0) w6 ∧ OwnB w6 (p6 + 1) (.slice a7 u c7) l ∧ OwnB w6 (p6 + 1) (.slice a10 u c10) l) := Bx.mk ⟨H5.out.1.later hb6, H5.out.2.later hb6 (fun g hg => (H5.out.2.lt g hg).1), ho6.weak H5.out.1.w6.lt⟩
    clear ho6 hb6 H5
    go_wp2
    refine loop2 w p5 ax ay m cx cy p5 p6 gs (.slice a7 u c7) 0 (.slice a10 u c10) l l (l, 0) hgl HGn.out _ _ _ ⟨⟨⟨rfl, rfl⟩, rfl, rfl, rfl, rfl, rfl, rfl, rfl, rfl⟩, rfl, H6.out.2.1, H6.out.2.2, H6.out.1⟩ ?_
    intro a2 w7 hG o7 o10 mp7
    rw [HSt.out] at mp7
    have H7 := Bx.mk (And.intro mp7 (And.intro o7 o10))
    clear H6 o7 o10 mp7
    obtain ⟨x2, rfl, hx2⟩ := open204 hG.fr
    have e3 := (hx2 3).symm.trans hG.s3
    have e4 := (hx2 4).symm.trans hG.s4
    have e5 := (hx2 5).symm.trans hG.s5
    have e6 := (hx2 6).symm.trans hG.s6
    have e7 := (hx2 7).symm.trans hG.s7
    have e8 := (hx2 8).symm.trans hG.s8
    have e10 := (hx2 10).symm.trans hG.s10
    have e11 := (hx2 11).symm.trans hG.s11
    clear hG hx2
    rw [e3, e4, e5, e6, e7, e8, e10, e11]
    clear e3 e4 e5 e6 e7 e8 e10 e11
    go_wp2_with fail
    refine (wout_ok p6 l w7 H7.out.1.w6).mono ?_
    rintro e w8 ⟨v13, rfl, ho8, hb8⟩
    obtain ⟨a13, c13, hv13, -⟩ := ho8.bytes
    rw [HU.out] at hv13
    subst hv13
    have H8 : Bx (MP w p5 (.slice ax m cx) (.slice ay m cy) gs p5 p6 (l, 0) (l, 0) w8 ∧ OwnB w8 (p6 + 1) (.slice a7 u c7) l ∧ OwnB w8 (p6 + 1) (.slice a10 u c10) l ∧ Bytes w8 (.slice a13 u c13) l) := Bx.mk ⟨H7.out.1.later hb8, H7.out.2.1.later hb8 (fun g hg => (H7.out.2.1.lt g hg).1), H7.out.2.2.later hb8 (fun g hg => (H7.out.2.2.lt g hg).1), ho8.bytes⟩
    clear ho8 hb8 H7
    go_wp2_with fail
    refine (same_same4 l _ _ w8 H8.out.2.2.1.bytes H8.out.2.2.2 (by rw [HU.out]; omega)).mono ?_
    rintro e w9 ⟨rfl, hb9⟩
    have H9 : Bx (MP w p5 (.slice ax m cx) (.slice ay m cy) gs p5 p6 (l, 0) (l, 0) w9 ∧ OwnB w9 (p6 + 1) (.slice a7 u c7) l ∧ OwnB w9 (p6 + 1) (.slice a10 u c10) l) := Bx.mk ⟨H8.out.1.later hb9, H8.out.2.1.later hb9 (fun g hg => (H8.out.2.1.lt g hg).1), H8.out.2.2.1.later hb9 (fun g hg => (H8.out.2.2.1.lt g hg).1)⟩
    clear hb9 H8
    go_wp2_with fail
    refine (new_ok l _ w9 H9.out.2.2.bytes (by rw [HU.out]; exact HLe.out)).mono ?_
    rintro e w10 ⟨rfl, hr10, hb10⟩
    obtain ⟨q, hq⟩ : ∃ q, w9.heap.size = q := ⟨_, rfl⟩
    have hel : l = encs gs := by have h := HFo.out.1; simpa using h
    have H10 : Bx (MR w p5 q (.slice ax m cx) (.slice a7 u c7) (.slice a10 u c10) gs l l (encs (gs.drop 0)) w10) := Bx.mk (by
      have hm := H9.out.1
      refine ⟨hm.bel.trans (hb10.mono hm.bel.size), hm.leB, hm.fx.later (hb10.mono hm.ltB), ?_, ?_, ⟨H9.out.2.1.bytes.later hb10, fun _ e => ?_⟩, ⟨H9.out.2.2.bytes.later hb10, fun _ e => ?_⟩⟩
      · rw [hq, hel] at hr10
        exact hr10
      · rw [← hq]; exact hm.ltB
      · have := (H9.out.2.1.lt q e).1
        omega
      · have := (H9.out.2.2.lt q e).1
        omega)
    rw [hq]
    clear hr10 hb10 H9 hq
    go_wp2
    refine loop3 w p5 ax m cx q (.slice a7 u c7) (.slice a10 u c10) gs l l hgl HFo.out.2 (by rw [← hel, HU.out]; exact HLe.out) _ _ _ ⟨⟨⟨rfl, rfl⟩, rfl, rfl, rfl, rfl⟩, rfl, H10.out⟩ ?_
    intro a3 w11 hH mr11
    have H11 := Bx.mk mr11
    clear H10 mr11 hel
    obtain ⟨x3, rfl, hx3⟩ := open204 hH.fr
    have e3 := (hx3 3).symm.trans hH.s3
    have e7 := (hx3 7).symm.trans hH.s7
    have e10 := (hx3 10).symm.trans hH.s10
    have e15 := (hx3 15).symm.trans hH.s15
    clear hH hx3
    rw [e3, e7, e10, e15]
    clear e3 e7 e10 e15
    go_wp2_with fail
    refine (known4_any w11).mono ?_
    rintro e w12 ⟨rfl, hb12⟩
    have H12 := Bx.mk (H11.out.later hb12)
    clear hb12 H11
    go_wp2_with fail
    refine (same_same4 l _ _ w12 H12.out.o10.1 H12.out.o7.1 (by rw [HU.out]; omega)).mono ?_
    rintro e w13 ⟨rfl, hb13⟩
    have H13 := Bx.mk (H12.out.later hb13)
    clear hb13 H12
    go_wp2_with fail
    refine (end_done q w13 H13.out.rd).mono ?_
    rintro e w14 ⟨rfl, rfl⟩
    go_wp2_with fail
    refine (left_any q [] 0 _ H13.out.rd).mono ?_
    rintro e w14 ⟨rfl, rfl⟩
    rw [List.length_nil]
    go_wp2
    go_ret
    exact ⟨rfl, H13.out.bel⟩
  · go_wp2_with fail
    refine (wout_bad p5 l er w5 H5.out.1.w5 he).mono ?_
    rintro e w6 ⟨rfl, hb6⟩
    have H6 : Bx (MP w p5 (.slice ax m cx) (.slice ay m cy) gs p5 p6 (l, er) ([], 0) w6 ∧ OwnB w6 (p6 + 1) (.slice a7 u c7) l ∧ OwnB w6 (p6 + 1) (.slice none 0 0) []) := Bx.mk ⟨H5.out.1.later hb6, H5.out.2.later hb6 (fun g hg => (H5.out.2.lt g hg).1), OwnB.nil _ _⟩
    clear hb6 H5
    go_wp2
    refine loop2 w p5 ax ay m cx cy p5 p6 gs (.slice a7 u c7) er (.slice none 0 0) l [] (l, er) hgl HGn.out _ _ _ ⟨⟨⟨rfl, rfl⟩, rfl, rfl, rfl, rfl, rfl, rfl, rfl, rfl⟩, rfl, H6.out.2.1, H6.out.2.2, H6.out.1⟩ ?_
    intro a2 w7 hG o7 o10 mp7
    rw [HSt.out] at mp7
    have H7 := Bx.mk mp7
    clear H6 o7 o10 mp7
    obtain ⟨x2, rfl, hx2⟩ := open204 hG.fr
    have e3 := (hx2 3).symm.trans hG.s3
    have e4 := (hx2 4).symm.trans hG.s4
    have e5 := (hx2 5).symm.trans hG.s5
    have e6 := (hx2 6).symm.trans hG.s6
    have e7 := (hx2 7).symm.trans hG.s7
    have e8 := (hx2 8).symm.trans hG.s8
    have e10 := (hx2 10).symm.trans hG.s10
    have e11 := (hx2 11).symm.trans hG.s11
    clear hG hx2
    rw [e3, e4, e5, e6, e7, e8, e10, e11]
    clear e3 e4 e5 e6 e7 e8 e10 e11
    go_wp2_with fail
    refine (wout_bad p6 l er w7 H7.out.w6 he).mono ?_
    rintro e w8 ⟨rfl, hb8⟩
    have H8 := Bx.mk (H7.out.later hb8)
    clear hb8 H7
    go_wp2_with fail
    refine (same_same4 [] _ _ w8 (Bytes.nil _) (Bytes.nil _) (by simp)).mono ?_
    rintro e w9 ⟨rfl, hb9⟩
    have H9 := Bx.mk (H8.out.later hb9)
    clear hb9 H8
    go_wp2_with fail
    refine (known4_any w9).mono ?_
    rintro e w10 ⟨rfl, hb10⟩
    have H10 := Bx.mk (H9.out.later hb10)
    clear hb10 H9
    go_wp2
    go_ret
    exact ⟨rfl, H10.out.bel⟩
end Go.Proofs.Ytgbhckoaabnblaa
