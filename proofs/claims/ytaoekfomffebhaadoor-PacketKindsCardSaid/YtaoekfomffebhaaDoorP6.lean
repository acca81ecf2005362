/-
  A field's bytes; five rows of bytes, one behind the other.
-/
import Derived.Test.YtaoekfomffebhaaDoorIm
import Derived.Test.YtaoekfomffebhaaDoorIp
import Derived.Test.YtaoekfomffebhaaDoorW25
import Derived.Test.YtaoekfomffebhaaDoorCe
import Derived.LoopN
import Derived.Lib.AppendZeros
namespace Go.Proofs.YtaoekfomffebhaaDoor
open Go Go.ChangeShapes Go.WideShapes Go.ChangeAt Go.RowKit
theorem row_rngP {W : World} {g : Nat} {l : List Value} {t : TypeId} (h : W.heap[g]? = some (.cells l.toArray t (0, 0))) : W.rangeAt g 0 l := by
  intro j v hj
  rw [cell_of_row _ _ _ _ _ _ h, List.getElem?_toArray, Nat.zero_add]
  exact hj
theorem put_one14 (f : Fd) (hc : chk f = 0) : [f].foldl putS ([], 0) = (enc f, 0) := by
  have hl := wid_len f hc
  have h0 : rfs ([], 0) f = 0 := by
    unfold rfs
    rw [if_neg (by simp), if_neg (by simp [hc]), if_neg (by simp; omega)]
  show putS ([], 0) f = _
  rw [putS_rfs, if_pos h0, List.nil_append]
theorem num_in14 (f : Fd) (hc : chk f = 0) : -9223372036854775808 ≤ f.n ∧ f.n ≤ 9223372036854775807 := by
  rcases chk_ok hc with ⟨-, h, -⟩ | ⟨-, -, -, h1, h2⟩
  · omega
  · have := most_le f.s; omega
set_option maxRecDepth 100000 in
set_option maxHeartbeats 4000000 in
theorem field14 (f : Fd) (vb : Value) (w : World) (hb : Bytes w vb f.b) (hc : chk f = 0) : Calls Tryd.prog 48 #[.agg #[.int .i64 f.s, .int .i64 f.n, vb]] w fun e w' => ∃ v, e = .returned v ∧ OwnB w' w.heap.size v (enc f) ∧ Below w.heap.size w w' := by
  obtain ⟨a0, c0, rfl, -, -⟩ := bytes_form hb
  have HP := Bx.mk (put_one14 f hc)
  have HN := Bx.mk (num_in14 f hc)
  obtain ⟨z, hz, hzz⟩ := zero_wr
  obtain ⟨B, hB⟩ : ∃ B, w.heap.size = B := ⟨_, rfl⟩
  obtain ⟨W1, hW1⟩ : ∃ W1, w.alloc (.cells #[.int .i64 f.s, .int .i64 f.n, .slice a0 f.b.length c0] 96) = W1 := ⟨_, rfl⟩
  have HW1 := Bx.mk hW1
  have HB1 : Bx (Below B w W1 ∧ W1.heap.size = B + 1 ∧ Bytes W1 (.slice a0 f.b.length c0) f.b ∧ W1.heap[B]? = some (.cells #[.int .i64 f.s, .int .i64 f.n, .slice a0 f.b.length c0] 96 (0, 0))) := Bx.mk ⟨by rw [← hW1, ← hB]; exact below_a _, by rw [← hW1, ← hB]; simp, by rw [← hW1]; exact hb.later (below_a _), by rw [← hW1]; exact hnew _ _ _ hB.symm⟩
  obtain ⟨W2, hW2⟩ : ∃ W2, W1.alloc (.cells z 118) = W2 := ⟨_, rfl⟩
  have HB2 : Bx (IsW W2 (B + 1) ([], 0) ∧ Below B w W2 ∧ W2.heap.size = B + 2 ∧ BytesN W2 (B + 1) (.slice a0 f.b.length c0) f.b ∧ W2.heap[B]? = some (.cells #[.int .i64 f.s, .int .i64 f.n, .slice a0 f.b.length c0] 96 (0, 0))) := Bx.mk (by
    rw [← hW2]
    obtain ⟨h1, h2, h3, h4⟩ := HB1.out
    have hn := h3.nowhere
    rw [h2] at hn
    exact ⟨by rw [← h2]; exact new_wr W1 z hzz, h1.trans ((below_a _).mono (by omega)), by simp [h2], hn.grown (kb_below _ (below_a _)), by rw [hold _ _ _ (by omega)]; exact h4⟩)
  have H3 := Bx.mk (one_fld W2 (B + 1) f _ HB2.out.2.2.2.1 (by have := HB2.out.2.2.1; omega))
  rw [HB2.out.2.2.1] at H3
  obtain ⟨W3, hW3⟩ : ∃ W3, W2.alloc (.cells #[.int .i64 f.s, .int .i64 f.n, .slice a0 f.b.length c0] 96) = W3 := ⟨_, rfl⟩
  rw [hW3] at H3
  have HB3 : Bx (IsW W3 (B + 1) ([], 0) ∧ Below B w W3) := Bx.mk (by
    rw [← hW3]
    exact ⟨HB2.out.1.later (below_a _) HB2.out.1.lt, HB2.out.2.1.trans ((below_a _).mono (by have := HB2.out.2.2.1; omega))⟩)
  have HS := Bx.mk (And.intro HB1.out.2.1 HB2.out.2.2.1)
  have HF := Bx.mk HB2.out.2.2.2.2
  have hs1 := HS.out.1
  have hs2 := HS.out.2
  have hf2 : W2.rangeAt B 0 [.int .i64 f.s, .int .i64 f.n, .slice a0 f.b.length c0] := row_rngP HF.out
  have HF2 := Bx.mk hf2
  clear hb HW1 HB1 HB2 HF HS hf2 hc hzz
  rw [hB]
  go_enter Tryd.func48, Tryd.ntmps48
  go_upto_region 2 with (fail)
  try rw [hW1]
  try rw [hW2]
  clear hW1 hW2
  go_wp2_with (refine wpList_load_mid rfl 96 _ rfl B 0 (by rfl) _ _ HF2.out Tryd.underlying96 rfl (by kernel_rfl) ?_)
  try rw [hW3]
  clear hW3
  refine (put_any [f] _ (B + 1) _ W3 HB3.out.1 H3.out (fun g hg => by simp at hg; subst hg; exact HN.out) (by simp)).mono ?_
  rintro e w4 ⟨rfl, hw4, hg4⟩
  rw [HP.out] at hw4
  have H4 : Bx (IsW w4 (B + 1) (enc f, 0) ∧ Below B w w4) := Bx.mk ⟨hw4, HB3.out.2.trans (grown_below hg4 (by omega) (by have := HB3.out.1.lt; omega))⟩
  clear hw4 hg4 HB3 H3
  go_wp2_with fail
  refine (wout_ok (B + 1) (enc f) w4 H4.out.1).mono ?_
  rintro e w5 ⟨v5, rfl, ho5, hb5⟩
  have H5 := Bx.mk (And.intro (ho5.weak (by have := H4.out.1.lt; omega : B ≤ w4.heap.size)) (H4.out.2.trans (hb5.mono (by have := H4.out.1.lt; omega))))
  clear ho5 hb5 H4
  skip -- M1
  go_wp2
  go_ret
  exact ⟨_, rfl, H5.out.1, H5.out.2⟩
set_option maxRecDepth 100000 in
set_option maxHeartbeats 4000000 in
theorem run_zeros14 (w : World) (n : Nat) (h0 : 0 < n) (hn : n ≤ 10000) (ty : TypeId) : ∃ cap w', (Builtin.append_ #[26, 3] ty #[.slice none 0 0, .int .i64 (n : Int)]).run Tryd.prog w = .ok (.slice (some ⟨w.heap.size, 0, none⟩) n cap) w' ∧ OwnB w' w.heap.size (.slice (some ⟨w.heap.size, 0, none⟩) 0 cap) [] ∧ n ≤ cap ∧ Below w.heap.size w w' := by
  have hi : Tryd.prog.info? 5 = some ((Tryd.prog.info? 5).getD default) := by kernel_rfl
  have hz : ((Tryd.prog.info? 5).getD default).zero = some (.int .u8 0) := by kernel_rfl
  have hsz : ((Tryd.prog.info? 5).getD default).size = 1 := by kernel_rfl
  have hby : ((Tryd.prog.info? 5).getD default).bytes = 1 := by kernel_rfl
  generalize (Tryd.prog.info? 5).getD default = inf at hi hz hsz hby
  have hrun := Lib.run_append_nil_zeros (P := Tryd.prog) w 26 3 ty 5 inf _ .i64 .i64 Tryd.underlying26 Tryd.underlying3 hi hz n h0 (by omega) (by omega) (by rw [hby]; omega)
  have hge := grownCap_ge w n 0 5
  refine ⟨_, _, hrun, ⟨rfl, .inr ⟨w.heap.size, grownCap w n 0 5, _, rfl, Nat.le_refl _, hnew w.drew _ _ rfl, Nat.zero_le _, grownCap_le_maxLen _ _ _ _ (by simp only [maxLen]; omega), ?_, ?_⟩⟩, hge, (Below.refl _ _).drew.trans ((Below.refl _ _).alloc (by simp) _)⟩
  · rw [Array.size_append, size_zeroCells, size_zeroCells, ← Nat.add_mul, Nat.add_sub_cancel' hge]
    rfl
  · simp [u8s]
set_option maxRecDepth 100000 in
set_option maxHeartbeats 4000000 in
theorem grow14 (n : Nat) (w : World) (hn : n ≤ 10000) : Calls Tryd.prog 67 #[.slice none 0 0, .int .i64 (n : Int)] w fun e w' => ∃ v, e = .returned v ∧ OwnB w' w.heap.size v [] ∧ Below w.heap.size w w' := by
  have hn1 : (n : Int) ≤ 10000 := by omega
  have hc0 := fun W => cut_bytes none 0 0 0 (Nat.le_refl _) (Nat.le_refl _) (fun _ => rfl) W
  by_cases h0 : n = 0
  · subst h0
    go_enter Tryd.func67, Tryd.ntmps67
    go_wp2
    go_ret
    exact ⟨_, rfl, OwnB.nil _ _, Below.refl _ _⟩
  · obtain ⟨cap, w1, hrun, ho, hcp, hb⟩ := run_zeros14 w n (by omega) hn 26
    have h1 : (0 : Int) < (n : Int) := by omega
    have HO := Bx.mk ho
    have HB := Bx.mk hb
    have HRn := Bx.mk hrun
    have hcut := fun W => cut_bytes (some ⟨w.heap.size, 0, none⟩) n cap 0 (Nat.zero_le _) hcp (fun h => by cases h) W
    clear ho hb hrun hn h0
    go_enter Tryd.func67, Tryd.ntmps67
    go_wp2_with (at_builtin; refine Lib.wpList_append_run _ rfl _ _ 26 3 rfl (.slice none 0 0) (.int .i64 (n : Int)) (by rfl) (by rfl) _ _ HRn.out ?_)
    go_ret
    exact ⟨_, rfl, HO.out, HB.out⟩
set_option maxRecDepth 100000 in
set_option maxHeartbeats 4000000 in
theorem concat14 (G : Nat) (la lb lc ld le : List UInt8) (va vb vc vd ve : Value) (w : World) (hG : w.heap[G]? = some (.cells #[va, vb, vc, vd, ve] 26 (0, 0))) (ha : Bytes w va la) (hb : Bytes w vb lb) (hc : Bytes w vc lc) (hd : Bytes w vd ld) (he : Bytes w ve le) (na : la.length ≤ 1000) (nb : lb.length ≤ 1000) (nc : lc.length ≤ 1000) (nd : ld.length ≤ 1000) (ne : le.length ≤ 1000) :
    Calls Tryd.prog 47 #[.slice (some ⟨G, 0, none⟩) 5 5] w fun e w' => ∃ v, e = .returned v ∧ OwnB w' w.heap.size v (la ++ lb ++ lc ++ ld ++ le) ∧ Below w.heap.size w w' := by
  obtain ⟨pa, ca, rfl, -, -⟩ := bytes_form ha
  obtain ⟨pb, cb, rfl, -, -⟩ := bytes_form hb
  obtain ⟨pc, cc, rfl, -, -⟩ := bytes_form hc
  obtain ⟨pd, cd, rfl, -, -⟩ := bytes_form hd
  obtain ⟨pe, ce, rfl, -, -⟩ := bytes_form he
  have HX := Bx.mk (And.intro ha (And.intro hb (And.intro hc (And.intro hd he))))
  have HGw := Bx.mk hG
  have HGl := Bx.mk (Array.getElem?_eq_some_iff.1 hG).1
  have k0 : w.cell? ⟨G, 0, none⟩ = some (.slice pa la.length ca) := by rw [cell_of_row _ _ _ _ _ _ hG]; rfl
  have k1 : w.cell? ⟨G, 1, none⟩ = some (.slice pb lb.length cb) := by rw [cell_of_row _ _ _ _ _ _ hG]; rfl
  have k2 : w.cell? ⟨G, 2, none⟩ = some (.slice pc lc.length cc) := by rw [cell_of_row _ _ _ _ _ _ hG]; rfl
  have k3 : w.cell? ⟨G, 3, none⟩ = some (.slice pd ld.length cd) := by rw [cell_of_row _ _ _ _ _ _ hG]; rfl
  have k4 : w.cell? ⟨G, 4, none⟩ = some (.slice pe le.length ce) := by rw [cell_of_row _ _ _ _ _ _ hG]; rfl
  have na1 : (la.length : Int) ≤ 1000 := by omega
  have nb1 : (lb.length : Int) ≤ 1000 := by omega
  have nc1 : (lc.length : Int) ≤ 1000 := by omega
  have nd1 : (ld.length : Int) ≤ 1000 := by omega
  have ne1 : (le.length : Int) ≤ 1000 := by omega
  have HL := Bx.mk (And.intro na (And.intro nb (And.intro nc (And.intro nd ne))))
  have HGr := Bx.mk (grow14 (la.length + lb.length + lc.length + ld.length + le.length) w (by omega))
  obtain ⟨za, hza⟩ : ∃ n, la.length = n := ⟨_, rfl⟩
  obtain ⟨zb, hzb⟩ : ∃ n, lb.length = n := ⟨_, rfl⟩
  obtain ⟨zc, hzc⟩ : ∃ n, lc.length = n := ⟨_, rfl⟩
  obtain ⟨zd, hzd⟩ : ∃ n, ld.length = n := ⟨_, rfl⟩
  obtain ⟨ze, hze⟩ : ∃ n, le.length = n := ⟨_, rfl⟩
  have HN := Bx.mk (And.intro hza (And.intro hzb (And.intro hzc (And.intro hzd hze))))
  rw [hza, hzb, hzc, hzd, hze] at HL HGr HX HGw
  rw [hza] at na1 k0
  rw [hzb] at nb1 k1
  rw [hzc] at nc1 k2
  rw [hzd] at nd1 k3
  rw [hze] at ne1 k4
  have ya : (0 : Int) ≤ (za : Int) := by omega
  have yb : (0 : Int) ≤ (zb : Int) := by omega
  have yc : (0 : Int) ≤ (zc : Int) := by omega
  have yd : (0 : Int) ≤ (zd : Int) := by omega
  have ye : (0 : Int) ≤ (ze : Int) := by omega
  obtain ⟨E, hE⟩ : ∃ E, w.heap.size = E := ⟨_, rfl⟩
  rw [hE] at HGr HGl ⊢
  have HE := Bx.mk hE
  clear hG ha hb hc hd he na nb nc nd ne hza hzb hzc hzd hze hE
  go_enter Tryd.func47, Tryd.ntmps47
  go_wp2
  refine wp_loop_rounds 6 ?_
  rw [rounds_succ]
  go_wp2
  rw [rounds_succ]
  go_wp2
  rw [rounds_succ]
  go_wp2
  rw [rounds_succ]
  go_wp2
  rw [rounds_succ]
  go_wp2
  rw [rounds_succ]
  go_wp2_with fail
  clear k0 k1 k2 k3 k4 na1 ya nb1 yb nc1 yc nd1 yd ne1 ye
  have e0 : ((za + zb + zc + zd + ze : Nat) : Int) = (za : Int) + (zb : Int) + (zc : Int) + (zd : Int) + (ze : Int) := by omega
  rw [e0] at HGr
  clear e0
  refine HGr.out.mono ?_
  rintro e w1 ⟨v, rfl, ho, hb⟩
  obtain ⟨q0, f0, rfl⟩ := own_form ho
  have HO0 := Bx.mk ho
  have HB0 := Bx.mk hb
  have HA0 : Bx (([] : List UInt8).length ≤ 0) := ⟨Nat.le_refl _⟩
  clear ho hb HGr
  go_wp2
  refine wp_loop_rounds 6 ?_
  rw [rounds_succ]
  have k0 : w1.cell? ⟨G, 0, none⟩ = some (.slice pa za ca) := by rw [cell_of_row _ _ _ _ _ _ (by rw [HB0.out.block G HGl.out]; exact HGw.out)]; rfl
  go_wp2_with (refine wpList_ap rfl _ _ rfl E _ ([] : List UInt8) (by rfl) HO0.out _ la (by rfl) (HX.out.1.old HE.out HB0.out) (by have := HA0.out; have := HL.out; have := HN.out; omega) (by have := HB0.out.size; rw [HE.out] at this; exact this) ?_; intro u0 w2 ho hg _; have HB1 : Bx (Below E w w2) := ⟨HB0.out.trans (own_below HO0.out hg (by have := HB0.out.size; rw [HE.out] at this; exact this))⟩; obtain ⟨r1, hr⟩ : ∃ r, ([] : List UInt8) ++ la = r := ⟨_, rfl⟩; rw [hr] at ho; have HA1 : Bx (r1.length ≤ 1000) := ⟨by rw [← hr, List.length_append]; have := HA0.out; have := HL.out; have := HN.out; omega⟩; have HR1 := Bx.mk hr; obtain ⟨q1, f1, hv⟩ := own_form ho; subst hv; have HO1 := Bx.mk ho; clear ho hg hr k0 HO0 HB0 HA0)
  rw [rounds_succ]
  have k1 : w2.cell? ⟨G, 1, none⟩ = some (.slice pb zb cb) := by rw [cell_of_row _ _ _ _ _ _ (by rw [HB1.out.block G HGl.out]; exact HGw.out)]; rfl
  go_wp2_with (refine wpList_ap rfl _ _ rfl E _ r1 (by rfl) HO1.out _ lb (by rfl) (HX.out.2.1.old HE.out HB1.out) (by have := HA1.out; have := HL.out; have := HN.out; omega) (by have := HB1.out.size; rw [HE.out] at this; exact this) ?_; intro u1 w3 ho hg _; have HB2 : Bx (Below E w w3) := ⟨HB1.out.trans (own_below HO1.out hg (by have := HB1.out.size; rw [HE.out] at this; exact this))⟩; obtain ⟨r2, hr⟩ : ∃ r, r1 ++ lb = r := ⟨_, rfl⟩; rw [hr] at ho; have HA2 : Bx (r2.length ≤ 2000) := ⟨by rw [← hr, List.length_append]; have := HA1.out; have := HL.out; have := HN.out; omega⟩; have HR2 := Bx.mk hr; obtain ⟨q2, f2, hv⟩ := own_form ho; subst hv; have HO2 := Bx.mk ho; clear ho hg hr k1 HO1 HB1 HA1)
  rw [rounds_succ]
  have k2 : w3.cell? ⟨G, 2, none⟩ = some (.slice pc zc cc) := by rw [cell_of_row _ _ _ _ _ _ (by rw [HB2.out.block G HGl.out]; exact HGw.out)]; rfl
  go_wp2_with (refine wpList_ap rfl _ _ rfl E _ r2 (by rfl) HO2.out _ lc (by rfl) (HX.out.2.2.1.old HE.out HB2.out) (by have := HA2.out; have := HL.out; have := HN.out; omega) (by have := HB2.out.size; rw [HE.out] at this; exact this) ?_; intro u2 w4 ho hg _; have HB3 : Bx (Below E w w4) := ⟨HB2.out.trans (own_below HO2.out hg (by have := HB2.out.size; rw [HE.out] at this; exact this))⟩; obtain ⟨r3, hr⟩ : ∃ r, r2 ++ lc = r := ⟨_, rfl⟩; rw [hr] at ho; have HA3 : Bx (r3.length ≤ 3000) := ⟨by rw [← hr, List.length_append]; have := HA2.out; have := HL.out; have := HN.out; omega⟩; have HR3 := Bx.mk hr; obtain ⟨q3, f3, hv⟩ := own_form ho; subst hv; have HO3 := Bx.mk ho; clear ho hg hr k2 HO2 HB2 HA2)
  rw [rounds_succ]
  have k3 : w4.cell? ⟨G, 3, none⟩ = some (.slice pd zd cd) := by rw [cell_of_row _ _ _ _ _ _ (by rw [HB3.out.block G HGl.out]; exact HGw.out)]; rfl
  go_wp2_with (refine wpList_ap rfl _ _ rfl E _ r3 (by rfl) HO3.out _ ld (by rfl) (HX.out.2.2.2.1.old HE.out HB3.out) (by have := HA3.out; have := HL.out; have := HN.out; omega) (by have := HB3.out.size; rw [HE.out] at this; exact this) ?_; intro u3 w5 ho hg _; have HB4 : Bx (Below E w w5) := ⟨HB3.out.trans (own_below HO3.out hg (by have := HB3.out.size; rw [HE.out] at this; exact this))⟩; obtain ⟨r4, hr⟩ : ∃ r, r3 ++ ld = r := ⟨_, rfl⟩; rw [hr] at ho; have HA4 : Bx (r4.length ≤ 4000) := ⟨by rw [← hr, List.length_append]; have := HA3.out; have := HL.out; have := HN.out; omega⟩; have HR4 := Bx.mk hr; obtain ⟨q4, f4, hv⟩ := own_form ho; subst hv; have HO4 := Bx.mk ho; clear ho hg hr k3 HO3 HB3 HA3)
  rw [rounds_succ]
  have k4 : w5.cell? ⟨G, 4, none⟩ = some (.slice pe ze ce) := by rw [cell_of_row _ _ _ _ _ _ (by rw [HB4.out.block G HGl.out]; exact HGw.out)]; rfl
  go_wp2_with (refine wpList_ap rfl _ _ rfl E _ r4 (by rfl) HO4.out _ le (by rfl) (HX.out.2.2.2.2.old HE.out HB4.out) (by have := HA4.out; have := HL.out; have := HN.out; omega) (by have := HB4.out.size; rw [HE.out] at this; exact this) ?_; intro u4 w6 ho hg _; have HB5 : Bx (Below E w w6) := ⟨HB4.out.trans (own_below HO4.out hg (by have := HB4.out.size; rw [HE.out] at this; exact this))⟩; obtain ⟨r5, hr⟩ : ∃ r, r4 ++ le = r := ⟨_, rfl⟩; rw [hr] at ho; have HA5 : Bx (r5.length ≤ 5000) := ⟨by rw [← hr, List.length_append]; have := HA4.out; have := HL.out; have := HN.out; omega⟩; have HR5 := Bx.mk hr; obtain ⟨q5, f5, hv⟩ := own_form ho; subst hv; have HO5 := Bx.mk ho; clear ho hg hr k4 HO4 HB4 HA4)
  rw [rounds_succ]
  go_wp2
  go_ret
  refine ⟨_, rfl, ?_, HB5.out⟩
  have e4 : r5 = la ++ lb ++ lc ++ ld ++ le := by rw [← HR5.out, ← HR4.out, ← HR3.out, ← HR2.out, ← HR1.out, List.nil_append]
  rw [← e4]
  exact HO5.out
end Go.Proofs.YtaoekfomffebhaaDoor
namespace Go.Proofs.YtaoekfomffebhaaDoor
open Go Go.ChangeShapes Go.WideShapes Go.ChangeAt Go.RowKit
theorem yieldsIf_buildP {P : Program} {ops : Array Oper} {S : World → Prop} {o : Oper} {a : Act} (hw : Region.wanted o (yielded ops a.tmps) = true) (t : TypeId) (parts : Array (Nat × Operand)) (ho : o.op = .build t parts) (cells : Array Value)
    (hf : P.built t (parts.map fun (i, x) => (i, a.eval x)).toList = some cells) : YieldsIf P ops S o (.agg cells) a :=
  .inl ⟨hw, fun w _ => by
    unfold execOp
    simp only [ho, Sem.run_bind, run_build w t _ cells hf, Result.andThen_ok]
    rfl⟩
/-- What is tagged. -/
def hdB (x : Pk) : List UInt8 := beN 1 x.k.toNat ++ clB x.c ++ beN 2 x.to.toNat ++ nB x.n ++ (beN 2 x.b.length ++ x.b)
theorem hdB_length (x : Pk) : (hdB x).length = 20 + x.b.length := by simp [hdB, beN_length, clB_length, nB_length]; omega
/-- Its bytes. -/
def pkB (x : Pk) : List UInt8 := hdB x ++ x.t
theorem chkP_ok {x : Pk} (h : chkP x = 0) : kindB x.k = true ∧ okC x.c = true ∧ placeB x.to = true ∧ okN x.n = true ∧ x.b.length ≤ 512 ∧ (plainB x.k = true → x.t = z32P) := by
  unfold chkP at h
  split at h
  · omega
  · rename_i h1
    split at h
    · omega
    · rename_i h2
      split at h
      · omega
      · rename_i h3
        split at h
        · omega
        · rename_i h4
          split at h
          · omega
          · rename_i h5
            split at h
            · omega
            · rename_i h6
              refine ⟨by simpa using h1, by simpa using h2, by simpa using h3, by simpa using h4, by omega, fun hp => ?_⟩
              exact Classical.byContradiction fun hc => h6 ⟨hp, hc⟩
theorem kindB_iff (k : Int) : kindB k = true ↔ 1 ≤ k ∧ k ≤ 14 := by unfold kindB; simp
theorem placeB_iff (k : Int) : placeB k = true ↔ 0 ≤ k ∧ k ≤ 65535 := by unfold placeB; simp
set_option maxRecDepth 100000 in
set_option maxHeartbeats 4000000 in
theorem head14_ok (x : Pk) (v : Value) (w : World) (ht : x.t.length = 32) (hb : Bytes w v x.b) (hc : chkP x = 0) : Calls Tryd.prog 28 #[pkV x v] w fun e w' => ∃ u, e = .returned (.tuple #[u, .int .i64 0]) ∧ OwnB w' w.heap.size u (hdB x) ∧ Below w.heap.size w w' := by
  obtain ⟨a0, c0, rfl, -, -⟩ := bytes_form hb
  obtain ⟨B, hB⟩ : ∃ B, w.heap.size = B := ⟨_, rfl⟩
  have HCk : Bx (∀ W, Below B w W → Calls Tryd.prog 42 #[pkV x (.slice a0 x.b.length c0)] W fun e w' => e = .returned (.int .i64 (chkP x)) ∧ Below W.heap.size W w') := Bx.mk fun W h => check14 x _ W ht (hb.old hB h)
  have H0 := Bx.mk (PB.new hB 33 x (.slice a0 x.b.length c0))
  have HI := Bx.mk (pk_infoW x (.slice a0 x.b.length c0) ht)
  have HBy : Bx (∀ W, Below B w W → Bytes W (.slice a0 x.b.length c0) x.b) := Bx.mk fun W h => hb.old hB h
  obtain ⟨tk, htk⟩ : ∃ tk, pkC x (.slice a0 x.b.length c0) = tk := ⟨_, rfl⟩
  have HTK := Bx.mk htk
  unfold pkV at HCk ⊢
  rw [htk] at HCk HI ⊢
  have H0 : Bx (PB w B 33 x (.slice a0 x.b.length c0) (w.alloc (.cells tk 33))) := by rw [← htk]; exact H0
  rw [hB]
  clear hb htk
  obtain ⟨g1, g2, g3, g4, g5, -⟩ := chkP_ok hc
  have HG := Bx.mk (And.intro ((kindB_iff _).1 g1) (And.intro g2 (And.intro ((placeB_iff _).1 g3) (And.intro g4 g5))))
  rw [hc] at HCk
  clear hc g1 g2 g3 g4 g5
  have HK1 : Bx (chk (fNum 0 x.k) = 0 ∧ enc (fNum 0 x.k) = beN 1 x.k.toNat) := Bx.mk ⟨chk_num2 0 x.k (by omega) (by omega) (by have := HG.out.1; omega) (by have := HG.out.1; unfold most; simp; omega), enc_num2 0 x.k (by omega)⟩
  have HK2 : Bx (chk (fNum 1 x.to) = 0 ∧ enc (fNum 1 x.to) = beN 2 x.to.toNat) := Bx.mk ⟨chk_num2 1 x.to (by omega) (by omega) (by have := HG.out.2.2.1; omega) (by have := HG.out.2.2.1; unfold most; simp; omega), enc_num2 1 x.to (by omega)⟩
  have HK3 : Bx (chk (fByt x.b) = 0 ∧ enc (fByt x.b) = beN 2 x.b.length ++ x.b) := Bx.mk ⟨by rw [chk_four rfl, if_neg (by simp [fByt]), if_neg (by have := HG.out.2.2.2.2; simp [fByt]; omega)], enc_four x.b⟩
  have HTL : Bx ((beN 2 x.b.length ++ x.b).length ≤ 1000) := Bx.mk (by have := HG.out.2.2.2.2; simp [beN_length]; omega)
  unfold hdB
  obtain ⟨tb, htb⟩ : ∃ tb, beN 2 x.b.length ++ x.b = tb := ⟨_, rfl⟩
  rw [htb] at HK3 HTL ⊢
  have HTB : Bx (tb = tb ∧ tb.length ≤ 1000) := Bx.mk ⟨rfl, HTL.out⟩
  clear htb
  have HR0 : Bx ((w.alloc (.cells tk 33)).heap[B]? = some (.cells tk 33 (0, 0))) := Bx.mk (by have := H0.out.row; rw [HTK.out] at this; exact this)
  go_enter Tryd.func28, Tryd.ntmps28
  go_wp2_with (refine wpList_load_row rfl 33 _ rfl B (by rfl) _ _ _ _ HR0.out Tryd.underlying33 rfl HI.out ?_)
  clear HR0
  generalize w.alloc (.cells tk 33) = w0 at *
  refine (HCk.out w0 H0.out.below).mono ?_
  rintro e w1 ⟨rfl, hb1⟩
  have H1 := Bx.mk (H0.out.later hb1)
  clear hb1 H0 HCk
  go_wp2_with (refine wpList_load_mid rfl 30 _ rfl B 1 (by rfl) _ _ H1.out.at.c Tryd.underlying30 rfl (by kernel_rfl) ?_)
  refine (bytes_ok x.c w1 HG.out.2.1).mono ?_
  rintro e w2 ⟨v2, rfl, ho2, hb2⟩
  have H2 := Bx.mk (And.intro (H1.out.later hb2) ho2.bytes)
  obtain ⟨a2, c2, hv2⟩ := own_form ho2
  rw [clB_length] at hv2
  subst hv2
  clear hb2 ho2 H1
  go_wp2_with (refine wpList_load_mid rfl 31 _ rfl B 6 (by rfl) _ _ H2.out.1.at.n Tryd.underlying31 rfl (by kernel_rfl) ?_)
  refine (nbytes_ok x.n w2 HG.out.2.2.2.1).mono ?_
  rintro e w3 ⟨v3, rfl, ho3, hb3⟩
  have H3 := Bx.mk (And.intro (H2.out.1.later hb3) (And.intro (H2.out.2.later hb3) ho3.bytes))
  obtain ⟨a3, c3, hv3⟩ := own_form ho3
  rw [nB_length] at hv3
  subst hv3
  clear hb3 ho3 H2
  go_upto_region 6 with fail
  have R0 : Bx (PB w B 33 x (.slice a0 x.b.length c0) w3.drew ∧ Bytes w3.drew (.slice a2 9 c2) (clB x.c) ∧ Bytes w3.drew (.slice a3 6 c3) (nB x.n)) := Bx.mk ⟨H3.out.1.later (Below.refl _ _).drew, H3.out.2.1.later (Below.refl _ _).drew, H3.out.2.2.later (Below.refl _ _).drew⟩
  clear H3
  refine wp_region_noPanic ?_
  refine wp_region_held_drew (S := fun W => W.cell? ⟨B, 0, none⟩ = some (.int .i64 x.k) ∧ W.cell? ⟨B, 5, none⟩ = some (.int .i64 x.to) ∧ W.cell? ⟨B, 8, none⟩ = some (.slice a0 x.b.length c0)) (by kernel_rfl) (⟨R0.out.1.at.k, R0.out.1.at.to, R0.out.1.at.b⟩) (fun hHeld => ?_)
  generalize w3.drew = W0 at *
  refine takeL 0 (v := ?_) rfl (by kernel_rfl) (by kernel_rfl) (by kernel_rfl) (fun _ _ _ h => h) (Or.inl ⟨by rfl, ?_⟩) hHeld ?_
  rotate_left 1
  · (intro w hSw; go_simp; try with_reducible rfl)
  try simp only [Act.put, List.setIfInBounds_toArray, List.set_cons_zero, List.set_cons_succ]
  refine takeL 1 (v := ?_) rfl (by kernel_rfl) (by kernel_rfl) (by kernel_rfl) (fun _ _ _ h => h) (Or.inl ⟨by rfl, ?_⟩) hHeld ?_
  rotate_left 1
  · (intro w hSw; obtain ⟨q1, q2, q3⟩ := hSw; clear q2 q3; go_simp; try with_reducible rfl)
  try simp only [Act.put, List.setIfInBounds_toArray, List.set_cons_zero, List.set_cons_succ]
  refine takeL 2 rfl (by kernel_rfl) (by kernel_rfl) (by kernel_rfl) (fun _ _ _ h => h) (yieldsIf_buildP (by rfl) 96 _ rfl #[.int .i64 0, .int .i64 x.k, .slice none 0 0] (by kernel_rfl)) hHeld ?_
  try simp only [Act.put, List.setIfInBounds_toArray, List.set_cons_zero, List.set_cons_succ]
  refine takeL 4 (v := ?_) rfl (by kernel_rfl) (by kernel_rfl) (by kernel_rfl) (fun _ _ _ h => h) (Or.inl ⟨by rfl, ?_⟩) hHeld ?_
  rotate_left 1
  · (intro w hSw; go_simp; try with_reducible rfl)
  try simp only [Act.put, List.setIfInBounds_toArray, List.set_cons_zero, List.set_cons_succ]
  refine takeL 5 (v := ?_) rfl (by kernel_rfl) (by kernel_rfl) (by kernel_rfl) (fun _ _ _ h => h) (Or.inl ⟨by rfl, ?_⟩) hHeld ?_
  rotate_left 1
  · (intro w hSw; go_simp; try with_reducible rfl)
  try simp only [Act.put, List.setIfInBounds_toArray, List.set_cons_zero, List.set_cons_succ]
  refine takeL 6 (v := ?_) rfl (by kernel_rfl) (by kernel_rfl) (by kernel_rfl) (fun _ _ _ h => h) (Or.inl ⟨by rfl, ?_⟩) hHeld ?_
  rotate_left 1
  · (intro w hSw; obtain ⟨q1, q2, q3⟩ := hSw; clear q1 q3; go_simp; try with_reducible rfl)
  try simp only [Act.put, List.setIfInBounds_toArray, List.set_cons_zero, List.set_cons_succ]
  refine takeL 7 rfl (by kernel_rfl) (by kernel_rfl) (by kernel_rfl) (fun _ _ _ h => h) (yieldsIf_buildP (by rfl) 96 _ rfl #[.int .i64 1, .int .i64 x.to, .slice none 0 0] (by kernel_rfl)) hHeld ?_
  try simp only [Act.put, List.setIfInBounds_toArray, List.set_cons_zero, List.set_cons_succ]
  refine takeL 9 (v := ?_) rfl (by kernel_rfl) (by kernel_rfl) (by kernel_rfl) (fun _ _ _ h => h) (Or.inl ⟨by rfl, ?_⟩) hHeld ?_
  rotate_left 1
  · (intro w hSw; go_simp; try with_reducible rfl)
  try simp only [Act.put, List.setIfInBounds_toArray, List.set_cons_zero, List.set_cons_succ]
  refine takeL 10 (v := ?_) rfl (by kernel_rfl) (by kernel_rfl) (by kernel_rfl) (fun _ _ _ h => h) (Or.inl ⟨by rfl, ?_⟩) hHeld ?_
  rotate_left 1
  · (intro w hSw; go_simp; try with_reducible rfl)
  try simp only [Act.put, List.setIfInBounds_toArray, List.set_cons_zero, List.set_cons_succ]
  refine takeL 11 (v := ?_) rfl (by kernel_rfl) (by kernel_rfl) (by kernel_rfl) (fun _ _ _ h => h) (Or.inl ⟨by rfl, ?_⟩) hHeld ?_
  rotate_left 1
  · (intro w hSw; obtain ⟨q1, q2, q3⟩ := hSw; clear q1 q2; go_simp; try with_reducible rfl)
  try simp only [Act.put, List.setIfInBounds_toArray, List.set_cons_zero, List.set_cons_succ]
  refine takeL 12 rfl (by kernel_rfl) (by kernel_rfl) (by kernel_rfl) (fun _ _ _ h => h) (yieldsIf_buildP (by rfl) 96 _ rfl #[.int .i64 4, .int .i64 0, .slice a0 x.b.length c0] (by kernel_rfl)) hHeld ?_
  try simp only [Act.put, List.setIfInBounds_toArray, List.set_cons_zero, List.set_cons_succ]
  refine stepL 3 (by kernel_rfl) rfl (fun K hK => ?_)
  go_simp
  refine (field14 (fNum 0 x.k) _ W0 (Bytes.nil _) HK1.out.1).mono ?_
  rintro e W1 ⟨u1, rfl, ho, hb⟩
  show K _ _
  rw [HK1.out.2] at ho
  have R1 := Bx.mk (And.intro (R0.out.1.later hb) (And.intro (R0.out.2.1.later hb) (And.intro (R0.out.2.2.later hb) (ho.bytes))))
  obtain ⟨q1, k1, hv⟩ := own_form ho
  subst hv
  clear hb ho R0
  refine hK.out _ _ ⟨R1.out.1.at.k, R1.out.1.at.to, R1.out.1.at.b⟩ (fun hHeld => ?_)
  clear hK K
  try simp only [Act.put, List.setIfInBounds_toArray, List.set_cons_zero, List.set_cons_succ]
  refine stepL 8 (by kernel_rfl) rfl (fun K hK => ?_)
  go_simp
  refine (field14 (fNum 1 x.to) _ W1 (Bytes.nil _) HK2.out.1).mono ?_
  rintro e W2 ⟨u2, rfl, ho, hb⟩
  show K _ _
  rw [HK2.out.2] at ho
  have R2 := Bx.mk (And.intro (R1.out.1.later hb) (And.intro (R1.out.2.1.later hb) (And.intro (R1.out.2.2.1.later hb) (And.intro (R1.out.2.2.2.later hb) (ho.bytes)))))
  obtain ⟨q2, k2, hv⟩ := own_form ho
  subst hv
  clear hb ho R1
  refine hK.out _ _ ⟨R2.out.1.at.k, R2.out.1.at.to, R2.out.1.at.b⟩ (fun hHeld => ?_)
  clear hK K
  try simp only [Act.put, List.setIfInBounds_toArray, List.set_cons_zero, List.set_cons_succ]
  refine stepL 13 (by kernel_rfl) rfl (fun K hK => ?_)
  go_simp
  refine (field14 (fByt x.b) _ W2 (HBy.out W2 R2.out.1.below) HK3.out.1).mono ?_
  rintro e W3 ⟨u3, rfl, ho, hb⟩
  show K _ _
  rw [HK3.out.2] at ho
  have R3 := Bx.mk (And.intro (R2.out.1.later hb) (And.intro (R2.out.2.1.later hb) (And.intro (R2.out.2.2.1.later hb) (And.intro (R2.out.2.2.2.1.later hb) (And.intro (R2.out.2.2.2.2.later hb) (ho.bytes))))))
  obtain ⟨q3, k3, hv⟩ := own_form ho
  subst hv
  clear hb ho R2
  refine hK.out _ _ ⟨R3.out.1.at.k, R3.out.1.at.to, R3.out.1.at.b⟩ (fun hHeld => ?_)
  clear hK K
  try simp only [Act.put, List.setIfInBounds_toArray, List.set_cons_zero, List.set_cons_succ]
  refine stepL 14 (by kernel_rfl) rfl (fun K hK => ?_)
  go_simp
  show K _ _
  have hG : (W3.alloc (.cells #[.slice q1 (beN 1 x.k.toNat).length k1, .slice a2 9 c2, .slice q2 (beN 2 x.to.toNat).length k2, .slice a3 6 c3, .slice q3 tb.length k3] 26)).heap[W3.heap.size]? = some _ := hnew W3 (.cells #[.slice q1 (beN 1 x.k.toNat).length k1, .slice a2 9 c2, .slice q2 (beN 2 x.to.toNat).length k2, .slice a3 6 c3, .slice q3 tb.length k3] 26) _ rfl
  have R9 := Bx.mk (And.intro hG (And.intro (R3.out.1.below.size) (And.intro (R3.out.1.later (below_a (W := W3) (.cells #[.slice q1 (beN 1 x.k.toNat).length k1, .slice a2 9 c2, .slice q2 (beN 2 x.to.toNat).length k2, .slice a3 6 c3, .slice q3 tb.length k3] 26))) (And.intro (R3.out.2.1.later (below_a (W := W3) (.cells #[.slice q1 (beN 1 x.k.toNat).length k1, .slice a2 9 c2, .slice q2 (beN 2 x.to.toNat).length k2, .slice a3 6 c3, .slice q3 tb.length k3] 26))) (And.intro (R3.out.2.2.1.later (below_a (W := W3) (.cells #[.slice q1 (beN 1 x.k.toNat).length k1, .slice a2 9 c2, .slice q2 (beN 2 x.to.toNat).length k2, .slice a3 6 c3, .slice q3 tb.length k3] 26))) (And.intro (R3.out.2.2.2.1.later (below_a (W := W3) (.cells #[.slice q1 (beN 1 x.k.toNat).length k1, .slice a2 9 c2, .slice q2 (beN 2 x.to.toNat).length k2, .slice a3 6 c3, .slice q3 tb.length k3] 26))) (And.intro (R3.out.2.2.2.2.1.later (below_a (W := W3) (.cells #[.slice q1 (beN 1 x.k.toNat).length k1, .slice a2 9 c2, .slice q2 (beN 2 x.to.toNat).length k2, .slice a3 6 c3, .slice q3 tb.length k3] 26))) ((R3.out.2.2.2.2.2.later (below_a (W := W3) (.cells #[.slice q1 (beN 1 x.k.toNat).length k1, .slice a2 9 c2, .slice q2 (beN 2 x.to.toNat).length k2, .slice a3 6 c3, .slice q3 tb.length k3] 26)))))))))))
  clear R3 hG
  refine hK.out _ _ ⟨R9.out.2.2.1.at.k, R9.out.2.2.1.at.to, R9.out.2.2.1.at.b⟩ (fun hHeld => ?_)
  clear hK K
  try simp only [Act.put, List.setIfInBounds_toArray, List.set_cons_zero, List.set_cons_succ]
  generalize W3.alloc (.cells #[.slice q1 (beN 1 x.k.toNat).length k1, .slice a2 9 c2, .slice q2 (beN 2 x.to.toNat).length k2, .slice a3 6 c3, .slice q3 tb.length k3] 26) = W9 at *
  generalize W3.heap.size = G at *
  refine stepL 15 (by kernel_rfl) rfl (fun K hK => ?_)
  go_simp
  refine (concat14 G (beN 1 x.k.toNat) (clB x.c) (beN 2 x.to.toNat) (nB x.n) tb _ _ _ _ _ W9 R9.out.1 R9.out.2.2.2.2.2.1 R9.out.2.2.2.1 R9.out.2.2.2.2.2.2.1 R9.out.2.2.2.2.1 R9.out.2.2.2.2.2.2.2 (by simp [beN_length]) (by simp [clB_length]) (by simp [beN_length]) (by simp [nB_length]) HTB.out.2).mono ?_
  rintro e W10 ⟨u9, rfl, ho, hb⟩
  show K _ _
  have RA := Bx.mk (And.intro (R9.out.2.2.1.later hb) (ho.weak (by have := R9.out.2.2.1.lt; omega : B ≤ W9.heap.size)))
  clear hb ho R9
  refine hK.out _ _ ⟨RA.out.1.at.k, RA.out.1.at.to, RA.out.1.at.b⟩ (fun hHeld => ?_)
  clear hK K
  try simp only [Act.put, List.setIfInBounds_toArray, List.set_cons_zero, List.set_cons_succ]
  refine takeL 16 (v := ?_) rfl (by kernel_rfl) (by kernel_rfl) (by kernel_rfl) (fun _ _ _ h => h) (Or.inl ⟨by rfl, ?_⟩) hHeld ?_
  rotate_left 1
  · (intro w hSw; go_simp; try with_reducible rfl)
  try simp only [Act.put, List.setIfInBounds_toArray, List.set_cons_zero, List.set_cons_succ]
  refine takeL 17 (v := ?_) rfl (by kernel_rfl) (by kernel_rfl) (by kernel_rfl) (fun _ _ _ h => h) (Or.inl ⟨by rfl, ?_⟩) hHeld ?_
  rotate_left 1
  · (intro w hSw; go_simp; try with_reducible rfl)
  try simp only [Act.put, List.setIfInBounds_toArray, List.set_cons_zero, List.set_cons_succ]
  refine wpAnyH_done (by kernel_rfl) ?_ _
  refine NoPanic.normal ?_
  clear hHeld
  go_wp2
  go_ret2
  exact ⟨_, rfl, RA.out.2, RA.out.1.below⟩
end Go.Proofs.YtaoekfomffebhaaDoor
namespace Go.Proofs.YtaoekfomffebhaaDoor
open Go Go.ChangeShapes Go.WideShapes Go.ChangeAt Go.RowKit
theorem PkAt.tag {W : World} {q : Nat} {x : Pk} {v : Value} (h : PkAt W q x v) (ht : x.t.length = 32) : Bytes W (.slice (some ⟨q, 9, none⟩) 32 32) x.t := by
  refine ⟨_, 32, by rw [ht], by omega, (fun e => by cases e), fun _ => ⟨q, 9, rfl, fun j hj => ?_⟩⟩
  exact h.t j _ (by rw [Array.getElem?_toList]; exact u8s_get _ _ hj)
set_option maxRecDepth 100000 in
set_option maxHeartbeats 4000000 in
theorem pbytes_ok (x : Pk) (v : Value) (w : World) (ht : x.t.length = 32) (hb : Bytes w v x.b) (hc : chkP x = 0) : Calls Tryd.prog 16 #[pkV x v] w fun e w' => ∃ u, e = .returned (.tuple #[u, .int .i64 0]) ∧ OwnB w' w.heap.size u (pkB x) ∧ Below w.heap.size w w' := by
  obtain ⟨a0, c0, rfl, -, -⟩ := bytes_form hb
  obtain ⟨B, hB⟩ : ∃ B, w.heap.size = B := ⟨_, rfl⟩
  have HHd : Bx (∀ W, Below B w W → Calls Tryd.prog 28 #[pkV x (.slice a0 x.b.length c0)] W fun e w' => ∃ u, e = .returned (.tuple #[u, .int .i64 0]) ∧ OwnB w' W.heap.size u (hdB x) ∧ Below W.heap.size W w') := Bx.mk fun W h => head14_ok x _ W ht (hb.old hB h) hc
  have H0 := Bx.mk (PB.new hB 33 x (.slice a0 x.b.length c0))
  have HI := Bx.mk (pk_infoW x (.slice a0 x.b.length c0) ht)
  have HT := Bx.mk ht
  obtain ⟨tk, htk⟩ : ∃ tk, pkC x (.slice a0 x.b.length c0) = tk := ⟨_, rfl⟩
  unfold pkV at HHd ⊢
  rw [htk] at HHd HI ⊢
  have H0 : Bx (PB w B 33 x (.slice a0 x.b.length c0) (w.alloc (.cells tk 33))) := by rw [← htk]; exact H0
  have HR0 : Bx ((w.alloc (.cells tk 33)).heap[B]? = some (.cells tk 33 (0, 0))) := Bx.mk (by have := H0.out.row; rw [htk] at this; exact this)
  rw [hB]
  clear hb htk ht
  unfold pkB
  have HL : Bx ((hdB x).length ≤ 532) := Bx.mk (by rw [hdB_length]; have := (chkP_ok hc).2.2.2.2.1; omega)
  generalize hdB x = hd at *
  clear hc
  go_enter Tryd.func16, Tryd.ntmps16
  go_wp2_with (refine wpList_load_row rfl 33 _ rfl B (by rfl) _ _ _ _ HR0.out Tryd.underlying33 rfl HI.out ?_)
  clear HR0
  generalize w.alloc (.cells tk 33) = w0 at *
  refine (HHd.out w0 H0.out.below).mono ?_
  rintro e w1 ⟨v1, rfl, ho1, hb1⟩
  have H1 := Bx.mk (And.intro (H0.out.later hb1) (ho1.weak (Nat.le_of_lt H0.out.lt)))
  obtain ⟨a1, c1, hv1⟩ := own_form ho1
  subst hv1
  clear hb1 ho1 H0 HHd
  go_wp2_with (refine wpList_ap rfl _ _ rfl B _ hd (by rfl) H1.out.2 _ x.t (by rfl) (H1.out.1.at.tag HT.out) (by rw [HT.out]; have := HL.out; omega) (Nat.le_of_lt H1.out.1.lt) ?_; intro v2 w2 ho2 hg2 _; have H2 : Bx (OwnB w2 B v2 (hd ++ x.t) ∧ Below B w w2) := Bx.mk ⟨ho2, H1.out.1.below.trans (own_below H1.out.2 hg2 (Nat.le_of_lt H1.out.1.lt))⟩; clear ho2 hg2)
  go_ret2
  exact ⟨_, rfl, H2.out⟩
/-- The chapter's example. -/
def exP : Pk := ⟨7, ⟨5, 0, 0, 1⟩, 6, ⟨1, 1⟩, [], z32P⟩
theorem ex_val : pkV exP (.slice none 0 0) = .agg #[.int .i64 7, .int .i64 5, .int .i64 0, .int .i64 0, .int .i64 1, .int .i64 6, .int .i64 1, .int .i64 1, .slice none 0 0, .int .u8 0, .int .u8 0, .int .u8 0, .int .u8 0, .int .u8 0, .int .u8 0, .int .u8 0, .int .u8 0, .int .u8 0, .int .u8 0, .int .u8 0, .int .u8 0, .int .u8 0, .int .u8 0, .int .u8 0, .int .u8 0, .int .u8 0, .int .u8 0, .int .u8 0, .int .u8 0, .int .u8 0, .int .u8 0, .int .u8 0, .int .u8 0, .int .u8 0, .int .u8 0, .int .u8 0, .int .u8 0, .int .u8 0, .int .u8 0, .int .u8 0, .int .u8 0] := by kernel_rfl
theorem ex_chk : chkP exP = 0 := by decide +kernel
theorem ex_len : (pkB exP).length = 52 := by decide +kernel
theorem ex_first : (pkB exP).getD 0 0 = 7 := by decide +kernel
theorem ex_build (W : World) : (Instr.build 33 #[(0, .int .i64 7), (1, .agg #[.int .i64 5, .int .i64 0, .int .i64 0, .int .i64 1]), (2, .int .i64 6), (3, .agg #[.int .i64 1, .int .i64 1])]).run Tryd.prog W = .ok (.agg #[.int .i64 7, .int .i64 5, .int .i64 0, .int .i64 0, .int .i64 1, .int .i64 6, .int .i64 1, .int .i64 1, .slice none 0 0, .int .u8 0, .int .u8 0, .int .u8 0, .int .u8 0, .int .u8 0, .int .u8 0, .int .u8 0, .int .u8 0, .int .u8 0, .int .u8 0, .int .u8 0, .int .u8 0, .int .u8 0, .int .u8 0, .int .u8 0, .int .u8 0, .int .u8 0, .int .u8 0, .int .u8 0, .int .u8 0, .int .u8 0, .int .u8 0, .int .u8 0, .int .u8 0, .int .u8 0, .int .u8 0, .int .u8 0, .int .u8 0, .int .u8 0, .int .u8 0, .int .u8 0, .int .u8 0]) W := by kernel_rfl
set_option maxRecDepth 100000 in
set_option maxHeartbeats 4000000 in
theorem known14_any (w : World) : Calls Tryd.prog 14 #[] w fun e w' => e = .returned (.bool true) ∧ Below w.heap.size w w' := by
  have HBy := Bx.mk (pbytes_ok exP (.slice none 0 0) w (by decide) (Bytes.nil w) ex_chk)
  rw [ex_val] at HBy
  have hbd := ex_build
  go_enter Tryd.func14, Tryd.ntmps14
  go_wp2_with fail
  refine HBy.out.mono ?_
  rintro e w1 ⟨v1, rfl, ho, hb⟩
  obtain ⟨a1, c1, hv1⟩ := own_form ho
  subst hv1
  obtain ⟨G, ha, -⟩ := own_at ho (by rw [ex_len]; omega)
  subst ha
  have k0 := own_cell ho 0 (by rw [ex_len]; omega)
  rw [ex_first] at k0
  rw [ex_len]
  have HB := Bx.mk hb
  clear ho hb hbd HBy
  change w1.cell? ⟨G, 0, none⟩ = some (.int .u8 7) at k0
  go_wp2
  go_ret
  exact ⟨rfl, HB.out⟩
end Go.Proofs.YtaoekfomffebhaaDoor
namespace Go.Proofs.YtaoekfomffebhaaDoor
open Go Go.ChangeShapes Go.WideShapes Go.ChangeAt Go.RowKit
/-- Blocks that stay, behind a world of B blocks. -/
structure KP (w : World) (B : Nat) (rs : List (Nat × Obj)) (W : World) : Prop where
  rows : ∀ x ∈ rs, W.heap[x.1]? = some x.2
  below : Below B w W
  le : B ≤ W.heap.size
theorem KP.start (w : World) (B : Nat) (h : w.heap.size = B) : KP w B [] w := ⟨fun _ h => (List.not_mem_nil h).elim, Below.refl _ _, by omega⟩
theorem KP.lt {w : World} {B : Nat} {rs : List (Nat × Obj)} {W : World} (h : KP w B rs W) {x : Nat × Obj} (hx : x ∈ rs) : x.1 < W.heap.size := (Array.getElem?_eq_some_iff.1 (h.rows x hx)).1
theorem KP.later {w : World} {B : Nat} {rs : List (Nat × Obj)} {W W1 : World} (h : KP w B rs W) (hb : Below W.heap.size W W1) : KP w B rs W1 :=
  ⟨fun x hx => by rw [hb.block _ (h.lt hx)]; exact h.rows x hx, h.below.trans (hb.mono h.le), Nat.le_trans h.le hb.size⟩
theorem KP.drew {w : World} {B : Nat} {rs : List (Nat × Obj)} {W : World} (h : KP w B rs W) : KP w B rs W.drew := h.later (Below.refl _ _).drew
theorem KP.new {w : World} {B : Nat} {rs : List (Nat × Obj)} {W : World} (h : KP w B rs W) (o : Obj) : KP w B ((W.heap.size, o) :: rs) (W.alloc o) := by
  have h1 := h.later (below_a o)
  refine ⟨fun x hx => ?_, h1.below, h1.le⟩
  rcases List.mem_cons.1 hx with rfl | hx
  · exact hnew _ _ _ rfl
  · exact h1.rows x hx
theorem KP.alloc {w : World} {B : Nat} {rs : List (Nat × Obj)} {W : World} (h : KP w B rs W) (o : Obj) : KP w B rs (W.alloc o) := h.later (below_a o)
theorem KP.set {w : World} {B Y : Nat} {o o1 : Obj} {rs : List (Nat × Obj)} {W W1 : World} (h : KP w B ((Y, o) :: rs) W) (hg : W.grownBy W1 (some Y)) (hY : W1.heap[Y]? = some o1) (hB : B ≤ Y) (hn : ∀ x ∈ rs, x.1 ≠ Y) : KP w B ((Y, o1) :: rs) W1 := by
  refine ⟨fun x hx => ?_, h.below.trans (grown_below hg hB h.le), Nat.le_trans h.le hg.size⟩
  rcases List.mem_cons.1 hx with rfl | hx
  · exact hY
  · rw [hg.block x.1 (h.lt (.tail _ hx)) (fun e => hn x hx (by injection e))]
    exact h.rows x (.tail _ hx)
theorem KP.tail {w : World} {B : Nat} {x : Nat × Obj} {rs : List (Nat × Obj)} {W : World} (h : KP w B (x :: rs) W) : KP w B rs W := ⟨fun z hz => h.rows z (.tail _ hz), h.below, h.le⟩
theorem kb_ofP {w w1 : World} {b o : Nat} {vs : List Value} (h : w1 = w.setCells b o vs) : w.grownBy w1 (some b) := by rw [h]; exact kb_setCells _ _ _
theorem alloc_sizeP (w : World) (o : Obj) : (w.alloc o).heap.size = w.heap.size + 1 := by simp
instance decCl14 : DecidableEq Cl := fun a b => decidable_of_iff (a.id = b.id ∧ a.ro = b.ro ∧ a.ex = b.ex ∧ a.se = b.se) (by cases a; cases b; simp)
end Go.Proofs.YtaoekfomffebhaaDoor
