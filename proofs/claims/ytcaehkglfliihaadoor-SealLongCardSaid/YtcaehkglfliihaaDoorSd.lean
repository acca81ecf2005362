/-
  The walk of bytes that are turned by the stream.
-/
import Derived.Test.YtcaehkglfliihaaDoorSc
import Derived.WalkMore
import Derived.ChangeKeysEq
namespace Go.Proofs.YtcaehkglfliihaaDoor
open Go Go.RowKit
theorem OwnB.set {w : World} {base g n cap : Nat} {l : List UInt8} (h : OwnB w base (.slice (some ⟨g, 0, none⟩) n cap) l) (i : Nat) (x : UInt8) : OwnB (w.setCell ⟨g, i, none⟩ (.int .u8 (ub x))) base (.slice (some ⟨g, 0, none⟩) n cap) (l.set i x) := by
  refine ⟨by simp [u8s], ?_⟩
  rcases h.2 with ⟨hn, _⟩ | ⟨g', cap', cur, hv, hb, hg, h1, h2, h3, h4⟩
  · cases hn
  · injection hv with e1 e2 e3
    injection e1 with e1
    injection e1 with e1 _
    subst e1
    refine .inr ⟨g, cap', cur.setIfInBounds i (.int .u8 (ub x)), by rw [e2, e3, List.length_set], hb, heap_setCell_same _ _ _ _ _ _ hg, by rw [List.length_set]; exact h1, h2, by simpa using h3, ?_⟩
    rw [List.length_set, Array.toList_setIfInBounds, List.take_set, h4]
    simp [u8s, List.map_set]
theorem OwnB.row {w : World} {base n cap g : Nat} {l : List UInt8} (h : OwnB w base (.slice (some ⟨g, 0, none⟩) n cap) l) : ∃ cur, w.heap[g]? = some (.cells cur 5 (0, 0)) ∧ base ≤ g := by
  rcases h.2 with ⟨hn, _⟩ | ⟨g', cap', cur, hv, hb, hg, _⟩
  · cases hn
  · injection hv with e1 _ _
    injection e1 with e1
    injection e1 with e1 _
    subst e1
    exact ⟨cur, hg, hb⟩
theorem OwnB.form {w : World} {base : Nat} {v : Value} {l : List UInt8} (h : OwnB w base v l) : (v = .slice none 0 0 ∧ l = []) ∨ ∃ g cap, v = .slice (some ⟨g, 0, none⟩) l.length cap := by
  rcases h.2 with ⟨hn, h0⟩ | ⟨g, cap, cur, hv, -⟩
  · exact .inl ⟨hn, List.eq_nil_of_length_eq_zero h0⟩
  · exact .inr ⟨g, cap, hv⟩
theorem idx_arr (bl : List UInt8) (hl : bl.length = 32) (j : Nat) (hj : j < 32) (W : World) : (Instr.index 34 (.agg (u8s bl)) (.int .i64 (j : Int))).run Tryd.prog W = .ok (.int .u8 (ub (bl.getD j 0))) W := by
  have hs : (u8s bl)[j]? = some (.int .u8 (ub (bl.getD j 0))) := u8s_get bl j (by omega)
  have h0 : (0 : Int) ≤ (j : Int) := by omega
  have h1 : (j : Int) < 32 := by omega
  simp only [Instr.index, asIntOf, run_underlying Tryd.underlying34, Sem.run_bind, Sem.run_pure, Result.andThen_ok]
  have hp := run_part_plain (P := Tryd.prog) (w := W) (e := 5) (by kernel_rfl) hs
  simp [h0, h1, hp]
set_option maxRecDepth 100000 in
set_option maxHeartbeats 2000000 in
theorem sturned_any (hk bk nonce b : List UInt8) (v vn vb : Value) (w : World) (hv : IsPair w v hk bk) (hn : Bytes w vn nonce) (hb : Bytes w vb b) (hnl : nonce.length ≤ 32) (hkl : hk.length ≤ 1000000) (hbl : b.length ≤ 100000) (hTab : Tab w) (hg : 0 < w.heap.size) :
    Calls Tryd.prog 59 #[v, vn, vb] w fun e w' => ∃ v', e = .returned v' ∧ OwnB w' w.heap.size v' (trnd hk nonce b) ∧ Below w.heap.size w w' := by
  have HV := Bx.mk (And.intro hv (And.intro hn hb))
  have HL := Bx.mk (And.intro hnl (And.intro hkl hbl))
  have HA := Bx.mk hTab
  obtain ⟨p, rfl⟩ := hv.form
  obtain ⟨an, cn, rfl, -⟩ := hn
  obtain ⟨ab, cb, rfl, -⟩ := hb
  obtain ⟨nn, hnn⟩ : ∃ n, nonce.length = n := ⟨_, rfl⟩
  obtain ⟨L, hL⟩ : ∃ n, b.length = n := ⟨_, rfl⟩
  have HN := Bx.mk (And.intro hnn hL)
  rw [hnn, hL] at HV ⊢
  rw [hL] at hbl
  have hL1 : (L : Int) ≤ 100000 := by omega
  clear hnn hL hnl hkl hTab hv
  obtain ⟨z32, hz32⟩ : ∃ z, u8s (List.replicate 32 0) = z := ⟨_, rfl⟩
  have hz32v : ∀ W : World, (zeroValue 34).run Tryd.prog W = .ok (.agg z32) W := fun W => by rw [← hz32, zero32]; kernel_rfl
  have HZ0 : Bx (∀ bl : List UInt8, bl.length = 32 → (u8s bl).size = z32.size ∧ (Tryd.prog.info? 34).map (·.size) = some (u8s bl).size) := Bx.mk (fun bl hl => ⟨by rw [← hz32, u8s_size, u8s_size, hl]; rfl, by rw [u8s_size, hl]; kernel_rfl⟩)
  clear hz32
  go_enter Tryd.func59, Tryd.ntmps59
  go_wp2_with fail
  go_step3
  go_wp2_with fail
  refine (clone_any b _ w HV.out.2.2 (by have := HL.out; omega)).mono ?_
  rintro e w1 ⟨vo, rfl, ho, hb1⟩
  have H1 : Bx (OwnB w1 w.heap.size vo (trnT hk nonce b (32 * 0)) ∧ Below w.heap.size w w1) := Bx.mk ⟨by rw [Nat.mul_zero, trnT_zero]; exact ho, hb1⟩
  obtain ⟨ao, co, hvo, -⟩ := ho.bytes
  rw [HN.out.2] at hvo
  subst hvo
  clear ho hb1
  go_wp2
  go_step3
  go_wp2
  go_loopw [8] (fun i wr => ∃ k : Nat, i = .int .i64 (k : Int) ∧ 32 * k ≤ L ∧ Bx (OwnB wr w.heap.size (.slice ao L co) (trnT hk nonce b (32 * k)) ∧ Below w.heap.size w wr)) (fun i _ => L + 1 - (intOf i).toNat)
  case atStart => exact ⟨0, rfl, by omega, H1⟩
  case round =>
    clear H1
    obtain ⟨k, rfl, hk32, HR⟩ := hrel
    have hk1 : (k : Int) ≤ 100000 := by omega
    obtain ⟨wq, rfl⟩ : ∃ wq : World, wq = wr := ⟨_, rfl⟩
    go_wp2_with fail
    refine (block_any hk bk nonce k _ _ wq (HV.out.1.later HR.out.2) (HV.out.2.1.later HR.out.2) HL.out.1 HL.out.2.1 (by omega) (HA.out.later HR.out.2 hg) (Nat.lt_of_lt_of_le hg HR.out.2.size)).mono ?_
    rintro e w3 ⟨rfl, hb3⟩
    have H3 : Bx (OwnB w3 w.heap.size (.slice ao L co) (trnT hk nonce b (32 * k)) ∧ Below w.heap.size w w3) := Bx.mk ⟨HR.out.1.later hb3 (fun g hg => (HR.out.1.lt g hg).1), HR.out.2.trans (hb3.mono HR.out.2.size)⟩
    clear hb3 HR
    have HBL : Bx ((blkOf hk nonce k).length = 32) := Bx.mk (blkOf_length _ _ _)
    have HSb : Bx (∀ j, j < 32 → sbyte hk nonce (32 * k + j) = (blkOf hk nonce k).getD j 0) := Bx.mk (fun j hj => by unfold sbyte; rw [show (32 * k + j) / 32 = k by omega, show (32 * k + j) % 32 = j by omega])
    generalize blkOf hk nonce k = bl at *
    have HZ3 := Bx.mk (HZ0.out bl HBL.out)
    go_upto_region 5 with (refine wpList_store_var rfl 34 _ _ rfl w3 _ _ rfl (by rfl) (u8s bl) (by rfl) HZ3.out.1 HZ3.out.2 (one_u8s _) ?_; intro w4 hb4 hr4 hl4)
    have H4 : Bx (OwnB w4 w.heap.size (.slice ao L co) (trnT hk nonce b (32 * k + 0)) ∧ Below w.heap.size w w4 ∧ w4.heap[w3.heap.size]? = some (.cells (u8s bl) 34 (0, 0))) := Bx.mk ⟨H3.out.1.later hb4 (fun g hg => (H3.out.1.lt g hg).1), H3.out.2.trans (hb4.mono H3.out.2.size), hr4⟩
    clear hb4 hr4 hl4 H3
    generalize w3.heap.size = D at *
    go_wp2_with (refine wpList_load_row rfl 34 _ rfl D (by rfl) _ _ _ _ H4.out.2.2 Tryd.underlying34 rfl HZ3.out.2 ?_)
    go_loopw [22] (fun i wr => ∃ j : Nat, i = .int .i64 (j : Int) ∧ j ≤ 32 ∧ 32 * k + j ≤ L ∧ Bx (OwnB wr w.heap.size (.slice ao L co) (trnT hk nonce b (32 * k + j)) ∧ Below w.heap.size w wr)) (fun i _ => 32 - (intOf i).toNat)
    case atStart => exact ⟨0, rfl, by omega, by omega, ⟨H4.out.1, H4.out.2.1⟩⟩
    case round =>
      clear H4
      obtain ⟨j, rfl, hj, hjL, HI⟩ := hrel
      obtain ⟨at_, hat⟩ : ∃ a, a = 32 * k + j := ⟨_, rfl⟩
      have hA : 32 * (k : Int) + (j : Int) = (at_ : Int) := by omega
      have hA2 : (k : Int) * 32 + (j : Int) = (at_ : Int) := by omega
      have HAt := Bx.mk hat
      rw [← hat] at HI
      by_cases hlt : j < 32
      · have hj1 : (j : Int) < 32 := by omega
        have hix := fun W => idx_arr bl HBL.out j hlt W
        by_cases he : at_ = L
        · subst he
          have HE : Bx (OwnB wr w.heap.size (.slice ao at_ co) (trnd hk nonce b) ∧ Below w.heap.size w wr) := Bx.mk ⟨by rw [← trnT_all hk nonce b at_ HN.out.2]; exact HI.out.1, HI.out.2⟩
          clear HI hat
          go_wp2
          rw [Exit.noGoto_ret]
          go_ret
          exact ⟨_, rfl, HE.out⟩
        · have hne : ((at_ : Int) == (L : Int)) = false := by simp; omega
          have hlL : (at_ : Int) < (L : Int) := by omega
          rcases HI.out.1.form with ⟨h0, -⟩ | ⟨g, cap', hv⟩
          · injection h0 with _ e2 _
            omega
          injection hv with e1 _ _
          subst e1
          obtain ⟨c, o, he1, hcell⟩ := HI.out.1.bytes.cell at_ (by omega)
          injection he1 with he1
          injection he1 with h1 h2
          subst h1
          subst h2
          rw [Nat.zero_add] at hcell
          obtain ⟨cur, hrow, hgb⟩ := HI.out.1.row
          have fz : wr.frozen? ⟨g, at_, none⟩ = false := frozen_of_row _ _ _ _ _ hrow
          have HNx : Bx (OwnB (wr.setCell ⟨g, at_, none⟩ (.int .u8 (ub ((trnT hk nonce b at_).getD at_ 0 ^^^ bl.getD j 0)))) w.heap.size (.slice (some ⟨g, 0, none⟩) L co) (trnT hk nonce b (32 * k + (j + 1))) ∧ Below w.heap.size w (wr.setCell ⟨g, at_, none⟩ (.int .u8 (ub ((trnT hk nonce b at_).getD at_ 0 ^^^ bl.getD j 0))))) := Bx.mk ⟨by
            have h := HI.out.1.set at_ ((trnT hk nonce b at_).getD at_ 0 ^^^ bl.getD j 0)
            rw [← HSb.out j hlt, ← HAt.out, trnT_succ hk nonce b at_ (by have := HN.out; omega)] at h
            rw [show 32 * k + (j + 1) = at_ + 1 by rw [HAt.out]; omega, ← HSb.out j hlt, ← HAt.out]
            exact h, HI.out.2.setCell hgb _⟩
          have hxor := ub_xor ((trnT hk nonce b at_).getD at_ 0) (bl.getD j 0)
          generalize (trnT hk nonce b at_).getD at_ 0 = x0 at *
          generalize bl.getD j 0 = y0 at *
          have hz1 := ub_nonneg (x0 ^^^ y0)
          have hz2 := ub_le (x0 ^^^ y0)
          clear HI hat hrow hgb he
          go_wp2
          go_roundw
          case rel => exact ⟨j + 1, by go_num, by omega, by omega, HNx⟩
          case measure => simp [intOf]; omega
      · have e32 : j = 32 := by omega
        subst e32
        have HNk : Bx (OwnB wr w.heap.size (.slice ao L co) (trnT hk nonce b (32 * (k + 1))) ∧ Below w.heap.size w wr) := Bx.mk (by rw [show 32 * (k + 1) = at_ by omega]; exact HI.out)
        clear HI hat
        go_wp2
        go_roundw
        case rel => exact ⟨k + 1, by go_num, by omega, HNk⟩
        case measure => simp [intOf]; omega
end Go.Proofs.YtcaehkglfliihaaDoor
