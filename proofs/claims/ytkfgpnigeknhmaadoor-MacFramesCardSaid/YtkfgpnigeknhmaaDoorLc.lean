/-
  The walk of the statement on signs.
-/
import Derived.Test.YtkfgpnigeknhmaaDoorWn
namespace Go.Proofs.YtkfgpnigeknhmaaDoor
open Go Go.RowKit
theorem cut_bytes (a : Option Addr) (n cap m : Nat) (hm : m ≤ n) (hc : n ≤ cap) (ha : a = none → cap = 0) (W : World) : (Instr.slice 23 (.slice a n cap) none (some (.int .i64 (m : Int))) none).run Tryd.prog W = .ok (.slice a m cap) W := by
  have he : Tryd.prog.elem 23 = 5 := by kernel_rfl
  have hs : ((sizeOf 5).run Tryd.prog W) = .ok 1 W := by kernel_rfl
  rw [run_slice_h W 23 a n cap (by rw [he]; exact Tryd.underlying23) .i64 (m : Int) (by omega) (by omega), he, hs]
  simp only [Result.andThen, sliced, Int.toNat_natCast, Nat.zero_mul, Nat.sub_zero]
  congr 2
  rcases a with _ | ad
  · simp
  · simp [Addr.add]
theorem cut_str (l : List UInt8) (m : Nat) : (⟨l.toArray⟩ : ByteArray).extract 0 m = ⟨(l.take m).toArray⟩ := by
  ext1
  simp [ByteArray.data_extract]
theorem Bytes.take {w : World} {a : Option Addr} {n cap : Nat} {bs : List UInt8} (h : Bytes w (.slice a n cap) bs) (m : Nat) (hm : m ≤ n) : Bytes w (.slice a m cap) (bs.take m) := by
  obtain ⟨a', cap', hv, hc, hn, hr⟩ := h
  injection hv with e1 e2 e3
  subst e1 e3
  have hl : (bs.take m).length = m := by rw [List.length_take]; omega
  refine ⟨a, cap, by rw [hl], by omega, hn, fun hp => ?_⟩
  obtain ⟨c, o, ha, hcell⟩ := hr (by omega)
  refine ⟨c, o, ha, fun j hj => ?_⟩
  rw [hcell j (by omega)]
  simp [show j < m by omega]
theorem sign_q (n : Nat) (h : n < 16) (w : World) : Calls Tryd.prog 21 #[.int .u8 (n : Int)] w fun e w' => e = .returned (.int .u8 (ub (sgn n))) ∧ ∃ m, w' = w.drewN m :=
  (sign_any n h w).mono fun _ _ ⟨he, hw⟩ => ⟨he, 0, hw.symm⟩
/-- Whether the signs are right as far as k. -/
def okTo (t : List UInt8) (k : Nat) : Bool := decide (t.length % 2 = 0) && (List.range k).all fun j => (val (t.getD j 0)).isSome
theorem okTo_succ (t : List UInt8) (k : Nat) : okTo t (k + 1) = (okTo t k && decide (0 ≤ valI (t.getD k 0))) := by
  unfold okTo
  rw [List.range_succ, List.all_append, Bool.and_assoc]
  congr 2
  simp only [List.all_cons, List.all_nil, Bool.and_true]
  unfold valI
  match val (t.getD k 0) with
  | none => rfl
  | some n => simp
theorem okTo_good (t : List UInt8) : okTo t t.length = true ↔ Good t := by
  unfold okTo Good
  simp only [Bool.and_eq_true, decide_eq_true_eq, List.all_eq_true, List.mem_range]
set_option maxRecDepth 100000 in
set_option maxHeartbeats 1000000 in
theorem signs_any (bs l : List UInt8) (v : Value) (w : World) (hv : Bytes w v bs) (hn : bs.length ≤ 9223372036854775807) (hl : l.length ≤ 9223372036854775807) (hTab : Tab w) (hg : 0 < w.heap.size) :
    Calls Tryd.prog 5 #[v, .string ⟨l.toArray⟩] w fun e w' => e = .returned (.bool true) ∧ Below w.heap.size w w' := by
  have HV := Bx.mk hv
  have HA := Bx.mk hTab
  obtain ⟨a, cap, rfl, hc, hnone, -⟩ := hv
  have e : (⟨l.toArray⟩ : ByteArray).size = l.length := rfl
  obtain ⟨n, hnn⟩ : ∃ n, bs.length = n := ⟨_, rfl⟩
  obtain ⟨k, hkk⟩ : ∃ k, l.length = k := ⟨_, rfl⟩
  obtain ⟨m, hm⟩ : ∃ m, m = min n 100 := ⟨_, rfl⟩
  obtain ⟨q, hq⟩ : ∃ q, q = min k 100 := ⟨_, rfl⟩
  have m1 : (if (100 : Int) < (n : Int) then (100 : Int) else (n : Int)) = (m : Int) := by split <;> omega
  have q1 : (if (100 : Int) < (k : Int) then (100 : Int) else (k : Int)) = (q : Int) := by split <;> omega
  have s1 := fun W => cut_bytes a n cap m (by omega) (by omega) hnone W
  have s2 := cut_str l q
  rw [hnn] at hn hc HV ⊢
  have HB : Bx (Bytes w (.slice a m cap) (bs.take m)) := Bx.mk (HV.out.take m (by omega))
  have HBL : Bx ((bs.take m).length = m) := Bx.mk (by rw [List.length_take]; omega)
  have HLL : Bx ((l.take q).length = q) := Bx.mk (by rw [List.length_take]; omega)
  generalize bs.take m = b at *
  generalize l.take q = t at *
  have hm1 : m ≤ 100 := by omega
  have hq1 : q ≤ 100 := by omega
  have hn1 : (n : Int) ≤ 9223372036854775807 := by omega
  have hl1 : (k : Int) ≤ 9223372036854775807 := by omega
  have hq2 : (q : Int) ≤ (k : Int) := by omega
  rw [hkk] at e
  clear hnn hkk hTab hnone hm hq hn hl hc HV
  go_enter Tryd.func5, Tryd.ntmps5
  go_wp2
  go_quiet (fail)
  clear s1 s2 m1 q1 e hq2 hn1 hl1
  have H0 : Bx (Bytes (w.drewN nq) (.slice a m cap) b ∧ Tab (w.drewN nq) ∧ Below w.heap.size w (w.drewN nq)) := Bx.mk ⟨HB.out, HA.out, below_drewN (Below.refl _ _) _⟩
  clear HB HA
  go_wp2_with fail
  generalize w.drewN nq = w0 at *
  refine (hex_any b _ w0 H0.out.1 (by rw [HBL.out]; omega)).mono ?_
  rintro e w1 ⟨rfl, hb1⟩
  have H1 : Bx (Bytes w1 (.slice a m cap) b ∧ Tab w1 ∧ Below w.heap.size w w1) := Bx.mk ⟨H0.out.1.later hb1, H0.out.2.1.later hb1 (Nat.lt_of_lt_of_le hg H0.out.2.2.size), H0.out.2.2.trans (hb1.mono H0.out.2.2.size)⟩
  clear hb1 H0
  obtain ⟨h, hh⟩ : ∃ h, hexOf b = h := ⟨_, rfl⟩
  have HH := Bx.mk hh
  have hhl : h.length = 2 * m := by rw [← hh, hexOf_length, HBL.out]
  have HHL := Bx.mk hhl
  rw [hh]
  clear hh
  go_wp2
  clear hhl
  go_loopw [6] (fun i wr => ∃ k q : Nat, k ≤ m ∧ i = .int .i64 k ∧ wr = w1.drewN q) (fun i _ => m - (intOf i).toNat)
  case atStart => exact ⟨0, 0, Nat.zero_le _, rfl, rfl⟩
  case round =>
    obtain ⟨j, nd, hj, rfl, rfl⟩ := hrel
    by_cases hlt : j < m
    · obtain ⟨c, o, rfl, hcell⟩ := H1.out.1.cell j hlt
      have hgx := hexOf_get b j (by rw [HBL.out]; exact hlt)
      rw [HH.out] at hgx
      obtain ⟨x, hx⟩ : ∃ x, b.getD j 0 = x := ⟨_, rfl⟩
      rw [hx] at hcell hgx
      have hx8 := x.toNat_lt
      have i1 := fun W => idx_str h (2 * j) (2 * (j : Int)) (by omega) (by rw [HHL.out]; omega) W
      have i2 := fun W => idx_str h (2 * j + 1) (2 * (j : Int) + 1) (by omega) (by rw [HHL.out]; omega) W
      rw [hgx.1] at i1
      rw [hgx.2] at i2
      have e1 : ub x / 16 = ((x.toNat / 16 : Nat) : Int) := by unfold ub; omega
      have e2 : ub x % 16 = ((x.toNat % 16 : Nat) : Int) := by unfold ub; omega
      have e3 : (ub x).tdiv 16 = ((x.toNat / 16 : Nat) : Int) := by rw [Int.tdiv_eq_ediv_of_nonneg (ub_nonneg x)]; exact e1
      have e4 : (ub x).tmod 16 = ((x.toNat % 16 : Nat) : Int) := by rw [Int.tmod_eq_emod_of_nonneg (ub_nonneg x)]; exact e2
      have hs1 : x.toNat / 16 < 16 := by omega
      have hs2 : x.toNat % 16 < 16 := by omega
      clear hx hx8 hgx
      generalize x.toNat / 16 = n1 at *
      generalize x.toNat % 16 = n2 at *
      have t1 : (ub (sgn n1) != ub (sgn n1)) = false := by simp
      have t2 : (ub (sgn n2) != ub (sgn n2)) = false := by simp
      have u1 := ub_nonneg x
      have u2 := ub_le x
      have w2j : IntKind.i64.wrap (2 * (j : Int)) = 2 * (j : Int) := IntWalk.i64_in _ (by omega)
      have w2j1 : IntKind.i64.wrap (2 * (j : Int) + 1) = 2 * (j : Int) + 1 := IntWalk.i64_in _ (by omega)
      have hj1 : (j : Int) < (m : Int) := by omega
      have w8a : IntKind.u8.wrap (n1 : Int) = (n1 : Int) := IntWalk.u8_in _ (by omega)
      go_wp2
      go_quiet ((go_at_call 21; exact qz (sign_q _ (by assumption) _)))
      go_wp2
      go_roundw
      case rel => exact ⟨j + 1, _, by omega, by go_num, rfl⟩
      case measure => simp [intOf]; omega
    · have HD : Bx (Bytes (w1.drewN nd) (.slice a m cap) b ∧ Tab (w1.drewN nd) ∧ Below w.heap.size w (w1.drewN nd)) := Bx.mk ⟨H1.out.1, H1.out.2.1, below_drewN H1.out.2.2 _⟩
      clear H1
      generalize w1.drewN nd = w2 at *
      clear hj
      go_wp2_with fail
      refine (bytes_any h w2 (by rw [HHL.out]; omega)).mono ?_
      rintro e w3 ⟨hr, hb3⟩
      rcases hr with ⟨-, v3, rfl, ho3⟩ | ⟨hbad, -⟩
      case inr => exact absurd (by rw [← HH.out]; exact good_hex b) hbad
      have H3 : Bx (Bytes w3 (.slice a m cap) b ∧ Tab w3 ∧ Below w.heap.size w w3 ∧ Bytes w3 v3 b) := Bx.mk ⟨HD.out.1.later hb3, HD.out.2.1.later hb3 (Nat.lt_of_lt_of_le hg HD.out.2.2.size), HD.out.2.2.trans (hb3.mono HD.out.2.2.size), by
        have := ho3.bytes
        rw [← HH.out, dec_hex] at this
        exact this⟩
      clear ho3 hb3 HD
      go_wp2_with fail
      refine (bytes_any t w3 (by rw [HLL.out]; omega)).mono ?_
      rintro e w4 ⟨hr, hb4⟩
      have H4 : Bx (Bytes w4 (.slice a m cap) b ∧ Tab w4 ∧ Below w.heap.size w w4 ∧ Bytes w4 v3 b) := Bx.mk ⟨H3.out.1.later hb4, H3.out.2.1.later hb4 (Nat.lt_of_lt_of_le hg H3.out.2.2.1.size), H3.out.2.2.1.trans (hb4.mono H3.out.2.2.1.size), H3.out.2.2.2.later hb4⟩
      clear hb4 H3
      have HQ : Bx (∃ v4 : Value, ∃ f4 : Int, e = .returned (.tuple #[v4, .int .i64 f4]) ∧ (Good t ∧ f4 = 0 ∧ Bytes w4 v4 (decN t (t.length / 2)) ∨ ¬ Good t ∧ f4 = 3 ∧ v4 = .slice none 0 0)) := Bx.mk (by
        rcases hr with ⟨hg1, v4, rfl, ho⟩ | ⟨hg1, rfl⟩
        · exact ⟨v4, 0, rfl, .inl ⟨hg1, rfl, ho.bytes⟩⟩
        · exact ⟨_, 3, rfl, .inr ⟨hg1, rfl, rfl⟩⟩)
      clear hr
      obtain ⟨v4, f4, rfl, hcase⟩ := HQ.out
      clear HQ
      have HC := Bx.mk hcase
      clear hcase
      have hsz : (⟨t.toArray⟩ : ByteArray).size = q := HLL.out
      have htl : t.length = q := HLL.out
      have e0 : ((q : Int) % 2 == 0) = okTo t 0 := by
        unfold okTo
        rw [HLL.out]
        simp only [List.range_zero, List.all_nil, Bool.and_true]
        rw [Bool.eq_iff_iff]
        simp only [beq_iff_eq, decide_eq_true_eq]
        omega
      go_wp2
      clear e0
      obtain ⟨o0, ho0⟩ : ∃ o0, okTo t 0 = o0 := ⟨_, rfl⟩
      have HO0 := Bx.mk ho0
      rw [ho0]
      clear ho0
      go_loop [11, 12] (fun o i => ∃ k : Nat, ∃ r : Bool, k ≤ q ∧ i = .int .i64 k ∧ o = .bool r ∧ Bx (okTo t k = r)) (fun _ i => q - (intOf i).toNat)
      case atStart => exact ⟨0, o0, Nat.zero_le _, rfl, rfl, HO0⟩
      case round =>
        clear HO0
        obtain ⟨i, r, hi, rfl, rfl, HR⟩ := hrel
        by_cases hlt : i < q
        · have i1 := fun W => idx_str t i (i : Int) rfl (by rw [HLL.out]; exact hlt) W
          have HS : Bx (okTo t (i + 1) = (r && decide (0 ≤ valI (t.getD i 0)))) := Bx.mk (by rw [okTo_succ, HR.out])
          obtain ⟨x, hx⟩ : ∃ x, t.getD i 0 = x := ⟨_, rfl⟩
          rw [hx] at i1 HS
          clear hx HR
          have hi1 : (i : Int) < (q : Int) := by omega
          have HVv := Bx.mk (fun W => value_any x W)
          obtain ⟨z, hz⟩ : ∃ z, valI x = z := ⟨_, rfl⟩
          rw [hz] at HVv HS
          clear hz
          cases r with
          | true =>
            rw [Bool.true_and] at HS
            go_wp2_with (go_at_call 23; refine (HVv.out _).mono ?_; rintro e w' ⟨rfl, rfl⟩)
            all_goals
              go_round
              case rel => exact ⟨i + 1, _, by omega, by go_num, rfl, HS⟩
              case measure => simp [intOf]; omega
          | false =>
            rw [Bool.false_and] at HS
            go_wp2
            go_round
            case rel => exact ⟨i + 1, false, by omega, by go_num, rfl, HS⟩
            case measure => simp [intOf]; omega
        · have HR2 : Bx (okTo t t.length = r) := Bx.mk (by rw [HLL.out, show q = i by omega]; exact HR.out)
          clear HR
          rcases HC.out with ⟨hgood, rfl, hb4⟩ | ⟨hbad, rfl, rfl⟩
          · have er : r = true := by rw [← HR2.out]; exact (okTo_good t).2 hgood
            subst er
            have HX : Bx (hexOf (decN t (t.length / 2)) = t) := Bx.mk (hex_dec t hgood)
            have HB4 := Bx.mk hb4
            clear hgood hb4 HC HR2
            go_wp2_with fail
            refine (known_any w4 H4.out.2.1 (Nat.lt_of_lt_of_le hg H4.out.2.2.1.size)).mono ?_
            rintro e w5 ⟨rfl, hb5⟩
            have H5 : Bx (Bytes w5 (.slice a m cap) b ∧ Below w.heap.size w w5 ∧ Bytes w5 v3 b ∧ Bytes w5 v4 (decN t (t.length / 2))) := Bx.mk ⟨H4.out.1.later hb5, H4.out.2.2.1.trans (hb5.mono H4.out.2.2.1.size), H4.out.2.2.2.later hb5, HB4.out.later hb5⟩
            clear hb5 H4 HB4
            go_wp2_with fail
            refine (same_any b b v3 (.slice a m cap) w5 H5.out.2.2.1 H5.out.1 (by rw [HBL.out]; omega) (by rw [HBL.out]; omega)).mono ?_
            rintro e w6 ⟨rfl, n6, rfl⟩
            rw [decide_eq_true (rfl : b = b)]
            go_wp2_with fail
            refine (hex_any _ v4 (w5.drewN n6) H5.out.2.2.2 (by rw [decN_length, HLL.out]; omega)).mono ?_
            rintro e w7 ⟨rfl, hb7⟩
            rw [HX.out]
            have H7 : Bx (Below w.heap.size w w7) := Bx.mk ((below_drewN H5.out.2.1 n6).trans (hb7.mono H5.out.2.1.size))
            clear hb7 H5 HX
            go_wp2
            go_ret
            exact ⟨rfl, H7.out⟩
          · have er : r = false := by
              rw [← HR2.out]
              cases h0 : okTo t t.length with
              | false => rfl
              | true => exact absurd ((okTo_good t).1 h0) hbad
            subst er
            clear hbad HC HR2
            go_wp2_with fail
            refine (known_any w4 H4.out.2.1 (Nat.lt_of_lt_of_le hg H4.out.2.2.1.size)).mono ?_
            rintro e w5 ⟨rfl, hb5⟩
            have H5 : Bx (Bytes w5 (.slice a m cap) b ∧ Below w.heap.size w w5 ∧ Bytes w5 v3 b) := Bx.mk ⟨H4.out.1.later hb5, H4.out.2.2.1.trans (hb5.mono H4.out.2.2.1.size), H4.out.2.2.2.later hb5⟩
            clear hb5 H4
            go_wp2_with fail
            refine (same_any b b v3 (.slice a m cap) w5 H5.out.2.2 H5.out.1 (by rw [HBL.out]; omega) (by rw [HBL.out]; omega)).mono ?_
            rintro e w6 ⟨rfl, n6, rfl⟩
            rw [decide_eq_true (rfl : b = b)]
            go_wp2
            go_ret
            exact ⟨rfl, below_drewN H5.out.2.1 n6⟩
end Go.Proofs.YtkfgpnigeknhmaaDoor
