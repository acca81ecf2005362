/-
  The walks of the stream, and of a sealer.
-/
import Derived.Test.YtcaehkglfliihaaDoorSg
namespace Go.Proofs.YtcaehkglfliihaaDoor
open Go Go.RowKit
/-- What is handed back of a stream. -/
def StrmQ (hk nonce : List UInt8) (n : Nat) (w : World) (e : Ending) (w' : World) : Prop := ∃ v', e = .returned (.tuple #[v', .int .i64 0]) ∧ Bytes w' v' (strm hk nonce n) ∧ Below w.heap.size w w'
set_option maxRecDepth 100000 in
set_option maxHeartbeats 1000000 in
theorem stream_ok (hk bk nonce : List UInt8) (n : Nat) (v vn : Value) (w : World) (hv : IsPair w v hk bk) (hn : Bytes w vn nonce) (hnl : nonce.length ≤ 32) (hkl : hk.length ≤ 1000000) (hN : n ≤ 65536) (hTab : Tab w) (hg : 0 < w.heap.size) :
    Calls Tryd.prog 45 #[v, vn, .int .i64 (n : Int)] w (StrmQ hk nonce n w) := by
  have HV := Bx.mk (And.intro hv hn)
  have HL := Bx.mk (And.intro hnl hkl)
  have HA := Bx.mk hTab
  obtain ⟨p, rfl⟩ := hv.form
  obtain ⟨an, cn, rfl, -⟩ := hn
  obtain ⟨nn, hnn⟩ : ∃ n, nonce.length = n := ⟨_, rfl⟩
  rw [hnn] at HV ⊢
  have hn1 : (n : Int) ≤ 65536 := by omega
  have hn0 : ¬ (n : Int) < 0 := by omega
  clear hnn hnl hkl hTab hv
  obtain ⟨z32, hz32⟩ : ∃ z, u8s (List.replicate 32 0) = z := ⟨_, rfl⟩
  have hz32v : ∀ W : World, (zeroValue 34).run Tryd.prog W = .ok (.agg z32) W := fun W => by rw [← hz32, zero32]; kernel_rfl
  have HZ0 : Bx (∀ bl : List UInt8, bl.length = 32 → (u8s bl).size = z32.size ∧ (Tryd.prog.info? 34).map (·.size) = some (u8s bl).size) := Bx.mk (fun bl hl => ⟨by rw [← hz32, u8s_size, u8s_size, hl]; rfl, by rw [u8s_size, hl]; kernel_rfl⟩)
  clear hz32
  have hmk := fun W => mk_u8g 0 (n + 32) .i64 .i64 0 ((n : Int) + 32) rfl (by omega) (by omega) (by omega) W
  have H0 : Bx (OwnB (w.alloc (.cells (u8s (List.replicate (n + 32) 0)) 5)) w.heap.size (.slice (some ⟨w.heap.size, 0, none⟩) 0 (n + 32)) [] ∧ Below w.heap.size w (w.alloc (.cells (u8s (List.replicate (n + 32) 0)) 5))) := Bx.mk ⟨own_made w w.heap.size (n + 32) (Nat.le_refl _) (by omega), below_a _⟩
  generalize u8s (List.replicate (n + 32) 0) = zn at *
  go_enter Tryd.func45, Tryd.ntmps45
  go_wp2_with fail
  refine (takes_any hk bk nonce _ _ w HV.out.1 HV.out.2 (by have := HL.out; omega)).mono ?_
  rintro e w1 ⟨rfl, rfl⟩
  have HT : Bx (decide (nonce.length ≤ 32) = true) := Bx.mk (decide_eq_true HL.out.1)
  rw [HT.out]
  go_wp2
  generalize w1.alloc (.cells zn 5) = w2 at *
  clear hmk
  go_loopw [8, 9] (fun vo i wr => ∃ k m cap : Nat, ∃ ao : Option Addr, i = .int .i64 (k : Int) ∧ vo = .slice ao m cap ∧ m = 32 * k ∧ m < n + 32 ∧ Bx (OwnB wr w1.heap.size (.slice ao m cap) (strm hk nonce (32 * k)) ∧ Below w1.heap.size w1 wr)) (fun _ i _ => n + 32 - (intOf i).toNat)
  case atStart => exact ⟨0, 0, n + 32, _, rfl, rfl, rfl, by omega, H0⟩
  case round =>
    clear H0
    obtain ⟨k, m, cap, ao, rfl, rfl, hm, hmn, HR⟩ := hrel
    have HM := Bx.mk hm
    by_cases hlt : m < n
    · have t1 : (m : Int) < (n : Int) := by omega
      have hk1 : (k : Int) ≤ 65536 := by omega
      have hk2 : k ≤ 65536 := by omega
      clear hm
      obtain ⟨wq, rfl⟩ : ∃ wq : World, wq = wr := ⟨_, rfl⟩
      go_wp2_with fail
      refine (block_any hk bk nonce k _ _ wq (HV.out.1.later HR.out.2) (HV.out.2.later HR.out.2) HL.out.1 HL.out.2 (by omega) (HA.out.later HR.out.2 hg) (Nat.lt_of_lt_of_le hg HR.out.2.size)).mono ?_
      rintro e w3 ⟨rfl, hb3⟩
      have H3 : Bx (OwnB w3 w1.heap.size (.slice ao m cap) (strm hk nonce (32 * k)) ∧ Below w1.heap.size w1 w3) := Bx.mk ⟨HR.out.1.later hb3 (fun g hg => (HR.out.1.lt g hg).1), HR.out.2.trans (hb3.mono HR.out.2.size)⟩
      clear hb3 HR
      have HBL : Bx ((blkOf hk nonce k).length = 32) := Bx.mk (blkOf_length _ _ _)
      have HSt : Bx (strm hk nonce (32 * (k + 1)) = strm hk nonce (32 * k) ++ blkOf hk nonce k ∧ (strm hk nonce (32 * k)).length = m) := Bx.mk ⟨strm_blocks _ _ _, by rw [strm_length]; exact HM.out.symm⟩
      generalize blkOf hk nonce k = bl at *
      have HZ3 := Bx.mk (HZ0.out bl HBL.out)
      go_upto_region 10 with (refine wpList_store_var rfl 34 _ _ rfl w3 _ _ rfl (by rfl) (u8s bl) (by rfl) HZ3.out.1 HZ3.out.2 (one_u8s _) ?_; intro w4 hb4 hr4 hl4)
      have H4 : Bx (OwnB w4 w1.heap.size (.slice ao m cap) (strm hk nonce (32 * k)) ∧ Below w1.heap.size w1 w4 ∧ Bytes w4 (.slice (some ⟨w3.heap.size, 0, none⟩) 32 32) bl) := Bx.mk ⟨H3.out.1.later hb4 (fun g hg => (H3.out.1.lt g hg).1), H3.out.2.trans (hb4.mono H3.out.2.size), row_bytes hr4 HBL.out⟩
      clear hb4 hr4 hl4 H3
      generalize w3.heap.size = D at *
      go_wp2_with (refine wpList_ap rfl _ _ rfl w1.heap.size _ (strm hk nonce (32 * k)) (by rfl) H4.out.1 _ bl (by rfl) H4.out.2.2 (by have h1 := HSt.out.2; have h2 := HBL.out; omega) H4.out.2.1.size ?_; intro v5 w5 ho5 hg5 _; have H5 : Bx (OwnB w5 w1.heap.size v5 (strm hk nonce (32 * (k + 1))) ∧ Below w1.heap.size w1 w5) := Bx.mk ⟨by rw [HSt.out.1]; exact ho5, H4.out.2.1.trans (own_below H4.out.1 hg5 H4.out.2.1.size)⟩; clear ho5 hg5)
      obtain ⟨a5, c5, hv5, -⟩ := H5.out.1.bytes
      rw [strm_length] at hv5
      subst hv5
      go_roundw
      case rel => exact ⟨k + 1, _, _, _, by go_num, rfl, rfl, by have := HM.out; omega, H5⟩
      case measure => have := HM.out; simp [intOf]; omega
    · have t1 : ¬ (m : Int) < (n : Int) := by omega
      have hcap : n ≤ cap := by obtain ⟨_, _, hv, hc, _⟩ := HR.out.1.bytes; injection hv with _ e2 e3; rw [strm_length] at hc; omega
      have s1 := fun W => cut_three ao m cap n hcap W
      have HE : Bx (Bytes wr (.slice ao n n) (strm hk nonce n) ∧ Below w1.heap.size w1 wr) := Bx.mk ⟨by
        obtain ⟨a', c', hv, hc, hz, hr⟩ := HR.out.1.bytes.take n (by omega)
        injection hv with e1 e2 e3
        subst e1
        rw [strm_take _ _ _ _ (by omega)] at hr e2
        refine ⟨ao, n, by rw [strm_length], by rw [strm_length]; exact Nat.le_refl _, fun h => ?_, hr⟩
        have := hz h
        omega, HR.out.2⟩
      have hc1 : (n : Int) ≤ (cap : Int) := by omega
      clear HR hm
      go_wp2
      go_ret2
      exact ⟨_, rfl, HE.out⟩
end Go.Proofs.YtcaehkglfliihaaDoor
