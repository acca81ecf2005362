/-
  The walk of a digest's end.
-/
import Derived.Test.YtkfgpnigeknhmaaDoorWf
namespace Go.Proofs.YtkfgpnigeknhmaaDoor
open Go Go.RowKit
/-- The bytes of the first k words, in 32 places. -/
def outF (ws : List (BitVec 32)) : Nat → List UInt8
  | 0 => List.replicate 32 0
  | k + 1 => putL (outF ws k) (4 * k) (ws.getD k 0)
theorem outF_length (ws : List (BitVec 32)) (k : Nat) : (outF ws k).length = 32 := by
  induction k with
  | zero => rfl
  | succ k ih => rw [outF, putL_length, ih]
theorem outF_at (a b c d e f g i : BitVec 32) : outF [a, b, c, d, e, f, g, i] 8 = outOf [a, b, c, d, e, f, g, i] := by kernel_rfl
theorem outF_all (ws : List (BitVec 32)) (h : ws.length = 8) : outF ws 8 = outOf ws := by
  match ws, h with
  | [a, b, c, d, e, f, g, i], _ => exact outF_at a b c d e f g i
theorem pad_length (t : Nat) : (padOf t).length = zerosOf t + 9 := by simp [padOf, four]
theorem pad_whole (t : Nat) : (t + zerosOf t + 9) % 64 = 0 := by unfold zerosOf; omega
theorem zero32 : u8s (List.replicate 32 0) = #[.int .u8 0, .int .u8 0, .int .u8 0, .int .u8 0, .int .u8 0, .int .u8 0, .int .u8 0, .int .u8 0, .int .u8 0, .int .u8 0, .int .u8 0, .int .u8 0, .int .u8 0, .int .u8 0, .int .u8 0, .int .u8 0, .int .u8 0, .int .u8 0, .int .u8 0, .int .u8 0, .int .u8 0, .int .u8 0, .int .u8 0, .int .u8 0, .int .u8 0, .int .u8 0, .int .u8 0, .int .u8 0, .int .u8 0, .int .u8 0, .int .u8 0, .int .u8 0] := by kernel_rfl
/-- 'x[l:]' of an array of 32 bytes, l inside it. -/
theorem sl32 (W : World) (b n : Nat) (l : Int) (hl : l = (n : Int)) (hn : n < 32) :
    (Instr.sliceAt 26 (.pointer (some ⟨b, 0, none⟩)) (some (.int .i64 l)) none none).run Tryd.prog W = .ok (.slice (some ⟨b, n, none⟩) (32 - n) (32 - n)) W := by
  subst hl
  have ha : Tryd.prog.arrayLen 26 = 32 := by kernel_rfl
  have he : Tryd.prog.elem 26 = 5 := by kernel_rfl
  have hs : ((sizeOf 5).run Tryd.prog W) = .ok 1 W := by kernel_rfl
  rw [run_sliceAt_array_l W 26 ⟨b, 0, none⟩ (by rw [ha, he]; exact Tryd.underlying26) .i64 (n : Int) (by omega) (by rw [ha]; omega)]
  rw [he, hs, ha]
  have h1 : ¬ (32 = n) := by omega
  simp [slicedAt, h1, Result.andThen, Addr.add]
  intro h
  exact h.symm
theorem sha_of {bs : List UInt8} {ws : List (BitVec 32)} {rest : List UInt8} (h : StIs (bs ++ padOf bs.length) ws rest) : outOf ws = sha bs := by
  have hl : (bs ++ padOf bs.length).length = bs.length + zerosOf bs.length + 9 := by rw [List.length_append, pad_length]; omega
  have hw := h.words (by have := pad_whole bs.length; omega)
  unfold sha
  rw [hw, hl]
/-- While the words are written out. -/
def EndRel (w : World) (ws : List (BitVec 32)) (g : Nat) (k : Nat) (wr : World) : Prop :=
  Below w.heap.size w wr ∧ w.heap.size < g ∧ w.heap.size + 1 < g ∧ wr.heap[w.heap.size + 1]? = some (.cells (u8s (List.replicate 32 0)) 26 (0, 0)) ∧ wr.heap[g]? = some (.cells (u8s (outF ws k)) 26 (0, 0))
theorem EndRel.step {w wr : World} {ws : List (BitVec 32)} {g k : Nat} (h : EndRel w ws g k wr) : EndRel w ws g (k + 1) (put4 wr g (4 * k) (ws.getD k 0)) :=
  ⟨put4_below h.1 _ _ _ (by have := h.2.1; omega), h.2.1, h.2.2.1, by rw [put4_other _ _ _ _ _ (by have := h.2.2.1; omega)]; exact h.2.2.2.1, put4_row h.2.2.2.2 _ _⟩
set_option maxRecDepth 100000 in
set_option maxHeartbeats 1000000 in
theorem end_any (bs : List UInt8) (ws : List (BitVec 32)) (rest : List UInt8) (t : Nat) (w : World) (hst : StIs bs ws rest) (ht : t = bs.length) (hN : t < 1152921504606846976) (hTab : Tab w) (hg : 0 < w.heap.size) :
    Calls Tryd.prog 43 #[.agg (stC ws rest t)] w fun e w' => e = .returned (.agg (u8s (sha bs))) ∧ Below w.heap.size w w' := by
  have HT := Bx.mk ht
  have HM := Bx.mk hN
  have HS := Bx.mk hst
  have HA := Bx.mk hTab
  have ct : (stC ws rest t)[72]? = some (.int .u64 (t : Int)) := stC_told ws rest t hst.w8 hst.r64
  clear hst ht hN hTab
  go_enter Tryd.func43, Tryd.ntmps43
  go_wp2_with fail
  obtain ⟨w1, hw1⟩ : ∃ w1, (w.alloc (Obj.cells (stC ws rest t) 40)).alloc (Obj.cells #[.int .u8 0, .int .u8 0, .int .u8 0, .int .u8 0, .int .u8 0, .int .u8 0, .int .u8 0, .int .u8 0, .int .u8 0, .int .u8 0, .int .u8 0, .int .u8 0, .int .u8 0, .int .u8 0, .int .u8 0, .int .u8 0, .int .u8 0, .int .u8 0, .int .u8 0, .int .u8 0, .int .u8 0, .int .u8 0, .int .u8 0, .int .u8 0, .int .u8 0, .int .u8 0, .int .u8 0, .int .u8 0, .int .u8 0, .int .u8 0, .int .u8 0, .int .u8 0] 26) = w1 := ⟨_, rfl⟩
  have H1 : Bx (Below w.heap.size w w1 ∧ w1.heap.size = w.heap.size + 2 ∧ w1.heap[w.heap.size]? = some (.cells (stC ws rest t) 40 (0, 0)) ∧ w1.heap[w.heap.size + 1]? = some (.cells (u8s (List.replicate 32 0)) 26 (0, 0))) := Bx.mk (by
    rw [← hw1]
    refine ⟨((Below.refl _ _).alloc (Nat.le_refl _) _).alloc (by simp) _, by simp, ?_, ?_⟩
    · rw [hold _ _ _ (by simp), hnew _ _ _ rfl]
    · rw [hnew _ _ _ (by simp), zero32])
  rw [hw1]
  clear hw1 ct
  refine (padding_any t w1 (by have := HM.out; omega)).mono ?_
  rintro e w2 ⟨rfl, hp1, hp2, hp3⟩
  have H2 : Bx (Below w.heap.size w w2 ∧ w.heap.size + 2 < w2.heap.size ∧ w2.heap[w.heap.size]? = some (.cells (stC ws rest t) 40 (0, 0)) ∧ w2.heap[w.heap.size + 1]? = some (.cells (u8s (List.replicate 32 0)) 26 (0, 0))) := Bx.mk (by
    obtain ⟨q1, q2, q3, q4⟩ := H1.out
    refine ⟨q1.trans (hp1.mono (by omega)), by omega, by rw [hp1.block _ (by omega)]; exact q3, by rw [hp1.block _ (by omega)]; exact q4⟩)
  have HB : Bx (BytesAt w2 w.heap.size (.slice (some ⟨w1.heap.size, 0, none⟩) (zerosOf t + 9) (zerosOf t + 9)) (padOf t)) := Bx.mk (by
    refine ⟨_, _, by rw [pad_length], by rw [pad_length]; omega, fun _ => ⟨w1.heap.size, 0, by have := H1.out.2.1; omega, rfl, fun j hj => ?_⟩⟩
    rw [cell_of_row _ _ _ _ _ _ hp3, Nat.zero_add]
    exact u8s_get _ _ hj)
  clear hp1 hp2 hp3 H1
  have HTk : Bx (Took w2 w.heap.size 40 bs w2) := Bx.mk ⟨ws, rest, by rw [← HT.out]; exact H2.out.2.2.1, HS.out, kb_refl _ _⟩
  have HA2 : Bx (Tab w2) := Bx.mk (HA.out.later H2.out.1 hg)
  go_wp2_with fail
  refine (take_any w.heap.size 40 bs (padOf t) _ w2 HTk.out HB.out (by have := HM.out; have := HT.out; have : zerosOf t < 64 := Nat.mod_lt _ (by omega); rw [pad_length]; omega) HA2.out (by omega)).mono ?_
  rintro e w3 ⟨rfl, hk⟩
  obtain ⟨vs, re, hv1, hv2, hv3⟩ := hk
  have H3 : Bx (Below w.heap.size w w3 ∧ w.heap.size + 2 < w3.heap.size ∧ w3.heap[w.heap.size + 1]? = some (.cells (u8s (List.replicate 32 0)) 26 (0, 0)) ∧ w3.rangeAt w.heap.size 0 (u32s vs).toList ∧ vs.length = 8 ∧ outOf vs = sha bs) := Bx.mk (by
    obtain ⟨q1, q2, q3, q4⟩ := H2.out
    refine ⟨?_, Nat.lt_of_lt_of_le q2 hv3.size, by rw [hv3.block _ (by omega) (by simp)]; exact q4, st_range hv1 hv2.w8, hv2.w8, sha_of (by rw [← HT.out]; exact hv2)⟩
    exact q1.trans ⟨hv3.os, hv3.tape, hv3.output, Nat.le_trans (by omega) hv3.size, fun i hi => hv3.block i (by omega) (by simp; omega)⟩)
  clear hv1 hv2 hv3 H2 HB HTk HA2 HA HS HT HM
  have HJ : Bx ((Tryd.prog.info? 30).map (·.size) = some (u32s vs).toList.length) := Bx.mk (by rw [Array.length_toList, u32s_size, H3.out.2.2.2.2.1]; kernel_rfl)
  go_wp2_with (refine wpList_load_mid rfl 30 _ rfl w.heap.size 0 (by rfl) (u32s vs).toList _ (World.rangeAt_alloc H3.out.2.2.2.1 _) Tryd.underlying30 rfl HJ.out ?_; rw [back_u32s])
  have HE : Bx (EndRel w vs w3.heap.size 0 (w3.alloc (Obj.cells #[.int .u8 0, .int .u8 0, .int .u8 0, .int .u8 0, .int .u8 0, .int .u8 0, .int .u8 0, .int .u8 0, .int .u8 0, .int .u8 0, .int .u8 0, .int .u8 0, .int .u8 0, .int .u8 0, .int .u8 0, .int .u8 0, .int .u8 0, .int .u8 0, .int .u8 0, .int .u8 0, .int .u8 0, .int .u8 0, .int .u8 0, .int .u8 0, .int .u8 0, .int .u8 0, .int .u8 0, .int .u8 0, .int .u8 0, .int .u8 0, .int .u8 0, .int .u8 0] 26))) := Bx.mk (by
    obtain ⟨q1, q2, q3, _⟩ := H3.out
    exact ⟨q1.alloc (by omega) _, by omega, by omega, by rw [hold _ _ _ (by omega)]; exact q3, by rw [hnew _ _ _ rfl, ← zero32]; rfl⟩)
  have HV : Bx (vs.length = 8 ∧ outOf vs = sha bs) := Bx.mk H3.out.2.2.2.2
  clear H3 HJ
  go_loopw [12] (fun i wr => ∃ k : Nat, k ≤ 8 ∧ i = .int .i64 k ∧ EndRel w vs w3.heap.size k wr) (fun i _ => 8 - (intOf i).toNat)
  case atStart => exact ⟨0, Nat.zero_le _, rfl, HE.out⟩
  case round =>
    clear HE
    obtain ⟨k, hk, rfl, he⟩ := hrel
    have HE := Bx.mk he
    clear he
    by_cases hlt : k < 8
    · have hix := fun W => idx_row 30 8 vs Tryd.underlying30 HV.out.1.symm k (by rw [HV.out.1]; exact hlt) W
      have hsl := fun W => sl32 W w3.heap.size (4 * k) (4 * (k : Int)) (by omega) (by omega)
      have HC : Bx (Calls Tryd.prog 55 #[.slice (some ⟨w3.heap.size, 4 * k, none⟩) (32 - 4 * k) (32 - 4 * k), .int .u32 (uv (vs.getD k 0))] wr fun e w' => e = .returned (.tuple #[]) ∧ w' = put4 wr w3.heap.size (4 * k) (vs.getD k 0)) :=
        Bx.mk (put32_row w3.heap.size (4 * k) _ _ _ _ _ wr HE.out.2.2.2.2 (by omega) (by rw [outF_length]; omega))
      have HN : Bx (EndRel w vs w3.heap.size (k + 1) (put4 wr w3.heap.size (4 * k) (vs.getD k 0))) := Bx.mk HE.out.step
      obtain ⟨x, hx⟩ : ∃ x, vs.getD k 0 = x := ⟨_, rfl⟩
      rw [hx] at hix HC HN
      clear hx
      have hk1 : (k : Int) < 8 := by omega
      go_wp2_with fail
      refine HC.out.mono ?_
      rintro e w4 ⟨rfl, hw4⟩
      rw [← hw4] at HN
      clear hw4 HC HE
      go_wp2
      go_roundw
      case rel => exact ⟨k + 1, by omega, by go_num, HN.out⟩
      case measure => simp [intOf]; omega
    · have ek : k = 8 := by omega
      rw [ek] at HE
      clear ek
      obtain ⟨q1, q2, q3, q4, q5⟩ := HE.out
      rw [outF_all vs HV.out.1, HV.out.2] at q5
      have hso : (sha bs).length = 32 := by rw [← HV.out.2, ← outF_all vs HV.out.1, outF_length]
      obtain ⟨out, hout⟩ : ∃ out, sha bs = out := ⟨_, rfl⟩
      rw [hout] at q5 hso
      have HO := Bx.mk hout
      have HQ : Bx (Below w.heap.size w wr ∧ wr.heap[w.heap.size + 1]? = some (.cells (u8s (List.replicate 32 0)) 26 (0, 0)) ∧ wr.heap[w3.heap.size]? = some (.cells (u8s out) 26 (0, 0)) ∧ out.length = 32) := Bx.mk ⟨q1, q4, q5, hso⟩
      clear q1 q2 q3 q4 q5 hso hout HE HV
      have HI : Bx ((Tryd.prog.info? 26).map (·.size) = some (u8s out).size) := Bx.mk (by rw [u8s_size, HQ.out.2.2.2]; kernel_rfl)
      have HT : Bx (wr.there (w.heap.size + 1) 0 (u8s out).size) := Bx.mk (there_row HQ.out.2.1 0 _ (by rw [u8s_size, u8s_size, HQ.out.2.2.2]; simp))
      have HY : Bx ((wr.setCells (w.heap.size + 1) 0 (u8s out).toList).heap[w.heap.size + 1]? = some (.cells (u8s out) 26 (0, 0))) := Bx.mk (heap_setCells_all HQ.out.2.1 (by rw [u8s_size, u8s_size, HQ.out.2.2.2]; simp))
      go_wp2_with (first | (refine wpList_load_row rfl 26 _ rfl w3.heap.size (by rfl) _ _ _ _ HQ.out.2.2.1 Tryd.underlying26 rfl HI.out ?_) | (refine wpList_store_mid rfl 26 _ _ rfl (w.heap.size + 1) 0 _ (by rfl) (by rfl) HT.out HI.out (one_u8s _) ?_))
      refine bodyPost_ret (results_cell_row rfl _ _ (w.heap.size + 1) _ (u8s out) _ _ rfl HY.out Tryd.underlying26 rfl HI.out) rfl ?_
      exact ⟨by rw [HO.out], below_setCells (by omega) _ _ _ _ HQ.out.1⟩
end Go.Proofs.YtkfgpnigeknhmaaDoor
