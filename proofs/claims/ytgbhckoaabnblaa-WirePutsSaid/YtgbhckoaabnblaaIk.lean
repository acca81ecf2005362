/-
  The walk of the document's example: two fields.
-/
import Derived.Test.YtgbhckoaabnblaaIj
namespace Go.Proofs.Ytgbhckoaabnblaa
open Go Go.RowKit
/-- A new writer. -/
theorem zero_wr : ∃ z : Array Value, (∀ W : World, (zeroValue 29).run Try.prog W = .ok (.agg z) W) ∧ z = wrC (List.replicate 1024 0) 0 0 := ⟨_, fun W => by kernel_rfl, rfl⟩
theorem new_wr (W : World) (z : Array Value) (hz : z = wrC (List.replicate 1024 0) 0 0) : IsW (W.alloc (.cells z 29)) W.heap.size ([], 0) := by
  subst hz
  exact ⟨List.replicate 1024 0, List.length_replicate, Nat.zero_le _, List.take_zero, by rw [hnew _ _ _ rfl]; rfl⟩
theorem ints_one (W : World) (p : Nat) (n : Int) (t : TypeId) (hp : p < W.heap.size) : IntsN (W.alloc (.cells #[.int .i64 n] t)) p (.slice (some ⟨W.heap.size, 0, none⟩) 1 1) [n] := by
  refine ⟨_, 1, rfl, Nat.le_refl _, fun _ => ⟨W.heap.size, 0, rfl, by omega, fun i hi => ?_⟩⟩
  obtain rfl : i = 0 := by simp at hi; omega
  rw [cell_of_row _ _ _ _ _ _ (hnew _ _ _ rfl)]
  rfl
theorem parts_one (W : World) (p : Nat) (vb : Value) (b : List UInt8) (t : TypeId) (hb : BytesN W p vb b) (hp : p < W.heap.size) : PartsN (W.alloc (.cells #[vb] t)) p (.slice (some ⟨W.heap.size, 0, none⟩) 1 1) [b] := by
  refine ⟨_, 1, rfl, Nat.le_refl _, fun _ => ⟨W.heap.size, 0, rfl, by omega, fun i hi => ?_⟩⟩
  obtain rfl : i = 0 := by simp at hi; omega
  exact ⟨vb, by rw [cell_of_row _ _ _ _ _ _ (hnew _ _ _ rfl)]; rfl, hb.grown (kb_below _ (below_a _))⟩
theorem const_bytes {W : World} {b n : Nat} {l : List UInt8} {fr : Nat × Nat} (h : W.heap[b]? = some (.cells (u8s l) 5 fr)) (hn : l.length = n) : Bytes W (.slice (some ⟨b, 0, none⟩) n n) l :=
  ⟨_, n, by rw [hn], by omega, (fun h => by cases h), fun _ => ⟨b, 0, rfl, fun j hj => by rw [cell_of_row _ _ _ _ _ _ h, Nat.zero_add]; exact u8s_get _ _ hj⟩⟩
theorem exBytes : [fByt [97]].foldl putS ([fNum 1 258].foldl putS ([], 0)) = ([1, 2, 0, 1, 97], 0) := by decide +kernel
theorem grown_below {w w1 : World} {p : Nat} (h : w.grownBy w1 (some p)) {B : Nat} (hB : B ≤ p) (hs : B ≤ w.heap.size) : Below B w w1 := ⟨h.os, h.tape, h.output, h.size, fun i hi => h.block i (by omega) (fun e => by injection e with e; omega)⟩
set_option maxRecDepth 100000 in
set_option maxHeartbeats 2000000 in
theorem known4_any (w : World) : Calls Try.prog 16 #[] w fun e w' => e = .returned (.bool true) ∧ Below w.heap.size w w' := by
  obtain ⟨z, hz, hzz⟩ := zero_wr
  have HZ := Bx.mk hzz
  clear hzz
  obtain ⟨p, hp⟩ : ∃ p, w.heap.size = p := ⟨_, rfl⟩
  have HA : Bx (IsW (w.alloc (.cells z 29)) p ([], 0) ∧ w.grownBy (w.alloc (.cells z 29)) (some p) ∧ (w.alloc (.cells z 29)).heap.size = p + 1) := Bx.mk ⟨by rw [← hp]; exact new_wr w z HZ.out, kb_below _ (below_a _), by simp [hp]⟩
  have HP := Bx.mk hp
  rw [hp]
  go_enter Try.func16, Try.ntmps16
  go_wp2_with fail
  generalize w.alloc (.cells z 29) = wA at *
  rw [← HA.out.2.2]
  have H1 : Bx (IsW (wA.alloc (.cells #[.int .i64 258] 3)) p ([], 0) ∧ IntsN (wA.alloc (.cells #[.int .i64 258] 3)) p (.slice (some ⟨wA.heap.size, 0, none⟩) 1 1) [258] ∧ w.grownBy (wA.alloc (.cells #[.int .i64 258] 3)) (some p)) := Bx.mk ⟨HA.out.1.later (below_a _) HA.out.1.lt, ints_one wA p 258 _ HA.out.1.lt, kb_trans HA.out.2.1 (kb_below _ (below_a _))⟩
  refine (wnum_any 1 [258] _ p _ _ H1.out.1 H1.out.2.1 (fun n hn => by simp at hn; subst hn; omega) (by simp)).mono ?_
  rintro e w2 ⟨rfl, hw2, hg2⟩
  have H2 : Bx (IsW w2 p ([fNum 1 258].foldl putS ([], 0)) ∧ w.grownBy w2 (some p)) := Bx.mk ⟨hw2, kb_trans H1.out.2.2 hg2⟩
  clear hw2 hg2 H1 HA hz HZ
  generalize wA.heap.size = D1 at *
  have HX : Bx ([fByt [97]].foldl putS ([fNum 1 258].foldl putS ([], 0)) = ([1, 2, 0, 1, 97], 0)) := Bx.mk exBytes
  generalize [fNum 1 258].foldl putS ([], 0) = s1 at *
  have kc := fun (w : World) (C : Array Value) (n c : Nat) => Lib.run_convert_bytes_const (P := Try.prog) w 30 5 C n c Try.underlying30 Try.underlying5
  have H3 : Bx (IsW ((w2.alloc (.cells #[.int .u8 97] 5 (1, 2))).alloc (.cells #[.slice (some ⟨w2.heap.size, 0, none⟩) 1 1] 30)) p s1 ∧ PartsN ((w2.alloc (.cells #[.int .u8 97] 5 (1, 2))).alloc (.cells #[.slice (some ⟨w2.heap.size, 0, none⟩) 1 1] 30)) p (.slice (some ⟨w2.heap.size + 1, 0, none⟩) 1 1) [[97]] ∧ w.grownBy ((w2.alloc (.cells #[.int .u8 97] 5 (1, 2))).alloc (.cells #[.slice (some ⟨w2.heap.size, 0, none⟩) 1 1] 30)) (some p)) := Bx.mk ⟨(H2.out.1.later (below_a _) H2.out.1.lt).later (below_a _) (by simp; have := H2.out.1.lt; omega), by
    have h := parts_one (w2.alloc (.cells #[.int .u8 97] 5 (1, 2))) p (.slice (some ⟨w2.heap.size, 0, none⟩) 1 1) [97] 30 ⟨const_bytes (l := [97]) (by rw [hnew _ _ _ rfl]; rfl) rfl, fun _ e => by have h := H2.out.1.lt; injection e with e; simp only at e; omega⟩ (by simp; have := H2.out.1.lt; omega)
    rw [show (w2.alloc (.cells #[.int .u8 97] 5 (1, 2))).heap.size = w2.heap.size + 1 by simp] at h
    exact h, kb_trans H2.out.2 (kb_trans (kb_below _ (below_a _)) (kb_below _ (below_a _)))⟩
  go_wp2_with fail
  refine (wbyt_any [[97]] _ p _ _ H3.out.1 H3.out.2.1 (by simp)).mono ?_
  rintro e w4 ⟨rfl, hw4, hg4⟩
  have H4 : Bx (IsW w4 p ([1, 2, 0, 1, 97], 0) ∧ w.grownBy w4 (some p)) := Bx.mk ⟨by rw [← HX.out]; exact hw4, kb_trans H3.out.2.2 hg4⟩
  clear hw4 hg4 H3 H2 HX
  generalize w2.heap.size = D2 at *
  go_wp2_with fail
  refine (wout_ok p _ w4 H4.out.1).mono ?_
  rintro e w5 ⟨v5, rfl, ho5, hb5⟩
  have H5 : Bx (Bytes w5 v5 [1, 2, 0, 1, 97] ∧ Below p w w5) := Bx.mk ⟨ho5.bytes, (grown_below H4.out.2 (Nat.le_refl _) (by rw [hp]; exact Nat.le_refl _)).trans (hb5.mono (Nat.le_of_lt H4.out.1.lt))⟩
  have hp5 : p ≤ w5.heap.size := Nat.le_trans (Nat.le_of_lt H4.out.1.lt) hb5.size
  obtain ⟨a5, c5, hv5, -⟩ := ho5.bytes
  subst hv5
  clear ho5 hb5 H4
  have H6 : Bx (Bytes (w5.alloc (.cells #[.int .u8 1, .int .u8 2, .int .u8 0, .int .u8 1, .int .u8 97] 5)) (.slice (some ⟨w5.heap.size, 0, none⟩) 5 5) [1, 2, 0, 1, 97]) := Bx.mk (built w5 [1, 2, 0, 1, 97])
  go_wp2_with fail
  refine (same_any [1, 2, 0, 1, 97] [1, 2, 0, 1, 97] _ _ _ (H5.out.1.later (below_a _)) H6.out (by simp) (by simp)).mono ?_
  rintro e w6 ⟨rfl, hb6⟩
  obtain ⟨n6, rfl⟩ := hb6
  have H7 : Bx (Below p w ((w5.alloc (.cells #[.int .u8 1, .int .u8 2, .int .u8 0, .int .u8 1, .int .u8 97] 5)).drewN n6)) := Bx.mk (below_drewN (H5.out.2.alloc hp5 _) _)
  rw [decide_eq_true rfl]
  go_wp2
  go_ret
  exact ⟨rfl, H7.out⟩
end Go.Proofs.Ytgbhckoaabnblaa
