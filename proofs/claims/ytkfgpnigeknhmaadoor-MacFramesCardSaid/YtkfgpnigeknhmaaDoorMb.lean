/-
  The walks of turned, Equal, length and filled.
-/
import Derived.Test.YtkfgpnigeknhmaaDoorMa
namespace Go.Proofs.YtkfgpnigeknhmaaDoor
open Go Go.RowKit
set_option maxRecDepth 100000 in
set_option maxHeartbeats 1000000 in
theorem turned_any (bl : List UInt8) (b : UInt8) (w : World) (hl : bl.length = 64) :
    Calls Tryd.prog 47 #[.agg (u8s bl), .int .u8 (ub b)] w fun e w' => e = .returned (.slice (some ⟨w.heap.size, 0, none⟩) 64 64) ∧ Below w.heap.size w w' ∧ w'.heap[w.heap.size]? = some (.cells (u8s (turn b bl)) 37 (0, 0)) := by
  have HL := Bx.mk hl
  have H0 : Bx (Below w.heap.size w (w.alloc (.cells (u8s bl) 37)) ∧ (w.alloc (.cells (u8s bl) 37)).heap[w.heap.size]? = some (.cells (u8s (trn b bl 0)) 37 (0, 0))) := Bx.mk ⟨below_a _, hnew _ _ _ rfl⟩
  clear hl
  go_enter Tryd.func47, Tryd.ntmps47
  go_wp2
  generalize w.alloc (.cells (u8s bl) 37) = w0 at *
  go_loopw [6] (fun i wr => ∃ k : Nat, k ≤ 64 ∧ i = .int .i64 (k : Int) ∧ Bx (Below w.heap.size w wr ∧ wr.heap[w.heap.size]? = some (.cells (u8s (trn b bl k)) 37 (0, 0)))) (fun i _ => 64 - (intOf i).toNat)
  case atStart => exact ⟨0, by omega, rfl, H0⟩
  case round =>
    clear H0
    obtain ⟨k, hk, rfl, HR⟩ := hrel
    by_cases hlt : k < 64
    · have c1 : wr.cell? ⟨w.heap.size, k, none⟩ = some (.int .u8 (ub ((trn b bl k).getD k 0))) := by rw [cell_of_row _ _ _ _ _ _ HR.out.2]; exact u8s_get _ _ (by rw [trn_length, HL.out]; exact hlt)
      have f1 := frozen_of_row wr w.heap.size k _ _ HR.out.2
      have HS : Bx (Below w.heap.size w (wr.setCell ⟨w.heap.size, k, none⟩ (.int .u8 (ub ((trn b bl k).getD k 0 ^^^ b)))) ∧ (wr.setCell ⟨w.heap.size, k, none⟩ (.int .u8 (ub ((trn b bl k).getD k 0 ^^^ b)))).heap[w.heap.size]? = some (.cells (u8s (trn b bl (k + 1))) 37 (0, 0))) := Bx.mk ⟨HR.out.1.setCell (Nat.le_refl _) _, by
        rw [heap_setCell_same wr _ _ _ _ _ HR.out.2, u8s_set]; rfl⟩
      generalize (trn b bl k).getD k 0 = y at *
      clear HR
      have hk1 : (k : Int) < 64 := by omega
      go_wp2
      go_roundw
      case rel => exact ⟨k + 1, by omega, by go_num, by first | (rw [ub_xor]; exact HS) | (rw [ub_xor, ub_mod]; exact HS)⟩
      case measure => simp [intOf]; omega
    · have ek : k = 64 := by omega
      have HF : Bx (Below w.heap.size w wr ∧ wr.heap[w.heap.size]? = some (.cells (u8s (turn b bl)) 37 (0, 0))) := Bx.mk (by have h := HR.out; rw [ek, trn_all b bl 64 HL.out] at h; exact h)
      clear HR ek
      go_wp2
      go_ret
      exact ⟨rfl, HF.out⟩
theorem row_bytes {w : World} {b : Nat} {l : List UInt8} {t : TypeId} {n : Nat} (h : w.heap[b]? = some (.cells (u8s l) t (0, 0))) (hn : l.length = n) : Bytes w (.slice (some ⟨b, 0, none⟩) n n) l :=
  ⟨_, n, by rw [hn], by omega, (fun h => by cases h), fun _ => ⟨b, 0, rfl, fun j hj => by rw [cell_of_row _ _ _ _ _ _ h, Nat.zero_add]; exact u8s_get _ _ hj⟩⟩
set_option maxRecDepth 100000 in
set_option maxHeartbeats 1000000 in
theorem equal_any (xs bs : List UInt8) (va vb : Value) (w : World) (ha : Bytes w va xs) (hb : Bytes w vb bs) (hl : xs.length ≤ 140737488355328) (hl2 : bs.length ≤ 140737488355328) :
    Calls Tryd.prog 38 #[va, vb] w fun e w' => e = .returned (.bool (decide (xs = bs))) ∧ ∃ n, w' = w.drewN n := by
  have HA := Bx.mk ha
  have HB := Bx.mk hb
  obtain ⟨a, ca, rfl, -⟩ := ha
  obtain ⟨b, cb, rfl, -⟩ := hb
  obtain ⟨n, hn⟩ : ∃ n, xs.length = n := ⟨_, rfl⟩
  obtain ⟨m, hm⟩ : ∃ m, bs.length = m := ⟨_, rfl⟩
  have HN := Bx.mk (And.intro hn hm)
  rw [hn] at HA hl ⊢
  rw [hm] at HB hl2 ⊢
  have hl1 : (n : Int) ≤ 140737488355328 := by omega
  have hl3 : (m : Int) ≤ 140737488355328 := by omega
  clear hn hm
  by_cases hnm : n = m
  · subst hnm
    have t1 : ((n : Int) != (n : Int)) = false := by simp
    go_enter Tryd.func38, Tryd.ntmps38
    go_wp2
    clear t1
    go_loopw [5, 14] (fun u i wr => ∃ k q : Nat, k ≤ n ∧ i = .int .i64 (k : Int) ∧ u = .int .u8 (ub (unl xs bs k)) ∧ wr = w.drewN q) (fun _ i _ => n - (intOf i).toNat)
    case atStart => exact ⟨0, 0, Nat.zero_le _, rfl, rfl, rfl⟩
    case round =>
      obtain ⟨k, q, hk, rfl, rfl, rfl⟩ := hrel
      by_cases hlt : k < n
      · obtain ⟨g, o, rfl, hcell⟩ := HA.out.cell k hlt
        obtain ⟨g2, o2, rfl, hcell2⟩ := HB.out.cell k hlt
        have HU : Bx (unl xs bs (k + 1) = unl xs bs k ||| (xs.getD k 0 ^^^ bs.getD k 0)) := Bx.mk rfl
        generalize unl xs bs k = u0 at *
        generalize xs.getD k 0 = x0 at *
        generalize bs.getD k 0 = y0 at *
        have hk1 : (k : Int) < (n : Int) := by omega
        go_wp2
        go_big_quiet (fail)
        go_wp2
        go_roundw
        case rel => exact ⟨k + 1, _, by omega, by go_num, by rw [HU.out]; first | rw [ub_xor, ub_or] | rw [ub_xor, ub_mod, ub_or] | rw [ub_xor, ub_or, ub_mod], by first | rfl | exact World.drewN_drewN _ _ _⟩
        case measure => simp [intOf]; omega
      · have ek : k = n := by omega
        have HE : Bx ((ub (unl xs bs k) == 0) = decide (xs = bs)) := Bx.mk (by rw [ek]; exact unl_all xs bs n HN.out.1 HN.out.2)
        generalize unl xs bs k = u0 at *
        clear ek
        go_wp2
        go_ret
        exact ⟨by rw [← HE.out]; rfl, q, rfl⟩
  · have t1 : ((n : Int) != (m : Int)) = true := by simp; omega
    have HD : Bx (decide (xs = bs) = false) := Bx.mk (by simp; intro e; exact hnm (by rw [← HN.out.1, ← HN.out.2, e]))
    go_enter Tryd.func38, Tryd.ntmps38
    go_wp2
    go_ret
    exact ⟨by rw [HD.out]; rfl, 0, rfl⟩
theorem len_byte (n k : Nat) : (n : Int) / 2 ^ (8 * k) % 256 = ub (byteOf (BitVec.ofNat 32 n) k) ∨ 4 ≤ k := by
  by_cases h : k < 4
  · left
    unfold ub
    rw [byteOf_toNat, BitVec.toNat_ofNat]
    match k, h with
    | 0, _ => first | (simp; done) | (simp; omega)
    | 1, _ => first | (simp; done) | (simp; omega)
    | 2, _ => first | (simp; done) | (simp; omega)
    | 3, _ => first | (simp; done) | (simp; omega)
  · right; omega
set_option maxRecDepth 100000 in
theorem length_any (n : Nat) (w : World) (hn : n ≤ 140737488355328) : Calls Tryd.prog 56 #[.int .i64 (n : Int)] w fun e w' => e = .returned (.slice (some ⟨w.heap.size, 0, none⟩) 4 4) ∧ Below w.heap.size w w' ∧ Bytes w' (.slice (some ⟨w.heap.size, 0, none⟩) 4 4) (lenB n) := by
  have h3 := (len_byte n 3).resolve_right (by omega)
  have h2 := (len_byte n 2).resolve_right (by omega)
  have h1 := (len_byte n 1).resolve_right (by omega)
  have h0 := (len_byte n 0).resolve_right (by omega)
  simp only [Nat.mul_zero, Int.pow_zero, Nat.reduceMul, Int.reducePow, Int.ediv_one] at h0 h1 h2 h3
  have hn1 : (n : Int) ≤ 140737488355328 := by omega
  go_enter Tryd.func56, Tryd.ntmps56
  go_wp2
  go_ret
  refine ⟨rfl, below_a _, ?_⟩
  exact built w (lenB n)
end Go.Proofs.YtkfgpnigeknhmaaDoor
