/-
  The walks of the document's tables: products of numbers in parts.
-/
import Derived.Test.YtkfgpnigeknhmaaDoorRa
namespace Go.Proofs.YtkfgpnigeknhmaaDoor
open Go Go.RowKit
/-- The memory while a product is made. -/
def Tms (w : World) (a b z : List Nat) (wr : World) : Prop :=
  Below w.heap.size w wr ∧ w.heap.size + 4 ≤ wr.heap.size ∧ wr.heap[w.heap.size]? = some (.cells (u64s a) 94 (0, 0)) ∧ wr.heap[w.heap.size + 1]? = some (.cells (u64s b) 94 (0, 0)) ∧
  wr.heap[w.heap.size + 1 + 1]? = some (.cells (u64s (List.replicate 12 0)) 94 (0, 0)) ∧ wr.heap[w.heap.size + 1 + 1 + 1]? = some (.cells (u64s z) 94 (0, 0))
theorem Tms.drewN {w wr : World} {a b z : List Nat} (h : Tms w a b z wr) (n : Nat) : Tms w a b z (wr.drewN n) := ⟨below_drewN h.1 n, h.2⟩
theorem Tms.step {w wr : World} {a b z : List Nat} (h : Tms w a b z wr) (i x : Nat) : Tms w a b (z.set i x) (wr.setCell ⟨w.heap.size + 1 + 1 + 1, i, none⟩ (.int .u64 (x : Int))) := by
  obtain ⟨h1, h2, h3, h4, h5, h6⟩ := h
  refine ⟨h1.setCell (by simp only []; omega) _, by simpa using h2, ?_, ?_, ?_, ?_⟩
  · rw [heap_setCell_other _ _ _ _ (by simp only []; omega)]; exact h3
  · rw [heap_setCell_other _ _ _ _ (by simp only []; omega)]; exact h4
  · rw [heap_setCell_other _ _ _ _ (by simp only []; omega)]; exact h5
  · rw [heap_setCell_same wr _ _ _ _ _ h6, u64s_set]
theorem zero12 : u64s (List.replicate 12 0) = #[.int .u64 0, .int .u64 0, .int .u64 0, .int .u64 0, .int .u64 0, .int .u64 0, .int .u64 0, .int .u64 0, .int .u64 0, .int .u64 0, .int .u64 0, .int .u64 0] := by kernel_rfl
theorem Tms.start (w : World) (a b : List Nat) : Tms w a b (List.replicate 12 0) ((((w.alloc (.cells (u64s a) 94)).alloc (.cells (u64s b) 94)).alloc (.cells #[.int .u64 0, .int .u64 0, .int .u64 0, .int .u64 0, .int .u64 0, .int .u64 0, .int .u64 0, .int .u64 0, .int .u64 0, .int .u64 0, .int .u64 0, .int .u64 0] 94)).alloc (.cells #[.int .u64 0, .int .u64 0, .int .u64 0, .int .u64 0, .int .u64 0, .int .u64 0, .int .u64 0, .int .u64 0, .int .u64 0, .int .u64 0, .int .u64 0, .int .u64 0] 94)) := by
  refine ⟨((((Below.refl _ _).alloc (Nat.le_refl _) _).alloc (by simp) _).alloc (by simp; omega) _).alloc (by simp; omega) _, by simp, ?_, ?_, ?_, ?_⟩
  · rw [hold _ _ _ (by simp; omega), hold _ _ _ (by simp; omega), hold _ _ _ (by simp), hnew _ _ _ rfl]
  · rw [hold _ _ _ (by simp), hold _ _ _ (by simp), hnew _ _ _ (by simp)]
  · rw [hold _ _ _ (by simp), hnew _ _ _ (by simp), zero12]
  · rw [hnew _ _ _ (by simp), zero12]
/-- At the heads of the inner loop. -/
def InRel (w : World) (a b z0 : List Nat) (i : Nat) (o kk : Value) (wr : World) : Prop :=
  ∃ k over z, i + k ≤ 12 ∧ o = .int .u64 ((over : Nat) : Int) ∧ kk = .int .i64 ((k : Nat) : Int) ∧ RowAt z0 b (a.getD i 0) i k over z ∧ Tms w a b z wr
set_option maxRecDepth 100000 in
set_option maxHeartbeats 1000000 in
theorem times_any (a b : List Nat) (w : World) (ha : Dig a) (hb : Dig b) : Calls Tryd.prog 58 #[.agg (u64s a), .agg (u64s b)] w fun e w' => ∃ z, e = .returned (.agg (u64s z)) ∧ (Dig z ∧ wor z = wor a * wor b % 65536 ^ 12) ∧ Below w.heap.size w w' := by
  have HA := Bx.mk ha
  have HB := Bx.mk hb
  have H0 : Bx (Tms w a b (List.replicate 12 0) ((((w.alloc (.cells (u64s a) 94)).alloc (.cells (u64s b) 94)).alloc (.cells #[.int .u64 0, .int .u64 0, .int .u64 0, .int .u64 0, .int .u64 0, .int .u64 0, .int .u64 0, .int .u64 0, .int .u64 0, .int .u64 0, .int .u64 0, .int .u64 0] 94)).alloc (.cells #[.int .u64 0, .int .u64 0, .int .u64 0, .int .u64 0, .int .u64 0, .int .u64 0, .int .u64 0, .int .u64 0, .int .u64 0, .int .u64 0, .int .u64 0, .int .u64 0] 94))) := Bx.mk (Tms.start w a b)
  clear ha hb
  go_enter Tryd.func58, Tryd.ntmps58
  go_wp2
  go_loopw [6] (fun ii wr => ∃ i : Nat, i ≤ 12 ∧ ii = .int .i64 i ∧ Bx (∃ z, TimAt a b i z ∧ Tms w a b z wr)) (fun ii _ => 12 - (intOf ii).toNat)
  case atStart => exact ⟨0, Nat.zero_le _, rfl, Bx.mk ⟨_, TimAt.start a b, H0.out⟩⟩
  case round =>
    clear H0
    obtain ⟨i, hi, rfl, HZ⟩ := hrel
    by_cases hlt : i < 12
    · obtain ⟨z0, ht, hm⟩ := HZ.out
      have HT := Bx.mk ht
      have HM : Bx (InRel w a b z0 i (.int .u64 0) (.int .i64 0) wr) := Bx.mk ⟨0, 0, z0, by omega, rfl, rfl, RowAt.start _ _ _ _ ht.1, hm⟩
      clear ht hm HZ
      have hi1 : (i : Int) < 12 := by omega
      obtain ⟨wo, rfl⟩ : ∃ wo : World, wo = wr := ⟨_, rfl⟩
      go_wp2
      go_loopw [7, 8] (fun o kk wr => InRel w a b z0 i o kk wr) (fun _ kk _ => 12 - (intOf kk).toNat)
      case atStart => exact HM.out
      case round =>
        clear HM
        obtain ⟨k, over, z, hk, rfl, rfl, hr, hm⟩ := hrel
        have HR := Bx.mk hr
        have HM := Bx.mk hm
        by_cases hkt : i + k < 12
        · have c1 : wr.cell? ⟨w.heap.size + 1 + 1 + 1, i + k, none⟩ = some (.int .u64 ((z.getD (i + k) 0 : Nat) : Int)) := by rw [cell_of_row _ _ _ _ _ _ hm.2.2.2.2.2]; exact u64s_get _ _ (by rw [hr.dig.1]; exact hkt)
          have c2 : wr.cell? ⟨w.heap.size, i, none⟩ = some (.int .u64 ((a.getD i 0 : Nat) : Int)) := by rw [cell_of_row _ _ _ _ _ _ hm.2.2.1]; exact u64s_get _ _ (by rw [HA.out.1]; omega)
          have c3 : wr.cell? ⟨w.heap.size + 1, k, none⟩ = some (.int .u64 ((b.getD k 0 : Nat) : Int)) := by rw [cell_of_row _ _ _ _ _ _ hm.2.2.2.1]; exact u64s_get _ _ (by rw [HB.out.1]; omega)
          have f1 : wr.frozen? ⟨w.heap.size + 1 + 1 + 1, i + k, none⟩ = false := frozen_of_row _ _ _ _ _ hm.2.2.2.2.2
          have HN := Bx.mk (HR.out.step HB.out.1 hkt (HA.out.2 i) (HB.out.2 k))
          have b1 := hr.dig.2 (i + k)
          have b2 := HA.out.2 i
          have b3 := HB.out.2 k
          have b4 := hr.small
          clear hr hm
          obtain ⟨x, hx⟩ : ∃ x, z.getD (i + k) 0 = x := ⟨_, rfl⟩
          obtain ⟨y, hy⟩ : ∃ y, a.getD i 0 = y := ⟨_, rfl⟩
          obtain ⟨u, hu⟩ : ∃ u, b.getD k 0 = u := ⟨_, rfl⟩
          rw [hx] at c1 HN b1
          rw [hy] at c2 HN b2
          rw [hu] at c3 HN b3
          have HY := Bx.mk hy
          clear hx hy hu
          have hmul : y * u ≤ 65535 * 65535 := Nat.mul_le_mul (by omega) (by omega)
          have hmi : (y : Int) * (u : Int) ≤ 4294836225 := by rw [← Int.natCast_mul]; omega
          have hmp : 0 ≤ (y : Int) * (u : Int) := by rw [← Int.natCast_mul]; omega
          have b1' : (x : Int) ≤ 65535 := by omega
          have b4' : (over : Int) ≤ 65535 := by omega
          have k1 : (i : Int) + (k : Int) < 12 := by omega
          have k2 : (k : Int) < 12 := by omega
          have wik : IntKind.i64.wrap ((i : Int) + (k : Int)) = (i : Int) + (k : Int) := IntWalk.i64_in _ (by omega)
          have tik : ((i : Int) + (k : Int)).toNat = i + k := by omega
          have wmu : IntKind.u64.wrap ((y : Int) * (u : Int)) = (y : Int) * (u : Int) := IntWalk.u64_in _ (by omega)
          have wov : IntKind.u64.wrap ((over : Int) + (x : Int)) = (over : Int) + (x : Int) := IntWalk.u64_in _ (by omega)
          have wsu : IntKind.u64.wrap ((over : Int) + (x : Int) + (y : Int) * (u : Int)) = (over : Int) + (x : Int) + (y : Int) * (u : Int) := IntWalk.u64_in _ (by omega)
          go_wp2
          go_quiet (fail)
          clear wik tik wmu wov wsu
          go_wp2
          go_roundw
          case rel =>
            have e : (over : Int) + (x : Int) + (y : Int) * (u : Int) = ((over + x + y * u : Nat) : Int) := by rw [Int.natCast_add, Int.natCast_add, Int.natCast_mul]
            rw [e]
            refine ⟨k + 1, _, _, by omega, ?_, by go_num, by rw [HY.out]; exact HN.out, ?_⟩
            · congr 1
            · have := (HM.out.drewN nq).step (i + k) ((over + x + y * u) % 65536)
              exact this
          case measure => simp [intOf]; omega
        · have HF : Bx (∃ z, TimAt a b (i + 1) z ∧ Tms w a b z wr) := Bx.mk ⟨z, HT.out.step HA.out.1 hlt (by have h := HR.out; rw [show k = 12 - i by omega] at h; exact h), HM.out⟩
          clear HM HR hr hm
          go_wp2
          go_roundw
          case rel => exact ⟨i + 1, by omega, by go_num, HF⟩
          case measure => simp [intOf]; omega
    · obtain ⟨z, ht, hm⟩ := HZ.out
      have HD : Bx (Dig z ∧ wor z = wor a * wor b % 65536 ^ 12) := Bx.mk ⟨ht.1, by rw [show i = 12 by omega] at ht; exact ht.done HA.out.1⟩
      have HM := Bx.mk hm
      clear ht hm HZ
      have HI : Bx ((Tryd.prog.info? 94).map (·.size) = some (u64s z).size) := Bx.mk (by rw [u64s_size, HD.out.1.1]; kernel_rfl)
      have HT : Bx (wr.there (w.heap.size + 1 + 1) 0 (u64s z).size) := Bx.mk (there_row HM.out.2.2.2.2.1 0 _ (by rw [u64s_size, u64s_size, HD.out.1.1]; simp))
      have HY : Bx ((wr.setCells (w.heap.size + 1 + 1) 0 (u64s z).toList).heap[w.heap.size + 1 + 1]? = some (.cells (u64s z) 94 (0, 0))) := Bx.mk (heap_setCells_all HM.out.2.2.2.2.1 (by rw [u64s_size, u64s_size, HD.out.1.1]; simp))
      go_wp2_with (first | (refine wpList_load_row rfl 94 _ rfl (w.heap.size + 1 + 1 + 1) (by rfl) _ _ _ _ HM.out.2.2.2.2.2 Tryd.underlying94 rfl HI.out ?_) | (refine wpList_store_mid rfl 94 _ _ rfl (w.heap.size + 1 + 1) 0 _ (by rfl) (by rfl) HT.out HI.out (one_u64s _) ?_))
      refine bodyPost_ret (results_cell_row rfl _ _ (w.heap.size + 1 + 1) _ (u64s z) _ _ rfl HY.out Tryd.underlying94 rfl HI.out) rfl ?_
      exact ⟨z, rfl, HD.out, below_setCells (by omega) _ _ _ _ HM.out.1⟩
end Go.Proofs.YtkfgpnigeknhmaaDoor
