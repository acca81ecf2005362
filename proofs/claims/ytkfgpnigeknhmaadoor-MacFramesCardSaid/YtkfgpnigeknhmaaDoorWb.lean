/-
  The walk of the words of a block.
-/
import Derived.Test.YtkfgpnigeknhmaaDoorWa
import Derived.Test.YtkfgpnigeknhmaaDoorMem
import Derived.Deep.RegionHeld3
import Derived.Deep.DrawnRows
import Derived.Deep.Cut
namespace Go.Proofs.YtkfgpnigeknhmaaDoor
open Go Go.RowKit
/-- 'x[l:]' of an array of 64 bytes, l inside it. -/
theorem sl64 (W : World) (b o n : Nat) (l : Int) (hl : l = (n : Int)) (hn : n < 64) :
    (Instr.sliceAt 37 (.pointer (some ⟨b, o, none⟩)) (some (.int .i64 l)) none none).run Tryd.prog W = .ok (.slice (some ⟨b, o + n, none⟩) (64 - n) (64 - n)) W := by
  subst hl
  have ha : Tryd.prog.arrayLen 37 = 64 := by kernel_rfl
  have he : Tryd.prog.elem 37 = 5 := by kernel_rfl
  have hs : ((sizeOf 5).run Tryd.prog W) = .ok 1 W := by kernel_rfl
  rw [run_sliceAt_array_l W 37 ⟨b, o, none⟩ (by rw [ha, he]; exact Tryd.underlying37) .i64 (n : Int) (by omega) (by rw [ha]; omega)]
  rw [he, hs, ha]
  have h1 : ¬ (64 = n) := by omega
  simp [slicedAt, h1, Result.andThen, Addr.add]
theorem sl64z (W : World) (b n : Nat) (l : Int) (hl : l = (n : Int)) (hn : n < 64) :
    (Instr.sliceAt 37 (.pointer (some ⟨b, 0, none⟩)) (some (.int .i64 l)) none none).run Tryd.prog W = .ok (.slice (some ⟨b, n, none⟩) (64 - n) (64 - n)) W := by
  have := sl64 W b 0 n l hl hn
  rwa [Nat.zero_add] at this
/-- The memory while a block's words are made. -/
def Spr (w : World) (bs : List UInt8) (l : List (BitVec 32)) (wr : World) : Prop :=
  Below w.heap.size w wr ∧ wr.heap.size = w.heap.size + 3 ∧ wr.heap[w.heap.size]? = some (.cells (u8s bs) 37 (0, 0)) ∧
  wr.heap[w.heap.size + 1]? = some (.cells (u32s (List.replicate 64 0)) 29 (0, 0)) ∧ wr.heap[w.heap.size + 1 + 1]? = some (.cells (u32s l) 29 (0, 0))
theorem Spr.step {w wr : World} {bs : List UInt8} {l : List (BitVec 32)} (h : Spr w bs l wr) (n k : Nat) (x : BitVec 32) :
    Spr w bs (l.set k x) ((wr.drewN n).setCell ⟨w.heap.size + 1 + 1, k, none⟩ (.int .u32 (uv x))) := by
  obtain ⟨h1, h2, h3, h4, h5⟩ := h
  refine ⟨(below_drewN h1 n).setCell (by simp only []; omega) _, by simpa using h2, ?_, ?_, ?_⟩
  · rw [heap_setCell_other _ _ _ _ (by simp only []; omega)]; exact h3
  · rw [heap_setCell_other _ _ _ _ (by simp only []; omega)]; exact h4
  · rw [heap_setCell_same (wr.drewN n) _ _ _ _ _ h5, u32s_set]
theorem Spr.start (w : World) (bs : List UInt8) : Spr w bs (List.replicate 64 0) (((w.alloc (.cells (u8s bs) 37)).alloc (.cells (u32s (List.replicate 64 0)) 29)).alloc (.cells (u32s (List.replicate 64 0)) 29)) := by
  refine ⟨(((Below.refl _ _).alloc (Nat.le_refl _) _).alloc (by simp) _).alloc (by simp; omega) _, by simp, ?_, ?_, ?_⟩
  · rw [hold _ _ _ (by simp; omega), hold _ _ _ (by simp), hnew _ _ _ rfl]
  · rw [hold _ _ _ (by simp), hnew _ _ _ (by simp)]
  · rw [hnew _ _ _ (by simp)]
theorem Spr.cell {w wr : World} {bs : List UInt8} {l : List (BitVec 32)} (h : Spr w bs l wr) (i : Nat) (hi : i < l.length) :
    wr.cell? ⟨w.heap.size + 1 + 1, i, none⟩ = some (.int .u32 (uv (l.getD i 0))) := by
  rw [cell_of_row _ _ _ _ _ _ h.2.2.2.2]; exact u32s_get _ _ hi
theorem Spr.frozen {w wr : World} {bs : List UInt8} {l : List (BitVec 32)} (h : Spr w bs l wr) (i : Nat) :
    wr.frozen? ⟨w.heap.size + 1 + 1, i, none⟩ = false := frozen_of_row _ _ _ _ _ h.2.2.2.2
theorem sigma_a (x : BitVec 32) (w : World) : Calls Tryd.prog 64 #[.int .u32 (uv x), .int .i64 7, .int .i64 18, .int .i64 3] w fun e w' => e = .returned (.int .u32 (uv (sig x 7 18 3))) ∧ ∃ n, w' = w.drewN n :=
  sigma_any x 7 18 3 w (by omega) (by omega) (by omega) (by omega) (by omega)
theorem sigma_b (x : BitVec 32) (w : World) : Calls Tryd.prog 64 #[.int .u32 (uv x), .int .i64 17, .int .i64 19, .int .i64 10] w fun e w' => e = .returned (.int .u32 (uv (sig x 17 19 10))) ∧ ∃ n, w' = w.drewN n :=
  sigma_any x 17 19 10 w (by omega) (by omega) (by omega) (by omega) (by omega)

theorem set4 {W : World} {B i a b c d : Nat} {x y z u v : Value} (ha : a ≠ i) (hb : b ≠ i) (hc : c ≠ i) (hd : d ≠ i)
    (h : W.cell? ⟨B, a, none⟩ = some x ∧ W.cell? ⟨B, b, none⟩ = some y ∧ W.cell? ⟨B, c, none⟩ = some z ∧ W.cell? ⟨B, d, none⟩ = some u) :
    (W.setCell ⟨B, i, none⟩ v).cell? ⟨B, a, none⟩ = some x ∧ (W.setCell ⟨B, i, none⟩ v).cell? ⟨B, b, none⟩ = some y ∧ (W.setCell ⟨B, i, none⟩ v).cell? ⟨B, c, none⟩ = some z ∧ (W.setCell ⟨B, i, none⟩ v).cell? ⟨B, d, none⟩ = some u := by
  have key : ∀ j, j ≠ i → (W.setCell ⟨B, i, none⟩ v).cell? ⟨B, j, none⟩ = W.cell? ⟨B, j, none⟩ := fun j hj => World.cell?_setCell_other _ _ _ _ (by intro e; injection e with _ e2; exact hj e2.symm)
  rw [key a ha, key b hb, key c hc, key d hd]
  exact h
attribute [local go_sem ↓] Go.wp_at_zero Go.wp_at_succ
set_option maxRecDepth 100000 in
set_option maxHeartbeats 1000000 in
theorem spread_any (bs : List UInt8) (w : World) (hl : bs.length = 64) :
    Calls Tryd.prog 61 #[.agg (u8s bs)] w fun e w' => e = .returned (.agg (u32s (words bs))) ∧ Below w.heap.size w w' := by
  have HL := Bx.mk hl
  clear hl
  go_enter Tryd.func61, Tryd.ntmps61
  go_wp2
  go_loopw [6] (fun i wr => ∃ k : Nat, k ≤ 16 ∧ i = .int .i64 k ∧ Spr w bs (fillW bs k) wr) (fun i _ => 16 - (intOf i).toNat)
  case atStart => exact ⟨0, Nat.zero_le _, rfl, Spr.start w bs⟩
  case round =>
    obtain ⟨k, hk, rfl, hs⟩ := hrel
    by_cases hlt : k < 16
    · have hsl := fun W => sl64z W w.heap.size (4 * k) (4 * (k : Int)) (by omega) (by omega)
      have c0 : wr.cell? ⟨w.heap.size, 4 * k, none⟩ = some (.int .u8 (ub (bs.getD (4 * k) 0))) := by
        rw [cell_of_row _ _ _ _ _ _ hs.2.2.1]; exact u8s_get _ _ (by rw [HL.out]; omega)
      have c1 : wr.cell? ⟨w.heap.size, 4 * k + 1, none⟩ = some (.int .u8 (ub (bs.getD (4 * k + 1) 0))) := by
        rw [cell_of_row _ _ _ _ _ _ hs.2.2.1]; exact u8s_get _ _ (by rw [HL.out]; omega)
      have c2 : wr.cell? ⟨w.heap.size, 4 * k + 2, none⟩ = some (.int .u8 (ub (bs.getD (4 * k + 2) 0))) := by
        rw [cell_of_row _ _ _ _ _ _ hs.2.2.1]; exact u8s_get _ _ (by rw [HL.out]; omega)
      have c3 : wr.cell? ⟨w.heap.size, 4 * k + 3, none⟩ = some (.int .u8 (ub (bs.getD (4 * k + 3) 0))) := by
        rw [cell_of_row _ _ _ _ _ _ hs.2.2.1]; exact u8s_get _ _ (by rw [HL.out]; omega)
      have cw := hs.cell k (by rw [fillW_length]; omega)
      have fw := hs.frozen k
      have HS := Bx.mk hs
      have hg : Bx (Calls Tryd.prog 63 #[.slice (some ⟨w.heap.size, 4 * k, none⟩) (64 - 4 * k) (64 - 4 * k)] wr fun e w' => e = .returned (.int .u32 (uv (blockWord bs k))) ∧ ∃ n, w' = wr.drewN n) :=
        Bx.mk (get32_any w.heap.size (4 * k) (64 - 4 * k) (64 - 4 * k) _ _ _ _ wr (by omega) c0 c1 c2 c3)
      clear hs c0 c1 c2 c3
      go_wp2_with fail
      refine hg.out.mono ?_
      rintro e w1 ⟨rfl, n, rfl⟩
      clear hg
      go_wp2
      go_roundw
      case rel => exact ⟨k + 1, by omega, by go_num, HS.out.step n k _⟩
      case measure => simp [intOf]; omega
    · have ek : k = 16 := by omega
      have HS : Bx (Spr w bs (fillW bs 16) wr) := Bx.mk (ek ▸ hs)
      clear ek
      clear hs
      obtain ⟨k0, rfl⟩ : ∃ k0 : Nat, k0 = k := ⟨_, rfl⟩
      obtain ⟨w0, rfl⟩ : ∃ w0 : World, w0 = wr := ⟨_, rfl⟩
      go_wp2
      go_loopw [5] (fun i wr => ∃ k : Nat, k ≤ 48 ∧ i = .int .i64 (16 + k : Nat) ∧ Spr w bs (moreW bs k) wr) (fun i _ => 64 - (intOf i).toNat)
      case atStart => exact ⟨0, Nat.zero_le _, rfl, HS.out⟩
      case round =>
        clear HS
        obtain ⟨k, hk, rfl, hs⟩ := hrel
        by_cases hlt : k < 48
        · have c0 := hs.cell (16 + k - 16) (by rw [moreW_length]; omega)
          have c1 := hs.cell (16 + k - 15) (by rw [moreW_length]; omega)
          have c2 := hs.cell (16 + k - 7) (by rw [moreW_length]; omega)
          have c3 := hs.cell (16 + k - 2) (by rw [moreW_length]; omega)
          have cw := hs.cell (16 + k) (by rw [moreW_length]; omega)
          have fw := hs.frozen (16 + k)
          have HS := Bx.mk hs
          clear hs
          obtain ⟨x0, hx0⟩ : ∃ x, (moreW bs k).getD (16 + k - 16) 0 = x := ⟨_, rfl⟩
          obtain ⟨x1, hx1⟩ : ∃ x, (moreW bs k).getD (16 + k - 15) 0 = x := ⟨_, rfl⟩
          obtain ⟨x2, hx2⟩ : ∃ x, (moreW bs k).getD (16 + k - 7) 0 = x := ⟨_, rfl⟩
          obtain ⟨x3, hx3⟩ : ∃ x, (moreW bs k).getD (16 + k - 2) 0 = x := ⟨_, rfl⟩
          obtain ⟨x4, hx4⟩ : ∃ x, (moreW bs k).getD (16 + k) 0 = x := ⟨_, rfl⟩
          have HN : Bx (nextWord (moreW bs k) (16 + k) = x0 + sig x1 7 18 3 + x2 + sig x3 17 19 10) := Bx.mk (by unfold nextWord; rw [hx0, hx1, hx2, hx3])
          rw [hx0] at c0
          rw [hx1] at c1
          rw [hx2] at c2
          rw [hx3] at c3
          rw [hx4] at cw
          clear hx0 hx1 hx2 hx3 hx4
          have HS2 : ∀ n, Bx (Spr w bs (moreW bs (k + 1)) ((wr.drewN n).setCell ⟨w.heap.size + 1 + 1, 16 + k, none⟩ (.int .u32 (uv (nextWord (moreW bs k) (16 + k)))))) := fun n => Bx.mk (HS.out.step n (16 + k) (nextWord (moreW bs k) (16 + k)))
          generalize hi : 16 + k = i at *
          have h64 : i < 64 := by omega
          have h16 : 16 ≤ i := by omega
          have HI := Bx.mk hi
          have HK := Bx.mk hlt
          have e16 : IntKind.i64.wrap ((i : Int) - 16) = ((i - 16 : Nat) : Int) := by rw [IntKind.wrap_i64]; omega
          have e15 : IntKind.i64.wrap ((i : Int) - 15) = ((i - 15 : Nat) : Int) := by rw [IntKind.wrap_i64]; omega
          have e7 : IntKind.i64.wrap ((i : Int) - 7) = ((i - 7 : Nat) : Int) := by rw [IntKind.wrap_i64]; omega
          have e2 : IntKind.i64.wrap ((i : Int) - 2) = ((i - 2 : Nat) : Int) := by rw [IntKind.wrap_i64]; omega
          have b16 : ((i - 16 : Nat) : Int) < 64 := by omega
          have b15 : ((i - 15 : Nat) : Int) < 64 := by omega
          have b7 : ((i - 7 : Nat) : Int) < 64 := by omega
          have b2 : ((i - 2 : Nat) : Int) < 64 := by omega
          have bi : (i : Int) < 64 := by omega
          have n16 : i - 16 ≠ i := by omega
          have n15 : i - 15 ≠ i := by omega
          have n7 : i - 7 ≠ i := by omega
          have n2 : i - 2 ≠ i := by omega
          clear hi hk hlt
          go_wp2
          go_region_held3 (fun w' => w'.cell? ⟨w.heap.size + 1 + 1, i - 16, none⟩ = some (.int .u32 (uv x0)) ∧ w'.cell? ⟨w.heap.size + 1 + 1, i - 15, none⟩ = some (.int .u32 (uv x1)) ∧ w'.cell? ⟨w.heap.size + 1 + 1, i - 7, none⟩ = some (.int .u32 (uv x2)) ∧ w'.cell? ⟨w.heap.size + 1 + 1, i - 2, none⟩ = some (.int .u32 (uv x3))) (first | exact set4 n16 n15 n7 n2 ⟨c0, c1, c2, c3⟩ | go_keep)
            (first | (go_at_call 64; (with_reducible refine (sigma_a _ _).mono ?_); rintro e w' ⟨rfl, n, rfl⟩) | (go_at_call 64; (with_reducible refine (sigma_b _ _).mono ?_); rintro e w' ⟨rfl, n, rfl⟩))
          go_wp2
          go_roundw
          case rel =>
            refine ⟨k + 1, by have := HK.out; omega, by have := HI.out; subst this; go_num, ?_⟩
            rw [uv_add, uv_add, uv_add, ← HN.out]
            exact (HS2 _).out
          case measure => simp [intOf]; omega
        · have hk48 : k = 48 := by omega
          rw [hk48] at hs
          clear hk48
          obtain ⟨l, hlw⟩ : ∃ l, moreW bs 48 = l := ⟨_, rfl⟩
          have HW : Bx (words bs = l) := Bx.mk hlw
          have HN : Bx (l.length = 64) := Bx.mk (by rw [← hlw]; exact moreW_length bs 48)
          rw [hlw] at hs
          clear hlw
          have HS := Bx.mk hs
          have HR := Bx.mk hs.2.2.2.2
          have HQ := Bx.mk hs.2.2.2.1
          clear hs
          have HI : Bx ((Tryd.prog.info? 29).map (·.size) = some (u32s (l)).size) := Bx.mk (by rw [u32s_size, HN.out]; kernel_rfl)
          have HT : Bx (wr.there (w.heap.size + 1) 0 (u32s l).size) := Bx.mk (there_row HQ.out 0 _ (by rw [u32s_size, u32s_size, HN.out]; simp))
          have HZ : Bx ((wr.setCells (w.heap.size + 1) 0 (u32s (l)).toList).heap[w.heap.size + 1]? = some (.cells (u32s (l)) 29 (0, 0))) := Bx.mk (heap_setCells_all HQ.out (by rw [u32s_size, u32s_size, HN.out]; simp))
          go_wp2_with (first | (refine wpList_load_row rfl 29 _ rfl (w.heap.size + 1 + 1) (by rfl) _ _ _ _ HR.out Tryd.underlying29 rfl HI.out ?_) | (refine wpList_store_mid rfl 29 _ _ rfl (w.heap.size + 1) 0 _ (by rfl) (by rfl) HT.out HI.out (one_u32s _) ?_))
          refine bodyPost_ret (results_cell_row rfl _ _ (w.heap.size + 1) _ (u32s (l)) _ _ rfl HZ.out Tryd.underlying29 rfl HI.out) rfl ?_
          exact ⟨by rw [HW.out], below_setCells (by omega) _ _ _ _ HS.out.1⟩
end Go.Proofs.YtkfgpnigeknhmaaDoor
